import PyProof.Rows.All
import Wide.All
import OpenK.AllK
import Wide.FinOn
import KE.OsRunLaw
import PySem.Challenge.RW_anchoredits_k54_whole_windows_and_their
import HandS.Base
import HandS.Call
import HandS.List
import HandS.Comp
import HandS.Ends
import HandS.Text
import HandS.Words
import HandS.StrMore
import HandS.ForMost
import HandS.Codes
import HandS.Replace
import HandS.FStrTup
import PyProof.StrBlock2
import HandS.Exc
import HandS.ExcInit
import HandS.ExcIs
import HandS.ExcField
import KE.KExcIs
import HandS.IsInst
import HandS.Zip
import HandS.Nested
import HandS.OwnEq
import HandS.More
import HandS.Star
import HandS.ClsMeth
import HandS.Property
import HandS.Iter
import HandS.Zip0
import KE.GoesMore
import KE.GoesEnum
import HandS.NoneIn
import PyProof.StrLawsRepr
import HandS.EndTab
import HandS.ListEq
import KE.LtData
import KE.KTryMore
import KE.KRevSl
import HandS.Style
import HandS.TupAny
import PyProof.EnumMake
import HandS.DictComp
import HandS.RevRange
import HandS.Conv
import KE.DataMinKey
import HandS.SortKw
import KE.DataMinMax
import HandS.Flt
import HandS.FltList
import HandS.Flow
import PyProof.NeKinds
import PyProof.ListStr
import PyProof.CollectStr
import HandS.Strs
import HandS.ExcValue
import PyProof.Rows.SortShellAny
set_option Elab.async false
set_option maxRecDepth 100000
set_option linter.all false
namespace Vk
open PySem PySem.W PyProof.Rows
def Triv {P : Prop} (_ : P) : Prop := True
@[irreducible] def Al (P : Prop) : Prop := P
theorem al {P : Prop} (p : Al P) : P := by unfold Al at p; exact p
theorem drop_ {P : Prop} (p : Al P) (_ : Triv p) : P := al p
set_option maxHeartbeats 0 in
theorem hd : True :=
  haveI x : PySem.Challenge.rw_anchoredits_k54_whole_windows_and_their.Holds := by
    w_on; o_law; k_headL; all_goals (apply_rules (newGoals := .nonDependentOnly) (transparency := .reducible) (maxDepth := 1) only [drop_]; exact trivial)
  trivial
end Vk
#print axioms Vk.hd
set_option Elab.async false
set_option maxRecDepth 100000
set_option linter.all false
namespace Vk
open PySem PySem.W PySem.Calls PyProof.Rows
abbrev hdR : OpenRow := OpenLaw.row PySem.Challenge.rw_anchoredits_k54_whole_windows_and_their
abbrev hdP : Program := PySem.Challenge.pw_anchoredits_k54_whole_windows_and_their
def hdLo : List PySem.Str := ["Edit", "Once", "First", "Perhaps", "Every", "AtOnce"]
noncomputable def hdEnd (w : World) (os : OsState) : Option SharedT := HeadRun.endF (HeadRun.stepQ (HeadRun.denQ HeadRun.tabQ) hdP w) 10988 hdP w os
noncomputable abbrev hdXt : Shared → Bool := fun s => xlAt hd.view_39 [] s && recOk (RowW.records hdR.toRowW) s
theorem hdRunL (w : World) (os : OsState) : (hdEnd w os).map (fun s => HeadRun.looksF hdP (boot_heap w.params) s.abs) = some true := by kernel_rfl
theorem hdRunS0 (w : World) (os : OsState) : (hdEnd w os).map (fun s => (HeadRun.seenQ hd.view_39 hdLo (importedModules hdP.main.body) hdXt s.abs).1) = some (openGood hd.view_39 hdLo).1 := by kernel_rfl
theorem hdRunS1 (w : World) (os : OsState) : (hdEnd w os).map (fun s => ((HeadRun.seenQ hd.view_39 hdLo (importedModules hdP.main.body) hdXt s.abs).2.1, (HeadRun.seenQ hd.view_39 hdLo (importedModules hdP.main.body) hdXt s.abs).2.2.1)) = some ((openGood hd.view_39 hdLo).2.1, (openGood hd.view_39 hdLo).2.2.1) := by kernel_rfl
theorem hdRunS2 (w : World) (os : OsState) : (hdEnd w os).map (fun s => ((HeadRun.seenQ hd.view_39 hdLo (importedModules hdP.main.body) hdXt s.abs).2.2.2.1, (HeadRun.seenQ hd.view_39 hdLo (importedModules hdP.main.body) hdXt s.abs).2.2.2.2.1, (HeadRun.seenQ hd.view_39 hdLo (importedModules hdP.main.body) hdXt s.abs).2.2.2.2.2.1, (HeadRun.seenQ hd.view_39 hdLo (importedModules hdP.main.body) hdXt s.abs).2.2.2.2.2.2.1, (HeadRun.seenQ hd.view_39 hdLo (importedModules hdP.main.body) hdXt s.abs).2.2.2.2.2.2.2.1, (HeadRun.seenQ hd.view_39 hdLo (importedModules hdP.main.body) hdXt s.abs).2.2.2.2.2.2.2.2)) = some ((openGood hd.view_39 hdLo).2.2.2.1, (openGood hd.view_39 hdLo).2.2.2.2.1, (openGood hd.view_39 hdLo).2.2.2.2.2.1, (openGood hd.view_39 hdLo).2.2.2.2.2.2.1, (openGood hd.view_39 hdLo).2.2.2.2.2.2.2.1, (openGood hd.view_39 hdLo).2.2.2.2.2.2.2.2) := by kernel_rfl
def hdAs : List Addr := [nat_lit 2, nat_lit 3, nat_lit 15, nat_lit 17, nat_lit 18, nat_lit 20, nat_lit 21, nat_lit 22, nat_lit 24, nat_lit 25, nat_lit 27, nat_lit 28, nat_lit 29, nat_lit 31, nat_lit 32, nat_lit 34, nat_lit 35, nat_lit 36, nat_lit 43, nat_lit 45, nat_lit 46, nat_lit 48, nat_lit 49, nat_lit 50, nat_lit 51, nat_lit 52, nat_lit 53, nat_lit 56, nat_lit 63, nat_lit 65, nat_lit 66, nat_lit 68, nat_lit 69, nat_lit 70, nat_lit 71, nat_lit 72, nat_lit 73, nat_lit 76, nat_lit 83, nat_lit 85, nat_lit 86, nat_lit 88, nat_lit 89, nat_lit 90, nat_lit 91, nat_lit 92, nat_lit 93, nat_lit 96, nat_lit 103, nat_lit 105, nat_lit 106, nat_lit 108, nat_lit 109, nat_lit 110, nat_lit 111, nat_lit 112, nat_lit 113, nat_lit 116, nat_lit 123, nat_lit 125, nat_lit 126, nat_lit 128, nat_lit 129, nat_lit 130, nat_lit 131, nat_lit 132, nat_lit 133, nat_lit 136, nat_lit 143, nat_lit 145, nat_lit 146, nat_lit 148, nat_lit 149, nat_lit 150, nat_lit 151, nat_lit 152, nat_lit 153, nat_lit 156, nat_lit 163, nat_lit 165, nat_lit 166, nat_lit 168, nat_lit 169, nat_lit 170, nat_lit 171, nat_lit 172, nat_lit 173, nat_lit 176, nat_lit 178, nat_lit 179, nat_lit 181, nat_lit 182, nat_lit 183, nat_lit 185, nat_lit 186, nat_lit 188, nat_lit 189, nat_lit 190, nat_lit 192, nat_lit 193, nat_lit 195, nat_lit 196, nat_lit 197, nat_lit 199, nat_lit 200, nat_lit 202, nat_lit 203, nat_lit 204, nat_lit 206, nat_lit 207, nat_lit 209, nat_lit 210, nat_lit 211, nat_lit 213, nat_lit 214, nat_lit 216, nat_lit 217, nat_lit 225, nat_lit 226, nat_lit 227, nat_lit 228, nat_lit 229, nat_lit 232, nat_lit 239, nat_lit 241, nat_lit 242, nat_lit 244, nat_lit 245, nat_lit 246, nat_lit 248, nat_lit 249, nat_lit 251, nat_lit 252, nat_lit 253, nat_lit 254, nat_lit 256, nat_lit 257, nat_lit 259, nat_lit 260, nat_lit 261, nat_lit 262, nat_lit 264, nat_lit 265, nat_lit 267, nat_lit 268, nat_lit 269, nat_lit 270, nat_lit 271, nat_lit 274, nat_lit 281, nat_lit 283, nat_lit 284, nat_lit 286, nat_lit 287, nat_lit 288, nat_lit 290, nat_lit 291, nat_lit 293, nat_lit 294, nat_lit 295, nat_lit 296, nat_lit 298, nat_lit 299, nat_lit 301, nat_lit 302, nat_lit 303, nat_lit 304, nat_lit 306, nat_lit 307, nat_lit 309, nat_lit 310, nat_lit 311, nat_lit 312, nat_lit 313, nat_lit 316, nat_lit 323, nat_lit 325, nat_lit 326, nat_lit 328, nat_lit 329, nat_lit 330, nat_lit 332, nat_lit 333, nat_lit 335, nat_lit 336, nat_lit 337, nat_lit 338, nat_lit 340, nat_lit 341, nat_lit 343, nat_lit 344, nat_lit 345, nat_lit 346, nat_lit 348, nat_lit 349, nat_lit 351, nat_lit 352, nat_lit 353, nat_lit 354, nat_lit 355, nat_lit 358, nat_lit 365, nat_lit 367, nat_lit 368, nat_lit 370, nat_lit 371, nat_lit 372, nat_lit 374, nat_lit 375, nat_lit 377, nat_lit 378, nat_lit 379, nat_lit 380, nat_lit 382, nat_lit 383, nat_lit 385, nat_lit 386, nat_lit 387, nat_lit 388, nat_lit 390, nat_lit 391, nat_lit 393, nat_lit 394, nat_lit 395, nat_lit 396, nat_lit 397, nat_lit 400, nat_lit 407, nat_lit 409, nat_lit 410, nat_lit 412, nat_lit 413, nat_lit 414, nat_lit 416, nat_lit 417, nat_lit 419, nat_lit 420, nat_lit 421, nat_lit 422, nat_lit 424, nat_lit 425, nat_lit 427, nat_lit 428, nat_lit 429, nat_lit 430, nat_lit 431, nat_lit 434, nat_lit 436, nat_lit 437, nat_lit 439, nat_lit 440, nat_lit 441, nat_lit 443, nat_lit 444, nat_lit 446, nat_lit 447, nat_lit 448, nat_lit 451, nat_lit 452, nat_lit 453, nat_lit 455, nat_lit 456, nat_lit 458, nat_lit 459, nat_lit 460, nat_lit 462, nat_lit 463, nat_lit 465, nat_lit 466, nat_lit 467, nat_lit 469, nat_lit 470, nat_lit 472, nat_lit 473, nat_lit 474, nat_lit 476, nat_lit 477, nat_lit 479, nat_lit 480, nat_lit 481, nat_lit 484, nat_lit 485, nat_lit 486, nat_lit 488, nat_lit 489, nat_lit 491, nat_lit 492, nat_lit 493, nat_lit 495, nat_lit 496, nat_lit 498, nat_lit 499, nat_lit 500, nat_lit 502, nat_lit 503, nat_lit 505, nat_lit 506, nat_lit 507, nat_lit 509, nat_lit 510, nat_lit 512, nat_lit 513, nat_lit 514, nat_lit 516, nat_lit 517, nat_lit 519, nat_lit 520, nat_lit 521, nat_lit 524, nat_lit 525, nat_lit 526, nat_lit 528, nat_lit 529, nat_lit 531, nat_lit 532, nat_lit 533, nat_lit 536, nat_lit 537, nat_lit 538, nat_lit 540, nat_lit 541, nat_lit 543, nat_lit 544, nat_lit 545, nat_lit 547, nat_lit 548, nat_lit 550, nat_lit 551, nat_lit 552, nat_lit 554, nat_lit 555, nat_lit 557, nat_lit 558, nat_lit 559, nat_lit 561, nat_lit 562, nat_lit 564, nat_lit 565, nat_lit 566, nat_lit 568, nat_lit 569, nat_lit 571, nat_lit 572, nat_lit 573, nat_lit 575, nat_lit 576, nat_lit 578, nat_lit 579, nat_lit 580, nat_lit 582, nat_lit 583, nat_lit 585, nat_lit 586, nat_lit 587, nat_lit 590, nat_lit 591, nat_lit 592, nat_lit 595, nat_lit 596, nat_lit 597, nat_lit 599, nat_lit 600, nat_lit 602, nat_lit 603, nat_lit 604, nat_lit 607, nat_lit 608, nat_lit 609, nat_lit 611, nat_lit 612, nat_lit 614, nat_lit 615, nat_lit 616, nat_lit 618, nat_lit 619, nat_lit 621, nat_lit 622, nat_lit 623, nat_lit 626, nat_lit 627, nat_lit 628, nat_lit 630, nat_lit 631, nat_lit 633, nat_lit 634, nat_lit 635, nat_lit 637, nat_lit 638, nat_lit 640, nat_lit 641, nat_lit 642, nat_lit 645, nat_lit 646, nat_lit 647, nat_lit 649, nat_lit 650, nat_lit 652, nat_lit 653, nat_lit 654, nat_lit 657, nat_lit 658, nat_lit 659, nat_lit 662, nat_lit 663]
theorem hdRunA (w : World) (os : OsState) : (hdEnd w os).map (fun s => hdAs.map (HeadRun.getT s)) = some ((hd.heap_39 w.params).map fun x => some x.2) := by kernel_rfl
theorem hdEk : ∀ P, hdAs = (hd.heap_39 P).map (·.1) := fun _ => by kernel_rfl
theorem hdRun (w : World) (os : OsState) : (HeadRun.endF (HeadRun.stepQ (HeadRun.denQ HeadRun.tabQ) hdP w) 10988 hdP w os).map (fun s => (HeadRun.looksF hdP (boot_heap w.params) s.abs, HeadRun.seenQ hd.view_39 hdLo (importedModules hdP.main.body) hdXt s.abs, hdAs.map (HeadRun.getT s))) = some (true, openGood hd.view_39 hdLo, (hd.heap_39 w.params).map fun x => some x.2) := by
  have rL := hdRunL w os
  have rA := hdRunA w os
  have r0 := hdRunS0 w os
  have r1 := hdRunS1 w os
  have r2 := hdRunS2 w os
  show (hdEnd w os).map _ = _
  generalize hdEnd w os = e at *
  cases e with
  | none => cases rL
  | some s =>
    have qL := Option.some.inj rL
    have qA := Option.some.inj rA
    have z0 := Option.some.inj r0
    have z1 := Option.some.inj r1
    have z2 := Option.some.inj r2
    have q0 := z0
    obtain ⟨q1, q2⟩ := Prod.mk.inj z1
    obtain ⟨q3, z2⟩ := Prod.mk.inj z2
    obtain ⟨q4, z2⟩ := Prod.mk.inj z2
    obtain ⟨q5, z2⟩ := Prod.mk.inj z2
    obtain ⟨q6, z2⟩ := Prod.mk.inj z2
    obtain ⟨q7, q8⟩ := Prod.mk.inj z2
    exact congrArg some (Prod.ext qL (Prod.ext (Prod.ext q0 (Prod.ext q1 (Prod.ext q2 (Prod.ext q3 (Prod.ext q4 (Prod.ext q5 (Prod.ext q6 (Prod.ext q7 q8)))))))) qA))
theorem hdLeft : LeftO hdP hd.view_39 hdLo hdXt (Hook.obs (kHook hd.heap_39 hdAs hdEk)) (Hook.val (kHook hd.heap_39 hdAs hdEk)) 11688 true :=
  HeadRun.left_oneK (M := 10988) (by kernel_rfl) (by rfl) (fun s => by kernel_rfl) (by rfl) hdRun
end Vk
set_option Elab.async false
set_option maxRecDepth 100000
set_option linter.all false
namespace Vk
open PySem PySem.Spec PyProof.Rows L2
/-! ## defs that may show values: no guard is under way -/
structure FnG (P : Program) (w : World) (K : PySem.W.Frag) (mg : Str → Option Value) (base : Heap) (CX : CXT) (k : Nat) (f : Addr) (fd : FuncData) (ps : List Str) (sp : Sp) : Prop where
  len : ∀ vs H Q E, sp vs H Q E → vs.length = ps.length
  run : ∀ (A : Around) (outer : List Env) (s : Shared) (H : Hp) (args : Args) (us : List Value) (vs : List V) (Q : VK) (E : XK), A.guards = some [] → Room k A → Env0 P w K mg base A outer s H → BindsTo s fd args (ps.zip us) → Vals vs us → sp vs H Q E →
    codeAny (model P w) A (.call (.ref f) args) (CR CX outer P w H s Q E) s
theorem FnG.of {P : Program} {w : World} {K : PySem.W.Frag} {mg : Str → Option Value} {base : Heap} {CX : CXT} {k : Nat} {f : Addr} {fd : FuncData} {ps : List Str} {sp : Sp} (F : FnOk P w K mg base CX k f fd ps sp) : FnG P w K mg base CX k f fd ps sp :=
  ⟨F.len, fun A outer s H args us vs Q E _ => F.run A outer s H args us vs Q E⟩
section
variable {P : Program} {w : World} {K : PySem.W.Frag} {mg : Str → Option Value} {base : Heap}
theorem okG {CX : CXT} {x qual : Str} {st : Stmt} {f : Addr} {fd : FuncData} {N ps : List Str} {k : Nat} {sp : Sp} (F : Fun K x qual st f fd) (S : FnScope N ps (defScope st)) (hlen : ∀ vs H Q E, sp vs H Q E → vs.length = ps.length)
    (hbody : ∀ (cdv : Value) (A : Around) (outer : List Env) (s : Shared) (H : Hp) (vs : List V) (Q : VK) (E : XK), A.guards = some [] → Room k (A.deeper (envOfC qual (defScope st) s.heap.objs.size f cdv)) → sp vs H Q E →
      ∃ t, PSs (cxOf CX P w K mg base N qual (defScope st) f cdv A outer s H E) (defBody st) t ∧ t { nx := fun _ H' => Q .non H', rt := Q } (start N vs) H) : FnG P w K mg base CX (k + 1) f fd ps sp := by
  obtain ⟨oc, od, kV, doc, pm, an, cdv, ct, osl, rfl, lk, hcd⟩ := F.ex
  refine ⟨hlen, fun A outer s H args us vs Q E hg hr e0 hb r hsp => ?_⟩
  have hvl := hlen _ _ _ _ hsp
  have KX := e0.mod.kin.keeps (fun b o e => (e0.bs b o e).1 : ∀ b o, base.get? b = some o → s.heap.get? b = some o)
  have noLim := e0.mod.nolimit.keeps (fun b o e => (e0.bs b o e).1 : ∀ b o, base.get? b = some o → s.heap.get? b = some o)
  have kinds : ∀ y ∈ ps.zip us, (defScope st).names.lookup y.1 = some .local ∨ ((defScope st).names.lookup y.1 = some .cell ∧ ((cellsFrom (s.heap.objs.size + 1) (defScope st).names []).lookup y.1).isSome = true) := by
    rintro ⟨n, v⟩ hy
    have hy1 := (List.of_mem_zip hy).1
    cases S.par n hy1 with
    | inl q => exact Or.inl q
    | inr q => exact Or.inr (And.intro q (PySem.W.cellsFrom_some _ _ _ (Or.inl q)))
  refine codeAny_call_function hr.depth (KX f _ lk) rfl S.co S.gen rfl (PySem.W.codeRec_of KX hcd) (hb _ _ _ _ (wpAny_newFunctionEnv_cells S.kind kinds fun env he s1 x => ?_))
  cases he
  refine And.intro (noLim.keeps x.toInCall.keep) (codeAny_func ?_)
  obtain ⟨t, ht, hq⟩ := hbody cdv A outer s H vs Q E hg (hr.deeper _) hsp
  have I0 := inv_start (CX := CX) (E := E) S hr.hd e0 hvl r x
  refine wpAny_mono (ht.run [] s1 (start N vs) H _ I0 hq) (fun fl s2 hs => ?_) (fun e s2 hs => hs)
  have close : ∀ {σ2 : L2.St} {H2 : Hp} {v : V} {u : Value}, Inv (cxOf CX P w K mg base N qual (defScope st) f cdv A outer s H E) [] σ2 H2 s2 → RelV v u → Q v H2 → CE outer P w H s Q u s2 := by
    intro σ2 H2 v u J rv q
    exact ⟨v, H2, And.intro J.os (And.intro J.bare (And.intro J.base (And.intro J.hok (And.intro rv q))))⟩
  match fl, hs with
  | .ret u, ⟨v, σ2, H2, J, rv, q⟩ => exact close J rv q
  | .next, ⟨σ2, H2, J, q⟩ => exact close (v := V.non) (u := Value.none) J rfl q
  | .brk, ⟨_, _, _, q⟩ => exact q.elim
  | .cont, ⟨_, _, _, q⟩ => exact q.elim
end
section
variable {P : Program} {w : World} {K : PySem.W.Frag} {mg : Str → Option Value} {base : Heap}
theorem okG0 {x qual : Str} {st : Stmt} {f : Addr} {fd : FuncData} {N ps : List Str} {k : Nat} {sp : Sp} (F : Fun K x qual st f fd) (S : FnScope N ps (defScope st)) (hlen : ∀ vs H Q E, sp vs H Q E → vs.length = ps.length)
    (hbody : ∀ (cdv : Value) (A : Around) (outer : List Env) (s : Shared) (H : Hp) (vs : List V) (Q : VK) (E : XK), A.guards = some [] → Room k (A.deeper (envOfC qual (defScope st) s.heap.objs.size f cdv)) → sp vs H Q E →
      ∃ t, PSs (cxOf CX0 P w K mg base N qual (defScope st) f cdv A outer s H E).nox (defBody st) t ∧ t { nx := fun _ H' => Q .non H', rt := Q } (start N vs) H) : FnG P w K mg base CX0 (k + 1) f fd ps sp :=
  okG F S hlen fun cdv A outer s H vs Q E hg hr hsp => match hbody cdv A outer s H vs Q E hg hr hsp with | ⟨t, h, q⟩ => ⟨t, h.nox, q⟩
end
/-- a def of the module by its name -/
structure CalG (P : Program) (w : World) (K : PySem.W.Frag) (mg : Str → Option Value) (base : Heap) (CX : CXT) (k : Nat) (x : Str) (sp : Sp) : Prop where
  ex : ∃ (f : Addr) (fd : FuncData) (ps : List Str), FnG P w K mg base CX k f fd ps sp ∧ mg x = some (.ref f) ∧ PySem.W.keepIn K (.ref f) = true ∧ Binds K fd ps []
section
variable {X : Cx} {CX : CXT} {j k : Nat} {f : Addr} {fd : FuncData} {ps : List Str} {sp : Sp} {E : XK} {x : Str} {p pos : Pos} {e : Expr} {es : List Expr} {t : TA}
theorem run_fnG {pins : List (Addr × Obj)} {σ : L2.St} {H : Hp} {s : Shared} {Q : VK} {us : List Value} {vs : List V} (F : FnG X.prog X.w X.K X.mg X.base CX k f fd ps sp) (hg : X.A.guards = some []) (hr : Room k X.A) (hb : Binds X.K fd ps []) (hx : Passes CX X E)
    (I : Inv X pins σ H s) (r : Vals vs us) (h : sp vs H Q E) : wpAny (model X.prog X.w) X.A (call (.ref f) us) (EP X pins σ Q) X.xe s := by
  have hl : us.length = ps.length := r.length.symm.trans (F.len _ _ _ _ h)
  have b := hb s us I.kIn ((congrArg List.length (List.append_nil us)).trans hl)
  rw [List.append_nil] at b
  refine wpAny_call (codeAny_mono (F.run X.A X.stack s H ⟨us, []⟩ us vs Q E hg hr I.env0 b r h) (fun res s2 hq => ?_))
  match res, hq with
  | .error e, hq => exact hx pins σ H s e s2 I hq
  | .ok (.ret u), hq => exact I.after hq
  | .ok .next, hq => exact hq.elim
  | .ok .brk, hq => exact hq.elim
  | .ok .cont, hq => exact hq.elim
theorem pe_cG (c : CalG X.prog X.w X.K X.mg X.base CX k x sp) (hg : X.A.guards = some []) (hr : Room j X.A) (hk : k ≤ j) (hx : Passes CX X E) (ha : PA X (e :: es) t) (gl : Gl X x := by rfl)
    (hdb : (x == ("__debug__" : Str)) = false := by decide) (he : starEach (e :: es) X.env = (false, eval e X.env) :: starEach es X.env := by rfl) (hpl : (backTo pos (starEach es X.env)).any (·.1) = false := by rfl) :
    PE X (.Call (.Name x p) (e :: es) [] pos) (tCall sp [] E t) := by
  obtain ⟨f, fd, ps, F, hm, kp, hb⟩ := c.ex
  refine ⟨fun pins s σ H Q I h => wpAny_Call_Name_kw (ld_glob I gl hm (PySem.W.callWith_K (h₀ := X.base) I.ok.mod.kin kp (thn (ha.run pos pins s σ H _ I h) fun us s1 hh => ?_) he hpl) hdb)⟩
  obtain ⟨vs, H1, I1, r, q⟩ := hh
  rw [List.append_nil] at q
  exact ⟨I1.kIn, run_fnG F hg (hr.mono hk) hb hx I1 r q⟩
end
/-! ## repr -/
section
variable {X : Cx}
theorem call_reprD (hg : X.A.guards = some []) (hu : X.A.units + 64 < cLine) : CallR X (.builtin "repr") (fun xs H Q => ∃ x d, xs = [x] ∧ Dp X.K H x d ∧ d.showable = true ∧ d.hasDict = false ∧ d.depth ≤ 60 ∧ d.shown.length ≤ sizeLine ∧ Q (.str d.shown) H) := by
  intro pins s σ H xs us Q I r h
  obtain ⟨x, d, rfl, hd, hs, hn, hdp, hz, q⟩ := h
  cases r with
  | cons r1 r2 =>
  cases r2
  obtain ⟨as, rd⟩ := Dp.reads I d x _ hd r1
  cases hd with
  | non => cases r1; exact PySem.P.repr_of_none ⟨V.str _, H, I.tok _, ⟨_, rfl⟩, q⟩
  | bl b => cases r1; exact PySem.P.repr_of_bool ⟨V.str _, H, I.tok _, ⟨_, rfl⟩, q⟩
  | int i =>
    obtain ⟨t, rfl⟩ := r1
    exact PySem.P.repr_of_int (of_decide_eq_true hs) ⟨V.str _, H, I.tok _, ⟨_, rfl⟩, q⟩
  | str z =>
    obtain ⟨t, rfl⟩ := r1
    exact PySem.P.repr_of_str ⟨V.str _, H, I.tok _, ⟨_, rfl⟩, q⟩ hz
  | lst h1 h2 =>
    cases r1
    exact repr_of_reads' rd hs (PyData.noDict_hsm hn) hg (by omega) (fun _ _ e => e) (fun h' u tk hk => ⟨V.str _, H, I.kept hk, ⟨u, rfl⟩, q⟩) hz
  | tup h1 h2 =>
    cases r1
    exact repr_of_reads' rd hs (PyData.noDict_hsm hn) hg (by omega) (fun _ _ e => e) (fun h' u tk hk => ⟨V.str _, H, I.kept hk, ⟨u, rfl⟩, q⟩) hz
end
/-! ## the law's own call -/
theorem lawG {P : Program} {w : World} {K : PySem.W.Frag} {mg mb : Str → Option Value} {CX : CXT} {k : Nat} {fa a : Addr} {fd : FuncData} {x : Str} {sp : Sp} {s1 : Shared} {vs : List Value} {ns : List Int}
    (KX : K.In s1.heap) (gns : s1.heap.Ns mainGlobals mg) (bns : s1.heap.Ns builtinsNs mb) (bbt : ∀ x : Str, x ≠ "__name__" → mb x = bootBuiltins x) (nolim : s1.heap.NoLimit) (gens0 : s1.gens = #[])
    (scr : s1.heap.get? a = some { cls := .type "list", data := .seq vs.toArray }) (hints : IntsAre vs ns) (short : ns.length ≤ sizeLine) (room : Room k callerA)
    (F : ∀ base : Heap, K.In base → base.Ns mainGlobals mg → FnG P w K mg base CX k fa fd [x] sp) (bind1 : ∀ (s : Shared) (u : Value), BindsTo s fd ⟨[u], []⟩ [(x, u)])
    (prom : ∀ H : Hp, Only H → SqL K H a (ns.map V.int) → sp [.ref a] H (fun v _ => v = .bl true) fun _ _ _ => False)
    (noX : ∀ H e s2, CX [] H s1 (fun _ _ _ => False) e s2 → False) :
    codeAny (model P w) callerA (.call (.ref fa) ⟨[.ref a], []⟩) (fun r s2 => r = .ok (.ret (.bool true)) ∧ OldK s1.heap s2.heap ∧ s2.os = s1.os ∧ AllBare s2.gens) s1 := by
  have rel := vals_ints hints
  have main : ∀ H : Hp, Only H → SqL K H a (ns.map V.int) → HOk P w H s1.heap → (∀ b u, H b = some u → b = a) → (∀ u, H a = some u → K.lookup a = none) →
      codeAny (model P w) callerA (.call (.ref fa) ⟨[.ref a], []⟩) (fun r s2 => r = .ok (.ret (.bool true)) ∧ OldK s1.heap s2.heap ∧ s2.os = s1.os ∧ AllBare s2.gens) s1 := by
    intro H only seq ok at1 un1
    have dictFree : ∀ {b : Addr} {o : Obj} {es : Array DictEntry} {ep : Nat}, s1.heap.get? b = some o → o.data = .dict es ep → H b = none := by
      intro b o es ep e d
      match q : H b with
      | none => rfl
      | some u =>
        have eb := at1 b u q
        subst eb
        rw [scr] at e
        cases e
        exact nomatch (show Data.seq vs.toArray _ = Data.dict es ep from d)
    have nsAt : ∀ {b : Addr} {m : Str → Option Value}, s1.heap.Ns b m → (hidT s1.heap H).Ns b m := by
      rintro b m ⟨o, es, ep, e, d, r⟩
      exact ⟨o, es, ep, hidT_get e (dictFree e d), d, r⟩
    have inK : K.In (hidT s1.heap H) := by
      intro b o e
      refine hidT_get (KX b o e) ?_
      match q : H b with
      | none => rfl
      | some u =>
        have eb := at1 b u q
        subst eb
        exact nomatch (un1 u q).symm.trans e
    have limAt : (hidT s1.heap H).NoLimit := match nolim with | ⟨mc, h1, h2⟩ => ⟨mc, nsAt h1, h2⟩
    have mod1 : Mod K mg (hidT s1.heap H) := ⟨inK, nsAt gns, ⟨mb, nsAt bns, bbt⟩, limAt⟩
    have start0 : Env0 P w K mg (hidT s1.heap H) callerA [] s1 H := ⟨rfl, mod1, fun b o => of_hidT, Nat.le_of_eq (hidT_size s1.heap H), trivial, (fun b hb => absurd hb (List.not_mem_nil (a := b))), ok, AllBare.of_eq gens0⟩
    refine codeAny_mono ((F _ inK (nsAt gns)).run callerA [] s1 H ⟨[.ref a], []⟩ [.ref a] [.ref a] _ _ rfl room start0 (bind1 s1 (.ref a)) (.cons rfl .nil) (prom H only seq)) ?_
    intro res s2 h
    match res, h with
    | .error e, h => exact (noX H e s2 h).elim
    | .ok .next, h => exact h.elim
    | .ok .brk, h => exact h.elim
    | .ok .cont, h => exact h.elim
    | .ok (.ret u), ⟨v, H2, os, bare, un, ok2, r2, (hv : v = .bl true)⟩ =>
      cases hv
      have hu : u = Value.bool true := r2
      cases hu
      refine ⟨rfl, OldK.of_keep ?_, os, bare⟩
      intro b o e
      match q : H b with
      | none => exact un.keep b o e q (fun z => nomatch z) (fun z => nomatch z)
      | some u =>
        cases only b with
        | inl z => exact nomatch z.symm.trans q
        | inr z =>
          obtain ⟨ob, xs, z⟩ := z
          have c1 := (ok b _ z).1
          have c2 := (ok2 b _ (un.frzs b ob _ z)).1
          exact c2.trans (c1.symm.trans e)
  match hk : K.lookup a with
  | some o =>
    have e := (KX a o hk).symm.trans scr
    cases e
    refine main (fun _ => none) (fun _ => Or.inl rfl) (Or.inr ⟨_, vs.toArray, _, hk, rfl, rfl, rfl, ?_, ?_⟩) (fun b u z => nomatch (show (none : Option HO) = some u from z)) (fun b u z => nomatch (show (none : Option HO) = some u from z)) (fun u z => nomatch (show (none : Option HO) = some u from z))
    · rw [List.size_toArray, hints.length]
      exact short
    · simpa using rel
  | none =>
    refine main (fun b => if b = a then some (.frz { cls := .type "list", data := .seq vs.toArray } (.lst (ns.map V.int))) else none) ?_ (Or.inl (Or.inr ⟨_, if_pos rfl⟩)) ?_ ?_ (fun _ _ => hk)
    · intro b
      by_cases hb : b = a
      · exact Or.inr ⟨_, _, if_pos hb⟩
      · exact Or.inl (if_neg hb)
    · intro b u z
      by_cases hb : b = a
      · subst hb
        have z1 := (if_pos rfl).symm.trans z
        cases z1
        exact ⟨scr, (by rw [List.length_map]; exact short), vs, _, rel, scr⟩
      · exact nomatch (if_neg hb).symm.trans z
    · intro b u z
      by_cases hb : b = a
      · exact hb
      · exact nomatch (if_neg hb).symm.trans z
end Vk
set_option Elab.async false
set_option maxRecDepth 100000
set_option linter.all false
namespace Vk
open PySem PySem.Spec PyProof.Rows L2
/-! ## what stays -/
/-- all that was tracked stays, but what stands at p -/
def Ext (p : Addr) (H H' : Hp) : Prop := ∀ b o, H b = some o → b ≠ p → H' b = some o
theorem Ext.rfl {p : Addr} {H : Hp} : Ext p H H := fun _ _ h _ => h
theorem Ext.trans {p : Addr} {H H1 H2 : Hp} (a : Ext p H H1) (b : Ext p H1 H2) : Ext p H H2 := fun c o h n => b c o (a c o h n) n
theorem Ext.same {p : Addr} {H H1 : Hp} (a : Same H H1) : Ext p H H1 := fun c o h _ => a c o h
theorem Ext.at {p : Addr} {H : Hp} {o : HO} : Ext p H (upd H p o) := fun c u h n => (upd_ne n).trans h
theorem same_new {H : Hp} {a : Addr} {o : HO} (h : H a = none) : Same H (upd H a o) := fun c u e => (upd_ne (ne_of_none e h)).trans e
theorem Ext.new {p a : Addr} {H : Hp} {o : HO} (h : H a = none) : Ext p H (upd H a o) := .same (same_new h)
theorem Ext.set {p a : Addr} {H H1 : Hp} {o : HO} (x : Ext p H H1) (h : H a = none) : Ext p H (upd H1 a o) := fun c u e n => (upd_ne (ne_of_none e h)).trans (x c u e n)
theorem Ext.none_of {p a : Addr} {H H1 : Hp} (x : Ext p H H1) (hp : a ≠ p) (h : H1 a = none) : H a = none := by
  match q : H a with
  | none => rfl
  | some o => exact nomatch (x a o q hp).symm.trans h
theorem up_new {H : Hp} {a b : Addr} {o u : HO} (h : H a = some o) (hb : H b = none) : upd H b u a = some o := same_new hb a o h
/-! ## the pen -/
def penL (c : Addr) (t l : Int) : List (Key × V) := [(.inr "cells", .ref c), (.inr "turn", .int t), (.inr "left", .int l)]
theorem k_ct : ¬ ((Str.ofString "cells") = Str.ofString "turn") := by decide +kernel
theorem k_cl : ¬ ((Str.ofString "cells") = Str.ofString "left") := by decide +kernel
theorem k_tl : ¬ ((Str.ofString "turn") = Str.ofString "left") := by decide +kernel
theorem k_lt : ¬ ((Str.ofString "left") = Str.ofString "turn") := by decide +kernel
theorem pen_cells (c : Addr) (t l : Int) : valV (penL c t l) (Sum.inr "cells" : Key) = some (.ref c) := valV_pos rfl
theorem pen_turn (c : Addr) (t l : Int) : valV (penL c t l) (Sum.inr "turn" : Key) = some (.int t) := (valV_neg (fun e => k_ct (Sum.inr.inj e))).trans (valV_pos rfl)
theorem pen_left (c : Addr) (t l : Int) : valV (penL c t l) (Sum.inr "left" : Key) = some (.int l) := (valV_neg (fun e => k_cl (Sum.inr.inj e))).trans ((valV_neg (fun e => k_tl (Sum.inr.inj e))).trans (valV_pos rfl))
theorem pen_put_turn (c : Addr) (t l u : Int) : putK (penL c t l) (Sum.inr "turn" : Key) (.int u) = penL c u l := by
  unfold putK
  rw [valV_any, pen_turn]
  simp [penL, k_ct, k_lt]
theorem pen_put_left (c : Addr) (t l u : Int) : putK (penL c t l) (Sum.inr "left" : Key) (.int u) = penL c t u := by
  unfold putK
  rw [valV_any, pen_left]
  simp [penL, k_cl, k_tl]
theorem pen_made (c : Addr) (t l : Int) : mergeK [] (penL c t l) = penL c t l := by
  simp [mergeK, penL, putK, k_ct, k_cl, k_tl]
structure Pen (H : Hp) (p c : Addr) (T : Nat) : Prop where
  ex : ∃ (ns : List Int) (t l : Int), H p = some (.dK (penL c t l)) ∧ H c = some (.lst (ns.map V.int)) ∧ ns.length ≤ 63 ∧ 0 ≤ t ∧ t ≤ T ∧ 0 ≤ l
section
variable {H H1 : Hp} {p c a : Addr} {T U : Nat} {o : HO} {xs : List V}
theorem Pen.mono (x : Pen H p c T) (h : T ≤ U) : Pen H p c U := by
  obtain ⟨ns, t, l, h1, h2, h3, h4, h5, h6⟩ := x.ex
  exact ⟨ns, t, l, h1, h2, h3, h4, by omega, h6⟩
theorem Pen.stay (x : Pen H p c T) (s : Same H H1) : Pen H1 p c T := by
  obtain ⟨ns, t, l, h1, h2, r⟩ := x.ex
  exact ⟨ns, t, l, s _ _ h1, s _ _ h2, r⟩
theorem Pen.new (x : Pen H p c T) (h : H a = none) : Pen (upd H a o) p c T := x.stay (same_new h)
theorem Pen.is (x : Pen H p c T) : ∃ t l, H p = some (.dK (penL c t l)) := by
  obtain ⟨ns, t, l, h1, _⟩ := x.ex
  exact ⟨t, l, h1⟩
theorem Pen.ne (x : Pen H p c T) (h : H a = some (.lst xs)) : a ≠ p := by
  obtain ⟨t, l, h1⟩ := x.is
  exact ne_of h h1 (by intro z; cases z)
/-- another thing is changed -/
theorem Pen.set (x : Pen H p c T) (h1 : a ≠ p) (h2 : a ≠ c) : Pen (upd H a o) p c T := by
  obtain ⟨ns, t, l, g1, g2, r⟩ := x.ex
  exact ⟨ns, t, l, (upd_ne h1.symm).trans g1, (upd_ne h2.symm).trans g2, r⟩
/-- a thing that was not there when the pen stood is neither the pen nor its cells -/
theorem Pen.apart (x : Pen H p c T) (h : H a = none) : a ≠ p ∧ a ≠ c := by
  obtain ⟨ns, t, l, g1, g2, r⟩ := x.ex
  exact ⟨(ne_of_none g1 h).symm, (ne_of_none g2 h).symm⟩
end
/-- draw's promise -/
def spDraw : Sp := fun vs H Q _ => ∃ (p c : Addr) (m : Int) (T : Nat), vs = [.ref p, .int m] ∧ 0 < m ∧ m < 1073741824 ∧ Pen H p c T ∧ T < 1000000000 ∧
  ∀ (d : Int) (H' : Hp), 0 ≤ d → d < m → Pen H' p c (T + 1) → Ext p H H' → Q (.int d) H'
def spPen (K : PySem.W.Frag) : Sp := fun vs H Q _ => ∃ (a : Addr) (ns : List Int), vs = [.ref a] ∧ SqL K H a (ns.map V.int) ∧
  ∀ (p c : Addr) (H' : Hp), H p = none → Pen H' p c 0 → Same H H' → Q (.ref p) H'
/-! ## draws' small facts -/
theorem ints_dp {K : PySem.W.Frag} {H : Hp} : ∀ ns : List Int, DpAll K H (ns.map V.int) (ns.map PyData.int)
  | [] => .nil
  | n :: ns => .cons (.int n) (ints_dp ns)
theorem ints_canLay : ∀ ns : List Int, PyData.canLayAll0 (ns.map PyData.int) = true
  | [] => rfl
  | n :: ns => by
    show (PyData.canLay0 (.int n) && PyData.canLayAll0 (ns.map PyData.int)) = true
    rw [ints_canLay ns]
    rfl
theorem ints_depth : ∀ ns : List Int, PyData.depthAll (ns.map PyData.int) = 0
  | [] => rfl
  | n :: ns => by
    show max (PyData.depth (.int n)) (PyData.depthAll (ns.map PyData.int)) = 0
    rw [ints_depth ns]
    rfl
theorem ints_shaped (ns : List Int) : SeqAt.shaped (.list (ns.map PyData.int)) = true := by
  have h1 : PyData.canLay0 (.list (ns.map PyData.int)) = true := ints_canLay ns
  have h2 : PyData.depth (.list (ns.map PyData.int)) = 1 := by
    show PyData.depthAll (ns.map PyData.int) + 1 = 1
    rw [ints_depth]
  unfold SeqAt.shaped
  rw [h1, h2]
  rfl
theorem ints_ne_nil (ns : List Int) : PyData.eqv (.list (ns.map PyData.int)) (.list []) = ns.isEmpty := by
  match ns with
  | [] => rfl
  | n :: r => rfl
theorem get_left {H : Hp} {p c : Addr} {t l : Int} (h : H p = some (.dK (penL c t l))) : DGet H p (.str "left") (some (.int l)) := pen_left c t l ▸ DGet.k (k := Sum.inr "left") h
theorem get_turn {H : Hp} {p c : Addr} {t l : Int} (h : H p = some (.dK (penL c t l))) : DGet H p (.str "turn") (some (.int t)) := pen_turn c t l ▸ DGet.k (k := Sum.inr "turn") h
theorem get_cells {H : Hp} {p c : Addr} {t l : Int} (h : H p = some (.dK (penL c t l))) : DGet H p (.str "cells") (some (.ref c)) := pen_cells c t l ▸ DGet.k (k := Sum.inr "cells") h
theorem put_left {H : Hp} {p c : Addr} {t l u : Int} (h : H p = some (.dK (penL c t l))) : DPut H p (.str "left") (.int u) (upd H p (.dK (penL c t u))) := pen_put_left c t l u ▸ DPut.k (k := Sum.inr "left") h (by show 3 < sizeLine; decide)
theorem put_turn {H : Hp} {p c : Addr} {t l u : Int} (h : H p = some (.dK (penL c t l))) : DPut H p (.str "turn") (.int u) (upd H p (.dK (penL c u l))) := pen_put_turn c t l u ▸ DPut.k (k := Sum.inr "turn") h (by show 3 < sizeLine; decide)
theorem at_mod {α : Type} {xs : List α} {i : Int} (h0 : 0 ≤ i) (h : i < (xs.length : Int)) : ∃ v, atI xs i = some v ∧ v ∈ xs := by
  have hj : i.toNat < xs.length := by omega
  refine ⟨xs[i.toNat], ?_, List.getElem_mem hj⟩
  have e : i = (i.toNat : Int) := by omega
  have q := atI_nat (List.getElem?_eq_getElem hj)
  rw [← e] at q
  exact q
def primes : List Int := [2147483629, 2147483647, 2147483587, 2147483563, 2147483579]
theorem primes_in {v : V} (h : v ∈ primes.map V.int) : ∃ i : Int, v = .int i ∧ 0 < i ∧ i < 2147483648 := by
  obtain ⟨i, hi, e⟩ := List.mem_map.mp h
  refine ⟨i, e.symm, ?_⟩
  have q : ∀ j ∈ primes, 0 < j ∧ j < 2147483648 := by decide
  exact q i hi
end Vk
set_option Elab.async false
set_option maxRecDepth 100000
set_option linter.all false
namespace Vk
open PySem PySem.Spec PyProof.Rows L2
/-! ## a def that returns one written text, and a replace of what it returns (a token is out behind it) -/
structure FnT (P : Program) (w : World) (K : PySem.W.Frag) (mg : Str → Option Value) (base : Heap) (k : Nat) (x : Str) (z : Str) : Prop where
  ex : ∃ f : Addr, mg x = some (.ref f) ∧ PySem.W.keepIn K (.ref f) = true ∧ ∀ (A : Around) (outer : List Env) (s : Shared) (H : Hp) (Q : VK), Room k A → Env0 P w K mg base A outer s H → Q (.str z) H →
    codeAny (model P w) A (.call (.ref f) ⟨[], []⟩) (fun r s2 => 1 ≤ s2.toks ∧ CR CX0 outer P w H s Q E0 r s2) s
section
variable {P : Program} {w : World} {K : PySem.W.Frag} {mg : Str → Option Value} {base : Heap}
theorem okT {x : Str} {st : Stmt} {f : Addr} {fd : FuncData} {z : Str} {j : Nat} {p1 p2 : Pos} (F : Fun K x x st f fd) (S : FnScope [] [] (defScope st)) (hm : mg x = some (.ref f)) (hb : Binds K fd [] [])
    (body : defBody st = [.Return (some (.Constant (.str z) j p1)) p2]) : FnT P w K mg base 1 x z := by
  refine ⟨f, hm, F.kp, ?_⟩
  obtain ⟨oc, od, kV, doc, pm, an, cdv, ct, osl, rfl, lk, hcd⟩ := F.ex
  intro A outer s H Q hr e0 hsp
  have KX := e0.mod.kin.keeps (fun b o e => (e0.bs b o e).1 : ∀ b o, base.get? b = some o → s.heap.get? b = some o)
  have noLim := e0.mod.nolimit.keeps (fun b o e => (e0.bs b o e).1 : ∀ b o, base.get? b = some o → s.heap.get? b = some o)
  refine codeAny_call_function hr.depth (KX f _ lk) rfl S.co S.gen rfl (PySem.W.codeRec_of KX hcd) (hb s [] KX rfl _ _ _ _ (wpAny_newFunctionEnv_cells S.kind (fun y hy => absurd hy (List.not_mem_nil (a := y))) fun env he s1 x0 => ?_))
  cases he
  refine And.intro (noLim.keeps x0.toInCall.keep) (codeAny_func ?_)
  have I0 := inv_start (P := P) (CX := CX0) (E := E0) (us := []) (vs := []) S hr.hd e0 rfl .nil x0
  show wpAny _ _ (execs (defBody st) _) _ _ s1
  rw [body]
  refine wpAny_execs_cons (wpAny_Return_some (Calls.Constant_str ?_))
  exact ⟨Nat.succ_pos _, .str z, H, I0.os, I0.bare, (I0.tok (s1.toks + 1)).base, (I0.tok (s1.toks + 1)).hok, ⟨_, rfl⟩, hsp⟩
end
section
variable {X : Cx} {j k : Nat} {x z y v : Str} {q q2 apos pos c0 c1 : Pos} {j0 j1 : Nat}
theorem pe_replT (c : FnT X.prog X.w X.K X.mg X.base k x z) (hr : Room j X.A) (hk : k ≤ j) (hz : z.length + (z.length + 1) * v.length ≤ 16777216) (hyz : (y == v) = false) (gl : Gl X x := by rfl) (hdb : (x == ("__debug__" : Str)) = false := by decide)
    (hst : starEach [.Constant (.str y) j0 c0, .Constant (.str v) j1 c1] X.env = [(false, eval (.Constant (.str y) j0 c0) X.env), (false, eval (.Constant (.str v) j1 c1) X.env)] := by rfl)
    (hbase : attributeBase (.Call (.Name x q) [] [] q2) "replace" X.env (eval (.Call (.Name x q) [] [] q2) X.env) = eval (.Call (.Name x q) [] [] q2) X.env := by rfl) (hline : (apos.endLine == pos.line) = true := by rfl) :
    PE X (.Call (.Attribute (.Call (.Name x q) [] [] q2) "replace" apos) [.Constant (.str y) j0 c0, .Constant (.str v) j1 c1] [] pos) (fun σ H Q => Q (.str (Txt.replace z y v)) H) := by
  obtain ⟨f, hm, kp, run⟩ := c.ex
  refine ⟨fun pins s σ H Q I h => PySem.Call_method2 (Q := EP X pins σ Q) hbase hst hline (wpAny_mono (Q := fun u s1 => 1 ≤ s1.toks ∧ EP X pins σ (fun w H1 => w = .str z ∧ H1 = H) u s1) ?_ ?_ (fun _ _ e => e))⟩
  · refine wpAny_Call_Name_kw (ld_glob I gl hm (PySem.W.callWith_K0 I.kIn kp (wpAny_call (codeAny_mono (run X.A X.stack s H (fun w H1 => w = .str z ∧ H1 = H) (hr.mono hk) I.env0 ⟨rfl, rfl⟩) fun res s2 hq => ?_))) hdb)
    match res, hq with
    | .error e, hq => exact hq.2.elim
    | .ok (.ret u), hq => exact ⟨hq.1, I.after hq.2⟩
    | .ok .next, hq => exact hq.2.elim
    | .ok .brk, hq => exact hq.2.elim
    | .ok .cont, hq => exact hq.2.elim
  · rintro u s1 ⟨ht, w, H1, I1, r1, rfl, rfl⟩
    obtain ⟨tx, rfl⟩ := r1
    refine ⟨"str", _, PySem.F.plainAttrs_str, PySem.F.slot_str_replace, PySem.F.type_str_replace, typeIs_str _ _ _, (fun _ e => nomatch e), Calls.callWith_builtin rfl (Calls.evalArgs_plain (Calls.spliced_cons (Calls.Constant_str (Calls.spliced_cons (Calls.Constant_str (Calls.spliced_nil ?_))))))⟩
    exact PySem.SC.replace (Nat.ne_of_gt ht) (Nat.succ_ne_zero _) (by show s1.toks ≠ s1.toks + 1; omega) hyz hz fun t' kk => ⟨V.str _, _, I1.tok kk, ⟨t', rfl⟩, h⟩
end
/-! ## options to pick from -/
def OneS (c : Nat) : V := .str ⟨#[c]⟩
inductive Opts (K : PySem.W.Frag) (H : Hp) : V → List V → Prop
  | str (z : Str) (h : z.length ≤ 1000) : Opts K H (.str z) (z.cps.toList.map OneS)
  | lst {a : Addr} {xs : List V} (h : SqL K H a xs) : Opts K H (.ref a) xs
  | tup {a : Addr} {xs : List V} (h : SqT K H a xs) : Opts K H (.ref a) xs
theorem Ext.sqL {K : PySem.W.Frag} {p a : Addr} {H H1 : Hp} {xs : List V} {kvs : List (Key × V)} (x : Ext p H H1) (hp : H p = some (.dK kvs)) (h : SqL K H a xs) : SqL K H1 a xs := by
  match h with
  | .inl (.inl e) => exact .inl (.inl (x _ _ e (ne_of e hp (by intro z; cases z))))
  | .inl (.inr ⟨o, e⟩) => exact .inl (.inr ⟨o, x _ _ e (ne_of e hp (by intro z; cases z))⟩)
  | .inr e => exact .inr e
theorem Ext.sqT {K : PySem.W.Frag} {p a : Addr} {H H1 : Hp} {xs : List V} {kvs : List (Key × V)} (x : Ext p H H1) (hp : H p = some (.dK kvs)) (h : SqT K H a xs) : SqT K H1 a xs := by
  match h with
  | .inl (.inl e) => exact .inl (.inl (x _ _ e (ne_of e hp (by intro z; cases z))))
  | .inl (.inr ⟨o, e⟩) => exact .inl (.inr ⟨o, x _ _ e (ne_of e hp (by intro z; cases z))⟩)
  | .inr e => exact .inr e
theorem Ext.is {p a : Addr} {H H1 : Hp} {xs : List V} {kvs : List (Key × V)} (x : Ext p H H1) (hp : H p = some (.dK kvs)) (h : H a = some (.lst xs)) : H1 a = some (.lst xs) := x _ _ h (ne_of h hp (by intro z; cases z))
theorem Ext.isT {p a : Addr} {H H1 : Hp} {xs : List V} {kvs : List (Key × V)} (x : Ext p H H1) (hp : H p = some (.dK kvs)) (h : H a = some (.tup xs)) : H1 a = some (.tup xs) := x _ _ h (ne_of h hp (by intro z; cases z))
theorem Pen.keepL {K : PySem.W.Frag} {p c a : Addr} {T : Nat} {H H1 : Hp} {xs : List V} (q : Pen H p c T) (x : Ext p H H1) (h : SqL K H a xs) : SqL K H1 a xs := by
  obtain ⟨t, l, hp⟩ := q.is
  exact x.sqL hp h
theorem Pen.keepT {K : PySem.W.Frag} {p c a : Addr} {T : Nat} {H H1 : Hp} {xs : List V} (q : Pen H p c T) (x : Ext p H H1) (h : SqT K H a xs) : SqT K H1 a xs := by
  obtain ⟨t, l, hp⟩ := q.is
  exact x.sqT hp h
theorem Pen.keepI {p c a : Addr} {T : Nat} {H H1 : Hp} {xs : List V} (q : Pen H p c T) (x : Ext p H H1) (h : H a = some (.lst xs)) : H1 a = some (.lst xs) := by
  obtain ⟨t, l, hp⟩ := q.is
  exact x.is hp h
def spPick (K : PySem.W.Frag) : Sp := fun vs H Q _ => ∃ (p c : Addr) (o : V) (xs : List V) (T : Nat), vs = [.ref p, o] ∧ Opts K H o xs ∧ xs ≠ [] ∧ xs.length ≤ 1000 ∧ Pen H p c T ∧ T < 1000000000 ∧
  ∀ (v : V) (H' : Hp), v ∈ xs → Pen H' p c (T + 1) → Ext p H H' → Q v H'
def letS : Str := "\n !\"#$&'()*+,-./0123456789:;<=>?@ABCDEFGHIJKLMNOPQRSTUVWXYZ[\\]^_`abcdefghijklmnopqrstuvwxyz{|}~"
def spSigns : Sp := fun vs H Q _ => vs = [] ∧ Q (.str letS) H
/-- what few gives: one to three letters -/
def Few (z : Str) : Prop := 1 ≤ z.length ∧ z.length ≤ 3 ∧ ∀ c ∈ z.cps.toList, c ∈ letS.cps.toList
def spFew : Sp := fun vs H Q _ => ∃ (p c : Addr) (T : Nat), vs = [.ref p] ∧ Pen H p c T ∧ T + 4 < 1000000000 ∧ ∀ (z : Str) (H' : Hp), Few z → Pen H' p c (T + 4) → Ext p H H' → Q (.str z) H'
/-- a word of the letters of z, a to b of them -/
def Word (z : Str) (a b : Nat) (x : Str) : Prop := a ≤ x.length ∧ x.length ≤ b ∧ ∀ c ∈ x.cps.toList, c ∈ z.cps.toList
def spWord : Sp := fun vs H Q _ => ∃ (p c : Addr) (z : Str) (a b T : Nat), vs = [.ref p, .str z, .int a, .int b] ∧ a ≤ b ∧ b ≤ 100 ∧ 1 ≤ z.length ∧ z.length ≤ 1000 ∧ Pen H p c T ∧ T + 200 < 1000000000 ∧
  ∀ (x : Str) (H' : Hp), Word z a b x → Pen H' p c (T + b + 1) → Ext p H H' → Q (.str x) H'
theorem cut63 (ns : List Int) : ∃ ms : List Int, cutV (ns.map V.int) none (some 63) = ms.map V.int ∧ ms.length ≤ 63 := by
  refine ⟨ns.take 63, ?_, List.length_take_le _ _⟩
  unfold cutV
  rw [HT.sIx_none, show (63 : Int) = ((63 : Nat) : Int) from rfl, HT.sIx_nat, List.drop_zero, Nat.sub_zero, List.map_take, Nat.min_comm, ← List.take_take]
  exact List.take_of_length_le (by rw [List.length_take]; omega)
theorem one_len (z : Str) : (z.cps.toList.map OneS).length = z.length := by
  rw [List.length_map]
  exact Array.length_toList
theorem join_nil : ∀ ls : List (List Nat), TL.joinL [] ls = ls.flatten
  | [] => rfl
  | [p] => by simp [TL.joinL]
  | p :: q :: r => by
    show p ++ ([] ++ TL.joinL [] (q :: r)) = _
    rw [List.nil_append, join_nil (q :: r)]
    rfl
theorem join_ones (cs : List Nat) : Txt.join "" (cs.map fun c => (⟨#[c]⟩ : Str)) = ⟨cs.toArray⟩ := by
  rw [TL.join_eq]
  refine TL.ext_tl ?_
  rw [TL.tl_join]
  refine (join_nil _).trans ?_
  show (List.map TL.tl (cs.map fun c => (⟨#[c]⟩ : Str))).flatten = cs
  rw [List.map_map]
  induction cs with
  | nil => rfl
  | cons c r ih => exact congrArg (c :: ·) ih
theorem ones_len (cs : List Nat) : ((cs.map fun c => (⟨#[c]⟩ : Str)).map (·.length)).sum = cs.length := by
  induction cs with
  | nil => rfl
  | cons c r ih =>
    rw [List.map_cons, List.map_cons, List.sum_cons, ih, List.length_cons]
    show 1 + r.length = r.length + 1
    omega
theorem ones_map (cs : List Nat) : (cs.map fun c => (⟨#[c]⟩ : Str)).map V.str = cs.map OneS := List.map_map
theorem noq_list : (Txt.replace letS "q" "").cps.toList = letS.cps.toList.filter (· != 113) := replace_strikes letS 113
theorem noq_len : (Txt.replace letS "q" "").length = 94 := by
  rw [show (Txt.replace letS "q" "").length = (Txt.replace letS "q" "").cps.toList.length from Array.length_toList.symm, noq_list]
  decide +kernel
theorem noq_in {c : Nat} (h : c ∈ (Txt.replace letS "q" "").cps.toList) : c ∈ letS.cps.toList := by
  rw [noq_list] at h
  exact (List.mem_filter.mp h).1
theorem ones_of {z : Str} {v : V} (h : v ∈ z.cps.toList.map OneS) : ∃ c, v = OneS c ∧ c ∈ z.cps.toList := by
  obtain ⟨c, hc, e⟩ := List.mem_map.mp h
  exact ⟨c, e.symm, hc⟩
theorem opts_ne {z : Str} (h : 1 ≤ z.length) : z.cps.toList.map OneS ≠ [] := fun e => by
  have q := one_len z
  rw [e] at q
  simp at q
  omega
theorem opts_le {z : Str} {n : Nat} (h : z.length ≤ n) : (z.cps.toList.map OneS).length ≤ n := by
  rw [one_len]
  exact h
/-- the fixed choices of few are few -/
theorem few_of {z : Str} (h : (decide (1 ≤ z.length) && decide (z.length ≤ 3) && z.cps.toList.all fun c => decide (c ∈ letS.cps.toList)) = true) : Few z := by
  simp only [Bool.and_eq_true, decide_eq_true_eq, List.all_eq_true] at h
  exact ⟨h.1.1, h.1.2, h.2⟩
theorem few_ones {cs : List Nat} (h1 : 1 ≤ cs.length) (h3 : cs.length ≤ 3) (h : ∀ c ∈ cs, c ∈ letS.cps.toList) : Few ⟨cs.toArray⟩ := ⟨by simpa [Str.length] using h1, by simpa [Str.length] using h3, by simpa using h⟩
/-! ## rules whose written part is named (within a comprehension's block) -/
section
variable {X : Cx} {K : PySem.W.Frag}
theorem ix_seqK (h : X.K = K) : IxR X (rIx K) := h ▸ ix_seq
theorem op_notIn_seqK (h : X.K = K) : OpR X (compareOp .NotIn) (rIn K true) := h ▸ op_notIn_seq
theorem sl_listK (h : X.K = K) : SlR X (rSlL K) := h ▸ sl_list
theorem call_lenK (h : X.K = K) : CallR X (.builtin "len") (fun xs H Q => ∃ x n, xs = [x] ∧ LenV K x H n ∧ Q (.int n) H) := h ▸ call_len
theorem op_neDK (h : X.K = K) (hu : X.A.units + 64 < cLine) : OpR X (compareOp .NotEq) (rNeD K) := h ▸ op_neD hu
end
theorem cutV_mem {xs : List V} {lo hi : Option Int} {v : V} (h : v ∈ cutV xs lo hi) : v ∈ xs := List.mem_of_mem_drop (List.mem_of_mem_take h)
theorem cutV_all {xs : List V} {lo hi : Option Int} {f : V → Bool} (h : xs.all f = true) : (cutV xs lo hi).all f = true := List.all_eq_true.mpr fun v hv => List.all_eq_true.mp h v (cutV_mem hv)
theorem ones_flat (cs : List Nat) : (cs.map OneS).all flatV = true := List.all_eq_true.mpr fun v hv => by
  obtain ⟨c, _, rfl⟩ := List.mem_map.mp hv
  rfl
theorem cutV_zero (xs : List V) : cutV xs none (some 0) = [] := by
  unfold cutV
  rw [HT.sIx_none, show (0 : Int) = ((0 : Nat) : Int) from rfl, HT.sIx_nat]
  simp
theorem one_mem {cs : List Nat} {v : V} (h : v ∈ cs.map OneS) : ∃ c, v = OneS c ∧ c ∈ cs := by
  obtain ⟨c, hc, e⟩ := List.mem_map.mp h
  exact ⟨c, e.symm, hc⟩
end Vk
set_option Elab.async false
set_option maxRecDepth 100000
set_option linter.all false
namespace Vk
open PySem PySem.Spec PyProof.Rows L2
/-! ## how long what is shown may be -/
theorem listText_le : ∀ ts : List Str, (listText ts).length ≤ piled ts + 2
  | [] => by decide +kernel
  | t :: r => by
    have h := textFrom_length_pos r 1 (("[" : Str) ++ (if (0 : Nat) > 0 then ", " else "" : String) ++ t) (Nat.succ_pos 0)
    have e : (listText (t :: r)).length = (textFrom 1 (("[" : Str) ++ (if (0 : Nat) > 0 then ", " else "" : String) ++ t) r).length + 1 := strLen_append _ _
    rw [e, h, strLen_append, strLen_append, piled_cons]
    show 1 + 0 + t.length + piled r + 1 ≤ _
    omega
theorem piled_le {ts : List Str} {n : Nat} (h : ∀ t ∈ ts, t.length ≤ n) : piled ts ≤ ts.length * (n + 2) := by
  induction ts with
  | nil => exact Nat.zero_le _
  | cons t r ih =>
    have h1 := h t List.mem_cons_self
    have h2 := ih fun u hu => h u (List.mem_cons_of_mem _ hu)
    rw [piled_cons, List.length_cons, Nat.succ_mul]
    omega
theorem shownAll_map : ∀ ds : List PyData, PyData.shownAll ds = ds.map PyData.shown
  | [] => rfl
  | d :: r => congrArg (d.shown :: ·) (shownAll_map r)
theorem showableAll_iff : ∀ {ds : List PyData}, (∀ d ∈ ds, d.showable = true) → PyData.showableAll ds = true
  | [], _ => rfl
  | d :: r, h => by
    show (d.showable && PyData.showableAll r) = true
    rw [h d List.mem_cons_self, showableAll_iff fun e he => h e (List.mem_cons_of_mem _ he)]
    rfl
theorem hasDictAll_of : ∀ {ds : List PyData}, (∀ d ∈ ds, d.hasDict = false) → PyData.hasDictAll ds = false
  | [], _ => rfl
  | d :: r, h => by
    show (d.hasDict || PyData.hasDictAll r) = false
    rw [h d List.mem_cons_self, hasDictAll_of fun e he => h e (List.mem_cons_of_mem _ he)]
    rfl
theorem depthAll_le : ∀ {ds : List PyData} {n : Nat}, (∀ d ∈ ds, d.depth ≤ n) → PyData.depthAll ds ≤ n
  | [], _, _ => Nat.zero_le _
  | d :: r, n, h => Nat.max_le.mpr ⟨h d List.mem_cons_self, depthAll_le fun e he => h e (List.mem_cons_of_mem _ he)⟩
/-- d may be shown, in at most n signs, at most k deep -/
structure Showy (d : PyData) (k n : Nat) : Prop where
  sh : d.showable = true
  nd : d.hasDict = false
  dp : d.depth ≤ k
  ln : d.shown.length ≤ n
theorem Showy.list {ds : List PyData} {k n : Nat} (h : ∀ d ∈ ds, Showy d k n) : Showy (.list ds) (k + 1) (ds.length * (n + 2) + 2) := by
  refine ⟨showableAll_iff fun d hd => (h d hd).sh, hasDictAll_of fun d hd => (h d hd).nd, Nat.succ_le_succ (depthAll_le fun d hd => (h d hd).dp), ?_⟩
  show (listText (PyData.shownAll ds)).length ≤ _
  rw [shownAll_map]
  have h1 := listText_le (ds.map PyData.shown)
  have h2 := piled_le (ts := ds.map PyData.shown) (n := n) fun t ht => by
    obtain ⟨d, hd, rfl⟩ := List.mem_map.mp ht
    exact (h d hd).ln
  rw [List.length_map] at h2
  omega
theorem Showy.tuple {ds : List PyData} {k n : Nat} (h : ∀ d ∈ ds, Showy d k n) : Showy (.tuple ds) (k + 1) (ds.length * (n + 2) + 2) := by
  refine ⟨showableAll_iff fun d hd => (h d hd).sh, hasDictAll_of fun d hd => (h d hd).nd, Nat.succ_le_succ (depthAll_le fun d hd => (h d hd).dp), ?_⟩
  show (tupleText (PyData.shownAll ds)).length ≤ _
  rw [shownAll_map]
  have h1 := fmt_text (ds.map PyData.shown)
  have h2 := piled_le (ts := ds.map PyData.shown) (n := n) fun t ht => by
    obtain ⟨d, hd, rfl⟩ := List.mem_map.mp ht
    exact (h d hd).ln
  rw [List.length_map] at h2
  omega
theorem Showy.int {i : Int} (h : i.natAbs < 10 ^ 100) : Showy (.int i) 0 101 := by
  have hl : i.natAbs.log2 < 1920 := by
    by_cases h0 : i.natAbs = 0
    · rw [h0]; decide
    · exact (Nat.log2_lt h0).mpr (Nat.lt_of_lt_of_le h (by decide +kernel))
  refine ⟨decide_eq_true hl, rfl, Nat.le_refl _, ?_⟩
  show (Str.ofString (toString i)).length ≤ 101
  rw [PySem.ofString_length]
  exact int_text_length_le10 (k := 100) (by decide) h
theorem Showy.mono {d : PyData} {k k' n n' : Nat} (h : Showy d k n) (h1 : k ≤ k') (h2 : n ≤ n') : Showy d k' n' := ⟨h.sh, h.nd, Nat.le_trans h.dp h1, Nat.le_trans h.ln h2⟩
/-! ## places of words -/
open StrLaws in
theorem find_from (x y : Str) (lo : Nat) (hlo : lo ≤ x.length + 1) :
    ((match Builtin.Str.occurrences x y lo x.length 1 with | i :: _ => (i : Int) | [] => -1) = -1 ∧ ∀ i, lo ≤ i → ¬ At x y x.length i) ∨
    ∃ i : Nat, (match Builtin.Str.occurrences x y lo x.length 1 with | i :: _ => (i : Int) | [] => -1) = (i : Int) ∧ lo ≤ i ∧ At x y x.length i ∧ ∀ k, lo ≤ k → k < i → ¬ At x y x.length k := by
  rw [occ_eq]
  have inr : ∀ i, lo ≤ i → i ≤ x.length → i ∈ List.range' lo (x.length + 1 - lo) := fun i h1 h2 => by
    simp only [List.mem_range'_1]
    omega
  rcases occ_first x y x.length 1 (Nat.le_refl _) (List.range' lo (x.length + 1 - lo)) lo (fun i hi => (List.mem_range'_1.mp hi).1) with ⟨h0, hn⟩ | ⟨pre, a, post, e, h0, ha, hn⟩
  · refine .inl ⟨by rw [h0], fun i hi hA => hn i (inr i hi (Nat.le_trans (Nat.le_add_right _ _) hA.1)) hA⟩
  · refine .inr ⟨a, ?_, ?_, ha, fun k h1 h2 => ?_⟩
    · generalize (forIn (List.range' lo (x.length + 1 - lo)) ((#[] : Array Nat), lo) (occBody x y x.length 1)).run.fst = arr at h0
      have h1 : arr.toList[0]? = some a := by simpa using h0
      match hL : arr.toList with
      | [] => rw [hL] at h1; cases h1
      | b :: t => rw [hL] at h1; simp at h1; rw [h1]
    · exact (List.mem_range'_1.mp (by rw [e]; exact List.mem_append_right _ List.mem_cons_self : a ∈ List.range' lo (x.length + 1 - lo))).1
    · refine hn k ?_
      have hk : k ∈ pre ++ a :: post := by
        rw [← e]
        refine inr k h1 ?_
        have q := ha.1
        omega
      have pw : (pre ++ a :: post).Pairwise (· < ·) := by rw [← e]; exact List.pairwise_lt_range'
      rcases List.mem_append.mp hk with hk | hk
      · exact hk
      · rcases List.mem_cons.mp hk with rfl | hk
        · exact absurd h2 (Nat.lt_irrefl _)
        · have q := (List.pairwise_cons.mp (List.pairwise_append.mp pw).2.1).1 k hk
          omega
def atB (x w : Str) (i : Nat) : Bool := decide (i + w.length ≤ x.length) && Builtin.Str.subAt x w i
theorem atB_iff (x w : Str) (i : Nat) : atB x w i = true ↔ StrLaws.At x w x.length i := by
  unfold atB StrLaws.At
  simp
/-- all places of a word in a text -/
def plc (x w : Str) : List Nat := (List.range (x.length + 1)).filter (atB x w)
theorem filter_more {P : Nat → Bool} {lo m : Nat} (h : lo ≤ m) (hn : ∀ i, lo ≤ i → i < m → P i = false) : (List.range m).filter P = (List.range lo).filter P := by
  induction m with
  | zero => rw [Nat.le_zero.mp h]
  | succ m ih =>
    by_cases e : lo = m + 1
    · rw [e]
    · rw [List.range_succ, List.filter_append, ih (by omega) fun i h1 h2 => hn i h1 (by omega)]
      have q := hn m (by omega) (Nat.lt_succ_self _)
      simp [q]
theorem filter_snoc {P : Nat → Bool} {m : Nat} (h : P m = true) : (List.range (m + 1)).filter P = (List.range m).filter P ++ [m] := by
  rw [List.range_succ, List.filter_append]
  simp [h]
def plcI (x w : Str) : List Int := (plc x w).map Int.ofNat
theorem plc_len (x w : Str) : (plc x w).length ≤ x.length + 1 := Nat.le_trans (List.length_filter_le _ _) (Nat.le_of_eq List.length_range)
def spPlaces (K : PySem.W.Frag) : Sp := fun vs H Q _ => ∃ (x w : Str), vs = [.str x, .str w] ∧ x.length ≤ 10000 ∧ w.length ≤ 10000 ∧
  ∀ (a : Addr) (H' : Hp), H a = none → H' a = some (.lst ((plcI x w).map V.int)) → Same H H' → Q (.ref a) H'
/-- the slice of a text at a place -/
theorem cut_at (x w : Str) (k : Nat) (h : k + w.length ≤ x.length) : decide (V.str (cutS x (some (k : Int)) (some ((k : Int) + (w.length : Int)))) = V.str w) = atB x w k := by
  have e : cutS x (some (k : Int)) (some ((k : Int) + (w.length : Int))) = ⟨((x.cps.toList.drop k).take w.length).toArray⟩ := by
    unfold cutS
    rw [show (k : Int) + (w.length : Int) = ((k + w.length : Nat) : Int) by omega, HT.sIx_nat, HT.sIx_nat, Nat.min_eq_left h, Nat.min_eq_left (show k ≤ x.length by omega), show k + w.length - k = w.length by omega]
  rw [e]
  unfold atB
  rw [StrLaws.subAt_eq, decide_eq_true h, Bool.true_and, Bool.eq_iff_iff, decide_eq_true_eq, beq_iff_eq]
  constructor
  · intro q
    have q2 := V.str.inj q
    exact congrArg (fun z : Str => z.cps.toList) q2
  · intro q
    rw [q]
end Vk
set_option Elab.async false
set_option maxRecDepth 100000
set_option linter.all false
namespace Vk
open PySem PySem.Spec PyProof.Rows L2
/-! ## a text some times -/
section
variable {X : Cx}
end
/-! ## a def called by keywords alone -/
structure CalK (P : Program) (w : World) (K : PySem.W.Frag) (mg : Str → Option Value) (base : Heap) (CX : CXT) (k : Nat) (x : Str) (sp : Sp) (ks : List Str) (g : {α : Type} → List α → List α) : Prop where
  ex : ∃ (f : Addr) (fd : FuncData) (ps : List Str), FnG P w K mg base CX k f fd ps sp ∧ mg x = some (.ref f) ∧ PySem.W.keepIn K (.ref f) = true ∧
    (∀ (s : Shared) (ws : List Value), K.In s.heap → ws.length = ks.length → BindsTo s fd ⟨[], ks.zip ws⟩ (ps.zip (g ws))) ∧ ∀ (vs : List V) (ws : List Value), Vals vs ws → vs.length = ks.length → Vals (g vs) (g ws)
def tCallW (n : Nat) (sp : Sp) (g : {α : Type} → List α → List α) (E : XK) (t : TA) : TE := fun σ H Q => t σ H fun vs H1 => vs.length = n ∧ sp (g vs) H1 Q E
section
variable {X : Cx} {CX : CXT} {j k : Nat} {sp : Sp} {E : XK} {x : Str} {p pos : Pos} {kws : List Keyword} {tk : TA} {ks : List Str} {g : {α : Type} → List α → List α}
theorem pe_kw (c : CalK X.prog X.w X.K X.mg X.base CX k x sp ks g) (hg : X.A.guards = some []) (hr : Room j X.A) (hk : k ≤ j) (hx : Passes CX X E) (hkw : PK X kws tk) (gl : Gl X x := by rfl)
    (hall : (backToKw pos (keywordEach kws X.env)).all (·.1.isSome) = true := by rfl) (hks : (backToKw pos (keywordEach kws X.env)).filterMap (·.1) = ks := by rfl) (hdb : (x == ("__debug__" : Str)) = false := by decide)
    (hpl : ((backTo pos (starEach [] X.env)).any (·.1) || (backToKw pos (keywordEach kws X.env)).any (·.1.isNone)) = false := by rfl) :
    PE X (.Call (.Name x p) [] kws pos) (tCallW ks.length sp g E tk) := by
  obtain ⟨f, fd, ps, F, hm, kp, hb, hv⟩ := c.ex
  refine ⟨fun pins s σ H Q I h => wpAny_Call_Name_kw (ld_glob I gl hm (PySem.W.callWith_KW0 (h₀ := X.base) I.ok.mod.kin kp hall (thn (hkw.run pos pins s σ H _ I h) fun ws s2 hh => ?_) hpl) hdb)⟩
  obtain ⟨vs, H2, I2, rz, l2, q2⟩ := hh
  refine ⟨I2.kIn, ?_⟩
  rw [hks]
  refine wpAny_call (codeAny_mono (F.run X.A X.stack s2 H2 ⟨[], ks.zip ws⟩ (g ws) (g vs) Q E hg (hr.mono hk) I2.env0 (hb s2 ws I2.kIn (rz.length.symm.trans l2)) (hv vs ws rz l2) q2) (fun res s3 hq => ?_))
  match res, hq with
  | .error e, hq => exact hx pins σ H2 s2 e s3 I2 hq
  | .ok (.ret u), hq => exact I2.after hq
  | .ok .next, hq => exact hq.elim
  | .ok .brk, hq => exact hq.elim
  | .ok .cont, hq => exact hq.elim
end
theorem vals_rev : ∀ {vs : List V} {ws : List Value}, Vals vs ws → Vals vs.reverse ws.reverse
  | _, _, .nil => .nil
  | _, _, .cons r t => by
    rw [List.reverse_cons, List.reverse_cons]
    exact (vals_rev t).append (.cons r .nil)
/-! ## a def of the text as the head leaves it -/
structure At (K : PySem.W.Frag) (x : Str) (st : Stmt) (f : Addr) (fd : FuncData) : Prop where
  ns : PySem.W.nsIn K mainGlobals x = some (some (.ref f))
  fn : Fun K x x st f fd
theorem at_mk {K : PySem.W.Frag} {x : Str} {st : Stmt} {f : Addr} {oc : Value} {od an : Option Addr} {sl : Array (Option Value)} {kV doc pm cd ct : Value} (a : PySem.W.nsIn K mainGlobals x = some (some (.ref f)))
    (l : K.lookup f = some ⟨oc, od, .func (PySem.W.fnOf x x (defArgs st) (defBody st) (defScope st) .none kV doc pm an cd ct), sl⟩) (c : PySem.W.codeIn K cd x = true) (k : PySem.W.keepIn K (.ref f) = true) :
    At K x st f (PySem.W.fnOf x x (defArgs st) (defBody st) (defScope st) .none kV doc pm an cd ct) := ⟨a, fun_mk l c k⟩
section
variable {K : PySem.W.Frag} {x y qual : Str} {st : Stmt} {f : Addr} {fd : FuncData} {ps ks : List Str} {g : List Value → List Value}
theorem _root_.L2.Fun.kwb (F : Fun K x qual st f fd)
    (h : ∀ (kV doc pm : Value) (an : Option Addr) (cdv ct : Value) (ws : List Value), ws.length = ks.length → bindArgs (PySem.W.fnOf x qual (defArgs st) (defBody st) (defScope st) .none kV doc pm an cdv ct) ⟨[], ks.zip ws⟩ = pure (ps.zip (g ws))) :
    ∀ (s : Shared) (ws : List Value), K.In s.heap → ws.length = ks.length → BindsTo s fd ⟨[], ks.zip ws⟩ (ps.zip (g ws)) := by
  obtain ⟨oc, od, kV, doc, pm, an, cdv, ct, osl, rfl, lk, hcd⟩ := F.ex
  exact fun s ws _ hl => .of_eq (h kV doc pm an cdv ct ws hl)
theorem _root_.L2.Fun.binds1 (F : Fun K x qual st f fd)
    (h : ∀ {kV doc pm : Value} {an : Option Addr} {cdv ct : Value} {v : Value}, bindArgs (PySem.W.fnOf x qual (defArgs st) (defBody st) (defScope st) .none kV doc pm an cdv ct) ⟨[v], []⟩ = pure [(y, v)]) :
    ∀ (s : Shared) (v : Value), BindsTo s fd ⟨[v], []⟩ [(y, v)] := by
  obtain ⟨oc, od, kV, doc, pm, an, cdv, ct, osl, rfl, lk, hcd⟩ := F.ex
  exact fun s v => .of_eq h
end
end Vk
set_option Elab.async false
set_option maxRecDepth 100000
set_option maxHeartbeats 4000000
set_option linter.all false
namespace PySem
namespace VkX
open PySem.W PySem.Calls PyProof.Rows Builtin Builtin.ObjectAttr PySem.HandSPX
/-! ## own exception classes straight below one of the four -/
structure ExB (B newId initId : String) (tl : List Value) : Prop where
  F : ExcBaseFacts B newId initId tl
  pass : ∀ self : Value, refuseLoop self "__setattr__" tl = pure ()
  obj : tl.contains (.type "object") = true
  refs : tl.all (fun v => match v with | .type _ => true | _ => false) = true
theorem exB_value : ExB "ValueError" "ValueError.__new__" "ValueError.__init__" [.type "ValueError", .type "Exception", .type "BaseException", .type "object"] := ⟨F.excBase_ValueError, fun _ => by kernel_rfl, by decide +kernel, rfl⟩
theorem exB_lookup : ExB "LookupError" "LookupError.__new__" "LookupError.__init__" [.type "LookupError", .type "Exception", .type "BaseException", .type "object"] := ⟨F.excBase_LookupError, fun _ => by kernel_rfl, by decide +kernel, rfl⟩
section
variable {M : Model} {A : Around} {E : Value → Shared → Prop} {h : Heap} {g : Array GenState} {d : Drawn} {t : Nat} {os : OsState}
variable {nm q : Str} {C N : Addr} {bs bm : List Value} {hdct : Bool} {sn : List Str} {sub : List Value} {ab : Bool} {col : Option Bool} {dd : Option Addr} {k0 k1 k2 k3 k5 : Option Value} {B newId initId : String}
theorem check_newK (F : ExcBaseFacts B newId initId bm) {rest : List Value} {kw : List (Str × Value)} {Q : Unit → Shared → Prop} (hC : h.get? C = some (excClassObj nm q C N bs bm hdct sn sub ab col dd k0 k1 k2 k3 k5 newId))
    (hq : Q () ⟨h, g, d, t, os⟩) : wpAny M A (checkBuiltinCall newId ⟨.ref C :: rest, kw⟩) Q E ⟨h, g, d, t, os⟩ := by
  have inB : (Value.ref C :: bm).contains (.type B) = true := by rw [List.contains_cons, F.hasB, Bool.or_true]
  have star := F.noStar
  simp only [checkBuiltinCall, F.newKind, F.newSplit, F.newRow]
  repeat (first | refine wpAny_loadPart_at hC ?_ | (refine wpAny_isSubtype_exc hC ?_; rw [inB]) | refine wpAny_staticBase_exc hC ?_ | refine wpAny_madeBy_exc hC ?_ | simp only [bne_self_eq_false, Bool.false_eq_true, if_false] | wp_step)
  exact hq
end
section
variable {prog : Program} {w : World} {A : Around} {E : Value → Shared → Prop} {R : Result → Shared → Prop} {h : Heap} {g : Array GenState} {d : Drawn} {t : Nat} {os : OsState}
variable {nm q : Str} {C N : Addr} {bs bm : List Value} {hdct : Bool} {sn : List Str} {sub : List Value} {ab : Bool} {col : Option Bool} {dd : Option Addr} {k0 k1 k2 k3 k5 : Option Value} {B newId initId : String}
theorem new_ownK (F : ExcBaseFacts B newId initId bm) {rest : List Value} {kw : List (Str × Value)} (hC : h.get? C = some (excClassObj nm q C N bs bm hdct sn sub ab col dd k0 k1 k2 k3 k5 newId))
    (hq : R (.ok (.ret (.ref (h.objs.size + 1)))) ⟨(h.push (W.kdv_tup rest)).push (excO C h.objs.size), g, d, t, os⟩) (hrest : rest.length ≤ sizeLine) :
    codeAny (model prog w) A (.builtin newId ⟨.ref C :: rest, kw⟩) R ⟨h, g, d, t, os⟩ := by
  have fends := F.ends
  have cB : (Value.ref C :: bm).contains (.type B) = true := by rw [List.contains_cons, F.hasB, Bool.or_true]
  have cA : (Value.ref C :: bm).contains (.type "AttributeError") = false := by rw [List.contains_cons, F.noAttr]; rfl
  have cN : (Value.ref C :: bm).contains (.type "NameError") = false := by rw [List.contains_cons, F.noName]; rfl
  refine codeAny_builtinAt F.entry ?_
  unfold Builtin.«BaseException.__new__»
  refine wpAt_bind (show wpAt _ _ _ (stack >>= _) _ _ _ from wpAt_bind (wpAt_stack fun p below => wpAt_of_wpAny ?_))
  wp_walk
  refine wpAt_of_wpAny ?_
  rw [F.owner]
  repeat (first | with_reducible refine wpAny_madeHere_exc F.canon hC ?_ | with_reducible refine wpAny_loadPart_at hC ?_ | (with_reducible refine wpAny_isSubtype_exc hC ?_; first | rw [cB] | rw [cA] | rw [cN]) | wp_step)
  exact (show R _ _ by rw [Heap.size_push]; exact hq)
theorem check_callK {M : Model} {rest : List Value} {kw : List (Str × Value)} {Q : Unit → Shared → Prop} (hC : h.get? C = some (excClassObj nm q C N bs bm hdct sn sub ab col dd k0 k1 k2 k3 k5 newId)) (hq : Q () ⟨h, g, d, t, os⟩) : wpAny M A (checkBuiltinCall "type.__call__" ⟨.ref C :: rest, kw⟩) Q E ⟨h, g, d, t, os⟩ := by
  have own := tc_sub
  have typed : (⟨h, g, d, t, os⟩ : Shared).TypeIs (.ref C) "type" := ⟨_, hC, rfl⟩
  simp only [checkBuiltinCall, tc_kind, tc_split]
  repeat (any_goals (first | assumption | with_reducible refine wpAny_loadPart_at hC ?_ | with_reducible refine wpAny_onRaise ?_ | with_reducible refine wpAny_map ?_ | wp_step))
theorem type_callK (F : ExcBaseFacts B newId initId bm) {rest : List Value} {kw : List (Str × Value)} {fI : Addr} {Q : Fin → Shared → Prop} (hC : h.get? C = some (excClassObj nm q C N bs bm hdct sn sub ab col dd k0 k1 k2 k3 k5 newId))
    (hi : W.Looks (model prog w) h (typeLookup (.ref C) "__init__") (some (.ref fI))) (hb : ∀ self, W.Looks (model prog w) h (bindSpecial (.ref fI) self) (.ref fI, [self])) (hrest : rest.length ≤ sizeLine)
    (hq : codeAny (model prog w) A (.call (.ref fI) ⟨.ref (h.objs.size + 1) :: rest, kw⟩)
      (fun r s' => match r with | .ok (.ret v) => v = .none ∧ Q (.done (.ret (.ref (h.objs.size + 1)))) s' | .ok _ => False | .error e => E e s')
      ⟨(h.push (W.kdv_tup rest)).push (excO C h.objs.size), g, d, t, os⟩) :
    wpAny (model prog w) A (Builtin.«type.__call__» ⟨.ref C :: rest, kw⟩) Q E ⟨h, g, d, t, os⟩ := by
  repeat (first | with_reducible refine wpAny_loadPart_at hC ?_ | with_reducible refine wpAny_madeBy_exc hC ?_ | wp_step)
  refine codeAny_call_builtin_code (Code.quiet_builtin _ F.quiet) (check_newK F hC (new_ownK F hC (show wpAny _ _ _ _ _ _ from ?_) hrest))
  have kp : ∀ b o, h.get? b = some o → ((h.push (W.kdv_tup rest)).push (excO C h.objs.size)).get? b = some o := fun b o e => Heap.get?_push_of_some _ (Heap.get?_push_of_some _ e)
  have hC1 := kp _ _ hC
  have made : ((h.push (W.kdv_tup rest)).push (excO C h.objs.size)).get? (h.objs.size + 1) = some (excO C h.objs.size) := by heap_get
  have self1 : (Value.ref C :: bm).contains (.ref C) = true := by simp
  have looked := hi.keeps kp
  have bound := (hb (.ref (h.objs.size + 1))).keeps kp
  unfold isInstance
  repeat (first | with_reducible refine wpAny_loadPart_at made ?_ | (with_reducible refine wpAny_isSubtype_exc hC1 ?_; rw [self1]) | wp_step)
  refine (show wpAny _ _ (typeLookup (.ref C) _) _ _ _ from looked.at (wpAny_holding (wpAny_bind (bound.at (wpAny_bind (wpAny_call (codeAny_mono hq fun res s2 z => ?_)))))))
  match res, z with
  | .error e, z => exact z
  | .ok (.ret v), z =>
    obtain ⟨rfl, z⟩ := z
    first
      | exact wpAny_pure (wpAny_pure z)
      | (wp_walk; exact z)
  | .ok .next, z => exact z.elim
  | .ok .brk, z => exact z.elim
  | .ok .cont, z => exact z.elim
theorem call_ownK (F : ExcBaseFacts B newId initId bm) {rest : List Value} {kw : List (Str × Value)} {fI : Addr} (hC : h.get? C = some (excClassObj nm q C N bs bm hdct sn sub ab col dd k0 k1 k2 k3 k5 newId))
    (hi : W.Looks (model prog w) h (typeLookup (.ref C) "__init__") (some (.ref fI))) (hb : ∀ self, W.Looks (model prog w) h (bindSpecial (.ref fI) self) (.ref fI, [self])) (hrest : rest.length ≤ sizeLine)
    (hq : codeAny (model prog w) (A.under (.builtin "type.__call__" ⟨.ref C :: rest, kw⟩)) (.call (.ref fI) ⟨.ref (h.objs.size + 1) :: rest, kw⟩) (W.InitBack (h.objs.size + 1) R)
      ⟨(h.push (W.kdv_tup rest)).push (excO C h.objs.size), g, d, t, os⟩) :
    codeAny (model prog w) A (.call (.ref C) ⟨rest, kw⟩) R ⟨h, g, d, t, os⟩ := by
  have l1 := tc_lookup
  have l2 := tc_bind (.ref C)
  have hTy : (⟨h, g, d, t, os⟩ : Shared).TypeIs (.ref C) "type" := ⟨_, hC, rfl⟩
  refine codeAny_of_tree (show wpAny _ _ (callAny (.ref C) _) _ _ _ from ?_)
  repeat (any_goals (first | assumption | with_reducible refine wpAny_loadPart_at hC ?_ | wp_step))
  refine ⟨rfl, codeAny_call_builtin_at (Code.quiet_builtin _ (by decide +kernel)) entry_typeCall (check_callK hC (type_callK F hC hi hb hrest (codeAny_mono hq fun res s2 z => ?_)))⟩
  match res, z with
  | .error e, z => exact z
  | .ok (.ret v), z => exact z
  | .ok .next, z => exact z.elim
  | .ok .brk, z => exact z.elim
  | .ok .cont, z => exact z.elim
end
end VkX
end PySem
set_option Elab.async false
set_option maxRecDepth 100000
set_option maxHeartbeats 4000000
set_option linter.all false
namespace PySem
namespace VkX
open PySem.W PySem.Calls PyProof.Rows Builtin Builtin.ObjectAttr PySem.HandSPX
section
variable {prog : Program} {w : World} {A : Around} {E : Value → Shared → Prop} {R : Result → Shared → Prop} {hp : Heap} {g : Array GenState} {d : Drawn} {t : Nat} {os : OsState}
/-- object.__setattr__ on an exception of an own class, up to the store into its own dict -/
theorem osa_way {K : Frag} {name : Str} {tk : Tok} {v : Value} {x C : Addr} {ox : Obj} {od : Option Obj} {cd : ClassData} {B newId initId : String} {tl : List Value} (hB : ExB B newId initId tl)
    (X : K.In hp) (I : InstAt hp x ox C od) (hcd : clsIn K C = some cd) (hm : cd.mro = .ref C :: tl) (ha : findIn K (.ref C) name = some none)
    (hq : wpAny (model prog w) (A.under (.builtin "object.__setattr__" ⟨[.ref x, .str name tk, v], []⟩)) (storeInOwnDict (.ref x) (.ref C) (.str name tk) name v false)
      (fun fin s2 => match fin with | .done f => R (.ok f) s2 | .again c2 => c2.quiet = true ∧ codeAny (model prog w) A c2 R s2) (fun e s2 => R (.error e) s2) ⟨hp, g, d, t, os⟩) :
    codeAny (model prog w) A (.call (.builtin "object.__setattr__") ⟨[.ref x, .str name tk, v], []⟩) R ⟨hp, g, d, t, os⟩ := by
  have slot := F.store_object
  have some1 : cd.mro.isEmpty = false := by rw [hm]; rfl
  have obj1 : cd.mro.contains (.type "object") = true := by rw [hm, List.contains_cons, hB.obj, Bool.or_true]
  have within : Looks (model prog w) hp (isInstance (.ref x) (.type "object")) true := I.type.andThen (looks_mroIn X (by unfold mroIn; rw [hcd, Option.bind_some, if_neg (by rw [some1]; decide), obj1]))
  refine codeAny_call_builtin slot.slot.plain slot.entry (@check_slot (model prog w) _ _ ⟨hp, g, d, t, os⟩ "object.__setattr__" "object" "__setattr__" (.ref x) [.str name tk, v] [] _ slot.kind slot.split within (slot.args (.ref x) (.str name tk) v) ?_)
  have line : Looks (model prog w) hp (mroOf (.ref C)) cd.mro := (looks_clsIn X hcd).andThen .now
  rw [osa_eq, refuse_eq]
  refine wpAny_bind (wpAny_bind (I.type.at (wpAny_bind (line.at ?_))))
  rw [hm, refuseLoop_ref, hB.pass]
  exact wpAny_pure (wpAny_bind (I.type.at (wpAny_bind ((looks_findIn X ha).at (wpAny_bind ((show Looks (model prog w) hp (storeTaker? none) none from .now).at hq))))))
theorem osa_first {K : Frag} {name : Str} {tk : Tok} {v : Value} {x C : Addr} {fv : Array Value} {cd : ClassData} {B newId initId : String} {tl : List Value} (hB : ExB B newId initId tl)
    (X : K.In hp) (hx : hp.get? x = some { cls := .ref C, data := .fields fv }) (hcd : clsIn K C = some cd) (hm : cd.mro = .ref C :: tl) (hd : cd.hasDict = true) (ha : findIn K (.ref C) name = some none)
    (hq : ∀ h2 tk2 dx, (∀ b o, b ≠ x → hp.get? b = some o → h2.get? b = some o) → hp.objs.size ≤ dx → dx ≠ x → h2.get? x = some { cls := .ref C, dict := some dx, data := .fields fv } →
      h2.Ns1 dx (fun y => if y = name then some v else none) → R (.ok (.ret .none)) ⟨h2, g, d, tk2, os⟩) :
    codeAny (model prog w) A (.call (.builtin "object.__setattr__") ⟨[.ref x, .str name tk, v], []⟩) R ⟨hp, g, d, t, os⟩ := by
  refine osa_way hB X (ox := { cls := .ref C, data := .fields fv }) (od := none) ⟨hx, rfl, rfl, trivial⟩ hcd hm ha ?_
  have far : x ≠ hp.objs.size := Nat.ne_of_lt (Heap.lt_size hx)
  have whole : Looks (model prog w) hp (classData C) cd := looks_clsIn X hcd
  obtain ⟨c1, c2, c3, c4, c5, c6, c7, c8, c9, c10, c11⟩ := cd
  cases (show c6 = true from hd)
  unfold storeInOwnDict ownDictForStores
  repeat (first | with_reducible refine store_in_new ?_ ?_ | with_reducible refine wpAny_loadPart_at hx ?_ | with_reducible refine whole.at ?_ | wp_step)
  · exact ⟨_, #[], _, (Heap.get?_update_ne _ _ _ _ far.symm).trans (Heap.get?_push_at rfl rfl), rfl, fun e he => absurd he (by simp), fun _ => rfl⟩
  · intro h2 tk2 ns same
    have there : (hp.push { cls := .type "dict", data := .dict #[] }).get? x = some { cls := .ref C, data := .fields fv } := Heap.get?_push_of_some _ hx
    exact hq h2 tk2 hp.objs.size (fun b o hb ho => (same.2 b (Nat.ne_of_lt (Heap.lt_size ho))).trans ((Heap.get?_update_ne _ _ _ _ hb).trans (Heap.get?_push_of_some _ ho))) (Nat.le_refl _) far.symm
      ((same.2 x far).trans (Heap.get?_update_self _ there rfl)) ns
theorem osa_next {K : Frag} {name : Str} {tk : Tok} {v : Value} {x C dx : Addr} {fv : Array Value} {cd : ClassData} {m0 : Str → Option Value} {nl : List Str} {B newId initId : String} {tl : List Value} (hB : ExB B newId initId tl)
    (X : K.In hp) (hx : hp.get? x = some { cls := .ref C, dict := some dx, data := .fields fv }) (hns : hp.Ns1 dx m0) (hw : Within m0 nl) (hz : nl.length ≤ 1000) (hcd : clsIn K C = some cd) (hm : cd.mro = .ref C :: tl) (hd : cd.hasDict = true) (ha : findIn K (.ref C) name = some none)
    (hq : ∀ h2 tk2, (∀ b o, b ≠ dx → hp.get? b = some o → h2.get? b = some o) → h2.Ns1 dx (fun y => if y = name then some v else m0 y) → R (.ok (.ret .none)) ⟨h2, g, d, tk2, os⟩) :
    codeAny (model prog w) A (.call (.builtin "object.__setattr__") ⟨[.ref x, .str name tk, v], []⟩) R ⟨hp, g, d, t, os⟩ := by
  obtain ⟨oD, esD, epD, hoD, hdD, _⟩ := hns.count hw
  refine osa_way hB X (ox := { cls := .ref C, dict := some dx, data := .fields fv }) (od := some oD) ⟨hx, rfl, rfl, hoD⟩ hcd hm ha ?_
  have whole : Looks (model prog w) hp (classData C) cd := looks_clsIn X hcd
  obtain ⟨c1, c2, c3, c4, c5, c6, c7, c8, c9, c10, c11⟩ := cd
  cases (show c6 = true from hd)
  unfold storeInOwnDict ownDictForStores
  repeat (first | with_reducible refine PySem.OEX.store_in_old hns hw hz ?_ | with_reducible refine wpAny_loadPart_at hx ?_ | with_reducible refine whole.at ?_ | wp_step)
  intro h2 tk2 ns same
  exact hq h2 tk2 (fun b o hb ho => (same.2 b hb).trans ho) ns
end
end VkX
end PySem
namespace Vk
open L2 PySem PySem.Spec PyProof.Rows PySem.VkX
/-- what the written part says of an own exception class over one of the four -/
structure OexK (K : PySem.W.Frag) (C : Addr) : Prop where
  cls : ∃ B newId initId tl nm q N bs sn sub ab col dd k0 k1 k2 k3 k5, ExB B newId initId tl ∧ K.lookup C = some (excClassObj nm q C N bs tl true sn sub ab col dd k0 k1 k2 k3 k5 newId)
  sa : PySem.W.findIn K (.ref C) "__setattr__" = some (some (.builtin "object.__setattr__"))
  kC : PySem.W.keepIn K (.ref C) = true
  xf : XfC K C
  ic : ExcC K C
section
variable {X : Cx} {pins : List (Addr × Obj)} {σ : L2.St} {H : Hp} {s : Shared} {a C dx : Addr} {f : Str} {y : V} {u : Value} {fs : List (Str × V)} {Q : Unit → Shared → Prop} {E : Value → Shared → Prop} {A : Around}
theorem kst_first (T : OexK X.K C) (I : Inv X pins σ H s) (e : H a = some (exo a C none)) (hno : PySem.W.findIn X.K (.ref C) f = some none) (ry : RelV y u)
    (h : ∀ dx s2, H dx = none → dx ≠ a → Inv X pins σ (upd (upd H dx (exd dx [(f, y)])) a (exo a C (some dx))) s2 → Q () s2) : wpAny (model X.prog X.w) A (setAttr (.ref a) f u) Q E s := by
  obtain ⟨B, newId, initId, tl, nm, q, N, bs, sn, sub, ab, col, dd, k0, k1, k2, k3, k5, hB, hC⟩ := T.cls
  have hcl : PySem.W.clsIn X.K C = some { name := nm, bases := bs, mro := .ref C :: tl, ns := N, qualname := q, hasDict := true, slotNames := sn, subclasses := sub, abstract := ab, collection := col, hasDel := false } := by unfold PySem.W.clsIn; rw [hC] <;> rfl
  obtain ⟨t1, ho⟩ := exo_at I.hok e
  obtain ⟨hp, g, d, t, os⟩ := s
  refine PySem.W.set_plain I.kIn (ox := { cls := .ref C, dict := none, data := .fields #[.ref t1, .none, .none, .none, .bool false, .none] }) (od := none) ⟨ho, rfl, rfl, trivial⟩ T.sa ?_
  refine osa_first hB I.kIn ho hcl rfl rfl hno fun h2 tk2 dx kept low apart put ns => ?_
  have free1 : H dx = none := I.hok.fresh low
  have old1 : ∀ {b : Addr} {o : Obj}, hp.get? b = some o → b ≠ dx := fun z => Nat.ne_of_lt (Nat.lt_of_lt_of_le (Heap.lt_size z) low)
  have not1 : ∀ {b : Addr}, H b = none → b ≠ a := fun n z => nomatch (z ▸ n).symm.trans e
  have un1 : Un X.fs [] H (upd (upd H dx (exd dx [(f, y)])) a (exo a C (some dx))) hp h2 := {
    keep := fun b o z n _ _ => kept b o (not1 n) z
    slot := fun b o z n _ _ => ⟨o.slots, kept b o (not1 n) z⟩
    free := fun b o z n _ => (upd_ne (not1 n)).trans ((upd_ne (old1 z)).trans n)
    there := fun b o z _ => by
      by_cases hb : b = a
      · exact ⟨_, hb ▸ put⟩
      · exact ⟨o, kept b o hb z⟩
    tups := fun b xs z => (upd_ne (at_ne e z exo_tup)).trans ((upd_ne (ne_of_none z free1)).trans z)
    frzs := fun b o v z => (upd_ne (at_ne e z exo_frz)).trans ((upd_ne (ne_of_none z free1)).trans z)
    tbls := fun b ps z => ⟨#[], by rw [upd_ne (at_ne e z exo_tbl), upd_ne (ne_of_none z free1), z]; simp⟩ }
  refine h dx _ free1 apart (I.un (t' := tk2) un1 fun b o z => ?_)
  by_cases hb : b = a
  · subst hb
    rw [upd_same] at z
    cases z
    exact exo_ok put
  · rw [upd_ne hb] at z
    by_cases hd : b = dx
    · subst hd
      rw [upd_same] at z
      cases z
      exact exd_ok ns (relO_put (fs := []) ry fun g => True.intro)
    · rw [upd_ne hd] at z
      refine (I.hok b o z).stay (fun c v hc r => kept c v ?_ r) (fun c hc => (upd_ne (at_ne e hc exo_own)).trans ((upd_ne (ne_of_none hc free1)).trans hc)) (fun c xs hc => (upd_ne (at_ne e hc exo_tup)).trans ((upd_ne (ne_of_none hc free1)).trans hc))
      exact hc.elim (fun z => z ▸ hb) (fun z => at_ne e z exo_own)
theorem kst_next (T : OexK X.K C) (I : Inv X pins σ H s) (e : H a = some (exo a C (some dx))) (ed : H dx = some (exd dx fs)) (hl : fs.length ≤ 900) (hno : PySem.W.findIn X.K (.ref C) f = some none) (ry : RelV y u)
    (h : ∀ s2, Inv X pins σ (upd H dx (exd dx ((f, y) :: fs))) s2 → Q () s2) : wpAny (model X.prog X.w) A (setAttr (.ref a) f u) Q E s := by
  obtain ⟨B, newId, initId, tl, nm, q, N, bs, sn, sub, ab, col, dd, k0, k1, k2, k3, k5, hB, hC⟩ := T.cls
  have hcl : PySem.W.clsIn X.K C = some { name := nm, bases := bs, mro := .ref C :: tl, ns := N, qualname := q, hasDict := true, slotNames := sn, subclasses := sub, abstract := ab, collection := col, hasDel := false } := by unfold PySem.W.clsIn; rw [hC] <;> rfl
  obtain ⟨t1, ho⟩ := exo_at I.hok e
  obtain ⟨mA, hns, rel⟩ := exd_at I.hok ed
  have hw := within_of rel
  obtain ⟨hp, g, d, t, os⟩ := s
  obtain ⟨oD, _, _, hoD, _, _⟩ := hns.count hw
  refine PySem.W.set_plain I.kIn (ox := { cls := .ref C, dict := some dx, data := .fields #[.ref t1, .none, .none, .none, .bool false, .none] }) (od := some oD) ⟨ho, rfl, rfl, hoD⟩ T.sa ?_
  refine osa_next hB I.kIn ho hns hw (by rw [List.length_map]; omega) hcl rfl rfl hno fun h2 tk2 kept ns => ?_
  exact h _ (I.write (t' := tk2) (x := dx) (e := dx) (o := exd dx ((f, y) :: fs)) (by rw [ed]; exact True.intro) (.inl rfl) kept (match ns with | ⟨o, _, _, z, _⟩ => ⟨o, z⟩) (exd_ok ns (relO_put ry rel)))
end
/-- self.f = e on such an exception -/
def tOsk (K : PySem.W.Frag) (f : Str) (to te : TE) : TS := fun D σ H => te σ H fun y H1 => to σ H1 fun x H2 => ∃ a C : Addr, x = .ref a ∧ OexK K C ∧ PySem.W.findIn K (.ref C) f = some none ∧
  ((H2 a = some (exo a C none) ∧ ∀ dx, H2 dx = none → dx ≠ a → D.nx σ (upd (upd H2 dx (exd dx [(f, y)])) a (exo a C (some dx)))) ∨
    ∃ (dx : Addr) (fs : List (Str × V)), H2 a = some (exo a C (some dx)) ∧ H2 dx = some (exd dx fs) ∧ fs.length ≤ 900 ∧ D.nx σ (upd H2 dx (exd dx ((f, y) :: fs))))
section
variable {X : Cx} {o e : Expr} {es : List Expr} {to te : TE} {ta : TA} {f : Str} {p p' p1 p2 pos : Pos}
theorem ps_osk (ho : PE X o to) (he : PE X e te) (hs : swapsWith e (some (.Attribute o f p')) pos.line X.env = pure false := by rfl) : PS X (.Assign [.Attribute o f p'] e pos) (tOsk X.K f to te) := by
  refine ⟨fun pins s σ H D I h => plainObj_wpAny_Assign_Attribute (thn (he.run pins s σ H _ I h) fun v s1 ⟨y, H1, I1, r1, q1⟩ => thn (ho.run pins s1 σ H1 _ I1 q1) fun u s2 ⟨x, H2, I2, r2, a, C, ex, T, hno, q⟩ => ?_) hs⟩
  subst ex
  obtain rfl : u = Value.ref a := r2
  exact q.elim (fun z => kst_first T I2 z.1 hno r1 fun dx s3 n ne J => ⟨σ, _, J, z.2 dx n ne⟩) (fun ⟨dx, fs, ea, ed, hl, z⟩ => kst_next T I2 ea ed hl hno r1 fun s3 J => ⟨σ, _, J, z⟩)
end
end Vk
set_option Elab.async false
set_option maxRecDepth 100000
set_option maxHeartbeats 4000000
set_option linter.all false
namespace Vk
open L2 PySem PySem.Spec PyProof.Rows PySem.VkX
/-! ## making one -/
/-- __init__(self, f1, ..): the fields stored in their order -/
def spIni (C : Addr) (fsn : List Str) : Sp := fun vs H Q E => ∃ a ws, vs = .ref a :: ws ∧ ws.length = fsn.length ∧ H a = some (exo a C none) ∧
  (fsn = [] → Q .non H) ∧ (fsn ≠ [] → ∀ d, H d = none → d ≠ a → Q .non (upd (upd H d (exd d (fsn.zip ws).reverse)) a (exo a C (some d))))
structure ClsI (P : Program) (w : World) (K : PySem.W.Frag) (mg : Str → Option Value) (base : Heap) (k : Nat) (x : Str) (C : Addr) (fsn : List Str) : Prop where
  T : OexK K C
  hm : mg x = some (.ref C)
  no : ∀ f ∈ fsn, PySem.W.findIn K (.ref C) f = some none
  ex : ∃ (fI : Addr) (fd : FuncData), PySem.W.findIn K (.ref C) "__init__" = some (some (.ref fI)) ∧ PySem.W.typeIn K (.ref fI) = some (.type "function") ∧ FnG P w K mg base CX0 k fI fd (("self" : Str) :: fsn) (spIni C fsn) ∧ Binds K fd (("self" : Str) :: fsn) [] ∧
    (∀ (s : Shared) (v : Value) (ws : List Value), K.In s.heap → ws.length = fsn.length → BindsTo s fd ⟨[v], fsn.reverse.zip ws⟩ ((("self" : Str) :: fsn).zip (v :: ws.reverse)))
theorem upd_over {H : Hp} {a d : Addr} {o1 o2 o3 : HO} (h : d ≠ a) : upd (upd (upd H a o1) d o2) a o3 = upd (upd H d o2) a o3 := by
  funext b
  by_cases hb : b = a
  · subst hb; rw [upd_same, upd_same]
  · rw [upd_ne hb, upd_ne hb]
    by_cases hd : b = d
    · subst hd; rw [upd_same, upd_same]
    · rw [upd_ne hd, upd_ne hd, upd_ne hb]
section
variable {X : Cx} {j k : Nat} {x : Str} {C : Addr} {fsn : List Str} {p pos : Pos} {e : Expr} {es : List Expr} {t : TA}
theorem few_len {n : Nat} (h : n ≤ 1000) : n ≤ sizeLine := Nat.le_trans h (by rw [sizeLine_eq]; decide)
end
end Vk
set_option Elab.async false
set_option maxRecDepth 100000
set_option maxHeartbeats 4000000
set_option linter.all false
namespace Vk
open L2 PySem PySem.Spec PyProof.Rows PySem.VkX
/-- the j-th statement of a class -/
def mtd (st : Stmt) (j : Nat) : Stmt := match st with
  | .ClassDef _ _ _ b _ _ _ _ _ _ _ => b.getD j (.Pass ⟨0, 0, 0, 0⟩)
  | _ => .Pass ⟨0, 0, 0, 0⟩
theorem no1 {P : Str → Prop} {a : Str} (h : P a) : ∀ f ∈ ([a] : List Str), P f := fun f z => by
  rw [List.mem_singleton] at z
  exact z ▸ h
theorem no2 {P : Str → Prop} {a b : Str} (h : P a) (h2 : P b) : ∀ f ∈ ([a, b] : List Str), P f := fun f z => by
  rcases List.mem_cons.mp z with z | z
  · exact z ▸ h
  · rw [List.mem_singleton] at z
    exact z ▸ h2
/-- the class at C has the name x and these classes behind it -/
def ClsN (K : PySem.W.Frag) (C : Addr) (x : Str) (tl : List Value) : Prop := ∃ newId q N bs sn sub ab col dd k0 k1 k2 k3 k5, K.lookup C = some (excClassObj x q C N bs tl true sn sub ab col dd k0 k1 k2 k3 k5 newId)
structure ExcTxt (K : PySem.W.Frag) (x qual : Str) (st : Stmt) (C fI : Addr) (fd : FuncData) (fsn : List Str) (tl : List Value) : Prop where
  cn : ClsN K C x tl
  ns : PySem.W.nsIn K mainGlobals x = some (some (.ref C))
  T : OexK K C
  iC : PySem.W.findIn K (.ref C) "__init__" = some (some (.ref fI))
  tI : PySem.W.typeIn K (.ref fI) = some (.type "function")
  no : ∀ f ∈ fsn, PySem.W.findIn K (.ref C) f = some none
  fn : Fun K "__init__" qual st fI fd
theorem exc_mk {K : PySem.W.Frag} {x qual : Str} {st : Stmt} {C fI : Addr} {fsn : List Str} {B newId initId : String} {tl : List Value} {q : Str} {N : Addr} {bs : List Value} {sn : List Str} {sub : List Value} {ab : Bool} {col : Option Bool} {dd : Option Addr} {k0 k1 k2 k3 k5 : Option Value}
    {oc : Value} {od an : Option Addr} {sl : Array (Option Value)} {kV doc pm cd ct : Value} (hB : ExB B newId initId tl) (ns : PySem.W.nsIn K mainGlobals x = some (some (.ref C))) (iC : PySem.W.findIn K (.ref C) "__init__" = some (some (.ref fI)))
    (cls : K.lookup C = some (excClassObj x q C N bs tl true sn sub ab col dd k0 k1 k2 k3 k5 newId)) (sa : PySem.W.findIn K (.ref C) "__setattr__" = some (some (.builtin "object.__setattr__"))) (kC : PySem.W.keepIn K (.ref C) = true)
    (ga : PySem.W.findIn K (.ref C) "__getattribute__" = some (some (.builtin "BaseException.__getattribute__"))) (gg : PySem.W.findIn K (.ref C) "__getattr__" = some none) (ex : PySem.W.subIn K (.ref C) (.type "BaseException") = some true) (hd : PySem.W.hasDictIn K C = true)
    (ha : PySem.W.findIn K (.ref C) "__class__" = some (some (.builtin "object.__class__"))) (hn : PySem.W.specialIn K (.builtin "object.__class__") "__get__" = some (some (.builtin "getset_descriptor.__get__"))) (ht : PySem.W.takesIn K (.builtin "object.__class__") = some true)
    (hm : PySem.W.mroIn K C (.type "object") = some true) (tI : PySem.W.typeIn K (.ref fI) = some (.type "function")) (kI : PySem.W.keepIn K (.ref fI) = true) (no : ∀ f ∈ fsn, PySem.W.findIn K (.ref C) f = some none)
    (l : K.lookup fI = some ⟨oc, od, .func (PySem.W.fnOf "__init__" qual (defArgs st) (defBody st) (defScope st) .none kV doc pm an cd ct), sl⟩) (c : PySem.W.codeIn K cd qual = true) :
    ExcTxt K x qual st C fI (PySem.W.fnOf "__init__" qual (defArgs st) (defBody st) (defScope st) .none kV doc pm an cd ct) fsn tl := by
  exact ⟨⟨newId, q, N, bs, sn, sub, ab, col, dd, k0, k1, k2, k3, k5, cls⟩, ns, ⟨⟨B, newId, initId, tl, x, q, N, bs, sn, sub, ab, col, dd, k0, k1, k2, k3, k5, hB, cls⟩, sa, kC, ⟨ga, gg, ex, hd⟩, ⟨ga, gg, ex, hd, ha, hn, ht, hm⟩⟩, iC, tI, no, fun_mk l c kI⟩
section
variable {P : Program} {w : World} {K : PySem.W.Frag} {mg : Str → Option Value} {base h : Heap} {x qual f f2 : Str} {st : Stmt} {C fI : Addr} {fd : FuncData} {p1 p2 p3 p4 q1 q2 q3 q4 : Pos}
theorem ClsI.of1 {tl : List Value} (G : ExcTxt K x qual st C fI fd [f] tl) (KX : K.In h) (Gn : h.Ns mainGlobals mg) (F : FnG P w K mg base CX0 1 fI fd [("self" : Str), f] (spIni C [f]))
    (hb : ∀ (kV doc pm : Value) (an : Option Addr) (cdv ct v y : Value), bindArgs (PySem.W.fnOf "__init__" qual (defArgs st) (defBody st) (defScope st) .none kV doc pm an cdv ct) ⟨[v, y], []⟩ = pure [(("self" : Str), v), (f, y)])
    (hk : ∀ (kV doc pm : Value) (an : Option Addr) (cdv ct v y : Value), bindArgs (PySem.W.fnOf "__init__" qual (defArgs st) (defBody st) (defScope st) .none kV doc pm an cdv ct) ⟨[v], [((f : Str), y)]⟩ = pure [(("self" : Str), v), (f, y)]) : ClsI P w K mg base 1 x C [f] where
  T := G.T
  hm := PySem.W.mg_of KX Gn G.ns
  no := G.no
  ex := ⟨fI, fd, G.iC, G.tI, F, G.fn.binds fun kV doc pm an cdv ct us hl => match us, hl with | [v, y], _ => hb kV doc pm an cdv ct v y, fun s v ws KI hl => by
    match ws, hl with
    | [y], _ =>
      obtain ⟨oc, od, kV, doc, pm, an, cdv, ct, osl, rfl, lk, hcd⟩ := G.fn.ex
      exact .of_eq (hk kV doc pm an cdv ct v y)⟩
theorem ClsI.of2 {tl : List Value} (G : ExcTxt K x qual st C fI fd [f, f2] tl) (KX : K.In h) (Gn : h.Ns mainGlobals mg) (F : FnG P w K mg base CX0 1 fI fd [("self" : Str), f, f2] (spIni C [f, f2]))
    (hb : ∀ (kV doc pm : Value) (an : Option Addr) (cdv ct v y z : Value), bindArgs (PySem.W.fnOf "__init__" qual (defArgs st) (defBody st) (defScope st) .none kV doc pm an cdv ct) ⟨[v, y, z], []⟩ = pure [(("self" : Str), v), (f, y), (f2, z)])
    (hk : ∀ (kV doc pm : Value) (an : Option Addr) (cdv ct v y z : Value), bindArgs (PySem.W.fnOf "__init__" qual (defArgs st) (defBody st) (defScope st) .none kV doc pm an cdv ct) ⟨[v], [(f2, z), (f, y)]⟩ = pure [(("self" : Str), v), (f, y), (f2, z)]) : ClsI P w K mg base 1 x C [f, f2] where
  T := G.T
  hm := PySem.W.mg_of KX Gn G.ns
  no := G.no
  ex := ⟨fI, fd, G.iC, G.tI, F, G.fn.binds fun kV doc pm an cdv ct us hl => match us, hl with | [v, y, z], _ => hb kV doc pm an cdv ct v y z, fun s v ws KI hl => by
    match ws, hl with
    | [z, y], _ =>
      obtain ⟨oc, od, kV, doc, pm, an, cdv, ct, osl, rfl, lk, hcd⟩ := G.fn.ex
      exact .of_eq (hk kV doc pm an cdv ct v y z)⟩
end
end Vk
namespace Vk
open L2 PySem PySem.Spec PyProof.Rows PySem.VkX
theorem two_upd {H : Hp} {a d : Addr} {o1 o2 o3 : HO} (h : d ≠ a) : upd (upd (upd H d o1) a o2) d o3 = upd (upd H d o3) a o2 := by
  funext b
  by_cases hb : b = d
  · subst hb; rw [upd_same, upd_ne h, upd_same]
  · rw [upd_ne hb]
    by_cases ha : b = a
    · subst ha; rw [upd_same, upd_same]
    · rw [upd_ne ha, upd_ne ha, upd_ne hb, upd_ne hb]
end Vk
set_option Elab.async false
set_option maxRecDepth 100000
set_option maxHeartbeats 4000000
set_option linter.all false
namespace Vk
open L2 PySem PySem.Spec PyProof.Rows PySem.VkX
/-! ## values that are shown, dicts among them -/
inductive Atm : V → PyData → Prop
  | non : Atm .non .none
  | bl (b : Bool) : Atm (.bl b) (.bool b)
  | int (i : Int) : Atm (.int i) (.int i)
  | str (x : Str) : Atm (.str x) (.str x)
def kvS (ps : List (Str × Str)) : List (Key × V) := ps.map fun p => (Sum.inr p.1, V.str p.2)
def kvD (ps : List (Str × Str)) : List (PyData × PyData) := ps.map fun p => (.str p.1, .str p.2)
/-- one level deep -/
inductive Th (H : Hp) : V → PyData → Prop
  | atm {v : V} {d : PyData} : Atm v d → Th H v d
  | lst {a : Addr} {xs : List V} {ds : List PyData} : H a = some (.lst xs) → a ≠ sysModules → Paired Atm xs ds → Th H (.ref a) (.list ds)
  | tup {a : Addr} {xs : List V} {ds : List PyData} : H a = some (.tup xs) → Paired Atm xs ds → Th H (.ref a) (.tuple ds)
  | dct {a : Addr} {ps : List (Str × Str)} : H a = some (.dK (kvS ps)) → Th H (.ref a) (.dict (kvD ps))
theorem Th.keep {H H' : Hp} {v : V} {d : PyData} (h : Th H v d) (k : ∀ a o, H a = some o → H' a = some o) : Th H' v d := by
  cases h with
  | atm h => exact .atm h
  | lst e n h => exact .lst (k _ _ e) n h
  | tup e h => exact .tup (k _ _ e) h
  | dct e => exact .dct (k _ _ e)
section
variable {X : Cx} {pins : List (Addr × Obj)} {σ : L2.St} {H : Hp} {s : Shared}
theorem Atm.reads {h : Heap} {v : V} {u : Value} {d : PyData} (a : Atm v d) (r : RelV v u) : Reads h u d [] ∧ d.hasDict = false := by
  cases a with
  | non => cases r; exact ⟨Reads.none, by simp only [PyData.hasDict]⟩
  | bl b => cases r; exact ⟨Reads.bool b, by simp only [PyData.hasDict]⟩
  | int i => obtain ⟨t, rfl⟩ := r; exact ⟨Reads.int i t, by simp only [PyData.hasDict]⟩
  | str x => obtain ⟨t, rfl⟩ := r; exact ⟨Reads.str x t, by simp only [PyData.hasDict]⟩
theorem atms_reads {h : Heap} : ∀ {vs : List V} {ds : List PyData} {us : List Value}, Paired Atm vs ds → Vals vs us → ReadsAll h us ds [] ∧ PyData.hasDictAll ds = false
  | _, _, _, .nil, .nil => ⟨ReadsAll.nil, by simp only [PyData.hasDictAll]⟩
  | _, _, _, .cons a t, .cons r rs => by
    obtain ⟨h1, n1⟩ := a.reads (h := h) r
    obtain ⟨h2, n2⟩ := atms_reads (h := h) t rs
    exact ⟨ReadsAll.cons h1 h2, by simp only [PyData.hasDictAll, n1, n2, Bool.or_false]⟩
theorem strs_read {P : Program} {w : World} {h : Heap} : ∀ {ps : List (Str × Str)} {vs : List (Key × Value)} {es : List DictEntry}, KV (kvS ps) vs → Pairs (mixKind P w) es vs →
    ReadsAll h (es.map (·.key)) ((kvD ps).map (·.1)) [] ∧ ReadsAll h (es.map (·.val)) ((kvD ps).map (·.2)) []
  | [], _, _, .nil, .nil => ⟨ReadsAll.nil, ReadsAll.nil⟩
  | p :: ps, _, _, .cons a t, .cons k v r => by
    obtain ⟨h1, h2⟩ := strs_read (P := P) (w := w) (h := h) (ps := ps) t r
    obtain ⟨e1, e2⟩ := a
    rw [mixKind_is, ← e1] at k
    obtain ⟨y, ey⟩ := (show ∃ y, _ = Value.str p.2 y from e2)
    rcases keyIs_shape k with ⟨i, t, z, _⟩ | ⟨x, t, z, z2⟩
    · cases z
    · cases z
      refine ⟨?_, ?_⟩
      · have q := ReadsAll.cons (Reads.str (h := h) p.1 t) h1
        rw [← z2] at q
        exact q
      · have q := ReadsAll.cons (Reads.str (h := h) p.2 y) h2
        rw [← ey, ← v] at q
        exact q
theorem Th.reads (I : Inv X pins σ H s) {v : V} {u : Value} {d : PyData} (h : Th H v d) (r : RelV v u) : ∃ as, Reads s.heap u d as ∧ sysModules ∉ as := by
  cases h with
  | atm a =>
    obtain ⟨h1, n⟩ := a.reads (h := s.heap) r
    exact ⟨_, h1, List.not_mem_nil⟩
  | lst e ne a =>
    cases r
    obtain ⟨its, rv, ⟨o, n, ho, hc, _, hd⟩, _⟩ := I.list (SqL.of e)
    obtain ⟨h1, n1⟩ := atms_reads (h := s.heap) a rv
    exact ⟨_, Reads.list ho hc hd h1, fun z => by simp at z; exact ne z.symm⟩
  | tup e a =>
    cases r
    obtain ⟨its, rv, ⟨o, ho, hc, n, hd⟩, _⟩ := I.tuple (SqT.of e)
    obtain ⟨h1, n1⟩ := atms_reads (h := s.heap) a rv
    exact ⟨_, Reads.tuple ho hc hd h1, List.not_mem_nil⟩
  | @dct a ps e =>
    cases r
    obtain ⟨_, ne, vs, kv, o, es, ep, ho, ex, hd, _, pr, _⟩ := (show ObjOk X.prog X.w H s.heap a (.dK (kvS ps)) from I.hok a _ e)
    obtain ⟨h1, h2⟩ := strs_read (h := s.heap) kv pr
    refine ⟨_, Reads.dict ho ex.1 hd h1 h2, fun hm => ?_⟩
    have z : sysModules = a := by simpa using hm
    rw [← z] at ne
    exact absurd ne (by decide)
/-- what is handed to repr -/
def Shw (H : Hp) (x : V) (d : PyData) : Prop := Th H x d ∨ ∃ q y e, x = .ref q ∧ H q = some (.lst [y, y]) ∧ q ≠ sysModules ∧ Th H y e ∧ d = .list [e, e]
theorem Shw.reads (I : Inv X pins σ H s) {v : V} {u : Value} {d : PyData} (h : Shw H v d) (r : RelV v u) : ∃ as, Reads s.heap u d as ∧ (d.hasDict = true → sysModules ∉ as) := by
  rcases h with h | ⟨q, y, d, rfl, e, ne, t, rfl⟩
  · obtain ⟨as, h1, n1⟩ := h.reads I r
    exact ⟨as, h1, fun _ => n1⟩
  · cases r
    obtain ⟨its, rv, ⟨o, n, ho, hc, _, hd⟩, _⟩ := I.list (SqL.of e)
    cases rv with
    | cons r1 rv =>
      cases rv with
      | cons r2 rv =>
        cases rv
        obtain ⟨as, h1, n1⟩ := t.reads I r1
        obtain ⟨bs, h2, n2⟩ := t.reads I r2
        refine ⟨_, Reads.list ho hc hd (ReadsAll.cons h1 (ReadsAll.cons h2 ReadsAll.nil)), fun z => ?_⟩
        simp only [PyData.hasDict, PyData.hasDictAll, Bool.or_false, Bool.or_self] at z
        have m1 := n1
        have m2 := n2
        simp only [List.append_nil, List.mem_cons, List.mem_append, not_or]
        exact ⟨fun w => ne w.symm, m1, m2⟩
end
section
variable {X : Cx} {es : List Expr} {pos : Pos} {t : TA}
end
end Vk
set_option Elab.async false
set_option maxRecDepth 100000
set_option maxHeartbeats 4000000
set_option linter.all false
namespace Vk
open L2 PySem PySem.Spec PyProof.Rows PySem.VkX
/-! ## isinstance among own exception classes -/
section
variable {K : PySem.W.Frag} {C D : Addr} {x y : Str} {tl tl2 : List Value}
theorem ClsN.cls (c : ClsN K C x tl) : ∃ cd, PySem.W.clsIn K C = some cd ∧ cd.name = x ∧ cd.mro = .ref C :: tl ∧ PySem.W.typeIn K (.ref C) = some (.type "type") := by
  obtain ⟨newId, q, N, bs, sn, sub, ab, col, dd, k0, k1, k2, k3, k5, e⟩ := c
  refine ⟨{ name := x, bases := bs, mro := .ref C :: tl, ns := N, qualname := q, hasDict := true, slotNames := sn, subclasses := sub, abstract := ab, collection := col, hasDel := false }, ?_, rfl, rfl, ?_⟩
  · unfold PySem.W.clsIn; rw [e] <;> rfl
  · show (K.lookup C).map (·.cls) = _
    rw [e] <;> rfl
theorem ClsN.inj (c : ClsN K C x tl) (d : ClsN K D y tl2) : (C == D) = true → x = y := by
  intro h
  have e : C = D := by simpa using h
  subst e
  obtain ⟨cd, h1, h2, _⟩ := c.cls
  obtain ⟨ce, g1, g2, _⟩ := d.cls
  cases h1.symm.trans g1
  exact h2.symm.trans g2
/-- what stands at a name is one class -/
structure One (K : PySem.W.Frag) (C : Addr) (x : Str) (tl : List Value) : Prop where
  cn : ClsN K C x tl
  ns : PySem.W.nsIn K mainGlobals x = some (some (.ref C))
  rf : tl.all (fun v => match v with | .type _ => true | _ => false) = true
end
/-! ## list.count -/
/-! ## a comprehension over zip of two lists of one length -/
end Vk
set_option Elab.async false
set_option maxRecDepth 100000
set_option maxHeartbeats 4000000
set_option linter.all false
namespace Vk
open L2 PySem PySem.Spec PyProof.Rows PySem.VkX
/-! ## what is laid, told by what it shows -/
theorem Same.rfl {H : Hp} : Same H H := fun _ _ h => h
theorem Same.trans {H H1 H2 : Hp} (a : Same H H1) (b : Same H1 H2) : Same H H2 := fun c o h => b c o (a c o h)
def Mk (t : TE) (d : PyData) : Prop := ∀ σ H Q, (∀ v H', Same H H' → Th H' v d → Q v H') → t σ H Q
section
variable {t te : TE} {ta : TA} {d : PyData} {ds : List PyData}
theorem paired_len {α β : Type} {R : α → β → Prop} : ∀ {xs : List α} {ys : List β}, Paired R xs ys → xs.length = ys.length
  | _, _, .nil => rfl
  | _, _, .cons _ t => congrArg (· + 1) (paired_len t)
theorem ths_keep {H H' : Hp} (k : Same H H') : ∀ {vs : List V} {ds : List PyData}, Paired (Th H) vs ds → Paired (Th H') vs ds
  | _, _, .nil => .nil
  | _, _, .cons a t => .cons (a.keep k) (ths_keep k t)
theorem paired_app {α β : Type} {R : α → β → Prop} : ∀ {xs : List α} {ys : List β} {us : List α} {vs : List β}, Paired R xs ys → Paired R us vs → Paired R (xs ++ us) (ys ++ vs)
  | _, _, _, _, .nil, b => b
  | _, _, _, _, .cons a t, b => .cons a (paired_app t b)
end
/-- nothing of such a value is the pen -/
theorem Th.ext {H H' : Hp} {p c : Addr} {T : Nat} {v : V} {d : PyData} (h : Th H v d) (hp : Pen H p c T) (x : Ext p H H') : Th H' v d := by
  obtain ⟨ns, t, l, hpp, _⟩ := hp.ex
  cases h with
  | atm a => exact .atm a
  | lst e n a => exact .lst (x _ _ e (fun z => by rw [z, hpp] at e; cases e)) n a
  | tup e a => exact .tup (x _ _ e (fun z => by rw [z, hpp] at e; cases e)) a
  | @dct a ps e =>
    refine .dct (x _ _ e (fun z => ?_))
    rw [z, hpp] at e
    have e2 : penL c t l = kvS ps := HO.dK.inj (Option.some.inj e)
    match ps, e2 with
    | [], e2 => cases e2
    | q :: r, e2 =>
      have z := congrArg (fun l => (l.head?).map (·.2)) e2
      cases z
end Vk
namespace Vk
open L2 PySem PySem.Spec PyProof.Rows PySem.VkX
end Vk
namespace Vk
open L2 PySem PySem.Spec PyProof.Rows PySem.VkX
end Vk
set_option Elab.async false
set_option maxRecDepth 100000
set_option maxHeartbeats 4000000
set_option linter.all false
namespace Vk
open L2 PySem PySem.Spec PyProof.Rows PySem.VkX
/-! ## several except clauses, with a name or without -/
abbrev Sui := Addr → Value → Option Addr → TS
inductive Clz
  | only (c : Value) (ts : Sui)
  | named (c : Value) (i : Nat) (ts : Sui)
def SuiOk (X : Cx) (ss : List Stmt) (ts : Sui) : Prop := ∀ (a : Addr) (oe : Obj) (cls : Value) (d : Option Addr) (pn : List (Addr × Obj)), Zc cls d oe → (∃ vs, oe.data = .fields vs) → PSs (X.suite a ((a, oe) :: pn)) ss (ts a cls d)
inductive ClzOk (X : Cx) : List ExceptHandler → List Clz → Prop
  | nil : ClzOk X [] []
  | only {x : Str} {c : Value} {ts : Sui} {s0 : Stmt} {ss : List Stmt} {p1 p2 : Pos} {hs : List ExceptHandler} {l : List Clz} (hc : Names X x c) (su : SuiOk X (s0 :: ss) ts) (r : ClzOk X hs l) : ClzOk X (.ExceptHandler (some (.Name x p1)) none (s0 :: ss) p2 :: hs) (.only c ts :: l)
  | named {x n : Str} {c : Value} {i : Nat} {ts : Sui} {s0 : Stmt} {ss : List Stmt} {p1 p2 : Pos} {hs : List ExceptHandler} {l : List Clz} (hi : X.N[i]? = some n) (hl : X.env.kindOf n = some .local) (hc : Names X x c) (su : SuiOk X (s0 :: ss) ts) (r : ClzOk X hs l) :
      ClzOk X (.ExceptHandler (some (.Name x p1)) (some n) (s0 :: ss) p2 :: hs) (.named c i ts :: l)
section
variable {X : Cx} {body : List Stmt} {e0 : ExceptHandler} {es : List ExceptHandler} {l : List Clz} {pos : Pos} {tb : WX → TS} {W0 : WX}
end
end Vk
set_option Elab.async false
set_option maxRecDepth 100000
set_option maxHeartbeats 4000000
set_option linter.all false
namespace Vk
open L2 PySem PySem.Spec PyProof.Rows PySem.VkX
/-! ## C(e, ..) to be raised -/
theorem oex_type {K : PySem.W.Frag} {C : Addr} (T : OexK K C) : PySem.W.typeIn K (.ref C) = some (.type "type") := by
  obtain ⟨B, newId, initId, tl, nm, q1, N, bs, sn, sub, ab, col, dd, k0, k1, k2, k3, k5, hB, hC⟩ := T.cls
  show (K.lookup C).map (·.cls) = _
  rw [hC] <;> rfl
def tMkE (C : Addr) (fsn : List Str) (ta : TA) : L2.St → Hp → XK → Prop := fun σ H Q => ta σ H fun vs H1 => vs.length = fsn.length ∧ ∀ d, H1 d = none → Q (.ref C) (some d) (upd H1 d (.xd (fsn.zip vs).reverse))
theorem let_go {H : Hp} {a d : Addr} {o1 o2 o3 : HO} (n : H a = none) (ne : d ≠ a) : upd (del (upd (upd H d o1) a o2) a) d o3 = upd H d o3 := by
  funext b
  by_cases hd : b = d
  · subst hd; rw [upd_same, upd_same]
  · rw [upd_ne hd, upd_ne hd]
    by_cases ha : b = a
    · subst ha; rw [del_same, n]
    · rw [del_ne ha, upd_ne ha, upd_ne hd]
section
variable {X : Cx} {j k : Nat} {x : Str} {C : Addr} {fsn : List Str} {p pos : Pos} {e : Expr} {es : List Expr} {t : TA}
theorem pmk_k (c : ClsI X.prog X.w X.K X.mg X.base k x C fsn) (hg : X.A.guards = some []) (hr : Room j X.A) (hk : k + 1 ≤ j) (hx : Passes CX0 X (fun _ _ _ => False)) (ha : PA X (e :: es) t) (hn : fsn.length ≤ 1000 := by decide) (h0 : fsn ≠ [] := by decide) (gl : Gl X x := by rfl)
    (hdb : (x == ("__debug__" : Str)) = false := by decide) (he : starEach (e :: es) X.env = (false, eval e X.env) :: starEach es X.env := by rfl) (hpl : (backTo pos (starEach es X.env)).any (·.1) = false := by rfl) :
    PMk X (.Call (.Name x p) (e :: es) [] pos) (tMkE C fsn t) := by
  intro pins s σ H Q I h
  refine wpAny_Call_Name_kw (ld_glob I gl c.hm (PySem.W.callWith_K (h₀ := X.base) I.ok.mod.kin c.T.kC (thn (ha.run pos pins s σ H _ I h) fun us s1 hh => ?_) he hpl) hdb)
  obtain ⟨vs, H1, I1, r, hl, q⟩ := hh
  refine ⟨I1.kIn, ?_⟩
  show wpAny _ _ (call (.ref C) us) _ _ _
  have hus : us.length ≤ sizeLine := few_len (by rw [← r.length, hl]; exact hn)
  obtain ⟨fI, fd, iC, tI, F, hbn, hbk⟩ := c.ex
  obtain ⟨B, newId, initId, tl, nm, q1, N, bs, sn, sub, ab, col, dd, k0, k1, k2, k3, k5, hB, hC⟩ := c.T.cls
  obtain ⟨hp, g, dr, tk, os⟩ := s1
  have big : hp.objs.size ≤ hp.objs.size + 1 := Nat.le_succ _
  have new1 : H1 (hp.objs.size + 1) = none := I1.hok.fresh big
  have kept : ∀ b o, hp.get? b = some o → ((hp.push (PySem.W.kdv_tup us)).push (PySem.HandSPX.excO C hp.objs.size)).get? b = some o := fun b o z => Heap.get?_push_of_some _ (Heap.get?_push_of_some _ z)
  have put : ((hp.push (PySem.W.kdv_tup us)).push (PySem.HandSPX.excO C hp.objs.size)).get? (hp.objs.size + 1) = some (PySem.HandSPX.excO C hp.objs.size) := by heap_get
  have I2 : Inv X pins σ (upd H1 (hp.objs.size + 1) (exo (hp.objs.size + 1) C none)) ⟨(hp.push (PySem.W.kdv_tup us)).push (PySem.HandSPX.excO C hp.objs.size), g, dr, tk, os⟩ :=
    I1.laid (t' := tk) (a := hp.objs.size + 1) (o := exo (hp.objs.size + 1) C none) kept big (exo_ok put)
  have sp1 : spIni C fsn (V.ref (hp.objs.size + 1) :: vs) (upd H1 (hp.objs.size + 1) (exo (hp.objs.size + 1) C none))
      (fun v H2 => v = .non ∧ ∃ d, H1 d = none ∧ d ≠ hp.objs.size + 1 ∧ H2 = upd (upd H1 d (exd d (fsn.zip vs).reverse)) (hp.objs.size + 1) (exo (hp.objs.size + 1) C (some d))) (fun _ _ _ => False) := by
    refine ⟨_, vs, rfl, hl, upd_same, fun z => absurd z h0, fun z d hd ne => ⟨rfl, d, ?_, ne, upd_over ne⟩⟩
    rw [upd_ne ne] at hd
    exact hd
  have bound := hbn ⟨(hp.push (PySem.W.kdv_tup us)).push (PySem.HandSPX.excO C hp.objs.size), g, dr, tk, os⟩ (.ref (hp.objs.size + 1) :: us) I2.kIn (by simpa using (r.length.symm.trans hl))
  rw [List.append_nil] at bound
  refine wpAny_call (call_ownK hB.F (I1.kIn _ _ hC) (PySem.W.looks_findIn I1.kIn iC) (fun self => PySem.W.bind_fn I1.kIn self tI) hus
    (codeAny_mono (F.run _ X.stack _ _ _ (Value.ref (hp.objs.size + 1) :: us) (V.ref (hp.objs.size + 1) :: vs) _ (fun _ _ _ => False) ?_ ((hr.mono hk).make C us []) (I2.env0.make C us []) bound (.cons rfl r) sp1) fun res s3 hz => ?_))
  · first
      | exact hg
      | (simpa [Around.under, Code.isGuard, guardIds] using hg)
  · match res, hz with
    | .error er, hz => exact hx pins σ _ _ er s3 I2 hz
    | .ok (.ret u), hz =>
      obtain ⟨v, H2, os2, bare2, un2, hok2, rv, ev, d, hd1, ne, eH⟩ := hz
      subst ev
      subst eH
      obtain ⟨h2, g2, d2, t2, osx⟩ := s3
      refine ⟨rv, mk_end (raises_own c.T.xf.exC (oex_type c.T)) I1 big kept un2 hok2 os2 bare2 upd_same ((upd_ne ne).trans upd_same) hd1 ?_⟩
      rw [let_go new1 ne]
      exact q d hd1
    | .ok .next, hz => exact hz.elim
    | .ok .brk, hz => exact hz.elim
    | .ok .cont, hz => exact hz.elim
end
end Vk
set_option Elab.async false
set_option maxRecDepth 100000
set_option maxHeartbeats 4000000
set_option linter.all false
namespace Vk
open L2 PySem PySem.Spec PyProof.Rows PySem.VkX
/-! ## instances of own classes whose __init__ may raise, made by position and by all keywords in the other order -/
structure MakI (P : Program) (w : World) (K : PySem.W.Frag) (mg : Str → Option Value) (base : Heap) (CX : CXT) (k : Nat) (x : Str) (C : Addr) (fsn : List Str) (sp : Sp) : Prop where
  hm : mg x = some (.ref C)
  ex : ∃ (fI : Addr) (fd : FuncData), L2.Mk K C fI ∧ FnG P w K mg base CX k fI fd (("self" : Str) :: fsn) sp ∧ Binds K fd (("self" : Str) :: fsn) [] ∧
    (∀ (s : Shared) (v : Value) (ws : List Value), K.In s.heap → ws.length = fsn.length → BindsTo s fd ⟨[v], fsn.reverse.zip ws⟩ ((("self" : Str) :: fsn).zip (v :: ws.reverse)))
def Born (C : Addr) (sp : Sp) (vs : List V) (H : Hp) (Q : VK) (E : XK) : Prop := ∀ a dx, H a = none → H dx = none → dx ≠ a → sp (.ref a :: vs) (upd (upd H dx (.own a)) a (.ins C dx [])) (fun v H2 => v = .non ∧ Q (.ref a) H2) E
section
variable {X : Cx} {CX : CXT} {E : XK} {j k : Nat} {x : Str} {C : Addr} {fsn : List Str} {sp : Sp} {p pos : Pos} {e : Expr} {es : List Expr} {t : TA}
theorem born_run {pins : List (Addr × Obj)} {σ : L2.St} {H : Hp} {s : Shared} {Q : VK} {us : List Value} {kw : List (Str × Value)} {vs : List V} {zs : List Value} {fI : Addr} {fd : FuncData} (M : L2.Mk X.K C fI) (F : FnG X.prog X.w X.K X.mg X.base CX k fI fd (("self" : Str) :: fsn) sp)
    (hg : X.A.guards = some []) (hr : Room (k + 1) X.A) (hx : Passes CX X E) (I : Inv X pins σ H s) (r : Vals vs zs) (q : Born C sp vs H Q E)
    (hb : ∀ s2 : Shared, X.K.In s2.heap → ∀ a : Addr, BindsTo s2 fd ⟨.ref a :: us, kw⟩ ((("self" : Str) :: fsn).zip (.ref a :: zs))) : wpAny (model X.prog X.w) X.A (call (.ref C) us kw) (EP X pins σ Q) X.xe s := by
  have I2 := Inv.made (C := C) I
  have asked := q (s.heap.objs.size + 1) s.heap.objs.size (I.hok.fresh (Nat.le_succ _)) (I.hok.fresh (Nat.le_refl _)) (Nat.ne_of_lt (Nat.lt_succ_self _))
  refine wpAny_call (make_map (f := fI) I.kIn M.makes M.init (beq_iff_eq.mp M.fn) (codeAny_mono (F.run _ X.stack _ _ _ (Value.ref (s.heap.objs.size + 1) :: zs) (V.ref (s.heap.objs.size + 1) :: vs) _ E ?_ (hr.make C us kw) (I2.env0.make C us kw) (hb _ I2.kIn _) (.cons rfl r) asked) fun res s3 hz => ?_))
  · first
      | exact hg
      | (simpa [Around.under, Code.isGuard, guardIds] using hg)
  · match res, hz with
    | .error er, hz => exact hx pins σ _ _ er s3 I2 hz
    | .ok (.ret u), hz =>
      obtain ⟨v, H2, I3, rv, ev, q3⟩ := I2.after hz
      subst ev
      exact ⟨rv, V.ref (s.heap.objs.size + 1), H2, I3, rfl, q3⟩
    | .ok .next, hz => exact hz.elim
    | .ok .brk, hz => exact hz.elim
    | .ok .cont, hz => exact hz.elim
def tIns (C : Addr) (n : Nat) (sp : Sp) (E : XK) (t : TA) : TE := fun σ H Q => t σ H fun vs H1 => vs.length = n ∧ Born C sp vs H1 Q E
theorem pe_ins (c : MakI X.prog X.w X.K X.mg X.base CX k x C fsn sp) (hg : X.A.guards = some []) (hr : Room j X.A) (hk : k + 1 ≤ j) (hx : Passes CX X E) (ha : PA X (e :: es) t) (gl : Gl X x := by rfl)
    (hdb : (x == ("__debug__" : Str)) = false := by decide) (he : starEach (e :: es) X.env = (false, eval e X.env) :: starEach es X.env := by rfl) (hpl : (backTo pos (starEach es X.env)).any (·.1) = false := by rfl) :
    PE X (.Call (.Name x p) (e :: es) [] pos) (tIns C fsn.length sp E t) := by
  obtain ⟨fI, fd, M, F, hb, hbk⟩ := c.ex
  refine ⟨fun pins s σ H Q I h => wpAny_Call_Name_kw (ld_glob I gl c.hm (PySem.W.callWith_K (h₀ := X.base) I.ok.mod.kin M.kp (thn (ha.run pos pins s σ H _ I h) fun us s1 hh => ?_) he hpl) hdb)⟩
  obtain ⟨vs, H1, I1, r, hl, q⟩ := hh
  refine ⟨I1.kIn, born_run (us := us) (kw := []) M F hg (hr.mono hk) hx I1 r q fun s2 K2 a => ?_⟩
  have b := hb s2 (.ref a :: us) K2 (by simpa using (r.length.symm.trans hl))
  rw [List.append_nil] at b
  exact b
end
end Vk
set_option Elab.async false
set_option maxRecDepth 100000
set_option maxHeartbeats 4000000
set_option linter.all false
namespace Vk
open L2 PySem PySem.Spec PyProof.Rows PySem.VkX LamX NdefX
/-! ## a lambda as a value: made in a def, kept in lists, handed to a def that calls it -/
structure LF where
  qual : Str
  params : Arguments
  body : Expr
  scope : Scope
  cl : List (Str × Addr)
  c : Addr
def LF.nf (F : LF) : NF := ⟨"<lambda>", F.qual, F.params, [], F.scope, F.cl, F.c⟩
def LamO (f : Addr) (F : LF) : HO := .ext fun h => ∃ pm ctv : Value, h.get? f = some (PySem.W.kla_obj "<lambda>" F.qual F.params F.body F.scope F.cl pm F.c ctv)
section
variable {X : Cx} {pins : List (Addr × Obj)} {σ : L2.St} {H : Hp} {s : Shared}
end
section
variable {X : Cx}
end
/-! ### what it does -/
abbrev SpL := List (Option V) → Hp → VK → XK → Prop
structure LamK (P : Program) (w : World) (K : PySem.W.Frag) (mg : Str → Option Value) (base : Heap) (k : Nat) (F : LF) (fr : List Str) (sp : SpL) : Prop where
  run : ∀ (A : Around) (outer : List Env) (s : Shared) (H : Hp) (f : Addr) (ws : List (Option V)) (Q : VK) (E : XK), A.guards = some [] → Room k A → Env0 P w K mg base A outer s H → H f = some (LamO f F) → H F.c = some (CodeO F.c F.qual) → CellsAt F.cl fr ws s.heap H → sp ws H Q E →
    codeAny (model P w) A (.call (.ref f) ⟨[], []⟩) (CR (L2.CX P w) outer P w H s Q E) s
section
variable {P : Program} {w : World} {K : PySem.W.Frag} {mg : Str → Option Value} {base : Heap} {N fr : List Str} {F : LF} {k j : Nat} {sp : SpL}
theorem LamK.mono (l : LamK P w K mg base j F fr sp) (h : j ≤ k) : LamK P w K mg base k F fr sp := ⟨fun A outer s H f ws Q E hg hr => l.run A outer s H f ws Q E hg (hr.mono h)⟩
end
/-! ### called by the def that got it -/
section
variable {X : Cx} {F : LF} {fr : List Str} {ws : List (Option V)} {i j k : Nat} {x : Str} {sp : SpL} {E : XK} {p pos : Pos} {f0 : Addr}
end
/-! ### defs whose promise speaks of the cells that the heap holds -/
structure FnH (P : Program) (w : World) (K : PySem.W.Frag) (mg : Str → Option Value) (base : Heap) (CX : CXT) (k : Nat) (f : Addr) (fd : FuncData) (ps : List Str) (sp : Heap → Sp) : Prop where
  len : ∀ h vs H Q E, sp h vs H Q E → vs.length = ps.length
  run : ∀ (A : Around) (outer : List Env) (s : Shared) (H : Hp) (args : Args) (us : List Value) (vs : List V) (Q : VK) (E : XK), A.guards = some [] → Room k A → Env0 P w K mg base A outer s H → BindsTo s fd args (ps.zip us) → Vals vs us → sp s.heap vs H Q E →
    codeAny (model P w) A (.call (.ref f) args) (CR CX outer P w H s Q E) s
structure CalH (P : Program) (w : World) (K : PySem.W.Frag) (mg : Str → Option Value) (base : Heap) (CX : CXT) (k : Nat) (x : Str) (sp : Heap → Sp) : Prop where
  ex : ∃ (f : Addr) (fd : FuncData) (ps : List Str), FnH P w K mg base CX k f fd ps sp ∧ mg x = some (.ref f) ∧ PySem.W.keepIn K (.ref f) = true ∧ Binds K fd ps []
section
variable {X : Cx} {CX : CXT} {j k : Nat} {x : Str} {sp : Heap → Sp} {E : XK} {p pos : Pos} {e : Expr} {es : List Expr} {t : TA} {rd : L2.St → List V → Hp → VK → Prop}
end
/-! ### isinstance(e, T) of a caught exception that has fields -/
/-! ### a def whose code object is known -/
structure FunC (K : PySem.W.Frag) (x qual : Str) (st : Stmt) (f : Addr) (fd : FuncData) (c : Addr) : Prop where
  ex : ∃ (oc : Value) (od : Option Addr) (kV doc pm : Value) (an : Option Addr) (ct : Value) (sl : Array (Option Value)), fd = PySem.W.fnOf x qual (defArgs st) (defBody st) (defScope st) .none kV doc pm an (.ref c) ct ∧ K.lookup f = some ⟨oc, od, .func fd, sl⟩ ∧ PySem.W.codeIn K (.ref c) qual = true
  kp : PySem.W.keepIn K (.ref f) = true
theorem FunC.fn {K : PySem.W.Frag} {x qual : Str} {st : Stmt} {f c : Addr} {fd : FuncData} (F : FunC K x qual st f fd c) : Fun K x qual st f fd := by
  obtain ⟨oc, od, kV, doc, pm, an, ct, sl, e, l, hc⟩ := F.ex
  exact ⟨⟨oc, od, kV, doc, pm, an, .ref c, ct, sl, e, l, hc⟩, F.kp⟩
end Vk
set_option Elab.async false
set_option maxRecDepth 100000
set_option maxHeartbeats 4000000
set_option linter.all false
namespace Vk
open PySem PySem.Spec PyProof.Rows PySem.SeqAt L2
open Builtin
section
variable {prog : Program} {w : World} {A : Around} {E : Value → Shared → Prop} {s : Shared} {K : PySem.W.Frag} {x C : Addr} {ox : Obj} {od : Option Obj}
end
end Vk
set_option Elab.async false
set_option maxRecDepth 100000
set_option maxHeartbeats 4000000
set_option linter.all false
namespace Vk
open PySem PySem.Spec PyProof.Rows PySem.SeqAt L2
open Builtin
/-! ## == and != and in, on the left an instance of an own class with its own == -/
inductive TyE (H : Hp) : V → Value → Prop
  | non : TyE H .non (.type "NoneType")
  | bl (b : Bool) : TyE H (.bl b) (.type "bool")
  | int (i : Int) : TyE H (.int i) (.type "int")
  | str (z : Str) : TyE H (.str z) (.type "str")
  | tup {a : Addr} {xs : List V} (e : H a = some (.tup xs)) : TyE H (.ref a) (.type "tuple")
  | lst {a : Addr} {xs : List V} (e : H a = some (.lst xs)) : TyE H (.ref a) (.type "list")
  | ins {a C dx : Addr} {fs : List (Str × V)} (e : H a = some (.ins C dx fs)) : TyE H (.ref a) (.ref C)
section
variable {X : Cx} {pins : List (Addr × Obj)} {σ : L2.St} {H : Hp} {s : Shared}
end
/-- the own == of the class at C -/
structure EqI (P : Program) (w : World) (K : PySem.W.Frag) (mg : Str → Option Value) (base : Heap) (k : Nat) (C : Addr) (sp : Sp) : Prop where
  ex : ∃ (f : Addr) (fd : FuncData), PySem.W.findIn K (.ref C) "__eq__" = some (some (.ref f)) ∧ PySem.W.isFn K (.ref f) = true ∧ FnOk P w K mg base CX0 k f fd ["self", "other"] sp ∧ Binds K fd ["self", "other"] []
  ne : PySem.W.findIn K (.ref C) "__ne__" = some (some (.builtin "object.__ne__"))
  obj : PySem.W.mroIn K C (.type "object") = some true
  no1 : PySem.W.mroIn K C (.type "tuple") = some false
  no2 : PySem.W.mroIn K C (.type "list") = some false
  no3 : PySem.W.mroIn K C (.type "str") = some false
  no4 : PySem.W.mroIn K C (.type "NoneType") = some false
section
variable {X : Cx} {k j : Nat} {C : Addr} {sp : Sp}
/-- the items that give way to the instance's own == -/
inductive Dec (H : Hp) : V → Prop
  | non : Dec H .non
  | str (z : Str) : Dec H (.str z)
  | tup {a : Addr} {xs : List V} (e : H a = some (.tup xs)) : Dec H (.ref a)
  | lst {a : Addr} {xs : List V} (e : H a = some (.lst xs)) : Dec H (.ref a)
end
end Vk
set_option Elab.async false
set_option maxRecDepth 100000
set_option maxHeartbeats 4000000
set_option linter.all false
namespace Vk
open PySem PySem.Spec PyProof.Rows L2 StX
/-! ## def f(self, *parts), with nothing under way -/
theorem passesF {X : Cx} : Passes (L2.CX X.prog X.w) X (fun _ _ _ => False) := by
  rintro pins σ H s e s' I ⟨a, B, H', cls, d, _, _, _, _, _, _, _, h⟩
  exact h.elim
section
variable {CX : CXT} {P : Program} {w : World} {K : PySem.W.Frag} {mg : Str → Option Value} {base : Heap} {k : Nat} {x qual : Str} {st : Stmt} {f : Addr} {fd : FuncData} {N ps : List Str} {sp : Sp}
end
section
variable {X : Cx} {CX : CXT} {k j : Nat} {C f : Addr} {sp : Sp} {E : XK} {x : Str} {p pos : Pos} {e : Expr} {es : List Expr} {t : TA}
end
theorem pg_tupK {X : Cx} {K : PySem.W.Frag} {es : List Expr} {k : Nat} {t : TGs} {n : Nat} {pos : Pos} (hK : X.K = K) (hc : X.calm = true) (h : PGs X es t)
    (hn : (assignEach es X.env).length = n := by rfl) (hst : (assignEach es X.env).findIdx? (·.1) = none := by rfl) : PG X (.Tuple es k pos) (gTup K n t) := hK ▸ pg_tup hc h hn hst
end Vk
set_option Elab.async false
set_option maxRecDepth 100000
set_option maxHeartbeats 4000000
set_option linter.all false
namespace Vk
open PySem PySem.Spec PyProof.Rows L2
/-! ## for i, x in enumerate(t), t a tuple -/
theorem enum_new1 (t : Addr) (items : Array Value) : Meets (Builtin.«enumerate.__new__» ⟨[.type "enumerate", .ref t], []⟩) (fun _ R s => s.heap.IsTuple t items ∧
    R (.ok (.ret (.ref (s.heap.push { cls := .type "tuple_iterator", data := .fields #[.ref t, .int 0 0] }).objs.size)))
      { s with heap := (s.heap.push { cls := .type "tuple_iterator", data := .fields #[.ref t, .int 0 0] }).push { cls := .type "enumerate", data := .fields #[.none, .bool false, .ref s.heap.objs.size, rawInt 0, .none, .none] } }) :=
  .of_wp fun prog w A R s h => by
    obtain ⟨hp, g, d, tk, os⟩ := s
    obtain ⟨isT, k⟩ := h
    have sub := sub_enumerate
    have it1 : ∀ {A1 : Around} {E1 : Value → Shared → Prop} {Q1 : Value → Shared → Prop}, Q1 (.ref hp.objs.size) ⟨hp.push { cls := .type "tuple_iterator", data := .fields #[.ref t, .int 0 0] }, g, d, tk, os⟩ → wpAny (model prog w) A1 (pyIter (.ref t)) Q1 E1 ⟨hp, g, d, tk, os⟩ := fun q => wpAny_pyIter_tuple isT q
    wp_walk
    refine wpAny_stack_any fun st => wpAny_pure ?_
    split
    · rename_i c _ _ _ _ _
      cases (c == Value.type "enumerate")
      · wp_walk using it1
        exact ⟨_, rfl, k⟩
      · wp_walk using it1
        exact ⟨_, rfl, k⟩
    · wp_walk using it1
      exact ⟨_, rfl, k⟩
section
variable {prog : Program} {w : World} {A : Around} {E : Value → Shared → Prop} {s : Shared}
theorem call_enumT {t : Addr} {items : Array Value} {Q : Value → Shared → Prop} (isT : s.heap.IsTuple t items)
    (h : ∀ h2, IsEnum h2 (s.heap.objs.size + 1) s.heap.objs.size 0 .none → h2.IsTupleIter s.heap.objs.size t 0 → (∀ b o, s.heap.get? b = some o → h2.get? b = some o) → Q (.ref (s.heap.objs.size + 1)) { s with heap := h2 }) :
    wpAny (model prog w) A (call (.type "enumerate") [.ref t]) Q E s := by
  refine callType_new F.called_enumerate (by decide) (F.typeCall_enumerate_1 _) (F.newCall_enumerate_1 _) (fun obj => F.args_object_init_2 obj _) F.entry_enumerate_new (enum_new1 t items) ⟨isT, ?_⟩
  have one : (s.heap.push { cls := .type "tuple_iterator", data := .fields #[.ref t, .int 0 0] }).objs.size = s.heap.objs.size + 1 := Heap.size_push ..
  show _ ∧ _
  rw [one]
  have at1 : IsEnum ((s.heap.push { cls := .type "tuple_iterator", data := .fields #[.ref t, .int 0 0] }).push
      { cls := .type "enumerate", data := .fields #[.none, .bool false, .ref s.heap.objs.size, rawInt 0, .none, .none] }) (s.heap.objs.size + 1) s.heap.objs.size 0 .none := by
    have z := Heap.get?_push_size (s.heap.push { cls := .type "tuple_iterator", data := .fields #[.ref t, .int 0 0] })
      (o := { cls := .type "enumerate", data := .fields #[.none, .bool false, .ref s.heap.objs.size, rawInt 0, .none, .none] }) rfl
    rw [one] at z
    exact z
  exact ⟨⟨_, at1, rfl⟩, h _ at1 ⟨_, Heap.get?_push_of_some _ (Heap.get?_push_size _ rfl), rfl, rfl⟩ fun b o z => Heap.get?_push_of_some _ (Heap.get?_push_of_some _ z)⟩
end
/-- the tuple at a, each item in a new pair -/
def Itet (a : Addr) : It :=
  ⟨fun i H => ∃ (xs : List V) (x : V), H a = some (.tup xs) ∧ xs[i]? = some x, fun i H v H' => ∃ T x xs, v = .ref T ∧ H T = none ∧ H' = upd H T (.tup [.int (i : Nat), x]) ∧ H a = some (.tup xs) ∧ xs[i]? = some x, fun i H => ∃ xs : List V, H a = some (.tup xs) ∧ xs.length = i⟩
theorem turn_enumT {P : Program} {w : World} {K : PySem.W.Frag} {elts : List Expr} {kk : Nat} {tpos : Pos} (a e it : Addr) :
    Turn P w K (.Tuple elts kk tpos) (Itet a) [e, it] e (fun i h => (∃ old, IsEnum h e it ((i : Nat) : Int) old) ∧ h.IsTupleIter it a i ∧ e ≠ it ∧ a ≠ it ∧ e ≠ a) where
  mem := by simp
  obj := fun i h st b hb => by
    obtain ⟨⟨old, he⟩, ⟨o, ho, hc, hd⟩, _⟩ := st
    rcases List.mem_cons.mp hb with z | z
    · exact z ▸ ⟨_, he, fun v q => nomatch q⟩
    · rw [List.mem_singleton] at z
      exact z ▸ ⟨o, ho, fun v q => by rw [hd] at q; cases q⟩
  keep := fun i h h' st k => by
    obtain ⟨⟨old, he⟩, hi, rest⟩ := st
    exact ⟨⟨old, k e List.mem_cons_self _ he⟩, hi.at fun o q => k it (List.mem_cons_of_mem _ List.mem_cons_self) o q, rest⟩
  item := by
    intro X hP hw hK hc i pins s σ H E I hf st hg
    subst hP hw hK
    obtain ⟨⟨old, he⟩, hit, hne, hat, hea⟩ := st
    obtain ⟨xs, x, hq, hx⟩ := hg
    obtain ⟨its, rv, isT, hz⟩ := I.tuple (SqT.of hq)
    obtain ⟨u, hu, ru⟩ := rv.get hx
    have lt : i < its.toArray.size := by
      have := (List.getElem?_eq_some_iff.mp hu).1
      simpa using this
    have big1 : e < s.heap.objs.size := Heap.lt_size he
    have big2 : it < s.heap.objs.size := by obtain ⟨_, q, _⟩ := hit; exact Heap.lt_size q
    refine wpAny_pyNext_enum_itemD (Draws.tuple (A := X.A.in1) (I.ok.hd hc) it a hat its.toArray) he ⟨hit, isT⟩ lt hne (by simp [hne, hea]) fun u2 h2 tk hu2 ho st2 hT hsz hk => ?_
    obtain ⟨hit2, _⟩ := st2
    have eu : u2 = u := by
      have q := hu2
      simp only [List.getElem?_toArray] at q
      rw [hu] at q
      exact (Option.some.inj q).symm
    subst eu
    refine ⟨_, rfl, wpAny_letOwnedTupleGo_enum (s := { s with heap := h2, toks := tk + 1 }) ho fun h3 he3 sb => ?_⟩
    have hT3 : h3.get? s.heap.objs.size = some { cls := .type "tuple", data := .seq #[.int i tk, u2] } := (sb.2 _ (Nat.ne_of_gt big1)).trans hT
    have laid : ObjOk X.prog X.w (upd H s.heap.objs.size (.tup [.int (i : Nat), x])) h3 s.heap.objs.size (.tup [.int (i : Nat), x]) := ⟨few_len (Nat.le_of_ble_eq_true rfl), [.int i tk, u2], .cons ⟨_, rfl⟩ (.cons ru .nil), ⟨_, hT3, rfl, _, rfl⟩⟩
    have I1 : Inv X pins σ (upd H s.heap.objs.size (.tup [.int (i : Nat), x])) { s with heap := h3, toks := tk + 1 } :=
      I.turnedNew (ch := [e, it]) (fun b ob hb q => (sb.2 b (fun z => hb (by simp [z]))).trans (hk b ob (fun z => hb (by simp [z])) (fun z => hb (by simp [z])) q)) hf (Nat.le_refl _) laid
    refine ⟨.ref s.heap.objs.size, _, I1, rfl, ⟨_, x, xs, rfl, I.hok.fresh (Nat.le_refl _), rfl, hq, hx⟩, ⟨⟨u2, ?_⟩, hit2.at fun o q => (sb.2 it (Ne.symm hne)).trans q, hne, hat, hea⟩, fun b hb => ?_⟩
    · rw [show ((i + 1 : Nat) : Int) = (i : Int) + 1 by omega]
      exact he3
    · have old1 : b < s.heap.objs.size := by
        rcases List.mem_cons.mp hb with z | z
        · exact z ▸ big1
        · rw [List.mem_singleton] at z
          exact z ▸ big2
      exact (upd_ne (Nat.ne_of_lt old1)).trans (hf b hb).1
  done := by
    intro X hP hw hK hc i pins s σ H E I hf st hg
    subst hP hw hK
    obtain ⟨⟨old, he⟩, hit, hne, hat, hea⟩ := st
    obtain ⟨xs, hq, hx⟩ := hg
    obtain ⟨its, rv, isT, hz⟩ := I.tuple (SqT.of hq)
    obtain ⟨f0, f1, f2, f3, f4, f5⟩ := hf it (List.mem_cons_of_mem _ List.mem_cons_self)
    have le : i = its.toArray.size := by rw [← hx, rv.length, List.size_toArray]
    exact wpAny_pyNext_enum_endD (Draws.tuple (A := X.A.in1) (I.ok.hd hc) it a hat its.toArray) he ⟨le ▸ hit, isT⟩ fun h' eb => ⟨rfl, I.turned (t' := s.toks) (fun b o hb q => eb b o hb q) f0 f1 f3 f4 f5⟩
  self := fun A i s Q E st h => let ⟨⟨_, he⟩, _⟩ := st; wpAny_pyIter_enum he h
def iEnumT (ta : TA) : TI := fun σ H R => ta σ H fun vs H1 => ∃ a xs, vs = [.ref a] ∧ H1 a = some (.tup xs) ∧ R (Itet a) H1
theorem pi_enumT {X : Cx} {e : Expr} {ta : TA} {p pos tpos : Pos} {elts : List Expr} {kk : Nat} (gl : Gl X "enumerate") (hm : X.mg "enumerate" = none) (ha : PA X [e] ta) (hs : starEach [e] X.env = [(false, eval e X.env)] := by rfl) :
    PI X (.Tuple elts kk tpos) (.Call (.Name "enumerate" p) [e] [] pos) (iEnumT ta) := by
  refine ⟨fun pins s σ H R I h => Call_ (ld_blt I gl hm boot_enumerate (PyProof.Rows.callWith_type1 (thn (ha.run pos pins s σ H _ I h) fun us s1 hh => ?_) hs rfl))⟩
  obtain ⟨vs, H1, I1, r1, a, xs, rfl, hq, q⟩ := hh
  obtain ⟨u, rfl, ru⟩ := r1.one
  cases (show u = Value.ref a from ru)
  obtain ⟨its, rv, isT, hz⟩ := I1.tuple (SqT.of hq)
  have lta : a < s1.heap.objs.size := by obtain ⟨o, ho, _⟩ := isT; exact Heap.lt_size ho
  refine call_enumT isT fun h2 he hit hk => wpAny_pyIter_enum he ?_
  have I2 : Inv X pins σ H1 { s1 with heap := h2 } := I1.kept (t' := s1.toks) hk
  refine ⟨s1.heap.objs.size + 1, [s1.heap.objs.size + 1, s1.heap.objs.size], _, _, H1, rfl, I2, turn_enumT a (s1.heap.objs.size + 1) s1.heap.objs.size, ⟨⟨.none, he⟩, hit, Nat.succ_ne_self _, Nat.ne_of_lt lta, Nat.ne_of_gt (Nat.lt_succ_of_lt lta)⟩, fun b hb => ?_, q⟩
  have le : s1.heap.objs.size ≤ b := by
    rcases List.mem_cons.mp hb with z | z
    · rw [z]; exact Nat.le_succ _
    · rw [List.mem_singleton.mp z]; exact Nat.le_refl _
  exact I1.fpOk le (I1.hok.fresh le)
end Vk
set_option Elab.async false
set_option maxRecDepth 100000
set_option maxHeartbeats 4000000
set_option linter.all false
namespace Vk
open PySem PySem.Spec PyProof.Rows L2
/-- what repr asks -/
def Shn (d : PyData) : Prop := d.showable = true ∧ d.depth ≤ 60 ∧ d.shown.length ≤ sizeLine
/-- .. with room for a list around -/
def Shs (d : PyData) : Prop := d.showable = true ∧ d.depth ≤ 59 ∧ d.shown.length ≤ 100000 ∧ PyData.strOk d.shown = true
theorem Shs.shn {d : PyData} (h : Shs d) : Shn d := ⟨h.1, Nat.le_succ_of_le h.2.1, Nat.le_trans h.2.2.1 (by rw [sizeLine_eq]; decide)⟩
section
variable {X : Cx}
/-- e.f, a property, e an instance of one of some classes -/
structure PrI (P : Program) (w : World) (K : PySem.W.Frag) (mg : Str → Option Value) (base : Heap) (k : Nat) (C : Addr) (f fa : Str) : Prop where
  ex : ∃ (p g : Addr) (fd : FuncData), Cls K C ∧ PropOf K C f p g ∧ FnOk P w K mg base CX0 k g fd ["self"] (getSp C fa) ∧ Binds K fd ["self"] []
def tPropN (N : Nat) (Cs : Nat → Addr) (fa : Str) (ta : TE) : TE := fun σ H Q => ta σ H fun x H1 => ∃ n a dx fs v, n < N ∧ x = .ref a ∧ H1 a = some (.ins (Cs n) dx fs) ∧ fs.lookup fa = some v ∧ Q v H1
theorem pe_propN {N : Nat} {Cs : Nat → Addr} {f fa : Str} {k j : Nat} {e : Expr} {ta : TE} {pos : Pos} (he : PE X e ta) (h : ∀ n, n < N → PrI X.prog X.w X.K X.mg X.base k (Cs n) f fa) (hr : Room j X.A) (hk : k + 1 ≤ j) (hab : attributeBase e f X.env (eval e X.env) = eval e X.env := by rfl) :
    PE X (.Attribute e f pos) (tPropN N Cs fa ta) := by
  refine ⟨fun pins s σ H Q I hh => attr_of hab (thn (he.run pins s σ H _ I hh) fun u s1 q1 => ?_)⟩
  obtain ⟨x, H1, I1, rx, n, a, dx, fs, v, hn, rfl, ea, l, q⟩ := q1
  obtain ⟨p, g, fd, c, hp, F, hb⟩ := (h n hn).ex
  cases (show u = Value.ref a from rx)
  exact getprop_ok (ds := []) (dvs := []) (E := E0) I1 ea c hp F (hr.mono hk) hb .nil (fun _ _ _ _ _ _ _ z => z.elim) ⟨a, dx, fs, v, rfl, ea, l, q⟩
end
end Vk
set_option Elab.async false
set_option maxRecDepth 100000
set_option maxHeartbeats 4000000
set_option linter.all false
namespace Vk
open L2 PySem PySem.Spec PyProof.Rows
/-! ## lstrip leaves nothing of a string exactly if all its signs are to be stripped -/
theorem take_all {α : Type} (g : α → Bool) : ∀ l : List α, (l.takeWhile g).length = l.length ↔ l.all g = true
  | [] => by simp
  | a :: r => by
    rw [List.takeWhile_cons, List.all_cons]
    cases h : g a with
    | true =>
      rw [if_pos rfl, List.length_cons, List.length_cons, Bool.true_and]
      exact ⟨fun z => (take_all g r).mp (Nat.succ.inj z), fun z => congrArg Nat.succ ((take_all g r).mpr z)⟩
    | false =>
      rw [if_neg (by decide)]
      simp
theorem take_le {α : Type} (g : α → Bool) : ∀ l : List α, (l.takeWhile g).length ≤ l.length
  | [] => Nat.le_refl _
  | a :: r => by
    rw [List.takeWhile_cons]
    split
    · exact Nat.succ_le_succ (take_le g r)
    · exact Nat.zero_le _
theorem str_empty {z : Str} : z = "" ↔ z.cps.toList = [] := by
  constructor
  · rintro rfl
    rfl
  · intro h
    cases z with
    | mk c =>
      have e : c = #[] := by simpa using h
      subst e
      rfl
theorem lstrip_all {z y : Str} : Txt.lstripChars z y = "" ↔ z.cps.toList.all y.cps.contains = true := by
  unfold Txt.lstripChars Txt.stripBy
  have len : z.length = z.cps.toList.length := by simp [Str.length]
  have lo : stripLo y.cps.contains true z = (z.cps.toList.takeWhile y.cps.contains).length := rfl
  have hi : ∀ n, stripHi y.cps.contains false z n = z.length := fun n => rfl
  rw [← take_all]
  by_cases h0 : (z.cps.toList.takeWhile y.cps.contains).length = 0
  · have same : stripSame y.cps.contains true false z = true := by
      unfold stripSame
      rw [hi, lo, h0]
      simp
    rw [if_pos same, str_empty, h0]
    exact ⟨fun e => by rw [e]; rfl, fun e => List.length_eq_zero_iff.mp e.symm⟩
  · have same : ¬ (stripSame y.cps.contains true false z = true) := by
      unfold stripSame
      rw [hi, lo]
      simpa using fun e => absurd (by simpa using e) h0
    rw [if_neg same, str_empty]
    have sub : (stripped y.cps.contains true false z).cps.toList = z.cps.toList.drop (z.cps.toList.takeWhile y.cps.contains).length := by
      unfold stripped
      rw [hi, lo]
      show ((z.cps.extract _ z.length).toList) = _
      rw [Array.toList_extract, List.extract_eq_drop_take, len]
      rw [List.take_of_length_le (by rw [List.length_drop]; exact Nat.le_refl _)]
    rw [sub, List.drop_eq_nil_iff]
    have le := take_le y.cps.contains z.cps.toList
    exact ⟨fun e => Nat.le_antisymm le e, fun e => Nat.le_of_eq e.symm⟩
end Vk
namespace Vk
open L2 PySem PySem.Spec PyProof.Rows
end Vk
set_option Elab.async false
set_option maxRecDepth 100000
set_option maxHeartbeats 4000000
set_option linter.all false
namespace Vk
open PySem PySem.Spec PyProof.Rows L2 LamX
/-! ## the law's own call, one def of the text makes lambdas (its code object c, its table P) -/
theorem const_i {p : Program} {loose : List Str} {mean : ExcName → Option Value} {mg mb : Str → Option Value} {h : Heap} (T : PyProof.Rows.Top p loose mean mg mb h) {x : Str} {i : Int} (e : PyProof.Rows.valOf p x = some (.int i)) : ∃ u, mg x = some u ∧ RelV (.int i) u := by
  obtain ⟨v, hv, r⟩ := T.const x _ e
  cases r h with
  | int i t => exact ⟨_, hv, ⟨t, rfl⟩⟩
theorem const_s {p : Program} {loose : List Str} {mean : ExcName → Option Value} {mg mb : Str → Option Value} {h : Heap} (T : PyProof.Rows.Top p loose mean mg mb h) {x z : Str} (e : PyProof.Rows.valOf p x = some (.str z)) : ∃ u, mg x = some u ∧ RelV (.str z) u := by
  obtain ⟨v, hv, r⟩ := T.const x _ e
  cases r h with
  | str i t => exact ⟨_, hv, ⟨t, rfl⟩⟩
end Vk
set_option Elab.async false
set_option maxRecDepth 100000
set_option maxHeartbeats 4000000
set_option linter.all false
namespace Vk
open PySem PySem.Spec PyProof.Rows L2 LamX
/-! ## where the modules are told lies a dict -/
section
variable {X : Cx} {pins : List (Addr × Obj)} {σ : L2.St} {H : Hp} {s : Shared}
end
/-! ## == of a list and the empty list -/
section
open Builtin
end
/-! ## the law's own call, one def of the text makes lambdas (its code object c, its table P) -/
end Vk
set_option Elab.async false
set_option maxRecDepth 100000
set_option maxHeartbeats 4000000
set_option linter.all false
namespace Vk
open L2 PySem PySem.Spec PyProof.Rows PySem.VkX
/-! ## what is made is new -/
def New (H : Hp) (v : V) : Prop := ∀ b, v = .ref b → H b = none
theorem New.same {H H1 : Hp} {v : V} (n : New H1 v) (s : Same H H1) : New H v := fun b e => by
  match q : H b with
  | none => rfl
  | some o => exact nomatch (s b o q).symm.trans (n b e)
theorem New.ext {H H1 : Hp} {v : V} {p c : Addr} {T : Nat} (n : New H1 v) (x : Ext p H H1) (P : Pen H1 p c T) : New H v := fun b e => by
  match q : H b with
  | none => rfl
  | some o =>
    obtain ⟨t, l, hp⟩ := P.is
    by_cases hb : b = p
    · rw [hb] at e
      exact nomatch hp.symm.trans (n p e)
    · exact nomatch (x b o q hb).symm.trans (n b e)
theorem Atm.new {H : Hp} {v : V} {d : PyData} (a : Atm v d) : New H v := fun b e => by
  subst e
  cases a
theorem New.ne {H : Hp} {v : V} {D : Addr} {o : HO} (n : New H v) (h : H D = some o) : v ≠ .ref D := fun e => nomatch h.symm.trans (n D e)
theorem Th.at {H : Hp} {v : V} {d : PyData} {D : Addr} {o : HO} (h : Th H v d) (n : v ≠ .ref D) : Th (upd H D o) v d := by
  cases h with
  | atm a => exact .atm a
  | @lst a xs ds e ne p => exact .lst ((upd_ne fun z => n (congrArg V.ref z)).trans e) ne p
  | @tup a xs ds e p => exact .tup ((upd_ne fun z => n (congrArg V.ref z)).trans e) p
  | @dct a ps e => exact .dct ((upd_ne fun z => n (congrArg V.ref z)).trans e)
section
variable {t te : TE} {ta : TA} {d : PyData} {ds : List PyData}
end
end Vk
set_option Elab.async false
set_option maxRecDepth 100000
set_option linter.all false
namespace Vk
open PySem PySem.Spec PyProof.Rows L2
/-! ## lists whose items stand for items of another list -/
theorem paired_at {α β : Type} {R : α → β → Prop} : ∀ {xs : List α} {ys : List β} {i : Nat} {x : α}, Paired R xs ys → xs[i]? = some x → ∃ y, ys[i]? = some y ∧ R x y
  | _, _, 0, _, .cons a t, h => by cases h; exact ⟨_, rfl, a⟩
  | _, _, i + 1, _, .cons a t, h => paired_at (i := i) t h
theorem drop_at {α : Type} : ∀ {l : List α} {i : Nat} {x : α}, l[i]? = some x → l.drop i = x :: l.drop (i + 1)
  | a :: l, 0, x, h => by cases h; rfl
  | a :: l, i + 1, x, h => by simpa using drop_at (l := l) (i := i) (x := x) (by simpa using h)
def tTruK (K : PySem.W.Frag) (ta : TE) : TT := fun σ H Q => ta σ H fun x H' => ∃ k, TruV K x H' k ∧ Q k H'
theorem pt_truthK {X : Cx} {K : PySem.W.Frag} {a : Expr} {ta : TE} (hK : X.K = K) (ha : PE X a ta) (he : ∀ whole, isTrue a X.env whole = (do let v ← whole; standAt a.pos; holding [v] (truthy v)) := by intro _; rfl) :
    PT X a (tTruK K ta) := hK ▸ pt_truth ha he
end Vk
set_option Elab.async false
set_option maxRecDepth 100000
set_option maxHeartbeats 4000000
set_option linter.all false
namespace Vk
open PySem PySem.Spec PyProof.Rows L2
theorem fewL {n : Nat} (h : n ≤ 100000) : n < sizeLine := Nat.lt_of_le_of_lt h (by rw [sizeLine_eq]; decide)
theorem pair_mono {α β : Type} {R S : α → β → Prop} (h : ∀ a b, R a b → S a b) : ∀ {xs : List α} {ys : List β}, Paired R xs ys → Paired S xs ys
  | _, _, .nil => .nil
  | _, _, .cons a t => .cons (h _ _ a) (pair_mono h t)
theorem none_up {H H1 : Hp} {a : Addr} (s : Same H H1) (h : H1 a = none) : H a = none := by
  match e : H a with
  | none => rfl
  | some o => exact nomatch (s _ _ e).symm.trans h
theorem upd_list {H : Hp} {l : Addr} {xs : List V} {o : HO} (h : H l = some (.lst xs)) (u : Addr) (ws : List V) (hu : H u = some (.tup ws)) : (upd H l o) u = some (.tup ws) := by
  rw [upd_ne (fun e => by rw [e, h] at hu; cases hu)]
  exact hu
theorem upd_out {H H1 : Hp} {l : Addr} {o : HO} (hl : H l = none) (s : Same H H1) : Same H (upd H1 l o) := fun b o2 h => by
  rw [upd_ne (ne_of_none h hl)]
  exact s _ _ h
/-- letter i of x -/
def ltr (x : Str) (i : Nat) : Nat := x.cps.toList.getD i 0
theorem cut_ab {x : Str} {a b : Nat} (h1 : a ≤ b) (h2 : b ≤ x.length) : cutS x (some (a : Int)) (some (b : Int)) = ⟨((x.cps.toList.drop a).take (b - a)).toArray⟩ := by
  unfold cutS
  rw [HT.sIx_nat, HT.sIx_nat, Nat.min_eq_left h2, Nat.min_eq_left (Nat.le_trans h1 h2)]
theorem cut_len {x : Str} {a b : Nat} (h1 : a ≤ b) (h2 : b ≤ x.length) : (cutS x (some (a : Int)) (some (b : Int))).length = b - a := by
  rw [cut_ab h1 h2]
  show (List.toArray _).size = _
  have : x.cps.toList.length = x.length := Array.length_toList
  rw [List.size_toArray, List.length_take, List.length_drop]
  omega
theorem cut_ltr {x : Str} {a b t : Nat} (h1 : a ≤ b) (h2 : b ≤ x.length) (ht : t < b - a) : ltr (cutS x (some (a : Int)) (some (b : Int))) t = ltr x (a + t) := by
  rw [cut_ab h1 h2]
  unfold ltr
  show (List.getD (List.take _ _) t 0) = _
  rw [List.getD_eq_getElem?_getD, List.getD_eq_getElem?_getD, List.getElem?_take, if_pos ht, List.getElem?_drop]
theorem or_both {c : Bool} {T B R : Prop} (h1 : c = true → R → T) (h2 : c = false → R → B) (h : R) : if c = true then T else B := by
  cases c with
  | true => exact h1 rfl h
  | false => exact h2 rfl h
theorem plc_asc (x w : Str) : (plc x w).Pairwise (· < ·) := List.pairwise_lt_range.filter _
theorem plc_ltr {x w : Str} {k : Nat} : k ∈ plc x w ↔ k + w.length ≤ x.length ∧ ∀ t, t < w.length → ltr x (k + t) = ltr w t := by
  unfold plc atB
  rw [List.mem_filter, List.mem_range, Bool.and_eq_true, decide_eq_true_eq, StrLaws.subAt_eq, beq_iff_eq]
  constructor
  · rintro ⟨_, h1, h2⟩
    refine ⟨h1, fun t ht => ?_⟩
    unfold ltr
    rw [← h2, List.getD_eq_getElem?_getD, List.getD_eq_getElem?_getD, List.getElem?_take, if_pos ht, List.getElem?_drop]
  · rintro ⟨h1, h2⟩
    refine ⟨by omega, h1, List.ext_getElem? fun t => ?_⟩
    have lw : w.cps.toList.length = w.length := Array.length_toList
    have lx : x.cps.toList.length = x.length := Array.length_toList
    by_cases ht : t < w.length
    · have q := h2 t ht
      unfold ltr at q
      rw [List.getD_eq_getElem?_getD, List.getD_eq_getElem?_getD, List.getElem?_eq_getElem (by omega : k + t < x.cps.toList.length), List.getElem?_eq_getElem (by omega : t < w.cps.toList.length)] at q
      rw [List.getElem?_take, if_pos ht, List.getElem?_drop, List.getElem?_eq_getElem (by omega : k + t < x.cps.toList.length), List.getElem?_eq_getElem (by omega : t < w.cps.toList.length)]
      exact congrArg some q
    · rw [List.getElem?_take, if_neg ht, List.getElem?_eq_none (by omega)]
theorem atI_end {xs : List V} {n : Nat} {v : V} (h : xs[n]? = some v) (hl : xs.length = n + 1) : atI xs (-1) = some v := by
  have e : xs = xs.take n ++ [v] := by
    have := List.take_append_drop n xs
    rw [drop_at h, List.drop_of_length_le (by omega)] at this
    exact this.symm
  rw [e]
  exact atI_last _ _
/-- pairs of numbers -/
def PrN (H : Hp) : List V → List (Nat × Nat) → Prop := Paired (fun v (p : Nat × Nat) => ∃ t, v = V.ref t ∧ H t = some (.tup [.int (p.1 : Nat), .int (p.2 : Nat)]))
theorem PrN.keep {H H1 : Hp} {xs : List V} {ps : List (Nat × Nat)} (h : PrN H xs ps) (s : Same H H1) : PrN H1 xs ps := pair_mono (fun v p ⟨t, e, ht⟩ => ⟨t, e, s _ _ ht⟩) h
theorem PrN.keepT {H H1 : Hp} {xs : List V} {ps : List (Nat × Nat)} (h : PrN H xs ps) (s : ∀ u ws, H u = some (.tup ws) → H1 u = some (.tup ws)) : PrN H1 xs ps := pair_mono (fun v p ⟨t, e, ht⟩ => ⟨t, e, s _ _ ht⟩) h
def pD (p : Nat × Nat) : PyData := .tuple [.int (p.1 : Nat), .int (p.2 : Nat)]
theorem prs_dp {K : PySem.W.Frag} {H : Hp} : ∀ {xs : List V} {rs : List (Nat × Nat)}, PrN H xs rs → DpAll K H xs (rs.map pD)
  | _, _, .nil => .nil
  | _, _, .cons a t => .cons (by
      obtain ⟨u, rfl, h⟩ := a
      exact .tup (SqT.of h) (.cons (.int _) (.cons (.int _) .nil))) (prs_dp t)
/-! ## windows -/
/-- the letters from a to b stand at another place, too -/
def Tw (X : Nat → Nat) (n a b : Nat) : Prop := ∃ k, k ≠ a ∧ k + (b - a) ≤ n ∧ ∀ t, t < b - a → X (k + t) = X (a + t)
theorem Tw.less {X : Nat → Nat} {n a b a' b' : Nat} (h : Tw X n a b) (h1 : a ≤ a') (h2 : a' ≤ b') (h3 : b' ≤ b) : Tw X n a' b' := by
  obtain ⟨k, k1, k2, k3⟩ := h
  refine ⟨k + (a' - a), by omega, by omega, fun t ht => ?_⟩
  have := k3 (a' - a + t) (by omega)
  rw [show k + (a' - a) + t = k + (a' - a + t) by omega, this, show a + (a' - a + t) = a' + t by omega]
def twB (x : Str) (a b : Nat) : Bool := decide (2 ≤ (plc x (cutS x (some (a : Int)) (some (b : Int)))).length)
theorem plc_own {x : Str} {a b : Nat} (h1 : a ≤ b) (h2 : b ≤ x.length) : a ∈ plc x (cutS x (some (a : Int)) (some (b : Int))) :=
  plc_ltr.mpr ⟨by rw [cut_len h1 h2]; omega, fun t ht => by
    rw [cut_len h1 h2] at ht
    exact (cut_ltr h1 h2 ht).symm⟩
theorem two_of {l : List Nat} {a : Nat} (nd : l.Pairwise (· < ·)) (ha : a ∈ l) : 2 ≤ l.length ↔ ∃ k ∈ l, k ≠ a := by
  constructor
  · intro h
    match l, nd, h with
    | x :: y :: r, nd, _ =>
      have lt := (List.pairwise_cons.mp nd).1 y List.mem_cons_self
      by_cases e : x = a
      · exact ⟨y, List.mem_cons_of_mem _ List.mem_cons_self, by omega⟩
      · exact ⟨x, List.mem_cons_self, e⟩
  · rintro ⟨k, hk, hne⟩
    match l, ha, hk with
    | [x], ha, hk => exact absurd ((List.mem_singleton.mp hk).trans (List.mem_singleton.mp ha).symm) hne
    | x :: y :: r, _, _ => show 2 ≤ r.length + 1 + 1; omega
theorem twB_iff {x : Str} {a b : Nat} (h1 : a ≤ b) (h2 : b ≤ x.length) : twB x a b = true ↔ Tw (ltr x) x.length a b := by
  unfold twB
  rw [decide_eq_true_eq, two_of (plc_asc _ _) (plc_own h1 h2)]
  constructor
  · rintro ⟨k, hk, hne⟩
    obtain ⟨k1, k2⟩ := plc_ltr.mp hk
    rw [cut_len h1 h2] at k1 k2
    exact ⟨k, hne, k1, fun t ht => (k2 t ht).trans (cut_ltr h1 h2 ht)⟩
  · rintro ⟨k, hne, k1, k2⟩
    refine ⟨k, plc_ltr.mpr ⟨by rw [cut_len h1 h2]; exact k1, fun t ht => ?_⟩, hne⟩
    rw [cut_len h1 h2] at ht
    rw [k2 t ht, cut_ltr h1 h2 ht]
theorem plc_one {x : Str} {a b : Nat} (h1 : a ≤ b) (h2 : b ≤ x.length) : (plc x (cutS x (some (a : Int)) (some (b : Int)))).length = 1 ↔ twB x a b = false := by
  have h := plc_own h1 h2
  have : 0 < (plc x (cutS x (some (a : Int)) (some (b : Int)))).length := List.length_pos_of_mem h
  unfold twB
  rw [decide_eq_false_iff_not]
  omega
/-- e is the least end from a -/
structure Lend (x : Str) (a e : Nat) : Prop where
  gt : a < e
  le : e ≤ x.length + 1
  twice : ∀ b, a < b → b < e → b ≤ x.length → twB x a b = true
  once : e ≤ x.length → twB x a e = false
theorem Lend.more {x : Str} {a e : Nat} (h : Lend x a e) {b : Nat} (h1 : e ≤ b) (h2 : b ≤ x.length) : twB x a b = false := by
  have g := h.gt
  cases e2 : twB x a b with
  | false => rfl
  | true =>
    have t := (twB_iff (by omega) h2).mp e2
    have := (twB_iff (by omega) (by omega)).mpr (t.less (Nat.le_refl _) (by omega) h1)
    rw [h.once (by omega)] at this
    cases this
theorem Lend.next {x : Str} {a e : Nat} (h : Lend x a e) : ∀ b, a + 1 < b → b < max e (a + 2) → b ≤ x.length → twB x (a + 1) b = true := by
  intro b b1 b2 b3
  have t := (twB_iff (by omega) b3).mp (h.twice b (by omega) (by omega) b3)
  exact (twB_iff (by omega) b3).mpr (t.less (by omega) (by omega) (Nat.le_refl _))
/-! ## one part -/
theorem cut_to {x : Str} {a : Nat} : (cutS x none (some (a : Int))).cps.toList = x.cps.toList.take a := by
  show ((x.cps.toList.drop (HT.sIx x.length 0 none)).take (HT.sIx x.length x.length (some (a : Int)) - HT.sIx x.length 0 none)).toArray.toList = _
  have lx : x.cps.toList.length = x.length := Array.length_toList
  rw [HT.sIx_none, HT.sIx_nat, Nat.sub_zero, List.drop_zero, List.toList_toArray]
  by_cases h : a ≤ x.length
  · rw [Nat.min_eq_left h]
  · rw [Nat.min_eq_right (by omega), List.take_of_length_le (by omega), List.take_of_length_le (by omega)]
theorem cut_from {x : Str} {a : Nat} : (cutS x (some (a : Int)) none).cps.toList = x.cps.toList.drop a := by
  show ((x.cps.toList.drop (HT.sIx x.length 0 (some (a : Int)))).take (HT.sIx x.length x.length none - HT.sIx x.length 0 (some (a : Int)))).toArray.toList = _
  have lx : x.cps.toList.length = x.length := Array.length_toList
  rw [HT.sIx_none, HT.sIx_nat, List.toList_toArray]
  by_cases h : a ≤ x.length
  · rw [Nat.min_eq_left h, List.take_of_length_le (by rw [List.length_drop]; omega)]
  · rw [Nat.min_eq_right (by omega), Nat.sub_self, List.take_zero, List.drop_of_length_le (by omega)]
theorem app_list (x y : Str) : (x ++ y).cps.toList = x.cps.toList ++ y.cps.toList := by
  show (x.cps ++ y.cps).toList = _
  exact Array.toList_append
theorem more_list {z y : Str} : (z ++ y).cps.toList = z.cps.toList ++ y.cps.toList := by
  show (z.cps ++ y.cps).toList = _
  simp
end Vk
set_option Elab.async false
set_option maxRecDepth 100000
set_option linter.all false
namespace Vk
open PySem PySem.Spec PyProof.Rows L2
def top (i : Nat) : Stmt := PySem.Challenge.pw_anchoredits_k54_whole_windows_and_their.main.body.getD i (.Pass ⟨0, 0, 0, 0⟩)
structure Txt (mg : Str → Option Value) : Prop where
  str : mg "str" = none
  tuple : mg "tuple" = none
  enumerate : mg "enumerate" = none
  bool : mg "bool" = none
  sum : mg "sum" = none
  max : mg "max" = none
  ValueError : mg "ValueError" = none
  reversed : mg "reversed" = none
  len : mg "len" = none
  list : mg "list" = none
  int : mg "int" = none
  abs : mg "abs" = none
  range : mg "range" = none
  min : mg "min" = none
  repr : mg "repr" = none
  isinstance : mg "isinstance" = none
abbrev tlV : List Value := [.type "ValueError", .type "Exception", .type "BaseException", .type "object"]
abbrev tlL : List Value := [.type "LookupError", .type "Exception", .type "BaseException", .type "object"]
section
variable {P : Program} {w : World} {K : PySem.W.Frag} {mg : Str → Option Value} {base : Heap}
abbrev m_InvalidOld : Stmt := mtd (top 7) 0
theorem sc_InvalidOld : FnScope ["self", "value"] ["self", "value"] (defScope m_InvalidOld) := ⟨rfl, rfl, rfl, by decide +kernel, rfl, by decide +kernel, by decide +kernel⟩
theorem b_InvalidOld {f C : Addr} {fd : FuncData} (F : Fun K "__init__" "InvalidOld.__init__" m_InvalidOld f fd) (T : OexK K C) (no : ∀ f ∈ (["value"] : List Str), PySem.W.findIn K (.ref C) f = some none) : FnG P w K mg base CX0 1 f fd ["self", "value"] (spIni C ["value"]) := by
  refine okG0 F sc_InvalidOld (fun vs H Q E h => ?_) (fun cdv A outer s H vs Q E hg hr h => ?_)
  · obtain ⟨a, ws, rfl, hl, _⟩ := h
    rw [List.length_cons, hl]
    rfl
  · obtain ⟨a, ws, rfl, hl, ha, k0, k⟩ := h
    match ws, hl with
    | [y], _ => exact ⟨_, (pss_one (ps_osk (pv 0) (pv 1))), _, rfl, _, rfl, a, C, rfl, T, no _ (by simp), .inl ⟨ha, fun dx n ne => k (by simp) dx n ne⟩⟩
theorem c_InvalidOld {h : Heap} {f C : Addr} {fd : FuncData} {tl : List Value} (KX : K.In h) (G : h.Ns mainGlobals mg) (E : ExcTxt K "InvalidOld" "InvalidOld.__init__" m_InvalidOld C f fd ["value"] tl) : ClsI P w K mg base 1 "InvalidOld" C ["value"] :=
  .of1 E KX G (b_InvalidOld E.fn E.T E.no) (fun _ _ _ _ _ _ _ _ => rfl) (fun _ _ _ _ _ _ _ _ => rfl)
abbrev m_InvalidNew : Stmt := mtd (top 8) 0
theorem sc_InvalidNew : FnScope ["self", "value"] ["self", "value"] (defScope m_InvalidNew) := ⟨rfl, rfl, rfl, by decide +kernel, rfl, by decide +kernel, by decide +kernel⟩
theorem b_InvalidNew {f C : Addr} {fd : FuncData} (F : Fun K "__init__" "InvalidNew.__init__" m_InvalidNew f fd) (T : OexK K C) (no : ∀ f ∈ (["value"] : List Str), PySem.W.findIn K (.ref C) f = some none) : FnG P w K mg base CX0 1 f fd ["self", "value"] (spIni C ["value"]) := by
  refine okG0 F sc_InvalidNew (fun vs H Q E h => ?_) (fun cdv A outer s H vs Q E hg hr h => ?_)
  · obtain ⟨a, ws, rfl, hl, _⟩ := h
    rw [List.length_cons, hl]
    rfl
  · obtain ⟨a, ws, rfl, hl, ha, k0, k⟩ := h
    match ws, hl with
    | [y], _ => exact ⟨_, (pss_one (ps_osk (pv 0) (pv 1))), _, rfl, _, rfl, a, C, rfl, T, no _ (by simp), .inl ⟨ha, fun dx n ne => k (by simp) dx n ne⟩⟩
theorem c_InvalidNew {h : Heap} {f C : Addr} {fd : FuncData} {tl : List Value} (KX : K.In h) (G : h.Ns mainGlobals mg) (E : ExcTxt K "InvalidNew" "InvalidNew.__init__" m_InvalidNew C f fd ["value"] tl) : ClsI P w K mg base 1 "InvalidNew" C ["value"] :=
  .of1 E KX G (b_InvalidNew E.fn E.T E.no) (fun _ _ _ _ _ _ _ _ => rfl) (fun _ _ _ _ _ _ _ _ => rfl)
abbrev m_InvalidSpot : Stmt := mtd (top 9) 0
theorem sc_InvalidSpot : FnScope ["self", "value"] ["self", "value"] (defScope m_InvalidSpot) := ⟨rfl, rfl, rfl, by decide +kernel, rfl, by decide +kernel, by decide +kernel⟩
theorem b_InvalidSpot {f C : Addr} {fd : FuncData} (F : Fun K "__init__" "InvalidSpot.__init__" m_InvalidSpot f fd) (T : OexK K C) (no : ∀ f ∈ (["value"] : List Str), PySem.W.findIn K (.ref C) f = some none) : FnG P w K mg base CX0 1 f fd ["self", "value"] (spIni C ["value"]) := by
  refine okG0 F sc_InvalidSpot (fun vs H Q E h => ?_) (fun cdv A outer s H vs Q E hg hr h => ?_)
  · obtain ⟨a, ws, rfl, hl, _⟩ := h
    rw [List.length_cons, hl]
    rfl
  · obtain ⟨a, ws, rfl, hl, ha, k0, k⟩ := h
    match ws, hl with
    | [y], _ => exact ⟨_, (pss_one (ps_osk (pv 0) (pv 1))), _, rfl, _, rfl, a, C, rfl, T, no _ (by simp), .inl ⟨ha, fun dx n ne => k (by simp) dx n ne⟩⟩
theorem c_InvalidSpot {h : Heap} {f C : Addr} {fd : FuncData} {tl : List Value} (KX : K.In h) (G : h.Ns mainGlobals mg) (E : ExcTxt K "InvalidSpot" "InvalidSpot.__init__" m_InvalidSpot C f fd ["value"] tl) : ClsI P w K mg base 1 "InvalidSpot" C ["value"] :=
  .of1 E KX G (b_InvalidSpot E.fn E.T E.no) (fun _ _ _ _ _ _ _ _ => rfl) (fun _ _ _ _ _ _ _ _ => rfl)
abbrev m_NoPlace : Stmt := mtd (top 11) 0
theorem sc_NoPlace : FnScope ["self", "index", "number"] ["self", "index", "number"] (defScope m_NoPlace) := ⟨rfl, rfl, rfl, by decide +kernel, rfl, by decide +kernel, by decide +kernel⟩
theorem b_NoPlace {f C : Addr} {fd : FuncData} (F : Fun K "__init__" "NoPlace.__init__" m_NoPlace f fd) (T : OexK K C) (no : ∀ f ∈ (["index", "number"] : List Str), PySem.W.findIn K (.ref C) f = some none) : FnG P w K mg base CX0 1 f fd ["self", "index", "number"] (spIni C ["index", "number"]) := by
  refine okG0 F sc_NoPlace (fun vs H Q E h => ?_) (fun cdv A outer s H vs Q E hg hr h => ?_)
  · obtain ⟨a, ws, rfl, hl, _⟩ := h
    rw [List.length_cons, hl]
    rfl
  · obtain ⟨a, ws, rfl, hl, ha, k0, k⟩ := h
    match ws, hl with
    | [y, z], _ =>
      refine ⟨_, (pss_cons (ps_osk (pv 0) (pv 1)) (pss_one (ps_osk (pv 0) (pv 2)))), _, rfl, _, rfl, a, C, rfl, T, no _ (by simp), .inl ⟨ha, fun dx n ne => ?_⟩⟩
      refine ⟨_, rfl, _, rfl, a, C, rfl, T, no _ (by simp), .inr ⟨dx, _, upd_same, (upd_ne ne).trans upd_same, Nat.le_of_ble_eq_true rfl, ?_⟩⟩
      have q := k (by simp) dx n ne
      rw [← two_upd ne] at q
      exact q
theorem c_NoPlace {h : Heap} {f C : Addr} {fd : FuncData} {tl : List Value} (KX : K.In h) (G : h.Ns mainGlobals mg) (E : ExcTxt K "NoPlace" "NoPlace.__init__" m_NoPlace C f fd ["index", "number"] tl) : ClsI P w K mg base 1 "NoPlace" C ["index", "number"] :=
  .of2 E KX G (b_NoPlace E.fn E.T E.no) (fun _ _ _ _ _ _ _ _ _ => rfl) (fun _ _ _ _ _ _ _ _ _ => rfl)
def isStr : PyData → Bool
  | .str _ => true
  | _ => false
theorem kit_str {H : Hp} {v : V} {d : PyData} (h : Th H v d) : ∃ t b, TyX K H v t ∧ PySem.W.kitOne K t (.type "str") = some b ∧ b = isStr d := by
  cases h with
  | atm a => cases a with
    | non => exact ⟨.type "NoneType", false, .base .non, kit_ty (by decide +kernel), rfl⟩
    | bl b => exact ⟨.type "bool", false, .base (.bl b), kit_ty (by decide +kernel), rfl⟩
    | int i => exact ⟨.type "int", false, .base (.int i), kit_ty (by decide +kernel), rfl⟩
    | str x => exact ⟨.type "str", true, .base (.str x), kit_ty (by decide +kernel), rfl⟩
  | lst e _ _ => exact ⟨.type "list", false, .base (.lst e), kit_ty (by decide +kernel), rfl⟩
  | tup e _ => exact ⟨.type "tuple", false, .base (.tup e), kit_ty (by decide +kernel), rfl⟩
  | dct e => exact ⟨.type "dict", false, .base (.dK e), kit_ty (by decide +kernel), rfl⟩
/-- a text: a string of letters -/
def isT : PyData → Bool
  | .str z => decide (V.str (Txt.lstripChars z letS) = V.str "")
  | _ => false
def isNew (d : PyData) : Bool := isT d && match d with | .str z => decide ((z.length : Int) ≤ 40) | _ => false
def isOld (d : PyData) : Bool := isNew d && match d with | .str z => !decide (V.str z = V.str "") | _ => false
/-- strings of values are short -/
def Srt (d : PyData) : Prop := match d with | .str z => z.length ≤ 1000 ∧ PyData.strOk z = true | _ => True
def spTest (f : PyData → Bool) : Sp := fun vs H Q _ => ∃ v d, vs = [v] ∧ Th H v d ∧ Srt d ∧ Q (.bl (f d)) H
abbrev s_is_text : Stmt := top 2
theorem sc_is_text : FnScope ["value"] ["value"] (defScope s_is_text) := ⟨rfl, rfl, rfl, by decide +kernel, rfl, by decide +kernel, by decide +kernel⟩
theorem b_is_text {f : Addr} {fd : FuncData} (F : Fun K "is_text" "is_text" s_is_text f fd) (T : Txt mg) (g_LETTERS : ∃ u, mg "LETTERS" = some u ∧ RelV (.str letS) u) : FnG P w K mg base CX0 1 f fd ["value"] (spTest isT) := by
  refine okG0 F sc_is_text (fun vs H Q E h => ?_) (fun cdv A outer s H vs Q E hg hr h => ?_)
  · obtain ⟨v, d, rfl, _⟩ := h
    rfl
  · have hu := hu_of hr
    have hu64 := hr.units
    obtain ⟨v, d, rfl, th, sr, k⟩ := h
    obtain ⟨t, b, ty, kt, hb⟩ := kit_str (K := K) th
    refine ⟨_, (pss_one (ps_ret (pe_and (pe_callB call_isi (by rfl) T.isinstance (by decide +kernel) (pa_cons (pv 0) (pa_cons (pe_bltn (v := .ty "str") (by rfl) T.str rfl rfl) pa_nil))) (pe_one (pe_cmpR op_eq (pe_bm PySem.F.plainAttrs_str PySem.F.slot_str_lstrip PySem.F.type_str_lstrip mt_lstripChars (pv 0) (pa_cons (C8.pe_gc (by rfl) g_LETTERS) pa_nil)) pe_str (nomark _)))))), ?_⟩
    refine ⟨_, rfl, v, .ty "str", t, .type "str", b, rfl, .ty "str", ty, kt, _, rfl, ?_⟩
    cases th with
    | atm a =>
      cases a with
      | str x =>
        subst hb
        refine iteT ⟨_, rfl, rfl, x, _, rfl, rfl, few_len sr.1, rfl, ?_⟩
        exact k
      | _ => subst hb; exact iteF k
    | _ => subst hb; exact iteF k

theorem isT_str {d : PyData} (h : isT d = true) : ∃ z, d = .str z := by
  cases d with
  | str z => exact ⟨z, rfl⟩
  | _ => cases h
theorem isNew_str {d : PyData} (h : isNew d = true) : ∃ z, d = .str z := by
  refine isT_str ?_
  unfold isNew at h
  rw [Bool.and_eq_true] at h
  exact h.1
theorem th_str {H : Hp} {v : V} {z : Str} (h : Th H v (.str z)) : v = .str z := by
  cases h with
  | atm a => cases a; rfl
abbrev s_is_new : Stmt := top 18
theorem sc_is_new : FnScope ["value"] ["value"] (defScope s_is_new) := ⟨rfl, rfl, rfl, by decide +kernel, rfl, by decide +kernel, by decide +kernel⟩
theorem b_is_new {f : Addr} {fd : FuncData} (F : Fun K "is_new" "is_new" s_is_new f fd) (T : Txt mg) (c_is_text : CalG P w K mg base CX0 1 "is_text" (spTest isT)) (g_MAX_WORD : ∃ u, mg "MAX_WORD" = some u ∧ RelV (.int 40) u) : FnG P w K mg base CX0 2 f fd ["value"] (spTest isNew) := by
  refine okG0 F sc_is_new (fun vs H Q E h => ?_) (fun cdv A outer s H vs Q E hg hr h => ?_)
  · obtain ⟨v, d, rfl, _⟩ := h
    rfl
  · have hu := hu_of hr
    have hu64 := hr.units
    obtain ⟨v, d, rfl, th, sr, k⟩ := h
    refine ⟨_, (pss_one (ps_ret (pe_and (pe_cG c_is_text hg hr (by decide) pass0 (pa_cons (pv 0) pa_nil)) (pe_one (pe_cmpR op_le (pe_callB call_len (by rfl) T.len (by decide +kernel) (pa_cons (pv 0) pa_nil)) (C8.pe_gc (by rfl) g_MAX_WORD) (nomark _)))))), ?_⟩
    refine ⟨_, rfl, v, d, rfl, th, sr, _, rfl, ?_⟩
    match hT : isT d with
    | false =>
      have e : isNew d = false := by unfold isNew; rw [hT, Bool.false_and]
      rw [e] at k
      exact iteF k
    | true =>
      obtain ⟨z, rfl⟩ := isT_str hT
      cases th_str th
      rw [isNew, hT] at k
      exact iteT ⟨_, rfl, _, _, rfl, ⟨few_len sr.1, rfl⟩, _, _, rfl, rfl, k⟩

abbrev s_is_old : Stmt := top 19
theorem sc_is_old : FnScope ["value"] ["value"] (defScope s_is_old) := ⟨rfl, rfl, rfl, by decide +kernel, rfl, by decide +kernel, by decide +kernel⟩
theorem b_is_old {f : Addr} {fd : FuncData} (F : Fun K "is_old" "is_old" s_is_old f fd) (T : Txt mg) (c_is_new : CalG P w K mg base CX0 2 "is_new" (spTest isNew)) : FnG P w K mg base CX0 3 f fd ["value"] (spTest isOld) := by
  refine okG0 F sc_is_old (fun vs H Q E h => ?_) (fun cdv A outer s H vs Q E hg hr h => ?_)
  · obtain ⟨v, d, rfl, _⟩ := h
    rfl
  · have hu := hu_of hr
    have hu64 := hr.units
    obtain ⟨v, d, rfl, th, sr, k⟩ := h
    refine ⟨_, (pss_one (ps_ret (pe_and (pe_cG c_is_new hg hr (by decide) pass0 (pa_cons (pv 0) pa_nil)) (pe_one (pe_cmpR op_ne (pv 0) pe_str (nomark _)))))), ?_⟩
    refine ⟨_, rfl, v, d, rfl, th, sr, _, rfl, ?_⟩
    match hT : isNew d with
    | false =>
      have e : isOld d = false := by unfold isOld; rw [hT, Bool.false_and]
      rw [e] at k
      exact iteF k
    | true =>
      obtain ⟨z, rfl⟩ := isNew_str hT
      cases th_str th
      rw [isOld, hT] at k
      exact iteT ⟨_, rfl, rfl, k⟩

/-- the first error that is due for the words of an edit -/
def spCheck (Co Cn : Addr) : Sp := fun vs H Q E => ∃ v1 d1 v2 d2, vs = [v1, v2] ∧ Th H v1 d1 ∧ Srt d1 ∧ Th H v2 d2 ∧ Srt d2 ∧ (isOld d1 = false → ∀ d, H d = none → E (.ref Co) (some d) (upd H d (.xd [(("value" : Str), v1)]))) ∧
  (isOld d1 = true → isNew d2 = false → ∀ d, H d = none → E (.ref Cn) (some d) (upd H d (.xd [(("value" : Str), v2)]))) ∧ (isOld d1 = true → isNew d2 = true → Q .non H)
abbrev s_check_words : Stmt := top 21
theorem sc_check_words : FnScope ["old", "new"] ["old", "new"] (defScope s_check_words) := ⟨rfl, rfl, rfl, by decide +kernel, rfl, by decide +kernel, by decide +kernel⟩
theorem b_check_words {f : Addr} {fd : FuncData} (F : Fun K "check_words" "check_words" s_check_words f fd) (T : Txt mg) (c_is_old : CalG P w K mg base CX0 3 "is_old" (spTest isOld)) (c_is_new : CalG P w K mg base CX0 2 "is_new" (spTest isNew)) {C_InvalidOld : Addr} (c_InvalidOld : ClsI P w K mg base 1 "InvalidOld" C_InvalidOld ["value"]) {C_InvalidNew : Addr} (c_InvalidNew : ClsI P w K mg base 1 "InvalidNew" C_InvalidNew ["value"]) : FnG P w K mg base (L2.CX P w) 4 f fd ["old", "new"] (spCheck C_InvalidOld C_InvalidNew) := by
  refine okG F sc_check_words (fun vs H Q E h => ?_) (fun cdv A outer s H vs Q E hg hr h => ?_)
  · obtain ⟨v1, d1, v2, d2, rfl, _⟩ := h
    rfl
  · have hu := hu_of hr
    have hu64 := hr.units
    obtain ⟨v1, d1, v2, d2, rfl, t1, r1, t2, r2, k1, k2, k3⟩ := h
    refine ⟨_, (pss_cons (ps_if (pt_not (pt_val (pe_cG c_is_old hg hr (by decide) pass0 (pa_cons (pv 0) pa_nil)))) (pss_one (ps_raise rfl (takes_of rfl rfl rfl rfl) (pmk_k c_InvalidOld hg hr (by decide) pass0 (pa_cons (pv 0) pa_nil)))) pss_nil)
      (pss_one (ps_if (pt_not (pt_val (pe_cG c_is_new hg hr (by decide) pass0 (pa_cons (pv 1) pa_nil)))) (pss_one (ps_raise rfl (takes_of rfl rfl rfl rfl) (pmk_k c_InvalidNew hg hr (by decide) pass0 (pa_cons (pv 1) pa_nil)))) pss_nil))), ?_⟩
    refine ⟨_, rfl, v1, d1, rfl, t1, r1, _, rfl, ?_⟩
    match h1 : isOld d1 with
    | false => exact iteT ⟨_, rfl, rfl, fun d hd => k1 h1 d hd⟩
    | true =>
      refine iteF ⟨_, rfl, v2, d2, rfl, t2, r2, _, rfl, ?_⟩
      match h2 : isNew d2 with
      | false => exact iteT ⟨_, rfl, rfl, fun d hd => k2 h1 h2 d hd⟩
      | true => exact iteF (k3 h1 h2)

/-- Once(old, new) and its like: the words are looked at first -/
def spEdit (C Co Cn : Addr) : Sp := fun vs H Q E => ∃ a dx v1 d1 v2 d2, vs = [.ref a, v1, v2] ∧ H a = some (.ins C dx []) ∧ Th H v1 d1 ∧ Srt d1 ∧ Th H v2 d2 ∧ Srt d2 ∧ (isOld d1 = false → ∀ d, H d = none → E (.ref Co) (some d) (upd H d (.xd [(("value" : Str), v1)]))) ∧
  (isOld d1 = true → isNew d2 = false → ∀ d, H d = none → E (.ref Cn) (some d) (upd H d (.xd [(("value" : Str), v2)]))) ∧ (isOld d1 = true → isNew d2 = true → Q .non (upd H a (.ins C dx [("_old", v1), ("_new", v2)])))
theorem upd_twice {H : Hp} {a : Addr} {o1 o2 : HO} : upd (upd H a o1) a o2 = upd H a o2 := by
  funext b
  by_cases h : b = a
  · subst h; rw [upd_same, upd_same]
  · rw [upd_ne h, upd_ne h, upd_ne h]
abbrev m_Once : Stmt := mtd (top 24) 0
theorem sc_Once : FnScope ["self", "old", "new"] ["self", "old", "new"] (defScope m_Once) := ⟨rfl, rfl, rfl, by decide +kernel, rfl, by decide +kernel, by decide +kernel⟩
theorem b_Once {f C Co Cn : Addr} {fd : FuncData} (F : Fun K "__init__" "Once.__init__" m_Once f fd) (c_check_words : CalG P w K mg base (L2.CX P w) 4 "check_words" (spCheck Co Cn)) (cl : Cls K C) (n1 : NoAttr K C "_old") (n2 : NoAttr K C "_new") : FnG P w K mg base (L2.CX P w) 5 f fd ["self", "old", "new"] (spEdit C Co Cn) := by
  refine okG F sc_Once (fun vs H Q E h => ?_) (fun cdv A outer s H vs Q E hg hr h => ?_)
  · obtain ⟨a, dx, v1, d1, v2, d2, rfl, _⟩ := h
    rfl
  · obtain ⟨a, dx, v1, d1, v2, d2, rfl, ha, t1, r1, t2, r2, k1, k2, k3⟩ := h
    refine ⟨_, (pss_cons (ps_expr (pe_cG c_check_words hg hr (by decide) (passes_call (takes_of rfl rfl rfl rfl) (fun _ _ _ _ h => h)) (pa_cons (pv 1) (pa_cons (pv 2) pa_nil)))) (pss_cons (ps_fld (pv 0) (pv 1) rfl) (pss_one (ps_fld (pv 0) (pv 2) rfl)))), ?_⟩
    refine ⟨_, rfl, _, rfl, v1, d1, v2, d2, rfl, t1, r1, t2, r2, k1, k2, fun g1 g2 => ?_⟩
    refine ⟨_, rfl, _, rfl, a, C, dx, [], rfl, ha, cl, n1, by decide, ?_⟩
    refine ⟨_, rfl, _, rfl, a, C, dx, _, rfl, upd_same, cl, n2, Nat.lt_of_succ_le (Nat.le_of_ble_eq_true rfl), ?_⟩
    rw [upd_twice]
    exact k3 g1 g2
theorem isT_all {z : Str} : isT (.str z) = z.cps.toList.all letS.cps.contains := by
  unfold isT
  rw [Bool.eq_iff_iff, ← lstrip_all]
  simp
abbrev s_lsigns : Stmt := top 55
theorem sc_lsigns : FnScope [] [] (defScope s_lsigns) := ⟨rfl, rfl, rfl, by decide +kernel, rfl, by decide +kernel, by decide +kernel⟩
theorem b_lsigns {f : Addr} {fd : FuncData} (F : Fun K "_law_signs" "_law_signs" s_lsigns f fd) (T : Txt mg) : FnG P w K mg base CX0 1 f fd [] spSigns := by
  refine okG0 F sc_lsigns (fun vs H Q E h => ?_) (fun cdv A outer s H vs Q E hg hr h => ?_)
  · obtain ⟨rfl, _⟩ := h
    rfl
  · have hu := hu_of hr
    have hu64 := hr.units
    obtain ⟨rfl, k⟩ := h
    exact ⟨_, (pss_one (ps_ret pe_str)), k⟩

def isIntB : PyData → Bool
  | .int _ => true
  | _ => false
theorem kit_int {H : Hp} {v : V} {d : PyData} (h : Th H v d) : ∃ t b c, TyX K H v t ∧ PySem.W.kitOne K t (.type "int") = some b ∧ PySem.W.kitOne K t (.type "bool") = some c ∧ (b && !c) = isIntB d ∧ (isIntB d = false → b = true → c = true) := by
  cases h with
  | atm a => cases a with
    | non => exact ⟨.type "NoneType", false, false, .base .non, kit_ty (by decide +kernel), kit_ty (by decide +kernel), rfl, fun _ z => nomatch z⟩
    | bl b => exact ⟨.type "bool", true, true, .base (.bl b), kit_ty (by decide +kernel), kit_ty (by decide +kernel), rfl, fun _ _ => rfl⟩
    | int i => exact ⟨.type "int", true, false, .base (.int i), kit_ty (by decide +kernel), kit_ty (by decide +kernel), rfl, fun z => nomatch z⟩
    | str x => exact ⟨.type "str", false, false, .base (.str x), kit_ty (by decide +kernel), kit_ty (by decide +kernel), rfl, fun _ z => nomatch z⟩
  | lst e _ _ => exact ⟨.type "list", false, false, .base (.lst e), kit_ty (by decide +kernel), kit_ty (by decide +kernel), rfl, fun _ z => nomatch z⟩
  | tup e _ => exact ⟨.type "tuple", false, false, .base (.tup e), kit_ty (by decide +kernel), kit_ty (by decide +kernel), rfl, fun _ z => nomatch z⟩
  | dct e => exact ⟨.type "dict", false, false, .base (.dK e), kit_ty (by decide +kernel), kit_ty (by decide +kernel), rfl, fun _ z => nomatch z⟩
def inI (d : PyData) (lo hi : Int) : Bool := match d with | .int i => decide (lo ≤ i) && decide (i ≤ hi) | _ => false
def spIsInt : Sp := fun vs H Q _ => ∃ v d, vs = [v] ∧ Th H v d ∧ Q (.bl (isIntB d)) H
def spInI : Sp := fun vs H Q _ => ∃ v d lo hi, vs = [v, .int lo, .int hi] ∧ Th H v d ∧ Q (.bl (inI d lo hi)) H
theorem int_th {H : Hp} {v : V} {d : PyData} (h : Th H v d) (z : isIntB d = true) : ∃ i, d = .int i ∧ v = .int i := by
  cases h with
  | atm a => cases a with
    | int i => exact ⟨i, rfl, rfl⟩
    | _ => cases z
  | _ => cases z
theorem inI_no {d : PyData} {lo hi : Int} (z : isIntB d = false) : inI d lo hi = false := by
  cases d with
  | int i => cases z
  | _ => rfl
abbrev s_is_integer : Stmt := top 4
theorem sc_is_integer : FnScope ["value"] ["value"] (defScope s_is_integer) := ⟨rfl, rfl, rfl, by decide +kernel, rfl, by decide +kernel, by decide +kernel⟩
theorem b_is_integer {f : Addr} {fd : FuncData} (F : Fun K "is_integer" "is_integer" s_is_integer f fd) (T : Txt mg) : FnG P w K mg base CX0 1 f fd ["value"] spIsInt := by
  refine okG0 F sc_is_integer (fun vs H Q E h => ?_) (fun cdv A outer s H vs Q E hg hr h => ?_)
  · obtain ⟨v, d, rfl, _⟩ := h
    rfl
  · have hu := hu_of hr
    have hu64 := hr.units
    obtain ⟨v, d, rfl, th, k⟩ := h
    obtain ⟨t, b, c, ty, kt, kc, hb, _⟩ := kit_int (K := K) th
    refine ⟨_, (pss_one (ps_ret (pe_and (pe_callB call_isi (by rfl) T.isinstance (by decide +kernel) (pa_cons (pv 0) (pa_cons (pe_bltn (v := .ty "int") (by rfl) T.int rfl rfl) pa_nil))) (pe_one (pe_not (pe_callB call_isi (by rfl) T.isinstance (by decide +kernel) (pa_cons (pv 0) (pa_cons (pe_bltn (v := .ty "bool") (by rfl) T.bool rfl rfl) pa_nil)))))))), ?_⟩
    refine ⟨_, rfl, v, .ty "int", t, .type "int", b, rfl, .ty "int", ty, kt, _, rfl, ?_⟩
    rw [← hb] at k
    cases b with
    | false => exact iteF k
    | true => exact iteT ⟨_, rfl, v, .ty "bool", t, .type "bool", c, rfl, .ty "bool", ty, kc, _, rfl, k⟩

abbrev s_is_integer_in : Stmt := top 5
theorem sc_is_integer_in : FnScope ["value", "low", "high"] ["value", "low", "high"] (defScope s_is_integer_in) := ⟨rfl, rfl, rfl, by decide +kernel, rfl, by decide +kernel, by decide +kernel⟩
theorem b_is_integer_in {f : Addr} {fd : FuncData} (F : Fun K "is_integer_in" "is_integer_in" s_is_integer_in f fd) (T : Txt mg) (c_is_integer : CalG P w K mg base CX0 1 "is_integer" spIsInt) : FnG P w K mg base CX0 2 f fd ["value", "low", "high"] spInI := by
  refine okG0 F sc_is_integer_in (fun vs H Q E h => ?_) (fun cdv A outer s H vs Q E hg hr h => ?_)
  · obtain ⟨v, d, lo, hi, rfl, _⟩ := h
    rfl
  · have hu := hu_of hr
    have hu64 := hr.units
    obtain ⟨v, d, lo, hi, rfl, th, k⟩ := h
    refine ⟨_, (pss_one (ps_ret (pe_and (pe_cG c_is_integer hg hr (by decide) pass0 (pa_cons (pv 0) pa_nil)) (pe_one (pe_chain op_le op_le (pv 1) (pv 0) (pv 2)))))), ?_⟩
    refine ⟨_, rfl, v, d, rfl, th, _, rfl, ?_⟩
    cases hI : isIntB d with
    | false =>
      rw [inI_no hI] at k
      exact iteF k
    | true =>
      obtain ⟨i, rfl, rfl⟩ := int_th th hI
      have k : Q (.bl (decide (lo ≤ i) && decide (i ≤ hi))) H := k
      refine iteT ⟨_, rfl, _, rfl, ?_⟩
      refine ⟨_, _, rfl, rfl, _, rfl, ?_⟩
      cases h1 : decide (lo ≤ i) with
      | false =>
        rw [h1, Bool.false_and] at k
        exact iteF k
      | true =>
        rw [h1, Bool.true_and] at k
        exact iteT ⟨_, rfl, _, _, rfl, rfl, k⟩

end
end Vk
set_option Elab.async false
set_option maxRecDepth 100000
set_option maxHeartbeats 4000000
set_option linter.all false
namespace Vk
open L2 PySem PySem.Spec PyProof.Rows PySem.VkX
/-! ## several except clauses, two classes in one among them -/
inductive Cly
  | only (c : Value) (ts : Sui)
  | named (c : Value) (i : Nat) (ts : Sui)
  | pair (c1 c2 : Value) (ts : Sui)
inductive ClyOk (X : Cx) : List ExceptHandler → List Cly → Prop
  | nil : ClyOk X [] []
  | only {x : Str} {c : Value} {ts : Sui} {s0 : Stmt} {ss : List Stmt} {p1 p2 : Pos} {hs : List ExceptHandler} {l : List Cly} (hc : Names X x c) (su : SuiOk X (s0 :: ss) ts) (r : ClyOk X hs l) : ClyOk X (.ExceptHandler (some (.Name x p1)) none (s0 :: ss) p2 :: hs) (.only c ts :: l)
  | named {x n : Str} {c : Value} {i : Nat} {ts : Sui} {s0 : Stmt} {ss : List Stmt} {p1 p2 : Pos} {hs : List ExceptHandler} {l : List Cly} (hi : X.N[i]? = some n) (hl : X.env.kindOf n = some .local) (hc : Names X x c) (su : SuiOk X (s0 :: ss) ts) (r : ClyOk X hs l) :
      ClyOk X (.ExceptHandler (some (.Name x p1)) (some n) (s0 :: ss) p2 :: hs) (.named c i ts :: l)
  | pair {x y : Str} {c1 c2 : Value} {ts : Sui} {s0 : Stmt} {ss : List Stmt} {p1 p2 p3 pt : Pos} {kk : Nat} {hs : List ExceptHandler} {l : List Cly} (hx : Names X x c1) (hy : Names X y c2) (su : SuiOk X (s0 :: ss) ts) (r : ClyOk X hs l) :
      ClyOk X (.ExceptHandler (some (.Tuple [.Name x p1, .Name y p3] kk pt)) none (s0 :: ss) p2 :: hs) (.pair c1 c2 ts :: l)
section
variable {X : Cx} {body : List Stmt} {e0 : ExceptHandler} {es : List ExceptHandler} {l : List Cly} {pos : Pos} {tb : WX → TS} {W0 : WX}
end
end Vk
set_option Elab.async false
set_option maxRecDepth 100000
set_option maxHeartbeats 4000000
set_option linter.all false
namespace Vk
open PySem PySem.Spec PyProof.Rows L2
/-! ## x[::-1], x a text -/
end Vk
set_option Elab.async false
set_option maxRecDepth 100000
set_option maxHeartbeats 4000000
set_option linter.all false
namespace Vk
open PySem PySem.Spec PyProof.Rows L2 HT
/-! ## t[::-1], t a tuple -/
section
variable {prog : Program} {w : World} {A : Around} {E : Value → Shared → Prop} {s : Shared}
end
end Vk
set_option Elab.async false
set_option maxRecDepth 100000
set_option maxHeartbeats 4000000
set_option linter.all false
namespace Vk
open PySem PySem.Spec PyProof.Rows L2 LamX
/-! ## things: a value, or a list or a tuple of values -/
inductive Tg (H : Hp) : V → PyData → Prop
  | one {v : V} {d : PyData} : Th H v d → (∀ ds, d ≠ .tuple ds) → Tg H v d
  | lst {a : Addr} {vs : List V} {ds : List PyData} : H a = some (.lst vs) → Paired (Th H) vs ds → Tg H (.ref a) (.list ds)
  | tup {a : Addr} {vs : List V} {ds : List PyData} : H a = some (.tup vs) → Paired (Th H) vs ds → Tg H (.ref a) (.tuple ds)
theorem atms_ths {H : Hp} : ∀ {vs : List V} {ds : List PyData}, Paired Atm vs ds → Paired (Th H) vs ds
  | _, _, .nil => .nil
  | _, _, .cons a t => .cons (.atm a) (atms_ths t)
theorem Th.tg {H : Hp} {v : V} {d : PyData} (h : Th H v d) : Tg H v d := by
  cases h with
  | atm a => exact .one (.atm a) (fun ds z => by cases a <;> cases z)
  | lst e n p => exact .one (.lst e n p) (fun ds z => by cases z)
  | tup e p => exact .tup e (atms_ths p)
  | dct e => exact .one (.dct e) (fun ds z => by cases z)
theorem Tg.keep {H H' : Hp} {v : V} {d : PyData} (h : Tg H v d) (s : Same H H') : Tg H' v d := by
  cases h with
  | one th n => exact .one (th.keep s) n
  | lst e p => exact .lst (s _ _ e) (ths_keep s p)
  | tup e p => exact .tup (s _ _ e) (ths_keep s p)
theorem ths_ext {H H' : Hp} {p c : Addr} {T : Nat} (hp : Pen H p c T) (x : Ext p H H') : ∀ {vs : List V} {ds : List PyData}, Paired (Th H) vs ds → Paired (Th H') vs ds
  | _, _, .nil => .nil
  | _, _, .cons a t => .cons (a.ext hp x) (ths_ext hp x t)
theorem Tg.ext {H H' : Hp} {p c : Addr} {T : Nat} {v : V} {d : PyData} (h : Tg H v d) (hp : Pen H p c T) (x : Ext p H H') : Tg H' v d := by
  have ne : ∀ {a o}, H a = some o → (∀ k, o ≠ .dK k) → H' a = some o := fun {a o} e n => x _ _ e fun z => by
    obtain ⟨t, l, hl⟩ := hp.is
    rw [z, hl] at e
    exact n _ (Option.some.inj e).symm
  cases h with
  | one th n => exact .one (th.ext hp x) n
  | lst e p => exact .lst (ne e fun _ z => nomatch z) (ths_ext hp x p)
  | tup e p => exact .tup (ne e fun _ z => nomatch z) (ths_ext hp x p)
end Vk
set_option Elab.async false
set_option maxRecDepth 100000
set_option linter.all false
set_option maxHeartbeats 4000000
namespace Vk
open PySem PySem.Spec PyProof.Rows L2
section
variable {P : Program} {w : World} {K : PySem.W.Frag} {mg : Str → Option Value} {base : Heap}
theorem find_two {x w : Str} : (∃ z : Int, Txt.find x w = z ∧ ∃ y : Int, Txt.find3 x w (z + 1) = y ∧ (decide (0 ≤ y) = decide (2 ≤ (plc x w).length))) := by
  have nd := plc_asc x w
  have mem : ∀ i, StrLaws.At x w x.length i ↔ i ∈ plc x w := fun i => by
    unfold plc
    rw [List.mem_filter, List.mem_range, atB_iff]
    exact ⟨fun h => ⟨by have := h.1; omega, h⟩, fun h => h.2⟩
  have ef : ∀ i : Nat, Txt.find3 x w ((i : Nat) : Int) = (match Builtin.Str.occurrences x w i x.length 1 with | i :: _ => (i : Int) | [] => -1) := fun i => by
    unfold Txt.find3
    rw [show fromIndex x.length ((i : Nat) : Int) = i by unfold fromIndex; rw [if_neg (by omega)]; omega]
    cases Builtin.Str.occurrences x w i x.length 1 <;> rfl
  have key : ∀ i : Nat, i ≤ x.length + 1 → (Txt.find3 x w ((i : Nat) : Int) = -1 ∧ ∀ k, i ≤ k → ¬ StrLaws.At x w x.length k) ∨ ∃ j : Nat, Txt.find3 x w ((i : Nat) : Int) = (j : Int) ∧ i ≤ j ∧ StrLaws.At x w x.length j ∧ ∀ k, i ≤ k → k < j → ¬ StrLaws.At x w x.length k := fun i hi => by
    rw [ef]
    exact find_from x w i hi
  have f0 : (Txt.find x w = -1 ∧ ∀ k, 0 ≤ k → ¬ StrLaws.At x w x.length k) ∨ ∃ j : Nat, Txt.find x w = (j : Int) ∧ 0 ≤ j ∧ StrLaws.At x w x.length j ∧ ∀ k, 0 ≤ k → k < j → ¬ StrLaws.At x w x.length k := find_from x w 0 (Nat.zero_le _)
  refine ⟨_, rfl, _, rfl, ?_⟩
  rcases f0 with ⟨h1, h2⟩ | ⟨i, h1, h2, h3, h4⟩
  · have en : plc x w = [] := List.eq_nil_iff_forall_not_mem.mpr fun k hk => h2 k (Nat.zero_le _) ((mem k).mpr hk)
    have k0 := key 0 (Nat.zero_le _)
    rw [h1, en]
    rcases k0 with ⟨g1, _⟩ | ⟨j, _, _, g3, _⟩
    · rw [show ((-1 : Int) + 1) = ((0 : Nat) : Int) by rfl, g1]
      decide
    · exact absurd g3 (h2 j (Nat.zero_le _))
  · have il : i ≤ x.length := by have := h3.1; omega
    have hi := (mem i).mp h3
    rw [h1, show ((i : Int) + 1) = ((i + 1 : Nat) : Int) by omega, decide_eq_decide, two_of nd hi]
    rcases key (i + 1) (by omega) with ⟨g1, g2⟩ | ⟨j, g1, g2, g3, g4⟩
    · rw [g1]
      constructor
      · intro h; omega
      · rintro ⟨k, hk, hne⟩
        have hk2 := (mem k).mpr hk
        by_cases lt : k < i
        · exact absurd hk2 (h4 k (Nat.zero_le _) lt)
        · exact absurd hk2 (g2 k (by omega))
    · rw [g1]
      exact ⟨fun _ => ⟨j, (mem j).mp g3, by omega⟩, fun _ => by omega⟩
def spTwice : Sp := fun vs H Q _ => ∃ x w, vs = [.str x, .str w] ∧ Q (.bl (decide (2 ≤ (plc x w).length))) H
abbrev s_stands_twice : Stmt := top 41
theorem sc_stands_twice : FnScope ["text", "word"] ["text", "word"] (defScope s_stands_twice) := ⟨rfl, rfl, rfl, by decide +kernel, rfl, by decide +kernel, by decide +kernel⟩
theorem b_stands_twice {f : Addr} {fd : FuncData} (F : Fun K "stands_twice" "stands_twice" s_stands_twice f fd) (T : Txt mg) : FnG P w K mg base CX0 1 f fd ["text", "word"] spTwice := by
  refine okG0 F sc_stands_twice (fun vs H Q E h => ?_) (fun cdv A outer s H vs Q E hg hr h => ?_)
  · obtain ⟨x, w, rfl, _⟩ := h
    rfl
  · have hu := hu_of hr
    have hu64 := hr.units
    obtain ⟨x, w, rfl, k⟩ := h
    refine ⟨_, (pss_one (ps_ret (pe_cmpR op_ge (pe_bm PySem.F.plainAttrs_str PySem.F.slot_str_find PySem.F.type_str_find mt_find3 (pv 0) (pa_cons (pv 1) (pa_cons (pe_op op_add (pe_bm PySem.F.plainAttrs_str PySem.F.slot_str_find PySem.F.type_str_find mt_find (pv 0) (pa_cons (pv 1) pa_nil)) pe_int) pa_nil))) pe_int (nomark _)))), ?_⟩
    obtain ⟨z, e1, y, e2, e3⟩ := @find_two x w
    refine ⟨_, rfl, rfl, _, rfl, _, rfl, rfl, _, rfl, x, w, rfl, rfl, ?_⟩
    rw [e1]
    refine ⟨_, _, rfl, rfl, x, w, _, rfl, rfl, ?_⟩
    rw [e2]
    refine ⟨_, _, rfl, rfl, ?_⟩
    show Q (V.bl (decide (0 ≤ y))) H
    rw [e3]
    exact k

def spOnce : Sp := fun vs H Q _ => ∃ x w, vs = [.str x, .str w] ∧ Q (.bl (decide ((plc x w).length = 1))) H
theorem in_plc {x w : Str} : (!(Builtin.Str.occurrences x w 0 x.length 1).isEmpty) = decide (1 ≤ (plc x w).length) := by
  rw [Bool.eq_iff_iff, PySem.StrLaws.found_iff, decide_eq_true_eq]
  constructor
  · rintro ⟨i, h1, h2⟩
    refine List.length_pos_of_mem (a := i) ?_
    unfold plc atB
    rw [List.mem_filter, List.mem_range, Bool.and_eq_true, decide_eq_true_eq]
    exact ⟨by omega, h1, h2⟩
  · intro h
    obtain ⟨i, hi⟩ := List.exists_mem_of_length_pos h
    unfold plc atB at hi
    rw [List.mem_filter, List.mem_range, Bool.and_eq_true, decide_eq_true_eq] at hi
    exact ⟨i, hi.2.1, hi.2.2⟩
abbrev s_stands_once : Stmt := top 42
theorem sc_stands_once : FnScope ["text", "word"] ["text", "word"] (defScope s_stands_once) := ⟨rfl, rfl, rfl, by decide +kernel, rfl, by decide +kernel, by decide +kernel⟩
theorem b_stands_once {f : Addr} {fd : FuncData} (F : Fun K "stands_once" "stands_once" s_stands_once f fd) (T : Txt mg) (c_stands_twice : CalG P w K mg base CX0 1 "stands_twice" spTwice) : FnG P w K mg base CX0 2 f fd ["text", "word"] spOnce := by
  refine okG0 F sc_stands_once (fun vs H Q E h => ?_) (fun cdv A outer s H vs Q E hg hr h => ?_)
  · obtain ⟨x, w, rfl, _⟩ := h
    rfl
  · have hu := hu_of hr
    have hu64 := hr.units
    obtain ⟨x, w, rfl, k⟩ := h
    have hr1 : Room 1 _ := hr
    refine ⟨_, (pss_one (ps_ret (pe_and (pe_cmpR op_in_str (pv 1) (pv 0) (by rfl)) (pe_one (pe_not (pe_cG c_stands_twice hg hr (by decide) pass0 (pa_cons (pv 0) (pa_cons (pv 1) pa_nil)))))))), ?_⟩
    refine ⟨_, rfl, _, rfl, w, x, rfl, rfl, _, rfl, ?_⟩
    rw [in_plc]
    by_cases c : 1 ≤ (plc x w).length
    · rw [decide_eq_true c]
      refine iteT ?_
      refine ⟨_, rfl, _, rfl, x, w, rfl, _, rfl, ?_⟩
      have e : (!decide (2 ≤ (plc x w).length)) = decide ((plc x w).length = 1) := by
        rw [← decide_not]
        exact decide_eq_decide.mpr (by omega)
      rw [e]
      exact k
    · rw [decide_eq_false c]
      refine iteF ?_
      rw [decide_eq_false (show ¬ (plc x w).length = 1 by omega)] at k
      exact k

theorem inI_int {d : PyData} {lo hi : Int} (h : inI d lo hi = true) : ∃ i, d = .int i ∧ lo ≤ i ∧ i ≤ hi := by
  cases d with
  | int i =>
    have h : (decide (lo ≤ i) && decide (i ≤ hi)) = true := h
    rw [Bool.and_eq_true, decide_eq_true_eq, decide_eq_true_eq] at h
    exact ⟨i, rfl, h.1, h.2⟩
  | _ => cases h
theorem th_int {H : Hp} {v : V} {i : Int} (h : Th H v (.int i)) : v = .int i := by
  cases h with
  | atm a => cases a; rfl
def spCkSpot (CS : Addr) : Sp := fun vs H Q E => ∃ x v1 d1 v2 d2, vs = [.str x, v1, v2] ∧ Th H v1 d1 ∧ Th H v2 d2 ∧ x.length ≤ 100 ∧ (inI d1 0 x.length = false → ∀ d, H d = none → E (.ref CS) (some d) (upd H d (.xd [(("value" : Str), v1)]))) ∧
  (∀ i, d1 = .int i → 0 ≤ i → i ≤ x.length → inI d2 i x.length = false → ∀ d, H d = none → E (.ref CS) (some d) (upd H d (.xd [(("value" : Str), v2)]))) ∧ (∀ i j, d1 = .int i → d2 = .int j → 0 ≤ i → i ≤ j → j ≤ x.length → Q .non H)
abbrev s_check_spot : Stmt := top 40
theorem sc_check_spot : FnScope ["text", "first", "last"] ["text", "first", "last"] (defScope s_check_spot) := ⟨rfl, rfl, rfl, by decide +kernel, rfl, by decide +kernel, by decide +kernel⟩
theorem b_check_spot {f : Addr} {fd : FuncData} (F : Fun K "check_spot" "check_spot" s_check_spot f fd) (T : Txt mg) (c_is_integer_in : CalG P w K mg base CX0 2 "is_integer_in" spInI) {C_InvalidSpot : Addr} (c_InvalidSpot : ClsI P w K mg base 1 "InvalidSpot" C_InvalidSpot ["value"]) : FnG P w K mg base (L2.CX P w) 3 f fd ["text", "first", "last"] (spCkSpot C_InvalidSpot) := by
  refine okG F sc_check_spot (fun vs H Q E h => ?_) (fun cdv A outer s H vs Q E hg hr h => ?_)
  · obtain ⟨x, v1, d1, v2, d2, rfl, _⟩ := h
    rfl
  · have hu := hu_of hr
    have hu64 := hr.units
    obtain ⟨x, v1, d1, v2, d2, rfl, t1, t2, hx, k1, k2, k3⟩ := h
    have xl : x.length ≤ sizeLine := Nat.le_of_lt (fewL (by omega))
    refine ⟨_, (pss_cons (ps_if (pt_not (pt_val (pe_cG c_is_integer_in hg hr (by decide) pass0 (pa_cons (pv 1) (pa_cons pe_int (pa_cons (pe_callB call_len (by rfl) T.len (by decide +kernel) (pa_cons (pv 0) pa_nil)) pa_nil)))))) (pss_one (ps_raise rfl (takes_of rfl rfl rfl rfl) (pmk_k c_InvalidSpot hg hr (by decide) pass0 (pa_cons (pv 1) pa_nil)))) pss_nil)
      (pss_one (ps_if (pt_not (pt_val (pe_cG c_is_integer_in hg hr (by decide) pass0 (pa_cons (pv 2) (pa_cons (pv 1) (pa_cons (pe_callB call_len (by rfl) T.len (by decide +kernel) (pa_cons (pv 0) pa_nil)) pa_nil)))))) (pss_one (ps_raise rfl (takes_of rfl rfl rfl rfl) (pmk_k c_InvalidSpot hg hr (by decide) pass0 (pa_cons (pv 2) pa_nil)))) pss_nil))), ?_⟩
    refine ⟨_, rfl, _, rfl, _, _, rfl, ⟨xl, rfl⟩, v1, d1, _, _, rfl, t1, _, rfl, ?_⟩
    cases h1 : inI d1 0 x.length with
    | false => exact iteT ⟨_, rfl, rfl, fun d hd => k1 h1 d hd⟩
    | true =>
      obtain ⟨i, rfl, i0, i1⟩ := inI_int h1
      cases th_int t1
      refine iteF ⟨_, rfl, _, rfl, _, rfl, _, _, rfl, ⟨xl, rfl⟩, v2, d2, _, _, rfl, t2, _, rfl, ?_⟩
      cases h2 : inI d2 i x.length with
      | false => exact iteT ⟨_, rfl, rfl, fun d hd => k2 i rfl i0 i1 h2 d hd⟩
      | true =>
        obtain ⟨j, rfl, j0, j1⟩ := inI_int h2
        exact iteF (k3 i j rfl rfl i0 j0 j1)

end
end Vk
set_option Elab.async false
set_option maxRecDepth 100000
set_option linter.all false
set_option maxHeartbeats 4000000
namespace Vk
open PySem PySem.Spec PyProof.Rows L2
section
variable {P : Program} {w : World} {K : PySem.W.Frag} {mg : Str → Option Value} {base : Heap}
abbrev Ltr (x : Str) : Prop := ∀ c ∈ x.cps.toList, c ∈ letS.cps.toList
theorem lt_word {z x : Str} {a b : Nat} (fz : Few z) (w : Word z a b x) : Ltr x := fun c hc => fz.2.2 c (w.2.2 c hc)
theorem lt_one {z : Str} {c : Nat} (fz : Few z) (h : c ∈ z.cps.toList) : Ltr (⟨#[c]⟩ : Str) := fun d hd => by
  have e : d ∈ [c] := hd
  rw [List.mem_singleton.mp e]
  exact fz.2.2 c h
theorem cutS_lt {x : Str} (h : Ltr x) (a b : Option Int) : Ltr (cutS x a b) := fun c hc => by
  have hc2 : c ∈ (List.toArray ((x.cps.toList.drop (HT.sIx x.length 0 a)).take (HT.sIx x.length x.length b - HT.sIx x.length 0 a))).toList := hc
  rw [List.toList_toArray] at hc2
  exact h c (List.mem_of_mem_drop (List.mem_of_mem_take hc2))
theorem lt_more {z y : Str} (h1 : Ltr z) (h2 : Ltr y) : Ltr (z ++ y) := fun c hc => by
  rw [more_list] at hc
  rcases List.mem_append.mp hc with h | h
  · exact h1 c h
  · exact h2 c h
theorem lt_none : Ltr "" := by decide +kernel
abbrev s_ldraw : Stmt := top 52
theorem sc_ldraw : FnScope ["_law_pen_here", "_law_many", "_law_digit", "_law_turn", "_law_cell", "_law_primes", "_law_prime", "_law_drawn"] ["_law_pen_here", "_law_many"] (defScope s_ldraw) := ⟨rfl, rfl, rfl, by decide +kernel, rfl, by decide +kernel, by decide +kernel⟩
theorem b_ldraw {f : Addr} {fd : FuncData} (F : Fun K "_law_draw" "_law_draw" s_ldraw f fd) (T : Txt mg) : FnG P w K mg base CX0 1 f fd ["_law_pen_here", "_law_many"] spDraw := by
  refine okG0 F sc_ldraw (fun vs H Q E h => ?_) (fun cdv A outer s H vs Q E hg hr h => ?_)
  · obtain ⟨p, c, m, T0, rfl, _⟩ := h
    rfl
  · have hu := hu_of hr
    have hu64 := hr.units
    obtain ⟨p, c, m, T0, rfl, m0, m1, ⟨ns, t, l, hp, hc, hn, t0, tT, l0⟩, hT, k⟩ := h
    have ncp : c ≠ p := ne_of hc hp (by intro z; cases z)
    have lenns : (ns.map V.int).length = ns.length := List.length_map _
    refine ⟨_, (pss_cons (ps_if (pt_cmpR op_gt (pe_dget hu (pv 0) pe_str (fun _ _ => rfl)) pe_int (nomark _)) (pss_cons (ps_set (i := 2) sc_ldraw.nd rfl (Or.inl rfl) (pe_op op_mod (pe_callTy call_int1 (by rfl) T.int (by decide +kernel) (pa_cons (pe_dget hu (pv 0) pe_str (fun _ _ => rfl)) pa_nil)) (pv 1)))
      (pss_cons (ps_dput hu (pv 0) pe_str (pe_op op_fdiv (pe_dget hu (pv 0) pe_str (fun _ _ => rfl)) (pv 1)) rfl)
      (pss_one (ps_ret (pv 2))))) pss_nil)
      (pss_cons (ps_set (i := 3) sc_ldraw.nd rfl (Or.inl rfl) (pe_dget hu (pv 0) pe_str (fun _ _ => rfl)))
      (pss_cons (ps_dput hu (pv 0) pe_str (pe_op op_add (pv 3) pe_int) rfl)
      (pss_cons (ps_set (i := 4) sc_ldraw.nd rfl (Or.inl rfl) (pe_op op_add (pe_op op_mul pe_int (pv 3)) pe_int))
      (C8.pss_cut (ps_if (pt_cmpR (op_neD hu64) (pe_dget hu (pv 0) pe_str (fun _ _ => rfl)) (pe_lst pa_nil) (nomark _)) (pss_one (ps_set (i := 4) sc_ldraw.nd rfl (Or.inl rfl) (pe_ix ix_seq (pe_dget hu (pv 0) pe_str (fun _ _ => rfl)) (pe_op op_mod (pe_callTy call_int1 (by rfl) T.int (by decide +kernel) (pa_cons (pv 3) pa_nil)) (pe_callB call_len (by rfl) T.len (by decide +kernel) (pa_cons (pe_dget hu (pv 0) pe_str (fun _ _ => rfl)) pa_nil))) (fun _ _ => rfl)))) pss_nil)
      (C8.pss_cut (ps_if (PW.pt (pw_and (pt_cmpR op_lt (pv 3) (pe_callB call_len (by rfl) T.len (by decide +kernel) (pa_cons (pe_dget hu (pv 0) pe_str (fun _ _ => rfl)) pa_nil)) (nomark _)) (pw_and1 (pt_cmpR op_ge (pe_callB call_abs (by rfl) T.abs (by decide +kernel) (pa_cons (pv 4) pa_nil)) (pe_op op_pow pe_int pe_int) (nomark _))))) (pss_cons (ps_dput hu (pv 0) pe_str (pe_op op_fdiv (pe_op op_sub (pe_callB call_abs (by rfl) T.abs (by decide +kernel) (pa_cons (pv 4) pa_nil)) (pe_op op_pow pe_int pe_int)) (pv 1)) rfl)
      (pss_one (ps_ret (pe_op op_mod (pe_op op_sub (pe_callB call_abs (by rfl) T.abs (by decide +kernel) (pa_cons (pv 4) pa_nil)) (pe_op op_pow pe_int pe_int)) (pv 1))))) pss_nil)
      (pss_cons (ps_set (i := 5) sc_ldraw.nd rfl (Or.inl rfl) (pe_lst (pa_cons pe_int (pa_cons pe_int (pa_cons pe_int (pa_cons pe_int (pa_cons pe_int pa_nil)))))))
      (pss_cons (ps_set (i := 6) sc_ldraw.nd rfl (Or.inl rfl) (pe_ix ix_seq (pv 5) (pe_op op_mod (pe_callTy call_int1 (by rfl) T.int (by decide +kernel) (pa_cons (pv 3) pa_nil)) pe_int) (fun _ _ => rfl)))
      (pss_cons (ps_set (i := 7) sc_ldraw.nd rfl (Or.inl rfl) (pe_op op_mod (pe_callTy call_int1 (by rfl) T.int (by decide +kernel) (pa_cons (pe_op op_add (pe_op op_add (pe_op op_mul (pe_op op_mod (pe_callTy call_int1 (by rfl) T.int (by decide +kernel) (pa_cons (pv 4) pa_nil)) (pv 6)) pe_int) (pe_op op_mul (pv 3) (pe_op op_add (pe_op op_mul pe_int (pv 3)) pe_int))) pe_int) pa_nil)) (pv 6)))
      (pss_cons (ps_set (i := 7) sc_ldraw.nd rfl (Or.inl rfl) (pe_op op_mod (pe_callTy call_int1 (by rfl) T.int (by decide +kernel) (pa_cons (pe_op op_mul (pv 7) (pe_op op_add (pv 7) pe_int)) pa_nil)) (pe_ix ix_seq (pv 5) (pe_op op_mod (pe_callTy call_int1 (by rfl) T.int (by decide +kernel) (pa_cons (pe_op op_add (pv 3) pe_int) pa_nil)) pe_int) (fun _ _ => rfl))))
      (pss_one (ps_ret (pe_op op_mod (pe_callTy call_int1 (by rfl) T.int (by decide +kernel) (pa_cons (pe_op op_fdiv (pe_op op_mod (pe_callTy call_int1 (by rfl) T.int (by decide +kernel) (pa_cons (pe_op op_add (pe_op op_add (pe_op op_mul (pv 7) (pv 7)) (pe_op op_mul pe_int (pv 7))) (pv 3)) pa_nil)) pe_int) pe_int) pa_nil)) (pv 1)))))))))))))), ?_⟩
    refine ⟨_, rfl, p, _, rfl, get_left hp, _, _, rfl, rfl, _, rfl, ?_⟩
    refine ite2 (fun hl => ?_) (fun hl => ?_)
    · refine ⟨_, rfl, p, _, rfl, get_left hp, .inl ⟨_, rfl, ?_⟩⟩
      refine ⟨_, rfl, _, _, rfl, rfl, m0, ?_⟩
      refine ⟨_, rfl, p, _, rfl, get_left hp, _, rfl, _, _, rfl, rfl, ⟨by omega, by omega⟩, ?_⟩
      refine ⟨_, rfl, p, _, rfl, put_left hp, _, rfl, ?_⟩
      refine k _ _ (Int.emod_nonneg _ (by omega)) (Int.emod_lt_of_pos _ m0) ⟨ns, t, _, upd_same, (upd_ne ncp).trans hc, hn, t0, by omega, Int.ediv_nonneg l0 (by omega)⟩ Ext.at
    · refine ⟨_, rfl, p, _, rfl, get_turn hp, ?_⟩
      refine ⟨_, rfl, _, _, rfl, rfl, _, rfl, p, _, rfl, put_turn hp, ?_⟩
      generalize hH1 : upd H p (.dK (penL c (t + 1) l)) = H1
      have hp1 : H1 p = some (.dK (penL c (t + 1) l)) := by rw [← hH1]; exact upd_same
      have hc1 : H1 c = some (.lst (ns.map V.int)) := by rw [← hH1]; exact (upd_ne ncp).trans hc
      have e1 : Ext p H H1 := by rw [← hH1]; exact Ext.at
      refine ⟨_, rfl, _, _, rfl, rfl, .inl ⟨by decide, by decide⟩, _, _, rfl, rfl, ?_⟩
      refine ⟨fun σ' H2 => ∃ z : Int, σ' = [some (.ref p), some (.int m), none, some (.int t), some (.int z), none, none, none] ∧ H2 p = some (.dK (penL c (t + 1) l)) ∧ H2 c = some (.lst (ns.map V.int)) ∧ Ext p H H2, ?_, ?_⟩
      · refine ⟨_, rfl, p, _, rfl, get_cells hp1, by decide, fun b hb => ?_⟩
        have hp2 := up_new (u := .lst []) hp1 hb
        have hc2 := up_new (u := .lst []) hc1 hb
        refine ⟨.list (ns.map .int), .list [], .lst (SqL.of hc2) (ints_dp ns), .lst (SqL.of upd_same) .nil, ints_shaped ns, by decide +kernel, _, rfl, ?_⟩
        rw [ints_ne_nil]
        refine ite2 (fun hne => ?_) (fun _ => ?_)
        · have hpos : 0 < ns.length := by
            cases ns with
            | nil => simp at hne
            | cons a r => exact Nat.succ_pos _
          refine ⟨_, rfl, p, _, rfl, get_cells hp2, _, rfl, .inl ⟨_, rfl, _, rfl, p, _, rfl, get_cells hp2, _, _, rfl, .inl ⟨_, SqL.of hc2, rfl⟩, _, _, rfl, rfl, ?_, ?_⟩⟩
          · rw [lenns]; omega
          · obtain ⟨v, hv, hm⟩ := at_mod (xs := ns.map V.int) (i := t % ((ns.map V.int).length : Int)) (Int.emod_nonneg _ (by rw [lenns]; omega)) (Int.emod_lt_of_pos _ (by rw [lenns]; omega))
            obtain ⟨z, _, rfl⟩ := List.mem_map.mp hm
            refine .inl ⟨_, _, _, _, rfl, rfl, SqL.of hc2, hv, z, rfl, hp2, hc2, e1.set (e1.none_of ?_ hb)⟩
            exact (ne_of_none hp1 hb).symm
        · exact ⟨_, rfl, hp2, hc2, e1.set (e1.none_of (ne_of_none hp1 hb).symm hb)⟩
      · rintro σ2 H2 ⟨z, rfl, hp2, hc2, e2⟩
        refine ⟨fun σ' H3 => σ' = [some (.ref p), some (.int m), none, some (.int t), some (.int z), none, none, none] ∧ H3 = H2, ?_, ?_⟩
        · refine ⟨_, rfl, _, rfl, p, _, rfl, get_cells hp2, _, _, rfl, .inl ⟨_, SqL.of hc2, rfl⟩, _, _, rfl, rfl, _, rfl, ?_⟩
          refine ite2 (fun _ => ?_) (fun _ => ?_)
          · refine ⟨_, rfl, _, rfl, _, _, rfl, rfl, ⟨by decide, by decide, by decide⟩, _, _, rfl, rfl, _, rfl, ?_⟩
            refine ite2 (fun hbig => ?_) (fun _ => ?_)
            · have big := of_decide_eq_true hbig
              refine ⟨_, rfl, _, rfl, _, _, rfl, rfl, ⟨by decide, by decide, by decide⟩, _, _, rfl, rfl, _, rfl, _, _, rfl, rfl, ⟨by omega, by omega⟩, ?_⟩
              refine ⟨_, rfl, p, _, rfl, put_left hp2, ?_⟩
              refine ⟨_, rfl, _, rfl, _, _, rfl, rfl, ⟨by decide, by decide, by decide⟩, _, _, rfl, rfl, _, rfl, _, _, rfl, rfl, m0, ?_⟩
              refine k _ _ (Int.emod_nonneg _ (by omega)) (Int.emod_lt_of_pos _ m0) ⟨ns, t + 1, _, upd_same, (upd_ne ncp).trans hc2, hn, by omega, by omega, Int.ediv_nonneg (by omega) (by omega)⟩ (e2.trans Ext.at)
            · exact ⟨rfl, rfl⟩
          · exact ⟨rfl, rfl⟩
        · rintro σ3 H3 ⟨rfl, rfl⟩
          refine ⟨by decide, fun q hq => ?_⟩
          have hp3 := up_new (u := .lst (primes.map V.int)) hp2 hq
          have hc3 := up_new (u := .lst (primes.map V.int)) hc2 hq
          have e3 : Ext p H (upd H3 q (.lst (primes.map V.int))) := e2.set (e2.none_of (ne_of_none hp2 hq).symm hq)
          have hq3 : (upd H3 q (.lst (primes.map V.int))) q = some (.lst (primes.map V.int)) := upd_same
          have pick : ∀ i : Int, 0 ≤ i → i < 5 → ∃ z : Int, atI (primes.map V.int) i = some (.int z) ∧ 0 < z ∧ z < 2147483648 := fun i h0 h5 => by
            obtain ⟨v, hv, hm⟩ := at_mod (xs := primes.map V.int) h0 h5
            obtain ⟨z, rfl, hz⟩ := primes_in hm
            exact ⟨z, hv, hz⟩
          obtain ⟨a1, ha1, a1p, a1b⟩ := pick (t % 5) (Int.emod_nonneg _ (by decide)) (Int.emod_lt_of_pos _ (by decide))
          obtain ⟨a2, ha2, a2p, a2b⟩ := pick ((t + 2) % 5) (Int.emod_nonneg _ (by decide)) (Int.emod_lt_of_pos _ (by decide))
          refine ⟨_, rfl, _, rfl, .inl ⟨_, rfl, _, _, rfl, rfl, (by show (0 : Int) < 5; decide), .inl ⟨_, _, _, _, rfl, rfl, SqL.of hq3, ha1, ?_⟩⟩⟩
          have b1 := Int.emod_nonneg z (show a1 ≠ 0 by omega)
          have b2 := Int.emod_lt_of_pos z a1p
          refine ⟨_, rfl, .inl ⟨_, rfl, _, rfl, _, _, rfl, rfl, a1p, _, _, rfl, rfl, .inr ⟨by decide, by decide⟩, ?_⟩⟩
          refine ⟨_, rfl, _, rfl, _, _, rfl, rfl, .inl ⟨by decide, by decide⟩, _, _, rfl, rfl, _, _, rfl, rfl, .inl ⟨by omega, by omega⟩, _, _, rfl, rfl, _, _, rfl, rfl, .inl ⟨_, rfl, _, rfl, _, _, rfl, rfl, a1p, ?_⟩⟩
          have d1 := Int.emod_nonneg (z % a1 * 39373 + t * (30011 * t + 8117) + 23) (show a1 ≠ 0 by omega)
          have d2 := Int.emod_lt_of_pos (z % a1 * 39373 + t * (30011 * t + 8117) + 23) a1p
          refine ⟨_, rfl, _, rfl, _, _, rfl, rfl, _, _, rfl, rfl, .inl ⟨by omega, by omega⟩, .inl ⟨_, rfl, _, rfl, _, rfl, _, _, rfl, rfl, .inl ⟨_, rfl, _, _, rfl, rfl, (by show (0 : Int) < 5; decide), .inl ⟨_, _, _, _, rfl, rfl, SqL.of hq3, ha2, _, _, rfl, rfl, a2p, ?_⟩⟩⟩⟩
          have f1 := Int.emod_nonneg (((z % a1 * 39373 + t * (30011 * t + 8117) + 23) % a1) * (((z % a1 * 39373 + t * (30011 * t + 8117) + 23) % a1) + 69621)) (show a2 ≠ 0 by omega)
          have f2 := Int.emod_lt_of_pos (((z % a1 * 39373 + t * (30011 * t + 8117) + 23) % a1) * (((z % a1 * 39373 + t * (30011 * t + 8117) + 23) % a1) + 69621)) a2p
          refine ⟨_, rfl, _, rfl, _, _, rfl, rfl, .inl ⟨by omega, by omega⟩, _, rfl, _, _, rfl, rfl, .inl ⟨by decide, by decide⟩, _, _, rfl, rfl, _, rfl, _, _, rfl, rfl, .inl ⟨_, rfl, _, _, rfl, rfl, (by show (0 : Int) < 2147483549; decide), _, _, rfl, rfl, ⟨by decide, by decide⟩, .inl ⟨_, rfl, _, rfl, _, _, rfl, rfl, m0, ?_⟩⟩⟩
          exact k _ _ (Int.emod_nonneg _ (by omega)) (Int.emod_lt_of_pos _ m0) ⟨ns, t + 1, l, hp3, hc3, hn, by omega, by omega, l0⟩ e3

abbrev s_lpen : Stmt := top 51
theorem sc_lpen : FnScope ["_law_script"] ["_law_script"] (defScope s_lpen) := ⟨rfl, rfl, rfl, by decide +kernel, rfl, by decide +kernel, by decide +kernel⟩
theorem b_lpen {f : Addr} {fd : FuncData} (F : Fun K "_law_pen" "_law_pen" s_lpen f fd) (T : Txt mg) : FnG P w K mg base CX0 1 f fd ["_law_script"] (spPen K) := by
  refine okG0 F sc_lpen (fun vs H Q E h => ?_) (fun cdv A outer s H vs Q E hg hr h => ?_)
  · obtain ⟨a, ns, rfl, _⟩ := h
    rfl
  · have hu := hu_of hr
    have hu64 := hr.units
    obtain ⟨a, ns, rfl, hs, k⟩ := h
    refine ⟨_, (pss_one (ps_ret (pe_disp (pps_cons pe_str (pe_callTy call_list_of (by rfl) T.list (by decide +kernel) (pa_cons (pe_slice sl_list (pv 0) po_none (po_some pe_int)) pa_nil)) (pps_cons pe_str pe_int (pps_cons pe_str pe_int pps_nil))) (by rfl) (by rfl) (fun z => by cases z) (by decide)))), ?_⟩
    intro p hp
    obtain ⟨ms, hms, hml⟩ := cut63 ns
    refine ⟨_, rfl, 63, rfl, a, _, rfl, (same_new hp).seq hs, fun q hq => ?_⟩
    refine ⟨q, _, rfl, .inl (SqL.of upd_same), fun c hc => ?_⟩
    rw [hms] at hc ⊢
    have nqp : p ≠ q := fun e => by rw [← e, upd_same] at hq; cases hq
    have ncp : p ≠ c := fun e => by rw [← e, upd_ne nqp, upd_same] at hc; cases hc
    have hp2 : (upd (upd (upd H p (.dK [])) q (.lst (ms.map V.int))) c (.lst (ms.map V.int))) p = some (.dK []) := by rw [upd_ne ncp, upd_ne nqp, upd_same]
    refine ⟨hp2, penL c 0 0, rfl, (by show 3 ≤ 15; decide), ?_⟩
    rw [pen_made]
    refine k p c _ hp ⟨ms, 0, 0, upd_same, by rw [upd_ne ncp.symm, upd_same], hml, Int.le_refl _, Int.le_refl _, Int.le_refl _⟩ fun b o e => ?_
    rw [upd_ne (ne_of_none e hp), upd_ne ?_, upd_ne ?_, upd_ne (ne_of_none e hp)]
    · exact e
    · rintro rfl
      rw [upd_ne (ne_of_none e hp)] at hq
      rw [hq] at e
      cases e
    · rintro rfl
      by_cases ebq : b = q
      · subst ebq
        rw [upd_ne nqp.symm] at hq
        rw [hq] at e
        cases e
      · rw [upd_ne ebq, upd_ne (ne_of_none e hp)] at hc
        rw [hc] at e
        cases e

abbrev s_lpick : Stmt := top 53
theorem sc_lpick : FnScope ["_law_pen_here", "_law_options"] ["_law_pen_here", "_law_options"] (defScope s_lpick) := ⟨rfl, rfl, rfl, by decide +kernel, rfl, by decide +kernel, by decide +kernel⟩
theorem b_lpick {f : Addr} {fd : FuncData} (F : Fun K "_law_pick" "_law_pick" s_lpick f fd) (T : Txt mg) (c_ldraw : CalG P w K mg base CX0 1 "_law_draw" spDraw) : FnG P w K mg base CX0 2 f fd ["_law_pen_here", "_law_options"] (spPick K) := by
  refine okG0 F sc_lpick (fun vs H Q E h => ?_) (fun cdv A outer s H vs Q E hg hr h => ?_)
  · obtain ⟨p, c, o, xs, T0, rfl, _⟩ := h
    rfl
  · have hu := hu_of hr
    have hu64 := hr.units
    obtain ⟨p, c, o, xs, T0, rfl, ho, hne, hlen, hpen, hT, k⟩ := h
    have hpos : 0 < xs.length := List.length_pos_iff.mpr hne
    have hr1 : Room 1 _ := hr
    refine ⟨_, (pss_one (ps_ret (pe_ix ix_seq (pv 1) (pe_cG c_ldraw hg hr (by decide) pass0 (pa_cons (pv 0) (pa_cons (pe_callB call_len (by rfl) T.len (by decide +kernel) (pa_cons (pv 1) pa_nil)) pa_nil))) (fun _ _ => rfl)))), ?_⟩

    cases ho with
    | str z hz =>
      have e := one_len z
      have hz24 : z.length ≤ sizeLine := Nat.le_trans hz (by decide)
      refine ⟨_, rfl, _, rfl, _, rfl, _, _, rfl, ⟨hz24, rfl⟩, p, c, _, T0, rfl, by omega, by omega, hpen, hT, fun d H' d0 d1 hpen' x => ?_⟩
      obtain ⟨e1, hc, hm⟩ := at_mod (xs := z.cps.toList) d0 (by rw [show (z.cps.toList.length : Int) = (z.length : Int) from congrArg Nat.cast Array.length_toList]; exact d1)
      exact .inr (.inr ⟨z, d, e1, rfl, rfl, hz24, hc, k _ _ (List.mem_map_of_mem (f := OneS) hm) hpen' x⟩)
    | lst hs =>
      refine ⟨_, rfl, _, rfl, _, rfl, _, _, rfl, .inl ⟨_, hs, rfl⟩, p, c, _, T0, rfl, by omega, by omega, hpen, hT, fun d H' d0 d1 hpen' x => ?_⟩
      obtain ⟨v, hv, hm⟩ := at_mod d0 d1
      exact .inl ⟨_, xs, d, v, rfl, rfl, hpen.keepL x hs, hv, k _ _ hm hpen' x⟩
    | tup hs =>
      refine ⟨_, rfl, _, rfl, _, rfl, _, _, rfl, .inr ⟨_, hs, rfl⟩, p, c, _, T0, rfl, by omega, by omega, hpen, hT, fun d H' d0 d1 hpen' x => ?_⟩
      obtain ⟨v, hv, hm⟩ := at_mod d0 d1
      exact .inr (.inl ⟨_, xs, d, v, rfl, rfl, hpen.keepT x hs, hv, k _ _ hm hpen' x⟩)

abbrev s_lfew : Stmt := top 56
theorem sc_lfew : FnScope ["_law_pen_here", "_law_some", "_law_rare", "_law_k"] ["_law_pen_here"] (defScope s_lfew) := ⟨rfl, rfl, rfl, by decide +kernel, rfl, by decide +kernel, by decide +kernel⟩
theorem b_lfew {f : Addr} {fd : FuncData} (F : Fun K "_law_few" "_law_few" s_lfew f fd) (T : Txt mg) (c_lpick : CalG P w K mg base CX0 2 "_law_pick" (spPick K)) (t_signs : FnT P w K mg base 1 "_law_signs" letS) : FnG P w K mg base CX0 3 f fd ["_law_pen_here"] spFew := by
  refine okG0 F sc_lfew (fun vs H Q E h => ?_) (fun cdv A outer s H vs Q E hg hr h => ?_)
  · obtain ⟨p, pc, T0, rfl, _⟩ := h
    rfl
  · have hu := hu_of hr
    have hu64 := hr.units
    obtain ⟨p, pc, T0, rfl, hpen, hT, k⟩ := h
    have hr2 : Room 2 _ := hr
    refine ⟨_, (pss_cons (ps_set (i := 1) sc_lfew.nd rfl (Or.inr rfl) (pe_lst (pa_cons (pe_cG c_lpick hg hr (by decide) pass0 (pa_cons (pv 0) (pa_cons (pe_replT t_signs hr (by decide) (by decide +kernel) (by decide +kernel)) pa_nil))) (pa_cons (pe_cG c_lpick hg hr (by decide) pass0 (pa_cons (pv 0) (pa_cons pe_str pa_nil))) (pa_cons (pe_cG c_lpick hg hr (by decide) pass0 (pa_cons (pv 0) (pa_cons pe_str pa_nil))) pa_nil)))))
      (pss_cons (ps_set (i := 2) sc_lfew.nd rfl (Or.inl rfl) (pe_join pe_str (pe_lc (own := [("_law_k", 3)]) (g := gName 3) rfl sc_lfew.nd (pi_range1 rfl T.range (pa_cons pe_int pa_nil)) (blkOk_by (own := [("_law_k", 3)]) (N := ["_law_pen_here", "_law_some", "_law_rare", "_law_k"]) (sc := defScope s_lfew) (by decide +kernel)) (fun _ _ _ _ _ => (pg_name (i := 3) sc_lfew.nd rfl (Or.inl rfl))) (fun _ _ _ _ _ => (pts_one (pt_cmpR (op_notIn_seqK (K := K) rfl) (pe_ix (ix_seqK (K := K) rfl) (pv 1) (pv 3) (fun _ _ => rfl)) (pe_slice (sl_listK (K := K) rfl) (pv 1) po_none (po_some (pv 3))) (by rfl)))) (fun _ _ _ _ _ => (pe_ix (ix_seqK (K := K) rfl) (pv 1) (pv 3) (fun _ _ => rfl))))))
      (pss_one (ps_ret (pe_cG c_lpick hg hr (by decide) pass0 (pa_cons (pv 0) (pa_cons (pe_lst (pa_cons pe_str (pa_cons pe_str (pa_cons pe_str (pa_cons pe_str (pa_cons pe_str (pa_cons pe_str (pa_cons pe_str (pa_cons pe_str (pa_cons pe_str (pa_cons (pv 2) pa_nil))))))))))) pa_nil))))))), ?_⟩
    refine ⟨_, rfl, p, pc, _, _, T0, rfl, .str _ (by rw [noq_len]; decide), opts_ne (by rw [noq_len]; decide), opts_le (by rw [noq_len]; decide), hpen, by omega, fun v1 H1 m1 P1 x1 => ?_⟩
    obtain ⟨c1, rfl, k1⟩ := ones_of m1
    refine ⟨_, rfl, p, pc, _, _, T0 + 1, rfl, .str _ (by decide), opts_ne (by decide), opts_le (by decide), P1, by omega, fun v2 H2 m2 P2 x2 => ?_⟩
    obtain ⟨c2, rfl, k2⟩ := ones_of m2
    refine ⟨_, rfl, p, pc, _, _, T0 + 2, rfl, .str _ (by decide), opts_ne (by decide), opts_le (by decide), P2, by omega, fun v3 H3 m3 P3 x3 => ?_⟩
    obtain ⟨c3, rfl, k3⟩ := ones_of m3
    refine ⟨by show 3 ≤ sizeLine; decide, fun a ha => ?_⟩
    have hin : ∀ c ∈ [c1, c2, c3], c ∈ letS.cps.toList := by
      intro c hc
      simp only [List.mem_cons, List.not_mem_nil, or_false] at hc
      rcases hc with rfl | rfl | rfl
      · exact noq_in k1
      · exact (by decide +kernel : ∀ c ∈ (Str.ofString "yz").cps.toList, c ∈ letS.cps.toList) _ k2
      · exact (by decide +kernel : ∀ c ∈ (Str.ofString "(\n").cps.toList, c ∈ letS.cps.toList) _ k3
    have P4 := P3.new (o := .lst ([c1, c2, c3].map OneS)) ha
    have x4 : Ext p H (upd H3 a (.lst ([c1, c2, c3].map OneS))) := (x1.trans (x2.trans x3)).trans (Ext.new ha)
    have ha4 : (upd H3 a (.lst ([c1, c2, c3].map OneS))) a = some (.lst ([c1, c2, c3].map OneS)) := upd_same
    generalize hxs : ([c1, c2, c3].map OneS : List V) = xs at ha4 P4 x4
    have hxl : xs.length = 3 := by rw [← hxs]; rfl
    have hxf : xs.all flatV = true := by rw [← hxs]; exact ones_flat _
    have hxm : ∀ v ∈ xs, ∃ c, v = OneS c ∧ c ∈ [c1, c2, c3] := by rw [← hxs]; exact fun v hv => one_mem hv
    have ha5 : (upd H3 a (.lst ([c1, c2, c3].map OneS))) = upd H3 a (.lst xs) := by rw [hxs]
    generalize hH4 : upd H3 a (.lst xs) = H4 at ha4 P4 x4 ha5
    refine ⟨⟨_, rfl⟩, ?_⟩
    show (iRng1 (tCons (tC (V.int 3)) tNil)) _ (upd H3 a (.lst ([c1, c2, c3].map OneS))) _
    rw [ha5]
    refine ⟨3, rfl, by decide, by decide, fun D hD => lc_range (lo := 0) (n := 3) (fun i H' => ∃ cs : List Nat, H' D = some (.lst (cs.map OneS)) ∧ cs.length ≤ i ∧ (1 ≤ i → 1 ≤ cs.length) ∧ (∀ c ∈ cs, c ∈ letS.cps.toList) ∧ Same H4 H') ?_ ?_ ?_⟩
    · exact ⟨[], upd_same, Nat.le_refl _, fun h => by omega, fun c hc => absurd hc List.not_mem_nil, same_new hD⟩
    · rintro i H5 hi ⟨cs, hDc, hcl, hc1, hcm, sm⟩
      obtain ⟨v, hv, hvm⟩ := at_mod (xs := xs) (i := 0 + (i : Int)) (by omega) (by rw [hxl]; omega)
      obtain ⟨c, rfl, hcc⟩ := hxm v hvm
      have sa : SqL K H5 a xs := sm.seq (SqL.of ha4)
      refine ⟨rfl, _, rfl, _, rfl, .inl ⟨a, xs, _, _, rfl, rfl, sa, hv, _, rfl, _, rfl, _, rfl, a, xs, rfl, sa, fun q hq => ⟨q, _, rfl, .inl (SqL.of upd_same), rfl, cutV_all hxf, _, rfl, ?_⟩⟩⟩
      have sq : Same H4 (upd H5 q (.lst (cutV xs none (some (0 + (i : Int)))))) := sm.trans (same_new hq)
      have dq := up_new (u := .lst (cutV xs none (some (0 + (i : Int))))) hDc hq
      refine ite2 (fun hb => ?_) (fun hb => ?_)
      · refine ⟨_, rfl, _, rfl, .inl ⟨a, xs, _, _, rfl, rfl, sq.seq (SqL.of ha4), hv, _, dq, by rw [List.length_map]; exact Nat.lt_of_le_of_lt hcl (Nat.lt_trans hi (by decide)), cs ++ [c], ?_, ?_, fun _ => ?_, ?_, ?_⟩⟩
        · rw [upd_same, List.map_append]
          rfl
        · rw [List.length_append]; exact Nat.add_le_add_right hcl 1
        · rw [List.length_append]; exact Nat.le_add_left _ _
        · intro d hd
          rcases List.mem_append.mp hd with hd | hd
          · exact hcm d hd
          · rw [List.mem_singleton.mp hd]
            exact hin c hcc
        · intro b o e
          by_cases hbD : b = D
          · rw [hbD, hD] at e
            cases e
          · exact (upd_ne hbD).trans (sq b o e)
      · refine ⟨cs, dq, Nat.le_succ_of_le hcl, fun _ => ?_, hcm, sq⟩
        by_cases h0 : i = 0
        · subst h0
          refine absurd ?_ hb
          show (if true = true then !inV (OneS c) (cutV xs none (some (0 + ((0 : Nat) : Int)))) else inV (OneS c) (cutV xs none (some (0 + ((0 : Nat) : Int))))) = true
          rw [show (0 : Int) + ((0 : Nat) : Int) = 0 from rfl, cutV_zero]
          rfl
        · exact hc1 (by omega)
    · rintro H5 ⟨cs, hDc, hcl, hc1, hcm, sm⟩
      refine ⟨_, D, cs.map fun c => ⟨#[c]⟩, rfl, rfl, .inl (SqL.of (by rw [ones_map]; exact hDc)), ?_, ?_⟩
      · rw [ones_len]
        show cs.length + _ * 0 ≤ _
        omega
      · rw [join_ones]
        have fz : Few ⟨cs.toArray⟩ := few_ones (hc1 (by decide)) hcl hcm
        have x5 : Ext p H H5 := x4.trans (Ext.same sm)
        have P5 := P4.stay sm
        refine ⟨_, rfl, _, rfl, by show 10 ≤ sizeLine; decide, fun q hq => ?_⟩
        refine ⟨p, pc, _, _, T0 + 3, rfl, .lst (SqL.of upd_same), by simp, by show 10 ≤ 1000; decide, P5.new hq, by omega, fun v H6 hm P6 x6 => ?_⟩
        have fin : ∃ z, v = .str z ∧ Few z := by
          simp only [List.mem_cons, List.not_mem_nil, or_false] at hm
          rcases hm with rfl | rfl | rfl | rfl | rfl | rfl | rfl | rfl | rfl | rfl
          all_goals first
            | exact ⟨_, rfl, fz⟩
            | exact ⟨_, rfl, few_of (by decide +kernel)⟩
        obtain ⟨z, rfl, hz⟩ := fin
        exact k z H6 hz P6 (x5.trans ((Ext.new hq).trans x6))

abbrev s_lword : Stmt := top 57
theorem sc_lword : FnScope ["_law_pen_here", "_law_signs_here", "_law_least", "_law_most_letters", "_law_many", "_law_k"] ["_law_pen_here", "_law_signs_here", "_law_least", "_law_most_letters"] (defScope s_lword) := ⟨rfl, rfl, rfl, by decide +kernel, rfl, by decide +kernel, by decide +kernel⟩
theorem b_lword {f : Addr} {fd : FuncData} (F : Fun K "_law_word" "_law_word" s_lword f fd) (T : Txt mg) (c_ldraw : CalG P w K mg base CX0 1 "_law_draw" spDraw) (c_lpick : CalG P w K mg base CX0 2 "_law_pick" (spPick K)) : FnG P w K mg base CX0 3 f fd ["_law_pen_here", "_law_signs_here", "_law_least", "_law_most_letters"] spWord := by
  refine okG0 F sc_lword (fun vs H Q E h => ?_) (fun cdv A outer s H vs Q E hg hr h => ?_)
  · obtain ⟨p, pc, z, a, b, T0, rfl, _⟩ := h
    rfl
  · have hu := hu_of hr
    have hu64 := hr.units
    obtain ⟨p, pc, z, a, b, T0, rfl, hab, hb, hz1, hz, hpen, hT, k⟩ := h
    have hr2 : Room 2 _ := hr
    refine ⟨_, (pss_cons (ps_set (i := 4) sc_lword.nd rfl (Or.inl rfl) (pe_op op_add (pv 2) (pe_cG c_ldraw hg hr (by decide) pass0 (pa_cons (pv 0) (pa_cons (pe_op op_add (pe_op op_sub (pv 3) (pv 2)) pe_int) pa_nil)))))
      (pss_one (ps_ret (pe_join pe_str (pe_lc (own := [("_law_k", 5)]) (g := gName 5) (tt := tYes) rfl sc_lword.nd (pi_range1 rfl T.range (pa_cons (pv 4) pa_nil)) (blkOk_by (own := [("_law_k", 5)]) (N := ["_law_pen_here", "_law_signs_here", "_law_least", "_law_most_letters", "_law_many", "_law_k"]) (sc := defScope s_lword) (by decide +kernel)) (fun _ _ _ _ _ => (pg_name (i := 5) sc_lword.nd rfl (Or.inl rfl))) (fun _ _ _ _ _ => pts_nil) (fun _ _ _ _ _ => (pe_cG c_lpick hg hr (by decide) pass0 (pa_cons (pv 0) (pa_cons (pv 1) pa_nil))))))))), ?_⟩
    refine ⟨_, rfl, _, rfl, _, rfl, _, rfl, _, _, rfl, rfl, _, _, rfl, rfl, p, pc, _, T0, rfl, by omega, by omega, hpen, by omega, fun d H1 d0 d1 P1 x1 => ?_⟩
    refine ⟨_, _, rfl, rfl, ⟨_, rfl⟩, ?_⟩
    obtain ⟨n, rfl⟩ : ∃ n : Nat, d = (n : Int) := ⟨d.toNat, by omega⟩
    refine ⟨_, rfl, _, rfl, by omega, by omega, fun D hD => ?_⟩
    have en : ((a : Int) + (n : Int)).toNat = a + n := by omega
    have hn : a + n ≤ b := by omega
    obtain ⟨nDp, nDc⟩ := P1.apart hD
    refine lc_range (lo := 0) (n := ((a : Int) + (n : Int)).toNat) (fun i H' => ∃ cs : List Nat, H' D = some (.lst (cs.map OneS)) ∧ cs.length = i ∧ (∀ c ∈ cs, c ∈ z.cps.toList) ∧ Pen H' p pc (T0 + 1 + i) ∧ Ext p H H') ?_ ?_ ?_
    · refine ⟨[], upd_same, rfl, fun c hc => absurd hc List.not_mem_nil, P1.new hD, x1.trans (Ext.new hD)⟩
    · rintro i H2 hi ⟨cs, hDc, hcl, hcm, P2, x2⟩
      rw [en] at hi
      refine ⟨rfl, _, rfl, _, rfl, p, pc, _, _, T0 + 1 + i, rfl, .str z hz, opts_ne hz1, opts_le hz, P2, by omega, fun v H3 hm P3 x3 => ?_⟩
      obtain ⟨c, rfl, hc⟩ := ones_of hm
      have d3 := P2.keepI x3 hDc
      refine ⟨_, d3, by rw [List.length_map, hcl]; exact Nat.lt_of_lt_of_le hi (Nat.le_trans hn (Nat.le_trans hb (by decide))), cs ++ [c], ?_, by rw [List.length_append, hcl]; rfl, ?_, ?_, ?_⟩
      · rw [upd_same, List.map_append]
        rfl
      · intro e he
        rcases List.mem_append.mp he with he | he
        · exact hcm e he
        · rw [List.mem_singleton.mp he]
          exact hc
      · exact P3.set nDp nDc
      · exact fun b o e hb => by
          rw [upd_ne (fun q => by rw [q, x1.none_of nDp hD] at e; cases e)]
          exact x3 b o (x2 b o e hb) hb
    · rintro H2 ⟨cs, hDc, hcl, hcm, P2, x2⟩
      refine ⟨_, D, cs.map fun c => ⟨#[c]⟩, rfl, rfl, .inl (SqL.of (by rw [ones_map]; exact hDc)), ?_, ?_⟩
      · rw [ones_len]
        show cs.length + _ * 0 ≤ _
        omega
      · rw [join_ones]
        rw [en] at hcl P2
        exact k _ H2 ⟨by show a ≤ cs.toArray.size; rw [List.size_toArray]; omega, by show cs.toArray.size ≤ b; rw [List.size_toArray]; omega, by simpa using hcm⟩ (P2.mono (by omega)) x2

abbrev s_lplaces : Stmt := top 59
theorem sc_lplaces : FnScope ["_law_text_here", "_law_was", "_law_size", "_law_k"] ["_law_text_here", "_law_was"] (defScope s_lplaces) := ⟨rfl, rfl, rfl, by decide +kernel, rfl, by decide +kernel, by decide +kernel⟩
theorem b_lplaces {f : Addr} {fd : FuncData} (F : Fun K "_law_places" "_law_places" s_lplaces f fd) (T : Txt mg) : FnG P w K mg base CX0 1 f fd ["_law_text_here", "_law_was"] (spPlaces K) := by
  refine okG0 F sc_lplaces (fun vs H Q E h => ?_) (fun cdv A outer s H vs Q E hg hr h => ?_)
  · obtain ⟨x, wd, rfl, _⟩ := h
    rfl
  · have hu := hu_of hr
    have hu64 := hr.units
    obtain ⟨x, wd, rfl, hx, hw, k⟩ := h
    refine ⟨_, (pss_cons (ps_set (i := 2) sc_lplaces.nd rfl (Or.inr rfl) (pe_callB call_len (by rfl) T.len (by decide +kernel) (pa_cons (pv 1) pa_nil)))
      (pss_one (ps_ret (pe_lc (own := [("_law_k", 3)]) (g := gName 3) rfl sc_lplaces.nd (pi_range1 rfl T.range (pa_cons (pe_op op_add (pe_op op_sub (pe_callB call_len (by rfl) T.len (by decide +kernel) (pa_cons (pv 0) pa_nil)) (pv 2)) pe_int) pa_nil)) (blkOk_by (own := [("_law_k", 3)]) (N := ["_law_text_here", "_law_was", "_law_size", "_law_k"]) (sc := defScope s_lplaces) (by decide +kernel)) (fun _ _ _ _ _ => (pg_name (i := 3) sc_lplaces.nd rfl (Or.inl rfl))) (fun _ _ _ _ _ => (pts_one (pt_cmpR op_eq (pe_slice sl_str (pv 0) (po_some (pv 3)) (po_some (pe_op op_add (pv 3) (pv 2)))) (pv 1) (nomark _)))) (fun _ _ _ _ _ => (pv 3)))))), ?_⟩
    have hx24 : x.length ≤ sizeLine := Nat.le_trans hx (by decide)
    have hw24 : wd.length ≤ sizeLine := Nat.le_trans hw (by decide)
    refine ⟨_, rfl, _, _, rfl, ⟨hw24, rfl⟩, ?_⟩
    refine ⟨_, rfl, _, _, rfl, ⟨hx24, rfl⟩, _, rfl, _, _, rfl, rfl, _, _, rfl, rfl, _, rfl, by omega, by omega, fun D hD => ?_⟩
    refine lc_range (lo := 0) (n := ((x.length : Int) - (wd.length : Int) + 1).toNat) (fun i H' => H' D = some (.lst ((((List.range i).filter (atB x wd)).map Int.ofNat).map V.int)) ∧ Same H H') ?_ ?_ ?_
    · exact ⟨upd_same, same_new hD⟩
    · rintro i H2 hi ⟨hd, sm⟩
      have hi2 : i + wd.length ≤ x.length := by omega
      refine ⟨rfl, _, rfl, _, rfl, _, rfl, _, rfl, _, rfl, _, _, rfl, rfl, _, rfl, x, rfl, hx24, ?_⟩
      refine ⟨_, rfl, rfl, _, rfl, ?_⟩
      have ec := cut_at x wd i hi2
      rw [show (0 : Int) + (i : Int) = (i : Int) by omega, ec]
      cases hb : atB x wd i with
      | true =>
        refine iteT ?_
        have fl : ((((List.range i).filter (atB x wd)).map Int.ofNat).map V.int).length ≤ i := by
          rw [List.length_map, List.length_map]
          exact Nat.le_trans (List.length_filter_le _ _) (Nat.le_of_eq List.length_range)
        refine ⟨_, rfl, _, hd, Nat.lt_of_le_of_lt fl (Nat.lt_of_le_of_lt (show i ≤ 10002 by omega) (by decide)), ?_, ?_⟩
        · rw [upd_same, filter_snoc hb, List.map_append, List.map_append]
          rfl
        · intro b o e
          exact (upd_ne (fun q => by rw [q, hD] at e; cases e)).trans (sm b o e)
      | false =>
        refine iteF ⟨?_, sm⟩
        rw [hd, filter_more (Nat.le_succ i) fun j h1 h2 => by rw [show j = i by omega]; exact hb]
    · rintro H2 ⟨hd, sm⟩
      refine k D H2 hD ?_ sm
      rw [hd]
      unfold plcI plc
      rw [← filter_more (lo := ((x.length : Int) - (wd.length : Int) + 1).toNat) (m := x.length + 1) (by omega) fun j h1 h2 => by
        unfold atB
        rw [decide_eq_false (by omega)]
        rfl]

theorem cut_upto (x : Str) (M : Nat) : (cutS x none (some (M : Int))).length ≤ M := by
  unfold cutS
  show (List.toArray _).size ≤ M
  rw [List.size_toArray, HT.sIx_nat, HT.sIx_none]
  refine Nat.le_trans (List.length_take_le _ _) ?_
  have := Nat.min_le_left M x.length
  omega
def spNtext : Sp := fun vs H Q _ => ∃ p c z M T, vs = [.ref p, .str z, .int (M : Nat)] ∧ Few z ∧ M ≤ 100 ∧ Pen H p c T ∧ T + 1000 < 1000000000 ∧ ∀ (x : Str) (H' : Hp), x.length ≤ M → Ltr x → Pen H' p c (T + 100) → Ext p H H' → Q (.str x) H'
abbrev s_lntext : Stmt := top 60
theorem sc_lntext : FnScope ["_law_pen_here", "_law_signs_here", "_law_most_letters", "_law_some", "_law_found", "_law_k"] ["_law_pen_here", "_law_signs_here", "_law_most_letters"] (defScope s_lntext) := ⟨rfl, rfl, rfl, by decide +kernel, rfl, by decide +kernel, by decide +kernel⟩
theorem b_lntext {f : Addr} {fd : FuncData} (F : Fun K "_law_ntext" "_law_ntext" s_lntext f fd) (T : Txt mg) (c_ldraw : CalG P w K mg base CX0 1 "_law_draw" spDraw) (c_lpick : CalG P w K mg base CX0 2 "_law_pick" (spPick K)) (c_lword : CalG P w K mg base CX0 3 "_law_word" spWord) : FnG P w K mg base CX0 4 f fd ["_law_pen_here", "_law_signs_here", "_law_most_letters"] spNtext := by
  refine okG0 F sc_lntext (fun vs H Q E h => ?_) (fun cdv A outer s H vs Q E hg hr h => ?_)
  · obtain ⟨p, pc, z, M, T0, rfl, _⟩ := h
    rfl
  · have hu := hu_of hr
    have hu64 := hr.units
    obtain ⟨p, pc, z, M, T0, rfl, fz, hM, hpen, hT, k⟩ := h
    have hr3 : Room 3 _ := hr
    have z100 : z.length ≤ 1000 := Nat.le_trans fz.2.1 (by decide)
    refine ⟨_, (pss_cons (ps_par (i := 3) (j := 4) (by rfl) sc_lntext.nd rfl rfl (by decide) rfl rfl (pa_cons (pe_lst (pa_cons (pe_cG c_lword hg hr (by decide) pass0 (pa_cons (pv 0) (pa_cons (pv 1) (pa_cons pe_int (pa_cons pe_int pa_nil))))) (pa_cons (pe_cG c_lword hg hr (by decide) pass0 (pa_cons (pv 0) (pa_cons (pv 1) (pa_cons pe_int (pa_cons pe_int pa_nil))))) pa_nil))) (pa_cons pe_str pa_nil)) (by rfl))
      (pss_cons (ps_for PassesOwn.never rfl (pi_range1 rfl T.range (pa_cons (pe_cG c_ldraw hg hr (by decide) pass0 (pa_cons (pv 0) (pa_cons pe_int pa_nil))) pa_nil)) (pg_name (i := 5) sc_lntext.nd rfl (Or.inl rfl)) (pss_one (ps_set (i := 4) sc_lntext.nd rfl (Or.inl rfl) (pe_op op_add_str (pv 4) (pe_cG c_lpick hg hr (by decide) pass0 (pa_cons (pv 0) (pa_cons (pe_op op_cat (pv 3) (pe_lst (pa_cons (pe_cG c_lpick hg hr (by decide) pass0 (pa_cons (pv 0) (pa_cons (pv 1) pa_nil))) pa_nil))) pa_nil)))))))
      (pss_one (ps_ret (pe_slice sl_str (pv 4) po_none (po_some (pv 2))))))), ?_⟩
    refine ⟨_, rfl, _, rfl, p, pc, z, 1, 4, T0, rfl, by decide, by decide, fz.1, z100, hpen, by omega, fun w1 H1 g1 P1 x1 => ?_⟩
    refine ⟨_, rfl, _, rfl, p, pc, z, 1, 3, _, rfl, by decide, by decide, fz.1, z100, P1, by omega, fun w2 H2 g2 P2 x2 => ?_⟩
    refine ⟨by show 2 ≤ sizeLine; decide, fun b hb => ?_⟩
    have sb := same_new (o := .lst [.str w1, .str w2]) hb
    have P3 := P2.stay sb
    have x3 : Ext p H _ := (x1.trans x2).trans (Ext.same sb)
    refine ⟨_, _, rfl, _, rfl, p, pc, 9, _, rfl, by decide, by decide, P3, by omega, fun n H4 n0 n1 P4 x4 => ?_⟩
    have hb4 := P3.keepI x4 upd_same
    refine ⟨_, rfl, by omega, by omega, ?_⟩
    refine for_range (lo := 0) (n := n.toNat) (fun i σ H' => ∃ (o5 : Option V) (f : Str), σ = [some (.ref p), some (.str z), some (.int (M : Nat)), some (.ref b), some (.str f), o5] ∧ (f.length ≤ 100 * i ∧ Ltr f) ∧ Pen H' p pc (T0 + 20 + 2 * i) ∧ Ext p H H' ∧ H' b = some (.lst [.str w1, .str w2])) ?_ ?_ ?_
    · exact ⟨_, "", rfl, ⟨by show 0 ≤ _; omega, lt_none⟩, P4.mono (by omega), x3.trans x4, hb4⟩
    · rintro i σ H5 hi ⟨o5, f, rfl, hf, P5, x5, hb5⟩
      have hf1 := hf.1
      refine ⟨_, rfl, _, rfl, _, rfl, _, rfl, _, rfl, p, pc, _, _, _, rfl, .str z z100, opts_ne fz.1, opts_le z100, P5, by omega, fun v H6 hv P6 x6 => ?_⟩
      obtain ⟨cv, rfl, hcv⟩ := ones_of hv
      have hb6 := P5.keepI x6 hb5
      refine ⟨by show 1 ≤ sizeLine; decide, fun q hq => ?_⟩
      have sq := same_new (o := .lst [OneS cv]) hq
      refine ⟨b, q, _, _, rfl, rfl, sq _ _ hb6, upd_same, by show 3 ≤ sizeLine; decide, fun q2 hq2 => ?_⟩
      have sq2 := same_new (o := .lst [.str w1, .str w2, OneS cv]) hq2
      have P7 := (P6.stay sq).stay sq2
      refine ⟨p, pc, _, _, _, rfl, .lst (SqL.of upd_same), (fun z => by cases z), by show 3 ≤ 1000; decide, P7, by omega, fun v H8 hv2 P8 x8 => ?_⟩
      have hb8 := P7.keepI x8 (sq2 _ _ (sq _ _ hb6))
      have ev : ∃ y : Str, v = .str y ∧ y.length ≤ 100 ∧ Ltr y := by
        simp only [List.mem_append, List.mem_cons, List.not_mem_nil, or_false] at hv2
        rcases hv2 with (rfl | rfl) | rfl
        · exact ⟨w1, rfl, Nat.le_trans g1.2.1 (by decide), lt_word fz g1⟩
        · exact ⟨w2, rfl, Nat.le_trans g2.2.1 (by decide), lt_word fz g2⟩
        · exact ⟨_, rfl, by show 1 ≤ 100; decide, lt_one fz hcv⟩
      obtain ⟨y, rfl, hy, oy⟩ := ev
      refine ⟨_, _, rfl, rfl, Nat.le_of_lt (fewL (by omega)), _, f ++ y, rfl, ⟨?_, lt_more hf.2 oy⟩, P8.mono (by omega), (x5.trans x6).trans (((Ext.same sq).trans (Ext.same sq2)).trans x8), hb8⟩
      rw [strLen_append]
      omega
    · rintro σ H5 ⟨o5, f, rfl, hf, P5, x5, hb5⟩
      have hf1 := hf.1
      refine ⟨_, rfl, _, rfl, _, rfl, f, rfl, Nat.le_of_lt (fewL (by have : n.toNat ≤ 9 := by omega
                                                                     omega)), k _ _ (cut_upto f M) (cutS_lt hf.2 _ _) (P5.mono (by omega)) x5⟩

/-- a window that stands once -/
def spNonce : Sp := fun vs H Q _ => ∃ (x : Str) (a b : Nat), vs = [.str x, .int (a : Nat), .int (b : Nat)] ∧ x.length ≤ 100 ∧ (a < b → b ≤ x.length) ∧ ∀ H', Same H H' → Q (.bl (decide (a < b ∧ twB x a b = false))) H'
abbrev s_lnonce : Stmt := top 61
theorem sc_lnonce : FnScope ["_law_text_here", "_law_a", "_law_b"] ["_law_text_here", "_law_a", "_law_b"] (defScope s_lnonce) := ⟨rfl, rfl, rfl, by decide +kernel, rfl, by decide +kernel, by decide +kernel⟩
theorem b_lnonce {f : Addr} {fd : FuncData} (F : Fun K "_law_nonce" "_law_nonce" s_lnonce f fd) (T : Txt mg) (c_lplaces : CalG P w K mg base CX0 1 "_law_places" (spPlaces K)) : FnG P w K mg base CX0 2 f fd ["_law_text_here", "_law_a", "_law_b"] spNonce := by
  refine okG0 F sc_lnonce (fun vs H Q E h => ?_) (fun cdv A outer s H vs Q E hg hr h => ?_)
  · obtain ⟨x, a, b, rfl, _⟩ := h
    rfl
  · have hu := hu_of hr
    have hu64 := hr.units
    obtain ⟨x, a, b, rfl, hx, hb, k⟩ := h
    have hr1 : Room 1 _ := hr
    have xl : x.length ≤ sizeLine := Nat.le_of_lt (fewL (by omega))
    refine ⟨_, (pss_one (ps_ret (pe_and (pe_cmpR op_lt (pv 1) (pv 2) (nomark _)) (pe_one (pe_cmpR op_eq (pe_callB call_len (by rfl) T.len (by decide +kernel) (pa_cons (pe_cG c_lplaces hg hr (by decide) pass0 (pa_cons (pv 0) (pa_cons (pe_slice sl_str (pv 0) (po_some (pv 1)) (po_some (pv 2))) pa_nil))) pa_nil)) pe_int (nomark _)))))), ?_⟩
    refine ⟨_, rfl, _, rfl, _, _, rfl, rfl, _, rfl, ?_⟩
    by_cases hab : a < b
    · rw [decide_eq_true (show ((a : Nat) : Int) < ((b : Nat) : Int) by omega)]
      refine iteT ⟨_, rfl, _, rfl, _, rfl, _, rfl, _, rfl, _, rfl, x, rfl, xl, x, _, rfl, by omega, ?_⟩
      refine ⟨Nat.le_trans (cutS_length _ _ _) (by omega), fun lp H1 _ hp s1 => ⟨_, _, rfl, .inl ⟨_, SqL.of hp, rfl⟩, rfl, ?_⟩⟩
      have hl : ((plcI x (cutS x (some ((a : Nat) : Int)) (some ((b : Nat) : Int)))).map V.int).length = (plc x (cutS x (some ((a : Nat) : Int)) (some ((b : Nat) : Int)))).length := by
        unfold plcI
        rw [List.length_map, List.length_map]
      have q := k H1 s1
      have e : decide (V.int ((((plcI x (cutS x (some ((a : Nat) : Int)) (some ((b : Nat) : Int)))).map V.int).length : Nat) : Int) = V.int 1) = decide (a < b ∧ twB x a b = false) := by
        rw [hl]
        refine decide_eq_decide.mpr (Iff.trans ⟨fun z => ?_, fun z => ?_⟩ (Iff.trans (plc_one (Nat.le_of_lt hab) (hb hab)) ⟨fun z => ⟨hab, z⟩, fun z => z.2⟩))
        · have := V.int.inj z
          omega
        · rw [z]
          rfl
      rw [← e] at q
      exact q
    · rw [decide_eq_false (show ¬ ((a : Nat) : Int) < ((b : Nat) : Int) by omega)]
      refine iteF ?_
      have q := k H (fun _ _ e => e)
      rw [decide_eq_false (fun z => hab z.1)] at q
      exact q

end
end Vk
set_option Elab.async false
set_option maxRecDepth 100000
set_option linter.all false
namespace Vk
open PySem PySem.Spec PyProof.Rows L2
section
variable {P : Program} {w : World} {K : PySem.W.Frag} {mg : Str → Option Value} {base : Heap}
end
end Vk
set_option Elab.async false
set_option maxRecDepth 100000
set_option linter.all false
set_option maxHeartbeats 4000000
namespace Vk
open PySem PySem.Spec PyProof.Rows L2
/-! ## what is never reached -/
/-! ## methods with nothing under way -/
structure MthG (P : Program) (w : World) (K : PySem.W.Frag) (mg : Str → Option Value) (base : Heap) (CX : CXT) (k : Nat) (C : Addr) (m : Str) (sp : Sp) : Prop where
  ex : ∃ (f : Addr) (fd : FuncData) (ps : List Str), Meth K C m f ∧ FnG P w K mg base CX k f fd ps sp ∧ Binds K fd ps []
section
variable {X : Cx} {CX : CXT} {k j : Nat} {C : Addr} {m : Str} {sp : Sp} {E : XK} {o e : Expr} {es : List Expr} {ta : TE} {t : TA} {apos pos : Pos}
end
/-! ## places that do not overlap, from the left -/
def apartM (len : Nat) : List Nat → Nat → List Nat
  | [], _ => []
  | p :: r, e => if e ≤ p then p :: apartM len r (p + len) else apartM len r e
theorem apartM_cons {len p e : Nat} {r : List Nat} : apartM len (p :: r) e = if e ≤ p then p :: apartM len r (p + len) else apartM len r e := rfl
theorem apartM_nil {len e : Nat} : apartM len [] e = [] := rfl
theorem apart_le {len : Nat} : ∀ (ps : List Nat) (e : Nat), (apartM len ps e).length ≤ ps.length
  | [], _ => Nat.le_refl _
  | p :: r, e => by
    unfold apartM
    split
    · exact Nat.succ_le_succ (apart_le r _)
    · exact Nat.le_succ_of_le (apart_le r e)
/-- whether so many places are right: Once, First, Perhaps, Every -/
def fitsM : Nat → Nat → Bool
  | 0, m => decide (m = 1)
  | 2, m => decide (m < 2)
  | _, m => decide (0 < m)
def spotsM (n len : Nat) (ps : List Nat) : List Nat := apartM len (if n = 1 then ps.take 1 else ps) 0
/-- the text with the news in its places -/
def foldS (x z2 : Str) (len : Nat) : List Nat → Nat → Str → Str
  | [], k, acc => acc ++ cutS x (some (k : Int)) none
  | p :: r, k, acc => foldS x z2 len r (p + len) (acc ++ cutS x (some (k : Int)) (some (p : Int)) ++ z2)
theorem cutS_len (x : Str) (a b : Option Int) : (cutS x a b).length ≤ x.length := by
  show (List.toArray _).size ≤ x.cps.size
  rw [List.size_toArray, List.length_take, List.length_drop, Array.length_toList]
  omega
theorem tl_flat (ps : List Str) : TL.tl (Txt.join "" ps) = (ps.map TL.tl).flatten := by
  rw [TL.join_eq, TL.tl_join]
  exact join_nil _
theorem join_snoc {ps : List Str} {y : Str} : Txt.join "" (ps ++ [y]) = Txt.join "" ps ++ y := by
  refine TL.ext_tl ?_
  rw [tl_flat, List.map_append, List.flatten_append]
  have e : TL.tl (Txt.join "" ps ++ y) = TL.tl (Txt.join "" ps) ++ TL.tl y := more_list
  rw [e, tl_flat]
  simp
/-! rows of tuples -/
def Rws (H : Hp) (f : Nat → List V) : List V → List Nat → Prop := Paired fun v p => ∃ t, v = .ref t ∧ H t = some (.tup (f p))
theorem Rws.keep {H H1 : Hp} {f : Nat → List V} (s : Same H H1) : ∀ {xs : List V} {ps : List Nat}, Rws H f xs ps → Rws H1 f xs ps
  | _, _, .nil => .nil
  | _, _, .cons a t => .cons (by obtain ⟨u, e, h⟩ := a; exact ⟨u, e, s _ _ h⟩) (Rws.keep s t)
def cls4 (C0 C1 C2 C3 : Addr) : Nat → Addr
  | 0 => C0
  | 1 => C1
  | 2 => C2
  | _ => C3
def fl (z1 z2 : Str) : List (Str × V) := [("_old", .str z1), ("_new", .str z2)]
theorem fl_old {z1 z2 : Str} : (fl z1 z2).lookup ("_old" : Str) = some (.str z1) := rfl
theorem fl_new {z1 z2 : Str} : (fl z1 z2).lookup ("_new" : Str) = some (.str z2) := rfl
structure EdF (K : PySem.W.Frag) (C : Addr) : Prop where
  cl : Cls K C
  n1 : NoAttr K C "_old"
  n2 : NoAttr K C "_new"
  ca : PySem.W.findIn K (.ref C) "__class__" = some (some (.builtin "object.__class__"))
  cn : PySem.W.specialIn K (.builtin "object.__class__") "__get__" = some (some (.builtin "getset_descriptor.__get__"))
  ct : PySem.W.takesIn K (.builtin "object.__class__") = some true
  cm : PySem.W.mroIn K C (.type "object") = some true
theorem EdF.ty {K : PySem.W.Frag} {C a dx : Addr} {H : Hp} {fs : List (Str × V)} (e : EdF K C) (h : H a = some (.ins C dx fs)) : TyX K H (.ref a) (.ref C) := .base (.ins h e.cl e.ca e.cn e.ct e.cm)
theorem few_lt {n : Nat} (h : n ≤ 1000) : n < sizeLine := Nat.lt_of_le_of_lt h (by rw [sizeLine_eq]; decide)
theorem upd_twice3 {H : Hp} {a : Addr} {o1 o2 : HO} : upd (upd H a o1) a o2 = upd H a o2 := by
  funext b
  by_cases h : b = a
  · subst h; rw [upd_same, upd_same]
  · rw [upd_ne h, upd_ne h, upd_ne h]
end Vk
set_option Elab.async false
set_option maxRecDepth 100000
set_option linter.all false
set_option maxHeartbeats 4000000
namespace Vk
open PySem PySem.Spec PyProof.Rows L2 LamX NdefX StX
section
variable {P : Program} {w : World} {K : PySem.W.Frag} {mg : Str → Option Value} {base : Heap}
theorem isNew_eq {z : Str} (h : isT (.str z) = true) : isNew (.str z) = decide ((z.length : Int) ≤ 40) := by
  unfold isNew
  rw [h]
  rfl
theorem isOld_eq {z : Str} (h : isT (.str z) = true) : isOld (.str z) = (decide ((z.length : Int) ≤ 40) && decide ((1 : Int) ≤ z.length)) := by
  unfold isOld
  rw [isNew_eq h]
  show (_ && !decide (V.str z = V.str "")) = _
  congr 1
  by_cases e : z = ""
  · subst e
    decide
  · have n : V.str z ≠ V.str "" := fun w => e (V.str.inj w)
    rw [decide_eq_false n]
    symm
    rw [Bool.not_false, decide_eq_true_eq]
    have pos : z.length ≠ 0 := fun w => e (str_empty.mpr (List.length_eq_zero_iff.mp (by simpa [Str.length] using w)))
    omega
theorem isT_of {z : Str} (h : ∀ c ∈ z.cps.toList, c ∈ letS.cps.toList) : isT (.str z) = true := by
  rw [isT_all, List.all_eq_true]
  intro c hc
  simpa using h c hc
variable {C_Once C_First C_Perhaps C_Every C_AtOnce C_Edit C_Program : Addr}
def spFits (C0 C1 C2 C3 : Addr) : Sp := fun vs H Q _ => ∃ n a dx fs m, vs = [.ref a, .int (m : Nat)] ∧ n < 4 ∧ H a = some (.ins (cls4 C0 C1 C2 C3 n) dx fs) ∧ ∀ H', Same H H' → Q (.bl (fitsM n m)) H'
abbrev s_fits : Stmt := top 30
theorem sc_fits : FnScope ["edit", "number"] ["edit", "number"] (defScope s_fits) := ⟨rfl, rfl, rfl, by decide +kernel, rfl, by decide +kernel, by decide +kernel⟩
theorem b_fits {f : Addr} {fd : FuncData} (F : Fun K "fits" "fits" s_fits f fd) (T : Txt mg) (n_First : mg "First" = some (.ref C_First)) (n_Every : mg "Every" = some (.ref C_Every)) (n_Perhaps : mg "Perhaps" = some (.ref C_Perhaps)) (ed : ∀ n, n < 4 → EdF K (cls4 C_Once C_First C_Perhaps C_Every n)) (kit : ∀ i j, i < 4 → j < 4 → PySem.W.kitOne K (.ref (cls4 C_Once C_First C_Perhaps C_Every i)) (.ref (cls4 C_Once C_First C_Perhaps C_Every j)) = some (i == j)) (kFE : ∀ n, n < 4 → PySem.W.kitAny K (.ref (cls4 C_Once C_First C_Perhaps C_Every n)) [.ref C_First, .ref C_Every] = some (n == 1 || n == 3)) : FnG P w K mg base CX0 1 f fd ["edit", "number"] (spFits C_Once C_First C_Perhaps C_Every) := by
  refine okG0 F sc_fits (fun vs H Q E h => ?_) (fun cdv A outer s H vs Q E hg hr h => ?_)
  · obtain ⟨n, a, dx, fs, m, rfl, _⟩ := h
    rfl
  · have hu := hu_of hr
    have hu64 := hr.units
    obtain ⟨n, a, dx, fs, m, rfl, hn, ha, k⟩ := h
    refine ⟨_, (pss_cons (ps_if (pt_val (pe_callB call_isiT (by rfl) T.isinstance (by decide +kernel) (pa_cons (pv 0) (pa_cons (pe_tup (pa_cons (pe_glob (v := .ref C_First) (by rfl) n_First rfl) (pa_cons (pe_glob (v := .ref C_Every) (by rfl) n_Every rfl) pa_nil))) pa_nil)))) (pss_one (ps_ret (pe_cmpR op_gt (pv 1) pe_int (nomark _)))) pss_nil)
      (pss_cons (ps_if (pt_val (pe_callB call_isi (by rfl) T.isinstance (by decide +kernel) (pa_cons (pv 0) (pa_cons (pe_glob (v := .ref C_Perhaps) (by rfl) n_Perhaps rfl) pa_nil)))) (pss_one (ps_ret (pe_cmpR op_lt (pv 1) pe_int (nomark _)))) pss_nil)
      (pss_one (ps_ret (pe_cmpR op_eq (pv 1) pe_int (nomark _)))))), ?_⟩
    have ty := (ed n hn).ty ha
    refine ⟨_, rfl, few_len (Nat.le_of_ble_eq_true rfl), fun t ht => ?_⟩
    have s1 := same_new (o := .tup [.ref C_First, .ref C_Every]) ht
    have ha1 := s1 _ _ ha
    refine ⟨.ref a, t, _, _, _, _, rfl, upd_same, .cons (.own _) (.cons (.own _) .nil), (ed n hn).ty ha1, kFE n hn, _, rfl, ?_⟩
    match n, hn with
    | 0, hn =>
      refine iteF ⟨_, rfl, .ref a, .ref C_Perhaps, _, .ref C_Perhaps, _, rfl, .own _, (ed 0 hn).ty ha1, kit 0 2 hn (by decide), _, rfl, iteF ⟨_, rfl, rfl, ?_⟩⟩
      have q := k _ s1
      rw [show fitsM 0 m = decide (V.int (m : Int) = V.int 1) from by
        show decide (m = 1) = _
        by_cases e : m = 1
        · subst e; rfl
        · rw [decide_eq_false e, decide_eq_false (fun z => e (by have := V.int.inj z; omega))]] at q
      exact q
    | 1, hn => exact iteT ⟨_, rfl, _, _, rfl, rfl, by
        have q := k _ s1
        rw [show fitsM 1 m = decide ((m : Int) > 0) from by
          show decide (0 < m) = _
          by_cases e : 0 < m
          · rw [decide_eq_true e, decide_eq_true (by omega)]
          · rw [decide_eq_false e, decide_eq_false (by omega)]] at q
        exact q⟩
    | 2, hn => exact iteF ⟨_, rfl, .ref a, .ref C_Perhaps, _, .ref C_Perhaps, _, rfl, .own _, (ed 2 hn).ty ha1, kit 2 2 hn (by decide), _, rfl, iteT ⟨_, rfl, _, _, rfl, rfl, by
        have q := k _ s1
        rw [show fitsM 2 m = decide ((m : Int) < 2) from by
          show decide (m < 2) = _
          by_cases e : m < 2
          · rw [decide_eq_true e, decide_eq_true (by omega)]
          · rw [decide_eq_false e, decide_eq_false (by omega)]] at q
        exact q⟩⟩
    | 3, hn => exact iteT ⟨_, rfl, _, _, rfl, rfl, by
        have q := k _ s1
        rw [show fitsM 3 m = decide ((m : Int) > 0) from by
          show decide (0 < m) = _
          by_cases e : 0 < m
          · rw [decide_eq_true e, decide_eq_true (by omega)]
          · rw [decide_eq_false e, decide_eq_false (by omega)]] at q
        exact q⟩
    | n + 4, hn => exact absurd hn (by omega)

def nats (ns : List Nat) : List V := ns.map fun n => V.int (n : Nat)
theorem nats_plc {x w : Str} : (plcI x w).map V.int = nats (plc x w) := by
  unfold plcI nats
  rw [List.map_map]
  rfl
theorem nats_at {ns : List Nat} {i : Nat} {v : V} (h : (nats ns)[i]? = some v) : ∃ n, ns[i]? = some n ∧ v = .int (n : Nat) := by
  unfold nats at h
  rw [List.getElem?_map] at h
  obtain ⟨n, hn, e⟩ := Option.map_eq_some_iff.mp h
  exact ⟨n, hn, e.symm⟩
def spApart (K : PySem.W.Frag) : Sp := fun vs H Q _ => ∃ D len ns, vs = [.ref D, .int (len : Nat)] ∧ H D = some (.lst (nats ns)) ∧ ns.length ≤ 900 ∧ ∀ l H', Same H H' → H l = none → H' l = some (.lst (nats (apartM len ns 0))) → Q (.ref l) H'
abbrev s_apart : Stmt := top 31
theorem sc_apart : FnScope ["found", "length", "taken", "end", "place"] ["found", "length"] (defScope s_apart) := ⟨rfl, rfl, rfl, by decide +kernel, rfl, by decide +kernel, by decide +kernel⟩
theorem b_apart {f : Addr} {fd : FuncData} (F : Fun K "apart" "apart" s_apart f fd) (T : Txt mg) : FnG P w K mg base CX0 1 f fd ["found", "length"] (spApart K) := by
  refine okG0 F sc_apart (fun vs H Q E h => ?_) (fun cdv A outer s H vs Q E hg hr h => ?_)
  · obtain ⟨D, len, ns, rfl, _⟩ := h
    rfl
  · have hu := hu_of hr
    have hu64 := hr.units
    obtain ⟨D, len, ns, rfl, hD, hl, k⟩ := h
    refine ⟨_, (pss_cons (ps_set (i := 2) sc_apart.nd rfl (Or.inl rfl) (pe_lst pa_nil))
      (pss_cons (ps_set (i := 3) sc_apart.nd rfl (Or.inl rfl) pe_int)
      (pss_cons (ps_for PassesOwn.never rfl (pi_list (pv 0)) (pg_name (i := 4) sc_apart.nd rfl (Or.inl rfl)) (pss_one (ps_if (pt_cmpR op_ge (pv 4) (pv 3) (nomark _)) (pss_cons (ps_expr (pe_bm PySem.F.plainAttrs_list PySem.F.slot_list_append PySem.F.type_list_append mt_append (pv 2) (pa_cons (pv 4) pa_nil)))
      (pss_one (ps_set (i := 3) sc_apart.nd rfl (Or.inl rfl) (pe_op op_add (pv 4) (pv 1))))) pss_nil)))
      (pss_one (ps_ret (pv 2)))))), ?_⟩
    refine ⟨few_len (Nat.zero_le _), fun lo hlo => ?_⟩
    have s0 := same_new (o := .lst []) hlo
    refine ⟨_, rfl, D, rfl, ⟨_, SqL.of (s0 _ _ hD)⟩, ?_⟩
    refine for_list (xs := nats ns) (fun i σ H2 => ∃ (o : Option V) (e : Nat) (got : List Nat), σ = [some (.ref D), some (.int (len : Nat)), some (.ref lo), some (.int (e : Nat)), o] ∧ Same H H2 ∧ H2 lo = some (.lst (nats got)) ∧ got.length ≤ i ∧ got ++ apartM len (ns.drop i) e = apartM len ns 0) ?_ ?_ ?_ ?_
    · exact ⟨_, 0, [], rfl, s0, upd_same, Nat.le_refl _, rfl⟩
    · rintro i σ H2 _ ⟨o, e, got, rfl, s2, _⟩
      exact SqL.of (s2 _ _ hD)
    · rintro i v σ H2 hv ⟨o, e, got, rfl, s2, hg, gl, ge⟩
      obtain ⟨p, hp, rfl⟩ := nats_at hv
      have il : i < ns.length := (List.getElem?_eq_some_iff.mp hp).1
      rw [drop_at hp, apartM_cons] at ge
      refine ⟨_, rfl, _, rfl, _, _, rfl, rfl, _, rfl, ?_⟩
      by_cases h : e ≤ p
      · rw [if_pos h] at ge
        rw [show decide (((p : Nat) : Int) ≥ (e : Nat)) = true from decide_eq_true (by omega)]
        refine iteT ⟨_, rfl, .inl ⟨rfl, _, SqL.of hg⟩, _, rfl, lo, _, _, rfl, rfl, hg, few_lt (by unfold nats; rw [List.length_map]; omega), ?_⟩
        refine ⟨_, rfl, _, rfl, _, _, rfl, rfl, _, p + len, got ++ [p], rfl, fun b o2 h2 => ?_, ?_, by rw [List.length_append]; exact Nat.succ_le_succ gl, ?_⟩
        · rw [upd_ne (ne_of_none h2 hlo)]
          exact s2 _ _ h2
        · rw [upd_same]
          unfold nats
          rw [List.map_append]
          rfl
        · rw [← ge, List.append_assoc]
          rfl
      · rw [if_neg h] at ge
        rw [show decide (((p : Nat) : Int) ≥ (e : Nat)) = false from decide_eq_false (by omega)]
        exact iteF ⟨_, e, got, rfl, s2, hg, Nat.le_succ_of_le gl, ge⟩
    · rintro σ H2 ⟨o, e, got, rfl, s2, hg, gl, ge⟩
      rw [List.drop_of_length_le (by unfold nats; rw [List.length_map]; exact Nat.le_refl _)] at ge
      rw [apartM_nil, List.append_nil] at ge
      exact ⟨_, rfl, k lo H2 s2 hlo (ge ▸ hg)⟩

end
end Vk
set_option Elab.async false
set_option maxRecDepth 100000
set_option linter.all false
set_option maxHeartbeats 4000000
namespace Vk
open PySem PySem.Spec PyProof.Rows L2 LamX NdefX StX
section
variable {P : Program} {w : World} {K : PySem.W.Frag} {mg : Str → Option Value} {base : Heap}
variable {C_Once C_First C_Perhaps C_Every C_AtOnce C_Edit C_Program C_NoPlace : Addr}
abbrev s_places : Stmt := top 17
theorem sc_places : FnScope ["text", "word", "found", "place"] ["text", "word"] (defScope s_places) := ⟨rfl, rfl, rfl, by decide +kernel, rfl, by decide +kernel, by decide +kernel⟩
theorem b_places {f : Addr} {fd : FuncData} (F : Fun K "places" "places" s_places f fd) (T : Txt mg) : FnG P w K mg base CX0 1 f fd ["text", "word"] (spPlaces K) := by
  refine okG0 F sc_places (fun vs H Q E h => ?_) (fun cdv A outer s H vs Q E hg hr h => ?_)
  · obtain ⟨x, wd, rfl, _⟩ := h
    rfl
  · have hu := hu_of hr
    have hu64 := hr.units
    obtain ⟨x, wd, rfl, hx, hw, k⟩ := h
    refine ⟨_, (pss_cons (ps_set (i := 2) sc_places.nd rfl (Or.inl rfl) (pe_lst pa_nil))
      (pss_cons (ps_set (i := 3) sc_places.nd rfl (Or.inl rfl) (pe_bm PySem.F.plainAttrs_str PySem.F.slot_str_find PySem.F.type_str_find mt_find (pv 0) (pa_cons (pv 1) pa_nil)))
      (pss_cons (ps_while PassesOwn.never (pt_cmpR op_ge (pv 3) pe_int (nomark _)) (pss_cons (ps_expr (pe_bm PySem.F.plainAttrs_list PySem.F.slot_list_append PySem.F.type_list_append mt_append (pv 2) (pa_cons (pv 3) pa_nil)))
      (pss_one (ps_set (i := 3) sc_places.nd rfl (Or.inl rfl) (pe_bm PySem.F.plainAttrs_str PySem.F.slot_str_find PySem.F.type_str_find mt_find3 (pv 0) (pa_cons (pv 1) (pa_cons (pe_op op_add (pv 3) pe_int) pa_nil)))))))
      (pss_one (ps_ret (pv 2)))))), ?_⟩
    refine ⟨Nat.zero_le _, fun a ha => ?_⟩
    have mono : ∀ {z : Int} {lo : Nat}, True := trivial
    let PI : Nat → Int → Prop := fun lo z => lo ≤ x.length + 1 ∧ ((z = -1 ∧ ∀ i, lo ≤ i → ¬ StrLaws.At x wd x.length i) ∨ ∃ i : Nat, z = (i : Int) ∧ lo ≤ i ∧ StrLaws.At x wd x.length i ∧ ∀ k, lo ≤ k → k < i → ¬ StrLaws.At x wd x.length k)
    refine ⟨_, rfl, rfl, _, rfl, x, wd, rfl, rfl, ?_⟩
    refine ⟨fun m σ H' => ∃ (lo : Nat) (z : Int), σ = [some (.str x), some (.str wd), some (.ref a), some (.int z)] ∧ H' a = some (.lst ((((List.range lo).filter (atB x wd)).map Int.ofNat).map V.int)) ∧ Same H H' ∧ PI lo z ∧ m = if z < 0 then 0 else x.length + 2 - lo, ⟨_, 0, Txt.find x wd, rfl, upd_same, same_new ha, ⟨Nat.zero_le _, find_from x wd 0 (Nat.zero_le _)⟩, rfl⟩, ?_⟩
    rintro m σ H2 ⟨lo, z, rfl, hd, sm, ⟨hlo, hP⟩, rfl⟩
    refine ⟨_, rfl, _, _, rfl, rfl, _, rfl, ?_⟩
    refine ite2 (fun hz => ?_) (fun hz => ?_)
    · have hz0 := of_decide_eq_true hz
      rcases hP with ⟨rfl, _⟩ | ⟨i, rfl, hi, hA, hB⟩
      · exact absurd hz0 (by decide)
      · have hA1 := hA.1
        have em : (if ((i : Nat) : Int) < 0 then 0 else x.length + 2 - lo) = x.length + 2 - lo := if_neg (by omega)
        rw [em]
        have fl : ((((List.range lo).filter (atB x wd)).map Int.ofNat).map V.int).length ≤ lo := by
          rw [List.length_map, List.length_map]
          exact Nat.le_trans (List.length_filter_le _ _) (Nat.le_of_eq List.length_range)
        have snoc : (List.range (i + 1)).filter (atB x wd) = (List.range lo).filter (atB x wd) ++ [i] := by
          rw [filter_snoc ((atB_iff x wd i).mpr hA), filter_more hi fun j h1 h2 => by
            cases q : atB x wd j with
            | false => rfl
            | true => exact absurd ((atB_iff x wd j).mp q) (hB j h1 h2)]
        refine ⟨fun σ' H' => ∃ z : Int, σ' = [some (.str x), some (.str wd), some (.ref a), some (.int z)] ∧ H' a = some (.lst ((((List.range (i + 1)).filter (atB x wd)).map Int.ofNat).map V.int)) ∧ Same H H' ∧ PI (i + 1) z, ?_, ?_⟩
        · rintro σ' H' ⟨z, rfl, h1, h2, h3⟩
          refine ⟨_, ?_, i + 1, z, rfl, h1, h2, h3, rfl⟩
          split <;> omega
        · refine ⟨_, rfl, .inl ⟨rfl, _, SqL.of hd⟩, _, rfl, a, _, _, rfl, rfl, hd, Nat.lt_of_le_of_lt fl (Nat.lt_of_le_of_lt (show lo ≤ 10002 by omega) (by decide)), ?_⟩
          refine ⟨_, rfl, rfl, _, rfl, _, rfl, _, _, rfl, rfl, x, wd, _, rfl, rfl, ?_⟩
          refine ⟨_, rfl, ?_, ?_, ?_⟩
          · rw [upd_same, snoc, List.map_append, List.map_append]
            rfl
          · intro b o e
            have nb : b ≠ a := fun q => by rw [q, ha] at e; cases e
            exact (upd_ne nb).trans (sm b o e)
          · refine ⟨by omega, ?_⟩
            have ef : Txt.find3 x wd ((i : Int) + 1) = (match Builtin.Str.occurrences x wd (i + 1) x.length 1 with | i :: _ => (i : Int) | [] => -1) := by
              unfold Txt.find3
              rw [show fromIndex x.length ((i : Int) + 1) = i + 1 by unfold fromIndex; rw [if_neg (by omega)]; omega]
              cases Builtin.Str.occurrences x wd (i + 1) x.length 1 <;> rfl
            rw [ef]
            exact find_from x wd (i + 1) (by omega)
    · have hz0 : z < 0 := by
        have := of_decide_eq_false (by simpa using hz : decide (0 ≤ z) = false)
        omega
      rcases hP with ⟨rfl, hN⟩ | ⟨i, rfl, _⟩
      · refine ⟨_, rfl, k a _ ha ?_ sm⟩
        rw [hd]
        unfold plcI plc
        rw [filter_more hlo fun j h1 h2 => by
            cases q : atB x wd j with
            | false => rfl
            | true => exact absurd ((atB_iff x wd j).mp q) (hN j h1)]
      · omega

/-- begin, end, new, part -/
def putV (z2 : Str) (len p : Nat) : List V := [.int (p : Nat), .int (p + len : Nat), .str z2, .int 0]
def spPuts (Cs : Nat → Addr) (CN : Addr) : Sp := fun vs H Q E => ∃ n a dx z1 z2 i x, vs = [.ref a, .int (i : Nat), .str x] ∧ n < 4 ∧ H a = some (.ins (Cs n) dx (fl z1 z2)) ∧ x.length ≤ 800 ∧ z1.length ≤ 100 ∧
  (fitsM n (plc x z1).length = false → ∀ H1 d, Same H H1 → H1 d = none → E (.ref CN) (some d) (upd H1 d (.xd [(("number" : Str), .int ((plc x z1).length : Nat)), (("index" : Str), .int (i : Nat))]))) ∧
  (fitsM n (plc x z1).length = true → ∀ l xs H', Same H H' → H l = none → H' l = some (.lst xs) → Rws H' (putV z2 z1.length) xs (spotsM n z1.length (plc x z1)) → Q (.ref l) H')
theorem nats_len {ns : List Nat} : (nats ns).length = ns.length := List.length_map _
theorem nats_take {ns : List Nat} {i : Nat} : (nats ns).take i = nats (ns.take i) := by
  unfold nats
  rw [List.map_take]
theorem cut_first {ns : List Nat} : cutV (nats ns) none (some 1) = nats (ns.take 1) := by
  unfold cutV
  rw [HT.sIx_none, show (1 : Int) = ((1 : Nat) : Int) from rfl, HT.sIx_nat, List.drop_zero, Nat.sub_zero]
  cases ns with
  | nil => rfl
  | cons a r =>
    rw [show min 1 (nats (a :: r)).length = 1 from by rw [nats_len, List.length_cons]; omega]
    exact nats_take
theorem ths_rows {H H1 : Hp} {f : Nat → List V} (s : ∀ {u : Addr} {ws : List V}, H u = some (.tup ws) → H1 u = some (.tup ws)) : ∀ {xs : List V} {ps : List Nat}, Rws H f xs ps → Rws H1 f xs ps
  | _, _, .nil => .nil
  | _, _, .cons a t => .cons (by obtain ⟨u, e, h⟩ := a; exact ⟨u, e, s h⟩) (ths_rows s t)
abbrev s_puts_of_one : Stmt := top 32
theorem sc_puts_of_one : FnScope ["edit", "index", "text", "found", "place"] ["edit", "index", "text"] (defScope s_puts_of_one) := ⟨rfl, rfl, rfl, by decide +kernel, rfl, by decide +kernel, by decide +kernel⟩
theorem b_puts_of_one {f : Addr} {fd : FuncData} (F : Fun K "puts_of_one" "puts_of_one" s_puts_of_one f fd) (T : Txt mg) (c_places : CalG P w K mg base CX0 1 "places" (spPlaces K)) (c_fits : CalG P w K mg base CX0 1 "fits" (spFits C_Once C_First C_Perhaps C_Every)) (c_apart : CalG P w K mg base CX0 1 "apart" (spApart K)) (c_NoPlace : ClsI P w K mg base 1 "NoPlace" C_NoPlace ["index", "number"]) (n_First : mg "First" = some (.ref C_First)) (ed : ∀ n, n < 4 → EdF K (cls4 C_Once C_First C_Perhaps C_Every n)) (kit : ∀ i j, i < 4 → j < 4 → PySem.W.kitOne K (.ref (cls4 C_Once C_First C_Perhaps C_Every i)) (.ref (cls4 C_Once C_First C_Perhaps C_Every j)) = some (i == j)) (pr_old : ∀ n, n < 4 → PrI P w K mg base 1 (cls4 C_Once C_First C_Perhaps C_Every n) "old" "_old") (pr_new : ∀ n, n < 4 → PrI P w K mg base 1 (cls4 C_Once C_First C_Perhaps C_Every n) "new" "_new") : FnG P w K mg base (L2.CX P w) 3 f fd ["edit", "index", "text"] (spPuts (cls4 C_Once C_First C_Perhaps C_Every) C_NoPlace) := by
  refine okG F sc_puts_of_one (fun vs H Q E h => ?_) (fun cdv A outer s H vs Q E hg hr h => ?_)
  · obtain ⟨n, a, dx, z1, z2, i, x, rfl, _⟩ := h
    rfl
  · have hu := hu_of hr
    have hu64 := hr.units
    obtain ⟨n, a, dx, z1, z2, i, x, rfl, hn, ha, hx, hz, k1, k2⟩ := h
    refine ⟨_, (pss_cons (ps_set (i := 3) sc_puts_of_one.nd rfl (Or.inl rfl) (pe_cG c_places hg hr (by decide) pass0 (pa_cons (pv 2) (pa_cons (pe_propN (pv 0) pr_old hr (by decide)) pa_nil))))
      (pss_cons (ps_if (pt_not (pt_val (pe_cG c_fits hg hr (by decide) pass0 (pa_cons (pv 0) (pa_cons (pe_callB call_len (by rfl) T.len (by decide +kernel) (pa_cons (pv 3) pa_nil)) pa_nil))))) (pss_one (ps_raise rfl (takes_of rfl rfl rfl rfl) (pmk_k c_NoPlace hg hr (by decide) pass0 (pa_cons (pv 1) (pa_cons (pe_callB call_len (by rfl) T.len (by decide +kernel) (pa_cons (pv 3) pa_nil)) pa_nil))))) pss_nil)
      (C8.pss_cut (ps_if (pt_val (pe_callB call_isi (by rfl) T.isinstance (by decide +kernel) (pa_cons (pv 0) (pa_cons (pe_glob (v := .ref C_First) (by rfl) n_First rfl) pa_nil)))) (pss_one (ps_set (i := 3) sc_puts_of_one.nd rfl (Or.inl rfl) (pe_slice sl_list (pv 3) po_none (po_some pe_int)))) pss_nil)
      (pss_one (ps_ret (pe_lc (own := [("place", 4)]) (g := gName 4) (tt := tYes) rfl sc_puts_of_one.nd (pi_list (pe_cG c_apart hg hr (by decide) pass0 (pa_cons (pv 3) (pa_cons (pe_callB call_len (by rfl) T.len (by decide +kernel) (pa_cons (pe_propN (pv 0) pr_old hr (by decide)) pa_nil)) pa_nil)))) (blkOk_by (own := [("place", 4)]) (N := ["edit", "index", "text", "found", "place"]) (sc := defScope s_puts_of_one) (by decide +kernel)) (fun _ _ _ _ _ => (pg_name (i := 4) sc_puts_of_one.nd rfl (Or.inl rfl))) (fun _ _ _ _ _ => pts_nil) (fun _ _ _ _ _ => (pe_tup (pa_cons (pv 4) (pa_cons (pe_op op_add (pv 4) (pe_callB (call_lenK (K := K) rfl) (by rfl) T.len (by decide +kernel) (pa_cons (pe_propN (pv 0) pr_old hr (by decide)) pa_nil))) (pa_cons (pe_propN (pv 0) pr_new hr (by decide)) (pa_cons pe_int pa_nil)))))))))))), ?_⟩
    have hpl : (plc x z1).length ≤ 801 := Nat.le_trans (plc_len x z1) (by omega)
    refine ⟨_, rfl, _, rfl, n, a, dx, _, .str z1, hn, rfl, ha, fl_old, x, z1, rfl, by omega, by omega, fun D H1 hD0 hD s1 => ?_⟩
    rw [nats_plc] at hD
    generalize hps : plc x z1 = ps at hD hpl k1 k2
    have lenP : ∀ {H' : Hp}, Same H1 H' → LenV K (.ref D) H' ps.length := fun s => .inl ⟨_, SqL.of (s _ _ hD), nats_len.symm⟩
    refine ⟨_, rfl, _, rfl, .ref D, ps.length, rfl, lenP Same.rfl, n, a, dx, _, ps.length, rfl, hn, s1 _ _ ha, fun H2 s2 => ⟨_, rfl, ?_⟩⟩
    have s12 := s1.trans s2
    cases hf : fitsM n ps.length with
    | false => exact iteT ⟨_, rfl, _, rfl, .ref D, ps.length, rfl, lenP s2, rfl, fun d hd => k1 hf _ d s12 hd⟩
    | true =>
      refine iteF ?_
      replace k2 := k2 hf
      refine ⟨fun σ' H' => ∃ D2 o, σ' = [some (.ref a), some (.int (i : Nat)), some (.str x), some (.ref D2), o] ∧ Same H H' ∧ H' D2 = some (.lst (nats (if n = 1 then ps.take 1 else ps))), ?_, ?_⟩
      · refine ⟨_, rfl, .ref a, .ref C_First, _, .ref C_First, _, rfl, .own _, (ed n hn).ty (s12 _ _ ha), kit n 1 hn (by decide), _, rfl, ?_⟩
        by_cases h1 : n = 1
        · subst h1
          refine iteT ⟨_, rfl, 1, rfl, D, _, rfl, SqL.of (s2 _ _ hD), fun D2 hD2 => ⟨D2, _, rfl, s12.trans (same_new hD2), ?_⟩⟩
          rw [upd_same, cut_first]
          rfl
        · rw [show (n == 1) = false from by simpa using h1]
          refine iteF ⟨D, _, rfl, s12, ?_⟩
          rw [if_neg h1]
          exact s2 _ _ hD
      · rintro σ3 H3 ⟨D2, o, rfl, s3, hD2⟩
        have hq2 : (if n = 1 then ps.take 1 else ps).length ≤ 801 := by
          split
          · rw [List.length_take]; omega
          · exact hpl
        generalize hqs : (if n = 1 then ps.take 1 else ps) = qs at hD2 hq2
        have hsp : spotsM n z1.length ps = apartM z1.length qs 0 := by
          unfold spotsM
          rw [hqs]
        rw [hsp] at k2
        refine ⟨_, rfl, _, rfl, n, a, dx, _, .str z1, hn, rfl, s3 _ _ ha, fl_old, _, _, rfl, ⟨by rw [sizeLine_eq]; omega, rfl⟩, D2, z1.length, qs, rfl, hD2, by omega, fun l4 H4 s4 hl4 h4 => ?_⟩
        have s34 := s3.trans s4
        refine ⟨l4, rfl, ⟨_, SqL.of h4⟩, fun D5 hD5 => ?_⟩
        have hal : (apartM z1.length qs 0).length ≤ 801 := Nat.le_trans (apart_le _ _) hq2
        generalize apartM z1.length qs 0 = ss at h4 hal k2
        refine lc_list (K := K) (a := l4) (xs := nats ss) (fun j H' => Same H4 H' ∧ ∃ xs, H' D5 = some (.lst xs) ∧ Rws H' (putV z2 z1.length) xs (ss.take j)) ⟨same_new hD5, [], upd_same, .nil⟩ (fun j H' _ p => SqL.of (p.1 _ _ h4)) (fun j v H' hv p => ?_) (fun H' p => ?_)
        · obtain ⟨p0, hp0, rfl⟩ := nats_at hv
          obtain ⟨sj, xs, hxs, rw5⟩ := p
          have ha5 := sj _ _ (s34 _ _ ha)
          refine ⟨rfl, ?_⟩
          dsimp only [tYes]
          rw [if_pos rfl]
          refine ⟨_, rfl, _, rfl, _, rfl, n, a, dx, _, .str z1, hn, rfl, ha5, fl_old, _, _, rfl, ⟨by rw [sizeLine_eq]; omega, rfl⟩, _, _, rfl, rfl, _, rfl, n, a, dx, _, .str z2, hn, rfl, ha5, fl_new, few_len (Nat.le_of_ble_eq_true rfl), fun t ht => ?_⟩
          have st := same_new (o := .tup [.int (p0 : Nat), .int ((p0 : Int) + (z1.length : Int)), .str z2, .int 0]) ht
          refine ⟨xs, st _ _ hxs, few_lt (by have := paired_len rw5; rw [List.length_take] at this; omega), fun b o h => ?_, xs ++ [.ref t], upd_same, ?_⟩
          · rw [upd_ne (ne_of_none h hD5)]
            exact st _ _ (sj _ _ h)
          · rw [List.take_add_one, hp0]
            have hne : t ≠ D5 := (ne_of_none hxs ht).symm
            have un : ∀ {u : Addr} {ws : List V}, H' u = some (.tup ws) → (upd (upd H' t (.tup [.int (p0 : Nat), .int ((p0 : Int) + (z1.length : Int)), .str z2, .int 0])) D5 (.lst (xs ++ [.ref t]))) u = some (.tup ws) := fun h => by
              rw [upd_ne (fun e => by rw [e, hxs] at h; cases h)]
              exact st _ _ h
            refine paired_app (ths_rows un rw5) (.cons ⟨t, rfl, ?_⟩ .nil)
            rw [upd_ne hne]
            exact upd_same
        · obtain ⟨sj, xs, hxs, rw5⟩ := p
          rw [nats_len, List.take_length] at rw5
          exact k2 D5 xs H' (s34.trans sj) (by
            match q : H D5 with
            | none => rfl
            | some o => exact nomatch (s34 _ _ q).symm.trans hD5) hxs rw5

end
end Vk
set_option Elab.async false
set_option maxRecDepth 100000
set_option linter.all false
set_option maxHeartbeats 4000000
namespace Vk
open PySem PySem.Spec PyProof.Rows L2 LamX NdefX StX
section
variable {P : Program} {w : World} {K : PySem.W.Frag} {mg : Str → Option Value} {base : Heap}
variable {C_Once C_First C_Perhaps C_Every C_AtOnce C_Edit C_Program C_NoPlace C_Overlap C_InvalidText C_InvalidEdit C_TooMany : Addr}
def spBehind : Sp := fun vs H Q _ => ∃ x l xs z2 len ps, vs = [.str x, .ref l] ∧ H l = some (.lst xs) ∧ Rws H (putV z2 len) xs ps ∧ x.length ≤ 800 ∧ z2.length ≤ 100 ∧ ps.length ≤ 801 ∧ ∀ H', Same H H' → Q (.str (foldS x z2 len ps 0 "")) H'
theorem foldS_cons {x z2 : Str} {len p k : Nat} {r : List Nat} {acc : Str} : foldS x z2 len (p :: r) k acc = foldS x z2 len r (p + len) (acc ++ cutS x (some (k : Int)) (some (p : Int)) ++ z2) := rfl
theorem foldS_nil {x z2 : Str} {len k : Nat} {acc : Str} : foldS x z2 len [] k acc = acc ++ cutS x (some (k : Int)) none := rfl
def texs (ss : List Str) : List V := ss.map V.str
theorem nowhole {a b c d : V} : ¬ (HT.sIx [a, b, c, d].length 0 none = 0 ∧ HT.sIx [a, b, c, d].length [a, b, c, d].length (some 3) = [a, b, c, d].length) := by rintro ⟨_, h⟩; exact absurd (show HT.sIx 4 4 (some 3) = 4 from h) (by decide)
theorem few_lt2 {n : Nat} (h : n ≤ 3000) : n < sizeLine := Nat.lt_of_le_of_lt h (by rw [sizeLine_eq]; decide)
abbrev s_text_behind : Stmt := top 36
theorem sc_text_behind : FnScope ["text", "puts", "pieces", "kept", "put", "begin", "end", "new"] ["text", "puts"] (defScope s_text_behind) := ⟨rfl, rfl, rfl, by decide +kernel, rfl, by decide +kernel, by decide +kernel⟩
theorem b_text_behind {f : Addr} {fd : FuncData} (F : Fun K "text_behind" "text_behind" s_text_behind f fd) (T : Txt mg) : FnG P w K mg base CX0 1 f fd ["text", "puts"] spBehind := by
  refine okG0 F sc_text_behind (fun vs H Q E h => ?_) (fun cdv A outer s H vs Q E hg hr h => ?_)
  · obtain ⟨x, l, xs, z2, len, ps, rfl, _⟩ := h
    rfl
  · have hu := hu_of hr
    have hu64 := hr.units
    obtain ⟨x, l, xs, z2, len, ps, rfl, hl, rw0, hx, hz, hp, k⟩ := h
    have hxs := paired_len rw0
    refine ⟨_, (pss_cons (ps_set (i := 2) sc_text_behind.nd rfl (Or.inl rfl) (pe_lst pa_nil))
      (pss_cons (ps_set (i := 3) sc_text_behind.nd rfl (Or.inl rfl) pe_int)
      (pss_cons (ps_for PassesOwn.never rfl (pi_list (pv 1)) (pg_name (i := 4) sc_text_behind.nd rfl (Or.inl rfl)) (pss_cons (ps_asg (pe_slice sl_tup (pv 4) po_none (po_some pe_int)) (pg_tup rfl (pgs_cons (pg_name (i := 5) sc_text_behind.nd rfl (Or.inl rfl)) (pgs_cons (pg_name (i := 6) sc_text_behind.nd rfl (Or.inl rfl)) (pgs_cons (pg_name (i := 7) sc_text_behind.nd rfl (Or.inl rfl)) pgs_nil)))))
      (pss_cons (ps_expr (pe_bm PySem.F.plainAttrs_list PySem.F.slot_list_append PySem.F.type_list_append mt_append (pv 2) (pa_cons (pe_slice sl_str (pv 0) (po_some (pv 3)) (po_some (pv 5))) pa_nil)))
      (pss_cons (ps_expr (pe_bm PySem.F.plainAttrs_list PySem.F.slot_list_append PySem.F.type_list_append mt_append (pv 2) (pa_cons (pv 7) pa_nil)))
      (pss_one (ps_set (i := 3) sc_text_behind.nd rfl (Or.inl rfl) (pv 6)))))))
      (pss_cons (ps_expr (pe_bm PySem.F.plainAttrs_list PySem.F.slot_list_append PySem.F.type_list_append mt_append (pv 2) (pa_cons (pe_slice sl_str (pv 0) (po_some (pv 3)) po_none) pa_nil)))
      (pss_one (ps_ret (pe_join pe_str (pv 2)))))))), ?_⟩
    refine ⟨few_len (Nat.zero_le _), fun lo hlo => ?_⟩
    have s0 := same_new (o := .lst []) hlo
    refine ⟨_, rfl, l, rfl, ⟨_, SqL.of (s0 _ _ hl)⟩, ?_⟩
    refine for_list (xs := xs) (fun i σ H2 => ∃ (o4 o5 o6 o7 : Option V) (e : Nat) (got : List Str), σ = [some (.str x), some (.ref l), some (.ref lo), some (.int (e : Nat)), o4, o5, o6, o7] ∧ Same H H2 ∧ H2 lo = some (.lst (texs got)) ∧ got.length = 2 * i ∧ (got.map (·.length)).sum ≤ i * 900 ∧ foldS x z2 len (ps.drop i) e (Txt.join "" got) = foldS x z2 len ps 0 "") ?_ ?_ ?_ ?_
    · exact ⟨_, _, _, _, 0, [], rfl, s0, upd_same, rfl, Nat.zero_le _, rfl⟩
    · rintro i σ H2 _ ⟨o4, o5, o6, o7, e, got, rfl, s2, _⟩
      exact SqL.of (s2 _ _ hl)
    · rintro i v σ H2 hv ⟨o4, o5, o6, o7, e, got, rfl, s2, hg, gl, gs, ge⟩
      obtain ⟨p, hpp, t, rfl, ht0⟩ := paired_at rw0 hv
      have il : i < xs.length := (List.getElem?_eq_some_iff.mp hv).1
      rw [drop_at hpp, foldS_cons] at ge
      have ht := s2 _ _ ht0
      have xl : x.length ≤ sizeLine := by rw [sizeLine_eq]; omega
      refine ⟨_, rfl, 3, rfl, t, _, rfl, SqT.of ht, nowhole, fun tc htc => ?_⟩
      rw [show cutV (putV z2 len p) none (some 3) = [.int (p : Nat), .int (p + len : Nat), .str z2] from rfl]
      have sc := same_new (o := .tup [.int (p : Nat), .int (p + len : Nat), .str z2]) htc
      have hg := sc _ _ hg
      have s2 := s2.trans sc
      refine ⟨tc, _, rfl, SqT.of upd_same, rfl, _, _, rfl, _, _, rfl, _, _, rfl, rfl, ?_⟩
      generalize upd H2 tc (.tup [.int (p : Nat), .int (p + len : Nat), .str z2]) = H2 at hg s2
      refine ⟨_, rfl, .inl ⟨rfl, _, SqL.of hg⟩, _, rfl, _, rfl, _, rfl, _, rfl, _, rfl, x, rfl, xl, lo, _, _, rfl, rfl, hg, few_lt2 (by unfold texs; rw [List.length_map]; omega), ?_⟩
      refine ⟨_, rfl, .inl ⟨rfl, _, SqL.of upd_same⟩, _, rfl, lo, _, _, rfl, rfl, upd_same, few_lt2 (by unfold texs; rw [List.length_append, List.length_map, List.length_singleton]; omega), ?_⟩
      rw [upd_twice3]
      refine ⟨_, rfl, _, _, _, _, p + len, got ++ [cutS x (some (e : Int)) (some (p : Int))] ++ [z2], rfl, fun b o h2 => ?_, ?_, ?_, ?_, ?_⟩
      · rw [upd_ne (ne_of_none h2 hlo)]
        exact s2 _ _ h2
      · rw [upd_same]
        unfold texs
        rw [List.map_append, List.map_append]
        rfl
      · rw [List.length_append, List.length_append, gl]
        simp only [List.length_singleton]
        omega
      · have := cutS_len x (some (e : Int)) (some (p : Int))
        simp only [List.map_append, List.map_cons, List.map_nil, List.sum_append, List.sum_cons, List.sum_nil]
        omega
      · rw [join_snoc, join_snoc]
        exact ge
    · rintro σ H2 ⟨o4, o5, o6, o7, e, got, rfl, s2, hg, gl, gs, ge⟩
      rw [List.drop_of_length_le (by omega), foldS_nil] at ge
      have xl : x.length ≤ sizeLine := by rw [sizeLine_eq]; omega
      refine ⟨_, rfl, .inl ⟨rfl, _, SqL.of hg⟩, _, rfl, _, rfl, _, rfl, x, rfl, xl, lo, _, _, rfl, rfl, hg, few_lt2 (by unfold texs; rw [List.length_map]; omega), ?_⟩
      have cl := cutS_len x (some (e : Int)) none
      refine ⟨⟨_, rfl⟩, _, rfl, "", lo, got ++ [cutS x (some (e : Int)) none], rfl, rfl, .inl (SqL.of ?_), ?_, ?_⟩
      · rw [upd_same]
        unfold texs
        rw [List.map_append]
        rfl
      · have e0 : (Str.ofString "").length = 0 := by decide +kernel
        rw [e0]
        simp only [List.map_append, List.map_cons, List.map_nil, List.sum_append, List.sum_cons, List.sum_nil]
        omega
      · rw [join_snoc, ge]
        refine k _ fun b o h2 => ?_
        rw [upd_ne (ne_of_none h2 hlo)]
        exact s2 _ _ h2

abbrev s_puts_of : Stmt := top 35
theorem sc_puts_of : FnScope ["edit", "index", "text"] ["edit", "index", "text"] (defScope s_puts_of) := ⟨rfl, rfl, rfl, by decide +kernel, rfl, by decide +kernel, by decide +kernel⟩
theorem b_puts_of {f : Addr} {fd : FuncData} (F : Fun K "puts_of" "puts_of" s_puts_of f fd) (T : Txt mg) (c_puts_of_one : CalG P w K mg base (L2.CX P w) 3 "puts_of_one" (spPuts (cls4 C_Once C_First C_Perhaps C_Every) C_NoPlace)) (n_AtOnce : mg "AtOnce" = some (.ref C_AtOnce)) (ed : ∀ n, n < 4 → EdF K (cls4 C_Once C_First C_Perhaps C_Every n)) (kit : ∀ i j, i < 4 → j < 4 → PySem.W.kitOne K (.ref (cls4 C_Once C_First C_Perhaps C_Every i)) (.ref (cls4 C_Once C_First C_Perhaps C_Every j)) = some (i == j)) (kA : ∀ n, n < 4 → PySem.W.kitOne K (.ref (cls4 C_Once C_First C_Perhaps C_Every n)) (.ref C_AtOnce) = some false) : FnG P w K mg base (L2.CX P w) 4 f fd ["edit", "index", "text"] (spPuts (cls4 C_Once C_First C_Perhaps C_Every) C_NoPlace) := by
  refine okG F sc_puts_of (fun vs H Q E h => ?_) (fun cdv A outer s H vs Q E hg hr h => ?_)
  · obtain ⟨n, a, dx, z1, z2, i, x, rfl, _⟩ := h
    rfl
  · have hu := hu_of hr
    have hu64 := hr.units
    obtain ⟨n, a, dx, z1, z2, i, x, rfl, hn, ha, hx, hz, k1, k2⟩ := h
    refine ⟨_, (pss_cons (ps_if (pt_val (pe_callB call_isi (by rfl) T.isinstance (by decide +kernel) (pa_cons (pv 0) (pa_cons (pe_glob (v := .ref C_AtOnce) (by rfl) n_AtOnce rfl) pa_nil)))) (pss_one ps_never) pss_nil)
      (pss_one (ps_ret (pe_cG c_puts_of_one hg hr (by decide) (passes_call (takes_of rfl rfl rfl rfl) (fun _ _ _ _ h => h)) (pa_cons (pv 0) (pa_cons (pv 1) (pa_cons (pv 2) pa_nil))))))), ?_⟩
    refine ⟨_, rfl, .ref a, .ref C_AtOnce, _, .ref C_AtOnce, false, rfl, .own _, (ed n hn).ty ha, kA n hn, _, rfl, iteF ?_⟩
    exact ⟨_, rfl, _, rfl, _, rfl, n, a, dx, z1, z2, i, x, rfl, hn, ha, hx, hz, k1, k2⟩

end
end Vk
set_option Elab.async false
set_option maxRecDepth 100000
set_option linter.all false
set_option maxHeartbeats 4000000
namespace Vk
open PySem PySem.Spec PyProof.Rows L2
/-! ## the ways of edits: a model -/
theorem at_lists {x w : Str} {i : Nat} : atB x w i = true ↔ i + w.length ≤ x.length ∧ (x.cps.toList.drop i).take w.length = w.cps.toList := by
  unfold atB
  rw [StrLaws.subAt_eq, Bool.and_eq_true, decide_eq_true_eq, beq_iff_eq]
theorem plc_mem {x w : Str} {i : Nat} : i ∈ plc x w ↔ atB x w i = true := by
  unfold plc
  rw [List.mem_filter, List.mem_range]
  refine ⟨fun h => h.2, fun h => ⟨?_, h⟩⟩
  have := (at_lists.mp h).1
  omega
theorem nodup_le : ∀ {l m : List Nat}, l.Nodup → (∀ a ∈ l, a ∈ m) → l.length ≤ m.length
  | [], m, _, _ => Nat.zero_le _
  | a :: l, m, nd, h => by
    obtain ⟨n1, n2⟩ := List.nodup_cons.mp nd
    have ha := h a List.mem_cons_self
    have := nodup_le (m := m.erase a) n2 fun b hb => (List.mem_erase_of_ne (show b ≠ a from fun e => n1 (by rw [← e]; exact hb))).mpr (h b (List.mem_cons_of_mem _ hb))
    rw [List.length_erase_of_mem ha] at this
    have : 0 < m.length := List.length_pos_of_mem ha
    rw [List.length_cons]
    omega
abbrev WS := List Nat × Str × List (Option Nat)
def putS (x : Str) (p len : Nat) (f : Str) : Str := foldS x f len [p] 0 ""
theorem str_eq {x y : Str} (h : x.cps.toList = y.cps.toList) : x = y := Str.ext' (Array.toList_inj.mp h)
theorem str_len {x : Str} : x.cps.toList.length = x.length := Array.length_toList
theorem putS_list {x f : Str} {p len : Nat} (h : p + len ≤ x.length) : (putS x p len f).cps.toList = x.cps.toList.take p ++ f.cps.toList ++ x.cps.toList.drop (p + len) := by
  unfold putS
  rw [foldS_cons, foldS_nil, cut_ab (x := x) (by omega) (by omega), app_list, app_list, app_list, cut_from, Nat.sub_zero]
  rfl
theorem putS_len {x f : Str} {p len : Nat} (h : p + len ≤ x.length) : (putS x p len f).length + len = x.length + f.length := by
  rw [← str_len, putS_list h, List.length_append, List.length_append, List.length_take, List.length_drop, str_len, str_len]
  omega
theorem putS_law {x f : Str} {p len : Nat} (h : p + len ≤ x.length) : cutS x none (some (p : Int)) ++ f ++ cutS x (some ((p + len : Nat) : Int)) none = putS x p len f := by
  refine str_eq ?_
  rw [putS_list h, app_list, app_list, cut_to, cut_from]
def stepW (ps : List (Str × Str)) (s : WS) (k : Nat) : Option WS :=
  match ps[k]? with
  | none => none
  | some q => if k ∈ s.1 then none else match plc s.2.1 q.1 with
    | [p] => some (s.1 ++ [k], putS s.2.1 p q.1.length q.2, s.2.2.take p ++ List.replicate q.2.length none ++ s.2.2.drop (p + q.1.length))
    | _ => none
def nextW (ps : List (Str × Str)) (L : List WS) : List WS := L.flatMap fun s => (List.range ps.length).filterMap (stepW ps s)
def allW (ps : List (Str × Str)) : Nat → List WS → List WS
  | 0, _ => []
  | f + 1, L => L ++ allW ps f (nextW ps L)
theorem allW_nil {ps : List (Str × Str)} : ∀ {f : Nat}, allW ps f [] = []
  | 0 => rfl
  | f + 1 => by
    show [] ++ allW ps f (nextW ps []) = []
    rw [List.nil_append, show nextW ps [] = [] from rfl, allW_nil]
def startW (x : Str) : WS := ([], x, (List.range x.length).map some)
def allR (ps : List (Str × Str)) (x : Str) : List WS := allW ps (ps.length + 1) [startW x]
structure GoodW (ps : List (Str × Str)) (B m : Nat) (s : WS) : Prop where
  len : s.1.length = m
  nd : s.1.Nodup
  lt : ∀ k ∈ s.1, k < ps.length
  tl : s.2.1.length ≤ B + 3 * m
  ml : s.2.2.length = s.2.1.length
def PsOk (ps : List (Str × Str)) : Prop := ∀ q ∈ ps, 1 ≤ q.1.length ∧ q.1.length ≤ 3 ∧ q.2.length ≤ 3
theorem step_some {ps : List (Str × Str)} {s s' : WS} {k : Nat} (h : stepW ps s k = some s') : ∃ q p, ps[k]? = some q ∧ k ∉ s.1 ∧ plc s.2.1 q.1 = [p] ∧ p + q.1.length ≤ s.2.1.length ∧ s' = (s.1 ++ [k], putS s.2.1 p q.1.length q.2, s.2.2.take p ++ List.replicate q.2.length none ++ s.2.2.drop (p + q.1.length)) := by
  unfold stepW at h
  split at h
  · cases h
  · rename_i q hq
    split at h
    · cases h
    · rename_i hk
      split at h
      · rename_i p hp
        have m : p ∈ plc s.2.1 q.1 := by rw [hp]; exact List.mem_cons_self
        exact ⟨q, p, hq, hk, hp, (at_lists.mp (plc_mem.mp m)).1, (Option.some.inj h).symm⟩
      · cases h
theorem GoodW.step {ps : List (Str × Str)} {B m k : Nat} {s s' : WS} (ok : PsOk ps) (g : GoodW ps B m s) (h : stepW ps s k = some s') : GoodW ps B (m + 1) s' := by
  obtain ⟨q, p, hq, hk, hp, hl, rfl⟩ := step_some h
  obtain ⟨o1, o2, o3⟩ := ok q (List.mem_of_getElem? hq)
  have kl := (List.getElem?_eq_some_iff.mp hq).1
  have pl := putS_len (f := q.2) hl
  refine ⟨?_, ?_, ?_, ?_, ?_⟩
  · show (s.1 ++ [k]).length = m + 1
    rw [List.length_append, g.len]
    rfl
  · show (s.1 ++ [k]).Nodup
    rw [List.nodup_append]
    refine ⟨g.nd, List.pairwise_singleton _ _, fun a ha b hb e => ?_⟩
    rw [List.mem_singleton.mp hb] at e
    exact hk (e ▸ ha)
  · show ∀ j ∈ s.1 ++ [k], j < ps.length
    intro j hj
    rcases List.mem_append.mp hj with h | h
    · exact g.lt j h
    · rw [List.mem_singleton.mp h]
      exact kl
  · show (putS s.2.1 p q.1.length q.2).length ≤ B + 3 * (m + 1)
    have := g.tl
    omega
  · show (s.2.2.take p ++ List.replicate q.2.length none ++ s.2.2.drop (p + q.1.length)).length = (putS s.2.1 p q.1.length q.2).length
    rw [List.length_append, List.length_append, List.length_take, List.length_drop, List.length_replicate, g.ml]
    omega
def GoodL (ps : List (Str × Str)) (B m : Nat) (L : List WS) : Prop := ∀ s ∈ L, GoodW ps B m s
theorem GoodL.next {ps : List (Str × Str)} {B m : Nat} {L : List WS} (ok : PsOk ps) (g : GoodL ps B m L) : GoodL ps B (m + 1) (nextW ps L) := fun s' hs' => by
  obtain ⟨s, hs, h⟩ := List.mem_flatMap.mp hs'
  obtain ⟨k, _, hk⟩ := List.mem_filterMap.mp h
  exact (g s hs).step ok hk
theorem GoodW.le {ps : List (Str × Str)} {B m : Nat} {s : WS} (g : GoodW ps B m s) : m ≤ ps.length := by
  have := nodup_le (m := List.range ps.length) g.nd fun k hk => List.mem_range.mpr (g.lt k hk)
  rw [List.length_range, g.len] at this
  exact this
theorem good_start {ps : List (Str × Str)} {x : Str} {B : Nat} (h : x.length ≤ B) : GoodL ps B 0 [startW x] := fun s hs => by
  rw [List.mem_singleton.mp hs]
  refine ⟨rfl, List.nodup_nil, (fun k hk => nomatch hk), (show x.length ≤ B + 3 * 0 by omega), ?_⟩
  show ((List.range x.length).map some).length = x.length
  rw [List.length_map, List.length_range]
theorem flat_len {α β : Type} (f : α → List β) (n : Nat) : ∀ {L : List α}, (∀ a ∈ L, (f a).length ≤ n) → (L.flatMap f).length ≤ L.length * n
  | [], _ => by simp
  | a :: L, h => by
    have := flat_len f n (L := L) fun b hb => h b (List.mem_cons_of_mem _ hb)
    have := h a List.mem_cons_self
    rw [List.flatMap_cons, List.length_append, List.length_cons, Nat.succ_mul]
    omega
theorem next_len {ps : List (Str × Str)} {L : List WS} : (nextW ps L).length ≤ L.length * ps.length :=
  flat_len _ _ fun s _ => Nat.le_trans (List.length_filterMap_le _ _) (by rw [List.length_range]; exact Nat.le_refl _)
/-- all ways, one by one -/
theorem allW_good {ps : List (Str × Str)} {B : Nat} (ok : PsOk ps) : ∀ {f m : Nat} {L : List WS}, GoodL ps B m L → ∀ s ∈ allW ps f L, ∃ m', m' ≤ ps.length ∧ GoodW ps B m' s
  | 0, _, _, _, s, hs => by cases hs
  | f + 1, m, L, g, s, hs => by
    rcases List.mem_append.mp hs with h | h
    · exact ⟨m, (g s h).le, g s h⟩
    · exact allW_good ok (g.next ok) s h
theorem allR_good {ps : List (Str × Str)} {x : Str} (ok : PsOk ps) : ∀ s ∈ allR ps x, ∃ m, m ≤ ps.length ∧ GoodW ps x.length m s := fun s hs => allW_good ok (good_start (Nat.le_refl _)) s hs
end Vk
set_option Elab.async false
set_option maxRecDepth 100000
set_option maxHeartbeats 4000000
set_option linter.all false
namespace Vk
open PySem PySem.Spec PyProof.Rows L2
/-! ## for i, c in enumerate(x), x a text -/
/-! ## loops over these -/
theorem for_enumL {K : PySem.W.Frag} {a : Addr} {xs : List V} {g : TG} {tb : TS} {D : Ends} {σ : L2.St} {H : Hp} (Pv : Nat → L2.St → Hp → Prop) (h0 : Pv 0 σ H) (hl : ∀ i σ H, i ≤ xs.length → Pv i σ H → SqL K H a xs)
    (hs : ∀ i v σ H T, xs[i]? = some v → H T = none → Pv i σ H → g (.ref T) σ (upd H T (.tup [.int (i : Nat), v])) fun σ2 H2 => tb { D with nx := Pv (i + 1), ct := Pv (i + 1), bk := D.nx } σ2 H2) (hd : ∀ σ H, Pv xs.length σ H → D.nx σ H) :
    ∃ W : Nat → Nat → L2.St → Hp → Prop, (∃ m, W 0 m σ H) ∧ ∀ i m σ H, W i m σ H →
      ((Ite K a).stop i H ∧ D.nx σ H) ∨ ((Ite K a).go i H ∧ ∃ N : L2.St → Hp → Prop, (∀ σ' H', N σ' H' → ∃ m', m' < m ∧ W (i + 1) m' σ' H') ∧ ∀ x1 H', (Ite K a).yld i H x1 H' → g x1 σ H' fun σ2 H2 => tb { D with nx := N, ct := N, bk := D.nx } σ2 H2) := by
  refine ⟨fun i m σ H => m = xs.length - i ∧ i ≤ xs.length ∧ Pv i σ H, ⟨xs.length, by simp, Nat.zero_le _, h0⟩, ?_⟩
  rintro i m σ H ⟨rfl, hi, p⟩
  have q := hl i σ H hi p
  by_cases hlt : i < xs.length
  · refine .inr ⟨⟨xs, xs[i], q, by simp [hlt]⟩, Pv (i + 1), fun σ' H' p' => ⟨xs.length - (i + 1), by omega, rfl, hlt, p'⟩, ?_⟩
    rintro x1 H' ⟨T, v, rfl, hT, rfl, hv⟩
    exact hs i v σ H T (hv xs q) hT p
  · have e : i = xs.length := by omega
    subst e
    exact .inl ⟨⟨xs, q, Nat.le_refl _⟩, hd σ H p⟩
end Vk
set_option Elab.async false
set_option maxRecDepth 100000
set_option linter.all false
set_option maxHeartbeats 4000000
namespace Vk
open PySem PySem.Spec PyProof.Rows L2
/-! ## an iteration of one of two kinds; enumerate over a tuple -/
def iOr (a b : TI) : TI := fun σ H R => a σ H R ∨ b σ H R
theorem pi_or {X : Cx} {tg e : Expr} {a b : TI} (h1 : PI X tg e a) (h2 : PI X tg e b) : PI X tg e (iOr a b) :=
  ⟨fun pins s σ H R I h => h.elim (h1.run pins s σ H R I) (h2.run pins s σ H R I)⟩
theorem for_enumT {a : Addr} {xs : List V} {g : TG} {tb : TS} {D : Ends} {σ : L2.St} {H : Hp} (Pv : Nat → L2.St → Hp → Prop) (h0 : Pv 0 σ H) (hl : ∀ i σ H, i ≤ xs.length → Pv i σ H → H a = some (.tup xs))
    (hs : ∀ i v σ H T, xs[i]? = some v → H T = none → Pv i σ H → g (.ref T) σ (upd H T (.tup [.int (i : Nat), v])) fun σ2 H2 => tb { D with nx := Pv (i + 1), ct := Pv (i + 1), bk := D.nx } σ2 H2) (hd : ∀ σ H, Pv xs.length σ H → D.nx σ H) :
    ∃ W : Nat → Nat → L2.St → Hp → Prop, (∃ m, W 0 m σ H) ∧ ∀ i m σ H, W i m σ H →
      ((Itet a).stop i H ∧ D.nx σ H) ∨ ((Itet a).go i H ∧ ∃ N : L2.St → Hp → Prop, (∀ σ' H', N σ' H' → ∃ m', m' < m ∧ W (i + 1) m' σ' H') ∧ ∀ x1 H', (Itet a).yld i H x1 H' → g x1 σ H' fun σ2 H2 => tb { D with nx := N, ct := N, bk := D.nx } σ2 H2) := by
  refine ⟨fun i m σ H => m = xs.length - i ∧ i ≤ xs.length ∧ Pv i σ H, ⟨xs.length, by simp, Nat.zero_le _, h0⟩, ?_⟩
  rintro i m σ H ⟨rfl, hi, p⟩
  have q := hl i σ H hi p
  by_cases hlt : i < xs.length
  · refine .inr ⟨⟨xs, xs[i], q, by simp [hlt]⟩, Pv (i + 1), fun σ' H' p' => ⟨xs.length - (i + 1), by omega, rfl, hlt, p'⟩, ?_⟩
    rintro x1 H' ⟨T, v, xs', rfl, hT, rfl, hq, hv⟩
    rw [q] at hq
    cases hq
    exact hs i v σ H T hv hT p
  · have e : i = xs.length := by omega
    subst e
    exact .inl ⟨⟨xs, q, rfl⟩, hd σ H p⟩
end Vk
set_option Elab.async false
set_option maxRecDepth 100000
set_option maxHeartbeats 4000000
set_option linter.all false
namespace Vk
open PySem PySem.Spec PyProof.Rows L2
/-! ## {k: v for x in l}, l a list that stays -/
theorem dc_list {K : PySem.W.Frag} {a : Addr} {xs : List V} {g : TG} {tt : TT} {tk tv : TE} {vs : List Nat} {σ : L2.St} {H1 : Hp} {D : Addr} {Qd : Hp → Prop} (Pv : Nat → Hp → Prop) (h0 : Pv 0 (upd H1 D (.dK []))) (hl : ∀ i H, i ≤ xs.length → Pv i H → SqL K H a xs)
    (hs : ∀ i x H, xs[i]? = some x → Pv i H → g x (wipe σ vs) H fun σ2 H2 => wipe σ2 vs = wipe σ vs ∧ tt σ2 H2 fun b H3 =>
      if b = true then tk σ2 H3 fun y H4 => tv σ2 H4 fun z H5 => ∃ kvs k, y = kV k ∧ H5 D = some (.dK kvs) ∧ kvs.length < sizeLine ∧ Pv (i + 1) (upd H5 D (.dK (putK kvs k z))) else Pv (i + 1) H3) (hd : ∀ H, Pv xs.length H → Qd H) :
    ∃ W : Nat → Nat → Hp → Prop, (∃ m, W 0 m (upd H1 D (.dK []))) ∧ ∀ i m H, W i m H →
      ((Itl K a).stop i H ∧ Qd H) ∨ ((Itl K a).go i H ∧ ∃ Nx : Hp → Prop, (∀ H', Nx H' → ∃ m', m' < m ∧ W (i + 1) m' H') ∧ ∀ x H', (Itl K a).yld i H x H' → g x (wipe σ vs) H' fun σ2 H2 => wipe σ2 vs = wipe σ vs ∧ tt σ2 H2 fun b H3 =>
        if b = true then tk σ2 H3 fun y H4 => tv σ2 H4 fun z H5 => ∃ kvs k, y = kV k ∧ H5 D = some (.dK kvs) ∧ kvs.length < sizeLine ∧ Nx (upd H5 D (.dK (putK kvs k z))) else Nx H3) := by
  refine ⟨fun i m H => m = xs.length - i ∧ i ≤ xs.length ∧ Pv i H, ⟨xs.length, by simp, Nat.zero_le _, h0⟩, ?_⟩
  rintro i m H ⟨rfl, hi, p⟩
  have q := hl i H hi p
  by_cases hlt : i < xs.length
  · refine .inr ⟨⟨xs, xs[i], q, by simp [hlt]⟩, Pv (i + 1), fun H' p' => ⟨xs.length - (i + 1), by omega, rfl, hlt, p'⟩, fun x H' y => ?_⟩
    obtain ⟨e, y⟩ := y
    subst e
    exact hs i x _ (y xs q) p
  · have e : i = xs.length := by omega
    subst e
    exact .inl ⟨⟨xs, q, Nat.le_refl _⟩, hd H p⟩
theorem for_rangeC {lo c : Int} {n : Nat} {g : TG} {tb : TS} {D : Ends} {σ : L2.St} {H : Hp} (Pv : Nat → L2.St → Hp → Prop) (h0 : Pv 0 σ H)
    (hs : ∀ i σ H, i < n → Pv i σ H → g (.int (lo + (i : Nat) * c)) σ H fun σ2 H2 => tb { D with nx := Pv (i + 1), ct := Pv (i + 1), bk := D.nx } σ2 H2) (hd : ∀ σ H, Pv n σ H → D.nx σ H) :
    ∃ W : Nat → Nat → L2.St → Hp → Prop, (∃ m, W 0 m σ H) ∧ ∀ i m σ H, W i m σ H →
      ((Itc lo c n).stop i H ∧ D.nx σ H) ∨ ((Itc lo c n).go i H ∧ ∃ N : L2.St → Hp → Prop, (∀ σ' H', N σ' H' → ∃ m', m' < m ∧ W (i + 1) m' σ' H') ∧ ∀ x1 H', (Itc lo c n).yld i H x1 H' → g x1 σ H' fun σ2 H2 => tb { D with nx := N, ct := N, bk := D.nx } σ2 H2) := by
  refine ⟨fun i m σ H => m = n - i ∧ i ≤ n ∧ Pv i σ H, ⟨n, by simp, Nat.zero_le _, h0⟩, ?_⟩
  rintro i m σ H ⟨rfl, hi, p⟩
  by_cases hlt : i < n
  · refine .inr ⟨hlt, Pv (i + 1), fun σ' H' p' => ⟨n - (i + 1), by omega, rfl, hlt, p'⟩, ?_⟩
    rintro x1 H' ⟨rfl, rfl⟩
    exact hs i σ _ hlt p
  · have e : i = n := by omega
    subst e
    exact .inl ⟨Nat.le_refl _, hd σ H p⟩
/-- name = {..} on one line, the name a local -/
theorem ps_setDc {X : Cx} {i : Nat} {y : Str} {py : Pos} {kx vx tg iter : Expr} {ifs : List Expr} {scope : Scope} {own : List (Str × Nat)} {pos spos : Pos} {wi : TI} {g : TG} {tt : TT} {tk tv : TE} (hc : X.calm = true) (hN : X.N.Nodup) (hy : X.N[i]? = some y) (hyl : X.env.scope.names.lookup y = some .local)
    (hsw : swapsWith (.DictComp kx vx [⟨tg, iter, ifs, 0⟩] scope pos) (some (.Name y py)) spos.line X.env = pure true) (hi : PI X tg iter wi) (ok : BlkOk X.N X.env.scope scope own)
    (hg : ∀ (s : Shared) (H : Hp) (C : Addr) (cl : List (Str × Addr)) (fp : List Addr), PG (X.blk s H scope (compEnvC scope cl C X.env) fp) tg g) (ht : ∀ (s : Shared) (H : Hp) (C : Addr) (cl : List (Str × Addr)) (fp : List Addr), PTs (X.blk s H scope (compEnvC scope cl C X.env) fp) ifs tt)
    (hk : ∀ (s : Shared) (H : Hp) (C : Addr) (cl : List (Str × Addr)) (fp : List Addr), PE (X.blk s H scope (compEnvC scope cl C X.env) fp) kx tk)
    (he : ∀ (s : Shared) (H : Hp) (C : Addr) (cl : List (Str × Addr)) (fp : List Addr), PE (X.blk s H scope (compEnvC scope cl C X.env) fp) vx tv) (hs : ∀ x, foldedSetIterable iter X.env x = pure x := by intro _; rfl) :
    PS X (.Assign [.Name y py] (.DictComp kx vx [⟨tg, iter, ifs, 0⟩] scope pos) spos) (tAsg (tDc wi g tt tk tv (own.map (·.2))) (gName i)) := by
  refine ⟨fun pins s σ H D I h => ?_⟩
  rw [exec_Assign_Name_used _ _ _ _ hsw]
  refine wpAny_bind (wpAny_standAt (wpAny_bind ?_))
  show wpAny _ X.A (do let _ ← comprehension (.DictComp kx vx [⟨tg, iter, ifs, 0⟩] scope pos) scope X.env (firstIterPos [⟨tg, iter, ifs, 0⟩] pos) newDict false (eval iter X.env) (some (assign (.Name y py) X.env))) _ _ s
  have h : tDc wi g tt tk tv (own.map (·.2)) σ H (fun x H1 => gName i x σ H1 D.nx) := h
  refine wpAny_bind (thn (dc_core (Qf := fun _ s' => SP X pins D .next s') hc hN I hi ok hg ht hk he hs h fun L C s' m H' I' q hn f => ?_) fun _ s' hq => wpAny_pure (wpAny_pure hq))
  show wpAny _ _ (assign (.Name y py) X.env (.ref L)) _ _ _
  refine wpAny_assign_Name (store_ok2 (v := V.ref L) I' hN hy (.inl hyl) rfl (fun s2 I2 ⟨a, sb, ha⟩ => ?_) (.inr hyl))
  obtain ⟨f0, f1, f2, f3, f4, f5⟩ := f
  have haC : C ≠ a := by
    rcases ha with z | z
    · rw [z]; exact f1
    · exact fun e => f4 y a z e.symm
  refine ⟨m, hn.sameBut sb haC, fun h3 sb3 => ?_⟩
  exact ⟨_, H', I2.turned (t' := s2.toks) (fun b o hb e => (sb3.2 b hb).trans e) f0 f1 f3 f4 f5, q⟩
theorem sw_trueD {kx vx : Expr} {gs : List Comprehension} {scope : Scope} {pos py : Pos} {y : Str} {l : Nat} {env : Env} (hk : env.scope.kind = .function) (hy : env.scope.names.lookup y = some .local) (hl : (py.line == pos.line) = true)
    (ha : (scope.names.any fun (n, k) => n == y && (k == .local || k == .cell)) = false) : swapsWith (.DictComp kx vx gs scope pos) (some (.Name y py)) l env = pure true := by
  have ky : env.kindOf y = some .local := hy
  have hb : env.blockKind = .function := by unfold Env.blockKind; rw [hk]; rfl
  unfold swapsWith
  simp only [hb, ky, ha, Expr.pos, hl]
  rfl
theorem call_isiK {X : Cx} {K : PySem.W.Frag} (h : X.K = K) : CallR X (.builtin "isinstance") (rIsi K) := h ▸ call_isi
end Vk
set_option Elab.async false
set_option maxRecDepth 100000
set_option linter.all false
set_option maxHeartbeats 4000000
namespace Vk
open PySem PySem.Spec PyProof.Rows L2
section
variable {P : Program} {w : World} {K : PySem.W.Frag} {mg : Str → Option Value} {base : Heap}
def aroundW (n b k : Nat) : List (Nat × Nat) := (List.range k).flatMap fun i => (List.range' (max b (i + 1)) (n + 1 - max b (i + 1))).map fun e => (i, e)
theorem aroundW_succ {n b k : Nat} : aroundW n b (k + 1) = aroundW n b k ++ (List.range' (max b (k + 1)) (n + 1 - max b (k + 1))).map fun e => (k, e) := by
  unfold aroundW
  rw [List.range_succ, List.flatMap_append]
  simp
theorem aroundW_len {n b : Nat} : ∀ {k : Nat}, (aroundW n b k).length ≤ k * n
  | 0 => by simp [aroundW]
  | k + 1 => by
    have := aroundW_len (n := n) (b := b) (k := k)
    rw [aroundW_succ, List.length_append, List.length_map, List.length_range', Nat.succ_mul]
    omega
theorem aroundW_mem {n b k : Nat} {p : Nat × Nat} (h : p ∈ aroundW n b k) : p.1 < p.2 ∧ p.2 ≤ n ∧ p.1 < k := by
  unfold aroundW at h
  rw [List.mem_flatMap] at h
  obtain ⟨i, hi, h⟩ := h
  obtain ⟨e, he, rfl⟩ := List.mem_map.mp h
  have := List.mem_range'_1.mp he
  exact ⟨by show i < e; omega, by show e ≤ n; omega, List.mem_range.mp hi⟩
def spAround : Sp := fun vs H Q _ => ∃ (x : Str) (a b : Nat), vs = [.str x, .int (a : Nat), .int (b : Nat)] ∧ x.length ≤ 50 ∧ a ≤ x.length ∧ b ≤ x.length ∧ ∀ (l : Addr) xs H', H l = none → H' l = some (.lst xs) → PrN H' xs (aroundW x.length b (a + 1)) → Same H H' → Q (.ref l) H'
abbrev s_lnaround : Stmt := top 62
theorem sc_lnaround : FnScope ["_law_text_here", "_law_a", "_law_b", "_law_found", "_law_k", "_law_tip"] ["_law_text_here", "_law_a", "_law_b"] (defScope s_lnaround) := ⟨rfl, rfl, rfl, by decide +kernel, rfl, by decide +kernel, by decide +kernel⟩
theorem b_lnaround {f : Addr} {fd : FuncData} (F : Fun K "_law_naround" "_law_naround" s_lnaround f fd) (T : Txt mg) : FnG P w K mg base CX0 1 f fd ["_law_text_here", "_law_a", "_law_b"] spAround := by
  refine okG0 F sc_lnaround (fun vs H Q E h => ?_) (fun cdv A outer s H vs Q E hg hr h => ?_)
  · obtain ⟨x, a, b, rfl, _⟩ := h
    rfl
  · have hu := hu_of hr
    have hu64 := hr.units
    obtain ⟨x, a, b, rfl, hx, ha, hb, k⟩ := h
    have xl : x.length ≤ sizeLine := Nat.le_of_lt (fewL (by omega))
    refine ⟨_, (pss_cons (ps_set (i := 3) sc_lnaround.nd rfl (Or.inl rfl) (pe_lst pa_nil))
      (pss_cons (ps_for PassesOwn.never rfl (pi_range1 rfl T.range (pa_cons (pe_op op_add (pv 1) pe_int) pa_nil)) (pg_name (i := 4) sc_lnaround.nd rfl (Or.inr rfl)) (pss_one (ps_expr (pe_bm PySem.F.plainAttrs_list PySem.F.slot_list_extend PySem.F.type_list_extend mt_extend (pv 3) (pa_cons (pe_lc (own := [("_law_tip", 5)]) (g := gName 5) (tt := tYes) rfl sc_lnaround.nd (pi_range2 rfl T.range (pa_cons (pe_callB (call_max2 rfl) (by rfl) T.max (by decide +kernel) (pa_cons (pv 2) (pa_cons (pe_op op_add (pv 4) pe_int) pa_nil))) (pa_cons (pe_op op_add (pe_callB call_len (by rfl) T.len (by decide +kernel) (pa_cons (pv 0) pa_nil)) pe_int) pa_nil))) (blkOk_by (own := [("_law_tip", 5)]) (N := ["_law_text_here", "_law_a", "_law_b", "_law_found", "_law_k", "_law_tip"]) (sc := defScope s_lnaround) (by decide +kernel)) (fun _ _ _ _ _ => (pg_name (i := 5) sc_lnaround.nd rfl (Or.inl rfl))) (fun _ _ _ _ _ => pts_nil) (fun _ _ _ _ _ => (pe_tup (pa_cons (pv 4) (pa_cons (pv 5) pa_nil))))) pa_nil)))))
      (pss_one (ps_ret (pv 3))))), ?_⟩
    refine ⟨by show 0 ≤ sizeLine; decide, fun lr hlr => ?_⟩
    have slr := same_new (o := .lst []) hlr
    refine ⟨_, rfl, _, _, rfl, rfl, _, rfl, by omega, by omega, ?_⟩
    refine for_range (lo := 0) (n := (((a : Nat) : Int) + 1).toNat) (fun q σ H' => ∃ (o4 o5 : Option V) (xs : List V), σ = [some (.str x), some (.int (a : Nat)), some (.int (b : Nat)), some (.ref lr), o4, o5] ∧ H' lr = some (.lst xs) ∧ PrN H' xs (aroundW x.length b q) ∧ Same H H') ?_ ?_ ?_
    · exact ⟨_, _, [], rfl, upd_same, .nil, slr⟩
    · rintro q σ H9 hq ⟨o8, o9, xs, rfl, hl9, tr9, s9⟩
      have gl := paired_len tr9
      have gr := aroundW_len (n := x.length) (b := b) (k := q)
      rw [Int.zero_add]
      refine ⟨_, rfl, .inl ⟨rfl, _, SqL.of hl9⟩, ?_⟩
      refine ⟨_, rfl, _, rfl, _, _, rfl, rfl, _, _, rfl, _, rfl, _, _, rfl, ⟨xl, rfl⟩, _, _, rfl, rfl, _, _, rfl, ?_⟩
      have em : (if ((q : Nat) : Int) + 1 > ((b : Nat) : Int) then ((q : Nat) : Int) + 1 else ((b : Nat) : Int)) = ((max b (q + 1) : Nat) : Int) := by split <;> omega
      rw [em]
      have rs := aroundW_succ (n := x.length) (b := b) (k := q)
      generalize hm : max b (q + 1) = m at rs ⊢
      have hmx : m ≤ x.length + 1 := by omega
      refine ⟨⟨by omega, by omega, by omega, by omega⟩, fun D hD => ?_⟩
      have sD := same_new (o := .lst []) hD
      refine lc_range (lo := (m : Int)) (n := (((x.length : Nat) : Int) + 1 - (m : Int)).toNat) (fun j H' => ∃ us, H' D = some (.lst us) ∧ PrN H' us ((List.range' m j).map fun e => (q, e)) ∧ Same H9 H') ?_ ?_ ?_
      · exact ⟨[], upd_same, .nil, sD⟩
      · rintro j H10 hj ⟨us, hD10, tr10, s10⟩
        have gu := paired_len tr10
        rw [List.length_map, List.length_range'] at gu
        have eb : (m : Int) + (j : Nat) = ((m + j : Nat) : Int) := by omega
        rw [eb]
        refine ⟨rfl, _, rfl, _, rfl, by show 2 ≤ sizeLine; decide, fun u hu => ?_⟩
        have su := same_new (o := .tup [.int ((q : Nat) : Int), .int ((m + j : Nat) : Int)]) hu
        have hDu := su _ _ hD10
        refine ⟨_, hDu, fewL (by omega), us ++ [.ref u], upd_same, ?_, upd_out hD (s10.trans su)⟩
        rw [List.range'_concat, List.map_append, Nat.one_mul]
        exact Paired.snoc ((tr10.keep su).keepT (upd_list hDu)) ⟨u, rfl, upd_list hDu _ _ upd_same⟩
      · rintro H10 ⟨us, hD10, tr10, s10⟩
        have hl10 := s10 _ _ hl9
        have gu := paired_len tr10
        rw [List.length_map, List.length_range'] at gu
        have gq : q * x.length ≤ 50 * 50 := Nat.mul_le_mul (by omega) hx
        refine ⟨lr, D, _, _, rfl, rfl, hl10, hD10, Nat.le_of_lt (fewL (by omega)), ?_⟩
        refine ⟨_, _, xs ++ us, rfl, upd_same, ?_, upd_out hlr (s9.trans s10)⟩
        rw [show (((x.length : Nat) : Int) + 1 - (m : Int)).toNat = x.length + 1 - m by omega] at tr10
        rw [rs]
        have pp : PrN H10 (xs ++ us) _ := paired_app (tr9.keep s10) tr10
        exact pp.keepT (upd_list hl10)
    · rintro σ H9 ⟨o8, o9, xs, rfl, hl9, tr9, s9⟩
      rw [show (((a : Nat) : Int) + 1).toNat = a + 1 by omega] at tr9
      exact ⟨_, rfl, k lr xs H9 hlr hl9 tr9 s9⟩

def innerB (s o : Nat × Nat) : Bool := decide (o ≠ s) && (decide (s.1 ≤ o.1) && decide (o.2 ≤ s.2))
theorem pD_eq (p q : Nat × Nat) : PyData.eqv (pD p) (pD q) = decide (p = q) := by
  obtain ⟨a, b⟩ := p
  obtain ⟨c, d⟩ := q
  show (decide ((a : Int) = (c : Int)) && (decide ((b : Int) = (d : Int)) && true)) = decide ((a, b) = (c, d))
  rw [Bool.and_true, Bool.eq_iff_iff, Bool.and_eq_true, decide_eq_true_eq, decide_eq_true_eq, decide_eq_true_eq, Prod.mk.injEq]
  constructor
  · intro h; exact ⟨by omega, by omega⟩
  · intro h; exact ⟨by omega, by omega⟩
theorem pD_shaped (p : Nat × Nat) : SeqAt.shaped (pD p) = true := by
  obtain ⟨a, b⟩ := p
  rfl
end
end Vk
set_option Elab.async false
set_option maxRecDepth 100000
set_option linter.all false
set_option maxHeartbeats 4000000
namespace Vk
open PySem PySem.Spec PyProof.Rows L2
section
variable {P : Program} {w : World} {K : PySem.W.Frag} {mg : Str → Option Value} {base : Heap}
def spSpot : Sp := fun vs H Q _ => ∃ (p c : Addr) (x : Str) (T : Nat), vs = [.ref p, .str x] ∧ x.length ≤ 100 ∧ Pen H p c T ∧ T + 1000 < 1000000000 ∧
  ∀ (t : Addr) (a b : Int) (H' : Hp), H' t = some (.tup [.int a, .int b]) → 0 ≤ a → a ≤ b → b ≤ x.length → Pen H' p c (T + 10) → Ext p H H' → Q (.ref t) H'
abbrev s_lnspot : Stmt := top 63
theorem sc_lnspot : FnScope ["_law_pen_here", "_law_text_here", "_law_size", "_law_a"] ["_law_pen_here", "_law_text_here"] (defScope s_lnspot) := ⟨rfl, rfl, rfl, by decide +kernel, rfl, by decide +kernel, by decide +kernel⟩
theorem b_lnspot {f : Addr} {fd : FuncData} (F : Fun K "_law_nspot" "_law_nspot" s_lnspot f fd) (T : Txt mg) (c_ldraw : CalG P w K mg base CX0 1 "_law_draw" spDraw) (c_lpick : CalG P w K mg base CX0 2 "_law_pick" (spPick K)) : FnG P w K mg base CX0 3 f fd ["_law_pen_here", "_law_text_here"] spSpot := by
  refine okG0 F sc_lnspot (fun vs H Q E h => ?_) (fun cdv A outer s H vs Q E hg hr h => ?_)
  · obtain ⟨p, pc, x, T0, rfl, _⟩ := h
    rfl
  · have hu := hu_of hr
    have hu64 := hr.units
    obtain ⟨p, pc, x, T0, rfl, hx, hpen, hT, k⟩ := h
    have hr2 : Room 2 _ := hr
    have xl : x.length ≤ sizeLine := Nat.le_of_lt (fewL (by omega))
    refine ⟨_, (pss_cons (ps_set (i := 2) sc_lnspot.nd rfl (Or.inl rfl) (pe_callB call_len (by rfl) T.len (by decide +kernel) (pa_cons (pv 1) pa_nil)))
      (pss_cons (ps_set (i := 3) sc_lnspot.nd rfl (Or.inl rfl) (pe_cG c_lpick hg hr (by decide) pass0 (pa_cons (pv 0) (pa_cons (pe_lst (pa_cons pe_int (pa_cons (pv 2) (pa_cons (pe_cG c_ldraw hg hr (by decide) pass0 (pa_cons (pv 0) (pa_cons (pe_op op_add (pv 2) pe_int) pa_nil))) (pa_cons (pe_cG c_ldraw hg hr (by decide) pass0 (pa_cons (pv 0) (pa_cons (pe_op op_add (pv 2) pe_int) pa_nil))) pa_nil))))) pa_nil))))
      (pss_one (ps_ret (pe_tup (pa_cons (pv 3) (pa_cons (pe_cG c_lpick hg hr (by decide) pass0 (pa_cons (pv 0) (pa_cons (pe_lst (pa_cons (pv 3) (pa_cons (pv 2) (pa_cons (pe_op op_add (pv 3) (pe_cG c_ldraw hg hr (by decide) pass0 (pa_cons (pv 0) (pa_cons (pe_op op_add (pe_op op_sub (pv 2) (pv 3)) pe_int) pa_nil)))) (pa_cons (pe_callB (call_min2 rfl) (by rfl) T.min (by decide +kernel) (pa_cons (pv 2) (pa_cons (pe_op op_add (pv 3) pe_int) pa_nil))) pa_nil))))) pa_nil))) pa_nil))))))), ?_⟩
    refine ⟨_, rfl, _, _, rfl, ⟨xl, rfl⟩, ?_⟩
    refine ⟨_, rfl, _, rfl, _, rfl, _, rfl, _, _, rfl, rfl, p, pc, _, _, rfl, by omega, by omega, hpen, by omega, fun d1 H1 a1 b1 P1 x1 => ?_⟩
    refine ⟨_, rfl, _, rfl, _, _, rfl, rfl, p, pc, _, _, rfl, by omega, by omega, P1, by omega, fun d2 H2 a2 b2 P2 x2 => ?_⟩
    refine ⟨by show 4 ≤ sizeLine; decide, fun b hb => ?_⟩
    have sb := same_new (o := .lst [.int 0, .int (x.length : Nat), .int d1, .int d2]) hb
    have P3 := P2.stay sb
    refine ⟨p, pc, _, _, _, rfl, .lst (SqL.of upd_same), (fun z => by cases z), by show 4 ≤ 1000; decide, P3, by omega, fun v H4 hv P4 x4 => ?_⟩
    have ev : ∃ a : Int, v = .int a ∧ 0 ≤ a ∧ a ≤ x.length := by
      simp only [List.mem_cons, List.not_mem_nil, or_false] at hv
      rcases hv with rfl | rfl | rfl | rfl
      · exact ⟨_, rfl, by omega, by omega⟩
      · exact ⟨_, rfl, by omega, by omega⟩
      · exact ⟨_, rfl, by omega, by omega⟩
      · exact ⟨_, rfl, by omega, by omega⟩
    obtain ⟨a, rfl, ha0, ha1⟩ := ev
    refine ⟨_, rfl, _, rfl, _, rfl, _, rfl, _, rfl, _, rfl, _, rfl, _, rfl, _, _, rfl, rfl, _, _, rfl, rfl, p, pc, _, _, rfl, by omega, by omega, P4, by omega, fun d3 H5 a3 b3 P5 x5 => ?_⟩
    refine ⟨_, _, rfl, rfl, _, rfl, _, rfl, _, _, rfl, rfl, _, _, rfl, ?_⟩
    have mi : a ≤ (if a + 1 < (x.length : Int) then a + 1 else (x.length : Int)) ∧ (if a + 1 < (x.length : Int) then a + 1 else (x.length : Int)) ≤ x.length := by split <;> omega
    generalize (if a + 1 < (x.length : Int) then a + 1 else (x.length : Int)) = mi0 at mi
    refine ⟨by show 4 ≤ sizeLine; decide, fun b2 hb2 => ?_⟩
    have sb2 := same_new (o := .lst [.int a, .int (x.length : Nat), .int (a + d3), .int mi0]) hb2
    have P6 := P5.stay sb2
    refine ⟨p, pc, _, _, _, rfl, .lst (SqL.of upd_same), (fun z => by cases z), by show 4 ≤ 1000; decide, P6, by omega, fun v H7 hv P7 x7 => ?_⟩
    have ev : ∃ c : Int, v = .int c ∧ a ≤ c ∧ c ≤ x.length := by
      simp only [List.mem_cons, List.not_mem_nil, or_false] at hv
      rcases hv with rfl | rfl | rfl | rfl
      · exact ⟨_, rfl, by omega, by omega⟩
      · exact ⟨_, rfl, by omega, by omega⟩
      · exact ⟨_, rfl, by omega, by omega⟩
      · exact ⟨_, rfl, mi.1, mi.2⟩
    obtain ⟨c, rfl, hc0, hc1⟩ := ev
    refine ⟨by show 2 ≤ sizeLine; decide, fun t ht => ?_⟩
    have st := same_new (o := .tup [.int a, .int c]) ht
    exact k t a c _ upd_same ha0 hc0 hc1 ((P7.stay st).mono (by omega)) ((((((x1.trans x2).trans (Ext.same sb)).trans x4).trans x5).trans (Ext.same sb2)).trans (x7.trans (Ext.same st)))

end
end Vk
set_option Elab.async false
set_option maxRecDepth 100000
set_option linter.all false
set_option maxHeartbeats 4000000
namespace Vk
open PySem PySem.Spec PyProof.Rows L2
theorem app2 {α β : Type} {R : α → β → Prop} : ∀ {xs zs : List α} {ys ws : List β}, Paired R xs ys → Paired R zs ws → Paired R (xs ++ zs) (ys ++ ws)
  | _, _, _, _, .nil, h => h
  | _, _, _, _, .cons a t, h => .cons a (app2 t h)
theorem ptake {α β : Type} {R : α → β → Prop} : ∀ (n : Nat) {xs : List α} {ys : List β}, Paired R xs ys → Paired R (xs.take n) (ys.take n)
  | 0, _, _, _ => .nil
  | _ + 1, _, _, .nil => .nil
  | n + 1, _, _, .cons a t => .cons a (ptake n t)
theorem pdrop {α β : Type} {R : α → β → Prop} : ∀ (n : Nat) {xs : List α} {ys : List β}, Paired R xs ys → Paired R (xs.drop n) (ys.drop n)
  | 0, _, _, h => h
  | _ + 1, _, _, .nil => .nil
  | n + 1, _, _, .cons _ t => pdrop n t
theorem cutV_nat {xs : List V} {k b : Nat} (h1 : k ≤ b) (h2 : b ≤ xs.length) : cutV xs (some (k : Int)) (some (b : Int)) = (xs.drop k).take (b - k) := by
  unfold cutV
  rw [HT.sIx_nat, HT.sIx_nat, Nat.min_eq_left (Nat.le_trans h1 h2), Nat.min_eq_left h2]
theorem cutV_tail {xs : List V} {k : Nat} (h : k ≤ xs.length) : cutV xs (some (k : Int)) none = xs.drop k := by
  unfold cutV
  rw [HT.sIx_nat, HT.sIx_none, Nat.min_eq_left h]
  exact List.take_of_length_le (by rw [List.length_drop]; exact Nat.le_refl _)
/-- entries of the program: whole numbers, or tuples -/
def EnP (H : Hp) : List V → List (Option Nat) → Prop := Paired fun v o => (∀ i, o = some i → v = .int (i : Nat)) ∧ (o = none → ∃ u xs, v = .ref u ∧ H u = some (.tup xs))
theorem EnP.keep {H H' : Hp} {es : List V} {L : List (Option Nat)} (h : EnP H es L) (k : ∀ u ws, H u = some (.tup ws) → H' u = some (.tup ws)) : EnP H' es L :=
  pair_mono (fun v o ⟨a, b⟩ => ⟨a, fun e => let ⟨u, xs, e1, e2⟩ := b e; ⟨u, xs, e1, k _ _ e2⟩⟩) h
def natV (k : Nat) : V := .int (k : Nat)
def WayP (A : Addr → Prop) (H : Hp) (v : V) (s : WS) : Prop := ∃ t wt e es, v = .ref t ∧ A e ∧ H t = some (.tup [.ref wt, .str s.2.1, .ref e]) ∧ H wt = some (.tup (s.1.map natV)) ∧ H e = some (.lst es) ∧ EnP H es s.2.2
theorem WayP.mono {A A' : Addr → Prop} {H H' : Hp} {v : V} {s : WS} (h : WayP A H v s) (kt : ∀ u ws, H u = some (.tup ws) → H' u = some (.tup ws)) (kl : ∀ e es, A e → H e = some (.lst es) → A' e ∧ H' e = some (.lst es)) : WayP A' H' v s := by
  obtain ⟨t, wt, e, es, e1, a, h1, h2, h3, h4⟩ := h
  obtain ⟨a', h3'⟩ := kl e es a h3
  exact ⟨t, wt, e, es, e1, a', kt _ _ h1, kt _ _ h2, h3', h4.keep kt⟩
def LayP (A : Addr → Prop) (H : Hp) : List V → List WS → Prop := Paired (WayP A H)
theorem LayP.mono {A A' : Addr → Prop} {H H' : Hp} {xs : List V} {L : List WS} (h : LayP A H xs L) (kt : ∀ u ws, H u = some (.tup ws) → H' u = some (.tup ws)) (kl : ∀ e es, A e → H e = some (.lst es) → A' e ∧ H' e = some (.lst es)) : LayP A' H' xs L :=
  pair_mono (fun _ _ q => WayP.mono q kt kl) h
theorem LayP.keep {A : Addr → Prop} {H H' : Hp} {xs : List V} {L : List WS} (h : LayP A H xs L) (s : Same H H') : LayP A H' xs L := h.mono (fun u ws e => s _ _ e) fun e es a q => ⟨a, s _ _ q⟩
section
variable {P : Program} {w : World} {K : PySem.W.Frag} {mg : Str → Option Value} {base : Heap}
variable {C_Once C_First C_Perhaps C_Every C_AtOnce C_NoPlace : Addr}
def spOB : Sp := fun vs H Q _ => ∃ (le lp t : Addr) (i p len : Nat) (f : Str) (es : List V) (L : List (Option Nat)), vs = [.ref le, .ref lp, .int (i : Nat)] ∧ H le = some (.lst es) ∧ EnP H es L ∧ H lp = some (.lst [.ref t]) ∧ H t = some (.tup (putV f len p)) ∧ p + len ≤ L.length ∧ L.length ≤ 800 ∧ f.length ≤ 100 ∧
  ∀ lb xs H', H lb = none → H' lb = some (.lst xs) → EnP H' xs (L.take p ++ List.replicate f.length none ++ L.drop (p + len)) → Same H H' → Q (.ref lb) H'
abbrev s_origins_behind : Stmt := top 38
theorem sc_origins_behind : FnScope ["entries", "puts", "index", "behind", "kept", "begin", "end", "new", "part", "place"] ["entries", "puts", "index"] (defScope s_origins_behind) := ⟨rfl, rfl, rfl, by decide +kernel, rfl, by decide +kernel, by decide +kernel⟩
theorem b_origins_behind {f : Addr} {fd : FuncData} (F : Fun K "origins_behind" "origins_behind" s_origins_behind f fd) (T : Txt mg) : FnG P w K mg base CX0 1 f fd ["entries", "puts", "index"] spOB := by
  refine okG0 F sc_origins_behind (fun vs H Q E h => ?_) (fun cdv A outer s H vs Q E hg hr h => ?_)
  · obtain ⟨le, lp, t, i, p, len, f, es, L, rfl, _⟩ := h
    rfl
  · have hu := hu_of hr
    have hu64 := hr.units
    obtain ⟨le, lp, t, i0, p, len, nw, es, L, rfl, hle, hL, hlp, ht0, hpl, l8, nl, k⟩ := h
    have esl := paired_len hL
    refine ⟨_, (pss_cons (ps_set (i := 3) sc_origins_behind.nd rfl (Or.inl rfl) (pe_lst pa_nil))
      (pss_cons (ps_set (i := 4) sc_origins_behind.nd rfl (Or.inl rfl) pe_int)
      (pss_cons (ps_for PassesOwn.never rfl (pi_list (pv 1)) (pg_tup rfl (pgs_cons (pg_name (i := 5) sc_origins_behind.nd rfl (Or.inl rfl)) (pgs_cons (pg_name (i := 6) sc_origins_behind.nd rfl (Or.inl rfl)) (pgs_cons (pg_name (i := 7) sc_origins_behind.nd rfl (Or.inl rfl)) (pgs_cons (pg_name (i := 8) sc_origins_behind.nd rfl (Or.inr rfl)) pgs_nil))))) (pss_cons (ps_expr (pe_bm PySem.F.plainAttrs_list PySem.F.slot_list_extend PySem.F.type_list_extend mt_extend (pv 3) (pa_cons (pe_slice sl_list (pv 0) (po_some (pv 4)) (po_some (pv 5))) pa_nil)))
      (pss_cons (ps_expr (pe_bm PySem.F.plainAttrs_list PySem.F.slot_list_extend PySem.F.type_list_extend mt_extend (pv 3) (pa_cons (pe_lc (own := [("place", 9)]) (g := gName 9) (tt := tYes) rfl sc_origins_behind.nd (pi_range1 rfl T.range (pa_cons (pe_callB call_len (by rfl) T.len (by decide +kernel) (pa_cons (pv 7) pa_nil)) pa_nil)) (blkOk_by (own := [("place", 9)]) (N := ["entries", "puts", "index", "behind", "kept", "begin", "end", "new", "part", "place"]) (sc := defScope s_origins_behind) (by decide +kernel)) (fun _ _ _ _ _ => (pg_name (i := 9) sc_origins_behind.nd rfl (Or.inl rfl))) (fun _ _ _ _ _ => pts_nil) (fun _ _ _ _ _ => (pe_tup (pa_cons (pv 2) (pa_cons (pv 8) (pa_cons (pv 9) pa_nil)))))) pa_nil)))
      (pss_one (ps_set (i := 4) sc_origins_behind.nd rfl (Or.inl rfl) (pv 6))))))
      (pss_cons (ps_expr (pe_bm PySem.F.plainAttrs_list PySem.F.slot_list_extend PySem.F.type_list_extend mt_extend (pv 3) (pa_cons (pe_slice sl_list (pv 0) (po_some (pv 4)) po_none) pa_nil)))
      (pss_one (ps_ret (pv 3))))))), ?_⟩
    refine ⟨few_len (Nat.zero_le _), fun lo hlo => ?_⟩
    have s0 := same_new (o := .lst []) hlo
    refine ⟨_, rfl, lp, rfl, ⟨_, SqL.of (s0 _ _ hlp)⟩, ?_⟩
    refine for_list (xs := [.ref t]) (fun j σ H2 => ∃ (o5 o6 o7 o8 o9 : Option V) (e : Nat) (xs : List V) (acc : List (Option Nat)), σ = [some (.ref le), some (.ref lp), some (.int (i0 : Nat)), some (.ref lo), some (.int (e : Nat)), o5, o6, o7, o8, o9] ∧ Same H H2 ∧ H2 lo = some (.lst xs) ∧ EnP H2 xs acc ∧ ((j = 0 ∧ e = 0 ∧ xs = [] ∧ acc = []) ∨ (j = 1 ∧ e = p + len ∧ acc = L.take p ++ List.replicate nw.length none))) ?_ ?_ ?_ ?_
    · exact ⟨_, _, _, _, _, 0, [], [], rfl, s0, upd_same, .nil, .inl ⟨rfl, rfl, rfl, rfl⟩⟩
    · rintro j σ H2 _ ⟨o5, o6, o7, o8, o9, e, xs, acc, rfl, s2, _⟩
      exact SqL.of (s2 _ _ hlp)
    · rintro j v σ H2 hv ⟨o5, o6, o7, o8, o9, e, xs, acc, rfl, s2, hg, hacc, st⟩
      have j0 : j = 0 := by
        have := (List.getElem?_eq_some_iff.mp hv).1
        have : j < 1 := this
        omega
      subst j0
      have ev : v = .ref t := (Option.some.inj hv).symm
      subst ev
      obtain ⟨_, rfl, rfl, rfl⟩ : (0 : Nat) = 0 ∧ e = 0 ∧ xs = [] ∧ acc = [] := by
        rcases st with h | ⟨h, _⟩
        · exact h
        · cases h
      have ht := s2 _ _ ht0
      have hes := s2 _ _ hle
      refine ⟨t, _, rfl, SqT.of ht, rfl, _, _, rfl, _, _, rfl, _, _, rfl, _, _, rfl, rfl, ?_⟩
      have rbl : p ≤ es.length := by omega
      refine ⟨_, rfl, .inl ⟨rfl, _, SqL.of hg⟩, _, rfl, _, rfl, _, rfl, _, rfl, _, rfl, le, es, rfl, SqL.of hes, fun D hD => ?_⟩
      rw [cutV_nat (Nat.zero_le _) rbl]
      have sD := same_new (o := .lst ((es.drop 0).take (p - 0))) hD
      have pl : ((es.drop 0).take (p - 0)).length ≤ 800 := by
        rw [List.length_take, List.length_drop]
        omega
      refine ⟨lo, D, [], _, rfl, rfl, sD _ _ hg, upd_same, by rw [sizeLine_eq, List.length_nil]; omega, ?_⟩
      have s4 : Same H (upd (upd H2 D (.lst ((es.drop 0).take (p - 0)))) lo (.lst ([] ++ (es.drop 0).take (p - 0)))) := fun b o h => by
        rw [upd_ne (ne_of_none h hlo)]
        exact sD _ _ (s2 _ _ h)
      have u4 : ∀ u ws, H2 u = some (.tup ws) → (upd (upd H2 D (.lst ((es.drop 0).take (p - 0)))) lo (.lst ([] ++ (es.drop 0).take (p - 0)))) u = some (.tup ws) := fun u ws h => by
        rw [upd_ne (fun z => by rw [z, hg] at h; cases h)]
        exact sD _ _ h
      have g4 : (upd (upd H2 D (.lst ((es.drop 0).take (p - 0)))) lo (.lst ([] ++ (es.drop 0).take (p - 0)))) lo = some (.lst ([] ++ (es.drop 0).take (p - 0))) := upd_same
      have a4 : EnP (upd (upd H2 D (.lst ((es.drop 0).take (p - 0)))) lo (.lst ([] ++ (es.drop 0).take (p - 0)))) ([] ++ (es.drop 0).take (p - 0)) (L.take p) := ptake p (hL.keep fun u ws h => s4 _ _ h)
      clear hg hacc hes ht sD
      generalize upd (upd H2 D (.lst ((es.drop 0).take (p - 0)))) lo (.lst ([] ++ (es.drop 0).take (p - 0))) = H4 at s4 u4 g4 a4
      have x4 : ([] ++ (es.drop 0).take (p - 0)).length ≤ 800 := pl
      generalize [] ++ (es.drop 0).take (p - 0) = xs4 at g4 a4 x4
      refine ⟨_, rfl, .inl ⟨rfl, _, SqL.of g4⟩, _, rfl, _, _, rfl, ⟨by rw [sizeLine_eq]; omega, rfl⟩, _, rfl, by omega, by omega, fun F hF => ?_⟩
      refine lc_range (lo := 0) (n := nw.length) (fun m H' => Same H4 H' ∧ ∃ ys, H' F = some (.lst ys) ∧ EnP H' ys (List.replicate m none)) ⟨same_new hF, [], upd_same, .nil⟩ (fun m H' hm q => ?_) (fun H' q => ?_)
      · obtain ⟨sm, ys, hys, ly⟩ := q
        have yl := paired_len ly
        rw [List.length_replicate] at yl
        refine ⟨rfl, ?_⟩
        dsimp only [tYes]
        rw [if_pos rfl]
        refine ⟨_, rfl, _, rfl, _, rfl, few_len (Nat.le_of_ble_eq_true rfl), fun t5 ht5 => ?_⟩
        have sn := same_new (o := .tup [.int (i0 : Nat), .int 0, .int (0 + (m : Int))]) ht5
        have ne5 : t5 ≠ F := (ne_of_none hys ht5).symm
        refine ⟨ys, sn _ _ hys, fewL (by omega), fun b o h => ?_, ys ++ [.ref t5], upd_same, ?_⟩
        · rw [upd_ne (ne_of_none h hF)]
          exact sn _ _ (sm _ _ h)
        · rw [List.replicate_succ']
          refine Paired.snoc (ly.keep fun u ws h => ?_) ⟨(fun i z => nomatch z), fun _ => ⟨t5, [.int (i0 : Nat), .int 0, .int (0 + (m : Int))], rfl, ?_⟩⟩
          · rw [upd_ne (fun z => by rw [z, hys] at h; cases h)]
            exact sn _ _ h
          · rw [upd_ne ne5, upd_same]
      · obtain ⟨sm, ys, hys, ly⟩ := q
        have yl := paired_len ly
        rw [List.length_replicate] at yl
        refine ⟨lo, F, xs4, ys, rfl, rfl, sm _ _ g4, hys, by rw [sizeLine_eq]; omega, ?_⟩
        have u5 : ∀ u ws, H' u = some (.tup ws) → (upd H' lo (.lst (xs4 ++ ys))) u = some (.tup ws) := fun u ws h => by
          rw [upd_ne (fun z => by rw [z, sm _ _ g4] at h; cases h)]
          exact h
        refine ⟨_, rfl, _, _, _, _, _, p + len, xs4 ++ ys, _, rfl, fun b o h => ?_, upd_same, app2 ((a4.keep fun u ws h => sm _ _ h).keep u5) (ly.keep u5), .inr ⟨rfl, rfl, rfl⟩⟩
        rw [upd_ne (ne_of_none h hlo)]
        exact sm _ _ (s4 _ _ h)
    · rintro σ H2 ⟨o5, o6, o7, o8, o9, e, xs, acc, rfl, s2, hg, hacc, st⟩
      obtain ⟨_, rfl, rfl⟩ : (1 : Nat) = 1 ∧ e = p + len ∧ acc = L.take p ++ List.replicate nw.length none := by
        rcases st with ⟨h, _⟩ | h
        · cases h
        · exact ⟨rfl, h.2⟩
      have hes := s2 _ _ hle
      have xal := paired_len hacc
      rw [List.length_append, List.length_take, List.length_replicate] at xal
      refine ⟨_, rfl, .inl ⟨rfl, _, SqL.of hg⟩, _, rfl, _, rfl, _, rfl, le, es, rfl, SqL.of hes, fun D hD => ?_⟩
      rw [cutV_tail (by omega)]
      have sD := same_new (o := .lst (es.drop (p + len))) hD
      refine ⟨lo, D, xs, _, rfl, rfl, sD _ _ hg, upd_same, by rw [List.length_drop, sizeLine_eq]; omega, ?_⟩
      have u4 : ∀ u ws, H2 u = some (.tup ws) → (upd (upd H2 D (.lst (es.drop (p + len)))) lo (.lst (xs ++ es.drop (p + len)))) u = some (.tup ws) := fun u ws h => by
        rw [upd_ne (fun z => by rw [z, hg] at h; cases h)]
        exact sD _ _ h
      refine ⟨_, rfl, k lo _ _ hlo upd_same (app2 (hacc.keep u4) (pdrop _ (hL.keep fun u ws h => u4 _ _ (s2 _ _ h)))) (fun b o h => ?_)⟩
      rw [upd_ne (ne_of_none h hlo)]
      exact sD _ _ (s2 _ _ h)
/-- the edits: such ones alone -/
def EdsO (C : Addr) (H : Hp) : List V → List (Str × Str) → Prop := Paired fun v q => ∃ a dx, v = .ref a ∧ H a = some (.ins C dx (fl q.1 q.2))
theorem EdsO.keep {C : Addr} {H H' : Hp} {es : List V} {ps : List (Str × Str)} (h : EdsO C H es ps) (s : Same H H') : EdsO C H' es ps := pair_mono (fun _ _ ⟨a, dx, e, q⟩ => ⟨a, dx, e, s _ _ q⟩) h
theorem next_snoc {ps : List (Str × Str)} {L : List WS} {i : Nat} {s : WS} (h : L[i]? = some s) : nextW ps (L.take (i + 1)) = nextW ps (L.take i) ++ (List.range ps.length).filterMap (stepW ps s) := by
  unfold nextW
  rw [List.take_add_one, h, Option.toList_some, List.flatMap_append, List.flatMap_cons, List.flatMap_nil, List.append_nil]
theorem range_snoc {ps : List (Str × Str)} {s : WS} {j : Nat} : (List.range (j + 1)).filterMap (stepW ps s) = (List.range j).filterMap (stepW ps s) ++ (stepW ps s j).toList := by
  rw [List.range_succ, List.filterMap_append]
  refine congrArg (_ ++ ·) ?_
  rw [List.filterMap_cons]
  cases stepW ps s j <;> rfl
theorem natV_flat : ∀ (l : List Nat), (l.map natV).all flatV = true
  | [] => rfl
  | _ :: l => by
    rw [List.map_cons, List.all_cons, natV_flat l]
    rfl
theorem natV_in (k : Nat) : ∀ (l : List Nat), inV (.int (k : Nat)) (l.map natV) = decide (k ∈ l)
  | [] => rfl
  | a :: l => by
    have ih := natV_in k l
    unfold inV at ih ⊢
    rw [List.map_cons, List.any_cons, ih]
    have e : eqV (natV a) (.int (k : Nat)) = decide (k = a) := by
      show decide (((a : Nat) : Int) = ((k : Nat) : Int)) = _
      rw [Bool.eq_iff_iff, decide_eq_true_eq, decide_eq_true_eq]
      omega
    rw [e, Bool.eq_iff_iff, Bool.or_eq_true, decide_eq_true_eq, decide_eq_true_eq, decide_eq_true_eq, List.mem_cons]
theorem step_no {ps : List (Str × Str)} {s : WS} {k : Nat} {q : Str × Str} (hq : ps[k]? = some q) (h : k ∈ s.1 ∨ (plc s.2.1 q.1).length ≠ 1) : stepW ps s k = none := by
  unfold stepW
  rw [hq]
  show (if k ∈ s.1 then _ else _) = _
  split
  · rfl
  · rename_i hk
    split
    · rename_i p hp
      rcases h with h | h
      · exact absurd h hk
      · rw [hp] at h
        exact absurd rfl h
    · rfl
theorem step_yes {ps : List (Str × Str)} {s : WS} {k p : Nat} {q : Str × Str} (hq : ps[k]? = some q) (hk : k ∉ s.1) (hp : plc s.2.1 q.1 = [p]) : stepW ps s k = some (s.1 ++ [k], putS s.2.1 p q.1.length q.2, s.2.2.take p ++ List.replicate q.2.length none ++ s.2.2.drop (p + q.1.length)) := by
  unfold stepW
  rw [hq]
  show (if k ∈ s.1 then _ else _) = _
  rw [if_neg hk, hp]
theorem one_of {α : Type} {l : List α} (h : l.length = 1) : ∃ a, l = [a] := by
  match l, h with
  | [a], _ => exact ⟨a, rfl⟩
abbrev EdSq (H : Hp) (ed : Addr) (es : List V) : Prop := H ed = some (.lst es) ∨ H ed = some (.tup es)
def spLong (C : Addr) : Sp := fun vs H Q _ => ∃ (r ed : Addr) (xs es : List V) (L : List WS) (ps : List (Str × Str)) (B m : Nat), vs = [.ref r, .ref ed] ∧ H r = some (.lst xs) ∧ LayP (fun _ => True) H xs L ∧ EdSq H ed es ∧ EdsO C H es ps ∧ PsOk ps ∧ GoodL ps B m L ∧ B ≤ 50 ∧ ps.length ≤ 4 ∧ L.length ≤ 256 ∧
  ∀ (l : Addr) ys H', H l = none → H' l = some (.lst ys) → LayP (fun e => H e = none ∧ e ≠ l) H' ys (nextW ps L) → Same H H' → Q (.ref l) H'
abbrev s_longer_results : Stmt := top 43
theorem sc_longer_results : FnScope ["results", "edits", "told", "way", "text", "entries", "index", "edit", "puts"] ["results", "edits"] (defScope s_longer_results) := ⟨rfl, rfl, rfl, by decide +kernel, rfl, by decide +kernel, by decide +kernel⟩
theorem b_longer_results {f : Addr} {fd : FuncData} (F : Fun K "longer_results" "longer_results" s_longer_results f fd) (T : Txt mg) (c_stands_once : CalG P w K mg base CX0 2 "stands_once" spOnce) (c_puts_of : CalG P w K mg base (L2.CX P w) 4 "puts_of" (spPuts (cls4 C_Once C_First C_Perhaps C_Every) C_NoPlace)) (c_text_behind : CalG P w K mg base CX0 1 "text_behind" spBehind) (c_origins_behind : CalG P w K mg base CX0 1 "origins_behind" spOB) (pr_old : ∀ n, n < 4 → PrI P w K mg base 1 (cls4 C_Once C_First C_Perhaps C_Every n) "old" "_old") : FnG P w K mg base (L2.CX P w) 5 f fd ["results", "edits"] (spLong C_Once) := by
  refine okG F sc_longer_results (fun vs H Q E h => ?_) (fun cdv A outer s H vs Q E hg hr h => ?_)
  · obtain ⟨r, ed, xs, es, L, ps, B, m, rfl, _⟩ := h
    rfl
  · have hu := hu_of hr
    have hu64 := hr.units
    obtain ⟨r, ed, xs, es, L, ps, B, m, rfl, hr1, lay, hed, eds, ok, good, hB, h4, hL, k⟩ := h
    have gxs := paired_len lay
    have ges := paired_len eds
    refine ⟨_, (pss_cons (ps_set (i := 2) sc_longer_results.nd rfl (Or.inl rfl) (pe_lst pa_nil))
      (pss_cons (ps_for (passes_of rfl) rfl (pi_list (pv 0)) (pg_tup rfl (pgs_cons (pg_name (i := 3) sc_longer_results.nd rfl (Or.inl rfl)) (pgs_cons (pg_name (i := 4) sc_longer_results.nd rfl (Or.inl rfl)) (pgs_cons (pg_name (i := 5) sc_longer_results.nd rfl (Or.inl rfl)) pgs_nil)))) (pss_one (ps_for (passes_of rfl) rfl (pi_or (pi_enum (by rfl) T.enumerate (pa_cons (pv 1) pa_nil)) (pi_enumT (by rfl) T.enumerate (pa_cons (pv 1) pa_nil))) (pg_tup rfl (pgs_cons (pg_name (i := 6) sc_longer_results.nd rfl (Or.inl rfl)) (pgs_cons (pg_name (i := 7) sc_longer_results.nd rfl (Or.inl rfl)) pgs_nil))) (pss_one (ps_if (PW.pt (pw_and (pt_cmpR op_notIn_seq (pv 6) (pv 3) (by rfl)) (pw_and1 (pt_val (pe_cG c_stands_once hg hr (by decide) pass0 (pa_cons (pv 4) (pa_cons (pe_propN (pv 7) pr_old hr (by decide)) pa_nil))))))) (pss_cons (ps_set (i := 8) sc_longer_results.nd rfl (Or.inl rfl) (pe_cG c_puts_of hg hr (by decide) (passes_call (takes_of rfl rfl rfl rfl) (fun _ _ _ _ h => h)) (pa_cons (pv 7) (pa_cons (pv 6) (pa_cons (pv 4) pa_nil)))))
      (pss_one (ps_expr (pe_bm PySem.F.plainAttrs_list PySem.F.slot_list_append PySem.F.type_list_append mt_append (pv 2) (pa_cons (pe_tup (pa_cons (pe_tup (StX.pa_star (pv 3) (pa_cons (pv 6) pa_nil))) (pa_cons (pe_cG c_text_behind hg hr (by decide) pass0 (pa_cons (pv 4) (pa_cons (pv 8) pa_nil))) (pa_cons (pe_cG c_origins_behind hg hr (by decide) pass0 (pa_cons (pv 5) (pa_cons (pv 8) (pa_cons (pv 6) pa_nil)))) pa_nil)))) pa_nil))))) pss_nil)))))
      (pss_one (ps_ret (pv 2))))), ?_⟩
    refine ⟨few_len (Nat.zero_le _), fun lo hlo => ?_⟩
    have s0 := same_new (o := .lst []) hlo
    refine ⟨_, rfl, r, rfl, ⟨_, SqL.of (s0 _ _ hr1)⟩, ?_⟩
    refine for_list (K := K) (a := r) (xs := xs) (fun i σ H' => ∃ (o3 o4 o5 o6 o7 o8 : Option V) (acc : List V), σ = [some (.ref r), some (.ref ed), some (.ref lo), o3, o4, o5, o6, o7, o8] ∧ H' lo = some (.lst acc) ∧ LayP (fun e => H e = none ∧ e ≠ lo) H' acc (nextW ps (L.take i)) ∧ Same H H') ⟨_, _, _, _, _, _, [], rfl, upd_same, .nil, s0⟩ (fun i σ H' _ q => ?_) (fun i v σ H2 hv q => ?_) (fun σ H2 q => ?_)
    · obtain ⟨_, _, _, _, _, _, _, _, _, _, s⟩ := q
      exact SqL.of (s _ _ hr1)
    · obtain ⟨o3, o4, o5, o6, o7, o8, acc0, rfl, hlo2, la2, s2⟩ := q
      obtain ⟨s, hs, t, wt, e, en, rfl, _, ht, hwt, he, hen⟩ := paired_at lay hv
      have gd := good s (List.mem_of_getElem? hs)
      have i256 : i < 256 := by
        have := (List.getElem?_eq_some_iff.mp hs).1
        omega
      have gdl := gd.le
      have gdt := gd.tl
      refine ⟨t, _, rfl, SqT.of (s2 _ _ ht), rfl, _, _, rfl, _, _, rfl, _, _, rfl, rfl, ?_⟩
      have Pin0 : ∃ (o6 o7 o8 : Option V) (acc : List V), [some (V.ref r), some (V.ref ed), some (V.ref lo), some (V.ref wt), some (V.str s.2.1), some (V.ref e), o6, o7, o8] = [some (V.ref r), some (V.ref ed), some (V.ref lo), some (V.ref wt), some (V.str s.2.1), some (V.ref e), o6, o7, o8] ∧ True := ⟨o6, o7, o8, [], rfl, True.intro⟩
      clear Pin0
      rcases hed with hed | hed
      · refine .inl ⟨_, rfl, ed, es, rfl, SqL.of (s2 _ _ hed), ?_⟩
        refine for_enumL (K := K) (a := ed) (xs := es) (fun j σ H' => ∃ (o6 o7 o8 : Option V) (acc : List V), σ = [some (.ref r), some (.ref ed), some (.ref lo), some (.ref wt), some (.str s.2.1), some (.ref e), o6, o7, o8] ∧ H' lo = some (.lst acc) ∧ LayP (fun e => H e = none ∧ e ≠ lo) H' acc (nextW ps (L.take i) ++ (List.range j).filterMap (stepW ps s)) ∧ Same H H') ⟨_, _, _, acc0, rfl, hlo2, by rw [show (List.range 0).filterMap (stepW ps s) = [] from rfl, List.append_nil]; exact la2, s2⟩ (fun j σ H' _ q => let ⟨_, _, _, _, _, _, _, s⟩ := q; SqL.of (s _ _ hed)) (fun j v σ H5 Tt hv hT q => ?_) (fun σ H5 q => ?_)
        rotate_left
        · obtain ⟨o6, o7, o8, acc, rfl, hlo5, la5, s5⟩ := q
          rw [ges, ← next_snoc hs] at la5
          exact ⟨_, _, _, _, _, _, acc, rfl, hlo5, la5, s5⟩
        obtain ⟨o6, o7, o8, acc, rfl, hlo5, la5, s5⟩ := q
        have la5l := paired_len la5
        have acl : acc.length ≤ 2000 := by
          have h1 := next_len (ps := ps) (L := L.take i)
          have h2 := List.length_filterMap_le (stepW ps s) (List.range j)
          have h3 : (L.take i).length ≤ 256 := by rw [List.length_take]; omega
          have h4' : (L.take i).length * ps.length ≤ 256 * 4 := Nat.mul_le_mul h3 h4
          have h5 := (List.getElem?_eq_some_iff.mp hv).1
          rw [List.length_range] at h2
          rw [List.length_append] at la5l
          omega
        obtain ⟨q, hq, ea, edx, rfl, hea⟩ := paired_at eds hv
        obtain ⟨ok1, ok2, ok3⟩ := ok q (List.mem_of_getElem? hq)
        have sT := same_new (o := .tup [.int (j : Nat), .ref ea]) hT
        have hT2 : (upd H5 Tt (.tup [.int (j : Nat), .ref ea])) Tt = some (.tup [.int (j : Nat), .ref ea]) := upd_same
        replace s5 := s5.trans sT
        replace hlo5 := sT _ _ hlo5
        replace la5 := la5.keep sT
        generalize upd H5 Tt (.tup [.int (j : Nat), .ref ea]) = H6 at s5 hlo5 la5 hT2
        clear sT hT
        rw [range_snoc, ← List.append_assoc]
        refine ⟨Tt, _, rfl, SqT.of hT2, rfl, _, _, rfl, _, _, rfl, rfl, ?_⟩
        refine ⟨_, rfl, _, rfl, wt, _, rfl, .inr (SqT.of (s5 _ _ hwt)), rfl, natV_flat _, _, rfl, ?_⟩
        rw [show (if true = true then !inV (V.int (j : Nat)) (s.1.map natV) else inV (V.int (j : Nat)) (s.1.map natV)) = !decide (j ∈ s.1) by rw [if_pos rfl, natV_in]]
        by_cases hj : j ∈ s.1
        · rw [decide_eq_true hj]
          refine iteF (iteF ⟨_, _, _, acc, rfl, hlo5, ?_, s5⟩)
          rw [step_no hq (.inl hj)]
          rw [Option.toList_none, List.append_nil]
          exact la5
        · rw [decide_eq_false hj]
          have hea6 := s5 _ _ hea
          refine iteT ⟨_, rfl, _, rfl, 0, ea, edx, _, _, by decide, rfl, hea6, fl_old, s.2.1, q.1, rfl, _, rfl, ?_⟩
          by_cases h1 : (plc s.2.1 q.1).length = 1
          · rw [decide_eq_true h1]
            obtain ⟨p, hp⟩ := one_of h1
            have pm : p ∈ plc s.2.1 q.1 := by rw [hp]; exact List.mem_cons_self
            have hpl := (at_lists.mp (plc_mem.mp pm)).1
            rw [step_yes hq hj hp]
            refine iteT ⟨_, rfl, _, rfl, _, rfl, 0, ea, edx, q.1, q.2, j, s.2.1, rfl, by decide, hea6, by omega, by omega, (fun z => by
              rw [hp] at z
              exact nomatch (show true = false from z)), fun _ l ys H7 s7 hl0 hl hrw => ?_⟩
            rw [hp, show spotsM 0 q.1.length [p] = [p] from by unfold spotsM; simp [apartM]] at hrw
            obtain ⟨u, rfl, hu1⟩ : ∃ u, ys = [V.ref u] ∧ H7 u = some (.tup (putV q.2 q.1.length p)) := by
              cases hrw with
              | cons a t =>
                cases t
                obtain ⟨u, e, h⟩ := a
                exact ⟨u, by rw [e], h⟩
            have s57 := s5.trans s7
            replace hlo5 := s7 _ _ hlo5
            replace la5 := la5.keep s7
            refine ⟨_, rfl, .inl ⟨rfl, _, SqL.of hlo5⟩, _, rfl, wt, _, rfl, .inl (SqT.of (s57 _ _ hwt)), _, rfl, few_len (by rw [List.length_append, List.length_map, gd.len]; show m + 1 ≤ _; omega), fun wn hwn => ?_⟩
            have sw := same_new (o := .tup (s.1.map natV ++ [.int (j : Nat)])) hwn
            have hw2 : (upd H7 wn (.tup (s.1.map natV ++ [.int (j : Nat)]))) wn = some (.tup (s.1.map natV ++ [.int (j : Nat)])) := upd_same
            refine ⟨_, rfl, _, rfl, s.2.1, l, [.ref u], q.2, q.1.length, [p], rfl, sw _ _ hl, .cons ⟨u, rfl, sw _ _ hu1⟩ .nil, by omega, by omega, by show 1 ≤ 801; decide, fun H8 s8 => ?_⟩
            have s68 := s7.trans (sw.trans s8)
            have s58 := s5.trans s68
            refine ⟨_, rfl, _, rfl, _, rfl, e, l, u, j, p, q.1.length, q.2, en, s.2.2, rfl, s58 _ _ he, hen.keep (fun u ws h => s58 _ _ h), (sw.trans s8) _ _ hl, (sw.trans s8) _ _ hu1, by rw [gd.ml]; exact hpl, by rw [gd.ml]; omega, by omega, fun lb xs' H9 hlb hlb2 hen9 s9 => ?_⟩
            refine ⟨few_len (Nat.le_of_ble_eq_true rfl), fun tn htn => ?_⟩
            have st := same_new (o := .tup [.ref wn, .str (putS s.2.1 p q.1.length q.2), .ref lb]) htn
            have hlo8 := (sw.trans s8) _ _ hlo5
            have hlo9 := (s9.trans st) _ _ hlo8
            have nlb : lb ≠ lo := (ne_of_none hlo8 hlb).symm
            have htt : (upd H9 tn (.tup [.ref wn, .str (putS s.2.1 p q.1.length q.2), .ref lb])) tn = some (.tup [.ref wn, .str (putS s.2.1 p q.1.length q.2), .ref lb]) := upd_same
            have la9 := ((la5.keep (sw.trans s8)).keep s9).keep st
            have hw9 := (s8.trans (s9.trans st)) _ _ hw2
            have hl9 := st _ _ hlb2
            have en9 := hen9.keep (fun u ws h => st _ _ h)
            have s59 := s58.trans (s9.trans st)
            refine ⟨lo, acc, _, rfl, rfl, hlo9, fewL (by omega), _, _, _, _, rfl, upd_same, ?_, upd_out hlo s59⟩
            have ut : ∀ {o : HO} (u : Addr) (ws : List V), (upd H9 tn (.tup [.ref wn, .str (putS s.2.1 p q.1.length q.2), .ref lb])) u = some (.tup ws) → (upd (upd H9 tn (.tup [.ref wn, .str (putS s.2.1 p q.1.length q.2), .ref lb])) lo o) u = some (.tup ws) := fun u ws h => by
              rw [upd_ne (fun z => by rw [z, hlo9] at h; cases h)]
              exact h
            refine Paired.snoc (la9.mono (fun u ws h => ut u ws h) fun e es a h => ⟨a, (upd_ne a.2).trans h⟩) ⟨tn, wn, lb, xs', rfl, ⟨none_up s58 hlb, nlb⟩, ut _ _ htt, ?_, (upd_ne nlb).trans hl9, en9.keep fun u ws h => ut u ws h⟩
            rw [List.map_append]
            exact ut _ _ hw9
          · rw [decide_eq_false h1]
            refine iteF ⟨_, _, _, acc, rfl, hlo5, ?_, s5⟩
            rw [step_no hq (.inr h1)]
            rw [Option.toList_none, List.append_nil]
            exact la5
      · refine .inr ⟨_, rfl, ed, es, rfl, s2 _ _ hed, ?_⟩
        refine for_enumT (a := ed) (xs := es) (fun j σ H' => ∃ (o6 o7 o8 : Option V) (acc : List V), σ = [some (.ref r), some (.ref ed), some (.ref lo), some (.ref wt), some (.str s.2.1), some (.ref e), o6, o7, o8] ∧ H' lo = some (.lst acc) ∧ LayP (fun e => H e = none ∧ e ≠ lo) H' acc (nextW ps (L.take i) ++ (List.range j).filterMap (stepW ps s)) ∧ Same H H') ⟨_, _, _, acc0, rfl, hlo2, by rw [show (List.range 0).filterMap (stepW ps s) = [] from rfl, List.append_nil]; exact la2, s2⟩ (fun j σ H' _ q => let ⟨_, _, _, _, _, _, _, s⟩ := q; s _ _ hed) (fun j v σ H5 Tt hv hT q => ?_) (fun σ H5 q => ?_)
        rotate_left
        · obtain ⟨o6, o7, o8, acc, rfl, hlo5, la5, s5⟩ := q
          rw [ges, ← next_snoc hs] at la5
          exact ⟨_, _, _, _, _, _, acc, rfl, hlo5, la5, s5⟩
        obtain ⟨o6, o7, o8, acc, rfl, hlo5, la5, s5⟩ := q
        have la5l := paired_len la5
        have acl : acc.length ≤ 2000 := by
          have h1 := next_len (ps := ps) (L := L.take i)
          have h2 := List.length_filterMap_le (stepW ps s) (List.range j)
          have h3 : (L.take i).length ≤ 256 := by rw [List.length_take]; omega
          have h4' : (L.take i).length * ps.length ≤ 256 * 4 := Nat.mul_le_mul h3 h4
          have h5 := (List.getElem?_eq_some_iff.mp hv).1
          rw [List.length_range] at h2
          rw [List.length_append] at la5l
          omega
        obtain ⟨q, hq, ea, edx, rfl, hea⟩ := paired_at eds hv
        obtain ⟨ok1, ok2, ok3⟩ := ok q (List.mem_of_getElem? hq)
        have sT := same_new (o := .tup [.int (j : Nat), .ref ea]) hT
        have hT2 : (upd H5 Tt (.tup [.int (j : Nat), .ref ea])) Tt = some (.tup [.int (j : Nat), .ref ea]) := upd_same
        replace s5 := s5.trans sT
        replace hlo5 := sT _ _ hlo5
        replace la5 := la5.keep sT
        generalize upd H5 Tt (.tup [.int (j : Nat), .ref ea]) = H6 at s5 hlo5 la5 hT2
        clear sT hT
        rw [range_snoc, ← List.append_assoc]
        refine ⟨Tt, _, rfl, SqT.of hT2, rfl, _, _, rfl, _, _, rfl, rfl, ?_⟩
        refine ⟨_, rfl, _, rfl, wt, _, rfl, .inr (SqT.of (s5 _ _ hwt)), rfl, natV_flat _, _, rfl, ?_⟩
        rw [show (if true = true then !inV (V.int (j : Nat)) (s.1.map natV) else inV (V.int (j : Nat)) (s.1.map natV)) = !decide (j ∈ s.1) by rw [if_pos rfl, natV_in]]
        by_cases hj : j ∈ s.1
        · rw [decide_eq_true hj]
          refine iteF (iteF ⟨_, _, _, acc, rfl, hlo5, ?_, s5⟩)
          rw [step_no hq (.inl hj)]
          rw [Option.toList_none, List.append_nil]
          exact la5
        · rw [decide_eq_false hj]
          have hea6 := s5 _ _ hea
          refine iteT ⟨_, rfl, _, rfl, 0, ea, edx, _, _, by decide, rfl, hea6, fl_old, s.2.1, q.1, rfl, _, rfl, ?_⟩
          by_cases h1 : (plc s.2.1 q.1).length = 1
          · rw [decide_eq_true h1]
            obtain ⟨p, hp⟩ := one_of h1
            have pm : p ∈ plc s.2.1 q.1 := by rw [hp]; exact List.mem_cons_self
            have hpl := (at_lists.mp (plc_mem.mp pm)).1
            rw [step_yes hq hj hp]
            refine iteT ⟨_, rfl, _, rfl, _, rfl, 0, ea, edx, q.1, q.2, j, s.2.1, rfl, by decide, hea6, by omega, by omega, (fun z => by
              rw [hp] at z
              exact nomatch (show true = false from z)), fun _ l ys H7 s7 hl0 hl hrw => ?_⟩
            rw [hp, show spotsM 0 q.1.length [p] = [p] from by unfold spotsM; simp [apartM]] at hrw
            obtain ⟨u, rfl, hu1⟩ : ∃ u, ys = [V.ref u] ∧ H7 u = some (.tup (putV q.2 q.1.length p)) := by
              cases hrw with
              | cons a t =>
                cases t
                obtain ⟨u, e, h⟩ := a
                exact ⟨u, by rw [e], h⟩
            have s57 := s5.trans s7
            replace hlo5 := s7 _ _ hlo5
            replace la5 := la5.keep s7
            refine ⟨_, rfl, .inl ⟨rfl, _, SqL.of hlo5⟩, _, rfl, wt, _, rfl, .inl (SqT.of (s57 _ _ hwt)), _, rfl, few_len (by rw [List.length_append, List.length_map, gd.len]; show m + 1 ≤ _; omega), fun wn hwn => ?_⟩
            have sw := same_new (o := .tup (s.1.map natV ++ [.int (j : Nat)])) hwn
            have hw2 : (upd H7 wn (.tup (s.1.map natV ++ [.int (j : Nat)]))) wn = some (.tup (s.1.map natV ++ [.int (j : Nat)])) := upd_same
            refine ⟨_, rfl, _, rfl, s.2.1, l, [.ref u], q.2, q.1.length, [p], rfl, sw _ _ hl, .cons ⟨u, rfl, sw _ _ hu1⟩ .nil, by omega, by omega, by show 1 ≤ 801; decide, fun H8 s8 => ?_⟩
            have s68 := s7.trans (sw.trans s8)
            have s58 := s5.trans s68
            refine ⟨_, rfl, _, rfl, _, rfl, e, l, u, j, p, q.1.length, q.2, en, s.2.2, rfl, s58 _ _ he, hen.keep (fun u ws h => s58 _ _ h), (sw.trans s8) _ _ hl, (sw.trans s8) _ _ hu1, by rw [gd.ml]; exact hpl, by rw [gd.ml]; omega, by omega, fun lb xs' H9 hlb hlb2 hen9 s9 => ?_⟩
            refine ⟨few_len (Nat.le_of_ble_eq_true rfl), fun tn htn => ?_⟩
            have st := same_new (o := .tup [.ref wn, .str (putS s.2.1 p q.1.length q.2), .ref lb]) htn
            have hlo8 := (sw.trans s8) _ _ hlo5
            have hlo9 := (s9.trans st) _ _ hlo8
            have nlb : lb ≠ lo := (ne_of_none hlo8 hlb).symm
            have htt : (upd H9 tn (.tup [.ref wn, .str (putS s.2.1 p q.1.length q.2), .ref lb])) tn = some (.tup [.ref wn, .str (putS s.2.1 p q.1.length q.2), .ref lb]) := upd_same
            have la9 := ((la5.keep (sw.trans s8)).keep s9).keep st
            have hw9 := (s8.trans (s9.trans st)) _ _ hw2
            have hl9 := st _ _ hlb2
            have en9 := hen9.keep (fun u ws h => st _ _ h)
            have s59 := s58.trans (s9.trans st)
            refine ⟨lo, acc, _, rfl, rfl, hlo9, fewL (by omega), _, _, _, _, rfl, upd_same, ?_, upd_out hlo s59⟩
            have ut : ∀ {o : HO} (u : Addr) (ws : List V), (upd H9 tn (.tup [.ref wn, .str (putS s.2.1 p q.1.length q.2), .ref lb])) u = some (.tup ws) → (upd (upd H9 tn (.tup [.ref wn, .str (putS s.2.1 p q.1.length q.2), .ref lb])) lo o) u = some (.tup ws) := fun u ws h => by
              rw [upd_ne (fun z => by rw [z, hlo9] at h; cases h)]
              exact h
            refine Paired.snoc (la9.mono (fun u ws h => ut u ws h) fun e es a h => ⟨a, (upd_ne a.2).trans h⟩) ⟨tn, wn, lb, xs', rfl, ⟨none_up s58 hlb, nlb⟩, ut _ _ htt, ?_, (upd_ne nlb).trans hl9, en9.keep fun u ws h => ut u ws h⟩
            rw [List.map_append]
            exact ut _ _ hw9
          · rw [decide_eq_false h1]
            refine iteF ⟨_, _, _, acc, rfl, hlo5, ?_, s5⟩
            rw [step_no hq (.inr h1)]
            rw [Option.toList_none, List.append_nil]
            exact la5
    · obtain ⟨o3, o4, o5, o6, o7, o8, acc, rfl, hlo2, la2, s2⟩ := q
      rw [List.take_of_length_le (by omega)] at la2
      exact ⟨_, rfl, k lo acc H2 hlo hlo2 la2 s2⟩
def pwF : Nat → Nat
  | 0 => 0
  | f + 1 => 1 + 4 * pwF f
theorem allW_len {ps : List (Str × Str)} (h : ps.length ≤ 4) : ∀ {f : Nat} {L : List WS}, (allW ps f L).length ≤ L.length * pwF f
  | 0, _ => Nat.zero_le _
  | f + 1, L => by
    have ih := allW_len h (f := f) (L := nextW ps L)
    have n := next_len (ps := ps) (L := L)
    have n4 : L.length * ps.length ≤ L.length * 4 := Nat.mul_le_mul (Nat.le_refl _) h
    have q : (nextW ps L).length * pwF f ≤ (L.length * 4) * pwF f := Nat.mul_le_mul (Nat.le_trans n n4) (Nat.le_refl _)
    show (L ++ allW ps f (nextW ps L)).length ≤ L.length * (1 + 4 * pwF f)
    rw [List.length_append, Nat.mul_add, Nat.mul_one, ← Nat.mul_assoc]
    omega
theorem pwF_mono : ∀ {f g : Nat}, f ≤ g → pwF f ≤ pwF g
  | 0, _, _ => Nat.zero_le _
  | f + 1, g + 1, h => by
    have := pwF_mono (Nat.le_of_succ_le_succ h)
    show 1 + 4 * pwF f ≤ 1 + 4 * pwF g
    omega
theorem allR_len {ps : List (Str × Str)} {x : Str} (h : ps.length ≤ 4) : (allR ps x).length ≤ 341 := by
  have a := allW_len h (f := ps.length + 1) (L := [startW x])
  have b : pwF (ps.length + 1) ≤ pwF 5 := pwF_mono (by omega)
  have c : pwF 5 = 341 := rfl
  unfold allR
  rw [List.length_singleton, Nat.one_mul] at a
  omega
theorem start_ent {H : Hp} : ∀ n, EnP H (rgV 0 (n : Nat)) ((List.range n).map some) := fun n => by
  unfold rgV
  rw [show ((n : Int) - 0).toNat = n by omega]
  have k : ∀ l : List Nat, EnP H (l.map fun j : Nat => V.int (0 + (j : Int))) (l.map some) := fun l => by
    induction l with
    | nil => exact .nil
    | cons a l ih => exact .cons ⟨(fun i e => by cases e; show V.int (0 + ((a : Nat) : Int)) = V.int ((a : Nat) : Int); rw [Int.zero_add]), (fun e => nomatch e)⟩ ih
  exact k _
def spAll (C : Addr) : Sp := fun vs H Q _ => ∃ (x : Str) (ed : Addr) (es : List V) (ps : List (Str × Str)), vs = [.str x, .ref ed] ∧ EdSq H ed es ∧ EdsO C H es ps ∧ PsOk ps ∧ x.length ≤ 50 ∧ ps.length ≤ 4 ∧
  ∀ (l : Addr) ys H', H l = none → H' l = some (.lst ys) → LayP (fun _ => True) H' ys (allR ps x) → Same H H' → Q (.ref l) H'
abbrev s_all_results : Stmt := top 44
theorem sc_all_results : FnScope ["text", "edits", "told", "results"] ["text", "edits"] (defScope s_all_results) := ⟨rfl, rfl, rfl, by decide +kernel, rfl, by decide +kernel, by decide +kernel⟩
theorem b_all_results {f : Addr} {fd : FuncData} (F : Fun K "all_results" "all_results" s_all_results f fd) (T : Txt mg) (c_longer_results : CalG P w K mg base (L2.CX P w) 5 "longer_results" (spLong C_Once)) : FnG P w K mg base (L2.CX P w) 6 f fd ["text", "edits"] (spAll C_Once) := by
  refine okG F sc_all_results (fun vs H Q E h => ?_) (fun cdv A outer s H vs Q E hg hr h => ?_)
  · obtain ⟨x, ed, es, ps, rfl, _⟩ := h
    rfl
  · have hu := hu_of hr
    have hu64 := hr.units
    obtain ⟨x, ed, es, ps, rfl, hed, eds, ok, hx, h4, k⟩ := h
    have xl : x.length ≤ sizeLine := few_len (by omega)
    refine ⟨_, (pss_cons (ps_set (i := 2) sc_all_results.nd rfl (Or.inl rfl) (pe_lst pa_nil))
      (pss_cons (ps_set (i := 3) sc_all_results.nd rfl (Or.inl rfl) (pe_lst (pa_cons (pe_tup (pa_cons (pe_tup pa_nil) (pa_cons (pv 0) (pa_cons (pe_listRg rfl (by rfl) T.list (prg_1 (by rfl) T.range (pe_callB call_len (by rfl) T.len (by decide +kernel) (pa_cons (pv 0) pa_nil)))) pa_nil)))) pa_nil)))
      (pss_cons (ps_while (passes_of rfl) (pt_truthK (K := K) rfl (pv 3)) (pss_cons (ps_expr (pe_bm PySem.F.plainAttrs_list PySem.F.slot_list_extend PySem.F.type_list_extend mt_extend (pv 2) (pa_cons (pv 3) pa_nil)))
      (pss_one (ps_set (i := 3) sc_all_results.nd rfl (Or.inl rfl) (pe_cG c_longer_results hg hr (by decide) (passes_call (takes_of rfl rfl rfl rfl) (fun _ _ _ _ h => h)) (pa_cons (pv 3) (pa_cons (pv 1) pa_nil)))))))
      (pss_one (ps_ret (pv 2)))))), ?_⟩
    refine ⟨few_len (Nat.zero_le _), fun l hl => ?_⟩
    have sl := same_new (o := .lst []) hl
    refine ⟨few_len (Nat.zero_le _), fun w hw => ?_⟩
    have sw := same_new (o := .tup []) hw
    refine ⟨_, rfl, _, rfl, _, _, rfl, ⟨xl, rfl⟩, _, rfl, .of_le (by omega) (by omega) (by omega) (by omega), fun e he => ?_⟩
    have se := same_new (o := .lst (rgV 0 (x.length : Nat))) he
    refine ⟨few_len (Nat.le_of_ble_eq_true rfl), fun t ht => ?_⟩
    have st := same_new (o := .tup [.ref w, .str x, .ref e]) ht
    refine ⟨few_len (Nat.le_of_ble_eq_true rfl), fun r hr1 => ?_⟩
    have sr := same_new (o := .lst [.ref t]) hr1
    have nle : e ≠ l := (ne_of_none (sw _ _ upd_same) he).symm
    have l1 := (((sw.trans se).trans st).trans sr) _ _ (upd_same (H := H) (a := l) (o := .lst []))
    have w1 := ((se.trans st).trans sr) _ _ (upd_same (H := upd H l (.lst [])) (a := w) (o := .tup []))
    have e1 := (st.trans sr) _ _ (upd_same (H := upd (upd H l (.lst [])) w (.tup [])) (a := e) (o := .lst (rgV 0 (x.length : Nat))))
    have t1 := sr _ _ (upd_same (H := upd (upd (upd H l (.lst [])) w (.tup [])) e (.lst (rgV 0 (x.length : Nat)))) (a := t) (o := .tup [.ref w, .str x, .ref e]))
    have nrl : r ≠ l := (ne_of_none ((sw.trans (se.trans st)) _ _ (upd_same (H := H) (a := l) (o := .lst []))) hr1).symm
    have r1 : (upd (upd (upd (upd (upd H l (.lst [])) w (.tup [])) e (.lst (rgV 0 (x.length : Nat)))) t (.tup [.ref w, .str x, .ref e])) r (.lst [.ref t])) r = some (.lst [.ref t]) := upd_same
    have s1 := (((sl.trans sw).trans se).trans st).trans sr
    generalize upd (upd (upd (upd (upd H l (.lst [])) w (.tup [])) e (.lst (rgV 0 (x.length : Nat)))) t (.tup [.ref w, .str x, .ref e])) r (.lst [.ref t]) = H1 at l1 w1 e1 t1 r1 s1 ⊢
    clear sl se st sr hw ht hr1
    refine ⟨fun n σ H' => ∃ (m : Nat) (r2 : Addr) (acc xs : List V) (AL L : List WS), σ = [some (.str x), some (.ref ed), some (.ref l), some (.ref r2)] ∧ m + n = ps.length + 1 ∧ Same H H' ∧ H' l = some (.lst acc) ∧ H' r2 = some (.lst xs) ∧ r2 ≠ l ∧ LayP (fun e => e ≠ l) H' acc AL ∧ LayP (fun e => e ≠ l) H' xs L ∧ AL ++ allW ps n L = allR ps x ∧ GoodL ps x.length m L ∧ L.length ≤ 4 ^ m, ⟨ps.length + 1, 0, r, [], [.ref t], [], [startW x], rfl, Nat.zero_add _, s1, l1, r1, nrl, .nil, .cons ⟨t, w, e, _, rfl, nle, t1, w1, e1, start_ent _⟩ .nil, rfl, good_start (Nat.le_refl _), Nat.le_refl _⟩, ?_⟩
    rintro n σ H2 ⟨m, r2, acc, xs, AL, L, rfl, hmn, s2, l2, r2h, nrl, lA, lL, eA, good, hL⟩
    have gA := paired_len lA
    have gL := paired_len lL
    have aL : (AL ++ allW ps n L).length ≤ 341 := by rw [eA]; exact allR_len h4
    rw [List.length_append] at aL
    refine ⟨_, rfl, _, .inl ⟨_, SqL.of r2h, rfl⟩, ?_⟩
    match xs, L, lL, gL, r2h with
    | [], [], _, _, _ =>
      rw [allW_nil, List.append_nil] at eA
      refine iteF ⟨_, rfl, k l acc H2 hl l2 ?_ s2⟩
      rw [← eA]
      exact lA.mono (fun u ws h => h) fun e es _ h => ⟨True.intro, h⟩
    | v :: xs, s0 :: L, lL, gL, r2h =>
      have hm := (good s0 List.mem_cons_self).le
      match n, hmn, eA, aL with
      | 0, hmn, _, _ => omega
      | n + 1, hmn, eA, aL =>
        have lxs : (v :: xs).length ≤ 341 := by
          rw [gL]
          have e : (allW ps (n + 1) (s0 :: L)).length = (s0 :: L).length + (allW ps n (nextW ps (s0 :: L))).length := by
            show ((s0 :: L) ++ allW ps n (nextW ps (s0 :: L))).length = _
            rw [List.length_append]
          omega
        refine iteT ⟨fun σ' H' => ∃ (r2 : Addr) (acc xs : List V) (AL L : List WS), σ' = [some (.str x), some (.ref ed), some (.ref l), some (.ref r2)] ∧ Same H H' ∧ H' l = some (.lst acc) ∧ H' r2 = some (.lst xs) ∧ r2 ≠ l ∧ LayP (fun e => e ≠ l) H' acc AL ∧ LayP (fun e => e ≠ l) H' xs L ∧ AL ++ allW ps n L = allR ps x ∧ GoodL ps x.length (m + 1) L ∧ L.length ≤ 4 ^ (m + 1), ?_, ?_⟩
        · rintro σ' H' ⟨r3, acc3, xs3, AL3, L3, rfl, a1, a2, a3, a4, a5, a6, a7, a8, a9⟩
          exact ⟨n, Nat.lt_succ_self _, m + 1, r3, acc3, xs3, AL3, L3, rfl, by omega, a1, a2, a3, a4, a5, a6, a7, a8, a9⟩
        · refine ⟨_, rfl, .inl ⟨rfl, _, SqL.of l2⟩, _, rfl, l, r2, _, _, rfl, rfl, l2, r2h, by rw [sizeLine_eq]; omega, ?_⟩
          have ut : ∀ {o : HO} (u : Addr) (ws : List V), H2 u = some (.tup ws) → (upd H2 l o) u = some (.tup ws) := fun u ws h => by
            rw [upd_ne (fun z => by rw [z, l2] at h; cases h)]
            exact h
          have l3 : (upd H2 l (.lst (acc ++ v :: xs))) l = some (.lst (acc ++ v :: xs)) := upd_same
          have s3 : Same H (upd H2 l (.lst (acc ++ v :: xs))) := upd_out hl s2
          have r3 : (upd H2 l (.lst (acc ++ v :: xs))) r2 = some (.lst (v :: xs)) := (upd_ne nrl).trans r2h
          have lA3 : LayP (fun e => e ≠ l) (upd H2 l (.lst (acc ++ v :: xs))) (acc ++ v :: xs) (AL ++ s0 :: L) := app2 (lA.mono (fun u ws h => ut u ws h) fun e es a h => ⟨a, (upd_ne a).trans h⟩) (lL.mono (fun u ws h => ut u ws h) fun e es a h => ⟨a, (upd_ne a).trans h⟩)
          have lL3 : LayP (fun e => e ≠ l) (upd H2 l (.lst (acc ++ v :: xs))) (v :: xs) (s0 :: L) := lL.mono (fun u ws h => ut u ws h) fun e es a h => ⟨a, (upd_ne a).trans h⟩
          generalize upd H2 l (.lst (acc ++ v :: xs)) = H3 at l3 s3 r3 lA3 lL3 ⊢
          have p256 : (s0 :: L).length ≤ 256 := Nat.le_trans hL (Nat.le_trans (Nat.pow_le_pow_right (by decide) (show m ≤ 4 by omega)) (by decide))
          refine ⟨_, rfl, _, rfl, r2, ed, v :: xs, es, s0 :: L, ps, x.length, m, rfl, r3, lL3.mono (fun u ws h => h) (fun e es _ h => ⟨True.intro, h⟩), ?_, eds.keep s3, ok, good, hx, h4, p256, fun r4 ys4 H4 hr4 h4l lay4 s4 => ?_⟩
          · rcases hed with hed | hed
            · exact .inl (s3 _ _ hed)
            · exact .inr (s3 _ _ hed)
          · refine ⟨r4, _, ys4, _, nextW ps (s0 :: L), rfl, s3.trans s4, s4 _ _ l3, h4l, (ne_of_none l3 hr4).symm, lA3.keep s4, lay4.mono (fun u ws h => h) (fun e es a h => ⟨(ne_of_none l3 a.1).symm, h⟩), ?_, good.next ok, ?_⟩
            · rw [List.append_assoc]
              exact eA
            · have := next_len (ps := ps) (L := s0 :: L)
              have q : (s0 :: L).length * ps.length ≤ 4 ^ m * 4 := Nat.mul_le_mul hL h4
              rw [Nat.pow_succ]
              omega
end
end Vk
set_option Elab.async false
set_option maxRecDepth 100000
set_option maxHeartbeats 4000000
set_option linter.all false
namespace Vk
open L2 PySem PySem.Spec PyProof.Rows PySem.VkX LamX NdefX
/-! ## a lambda of one parameter that raises nothing -/
structure LamK1 (P : Program) (w : World) (K : PySem.W.Frag) (mg : Str → Option Value) (base : Heap) (k : Nat) (F : LF) (sp : V → Hp → VK → Prop) : Prop where
  run : ∀ (A : Around) (outer : List Env) (s : Shared) (H : Hp) (f : Addr) (v : V) (u : Value) (Q : VK), A.guards = some [] → Room k A → Env0 P w K mg base A outer s H → H f = some (LamO f F) → H F.c = some (CodeO F.c F.qual) → L2.RelV v u → sp v H Q →
    codeAny (model P w) A (.call (.ref f) ⟨[u], []⟩) (CR CX0 outer P w H s Q E0) s
section
variable {P : Program} {w : World} {K : PySem.W.Frag} {mg : Str → Option Value} {base : Heap} {N : List Str} {F : LF} {k : Nat} {sp : V → Hp → VK → Prop} {p : Str}
end
/-! ## the first of those whose number is least -/
/-! ## min(xs, key=f) -/
end Vk
set_option Elab.async false
set_option maxRecDepth 100000
set_option maxHeartbeats 4000000
set_option linter.all false
namespace Vk
open L2 PySem PySem.Spec PyProof.Rows
/-! ## min of a list of tuples -/
end Vk
set_option Elab.async false
set_option maxRecDepth 100000
set_option linter.all false
set_option maxHeartbeats 4000000
namespace Vk
open PySem PySem.Spec PyProof.Rows L2
section
variable {P : Program} {w : World} {K : PySem.W.Frag} {mg : Str → Option Value} {base : Heap}
theorem nuMax2_int (a b : Int) : nuMax2 (.int a) (.int b) = some (.int (max a b)) := by
  show (some (decide (a < b))).map (fun c => if c = true then V.int b else V.int a) = _
  by_cases h : a < b
  · rw [decide_eq_true h, show max a b = b by omega]; rfl
  · rw [decide_eq_false h, show max a b = a by omega]; rfl
theorem nuMax3_int (a b c : Int) : nuMax3 (.int a) (.int b) (.int c) = some (.int (max (max a b) c)) := by
  show (nuMax2 (.int a) (.int b)).bind (fun m => nuMax2 m (.int c)) = _
  rw [nuMax2_int]
  exact nuMax2_int _ _
theorem or_bothH {c : Bool} {T B : Prop} (R : Hp → Prop) (G : Hp → Prop) (h : ∀ H, G H → R H) (h1 : c = true → (∀ H, G H → R H) → T) (h2 : c = false → (∀ H, G H → R H) → B) : if c = true then T else B := by
  cases c with
  | true => exact h1 rfl h
  | false => exact h2 rfl h
def popE (ws : List (Nat × Nat)) (e : Nat) : List (Nat × Nat) := match ws.getLast? with
  | some p => if p.2 = e then ws.dropLast else ws
  | none => ws
theorem popE_len {ws : List (Nat × Nat)} {e : Nat} : (popE ws e).length ≤ ws.length := by
  unfold popE
  split
  · split
    · rw [List.length_dropLast]; omega
    · exact Nat.le_refl _
  · exact Nat.le_refl _
theorem prn_last {H : Hp} : ∀ {ys : List V} {ws : List (Nat × Nat)}, PrN H ys ws → (ys = [] ∧ ws = []) ∨ ∃ ys' ws' t p, ys = ys' ++ [V.ref t] ∧ ws = ws' ++ [p] ∧ PrN H ys' ws' ∧ H t = some (.tup [.int ((p : Nat × Nat).1 : Nat), .int (p.2 : Nat)])
  | _, _, .nil => .inl ⟨rfl, rfl⟩
  | _, _, .cons (a := v) (b := p) ⟨t, e, ht⟩ h => by
    subst e
    rcases prn_last h with ⟨rfl, rfl⟩ | ⟨ys', ws', u, q, rfl, rfl, h', hu⟩
    · exact .inr ⟨[], [], t, p, rfl, rfl, .nil, ht⟩
    · exact .inr ⟨V.ref t :: ys', p :: ws', u, q, rfl, rfl, .cons ⟨t, rfl, ht⟩ h', hu⟩
theorem popE_snoc {ws : List (Nat × Nat)} {p : Nat × Nat} {e : Nat} : popE (ws ++ [p]) e = if p.2 = e then ws else ws ++ [p] := by
  unfold popE
  rw [List.getLast?_append, List.getLast?_singleton]
  show (if p.2 = e then (ws ++ [p]).dropLast else ws ++ [p]) = _
  rw [List.dropLast_concat]
end
end Vk
set_option Elab.async false
set_option maxRecDepth 100000
set_option linter.all false
set_option maxHeartbeats 4000000
namespace Vk
open PySem PySem.Spec PyProof.Rows L2
section
variable {P : Program} {w : World} {K : PySem.W.Frag} {mg : Str → Option Value} {base : Heap}
theorem mem_around {n b k : Nat} {p : Nat × Nat} : p ∈ aroundW n b k ↔ p.1 < k ∧ max b (p.1 + 1) ≤ p.2 ∧ p.2 ≤ n := by
  unfold aroundW
  rw [List.mem_flatMap]
  constructor
  · rintro ⟨i, hi, h⟩
    obtain ⟨e, he, rfl⟩ := List.mem_map.mp h
    have := List.mem_range'_1.mp he
    exact ⟨List.mem_range.mp hi, this.1, by show e ≤ n; omega⟩
  · rintro ⟨h1, h2, h3⟩
    exact ⟨p.1, List.mem_range.mpr h1, List.mem_map.mpr ⟨p.2, List.mem_range'_1.mpr ⟨h2, by omega⟩, rfl⟩⟩
theorem asc_eq : ∀ {l1 l2 : List (Nat × Nat)}, l1.Pairwise (fun p q => p.1 < q.1) → l2.Pairwise (fun p q => p.1 < q.1) → (∀ p, p ∈ l1 ↔ p ∈ l2) → l1 = l2
  | [], [], _, _, _ => rfl
  | [], q :: _, _, _, h => absurd ((h q).mpr List.mem_cons_self) (List.not_mem_nil)
  | p :: _, [], _, _, h => absurd ((h p).mp List.mem_cons_self) (List.not_mem_nil)
  | p :: t1, q :: t2, h1, h2, h => by
    have c1 := List.pairwise_cons.mp h1
    have c2 := List.pairwise_cons.mp h2
    have e : p = q := by
      rcases List.mem_cons.mp ((h p).mp List.mem_cons_self) with e | m
      · exact e
      · rcases List.mem_cons.mp ((h q).mpr List.mem_cons_self) with e | m2
        · exact e.symm
        · have := c2.1 p m
          have := c1.1 q m2
          omega
    subst e
    rw [asc_eq c1.2 c2.2 fun r => ?_]
    constructor
    · intro m
      rcases List.mem_cons.mp ((h r).mp (List.mem_cons_of_mem _ m)) with e | m2
      · have := c1.1 r m
        rw [e] at this
        omega
      · exact m2
    · intro m
      rcases List.mem_cons.mp ((h r).mpr (List.mem_cons_of_mem _ m)) with e | m2
      · have := c2.1 r m
        rw [e] at this
        omega
      · exact m2
theorem around_asc {n b : Nat} : ∀ {k : Nat}, (aroundW n b k).Pairwise (fun p q => p.1 < q.1 ∨ (p.1 = q.1 ∧ p.2 < q.2))
  | 0 => by simp [aroundW]
  | k + 1 => by
    rw [aroundW_succ, List.pairwise_append]
    refine ⟨around_asc, ?_, fun p hp q hq => ?_⟩
    · rw [List.pairwise_map]
      exact (List.pairwise_lt_range').imp fun h => .inr ⟨rfl, h⟩
    · obtain ⟨e, he, rfl⟩ := List.mem_map.mp hq
      exact .inl (aroundW_mem hp).2.2
end
end Vk
set_option Elab.async false
set_option maxRecDepth 100000
set_option linter.all false
set_option maxHeartbeats 4000000
namespace Vk
open PySem PySem.Spec PyProof.Rows L2
/-! ## least windows, by where a span must end and what stands twice -/
def lendG (M : Nat → Nat) (tw : Nat → Nat → Bool) (a : Nat) : Nat → Nat → Nat
  | 0, e => e
  | f + 1, e => if e ≤ M a ∧ tw a e = true then lendG M tw a f (e + 1) else e
def endG (n : Nat) (M : Nat → Nat) (tw : Nat → Nat → Bool) (b : Nat) : Nat → Nat
  | 0 => 0
  | k + 1 => lendG M tw k (n + 1) (max (endG n M tw b k) (max (k + 1) b))
def toldG (n : Nat) (M : Nat → Nat) (tw : Nat → Nat → Bool) (b : Nat) : Nat → List (Nat × Nat)
  | 0 => []
  | k + 1 => if endG n M tw b (k + 1) ≤ M k then popE (toldG n M tw b k) (endG n M tw b (k + 1)) ++ [(k, endG n M tw b (k + 1))] else toldG n M tw b k
theorem lendG_step {M : Nat → Nat} {tw : Nat → Nat → Bool} {a f e : Nat} (h : e ≤ M a ∧ tw a e = true) : lendG M tw a (f + 1) e = lendG M tw a f (e + 1) := by
  rw [lendG, if_pos h]
theorem lendG_stop {M : Nat → Nat} {tw : Nat → Nat → Bool} {a e : Nat} (h : ¬ (e ≤ M a ∧ tw a e = true)) : ∀ f, lendG M tw a f e = e
  | 0 => rfl
  | f + 1 => by rw [lendG, if_neg h]
theorem toldG_len {n : Nat} {M : Nat → Nat} {tw : Nat → Nat → Bool} {b : Nat} : ∀ {k : Nat}, (toldG n M tw b k).length ≤ k
  | 0 => Nat.le_refl _
  | k + 1 => by
    have q := toldG_len (n := n) (M := M) (tw := tw) (b := b) (k := k)
    unfold toldG
    split
    · have := popE_len (ws := toldG n M tw b k) (e := endG n M tw b (k + 1))
      rw [List.length_append, List.length_singleton]
      omega
    · omega
abbrev leastOf (l : List (Nat × Nat)) : List (Nat × Nat) := l.filter fun s => (l.filter (innerB s)).isEmpty
abbrev goodG (n : Nat) (M : Nat → Nat) (tw : Nat → Nat → Bool) (a b : Nat) : List (Nat × Nat) := (aroundW n b (a + 1)).filter fun p => decide (p.2 ≤ M p.1) && !tw p.1 p.2
section
variable {n : Nat} {M : Nat → Nat} {tw : Nat → Nat → Bool}
theorem lendG_gen (hM : ∀ a, M a ≤ n) {a : Nat} : ∀ (f e : Nat), n + 1 ≤ e + f →
    e ≤ lendG M tw a f e ∧ (∀ c, e ≤ c → c < lendG M tw a f e → c ≤ n ∧ tw a c = true) ∧ (lendG M tw a f e ≤ M a → tw a (lendG M tw a f e) = false) ∧ (e ≤ n + 1 → lendG M tw a f e ≤ n + 1)
  | 0, e, h1 => ⟨Nat.le_refl _, fun c c1 c2 => by rw [lendG] at c2; omega, fun h => by rw [lendG] at h; have := hM a; omega, fun h => h⟩
  | f + 1, e, h1 => by
    have ha := hM a
    rw [lendG]
    split
    · rename_i c
      obtain ⟨s1, s2, s3, s4⟩ := lendG_gen hM (a := a) f (e + 1) (by omega)
      refine ⟨by omega, fun d d1 d2 => ?_, s3, fun _ => s4 (by omega)⟩
      by_cases be : d = e
      · rw [be]; exact ⟨by omega, c.2⟩
      · exact s2 d (by omega) d2
    · rename_i c
      refine ⟨Nat.le_refl _, fun d d1 d2 => by omega, fun h => ?_, fun h => h⟩
      cases e2 : tw a e with
      | false => rfl
      | true => exact absurd ⟨h, e2⟩ c
variable (hM : ∀ a, M a ≤ n) (mono : ∀ a c, a ≤ c → M a ≤ M c) (less : ∀ a c e, tw a e = true → a ≤ c → c ≤ e → e ≤ n → tw c e = true) (more : ∀ a c e, tw a e = true → a ≤ c → c ≤ e → e ≤ n → tw a c = true)
include hM
theorem endG_up {b k : Nat} : endG n M tw b k ≤ endG n M tw b (k + 1) := by
  have := (lendG_gen (tw := tw) hM (a := k) (n + 1) (max (endG n M tw b k) (max (k + 1) b)) (by omega)).1
  have e : endG n M tw b (k + 1) = lendG M tw k (n + 1) (max (endG n M tw b k) (max (k + 1) b)) := rfl
  rw [e]
  omega
theorem endG_mono {b i : Nat} : ∀ {j : Nat}, i ≤ j → endG n M tw b i ≤ endG n M tw b j
  | 0, h => by rw [Nat.le_zero.mp h]; exact Nat.le_refl _
  | j + 1, h => by
    by_cases e : i = j + 1
    · rw [e]; exact Nat.le_refl _
    · exact Nat.le_trans (endG_mono (by omega)) (endG_up hM)
include less in
theorem endG_spec {b : Nat} (hb : b ≤ n) : ∀ {k : Nat}, k < n →
    max b (k + 1) ≤ endG n M tw b (k + 1) ∧ endG n M tw b (k + 1) ≤ n + 1 ∧ (∀ c, max b (k + 1) ≤ c → c < endG n M tw b (k + 1) → c ≤ n ∧ tw k c = true) ∧ (endG n M tw b (k + 1) ≤ M k → tw k (endG n M tw b (k + 1)) = false) := by
  intro k hk
  have prev : endG n M tw b k ≤ n + 1 ∧ ∀ c, max b (k + 1) ≤ c → c < endG n M tw b k → c ≤ n ∧ tw k c = true := by
    cases k with
    | zero => exact ⟨Nat.zero_le _, fun c _ h => absurd h (Nat.not_lt_zero _)⟩
    | succ j =>
      obtain ⟨p1, p2, p3, p4⟩ := endG_spec hb (k := j) (by omega)
      refine ⟨p2, fun c c1 c2 => ?_⟩
      obtain ⟨q1, q2⟩ := p3 c (by omega) c2
      exact ⟨q1, less j (j + 1) c q2 (by omega) (by omega) q1⟩
  obtain ⟨q1, q2⟩ := prev
  obtain ⟨s1, s2, s3, s4⟩ := lendG_gen (tw := tw) hM (a := k) (n + 1) (max (endG n M tw b k) (max (k + 1) b)) (by omega)
  have e : endG n M tw b (k + 1) = lendG M tw k (n + 1) (max (endG n M tw b k) (max (k + 1) b)) := rfl
  rw [← e] at s1 s2 s3 s4
  refine ⟨by omega, s4 (by omega), fun c c1 c2 => ?_, s3⟩
  by_cases hc : c < endG n M tw b k
  · exact q2 c c1 hc
  · exact s2 c (by omega) c2
include less more in
theorem mem_goodG {a b : Nat} (hb : b ≤ n) {p : Nat × Nat} : p ∈ goodG n M tw a b ↔ p.1 < min (a + 1) n ∧ endG n M tw b (p.1 + 1) ≤ p.2 ∧ p.2 ≤ M p.1 := by
  unfold goodG
  have hm := hM p.1
  rw [List.mem_filter, mem_around, Bool.and_eq_true, decide_eq_true_eq, Bool.not_eq_true']
  constructor
  · rintro ⟨⟨h1, h2, h3⟩, h4, h5⟩
    have hn : p.1 < n := by omega
    refine ⟨by omega, Nat.le_of_not_lt fun q => ?_, h4⟩
    rw [((endG_spec hM less hb hn).2.2.1 p.2 h2 q).2] at h5
    cases h5
  · rintro ⟨h1, h2, h3⟩
    have hn : p.1 < n := by omega
    obtain ⟨s1, s2, s3, s4⟩ := endG_spec hM less hb hn
    refine ⟨⟨by omega, by omega, by omega⟩, h3, ?_⟩
    cases q : tw p.1 p.2 with
    | false => rfl
    | true =>
      have := more p.1 (endG n M tw b (p.1 + 1)) p.2 q (by omega) h2 (by omega)
      rw [s4 (by omega)] at this
      cases this
include mono less more in
theorem mem_leastG {a b : Nat} (hb : b ≤ n) {p : Nat × Nat} : p ∈ leastOf (goodG n M tw a b) ↔ p.1 < min (a + 1) n ∧ p.2 = endG n M tw b (p.1 + 1) ∧ p.2 ≤ M p.1 ∧ ∀ i, p.1 < i → i < min (a + 1) n → endG n M tw b (i + 1) ≠ endG n M tw b (p.1 + 1) := by
  rw [List.mem_filter, List.isEmpty_iff, List.filter_eq_nil_iff, mem_goodG hM less more hb]
  have inn : ∀ q : Nat × Nat, innerB p q = true ↔ q ≠ p ∧ p.1 ≤ q.1 ∧ q.2 ≤ p.2 := fun q => by
    unfold innerB
    rw [Bool.and_eq_true, Bool.and_eq_true, decide_eq_true_eq, decide_eq_true_eq, decide_eq_true_eq]
  constructor
  · rintro ⟨⟨h1, h2, h3⟩, h4⟩
    have e : p.2 = endG n M tw b (p.1 + 1) := by
      refine Classical.byContradiction fun ne => ?_
      refine h4 (p.1, endG n M tw b (p.1 + 1)) ((mem_goodG hM less more hb).mpr ⟨h1, Nat.le_refl _, by show endG n M tw b (p.1 + 1) ≤ M p.1; omega⟩) ((inn _).mpr ⟨fun z => ne (congrArg Prod.snd z).symm, Nat.le_refl _, h2⟩)
    refine ⟨h1, e, h3, fun i i1 i2 i3 => ?_⟩
    have mi := mono p.1 i (by omega)
    refine h4 (i, endG n M tw b (i + 1)) ((mem_goodG hM less more hb).mpr ⟨i2, Nat.le_refl _, by show endG n M tw b (i + 1) ≤ M i; omega⟩) ((inn _).mpr ⟨fun z => ?_, Nat.le_of_lt i1, by show endG n M tw b (i + 1) ≤ _; omega⟩)
    have : i = p.1 := congrArg Prod.fst z
    omega
  · rintro ⟨h1, e, h3, h4⟩
    refine ⟨⟨h1, Nat.le_of_eq e.symm, h3⟩, fun q hq hi => ?_⟩
    obtain ⟨i1, i2, i3⟩ := (inn q).mp hi
    obtain ⟨q1, q2, q3⟩ := (mem_goodG hM less more hb).mp hq
    have mo := endG_mono (tw := tw) (b := b) hM (show p.1 + 1 ≤ q.1 + 1 by omega)
    by_cases c : p.1 = q.1
    · refine i1 (Prod.ext c.symm ?_)
      rw [c] at e mo
      omega
    · exact h4 q.1 (by omega) q1 (by omega)
include mono less more in
theorem leastG_asc {a b : Nat} (hb : b ≤ n) : (leastOf (goodG n M tw a b)).Pairwise (fun p q => p.1 < q.1) := by
  have h : (leastOf (goodG n M tw a b)).Pairwise (fun p q => p.1 < q.1 ∨ (p.1 = q.1 ∧ p.2 < q.2)) := (around_asc.filter _).filter _
  refine h.imp_of_mem fun {p q} hp hq r => ?_
  rcases r with r | ⟨r1, r2⟩
  · exact r
  · have e1 := ((mem_leastG hM mono less more hb).mp hp).2.1
    have e2 := ((mem_leastG hM mono less more hb).mp hq).2.1
    rw [r1] at e1
    omega
include mono in
theorem toldG_spec {b : Nat} : ∀ {k : Nat}, (toldG n M tw b k).Pairwise (fun p q => p.1 < q.1) ∧ ∀ p : Nat × Nat, p ∈ toldG n M tw b k ↔ p.1 < k ∧ p.2 = endG n M tw b (p.1 + 1) ∧ p.2 ≤ M p.1 ∧ ∀ i, p.1 < i → i < k → endG n M tw b (i + 1) ≠ endG n M tw b (p.1 + 1)
  | 0 => ⟨.nil, fun p => ⟨fun h => (by cases h), fun h => absurd h.1 (Nat.not_lt_zero _)⟩⟩
  | k + 1 => by
    obtain ⟨hp, hm⟩ := toldG_spec (b := b) (k := k)
    have tE : toldG n M tw b (k + 1) = if endG n M tw b (k + 1) ≤ M k then popE (toldG n M tw b k) (endG n M tw b (k + 1)) ++ [(k, endG n M tw b (k + 1))] else toldG n M tw b k := rfl
    rw [tE]
    have mo : ∀ i, i < k → endG n M tw b (i + 1) ≤ endG n M tw b (k + 1) := fun i hi => endG_mono hM (by omega)
    by_cases c : endG n M tw b (k + 1) ≤ M k
    · rw [if_pos c]
      have pop : (popE (toldG n M tw b k) (endG n M tw b (k + 1))).Pairwise (fun p q => p.1 < q.1) ∧ ∀ p : Nat × Nat, p ∈ popE (toldG n M tw b k) (endG n M tw b (k + 1)) ↔ p ∈ toldG n M tw b k ∧ p.2 ≠ endG n M tw b (k + 1) := by
        rcases List.eq_nil_or_concat (toldG n M tw b k) with h0 | ⟨W, q, h0⟩
        · rw [h0]
          exact ⟨.nil, fun p => ⟨fun h => (by cases h), fun h => h.1⟩⟩
        · rw [List.concat_eq_append] at h0
          rw [h0] at hp hm
          rw [h0, popE_snoc]
          have pa := List.pairwise_append.mp hp
          have hq := (hm q).mp (List.mem_append_right _ List.mem_cons_self)
          have low : ∀ p ∈ W, p.2 ≠ endG n M tw b (k + 1) := fun p m z => by
            have h1 := pa.2.2 p m q List.mem_cons_self
            have h2 := (hm p).mp (List.mem_append_left _ m)
            have h3 := endG_mono (tw := tw) (b := b) hM (show p.1 + 1 ≤ q.1 + 1 by omega)
            have h4 := mo q.1 hq.1
            exact h2.2.2.2 q.1 h1 hq.1 (by omega)
          split
          · rename_i hqe
            refine ⟨pa.1, fun p => ⟨fun m => ⟨List.mem_append_left _ m, low p m⟩, fun m => ?_⟩⟩
            rcases List.mem_append.mp m.1 with m1 | m1
            · exact m1
            · rw [List.mem_singleton.mp m1] at m
              exact absurd hqe m.2
          · rename_i hqe
            refine ⟨hp, fun p => ⟨fun m => ⟨m, ?_⟩, fun m => m.1⟩⟩
            rcases List.mem_append.mp m with m1 | m1
            · exact low p m1
            · rw [List.mem_singleton.mp m1]
              exact hqe
      refine ⟨List.pairwise_append.mpr ⟨pop.1, List.pairwise_singleton _ _, fun p m q m2 => ?_⟩, fun p => ?_⟩
      · rw [List.mem_singleton.mp m2]
        exact ((hm p).mp ((pop.2 p).mp m).1).1
      · rw [List.mem_append, pop.2 p, hm p, List.mem_singleton]
        constructor
        · rintro (⟨⟨h1, h2, h3, h4⟩, h5⟩ | rfl)
          · refine ⟨by omega, h2, h3, fun i i1 i2 => ?_⟩
            by_cases ik : i = k
            · rw [ik, ← h2]
              exact fun z => h5 z.symm
            · exact h4 i i1 (by omega)
          · exact ⟨Nat.lt_succ_self _, rfl, c, fun i i1 i2 => absurd (show k < i from i1) (by omega)⟩
        · rintro ⟨h1, h2, h3, h4⟩
          by_cases pk : p.1 = k
          · exact .inr (Prod.ext pk (by rw [h2, pk]))
          · refine .inl ⟨⟨by omega, h2, h3, fun i i1 i2 => h4 i i1 (by omega)⟩, fun z => ?_⟩
            exact h4 k (by omega) (Nat.lt_succ_self _) (by omega)
    · rw [if_neg c]
      refine ⟨hp, fun p => ?_⟩
      rw [hm p]
      constructor
      · rintro ⟨h1, h2, h3, h4⟩
        refine ⟨by omega, h2, h3, fun i i1 i2 => ?_⟩
        by_cases ik : i = k
        · have := mono p.1 k (by omega)
          rw [ik]; omega
        · exact h4 i i1 (by omega)
      · rintro ⟨h1, h2, h3, h4⟩
        have pk : p.1 ≠ k := fun z => by rw [z] at h2 h3; omega
        exact ⟨by omega, h2, h3, fun i i1 i2 => h4 i i1 (by omega)⟩
include mono less more in
theorem told_least {a b : Nat} (hb : b ≤ n) : toldG n M tw b (min (a + 1) n) = leastOf (goodG n M tw a b) :=
  asc_eq (toldG_spec hM mono).1 (leastG_asc hM mono less more hb) fun p => ((toldG_spec hM mono).2 p).trans (mem_leastG hM mono less more hb).symm
end
end Vk
set_option Elab.async false
set_option maxRecDepth 100000
set_option linter.all false
set_option maxHeartbeats 4000000
namespace Vk
open PySem PySem.Spec PyProof.Rows L2
def kEd (L : List (Option Nat)) (n : Nat) : Nat → Nat
  | 0 => n
  | d + 1 => if some (n - (d + 1)) ∈ L then kEd L n d else n - (d + 1)
def endsG (L : List (Option Nat)) (n k : Nat) : List V := (List.range (n + 1)).map fun j => V.int ((if j < k then j else kEd L n (n - j) : Nat) : Int)
section
variable {P : Program} {w : World} {K : PySem.W.Frag} {mg : Str → Option Value} {base : Heap}
theorem endsG_start {L : List (Option Nat)} {n : Nat} : rgV 0 ((n : Int) + 1) = endsG L n n := by
  unfold rgV endsG
  rw [show ((n : Int) + 1 - 0).toNat = n + 1 by omega]
  refine List.map_congr_left fun j hj => ?_
  have := List.mem_range.mp hj
  by_cases h : j < n
  · rw [if_pos h, Int.zero_add]
  · rw [if_neg h, Int.zero_add, show n - j = 0 by omega, show j = n by omega]
    rfl
theorem endsG_at {L : List (Option Nat)} {n k j : Nat} (hj : j ≤ n) (h : k ≤ j) : (endsG L n k)[j]? = some (V.int (kEd L n (n - j) : Nat)) := by
  unfold endsG
  rw [List.getElem?_map, List.getElem?_range (by omega), Option.map_some, if_neg (by omega)]
theorem endsG_same {L : List (Option Nat)} {n k : Nat} (h : k < n) (hk : some k ∉ L) : endsG L n (k + 1) = endsG L n k := by
  unfold endsG
  refine List.map_congr_left fun j _ => ?_
  by_cases c : j < k
  · rw [if_pos c, if_pos (by omega)]
  · rw [if_neg c]
    by_cases e : j = k
    · subst e
      rw [if_pos (by omega), show n - j = (n - j - 1) + 1 by omega]
      show _ = V.int ((if some (n - (n - j - 1 + 1)) ∈ L then _ else _ : Nat) : Int)
      rw [show n - (n - j - 1 + 1) = j by omega, if_neg hk]
    · rw [if_neg (by omega)]
theorem endsG_set {L : List (Option Nat)} {n k : Nat} (h : k < n) (hk : some k ∈ L) : (endsG L n (k + 1)).set k (V.int (kEd L n (n - (k + 1)) : Nat)) = endsG L n k := by
  have e0 : kEd L n (n - k) = kEd L n (n - (k + 1)) := by
    rw [show n - k = (n - (k + 1)) + 1 by omega]
    show (if some (n - (n - (k + 1) + 1)) ∈ L then _ else _) = _
    rw [show n - (n - (k + 1) + 1) = k by omega, if_pos hk]
  unfold endsG
  refine List.ext_getElem? fun j => ?_
  rw [List.getElem?_set, List.getElem?_map, List.getElem?_map]
  by_cases e : k = j
  · subst e
    rw [if_pos rfl, if_pos (by rw [List.length_map, List.length_range]; omega), List.getElem?_range (by omega), Option.map_some, if_neg (by omega), e0]
  · rw [if_neg e]
    by_cases hj : j < n + 1
    · rw [List.getElem?_range hj]
      show some (V.int ((if j < k + 1 then j else kEd L n (n - j) : Nat) : Int)) = some (V.int ((if j < k then j else kEd L n (n - j) : Nat) : Int))
      by_cases h1 : j < k + 1
      · rw [if_pos h1, if_pos (by omega)]
      · rw [if_neg h1, if_neg (by omega)]
    · rw [List.getElem?_eq_none (by rw [List.length_range]; omega)]
      rfl
def spKept : Sp := fun vs H Q _ => ∃ (e : Addr) (n : Nat) (es : List V) (L : List (Option Nat)), vs = [.ref e, .int (n : Nat)] ∧ n ≤ 100 ∧ L.length ≤ 100 ∧ H e = some (.lst es) ∧ EnP H es L ∧ ∀ (l : Addr) H', H l = none → H' l = some (.lst (endsG L n 0)) → Same H H' → Q (.ref l) H'
abbrev s_kept_ends : Stmt := top 45
theorem sc_kept_ends : FnScope ["entries", "length", "kept", "entry", "ends", "begin"] ["entries", "length"] (defScope s_kept_ends) := ⟨rfl, rfl, rfl, by decide +kernel, rfl, by decide +kernel, by decide +kernel⟩
theorem b_kept_ends {f : Addr} {fd : FuncData} (F : Fun K "kept_ends" "kept_ends" s_kept_ends f fd) (T : Txt mg) : FnG P w K mg base CX0 1 f fd ["entries", "length"] spKept := by
  refine okG0 F sc_kept_ends (fun vs H Q E h => ?_) (fun cdv A outer s H vs Q E hg hr h => ?_)
  · obtain ⟨e, n, es, L, rfl, _⟩ := h
    rfl
  · have hu := hu_of hr
    have hu64 := hr.units
    obtain ⟨e, n, es, L, rfl, hn, hl100, he, hL, k⟩ := h
    have ges := paired_len hL
    refine ⟨_, (pss_cons (ps_setDc (i := 2) (own := [("entry", 3)]) (g := gName 3) rfl sc_kept_ends.nd rfl rfl (sw_trueD rfl rfl rfl (by decide +kernel)) (pi_list (pv 0)) (blkOk_by (own := [("entry", 3)]) (N := ["entries", "length", "kept", "entry", "ends", "begin"]) (sc := defScope s_kept_ends) (by decide +kernel)) (fun _ _ _ _ _ => (pg_name (i := 3) sc_kept_ends.nd rfl (Or.inl rfl))) (fun _ _ _ _ _ => (pts_one (pt_not (pt_val (pe_callB (call_isiK (K := K) rfl) (by rfl) T.isinstance (by decide +kernel) (pa_cons (pv 3) (pa_cons (pe_bltn (v := .ty "tuple") (by rfl) T.tuple rfl rfl) pa_nil))))))) (fun _ _ _ _ _ => (pv 3)) (fun _ _ _ _ _ => pe_bl))
      (pss_cons (ps_set (i := 4) sc_kept_ends.nd rfl (Or.inl rfl) (pe_listRg rfl (by rfl) T.list (prg_1 (by rfl) T.range (pe_op op_add (pv 1) pe_int))))
      (pss_cons (ps_for PassesOwn.never rfl (pi_revR (by rfl) T.reversed (prg_1 (by rfl) T.range (pv 1))) (pg_name (i := 5) sc_kept_ends.nd rfl (Or.inl rfl)) (pss_one (ps_if (pt_cmp (pc_din hu (pv 5) (pv 2))) (pss_one (ps_asg (pe_ix ix_seq (pv 4) (pe_op op_add (pv 5) pe_int) (fun _ _ => rfl)) (pg_sub (pv 4) (pv 5) set_list))) pss_nil)))
      (pss_one (ps_ret (pv 4)))))), ?_⟩
    refine ⟨_, rfl, e, rfl, ⟨_, SqL.of he⟩, fun D hD => ?_⟩
    have sD := same_new (o := .dK []) hD
    refine dc_list (K := K) (a := e) (xs := es) (fun i H' => (∃ kvs : List (Key × V), H' D = some (.dK kvs) ∧ kvs.length ≤ i ∧ ∀ j : Nat, (valV kvs (.inl (j : Int))).isSome = decide (some j ∈ L.take i)) ∧ Same H H') ⟨⟨[], upd_same, Nat.le_refl _, fun j => rfl⟩, sD⟩ (fun i H' _ p => SqL.of (p.2 _ _ he)) (fun i v H' hv p => ?_) (fun H' p => ?_)
    · obtain ⟨⟨kvs, hDz, kl, kv⟩, sm⟩ := p
      have hi : i < es.length := (List.getElem?_eq_some_iff.mp hv).1
      obtain ⟨o, ho, o1, o2⟩ := paired_at hL hv
      have tk : L.take (i + 1) = L.take i ++ [o] := by rw [List.take_add_one, ho]; rfl
      match o, o1, o2, tk with
      | some a, o1, _, tk =>
        have ev := o1 a rfl
        subst ev
        refine ⟨rfl, _, rfl, .int (a : Nat), .ty "tuple", .type "int", .type "tuple", false, rfl, .ty "tuple", .base (.int _), kit_ty (by decide +kernel), _, rfl, ?_⟩
        refine iteT ⟨_, rfl, kvs, Sum.inl ((a : Nat) : Int), rfl, hDz, fewL (by omega), ⟨_, upd_same, Nat.le_trans (length_putK _ _ _) (by omega), fun j => ?_⟩, upd_out hD sm⟩
        rw [valV_put, tk]
        by_cases c : j = a
        · subst c
          rw [if_pos rfl]
          exact (decide_eq_true (List.mem_append_right _ List.mem_cons_self)).symm
        · rw [if_neg (fun z : (Sum.inl ((j : Nat) : Int) : Key) = Sum.inl ((a : Nat) : Int) => c (Int.ofNat.inj (Sum.inl.inj z))), kv j, Bool.eq_iff_iff, decide_eq_true_eq, decide_eq_true_eq, List.mem_append, List.mem_singleton]
          exact ⟨.inl, fun h => h.elim id fun z => absurd (Option.some.inj z) c⟩
      | none, _, o2, tk =>
        obtain ⟨u, xs, ev, hu1⟩ := o2 rfl
        subst ev
        have tyv : TyX K H' (.ref u) (.type "tuple") := .base (.tup (sm _ _ hu1))
        refine ⟨rfl, _, rfl, .ref u, .ty "tuple", .type "tuple", .type "tuple", true, rfl, .ty "tuple", tyv, kit_ty (by decide +kernel), _, rfl, ?_⟩
        refine iteF ⟨⟨kvs, hDz, by omega, fun j => ?_⟩, sm⟩
        rw [kv j, tk, Bool.eq_iff_iff, decide_eq_true_eq, decide_eq_true_eq, List.mem_append, List.mem_singleton]
        exact ⟨.inl, fun h => h.elim id fun z => nomatch z⟩
    · obtain ⟨⟨kvs, hD2, kl, kv⟩, s2⟩ := p
      rw [List.take_of_length_le (by omega)] at kv
      refine ⟨_, rfl, _, _, rfl, rfl, _, rfl, .of_le (by omega) (by omega) (by omega) (by omega), fun l hl => ?_⟩
      have sl := same_new (o := .lst (rgV 0 ((n : Int) + 1))) hl
      have hl3 : (upd H' l (.lst (rgV 0 ((n : Int) + 1)))) l = some (.lst (endsG L n n)) := by
        rw [upd_same, endsG_start]
      have hD3 := sl _ _ hD2
      have hl0 := none_up s2 hl
      have s3 := s2.trans sl
      have nDl : l ≠ D := (ne_of_none hD2 hl).symm
      generalize upd H' l (.lst (rgV 0 ((n : Int) + 1))) = H3 at hl3 hD3 s3 ⊢
      refine ⟨_, rfl, _, rfl, by omega, by omega, by omega, by omega, ?_⟩
      have e0 : (0 : Int) + ((((n : Nat) : Int) - 0).toNat : Nat) - 1 = (n : Int) - 1 := by omega
      have e1 : (((n : Nat) : Int) - 0).toNat = n := by omega
      rw [e0, e1]
      refine for_rangeC (fun i σ H' => ∃ (o3 o5 : Option V), σ = [some (.ref e), some (.int (n : Nat)), some (.ref D), o3, some (.ref l), o5] ∧ H' D = some (.dK kvs) ∧ H' l = some (.lst (endsG L n (n - i))) ∧ Same H H') ⟨_, _, rfl, hD3, hl3, s3⟩ (fun i σ H4 hi p => ?_) (fun σ H4 p => ?_)
      · obtain ⟨o3, o5, rfl, hD4, hl4, s4⟩ := p
        have eb : (n : Int) - 1 + (i : Nat) * (-1 : Int) = ((n - 1 - i : Nat) : Int) := by omega
        rw [eb]
        have hk : n - 1 - i < n := by omega
        have es' : n - i = (n - 1 - i) + 1 := by omega
        have en : n - (i + 1) = n - 1 - i := by omega
        rw [es'] at hl4
        rw [en]
        generalize n - 1 - i = q at hk hl4
        have ll : (endsG L n (q + 1)).length = n + 1 := by
          unfold endsG
          rw [List.length_map, List.length_range]
        refine ⟨_, rfl, _, rfl, D, _, rfl, DGet.k (k := Sum.inl ((q : Nat) : Int)) hD4, _, rfl, ?_⟩
        rw [kv q]
        by_cases hq : some q ∈ L
        · rw [decide_eq_true hq]
          refine iteT ?_
          have ix : atI (endsG L n (q + 1)) (((q : Nat) : Int) + 1) = some (V.int (kEd L n (n - (q + 1)) : Nat)) := by
            rw [show ((q : Nat) : Int) + 1 = ((q + 1 : Nat) : Int) by omega]
            exact atI_nat (endsG_at (by omega) (Nat.le_refl _))
          have ixq : ixN (endsG L n (q + 1)).length ((q : Nat) : Int) = some q := by
            unfold ixN
            rw [if_pos (by omega), if_pos (by omega)]
            rfl
          refine ⟨_, rfl, _, rfl, _, _, rfl, rfl, .inl ⟨l, _, _, _, rfl, rfl, SqL.of hl4, ix, _, rfl, _, rfl, l, _, _, q, rfl, rfl, hl4, ixq, ?_⟩⟩
          rw [endsG_set hk hq]
          exact ⟨_, _, rfl, (upd_ne nDl.symm).trans hD4, upd_same, upd_out hl0 s4⟩
        · rw [decide_eq_false hq]
          rw [endsG_same hk hq] at hl4
          exact iteF ⟨_, _, rfl, hD4, hl4, s4⟩
      · obtain ⟨o3, o5, rfl, hD4, hl4, s4⟩ := p
        rw [Nat.sub_self] at hl4
        exact ⟨_, rfl, k l H4 hl0 hl4 s4⟩
end
end Vk
set_option Elab.async false
set_option maxRecDepth 100000
set_option linter.all false
set_option maxHeartbeats 4000000
namespace Vk
open PySem PySem.Spec PyProof.Rows L2
section
variable {P : Program} {w : World} {K : PySem.W.Frag} {mg : Str → Option Value} {base : Heap}
def spIn1 : Sp := fun vs H Q _ => ∃ (l : Addr) (ts : List Str) (w : Str), vs = [.ref l, .str w] ∧ H l = some (.lst (ts.map V.str)) ∧ Q (.bl (ts.any fun x => decide (2 ≤ (plc x w).length))) H
abbrev s_stands_twice_in_one : Stmt := top 46
theorem sc_stands_twice_in_one : FnScope ["texts", "word", "text"] ["texts", "word"] (defScope s_stands_twice_in_one) := ⟨rfl, rfl, rfl, by decide +kernel, rfl, by decide +kernel, by decide +kernel⟩
theorem b_stands_twice_in_one {f : Addr} {fd : FuncData} (F : Fun K "stands_twice_in_one" "stands_twice_in_one" s_stands_twice_in_one f fd) (T : Txt mg) (c_stands_twice : CalG P w K mg base CX0 1 "stands_twice" spTwice) : FnG P w K mg base CX0 2 f fd ["texts", "word"] spIn1 := by
  refine okG0 F sc_stands_twice_in_one (fun vs H Q E h => ?_) (fun cdv A outer s H vs Q E hg hr h => ?_)
  · obtain ⟨l, ts, w, rfl, _⟩ := h
    rfl
  · have hu := hu_of hr
    have hu64 := hr.units
    obtain ⟨l, ts, w, rfl, hl, k⟩ := h
    have hr1 : Room 1 _ := hr
    refine ⟨_, (pss_cons (ps_for PassesOwn.never rfl (pi_list (pv 0)) (pg_name (i := 2) sc_stands_twice_in_one.nd rfl (Or.inl rfl)) (pss_one (ps_if (pt_val (pe_cG c_stands_twice hg hr (by decide) pass0 (pa_cons (pv 2) (pa_cons (pv 1) pa_nil)))) (pss_one (ps_ret pe_bl)) pss_nil)))
      (pss_one (ps_ret pe_bl))), ?_⟩
    refine ⟨_, rfl, l, rfl, ⟨_, SqL.of hl⟩, ?_⟩
    refine for_list (xs := ts.map V.str) (fun i σ H' => ∃ (o2 : Option V), σ = [some (.ref l), some (.str w), o2] ∧ H' = H ∧ (ts.take i).any (fun x => decide (2 ≤ (plc x w).length)) = false) ⟨_, rfl, rfl, rfl⟩ ?_ ?_ ?_
    · rintro i σ H' _ ⟨o2, rfl, rfl, _⟩
      exact SqL.of hl
    · rintro i v σ H2 hv ⟨o2, rfl, rfl, hi⟩
      rw [List.getElem?_map] at hv
      obtain ⟨x, hx, rfl⟩ := Option.map_eq_some_iff.mp hv
      refine ⟨_, rfl, _, rfl, x, w, rfl, _, rfl, ?_⟩
      by_cases c : 2 ≤ (plc x w).length
      · have a : ts.any (fun x => decide (2 ≤ (plc x w).length)) = true := List.any_eq_true.mpr ⟨x, List.mem_of_getElem? hx, decide_eq_true c⟩
        rw [a] at k
        rw [decide_eq_true c]
        exact iteT k
      · rw [decide_eq_false c]
        refine iteF ⟨_, rfl, rfl, ?_⟩
        rw [List.take_add_one, hx, Option.toList_some, List.any_append, hi, List.any_cons, decide_eq_false c]
        rfl
    · rintro σ H2 ⟨o2, rfl, rfl, hi⟩
      rw [List.take_of_length_le (by rw [List.length_map]; exact Nat.le_refl _)] at hi
      rw [hi] at k
      exact k
theorem putK_keys {kvs : List (Key × V)} {k : Key} {y : V} : (putK kvs k y).map (·.1) = kvs.map (·.1) ∧ k ∈ kvs.map (·.1) ∨ (putK kvs k y).map (·.1) = kvs.map (·.1) ++ [k] ∧ k ∉ kvs.map (·.1) := by
  have e : ∀ l : List (Key × V), (l.map fun kv => if kv.1 = k then (kv.1, y) else kv).map (·.1) = l.map (·.1) := fun l => by
    induction l with
    | nil => rfl
    | cons a l ih =>
      rw [List.map_cons, List.map_cons, List.map_cons, ih]
      congr 1
      split <;> rfl
  have m : (kvs.any fun kv => decide (kv.1 = k)) = true ↔ k ∈ kvs.map (·.1) := by
    rw [List.any_eq_true, List.mem_map]
    exact ⟨fun ⟨a, h1, h2⟩ => ⟨a, h1, of_decide_eq_true h2⟩, fun ⟨a, h1, h2⟩ => ⟨a, h1, decide_eq_true h2⟩⟩
  unfold putK
  by_cases c : k ∈ kvs.map (·.1)
  · rw [if_pos (m.mpr c), e]
    exact .inl ⟨rfl, c⟩
  · rw [if_neg (fun z => c (m.mp z)), List.map_append]
    exact .inr ⟨rfl, c⟩
def mostG (AL : List WS) (n j : Nat) : Nat := AL.foldr (fun s m => min (kEd s.2.2 n (n - j)) m) n
def twG (AL : List WS) (x : Str) (j e : Nat) : Bool := AL.any fun s => decide (2 ≤ (plc s.2.1 (cutS x (some (j : Int)) (some (e : Int)))).length)
theorem kEd_le {L : List (Option Nat)} {n : Nat} : ∀ {d : Nat}, kEd L n d ≤ n
  | 0 => Nat.le_refl _
  | d + 1 => by
    rw [kEd]
    split
    · exact kEd_le
    · exact Nat.sub_le _ _
theorem mostG_le {n j : Nat} : ∀ {AL : List WS} {s : WS}, s ∈ AL → mostG AL n j ≤ kEd s.2.2 n (n - j)
  | _ :: AL, s, h => by
    show min _ (mostG AL n j) ≤ _
    rcases List.mem_cons.mp h with e | h
    · rw [e]; exact Nat.min_le_left _ _
    · exact Nat.le_trans (Nat.min_le_right _ _) (mostG_le h)
theorem mostG_least {n j m : Nat} (hm : m ≤ n) : ∀ {AL : List WS}, (∀ s ∈ AL, m ≤ kEd s.2.2 n (n - j)) → m ≤ mostG AL n j
  | [], _ => hm
  | s :: AL, h => Nat.le_min.mpr ⟨h s List.mem_cons_self, mostG_least hm fun t ht => h t (List.mem_cons_of_mem _ ht)⟩
def EndR (A : Addr → Prop) (n : Nat) (H : Hp) : List V → List WS → Prop := Paired fun v s => ∃ u, v = .ref u ∧ A u ∧ H u = some (.lst (endsG s.2.2 n 0))
def spLeastW : Sp := fun vs H Q _ => ∃ (x : Str) (a b : Nat) (r : Addr) (xs : List V) (AL : List WS), vs = [.str x, .int (a : Nat), .int (b : Nat), .ref r] ∧ x.length ≤ 20 ∧ a ≤ x.length ∧ b ≤ x.length ∧ H r = some (.lst xs) ∧ LayP (fun _ => True) H xs AL ∧ AL ≠ [] ∧ AL.length ≤ 341 ∧ (∀ s ∈ AL, s.2.2.length ≤ 100) ∧
  ∀ (l : Addr) (ys : List V) H', H l = none → H' l = some (.lst ys) → PrN H' ys (toldG x.length (mostG AL x.length) (twG AL x) b (min (a + 1) x.length)) → Same H H' → Q (.ref l) H'
abbrev s_least_windows : Stmt := top 47
theorem sc_least_windows : FnScope ["text", "first", "last", "results", "texts", "_", "result", "all_ends", "entries", "told", "end", "begin", "most", "ends"] ["text", "first", "last", "results"] (defScope s_least_windows) := ⟨rfl, rfl, rfl, by decide +kernel, rfl, by decide +kernel, by decide +kernel⟩
theorem b_least_windows {f : Addr} {fd : FuncData} (F : Fun K "least_windows" "least_windows" s_least_windows f fd) (T : Txt mg) (c_stands_twice_in_one : CalG P w K mg base CX0 2 "stands_twice_in_one" spIn1) (c_kept_ends : CalG P w K mg base CX0 1 "kept_ends" spKept) : FnG P w K mg base CX0 3 f fd ["text", "first", "last", "results"] spLeastW := by
  refine okG0 F sc_least_windows (fun vs H Q E h => ?_) (fun cdv A outer s H vs Q E hg hr h => ?_)
  · obtain ⟨x, a, b, r, xs, AL, rfl, _⟩ := h
    rfl
  · have hu := hu_of hr
    have hu64 := hr.units
    obtain ⟨x, a, b, r, xs, AL, rfl, hx, ha, hb, hr0, lay, hne, h341, hsm, k⟩ := h
    have gAL := paired_len lay
    have hr2 : Room 2 _ := hr
    have xl : x.length ≤ sizeLine := Nat.le_of_lt (fewL (by omega))
    refine ⟨_, (pss_cons (ps_set (i := 4) sc_least_windows.nd rfl (Or.inl rfl) (pe_callTy (call_list_dK rfl) (by rfl) T.list (by decide +kernel) (pa_cons (pe_dc (own := [("_", 5), ("result", 6)]) (g := (gTup K 3 (gCons (gName 5) (gCons (gName 6) (gCons (gName 5) gNil))))) (tt := tYes) rfl sc_least_windows.nd (pi_list (pv 3)) (blkOk_by (own := [("_", 5), ("result", 6)]) (N := ["text", "first", "last", "results", "texts", "_", "result", "all_ends", "entries", "told", "end", "begin", "most", "ends"]) (sc := defScope s_least_windows) (by decide +kernel)) (fun _ _ _ _ _ => (pg_tupK (K := K) rfl rfl (pgs_cons (pg_name (i := 5) sc_least_windows.nd rfl (Or.inl rfl)) (pgs_cons (pg_name (i := 6) sc_least_windows.nd rfl (Or.inl rfl)) (pgs_cons (pg_name (i := 5) sc_least_windows.nd rfl (Or.inl rfl)) pgs_nil))))) (fun _ _ _ _ _ => pts_nil) (fun _ _ _ _ _ => (pv 6)) (fun _ _ _ _ _ => pe_bl)) pa_nil)))
      (pss_cons (ps_setLc (i := 7) (own := [("_", 5), ("entries", 8)]) (g := (gTup K 3 (gCons (gName 5) (gCons (gName 5) (gCons (gName 8) gNil))))) (tt := tYes) rfl sc_least_windows.nd rfl rfl (sw_true rfl rfl rfl (by decide +kernel)) (pi_list (pv 3)) (blkOk_by (own := [("_", 5), ("entries", 8)]) (N := ["text", "first", "last", "results", "texts", "_", "result", "all_ends", "entries", "told", "end", "begin", "most", "ends"]) (sc := defScope s_least_windows) (by decide +kernel)) (fun _ _ _ _ _ => (pg_tupK (K := K) rfl rfl (pgs_cons (pg_name (i := 5) sc_least_windows.nd rfl (Or.inl rfl)) (pgs_cons (pg_name (i := 5) sc_least_windows.nd rfl (Or.inl rfl)) (pgs_cons (pg_name (i := 8) sc_least_windows.nd rfl (Or.inl rfl)) pgs_nil))))) (fun _ _ _ _ _ => pts_nil) (fun _ _ _ _ _ => (pe_cG c_kept_ends hg hr (by decide) pass0 (pa_cons (pv 8) (pa_cons (pe_callB (call_lenK (K := K) rfl) (by rfl) T.len (by decide +kernel) (pa_cons (pv 0) pa_nil)) pa_nil)))))
      (pss_cons (ps_set (i := 9) sc_least_windows.nd rfl (Or.inl rfl) (pe_lst pa_nil))
      (pss_cons (ps_set (i := 10) sc_least_windows.nd rfl (Or.inl rfl) pe_int)
      (pss_cons (ps_for PassesOwn.never rfl (pi_range1 rfl T.range (pa_cons (pe_callB (call_min2 rfl) (by rfl) T.min (by decide +kernel) (pa_cons (pe_op op_add (pv 1) pe_int) (pa_cons (pe_callB call_len (by rfl) T.len (by decide +kernel) (pa_cons (pv 0) pa_nil)) pa_nil))) pa_nil)) (pg_name (i := 11) sc_least_windows.nd rfl (Or.inr rfl)) (pss_cons (ps_set (i := 10) sc_least_windows.nd rfl (Or.inl rfl) (pe_callB (call_max3Nu rfl) (by rfl) T.max (by decide +kernel) (pa_cons (pv 10) (pa_cons (pe_op op_add (pv 11) pe_int) (pa_cons (pv 2) pa_nil)))))
      (pss_cons (ps_set (i := 12) sc_least_windows.nd rfl (Or.inl rfl) (pe_callB (cr_min rfl) (by rfl) T.min (by decide +kernel) (pa_cons (pe_lc (own := [("ends", 13)]) (g := gName 13) (tt := tYes) rfl sc_least_windows.nd (pi_list (pv 7)) (blkOk_by (own := [("ends", 13)]) (N := ["text", "first", "last", "results", "texts", "_", "result", "all_ends", "entries", "told", "end", "begin", "most", "ends"]) (sc := defScope s_least_windows) (by decide +kernel)) (fun _ _ _ _ _ => (pg_name (i := 13) sc_least_windows.nd rfl (Or.inl rfl))) (fun _ _ _ _ _ => pts_nil) (fun _ _ _ _ _ => (pe_ix (ix_seqK (K := K) rfl) (pv 13) (pv 11) (fun _ _ => rfl)))) pa_nil)))
      (pss_cons (ps_while PassesOwn.never (PW.pt (pw_and (pt_cmpR op_le (pv 10) (pv 12) (nomark _)) (pw_and1 (pt_val (pe_cG c_stands_twice_in_one hg hr (by decide) pass0 (pa_cons (pv 4) (pa_cons (pe_slice sl_str (pv 0) (po_some (pv 11)) (po_some (pv 10))) pa_nil))))))) (pss_one (ps_aug (i := 10) sc_least_windows.nd rfl (Or.inl rfl) pe_int ip_add)))
      (pss_one (ps_if (pt_cmpR op_le (pv 10) (pv 12) (nomark _)) (pss_cons (ps_if (PW.pt (pw_and (pt_truthK (K := K) rfl (pv 9)) (pw_and1 (pt_cmpR op_eq (pe_ix ix_seq (pe_ix ix_seq (pv 9) (pe_un un_neg pe_int) (fun _ _ => rfl)) pe_int (fun _ _ => rfl)) (pv 10) (nomark _))))) (pss_one (ps_expr (pe_bm0 PySem.F.plainAttrs_list PySem.F.slot_list_pop PySem.F.type_list_pop mt_pop (pv 9) ))) pss_nil)
      (pss_one (ps_expr (pe_bm PySem.F.plainAttrs_list PySem.F.slot_list_append PySem.F.type_list_append mt_append (pv 9) (pa_cons (pe_tup (pa_cons (pv 11) (pa_cons (pv 10) pa_nil))) pa_nil))))) pss_nil))))))
      (pss_one (ps_ret (pv 9)))))))), ?_⟩
    generalize hn : x.length = n at hx ha hb k
    -- the texts
    refine ⟨_, rfl, r, rfl, ⟨_, SqL.of hr0⟩, fun D hD => ?_⟩
    have sD := same_new (o := .dK []) hD
    refine dc_list (K := K) (a := r) (xs := xs) (fun i H' => (∃ (kvs : List (Key × V)) (ts : List Str), H' D = some (.dK kvs) ∧ kvs.length ≤ i ∧ kvs.map (·.1) = ts.map Sum.inr ∧ ∀ z, z ∈ ts ↔ ∃ s ∈ AL.take i, s.2.1 = z) ∧ Same H H') ⟨⟨[], [], upd_same, Nat.le_refl _, rfl, fun z => ⟨(fun h => nomatch h), (fun ⟨_, h, _⟩ => nomatch h)⟩⟩, sD⟩ (fun i H' _ p => SqL.of (p.2 _ _ hr0)) (fun i v H' hv p => ?_) (fun H1 p => ?_)
    · obtain ⟨⟨kvs, ts, hDz, kl, kk, km⟩, sm⟩ := p
      obtain ⟨s, hs, t, wt, e, en, rfl, _, ht, hwt, he, hen⟩ := paired_at lay hv
      have hi := (List.getElem?_eq_some_iff.mp hv).1
      refine ⟨t, _, rfl, SqT.of (sm _ _ ht), rfl, _, _, rfl, _, _, rfl, _, _, rfl, rfl, ?_⟩
      refine ⟨rfl, _, rfl, kvs, Sum.inr s.2.1, rfl, hDz, fewL (by omega), ⟨_, if s.2.1 ∈ ts then ts else ts ++ [s.2.1], upd_same, Nat.le_trans (length_putK _ _ _) (by omega), ?_, fun z => ?_⟩, upd_out hD sm⟩
      · rcases putK_keys (kvs := kvs) (k := Sum.inr s.2.1) (y := V.bl true) with ⟨e1, e2⟩ | ⟨e1, e2⟩
        · rw [kk] at e2
          obtain ⟨y, hy, e⟩ := List.mem_map.mp e2
          rw [e1, kk, if_pos (Sum.inr.inj e ▸ hy)]
        · rw [kk] at e2
          rw [e1, kk, if_neg (fun z => e2 (List.mem_map.mpr ⟨_, z, rfl⟩)), List.map_append]
          rfl
      · rw [List.take_add_one, hs, Option.toList_some]
        have base : (z ∈ ts ∨ z = s.2.1) ↔ ∃ s', s' ∈ AL.take i ++ [s] ∧ s'.2.1 = z := by
          rw [km z]
          constructor
          · rintro (⟨s', h1, h2⟩ | h)
            · exact ⟨s', List.mem_append_left _ h1, h2⟩
            · exact ⟨s, List.mem_append_right _ List.mem_cons_self, h.symm⟩
          · rintro ⟨s', h1, h2⟩
            rcases List.mem_append.mp h1 with h1 | h1
            · exact .inl ⟨s', h1, h2⟩
            · rw [List.mem_singleton.mp h1] at h2
              exact .inr h2.symm
        rw [← base]
        by_cases c : s.2.1 ∈ ts
        · rw [if_pos c]
          exact ⟨.inl, fun h => h.elim id fun h => h ▸ c⟩
        · rw [if_neg c, List.mem_append, List.mem_singleton]
    obtain ⟨⟨kvs, ts, hD1, kl, kk, km⟩, s1⟩ := p
    rw [List.take_of_length_le (by omega)] at km
    refine ⟨D, _, rfl, hD1, fun l1 hl1 => ?_⟩
    have ekv : List.map (fun kv : Sum Int Str × V => kV kv.1) kvs = ts.map V.str := by
      have : List.map (fun kv : Sum Int Str × V => kV kv.1) kvs = (kvs.map (·.1)).map kV := by rw [List.map_map]; rfl
      rw [this, kk, List.map_map]
      rfl
    rw [ekv]
    clear ekv
    have sl1 := same_new (o := .lst (ts.map V.str)) hl1
    have h2l : (upd H1 l1 (.lst (ts.map V.str))) l1 = some (.lst (ts.map V.str)) := upd_same
    have s2 := s1.trans sl1
    generalize upd H1 l1 (.lst (ts.map V.str)) = H2 at h2l s2 sl1
    have etw : ∀ j e : Nat, (ts.any fun z => decide (2 ≤ (plc z (cutS x (some ((j : Nat) : Int)) (some ((e : Nat) : Int)))).length)) = twG AL x j e := fun j e => by
      unfold twG
      rw [Bool.eq_iff_iff, List.any_eq_true, List.any_eq_true]
      constructor
      · rintro ⟨z, h1, h2⟩
        obtain ⟨s', h3, h4⟩ := (km z).mp h1
        exact ⟨s', h3, by rw [h4]; exact h2⟩
      · rintro ⟨s', h1, h2⟩
        exact ⟨s'.2.1, (km _).mpr ⟨s', h1, rfl⟩, h2⟩
    -- where they end
    refine ⟨_, rfl, r, rfl, ⟨_, SqL.of (s2 _ _ hr0)⟩, fun D2 hD2 => ?_⟩
    have sD2 := same_new (o := .lst []) hD2
    refine lc_list (K := K) (a := r) (xs := xs) (fun i H' => ∃ us, H' D2 = some (.lst us) ∧ EndR (fun u => u ≠ D2) n H' us (AL.take i) ∧ Same H2 H') ⟨[], upd_same, .nil, sD2⟩ ?_ ?_ ?_
    · rintro i H' _ ⟨_, _, _, sm⟩
      exact SqL.of (sm _ _ (s2 _ _ hr0))
    · rintro i v H' hv ⟨us, hDz, eu, sm⟩
      obtain ⟨s, hs, t, wt, e, en, rfl, _, ht, hwt, he, hen⟩ := paired_at lay hv
      have geu := paired_len eu
      have hi := (List.getElem?_eq_some_iff.mp hv).1
      rw [List.length_take] at geu
      have s2m := s2.trans sm
      refine ⟨t, _, rfl, SqT.of (s2m _ _ ht), rfl, _, _, rfl, _, _, rfl, _, _, rfl, rfl, ?_⟩
      refine ⟨rfl, _, rfl, _, rfl, _, _, rfl, ⟨xl, rfl⟩, ?_⟩
      rw [hn]
      refine ⟨e, n, en, s.2.2, rfl, by omega, hsm s (List.mem_of_getElem? hs), s2m _ _ he, hen.keep (fun u ws h => s2m _ _ h), fun u H'' hu0 hu s'' => ⟨us, s'' _ _ hDz, fewL (by omega), us ++ [.ref u], upd_same, ?_, upd_out hD2 (sm.trans s'')⟩⟩
      have une : u ≠ D2 := (ne_of_none hDz hu0).symm
      rw [List.take_add_one, hs, Option.toList_some]
      exact Paired.snoc (pair_mono (fun v s' ⟨u', e1, e2, e3⟩ => ⟨u', e1, e2, (upd_ne e2).trans (s'' _ _ e3)⟩) eu) ⟨u, rfl, une, (upd_ne une).trans hu⟩
    rintro H3 ⟨us, hD3, eu, s23⟩
    rw [List.take_of_length_le (by omega)] at eu
    have geu := paired_len eu
    have hl1 := s23 _ _ h2l
    have s03 := s2.trans s23
    refine ⟨by show 0 ≤ sizeLine; decide, fun lt hlt => ?_⟩
    have hlt0 := none_up s03 hlt
    have slt := same_new (o := .lst []) hlt
    refine ⟨_, rfl, _, _, rfl, rfl, _, rfl, _, _, rfl, ⟨xl, rfl⟩, _, _, rfl, _, rfl, ?_, ?_, ?_⟩
    · rw [hn]; split <;> omega
    · rw [hn]; split <;> omega
    rw [hn]
    have em : (if ((n : Nat) : Int) < ((a : Nat) : Int) + 1 then ((n : Nat) : Int) else ((a : Nat) : Int) + 1).toNat = min (a + 1) n := by split <;> omega
    rw [em]
    generalize hMo : mostG AL n = Mo at k
    refine for_range (lo := 0) (n := min (a + 1) n) (fun j σ H' => ∃ (o5 o6 o8 o11 o12 o13 : Option V) (ys : List V), σ = [some (.str x), some (.int (a : Nat)), some (.int (b : Nat)), some (.ref r), some (.ref l1), o5, o6, some (.ref D2), o8, some (.ref lt), some (.int (endG n Mo (twG AL x) b j : Nat)), o11, o12, o13] ∧ H' lt = some (.lst ys) ∧ PrN H' ys (toldG n Mo (twG AL x) b j) ∧ Same H3 H') ?_ ?_ ?_
    · exact ⟨_, _, _, _, _, _, [], rfl, upd_same, .nil, slt⟩
    · rintro j σ H4 hj ⟨o5, o6, o8, o11, o12, o13, ys, rfl, hlt4, py4, s4⟩
      have hjn : j < n := by omega
      have gy := paired_len py4
      have gl := toldG_len (n := n) (M := Mo) (tw := twG AL x) (b := b) (k := j)
      rw [Int.zero_add]
      have hmax : nuMax3 (.int ((endG n Mo (twG AL x) b j : Nat) : Int)) (.int (((j : Nat) : Int) + 1)) (.int ((b : Nat) : Int)) = some (.int ((max (endG n Mo (twG AL x) b j) (max (j + 1) b) : Nat) : Int)) := by
        rw [nuMax3_int]
        refine congrArg (fun z : Int => some (V.int z)) ?_
        omega
      refine ⟨_, rfl, _, rfl, _, _, rfl, rfl, _, rfl, _, _, _, _, rfl, hmax, ?_⟩
      -- the most
      refine ⟨_, rfl, D2, rfl, ⟨_, SqL.of (s4 _ _ hD3)⟩, fun D4 hD4 => ?_⟩
      have sD4 := same_new (o := .lst []) hD4
      refine lc_list (K := K) (a := D2) (xs := us) (fun i H' => H' D4 = some (.lst (((AL.take i).map fun s => V.int (kEd s.2.2 n (n - j) : Nat)))) ∧ Same H4 H') ⟨upd_same, sD4⟩ ?_ ?_ ?_
      · rintro i H' _ ⟨_, sm⟩
        exact SqL.of (sm _ _ (s4 _ _ hD3))
      · rintro i v H' hv ⟨hDz, sm⟩
        obtain ⟨s, hs, u, rfl, une, hu⟩ := paired_at eu hv
        have hi := (List.getElem?_eq_some_iff.mp hs).1
        have hu5 := (s4.trans sm) _ _ hu
        have ix : atI (endsG s.2.2 n 0) ((j : Nat) : Int) = some (V.int (kEd s.2.2 n (n - j) : Nat)) := atI_nat (endsG_at (by omega) (Nat.zero_le _))
        refine ⟨rfl, _, rfl, _, rfl, .inl ⟨u, _, _, _, rfl, rfl, SqL.of hu5, ix, _, hDz, fewL (by rw [List.length_map, List.length_take]; omega), ?_, upd_out hD4 sm⟩⟩
        rw [List.take_add_one, hs, Option.toList_some, List.map_append]
        exact upd_same
      rintro H5 ⟨hD5, s45⟩
      rw [List.take_of_length_le (by omega)] at hD5
      refine ⟨D4, (AL.map fun s => ((kEd s.2.2 n (n - j) : Nat) : Int)), rfl, SqL.of (by rw [List.map_map]; exact hD5), ?_, fun mi hm hle => ?_⟩
      · rw [List.length_map]
        exact List.length_pos_iff.mpr hne
      have emi : mi = ((Mo j : Nat) : Int) := by
        rw [← hMo]
        obtain ⟨s, hs, rfl⟩ := List.mem_map.mp hm
        have h1 := mostG_le (n := n) (j := j) hs
        have h2 := mostG_least (AL := AL) (j := j) (kEd_le (L := s.2.2) (n := n) (d := n - j)) fun t ht => by
          have := hle _ (List.mem_map.mpr ⟨t, ht, rfl⟩)
          omega
        omega
      subst emi
      have hlt5 := s45 _ _ hlt4
      have py5 := py4.keep s45
      have s35 := s4.trans s45
      have hl5 := s35 _ _ hl1
      clear py4 hlt4
      have hR : endG n Mo (twG AL x) b (j + 1) = lendG Mo (twG AL x) j (n + 1) (max (endG n Mo (twG AL x) b j) (max (j + 1) b)) := rfl
      have tE : toldG n Mo (twG AL x) b (j + 1) = if endG n Mo (twG AL x) b (j + 1) ≤ Mo j then popE (toldG n Mo (twG AL x) b j) (endG n Mo (twG AL x) b (j + 1)) ++ [(j, endG n Mo (twG AL x) b (j + 1))] else toldG n Mo (twG AL x) b j := rfl
      have hMn : Mo j ≤ n := by
        rw [← hMo]
        obtain ⟨s, hs⟩ := List.exists_mem_of_ne_nil AL hne
        exact Nat.le_trans (mostG_le hs) kEd_le
      have mgt : j < max (endG n Mo (twG AL x) b j) (max (j + 1) b) := by omega
      generalize max (endG n Mo (twG AL x) b j) (max (j + 1) b) = m0 at hR mgt
      generalize endG n Mo (twG AL x) b (j + 1) = R at hR tE
      refine ⟨fun m σ H' => ∃ ee f, σ = [some (.str x), some (.int (a : Nat)), some (.int (b : Nat)), some (.ref r), some (.ref l1), o5, o6, some (.ref D2), o8, some (.ref lt), some (.int (ee : Nat)), some (.int (j : Nat)), some (.int (Mo j : Nat)), o13] ∧ H' = H5 ∧ lendG Mo (twG AL x) j f ee = R ∧ n + 1 ≤ ee + f ∧ j < ee ∧ m = n + 1 - ee, ⟨n + 1 - m0, m0, n + 1, rfl, rfl, hR.symm, by omega, mgt, rfl⟩, ?_⟩
      rintro m σ H6 ⟨ee, f6, rfl, rfl, eR, ef, ie, rfl⟩
      refine ⟨_, rfl, _, rfl, _, _, rfl, rfl, _, rfl, ?_⟩
      by_cases cond : ee ≤ Mo j ∧ twG AL x j ee = true
      · rw [decide_eq_true (show ((ee : Nat) : Int) ≤ ((Mo j : Nat) : Int) by omega)]
        refine iteT ⟨_, rfl, _, rfl, _, rfl, _, rfl, _, rfl, _, rfl, x, rfl, xl, l1, ts, _, rfl, hl5, _, rfl, ?_⟩
        rw [etw, cond.2]
        refine iteT ⟨fun σ' H' => σ' = [some (.str x), some (.int (a : Nat)), some (.int (b : Nat)), some (.ref r), some (.ref l1), o5, o6, some (.ref D2), o8, some (.ref lt), some (.int ((ee + 1 : Nat) : Int)), some (.int (j : Nat)), some (.int (Mo j : Nat)), o13] ∧ H' = H6, ?_, ?_⟩
        · rintro σ' H' ⟨rfl, rfl⟩
          cases f6 with
          | zero => omega
          | succ f => exact ⟨_, (by omega : n + 1 - (ee + 1) < n + 1 - ee), ee + 1, f, rfl, rfl, (lendG_step cond).symm.trans eR, by omega, by omega, rfl⟩
        · exact ⟨_, rfl, _, _, rfl, rfl, rfl, rfl⟩
      · have eq : ee = R := by rw [← eR, lendG_stop cond]
        refine' or_both (R := ?oR) ?oa ?ob ?oc
        case oa =>
          intro hc hR
          refine ⟨_, rfl, _, rfl, _, rfl, _, rfl, _, rfl, _, rfl, x, rfl, xl, l1, ts, _, rfl, hl5, _, rfl, ?_⟩
          have el2 : ee ≤ Mo j := Int.ofNat_le.mp (of_decide_eq_true hc)
          rw [etw]
          cases q : twG AL x j ee with
          | true => exact absurd ⟨el2, q⟩ cond
          | false =>
            refine iteF ?_
            exact hR
        case ob =>
          intro hc hR
          exact hR
        case oc =>
          subst eq
          refine ⟨_, rfl, _, rfl, _, _, rfl, rfl, _, rfl, ?_⟩
          by_cases c : ee ≤ Mo j
          · rw [decide_eq_true (show ((ee : Nat) : Int) ≤ ((Mo j : Nat) : Int) by omega)]
            rw [if_pos c] at tE
            refine iteT ?_
            refine ⟨_, rfl, _, .inl ⟨_, SqL.of hlt5, rfl⟩, ?_⟩
            clear hD5 s45 hl5
            refine' or_bothH (R := ?oS) (fun H' => ∃ zs, H' lt = some (.lst zs) ∧ PrN H' zs (popE (toldG n Mo (twG AL x) b j) ee) ∧ Same H3 H' ∧ zs.length ≤ j) ?k0 ?k1 ?k2
            case k2 =>
              intro hc hR
              rcases prn_last py5 with ⟨ey, ew⟩ | ⟨ys', ws', t', p', ey, ew, py', ht'⟩
              · refine iteF ?_
                refine hR H6 ⟨ys, hlt5, ?_, s35, by rw [gy]; exact gl⟩
                rw [ew, ey]
                exact .nil
              · rw [ey] at hc
                rw [List.isEmpty_eq_false_iff.mpr (fun z => by have := congrArg List.length z; rw [List.length_append] at this; exact absurd this (Nat.succ_ne_zero _))] at hc
                cases hc
            case k1 =>
              intro hc hR
              rcases prn_last py5 with ⟨ey, ew⟩ | ⟨ys', ws', t', p', ey, ew, py', ht'⟩
              · rw [ey] at hc
                cases hc
              · have lz : ys'.length ≤ j := by
                  have := congrArg List.length ey
                  rw [List.length_append, List.length_singleton, gy] at this
                  exact Nat.le_trans (Nat.le_succ _) (Nat.le_trans (Nat.le_of_eq this.symm) gl)
                have lst : ys[ys'.length]? = some (.ref t') := by
                  rw [ey, List.getElem?_append_right (Nat.le_refl _), Nat.sub_self]
                  rfl
                have ln : ys.length = ys'.length + 1 := by rw [ey, List.length_append]; rfl
                refine ⟨_, rfl, _, rfl, .inl ⟨lt, _, _, _, rfl, rfl, SqL.of hlt5, atI_end lst ln, .inr (.inl ⟨t', _, _, _, rfl, rfl, SqT.of ht', rfl, _, rfl, rfl, _, rfl, ?_⟩)⟩⟩
                by_cases hp : p'.2 = ee
                · rw [decide_eq_true (congrArg (fun z : Nat => V.int (z : Int)) hp)]
                  refine iteT ⟨_, rfl, .inl ⟨rfl, _, SqL.of hlt5⟩, lt, ys, .ref t', rfl, rfl, hlt5, (by rw [ln]; exact lst), ?_⟩
                  refine hR _ ⟨ys', ?_, ?_, upd_out hlt s35, lz⟩
                  · rw [upd_same, ey, List.dropLast_concat]
                  · rw [ew, popE_snoc, if_pos hp]
                    exact py'.keepT (upd_list hlt5)
                · rw [decide_eq_false (show ¬ V.int ((p'.2 : Nat) : Int) = V.int ((ee : Nat) : Int) from fun z => hp (Int.ofNat.inj (V.int.inj z)))]
                  refine iteF ?_
                  refine hR H6 ⟨ys, hlt5, ?_, s35, by rw [gy]; exact gl⟩
                  rw [ew, popE_snoc, if_neg hp, ← ew]
                  exact py5
            case k0 =>
              rintro H7 ⟨zs, hz, pz, sz, lz⟩
              refine ⟨_, rfl, .inl ⟨rfl, _, SqL.of hz⟩, _, rfl, _, rfl, by show 2 ≤ sizeLine; decide, fun u hu => ?_⟩
              have su := same_new (o := .tup [.int ((j : Nat) : Int), .int ((ee : Nat) : Int)]) hu
              have hz' := su _ _ hz
              refine ⟨lt, _, _, rfl, rfl, hz', fewL (by omega), ?_⟩
              refine ⟨_, _, _, _, _, _, zs ++ [.ref u], rfl, upd_same, ?_, upd_out hlt (sz.trans su)⟩
              rw [tE]
              exact Paired.snoc ((pz.keep su).keepT (upd_list hz')) ⟨u, rfl, upd_list hz' _ _ upd_same⟩
          · rw [decide_eq_false (show ¬ ((ee : Nat) : Int) ≤ ((Mo j : Nat) : Int) by omega)]
            rw [if_neg c] at tE
            refine iteF ⟨_, _, _, _, _, _, ys, rfl, hlt5, ?_, s35⟩
            rw [tE]
            exact py5
    · rintro σ H4 ⟨o5, o6, o8, o11, o12, o13, ys, rfl, hlt4, py4, s4⟩
      exact ⟨_, rfl, k lt ys H4 hlt0 hlt4 py4 (s03.trans s4)⟩

end
end Vk
set_option Elab.async false
set_option maxRecDepth 100000
set_option linter.all false
set_option maxHeartbeats 4000000
namespace Vk
open PySem PySem.Spec PyProof.Rows L2
section
variable {P : Program} {w : World} {K : PySem.W.Frag} {mg : Str → Option Value} {base : Heap}
variable {C_InvalidSpot C_Once : Addr}
abbrev stG (ps : List (Str × Str)) (x : Str) (a b : Nat) : List (Nat × Nat) := toldG x.length (mostG (allR ps x) x.length) (twG (allR ps x) x) b (min (a + 1) x.length)
theorem allR_ne {ps : List (Str × Str)} {x : Str} : allR ps x ≠ [] := by
  show [startW x] ++ allW ps ps.length (nextW ps [startW x]) ≠ []
  intro z
  cases z
theorem allR_small {ps : List (Str × Str)} {x : Str} (ok : PsOk ps) (h4 : ps.length ≤ 4) (hx : x.length ≤ 20) : ∀ s ∈ allR ps x, s.2.2.length ≤ 100 := fun s hs => by
  obtain ⟨m, hm, g⟩ := allR_good ok s hs
  have := g.tl
  have := g.ml
  omega
def spSteady (CS C : Addr) : Sp := fun vs H Q E => ∃ x v1 d1 v2 d2 ed, vs = [.str x, v1, v2, .ref ed] ∧ Th H v1 d1 ∧ Th H v2 d2 ∧ x.length ≤ 20 ∧ (inI d1 0 x.length = false → ∀ d, H d = none → E (.ref CS) (some d) (upd H d (.xd [(("value" : Str), v1)]))) ∧
  (∀ i, d1 = .int i → 0 ≤ i → i ≤ x.length → inI d2 i x.length = false → ∀ d, H d = none → E (.ref CS) (some d) (upd H d (.xd [(("value" : Str), v2)]))) ∧
  (∀ a b : Nat, d1 = .int a → d2 = .int b → a ≤ b → b ≤ x.length → ∃ es ps, EdSq H ed es ∧ EdsO C H es ps ∧ PsOk ps ∧ ps.length ≤ 4 ∧ ∀ (l : Addr) (ys : List V) H', H l = none → H' l = some (.lst ys) → PrN H' ys (stG ps x a b) → Same H H' → Q (.ref l) H')
abbrev s_steady : Stmt := top 48
theorem sc_steady : FnScope ["text", "first", "last", "edits"] ["text", "first", "last", "edits"] (defScope s_steady) := ⟨rfl, rfl, rfl, by decide +kernel, rfl, by decide +kernel, by decide +kernel⟩
theorem b_steady {f : Addr} {fd : FuncData} (F : Fun K "steady" "steady" s_steady f fd) (T : Txt mg) (c_all_results : CalG P w K mg base (L2.CX P w) 6 "all_results" (spAll C_Once)) (c_least_windows : CalG P w K mg base CX0 3 "least_windows" spLeastW) (c_check_spot : CalG P w K mg base (L2.CX P w) 3 "check_spot" (spCkSpot C_InvalidSpot)) : FnG P w K mg base (L2.CX P w) 7 f fd ["text", "first", "last", "edits"] (spSteady C_InvalidSpot C_Once) := by
  refine okG F sc_steady (fun vs H Q E h => ?_) (fun cdv A outer s H vs Q E hg hr h => ?_)
  · obtain ⟨x, v1, d1, v2, d2, ed, rfl, _⟩ := h
    rfl
  · have hu := hu_of hr
    have hu64 := hr.units
    obtain ⟨x, v1, d1, v2, d2, ed, rfl, t1, t2, hx, k1, k2, k3⟩ := h
    refine ⟨_, (pss_cons (ps_expr (pe_cG c_check_spot hg hr (by decide) (passes_call (takes_of rfl rfl rfl rfl) (fun _ _ _ _ h => h)) (pa_cons (pv 0) (pa_cons (pv 1) (pa_cons (pv 2) pa_nil)))))
      (pss_one (ps_ret (pe_cG c_least_windows hg hr (by decide) pass0 (pa_cons (pv 0) (pa_cons (pv 1) (pa_cons (pv 2) (pa_cons (pe_cG c_all_results hg hr (by decide) (passes_call (takes_of rfl rfl rfl rfl) (fun _ _ _ _ h => h)) (pa_cons (pv 0) (pa_cons (pv 3) pa_nil))) pa_nil)))))))), ?_⟩
    refine ⟨_, rfl, _, rfl, _, rfl, x, v1, d1, v2, d2, rfl, t1, t2, by omega, k1, k2, fun i j e1 e2 i0 i1 i2 => ?_⟩
    subst e1 e2
    cases th_int t1
    cases th_int t2
    obtain ⟨a, rfl⟩ : ∃ a : Nat, i = (a : Nat) := ⟨i.toNat, by omega⟩
    obtain ⟨b, rfl⟩ : ∃ b : Nat, j = (b : Nat) := ⟨j.toNat, by omega⟩
    have hab : a ≤ b := by omega
    have hbn : b ≤ x.length := by omega
    obtain ⟨es, ps, hed, eds, ok, h4, k⟩ := k3 a b rfl rfl hab hbn
    refine ⟨_, rfl, _, rfl, _, rfl, _, rfl, _, rfl, x, ed, es, ps, rfl, hed, eds, ok, by omega, h4, fun l ys H' hl hl2 lay s' => ?_⟩
    refine ⟨x, a, b, l, ys, allR ps x, rfl, hx, by omega, hbn, hl2, lay, allR_ne, allR_len h4, allR_small ok h4 hx, fun l2 ys' H'' hl3 hl4 py s'' => ?_⟩
    exact k l2 ys' H'' (none_up s' hl3) hl4 py (s'.trans s'')
end
end Vk
set_option Elab.async false
set_option maxRecDepth 100000
set_option linter.all false
set_option maxHeartbeats 4000000
namespace Vk
open PySem PySem.Spec PyProof.Rows L2
section
variable {P : Program} {w : World} {K : PySem.W.Frag} {mg : Str → Option Value} {base : Heap}
variable {C_Once C_InvalidOld C_InvalidNew : Addr}
/-- a plain edit: ('once', ((was, fresh),)) -/
def PlO (H : Hp) (v : V) (q : Str × Str) : Prop := ∃ t t2 t3, v = .ref t ∧ H t = some (.tup [.str "once", .ref t2]) ∧ H t2 = some (.tup [.ref t3]) ∧ H t3 = some (.tup [.str q.1, .str q.2])
theorem PlO.keepT {H H' : Hp} {v : V} {q : Str × Str} (h : PlO H v q) (k : ∀ u ws, H u = some (.tup ws) → H' u = some (.tup ws)) : PlO H' v q := by
  obtain ⟨t, t2, t3, e, h1, h2, h3⟩ := h
  exact ⟨t, t2, t3, e, k _ _ h1, k _ _ h2, k _ _ h3⟩
def PlsO (H : Hp) : List V → List (Str × Str) → Prop := Paired (PlO H)
theorem PlsO.keepT {H H' : Hp} {xs : List V} {ps : List (Str × Str)} (h : PlsO H xs ps) (k : ∀ u ws, H u = some (.tup ws) → H' u = some (.tup ws)) : PlsO H' xs ps := pair_mono (fun _ _ q => PlO.keepT q k) h
/-- words that an edit takes, short ones -/
structure WdO (q : Str × Str) : Prop where
  a1 : 1 ≤ q.1.length
  a2 : q.1.length ≤ 3
  a3 : q.2.length ≤ 3
  l1 : Ltr q.1
  l2 : Ltr q.2
theorem ok_lett {x : Str} (h : ∀ c ∈ x.cps.toList, c ∈ letS.cps.toList) : PyData.strOk x = true := by
  have all : ∀ c ∈ letS.cps.toList, c < 0x110000 := by decide +kernel
  show x.cps.all (· < 0x110000) = true
  rw [Array.all_eq_true_iff_forall_mem]
  intro c hc
  simpa using all c (h c (by simpa using hc))
theorem WdO.o1 {q : Str × Str} (h : WdO q) : isOld (.str q.1) = true := by
  rw [isOld_eq (isT_of h.l1), decide_eq_true (by have := h.a2; omega), decide_eq_true (by have := h.a1; omega)]
  rfl
theorem WdO.o2 {q : Str × Str} (h : WdO q) : isNew (.str q.2) = true := by
  rw [isNew_eq (isT_of h.l2), decide_eq_true (by have := h.a3; omega)]
def WdsO (ps : List (Str × Str)) : Prop := ∀ q ∈ ps, WdO q
theorem WdsO.ok {ps : List (Str × Str)} (h : WdsO ps) : PsOk ps := fun q hq => ⟨(h q hq).a1, (h q hq).a2, (h q hq).a3⟩
def spMade (C : Addr) : Sp := fun vs H Q _ => ∃ v q, vs = [v] ∧ PlO H v q ∧ WdO q ∧ ∀ a dx H', Same H H' → H' a = some (.ins C dx (fl q.1 q.2)) → Q (.ref a) H'
abbrev s_lmade : Stmt := top 58
theorem sc_lmade : FnScope ["_law_plain", "_law_sort", "_law_duos", "_law_was", "_law_fresh"] ["_law_plain"] (defScope s_lmade) := ⟨rfl, rfl, rfl, by decide +kernel, rfl, by decide +kernel, by decide +kernel⟩
theorem b_lmade {f : Addr} {fd : FuncData} (F : Fun K "_law_made" "_law_made" s_lmade f fd) (T : Txt mg) (mk_Once : MakI P w K mg base (L2.CX P w) 5 "Once" C_Once ["old", "new"] (spEdit C_Once C_InvalidOld C_InvalidNew)) : FnG P w K mg base CX0 7 f fd ["_law_plain"] (spMade C_Once) := by
  refine okG0 F sc_lmade (fun vs H Q E h => ?_) (fun cdv A outer s H vs Q E hg hr h => ?_)
  · obtain ⟨v, q, rfl, _⟩ := h
    rfl
  · have hu := hu_of hr
    have hu64 := hr.units
    obtain ⟨v, q, rfl, ⟨t, t2, t3, rfl, h1, h2, h3⟩, wd, k⟩ := h
    have b1 := wd.a1
    have b2 := wd.a2
    have b3 := wd.a3
    refine ⟨_, (pss_cons (ps_asg (pv 0) (pg_tup rfl (pgs_cons (pg_name (i := 1) sc_lmade.nd rfl (Or.inl rfl)) (pgs_cons (pg_name (i := 2) sc_lmade.nd rfl (Or.inl rfl)) pgs_nil))))
      (pss_cons (ps_if (pt_cmpR op_eq (pv 1) pe_str (nomark _)) (pss_cons ps_never
      (pss_one ps_never)) pss_nil)
      (pss_cons (ps_asg (pe_ix ix_seq (pv 2) pe_int (fun _ _ => rfl)) (pg_tup rfl (pgs_cons (pg_name (i := 3) sc_lmade.nd rfl (Or.inl rfl)) (pgs_cons (pg_name (i := 4) sc_lmade.nd rfl (Or.inl rfl)) pgs_nil))))
      (pss_cons (ps_if (pt_cmpR op_eq (pv 1) pe_str (nomark _)) (pss_one (ps_ret (pe_ins mk_Once hg hr (by decide) passesF (pa_cons (pv 3) (pa_cons (pv 4) pa_nil))))) pss_nil)
      (pss_cons ps_never
      (pss_one ps_never)))))), ?_⟩
    refine ⟨_, rfl, t, _, rfl, SqT.of h1, rfl, _, _, rfl, _, _, rfl, rfl, ?_⟩
    refine ⟨_, rfl, rfl, _, rfl, ?_⟩
    rw [show decide (V.str "once" = V.str (Str.ofString "together")) = false from by decide +kernel]
    refine iteF ?_
    refine ⟨_, rfl, .inr (.inl ⟨t2, _, 0, _, rfl, rfl, SqT.of h2, rfl, t3, _, rfl, SqT.of h3, rfl, _, _, rfl, _, _, rfl, rfl, ?_⟩)⟩
    refine ⟨_, rfl, rfl, _, rfl, ?_⟩
    rw [show decide (V.str "once" = V.str (Str.ofString "once")) = true from by decide +kernel]
    refine iteT ⟨_, rfl, _, rfl, rfl, ?_⟩
    intro a dx ha hdx ne
    refine ⟨a, dx, _, _, _, _, rfl, upd_same, .atm (.str q.1), ⟨by omega, ok_lett wd.l1⟩, .atm (.str q.2), ⟨by omega, ok_lett wd.l2⟩, (fun o => nomatch wd.o1.symm.trans o), (fun _ o => nomatch wd.o2.symm.trans o), fun _ _ => ⟨rfl, k a dx _ (fun b o h => ?_) upd_same⟩⟩
    rw [upd_ne (ne_of_none h ha), upd_ne (ne_of_none h ha), upd_ne (ne_of_none h hdx)]
    exact h
theorem PlsO.ext {p c : Addr} {T : Nat} {H H' : Hp} {xs : List V} {ps : List (Str × Str)} (h : PlsO H xs ps) (q : Pen H p c T) (x : Ext p H H') : PlsO H' xs ps :=
  h.keepT fun u ws e => x u _ e fun z => by
    obtain ⟨t, l, zz⟩ := q.is
    rw [z, zz] at e
    cases e
theorem seq_mid {A B : TS} {D : Ends} {σ : L2.St} {H : Hp} (Mid : L2.St → Hp → Prop) (h1 : ∀ D', (∀ σ H, Mid σ H → D'.nx σ H) → A D' σ H) (h2 : ∀ σ H, Mid σ H → B D σ H) : tSeq A B D σ H := h1 _ h2
theorem name_go {i : Nat} {v : V} {σ : L2.St} {H : Hp} {Q : L2.St → Hp → Prop} (h : Q (σ.set i (some v)) H) : gName i v σ H Q := h
theorem cut_le {x : Str} {a b : Nat} : (cutS x (some (a : Int)) (some (b : Int))).length ≤ b - a := by
  unfold cutS
  rw [HT.sIx_nat, HT.sIx_nat]
  show (List.toArray _).size ≤ _
  rw [List.size_toArray, List.length_take]
  omega
theorem cutS_len2 (x : Str) (a b : Option Int) : (cutS x a b).length ≤ x.length := cutS_length _ _ _
def spNonces : Sp := fun vs H Q _ => ∃ (p c : Addr) (x sg : Str) (m T : Nat), vs = [.ref p, .str x, .str sg, .int (m : Nat)] ∧ Few sg ∧ Ltr x ∧ x.length ≤ 20 ∧ m ≤ 4 ∧ Pen H p c T ∧ T + 1000 < 1000000000 ∧
  ∀ (l : Addr) ys (ps : List (Str × Str)) H', H l = none → H' l = some (.lst ys) → PlsO H' ys ps → WdsO ps → ps.length ≤ m → Pen H' p c (T + 70) → Ext p H H' → Q (.ref l) H'
abbrev s_lnonces : Stmt := top 64
theorem sc_lnonces : FnScope ["_law_pen_here", "_law_text_here", "_law_signs_here", "_law_many", "_law_found", "_law_k", "_law_at", "_law_was", "_law_again"] ["_law_pen_here", "_law_text_here", "_law_signs_here", "_law_many"] (defScope s_lnonces) := ⟨rfl, rfl, rfl, by decide +kernel, rfl, by decide +kernel, by decide +kernel⟩
theorem b_lnonces {f : Addr} {fd : FuncData} (F : Fun K "_law_nonces" "_law_nonces" s_lnonces f fd) (T : Txt mg) (c_ldraw : CalG P w K mg base CX0 1 "_law_draw" spDraw) (c_lpick : CalG P w K mg base CX0 2 "_law_pick" (spPick K)) (c_lword : CalG P w K mg base CX0 3 "_law_word" spWord) : FnG P w K mg base CX0 4 f fd ["_law_pen_here", "_law_text_here", "_law_signs_here", "_law_many"] spNonces := by
  refine okG0 F sc_lnonces (fun vs H Q E h => ?_) (fun cdv A outer s H vs Q E hg hr h => ?_)
  · obtain ⟨p, c, x, sg, m, T0, rfl, _⟩ := h
    rfl
  · have hu := hu_of hr
    have hu64 := hr.units
    obtain ⟨p, pc, x, sg, m, T0, rfl, fz, lx, hx, hm, hpen, hT, k⟩ := h
    have hr3 : Room 3 _ := hr
    refine ⟨_, (pss_cons (ps_set (i := 4) sc_lnonces.nd rfl (Or.inl rfl) (pe_lst pa_nil))
      (pss_cons (ps_for PassesOwn.never rfl (pi_range1 rfl T.range (pa_cons (pe_cG c_ldraw hg hr (by decide) pass0 (pa_cons (pv 0) (pa_cons (pe_op op_add (pv 3) pe_int) pa_nil))) pa_nil)) (pg_name (i := 5) sc_lnonces.nd rfl (Or.inl rfl)) (pss_cons (ps_set (i := 6) sc_lnonces.nd rfl (Or.inl rfl) (pe_cG c_ldraw hg hr (by decide) pass0 (pa_cons (pv 0) (pa_cons (pe_op op_add (pe_callB call_len (by rfl) T.len (by decide +kernel) (pa_cons (pv 1) pa_nil)) pe_int) pa_nil))))
      (pss_cons (ps_set (i := 7) sc_lnonces.nd rfl (Or.inl rfl) (pe_orT (pe_slice sl_str (pv 1) (po_some (pv 6)) (po_some (pe_op op_add (pe_op op_add (pv 6) pe_int) (pe_cG c_ldraw hg hr (by decide) pass0 (pa_cons (pv 0) (pa_cons pe_int pa_nil)))))) (pe_one (pe_cG c_lword hg hr (by decide) pass0 (pa_cons (pv 0) (pa_cons (pv 2) (pa_cons pe_int (pa_cons pe_int pa_nil))))))))
      (pss_cons (ps_set (i := 8) sc_lnonces.nd rfl (Or.inl rfl) (pe_slice sl_str (pe_slice sl_str (pv 1) (po_some (pe_cG c_ldraw hg hr (by decide) pass0 (pa_cons (pv 0) (pa_cons (pe_op op_add (pe_callB call_len (by rfl) T.len (by decide +kernel) (pa_cons (pv 1) pa_nil)) pe_int) pa_nil)))) po_none) po_none (po_some pe_int)))
      (pss_one (ps_expr (pe_bm PySem.F.plainAttrs_list PySem.F.slot_list_append PySem.F.type_list_append mt_append (pv 4) (pa_cons (pe_tup (pa_cons pe_str (pa_cons (pe_tup (pa_cons (pe_tup (pa_cons (pv 7) (pa_cons (pe_cG c_lpick hg hr (by decide) pass0 (pa_cons (pv 0) (pa_cons (pe_lst (pa_cons (pe_cG c_lword hg hr (by decide) pass0 (pa_cons (pv 0) (pa_cons (pv 2) (pa_cons pe_int (pa_cons pe_int pa_nil))))) (pa_cons (pv 8) (pa_cons (pv 7) (pa_cons pe_str pa_nil))))) pa_nil))) pa_nil))) pa_nil)) pa_nil))) pa_nil))))))))
      (pss_one (ps_ret (pv 4))))), ?_⟩
    refine ⟨few_len (Nat.zero_le _), fun lo hlo => ?_⟩
    have s0 := same_new (o := .lst []) hlo
    refine ⟨_, rfl, _, rfl, _, _, rfl, rfl, p, pc, _, _, rfl, by omega, by omega, hpen.stay s0, by omega, fun dI H1 d0 d1 P1 x1 => ?_⟩
    obtain ⟨d, rfl⟩ : ∃ n : Nat, dI = (n : Int) := ⟨dI.toNat, by omega⟩
    refine ⟨_, rfl, by omega, by omega, ?_⟩
    have hp0 := hpen.stay s0
    have l1 := hp0.keepI x1 (upd_same (H := H) (a := lo) (o := .lst []))
    refine for_range (lo := 0) (n := ((d : Nat) : Int).toNat) (fun i σ H' => ∃ (o5 o6 o7 o8 : Option V) (ys : List V) (ps : List (Str × Str)), σ = [some (.ref p), some (.str x), some (.str sg), some (.int (m : Nat)), some (.ref lo), o5, o6, o7, o8] ∧ H' lo = some (.lst ys) ∧ PlsO H' ys ps ∧ WdsO ps ∧ ps.length = i ∧ Pen H' p pc (T0 + 1 + 15 * i) ∧ Ext p H H') ⟨_, _, _, _, [], [], rfl, l1, .nil, (fun q hq => nomatch hq), rfl, P1, (Ext.same s0).trans x1⟩ ?_ ?_
    · rintro i σ H2 hi ⟨o5, o6, o7, o8, ys, ps, rfl, hl, hpl, hw, hlen, P2, x2⟩
      have i4 : i < 4 := by omega
      have xl : x.length ≤ sizeLine := few_len (by omega)
      -- at
      refine ⟨_, rfl, _, rfl, _, _, rfl, ⟨xl, rfl⟩, _, _, rfl, rfl, p, pc, _, _, rfl, by omega, by omega, P2, by omega, fun aI H3 a0 a1 P3 x3 => ?_⟩
      obtain ⟨a, rfl⟩ : ∃ n : Nat, aI = (n : Int) := ⟨aI.toNat, by omega⟩
      have h23 : Ext p H H3 := x2.trans x3
      replace hpl := hpl.ext P2 x3
      replace hl := P2.keepI x3 hl
      -- was
      refine name_go ?_
      dsimp only
      refine seq_mid (fun σ H' => ∃ wz : Str, σ = [some (.ref p), some (.str x), some (.str sg), some (.int (m : Nat)), some (.ref lo), some (.int (0 + (i : Int))), some (.int (a : Nat)), some (.str wz), o8] ∧ 1 ≤ wz.length ∧ wz.length ≤ 3 ∧ Ltr wz ∧ H' lo = some (.lst ys) ∧ PlsO H' ys ps ∧ Pen H' p pc (T0 + 1 + 15 * i + 6) ∧ Ext p H H') (fun D' hD' => ?_) (fun σ H4 hm => ?_)
      · refine ⟨_, rfl, _, rfl, _, rfl, _, rfl, _, _, rfl, rfl, _, rfl, p, pc, _, _, rfl, by decide, by decide, P3, by omega, fun eI H4 e0 e1 P4 x4 => ?_⟩
        obtain ⟨e, rfl⟩ : ∃ n : Nat, eI = (n : Int) := ⟨eI.toNat, by omega⟩
        replace hpl := hpl.ext P3 x4
        replace hl := P3.keepI x4 hl
        have h24 := h23.trans x4
        have ce : ((a : Nat) : Int) + 1 + ((e : Nat) : Int) = ((a + 1 + e : Nat) : Int) := by omega
        have cl : (cutS x (some ((a : Nat) : Int)) (some ((a + 1 + e : Nat) : Int))).length ≤ 3 := Nat.le_trans cut_le (by omega)
        refine ⟨_, _, rfl, rfl, _, rfl, x, rfl, xl, ?_⟩
        rw [ce]
        refine ⟨_, ⟨few_len (by omega), rfl⟩, ?_⟩
        by_cases c0 : (cutS x (some ((a : Nat) : Int)) (some ((a + 1 + e : Nat) : Int))).length = 0
        · rw [c0]
          refine iteF ?_
          refine ⟨_, rfl, _, rfl, p, pc, sg, 1, 2, _, rfl, by decide, by decide, fz.1, Nat.le_trans fz.2.1 (by decide), P4, by omega, fun wz H5 gw P5 x5 => ?_⟩
          refine hD' _ _ ⟨wz, rfl, gw.1, Nat.le_trans gw.2.1 (by decide), fun c hc => fz.2.2 c (gw.2.2 c hc), P4.keepI x5 hl, hpl.ext P4 x5, P5.mono (by omega), h24.trans x5⟩
        · rw [show (((cutS x (some ((a : Nat) : Int)) (some ((a + 1 + e : Nat) : Int))).length : Int) != 0) = true from by
            rw [bne_iff_ne]
            omega]
          refine iteT ?_
          exact hD' _ _ ⟨_, rfl, by omega, cl, cutS_lt lx _ _, hl, hpl, P4.mono (by omega), h24⟩
      · obtain ⟨wz, rfl, w1, w3, wl, hl, hpl, P4, h24⟩ := hm
        -- again
        refine ⟨_, rfl, _, rfl, _, rfl, _, _, rfl, ⟨xl, rfl⟩, _, _, rfl, rfl, p, pc, _, _, rfl, by omega, by omega, P4, by omega, fun bI H5 b0 b1 P5 x5 => ?_⟩
        replace hpl := hpl.ext P4 x5
        replace hl := P4.keepI x5 hl
        have h25 := h24.trans x5
        have ll : Ltr (cutS (cutS x (some bI) none) none (some 2)) := cutS_lt (cutS_lt lx _ _) _ _
        have lc : (cutS (cutS x (some bI) none) none (some 2)).length ≤ 2 := cut_upto _ 2
        refine ⟨_, rfl, x, rfl, xl, _, rfl, _, rfl, few_len (Nat.le_trans (cutS_len2 _ _ _) (by omega)), ?_⟩
        generalize cutS (cutS x (some bI) none) none (some 2) = ag at ll lc
        -- the plain one
        refine ⟨_, rfl, .inl ⟨rfl, _, SqL.of hl⟩, _, rfl, _, rfl, _, rfl, _, rfl, p, pc, sg, 0, 2, _, rfl, by decide, by decide, fz.1, Nat.le_trans fz.2.1 (by decide), P5, by omega, fun w0 H6 g0 P6 x6 => ?_⟩
        replace hpl := hpl.ext P5 x6
        replace hl := P5.keepI x6 hl
        refine ⟨_, rfl, _, rfl, few_len (Nat.le_of_ble_eq_true rfl), fun ol hol => ?_⟩
        have so := same_new (o := .lst [.str w0, .str ag, .str wz, .str (Str.ofString "")]) hol
        refine ⟨p, pc, _, _, _, rfl, .lst (SqL.of upd_same), (fun z => by cases z), by show 4 ≤ 1000; decide, P6.stay so, by omega, fun v H7 hv P7 x7 => ?_⟩
        replace hl := (P6.stay so).keepI x7 (so _ _ hl)
        replace hpl := (hpl.keepT fun u ws h => so _ _ h).ext (P6.stay so) x7
        have h27 := ((h25.trans x6).trans (Ext.same so)).trans x7
        obtain ⟨fr, rfl, f3, fl3⟩ : ∃ fr : Str, v = .str fr ∧ fr.length ≤ 3 ∧ Ltr fr := by
          simp only [List.mem_cons, List.not_mem_nil, or_false] at hv
          rcases hv with rfl | rfl | rfl | rfl
          · exact ⟨_, rfl, Nat.le_trans g0.2.1 (by decide), fun c hc => fz.2.2 c (g0.2.2 c hc)⟩
          · exact ⟨_, rfl, by omega, ll⟩
          · exact ⟨_, rfl, w3, wl⟩
          · exact ⟨_, rfl, Nat.zero_le _, fun c hc => nomatch hc⟩
        refine ⟨few_len (Nat.le_of_ble_eq_true rfl), fun t3 h3 => ⟨few_len (Nat.le_of_ble_eq_true rfl), fun t2 h2 => ⟨few_len (Nat.le_of_ble_eq_true rfl), fun t h1 => ?_⟩⟩⟩
        have s3 := same_new (o := .tup [.str wz, .str fr]) h3
        have s2 := same_new (o := .tup [.ref t3]) h2
        have s1 := same_new (o := .tup [.str "once", .ref t2]) h1
        have s31 := (s3.trans s2).trans s1
        have hl8 := s31 _ _ hl
        have a1 := hpen.apart hlo
        refine ⟨lo, ys, _, rfl, rfl, hl8, fewL (by have := paired_len hpl; omega), ?_⟩
        refine ⟨_, _, _, _, ys ++ [.ref t], ps ++ [(wz, fr)], rfl, upd_same, ?_, ?_, ?_, ?_, ?_⟩
        · have ut : ∀ u ws, (upd (upd (upd H7 t3 (.tup [.str wz, .str fr])) t2 (.tup [.ref t3])) t (.tup [.str "once", .ref t2])) u = some (.tup ws) → (upd (upd (upd (upd H7 t3 (.tup [.str wz, .str fr])) t2 (.tup [.ref t3])) t (.tup [.str "once", .ref t2])) lo (.lst (ys ++ [.ref t]))) u = some (.tup ws) := fun u ws h => by
            rw [upd_ne (fun z => by rw [z, hl8] at h; cases h)]
            exact h
          exact Paired.snoc ((hpl.keepT fun u ws h => s31 _ _ h).keepT ut) ⟨t, t2, t3, rfl, ut _ _ upd_same, ut _ _ (s1 _ _ upd_same), ut _ _ (s1 _ _ (s2 _ _ upd_same))⟩
        · intro q hq
          rcases List.mem_append.mp hq with h | h
          · exact hw q h
          · rw [List.mem_singleton.mp h]
            exact ⟨w1, w3, f3, wl, fl3⟩
        · rw [List.length_append, hlen]
          rfl
        · exact ((((P7.stay s3).stay s2).stay s1).mono (by omega)).set a1.1 a1.2
        · exact (h27.trans (Ext.same s31)).set hlo
    · rintro σ H2 ⟨o5, o6, o7, o8, ys, ps, rfl, hl, hpl, hw, hlen, P2, x2⟩
      refine ⟨_, rfl, k lo ys ps H2 hlo hl hpl hw (by omega) (P2.mono (by omega)) x2⟩
end
end Vk
set_option Elab.async false
set_option maxRecDepth 100000
set_option maxHeartbeats 4000000
set_option linter.all false
namespace Vk
open PySem PySem.Spec PyProof.Rows L2
/-! ## != of a list and the empty list -/
def rNeNil (K : PySem.W.Frag) : R2 := fun x y H Q => ∃ a xs b, x = .ref a ∧ y = .ref b ∧ SqL K H a xs ∧ SqL K H b [] ∧ Q (.bl (!decide (xs.length = 0))) H
theorem op_neNil {X : Cx} (hu : X.A.units + 64 < cLine) : OpR X (compareOp .NotEq) (rNeNil X.K) := by
  intro pins s σ H x y v u Q I rx ry h
  obtain ⟨a, xs, b, rfl, rfl, ha, hb, q⟩ := h
  cases (show v = Value.ref a from rx)
  cases (show u = Value.ref b from ry)
  obtain ⟨us, r1, p1, _⟩ := I.list ha
  obtain ⟨ws, r2, p2, _⟩ := I.list hb
  cases r2
  cases xs with
  | nil =>
    cases r1
    exact (SeqAt.RcNeAt.lists (e := fun _ => true) p1.isList p2.isList rfl (by omega) (fun j h1 h2 => absurd h1 (by simp))) _ _ _ _ ⟨.bl false, H, I, rfl, q⟩
  | cons y ys =>
    cases r1 with
    | cons r rs => exact (SeqAt.RcNeAt.lists_lengths p1.isList p2.isList (by simp) (by omega)) _ _ _ _ ⟨.bl true, H, I, rfl, q⟩
end Vk
set_option Elab.async false
set_option maxRecDepth 100000
set_option linter.all false
set_option maxHeartbeats 4000000
namespace Vk
open PySem PySem.Spec PyProof.Rows L2
section
variable {P : Program} {w : World} {K : PySem.W.Frag} {mg : Str → Option Value} {base : Heap}
/-- a mark: where the letter stood, or None -/
def mV : Option Nat → V
  | some i => .int (i : Nat)
  | none => .non
def WayL (A : Addr → Prop) (H : Hp) (v : V) (s : WS) : Prop := ∃ t wt e, v = .ref t ∧ A e ∧ H t = some (.tup [.ref wt, .str s.2.1, .ref e]) ∧ H wt = some (.tup (s.1.map natV)) ∧ H e = some (.lst (s.2.2.map mV))
theorem WayL.mono {A A' : Addr → Prop} {H H' : Hp} {v : V} {s : WS} (h : WayL A H v s) (kt : ∀ u ws, H u = some (.tup ws) → H' u = some (.tup ws)) (kl : ∀ e es, A e → H e = some (.lst es) → A' e ∧ H' e = some (.lst es)) : WayL A' H' v s := by
  obtain ⟨t, wt, e, e1, a, h1, h2, h3⟩ := h
  obtain ⟨a', h3'⟩ := kl e _ a h3
  exact ⟨t, wt, e, e1, a', kt _ _ h1, kt _ _ h2, h3'⟩
def LayL (A : Addr → Prop) (H : Hp) : List V → List WS → Prop := Paired (WayL A H)
theorem LayL.mono {A A' : Addr → Prop} {H H' : Hp} {xs : List V} {L : List WS} (h : LayL A H xs L) (kt : ∀ u ws, H u = some (.tup ws) → H' u = some (.tup ws)) (kl : ∀ e es, A e → H e = some (.lst es) → A' e ∧ H' e = some (.lst es)) : LayL A' H' xs L :=
  pair_mono (fun _ _ q => WayL.mono q kt kl) h
theorem LayL.keep {A : Addr → Prop} {H H' : Hp} {xs : List V} {L : List WS} (h : LayL A H xs L) (s : Same H H') : LayL A H' xs L := h.mono (fun u ws e => s _ _ e) fun e es a q => ⟨a, s _ _ q⟩
theorem rg_marks (n : Nat) : rgV 0 (n : Nat) = ((List.range n).map some).map mV := by
  unfold rgV
  rw [show ((n : Int) - 0).toNat = n by omega, List.map_map]
  refine List.map_congr_left fun j _ => ?_
  show V.int (0 + ((j : Nat) : Int)) = V.int ((j : Nat) : Int)
  rw [Int.zero_add]
theorem cutV_to {xs : List V} {p : Nat} (h : p ≤ xs.length) : cutV xs none (some (p : Int)) = xs.take p := by
  unfold cutV
  rw [HT.sIx_none, HT.sIx_nat, Nat.min_eq_left h, List.drop_zero, Nat.sub_zero]
theorem filt_map {f : Nat → Option WS} {p : Nat → Bool} : ∀ {l : List Nat}, (∀ a ∈ l, p a = false → f a = none) → (l.filter p).filterMap f = l.filterMap f
  | [], _ => rfl
  | a :: l, h => by
    have ih := filt_map (f := f) (p := p) (l := l) fun b hb => h b (List.mem_cons_of_mem _ hb)
    cases q : p a with
    | true => rw [List.filter_cons_of_pos q, List.filterMap_cons, List.filterMap_cons, ih]
    | false =>
      rw [List.filter_cons_of_neg (by rw [q]; decide), List.filterMap_cons, h a List.mem_cons_self q]
      exact ih
def freeK (n : Nat) (s : WS) : List Nat := (List.range n).filter fun k => !decide (k ∈ s.1)
theorem free_step {ps : List (Str × Str)} {s : WS} : (freeK ps.length s).filterMap (stepW ps s) = (List.range ps.length).filterMap (stepW ps s) :=
  filt_map fun k hk h => by
    have kl := List.mem_range.mp hk
    have hm : k ∈ s.1 := by simpa using h
    exact step_no (List.getElem?_eq_getElem kl) (.inl hm)
theorem fm_snoc {f : Nat → Option WS} {l : List Nat} {i k : Nat} (h : l[i]? = some k) : (l.take (i + 1)).filterMap f = (l.take i).filterMap f ++ (f k).toList := by
  rw [List.take_add_one, h, Option.toList_some, List.filterMap_append]
  refine congrArg (_ ++ ·) ?_
  rw [List.filterMap_cons]
  cases f k <;> rfl
theorem catA_go {a b : Addr} {xs ys : List V} {H : Hp} {Q : VK} (ha : H a = some (.tup xs)) (hb : H b = some (.tup ys)) (ne : ys ≠ []) (len : xs.length + ys.length ≤ sizeLine) (h : ∀ wn H', Same H H' → H' wn = some (.tup (xs ++ ys)) → Q (.ref wn) H') : rCatA K (.ref a) (.ref b) H Q :=
  ⟨a, b, xs, ys, rfl, rfl, SqT.of ha, SqT.of hb, len, fun e => h b H (fun _ _ q => q) (by rw [e]; exact hb), fun _ e => absurd e ne, fun _ _ p hp => h p _ (same_new hp) upd_same⟩
theorem rep_none : ∀ n, (List.replicate n [V.non]).flatten = (List.replicate n (none : Option Nat)).map mV
  | 0 => rfl
  | n + 1 => by
    rw [List.replicate_succ, List.flatten_cons, rep_none n, List.replicate_succ, List.map_cons]
    rfl
def spNways : Sp := fun vs H Q _ => ∃ (x : Str) (pl : Addr) (ys : List V) (ps : List (Str × Str)), vs = [.str x, .ref pl] ∧ H pl = some (.lst ys) ∧ PlsO H ys ps ∧ PsOk ps ∧ x.length ≤ 20 ∧ ps.length ≤ 4 ∧
  ∀ (l : Addr) zs H', H l = none → H' l = some (.lst zs) → LayL (fun _ => True) H' zs (allR ps x) → Same H H' → Q (.ref l) H'
abbrev s_lnways : Stmt := top 65
theorem sc_lnways : FnScope ["_law_text_here", "_law_plains", "_law_layer", "_law_found", "_law_further", "_law_way", "_law_here", "_law_marks", "_law_k", "_law_was", "_law_fresh", "_law_spots", "_law_at", "_law_tip", "_law_kept"] ["_law_text_here", "_law_plains"] (defScope s_lnways) := ⟨rfl, rfl, rfl, by decide +kernel, rfl, by decide +kernel, by decide +kernel⟩
theorem b_lnways {f : Addr} {fd : FuncData} (F : Fun K "_law_nways" "_law_nways" s_lnways f fd) (T : Txt mg) (c_lplaces : CalG P w K mg base CX0 1 "_law_places" (spPlaces K)) : FnG P w K mg base CX0 2 f fd ["_law_text_here", "_law_plains"] spNways := by
  refine okG0 F sc_lnways (fun vs H Q E h => ?_) (fun cdv A outer s H vs Q E hg hr h => ?_)
  · obtain ⟨x, pl, ys, ps, rfl, _⟩ := h
    rfl
  · have hu := hu_of hr
    have hu64 := hr.units
    obtain ⟨x, pl, ys, ps, rfl, hpl, pls, ok, hx, h4, k⟩ := h
    have gys := paired_len pls
    have xl : x.length ≤ sizeLine := few_len (by omega)
    refine ⟨_, (pss_cons (ps_par (i := 2) (j := 3) (by rfl) sc_lnways.nd rfl rfl (by decide) rfl rfl (pa_cons (pe_lst (pa_cons (pe_tup (pa_cons (pe_tup pa_nil) (pa_cons (pv 0) (pa_cons (pe_listRg rfl (by rfl) T.list (prg_1 (by rfl) T.range (pe_callB call_len (by rfl) T.len (by decide +kernel) (pa_cons (pv 0) pa_nil)))) pa_nil)))) pa_nil)) (pa_cons (pe_lst pa_nil) pa_nil)) (by rfl))
      (pss_cons (ps_while PassesOwn.never (pt_cmpR (op_neNil hu64) (pv 2) (pe_lst pa_nil) (nomark _)) (pss_cons (ps_par (i := 3) (j := 4) (by rfl) sc_lnways.nd rfl rfl (by decide) rfl rfl (pa_cons (pe_op op_cat (pv 3) (pv 2)) (pa_cons (pe_lst pa_nil) pa_nil)) (by rfl))
      (pss_cons (ps_for PassesOwn.never rfl (pi_list (pv 2)) (pg_tup rfl (pgs_cons (pg_name (i := 5) sc_lnways.nd rfl (Or.inr rfl)) (pgs_cons (pg_name (i := 6) sc_lnways.nd rfl (Or.inl rfl)) (pgs_cons (pg_name (i := 7) sc_lnways.nd rfl (Or.inl rfl)) pgs_nil)))) (pss_one (ps_for PassesOwn.never rfl (pi_list (pe_lc (own := [("_law_k", 8)]) (g := gName 8) rfl sc_lnways.nd (pi_range1 rfl T.range (pa_cons (pe_callB call_len (by rfl) T.len (by decide +kernel) (pa_cons (pv 1) pa_nil)) pa_nil)) (blkOk_by (own := [("_law_k", 8)]) (N := ["_law_text_here", "_law_plains", "_law_layer", "_law_found", "_law_further", "_law_way", "_law_here", "_law_marks", "_law_k", "_law_was", "_law_fresh", "_law_spots", "_law_at", "_law_tip", "_law_kept"]) (sc := defScope s_lnways) (by decide +kernel)) (fun _ _ _ _ _ => (pg_name (i := 8) sc_lnways.nd rfl (Or.inl rfl))) (fun _ _ _ _ _ => (pts_one (pt_cmpR (op_notIn_seqK (K := K) rfl) (pv 8) (pv 5) (by rfl)))) (fun _ _ _ _ _ => (pv 8)))) (pg_name (i := 8) sc_lnways.nd rfl (Or.inl rfl)) (pss_cons (ps_asg (pe_ix ix_seq (pe_ix ix_seq (pe_ix ix_seq (pv 1) (pv 8) (fun _ _ => rfl)) pe_int (fun _ _ => rfl)) pe_int (fun _ _ => rfl)) (pg_tup rfl (pgs_cons (pg_name (i := 9) sc_lnways.nd rfl (Or.inl rfl)) (pgs_cons (pg_name (i := 10) sc_lnways.nd rfl (Or.inl rfl)) pgs_nil))))
      (pss_cons (ps_set (i := 11) sc_lnways.nd rfl (Or.inl rfl) (pe_cG c_lplaces hg hr (by decide) pass0 (pa_cons (pv 6) (pa_cons (pv 9) pa_nil))))
      (pss_one (ps_if (pt_cmpR op_eq (pe_callB call_len (by rfl) T.len (by decide +kernel) (pa_cons (pv 11) pa_nil)) pe_int (nomark _)) (pss_cons (ps_par (i := 12) (j := 13) (by rfl) sc_lnways.nd rfl rfl (by decide) rfl rfl (pa_cons (pe_ix ix_seq (pv 11) pe_int (fun _ _ => rfl)) (pa_cons (pe_op op_add (pe_ix ix_seq (pv 11) pe_int (fun _ _ => rfl)) (pe_callB call_len (by rfl) T.len (by decide +kernel) (pa_cons (pv 9) pa_nil))) pa_nil)) (by rfl))
      (pss_cons (ps_set (i := 14) sc_lnways.nd rfl (Or.inl rfl) (pe_op op_cat (pe_op op_cat (pe_slice sl_list (pv 7) po_none (po_some (pv 12))) (pe_op op_rep (pe_lst (pa_cons pe_non pa_nil)) (pe_callB call_len (by rfl) T.len (by decide +kernel) (pa_cons (pv 10) pa_nil)))) (pe_slice sl_list (pv 7) (po_some (pv 13)) po_none)))
      (pss_one (ps_expr (pe_bm PySem.F.plainAttrs_list PySem.F.slot_list_append PySem.F.type_list_append mt_append (pv 4) (pa_cons (pe_tup (pa_cons (pe_op op_catA (pv 5) (pe_tup (pa_cons (pv 8) pa_nil))) (pa_cons (pe_op op_add_str (pe_op op_add_str (pe_slice sl_str (pv 6) po_none (po_some (pv 12))) (pv 10)) (pe_slice sl_str (pv 6) (po_some (pv 13)) po_none)) (pa_cons (pv 14) pa_nil)))) pa_nil)))))) pss_nil)))))))
      (pss_one (ps_set (i := 2) sc_lnways.nd rfl (Or.inl rfl) (pv 4))))))
      (pss_one (ps_ret (pv 3))))), ?_⟩
    refine ⟨few_len (Nat.zero_le _), fun w hw => ⟨_, rfl, _, rfl, _, _, rfl, ⟨xl, rfl⟩, _, rfl, .of_le (by omega) (by omega) (by omega) (by omega), fun e he => ⟨few_len (Nat.le_of_ble_eq_true rfl), fun t ht => ⟨few_len (Nat.le_of_ble_eq_true rfl), fun r hr1 => ⟨few_len (Nat.zero_le _), fun fo hfo => ⟨_, _, rfl, ?_⟩⟩⟩⟩⟩⟩
    have sw := same_new (o := .tup []) hw
    have se := same_new (o := .lst (rgV 0 (x.length : Nat))) he
    have st := same_new (o := .tup [.ref w, .str x, .ref e]) ht
    have sr := same_new (o := .lst [.ref t]) hr1
    have sf := same_new (o := .lst []) hfo
    have w1 := (((se.trans st).trans sr).trans sf) _ _ (upd_same (H := H) (a := w) (o := .tup []))
    have e1 := ((st.trans sr).trans sf) _ _ (upd_same (H := upd H w (.tup [])) (a := e) (o := .lst (rgV 0 (x.length : Nat))))
    have t1 := (sr.trans sf) _ _ (upd_same (H := upd (upd H w (.tup [])) e (.lst (rgV 0 (x.length : Nat)))) (a := t) (o := .tup [.ref w, .str x, .ref e]))
    have r1 := sf _ _ (upd_same (H := upd (upd (upd H w (.tup [])) e (.lst (rgV 0 (x.length : Nat)))) t (.tup [.ref w, .str x, .ref e])) (a := r) (o := .lst [.ref t]))
    have f1 : (upd (upd (upd (upd (upd H w (.tup [])) e (.lst (rgV 0 (x.length : Nat)))) t (.tup [.ref w, .str x, .ref e])) r (.lst [.ref t])) fo (.lst [])) fo = some (.lst []) := upd_same
    have s1 := (((sw.trans se).trans st).trans sr).trans sf
    have hfo0 := none_up (((sw.trans se).trans st).trans sr) hfo
    generalize upd (upd (upd (upd (upd H w (.tup [])) e (.lst (rgV 0 (x.length : Nat)))) t (.tup [.ref w, .str x, .ref e])) r (.lst [.ref t])) fo (.lst []) = H1 at w1 e1 t1 r1 f1 s1 ⊢
    clear sw se st sr sf hw he ht hr1 hfo
    rw [rg_marks] at e1
    refine ⟨fun n σ H' => ∃ (m : Nat) (la fo : Addr) (acc xs : List V) (AL L : List WS) (o4 o5 o6 o7 o8 o9 o10 o11 o12 o13 o14 : Option V), σ = [some (.str x), some (.ref pl), some (.ref la), some (.ref fo), o4, o5, o6, o7, o8, o9, o10, o11, o12, o13, o14] ∧ m + n = ps.length + 1 ∧ Same H H' ∧ H fo = none ∧ H' fo = some (.lst acc) ∧ H' la = some (.lst xs) ∧ LayL (fun _ => True) H' acc AL ∧ LayL (fun _ => True) H' xs L ∧ AL ++ allW ps n L = allR ps x ∧ GoodL ps x.length m L ∧ L.length ≤ 4 ^ m, ⟨ps.length + 1, 0, r, fo, [], [.ref t], [], [startW x], _, _, _, _, _, _, _, _, _, _, _, rfl, Nat.zero_add _, s1, hfo0, f1, r1, .nil, .cons ⟨t, w, e, rfl, True.intro, t1, w1, e1⟩ .nil, rfl, good_start (Nat.le_refl _), Nat.le_refl _⟩, ?_⟩
    rintro n σ H2 ⟨m, la, fo, acc, xs, AL, L, o4, o5, o6, o7, o8, o9, o10, o11, o12, o13, o14, rfl, hmn, s2, hfo0, hfo, hla, lA, lL, eA, good, hL⟩
    have gA := paired_len lA
    have gL := paired_len lL
    have aL : (AL ++ allW ps n L).length ≤ 341 := by rw [eA]; exact allR_len h4
    rw [List.length_append] at aL
    refine ⟨_, rfl, few_len (Nat.zero_le _), fun q0 hq0 => ⟨la, xs, q0, rfl, rfl, SqL.of ((same_new hq0) _ _ hla), SqL.of upd_same, _, rfl, ?_⟩⟩
    have sq := same_new (o := .lst []) hq0
    generalize upd H2 q0 (.lst []) = H3 at sq ⊢
    replace s2 := s2.trans sq
    replace hfo := sq _ _ hfo
    replace hla := sq _ _ hla
    replace lA := lA.keep sq
    replace lL := lL.keep sq
    match xs, L, lL, gL, hla with
    | [], [], _, _, _ =>
      rw [allW_nil, List.append_nil] at eA
      refine iteF ⟨_, rfl, k fo acc H3 hfo0 hfo ?_ s2⟩
      rw [← eA]
      exact lA
    | v :: xs, z0 :: L, lL, gL, hla =>
      have hm := (good z0 List.mem_cons_self).le
      match n, hmn, eA, aL with
      | 0, hmn, _, _ => omega
      | n + 1, hmn, eA, aL =>
        have lxs : (v :: xs).length ≤ 341 := by
          rw [gL]
          have e : (allW ps (n + 1) (z0 :: L)).length = (z0 :: L).length + (allW ps n (nextW ps (z0 :: L))).length := by
            show ((z0 :: L) ++ allW ps n (nextW ps (z0 :: L))).length = _
            rw [List.length_append]
          omega
        have p256 : (z0 :: L).length ≤ 256 := Nat.le_trans hL (Nat.le_trans (Nat.pow_le_pow_right (by decide) (show m ≤ 4 by omega)) (by decide))
        refine iteT ⟨fun σ' H' => ∃ (la fo : Addr) (acc xs : List V) (AL L : List WS) (o4 o5 o6 o7 o8 o9 o10 o11 o12 o13 o14 : Option V), σ' = [some (.str x), some (.ref pl), some (.ref la), some (.ref fo), o4, o5, o6, o7, o8, o9, o10, o11, o12, o13, o14] ∧ Same H H' ∧ H fo = none ∧ H' fo = some (.lst acc) ∧ H' la = some (.lst xs) ∧ LayL (fun _ => True) H' acc AL ∧ LayL (fun _ => True) H' xs L ∧ AL ++ allW ps n L = allR ps x ∧ GoodL ps x.length (m + 1) L ∧ L.length ≤ 4 ^ (m + 1), ?_, ?_⟩
        · rintro σ' H' ⟨la3, fo3, acc3, xs3, AL3, L3, p4, p5, p6, p7, p8, p9, p10, p11, p12, p13, p14, rfl, a1, a2, a3, a4, a5, a6, a7, a8, a9⟩
          exact ⟨n, Nat.lt_succ_self _, m + 1, la3, fo3, acc3, xs3, AL3, L3, _, _, _, _, _, _, _, _, _, _, _, rfl, by omega, a1, a2, a3, a4, a5, a6, a7, a8, a9⟩
        · refine ⟨_, rfl, _, rfl, fo, la, acc, v :: xs, rfl, rfl, hfo, hla, few_len (by omega), fun f2 hf2 => ⟨few_len (Nat.zero_le _), fun lo hlo => ⟨_, _, rfl, ?_⟩⟩⟩
          have sf2 := same_new (o := .lst (acc ++ v :: xs)) hf2
          have slo := same_new (o := .lst []) hlo
          have hf20 := none_up s2 hf2
          have hf22 := slo _ _ (upd_same (H := H3) (a := f2) (o := .lst (acc ++ v :: xs)))
          have hlo2 : (upd (upd H3 f2 (.lst (acc ++ v :: xs))) lo (.lst [])) lo = some (.lst []) := upd_same
          have lo3' := none_up sf2 hlo
          have nf : f2 ≠ lo := ne_of_none upd_same hlo
          have s3 := sf2.trans slo
          generalize upd (upd H3 f2 (.lst (acc ++ v :: xs))) lo (.lst []) = H4 at hf22 hlo2 s3 ⊢
          clear sf2 slo hlo
          refine ⟨_, rfl, la, rfl, ⟨_, SqL.of (s3 _ _ hla)⟩, ?_⟩
          refine for_list (K := K) (a := la) (xs := v :: xs) (fun i σ H' => ∃ (o5 o6 o7 o8 o9 o10 o11 o12 o13 o14 : Option V) (zs : List V), σ = [some (.str x), some (.ref pl), some (.ref la), some (.ref f2), some (.ref lo), o5, o6, o7, o8, o9, o10, o11, o12, o13, o14] ∧ H' lo = some (.lst zs) ∧ LayL (fun e => e ≠ lo) H' zs (nextW ps ((z0 :: L).take i)) ∧ Same H3 H' ∧ H' f2 = some (.lst (acc ++ v :: xs))) ⟨_, _, _, _, _, _, _, _, _, _, [], rfl, hlo2, .nil, s3, hf22⟩ (fun i σ H' _ q => ?_) (fun i u σ H5 hu5 q => ?_) (fun σ H5 q => ?_)
          · obtain ⟨_, _, _, _, _, _, _, _, _, _, _, _, _, _, s, _⟩ := q
            exact SqL.of (s _ _ hla)
          · obtain ⟨p5, p6, p7, p8, p9, p10, p11, p12, p13, p14, zs, rfl, hz, lz, s5, hf5⟩ := q
            obtain ⟨s, hs, t, wt, e, rfl, _, ht, hwt, he⟩ := paired_at lL hu5
            have gd := good s (List.mem_of_getElem? hs)
            have gdt := gd.tl
            have gdl := gd.le
            have i256 : i < 256 := by
              have := (List.getElem?_eq_some_iff.mp hs).1
              omega
            refine ⟨t, _, rfl, SqT.of (s5 _ _ ht), rfl, _, _, rfl, _, _, rfl, _, _, rfl, rfl, ?_⟩
            refine ⟨_, rfl, _, _, rfl, .inl ⟨_, SqL.of ((s2.trans s5) _ _ hpl), rfl⟩, _, rfl, by omega, by omega, fun D hD => ?_⟩
            refine lc_range (lo := 0) (n := ys.length) (fun j H' => H' D = some (.lst (((List.range j).filter fun k => !decide (k ∈ s.1)).map natV)) ∧ Same H5 H') ⟨upd_same, same_new hD⟩ (fun j H' hj q => ?_) (fun H6 q => ?_)
            · obtain ⟨hd, sm⟩ := q
              refine ⟨rfl, ?_⟩
              refine ⟨_, rfl, _, rfl, wt, _, rfl, .inr (SqT.of (sm _ _ (s5 _ _ hwt))), rfl, natV_flat _, _, rfl, ?_⟩
              rw [show (if true = true then !inV (V.int (0 + (j : Int))) (s.1.map natV) else inV (V.int (0 + (j : Int))) (s.1.map natV)) = !decide (j ∈ s.1) by rw [if_pos rfl, Int.zero_add, natV_in]]
              rw [List.range_succ, List.filter_append]
              have fl4 : ((List.range j).filter fun k => !decide (k ∈ s.1)).length ≤ 4 := Nat.le_trans (List.length_filter_le _ _) (by rw [List.length_range]; omega)
              cases c : (!decide (j ∈ s.1)) with
              | false =>
                refine iteF ⟨?_, sm⟩
                rw [List.filter_cons_of_neg (by rw [c]; decide), List.filter_nil, List.append_nil]
                exact hd
              | true =>
                refine iteT ⟨_, rfl, _, hd, fewL (by rw [List.length_map]; omega), ?_, upd_out hD sm⟩
                rw [List.filter_cons_of_pos (by exact c), List.filter_nil, List.map_append, upd_same, Int.zero_add]
                rfl
            obtain ⟨hD6, s6⟩ := q
            have nD : D ≠ lo := (ne_of_none hz hD).symm
            replace hz := s6 _ _ hz
            replace lz := lz.keep s6
            replace hf5 := s6 _ _ hf5
            have s36 := s5.trans s6
            rw [gys] at hD6
            refine ⟨D, rfl, ⟨_, SqL.of hD6⟩, ?_⟩
            refine for_list (K := K) (a := D) (xs := (freeK ps.length s).map natV) (fun j σ H' => ∃ (o8 o9 o10 o11 o12 o13 o14 : Option V) (zs : List V), σ = [some (.str x), some (.ref pl), some (.ref la), some (.ref f2), some (.ref lo), some (.ref wt), some (.str s.2.1), some (.ref e), o8, o9, o10, o11, o12, o13, o14] ∧ H' lo = some (.lst zs) ∧ LayL (fun e => e ≠ lo) H' zs (nextW ps ((z0 :: L).take i) ++ ((freeK ps.length s).take j).filterMap (stepW ps s)) ∧ Same H3 H' ∧ H' f2 = some (.lst (acc ++ v :: xs)) ∧ H' D = some (.lst ((freeK ps.length s).map natV))) ⟨_, _, _, _, _, _, _, zs, rfl, hz, by rw [show ((freeK ps.length s).take 0).filterMap (stepW ps s) = [] from rfl, List.append_nil]; exact lz, s36, hf5, hD6⟩ (fun j σ H' _ q => ?_) (fun j u σ H7 hu7 q => ?_) (fun σ H7 q => ?_)
            · obtain ⟨_, _, _, _, _, _, _, _, _, _, _, _, _, hd⟩ := q
              exact SqL.of hd
            · obtain ⟨o8, o9, o10, o11, o12, o13, o14, zs, rfl, hz, lz, s7, hf7, hD7⟩ := q
              have lzl := paired_len lz
              have zl : zs.length ≤ 2000 := by
                have h1 := next_len (ps := ps) (L := (z0 :: L).take i)
                have h2 := List.length_filterMap_le (stepW ps s) ((freeK ps.length s).take j)
                have h3 : ((z0 :: L).take i).length ≤ 256 := by rw [List.length_take]; omega
                have h4' : ((z0 :: L).take i).length * ps.length ≤ 256 * 4 := Nat.mul_le_mul h3 h4
                have h5 : ((freeK ps.length s).take j).length ≤ 4 := by
                  rw [List.length_take]
                  exact Nat.le_trans (Nat.min_le_right _ _) (Nat.le_trans (List.length_filter_le _ _) (by rw [List.length_range]; exact h4))
                rw [List.length_append] at lzl
                omega
              rw [List.getElem?_map] at hu7
              obtain ⟨kk, hkk, rfl⟩ := Option.map_eq_some_iff.mp hu7
              obtain ⟨kl, kn⟩ := List.mem_filter.mp (List.mem_of_getElem? hkk)
              replace kl := List.mem_range.mp kl
              have kn2 : kk ∉ s.1 := by simpa using kn
              rw [fm_snoc hkk, ← List.append_assoc]
              have hyk : ys[kk]? = some ys[kk] := List.getElem?_eq_getElem (by omega)
              obtain ⟨q, hq, t1, t2, t3, ey, h1, h2, h3⟩ := paired_at pls hyk
              obtain ⟨ok1, ok2, ok3⟩ := ok q (List.mem_of_getElem? hq)
              have s27 := s2.trans s7
              refine ⟨_, rfl, _, rfl, .inl ⟨pl, ys, _, _, rfl, rfl, SqL.of (s27 _ _ hpl), atI_nat (ey ▸ hyk), .inr (.inl ⟨t1, _, 1, _, rfl, rfl, SqT.of (s27 _ _ h1), rfl, .inr (.inl ⟨t2, _, 0, _, rfl, rfl, SqT.of (s27 _ _ h2), rfl, t3, _, rfl, SqT.of (s27 _ _ h3), rfl, _, _, rfl, _, _, rfl, rfl, ?_⟩)⟩)⟩⟩
              refine ⟨_, rfl, _, rfl, s.2.1, q.1, rfl, by omega, by omega, fun sp H8 hsp0 hsp s8 => ?_⟩
              replace hz := s8 _ _ hz
              replace lz := lz.keep s8
              have s78 := s7.trans s8
              replace hf7 := s8 _ _ hf7
              replace hD7 := s8 _ _ hD7
              have lpl : ((plcI s.2.1 q.1).map V.int).length = (plc s.2.1 q.1).length := by unfold plcI; rw [List.length_map, List.length_map]
              refine ⟨_, rfl, _, _, rfl, .inl ⟨_, SqL.of hsp, rfl⟩, rfl, _, rfl, ?_⟩
              have dc : decide (V.int (((plcI s.2.1 q.1).map V.int).length : Nat) = V.int 1) = decide ((plc s.2.1 q.1).length = 1) := by
                rw [lpl, Bool.eq_iff_iff, decide_eq_true_eq, decide_eq_true_eq]
                exact ⟨fun z => by have := V.int.inj z; omega, fun z => by rw [z]; rfl⟩
              rw [dc]
              by_cases h1c : (plc s.2.1 q.1).length = 1
              · rw [decide_eq_true h1c]
                obtain ⟨p, hp⟩ := one_of h1c
                have pm : p ∈ plc s.2.1 q.1 := by rw [hp]; exact List.mem_cons_self
                have hpl2 := (at_lists.mp (plc_mem.mp pm)).1
                have epI : (plcI s.2.1 q.1).map V.int = [V.int (p : Nat)] := by unfold plcI; rw [hp]; rfl
                rw [epI] at hsp
                rw [step_yes hq kn2 hp]
                refine iteT ?_
                refine ⟨_, rfl, .inl ⟨sp, _, _, _, rfl, rfl, SqL.of hsp, atI_nat (j := 0) rfl, _, rfl, .inl ⟨sp, _, _, _, rfl, rfl, SqL.of hsp, atI_nat (j := 0) rfl, _, rfl, _, _, rfl, ⟨few_len (by omega), rfl⟩, _, _, rfl, rfl, _, _, rfl, ?_⟩⟩⟩
                have et : ((p : Nat) : Int) + ((q.1.length : Nat) : Int) = ((p + q.1.length : Nat) : Int) := by omega
                dsimp only
                rw [et]
                have mlen : (s.2.2.map mV).length = s.2.1.length := by rw [List.length_map, gd.ml]
                have s38 := s78
                have he8 : H8 e = some (.lst (s.2.2.map mV)) := s78 _ _ he
                -- the marks kept
                refine ⟨_, rfl, _, rfl, _, rfl, e, _, rfl, SqL.of he8, fun D1 hD1 => ?_⟩
                rw [cutV_to (by omega)]
                have hm1 : (s.2.2.map mV).take p = (s.2.2.take p).map mV := by rw [List.map_take]
                have hm3 : (s.2.2.map mV).drop (p + q.1.length) = (s.2.2.drop (p + q.1.length)).map mV := by rw [List.map_drop]
                rw [hm1]
                have g1 := same_new (o := .lst ((s.2.2.take p).map mV)) hD1
                have v1 : (upd H8 D1 (.lst ((s.2.2.take p).map mV))) D1 = some (.lst ((s.2.2.take p).map mV)) := upd_same
                have ml := gd.ml
                have b1 : ((s.2.2.take p).map mV).length ≤ 100 := by rw [List.length_map, List.length_take]; omega
                generalize upd H8 D1 (.lst ((s.2.2.take p).map mV)) = G1 at g1 v1 ⊢
                refine ⟨few_len (Nat.le_of_ble_eq_true rfl), fun D2 hD2 => ⟨_, rfl, _, _, rfl, ⟨few_len (by omega), rfl⟩, D2, _, _, rfl, rfl, upd_same, by omega, by omega, few_len (by show 1 * _ ≤ _; rw [Int.toNat_natCast]; omega), fun D3 hD3 => ?_⟩⟩
                rw [Int.toNat_natCast, rep_none]
                have g3 := (same_new (o := .lst [V.non]) hD2).trans (same_new (o := .lst ((List.replicate q.2.length (none : Option Nat)).map mV)) hD3)
                refine ⟨D1, D3, _, _, rfl, rfl, g3 _ _ v1, upd_same, few_len (by rw [List.length_map, List.length_map, List.length_replicate]; rw [List.length_map] at b1; omega), fun D4 hD4 => ?_⟩
                have g4 := (g1.trans g3).trans (same_new (o := .lst ((s.2.2.take p).map mV ++ (List.replicate q.2.length (none : Option Nat)).map mV)) hD4)
                refine ⟨_, rfl, _, rfl, _, rfl, e, _, rfl, SqL.of (g4 _ _ he8), fun D5 hD5 => ?_⟩
                rw [cutV_tail (by omega), hm3]
                refine ⟨D4, D5, _, _, rfl, rfl, (same_new hD5) _ _ upd_same, upd_same, few_len (by rw [List.length_append, List.length_map, List.length_map, List.length_map, List.length_replicate, List.length_drop]; rw [List.length_map] at b1; omega), fun D6 hD6 => ?_⟩
                have g6 := (g4.trans (same_new (o := .lst ((s.2.2.drop (p + q.1.length)).map mV)) hD5)).trans (same_new (o := .lst ((s.2.2.take p).map mV ++ (List.replicate q.2.length (none : Option Nat)).map mV ++ (s.2.2.drop (p + q.1.length)).map mV)) hD6)
                have n6 : D6 ≠ lo := by
                  have q := ((g4.trans (same_new (o := .lst ((s.2.2.drop (p + q.1.length)).map mV)) hD5)) _ _ hz)
                  exact (ne_of_none q hD6).symm
                generalize eG : upd (upd (upd (upd (upd G1 D2 (.lst [V.non])) D3 (.lst ((List.replicate q.2.length (none : Option Nat)).map mV))) D4 (.lst ((s.2.2.take p).map mV ++ (List.replicate q.2.length (none : Option Nat)).map mV))) D5 (.lst ((s.2.2.drop (p + q.1.length)).map mV))) D6 (.lst ((s.2.2.take p).map mV ++ (List.replicate q.2.length (none : Option Nat)).map mV ++ (s.2.2.drop (p + q.1.length)).map mV)) = G6 at g6 ⊢
                have v6 : G6 D6 = some (.lst ((s.2.2.take p ++ List.replicate q.2.length none ++ s.2.2.drop (p + q.1.length)).map mV)) := by
                  rw [← eG, upd_same, List.map_append, List.map_append]
                clear eG g4 g3 g1 v1 hD1 hD2 hD3 hD4 hD5 hD6
                replace hz := g6 _ _ hz
                replace lz := lz.keep g6
                have s86 := s78.trans g6
                replace hf7 := g6 _ _ hf7
                replace hD7 := g6 _ _ hD7
                refine ⟨_, rfl, .inl ⟨rfl, _, SqL.of hz⟩, _, rfl, _, rfl, few_len (Nat.le_of_ble_eq_true rfl), fun kt hkt => ?_⟩
                have gk := same_new (o := .tup [natV kk]) hkt
                refine catA_go (gk _ _ (s86 _ _ hwt)) upd_same (fun z => nomatch z) (few_len (by rw [List.length_map, gd.len, List.length_singleton]; omega)) fun wn H9 s9 hwn => ?_
                refine ⟨_, rfl, _, rfl, _, rfl, _, rfl, few_len (by omega), _, rfl, _, _, rfl, rfl, few_len (Nat.le_trans (Nat.add_le_add (cutS_len2 _ _ _) (Nat.le_refl _)) (by omega)), _, rfl, _, rfl, _, rfl, _, rfl, few_len (by omega), _, _, rfl, rfl, ?_, ?_⟩
                · have a1 := cutS_len2 s.2.1 none (some (p : Int))
                  have a2 := cutS_len2 s.2.1 (some ((p + q.1.length : Nat) : Int)) none
                  refine few_len ?_
                  have : (cutS s.2.1 none (some (p : Int)) ++ q.2).length = (cutS s.2.1 none (some (p : Int))).length + q.2.length := by
                    show (_ ++ _ : Array _).size = _
                    rw [Array.size_append]
                    rfl
                  omega
                rw [putS_law hpl2]
                refine ⟨_, rfl, few_len (Nat.le_of_ble_eq_true rfl), fun tn htn => ?_⟩
                have gt := same_new (o := .tup [.ref wn, .str (putS s.2.1 p q.1.length q.2), .ref D6]) htn
                have g7 := gk.trans (s9.trans gt)
                replace hz := g7 _ _ hz
                replace lz := lz.keep g7
                replace hf7 := g7 _ _ hf7
                replace hD7 := g7 _ _ hD7
                have v7 := g7 _ _ v6
                have wn7 := gt _ _ hwn
                have tn7 : (upd H9 tn (.tup [.ref wn, .str (putS s.2.1 p q.1.length q.2), .ref D6])) tn = some (.tup [.ref wn, .str (putS s.2.1 p q.1.length q.2), .ref D6]) := upd_same
                have s97 := s86.trans g7
                generalize upd H9 tn (.tup [.ref wn, .str (putS s.2.1 p q.1.length q.2), .ref D6]) = G7 at hz lz hf7 hD7 v7 wn7 tn7 s97 ⊢
                refine ⟨lo, zs, _, rfl, rfl, hz, fewL (by omega), _, _, _, _, _, _, _, _, rfl, upd_same, ?_, upd_out lo3' s97, (upd_ne nf).trans hf7, (upd_ne nD).trans hD7⟩
                have ut : ∀ {o : HO} (u : Addr) (ws : List V), G7 u = some (.tup ws) → (upd G7 lo o) u = some (.tup ws) := fun u ws h => by
                  rw [upd_ne (fun z => by rw [z, hz] at h; cases h)]
                  exact h
                refine Paired.snoc (lz.mono (fun u ws h => ut u ws h) fun e es a h => ⟨a, (upd_ne a).trans h⟩) ⟨tn, wn, D6, rfl, n6, ut _ _ tn7, ?_, (upd_ne n6).trans v7⟩
                rw [List.map_append]
                exact ut _ _ wn7
              · rw [decide_eq_false h1c]
                refine iteF ⟨_, _, _, _, _, _, _, zs, rfl, hz, ?_, s78, hf7, hD7⟩
                rw [step_no hq (.inr h1c), Option.toList_none, List.append_nil]
                exact lz
            · obtain ⟨o8, o9, o10, o11, o12, o13, o14, zs, rfl, hz, lz, s7, hf7, hD7⟩ := q
              rw [List.length_map, List.take_of_length_le (Nat.le_refl _), free_step, ← next_snoc hs] at lz
              exact ⟨_, _, _, _, _, _, _, _, _, _, zs, rfl, hz, lz, s7, hf7⟩
          · obtain ⟨p5, p6, p7, p8, p9, p10, p11, p12, p13, p14, zs, rfl, hz, lz, s5, hf5⟩ := q
            rw [List.take_of_length_le (by omega)] at lz
            refine ⟨_, rfl, lo, f2, acc ++ v :: xs, zs, AL ++ z0 :: L, nextW ps (z0 :: L), _, _, _, _, _, _, _, _, _, _, _, rfl, s2.trans s5, hf20, hf5, hz, LayL.keep (app2 lA lL) s5, lz.mono (fun u ws h => h) (fun e es _ h => ⟨True.intro, h⟩), ?_, good.next ok, ?_⟩
            · rw [List.append_assoc]
              exact eA
            · have := next_len (ps := ps) (L := z0 :: L)
              have q : (z0 :: L).length * ps.length ≤ 4 ^ m * 4 := Nat.mul_le_mul hL h4
              rw [Nat.pow_succ]
              omega
end
end Vk
set_option Elab.async false
set_option maxRecDepth 100000
set_option linter.all false
set_option maxHeartbeats 4000000
namespace Vk
open PySem PySem.Spec PyProof.Rows L2
def mD : Option Nat → PyData
  | some i => .int (i : Nat)
  | none => .none
theorem mds_eq : ∀ (l m : List (Option Nat)), PyData.eqv (.list (l.map mD)) (.list (m.map mD)) = decide (l = m)
  | [], [] => rfl
  | [], _ :: _ => rfl
  | _ :: _, [] => rfl
  | a :: l, b :: m => by
    have e : PyData.eqv (mD a) (mD b) = decide (a = b) := by
      match a, b with
      | some i, some j =>
        show decide ((i : Int) = (j : Int)) = _
        rw [Bool.eq_iff_iff, decide_eq_true_eq, decide_eq_true_eq, Option.some.injEq]
        omega
      | some i, none => rfl
      | none, some j => rfl
      | none, none => rfl
    show (PyData.eqv (mD a) (mD b) && PyData.eqv (.list (l.map mD)) (.list (m.map mD))) = _
    rw [mds_eq l m, e, Bool.eq_iff_iff, Bool.and_eq_true, decide_eq_true_eq, decide_eq_true_eq, decide_eq_true_eq, List.cons.injEq]
theorem mds_can : ∀ l : List (Option Nat), PyData.canLayAll0 (l.map mD) = true ∧ PyData.depthAll (l.map mD) = 0
  | [] => ⟨rfl, rfl⟩
  | a :: l => by
    obtain ⟨h1, h2⟩ := mds_can l
    refine ⟨?_, ?_⟩
    · show (PyData.canLay0 (mD a) && PyData.canLayAll0 (l.map mD)) = true
      rw [h1]
      cases a <;> rfl
    · show max (PyData.depth (mD a)) (PyData.depthAll (l.map mD)) = 0
      rw [h2]
      cases a <;> rfl
theorem mds_shaped (l : List (Option Nat)) : SeqAt.shaped (.list (l.map mD)) = true := by
  obtain ⟨h1, h2⟩ := mds_can l
  have h3 : PyData.canLay0 (.list (l.map mD)) = true := h1
  have h4 : PyData.depth (.list (l.map mD)) = 1 := by
    show PyData.depthAll (l.map mD) + 1 = 1
    rw [h2]
  unfold SeqAt.shaped
  rw [h3, h4]
  rfl
theorem rg_from {a b : Nat} (h : a ≤ b) : rgV (a : Nat) (b : Nat) = ((List.range' a (b - a)).map some).map mV := by
  unfold rgV
  rw [show ((b : Int) - (a : Int)).toNat = b - a by omega, List.map_map, List.range'_eq_map_range, List.map_map]
  refine List.map_congr_left fun j _ => ?_
  show V.int ((a : Int) + (j : Int)) = V.int (((a + j : Nat)) : Int)
  rfl
def brkW (x : Str) (a b : Nat) (s : WS) : Bool := match plc s.2.1 (cutS x (some (a : Int)) (some (b : Int))) with
  | [p] => !decide ((s.2.2.drop p).take (b - a) = (List.range' a (b - a)).map some)
  | _ => true
theorem brk_not {x : Str} {a b : Nat} {s : WS} (h : (plc s.2.1 (cutS x (some (a : Int)) (some (b : Int)))).length ≠ 1) : brkW x a b s = true := by
  unfold brkW
  split
  · rename_i p hp
    rw [hp] at h
    exact absurd rfl h
  · rfl
theorem brk_one {x : Str} {a b p : Nat} {s : WS} (h : plc s.2.1 (cutS x (some (a : Int)) (some (b : Int))) = [p]) : brkW x a b s = !decide ((s.2.2.drop p).take (b - a) = (List.range' a (b - a)).map some) := by
  unfold brkW
  rw [h]
section
variable {P : Program} {w : World} {K : PySem.W.Frag} {mg : Str → Option Value} {base : Heap}
theorem mds_dp {H : Hp} : ∀ l : List (Option Nat), DpAll K H (l.map mV) (l.map mD)
  | [] => .nil
  | some i :: l => .cons (.int _) (mds_dp l)
  | none :: l => .cons .non (mds_dp l)
def spNbreak : Sp := fun vs H Q _ => ∃ (x : Str) (a b : Nat) (bh : Addr) (zs : List V) (AL : List WS), vs = [.str x, .int (a : Nat), .int (b : Nat), .ref bh] ∧ x.length ≤ 20 ∧ a ≤ b ∧ b ≤ x.length ∧ H bh = some (.lst zs) ∧ LayL (fun _ => True) H zs AL ∧ (∀ s ∈ AL, s.2.1.length ≤ 100 ∧ s.2.2.length = s.2.1.length) ∧
  (AL.find? (brkW x a b) = none → ∀ H', Same H H' → Q .non H') ∧ (∀ s, AL.find? (brkW x a b) = some s → ∀ wt H', Same H H' → H' wt = some (.tup (s.1.map natV)) → Q (.ref wt) H')
abbrev s_lnbreak : Stmt := top 66
theorem sc_lnbreak : FnScope ["_law_text_here", "_law_a", "_law_b", "_law_behind", "_law_way", "_law_here", "_law_marks", "_law_spots"] ["_law_text_here", "_law_a", "_law_b", "_law_behind"] (defScope s_lnbreak) := ⟨rfl, rfl, rfl, by decide +kernel, rfl, by decide +kernel, by decide +kernel⟩
theorem b_lnbreak {f : Addr} {fd : FuncData} (F : Fun K "_law_nbreak" "_law_nbreak" s_lnbreak f fd) (T : Txt mg) (c_lplaces : CalG P w K mg base CX0 1 "_law_places" (spPlaces K)) : FnG P w K mg base CX0 2 f fd ["_law_text_here", "_law_a", "_law_b", "_law_behind"] spNbreak := by
  refine okG0 F sc_lnbreak (fun vs H Q E h => ?_) (fun cdv A outer s H vs Q E hg hr h => ?_)
  · obtain ⟨x, a, b, bh, zs, AL, rfl, _⟩ := h
    rfl
  · have hu := hu_of hr
    have hu64 := hr.units
    obtain ⟨x, a, b, bh, zs, AL, rfl, hx, hab, hb, hbh, lay, hsm, k1, k2⟩ := h
    have gzs := paired_len lay
    have xl : x.length ≤ sizeLine := few_len (by omega)
    refine ⟨_, (pss_cons (ps_for PassesOwn.never rfl (pi_list (pv 3)) (pg_tup rfl (pgs_cons (pg_name (i := 4) sc_lnbreak.nd rfl (Or.inl rfl)) (pgs_cons (pg_name (i := 5) sc_lnbreak.nd rfl (Or.inl rfl)) (pgs_cons (pg_name (i := 6) sc_lnbreak.nd rfl (Or.inl rfl)) pgs_nil)))) (pss_cons (ps_set (i := 7) sc_lnbreak.nd rfl (Or.inl rfl) (pe_cG c_lplaces hg hr (by decide) pass0 (pa_cons (pv 5) (pa_cons (pe_slice sl_str (pv 0) (po_some (pv 1)) (po_some (pv 2))) pa_nil))))
      (pss_one (ps_if (PW.pt (pw_or (pt_cmpR op_ne (pe_callB call_len (by rfl) T.len (by decide +kernel) (pa_cons (pv 7) pa_nil)) pe_int (nomark _)) (pw_or1 (pt_cmpR (op_neD hu64) (pe_slice sl_list (pv 6) (po_some (pe_ix ix_seq (pv 7) pe_int (fun _ _ => rfl))) (po_some (pe_op op_sub (pe_op op_add (pe_ix ix_seq (pv 7) pe_int (fun _ _ => rfl)) (pv 2)) (pv 1)))) (pe_listRg rfl (by rfl) T.list (prg_2 (by rfl) T.range (pv 1) (pv 2))) (nomark _))))) (pss_one (ps_ret (pv 4))) pss_nil))))
      (pss_one (ps_ret pe_non))), ?_⟩
    refine ⟨_, rfl, bh, rfl, ⟨_, SqL.of hbh⟩, ?_⟩
    refine for_list (K := K) (a := bh) (xs := zs) (fun i σ H' => ∃ (o4 o5 o6 o7 : Option V), σ = [some (.str x), some (.int (a : Nat)), some (.int (b : Nat)), some (.ref bh), o4, o5, o6, o7] ∧ (AL.take i).find? (brkW x a b) = none ∧ Same H H') ⟨_, _, _, _, rfl, rfl, fun _ _ h => h⟩ (fun i σ H' _ q => let ⟨_, _, _, _, _, _, s⟩ := q; SqL.of (s _ _ hbh)) (fun i v σ H2 hv q => ?_) (fun σ H2 q => ?_)
    · obtain ⟨o4, o5, o6, o7, rfl, nn, s2⟩ := q
      obtain ⟨s, hs, t, wt, e, rfl, _, ht, hwt, he⟩ := paired_at lay hv
      obtain ⟨m1, m2⟩ := hsm s (List.mem_of_getElem? hs)
      have found : brkW x a b s = true → AL.find? (brkW x a b) = some s := fun hb' => by
        have il := (List.getElem?_eq_some_iff.mp hs).1
        have e1 : AL = AL.take i ++ s :: AL.drop (i + 1) := by
          have := List.take_append_drop i AL
          rw [List.drop_eq_getElem_cons il, (List.getElem?_eq_some_iff.mp hs).2] at this
          exact this.symm
        rw [e1, List.find?_append, nn, List.find?_cons_of_pos hb']
        rfl
      have more : brkW x a b s = false → (AL.take (i + 1)).find? (brkW x a b) = none := fun hb' => by
        rw [List.take_add_one, hs, Option.toList_some, List.find?_append, nn, List.find?_cons_of_neg (by rw [hb']; decide)]
        rfl
      refine ⟨t, _, rfl, SqT.of (s2 _ _ ht), rfl, _, _, rfl, _, _, rfl, _, _, rfl, rfl, ?_⟩
      have wl : (cutS x (some ((a : Nat) : Int)) (some ((b : Nat) : Int))).length = b - a := cut_len hab hb
      refine ⟨_, rfl, _, rfl, _, rfl, _, rfl, _, rfl, _, rfl, x, rfl, xl, s.2.1, _, rfl, by omega, by omega, fun sp H8 hsp0 hsp s8 => ?_⟩
      have s28 := s2.trans s8
      have lpl : ((plcI s.2.1 (cutS x (some ((a : Nat) : Int)) (some ((b : Nat) : Int)))).map V.int).length = (plc s.2.1 (cutS x (some ((a : Nat) : Int)) (some ((b : Nat) : Int)))).length := by unfold plcI; rw [List.length_map, List.length_map]
      refine ⟨_, rfl, _, _, rfl, .inl ⟨_, SqL.of hsp, rfl⟩, rfl, _, rfl, ?_⟩
      have dc : (!decide (V.int (((plcI s.2.1 (cutS x (some ((a : Nat) : Int)) (some ((b : Nat) : Int)))).map V.int).length : Nat) = V.int 1)) = !decide ((plc s.2.1 (cutS x (some ((a : Nat) : Int)) (some ((b : Nat) : Int)))).length = 1) := by
        refine congrArg (fun z => !z) ?_
        rw [lpl, Bool.eq_iff_iff, decide_eq_true_eq, decide_eq_true_eq]
        exact ⟨fun z => by have := V.int.inj z; omega, fun z => by rw [z]; rfl⟩
      rw [dc]
      by_cases h1c : (plc s.2.1 (cutS x (some ((a : Nat) : Int)) (some ((b : Nat) : Int)))).length = 1
      · rw [decide_eq_true h1c]
        obtain ⟨p, hp⟩ := one_of h1c
        have pm : p ∈ plc s.2.1 (cutS x (some ((a : Nat) : Int)) (some ((b : Nat) : Int))) := by rw [hp]; exact List.mem_cons_self
        have hpl2 := (at_lists.mp (plc_mem.mp pm)).1
        rw [wl] at hpl2
        have epI : (plcI s.2.1 (cutS x (some ((a : Nat) : Int)) (some ((b : Nat) : Int)))).map V.int = [V.int (p : Nat)] := by unfold plcI; rw [hp]; rfl
        rw [epI] at hsp
        rw [brk_one hp] at found more
        refine iteF ?_
        have mlen : (s.2.2.map mV).length = s.2.1.length := by rw [List.length_map, m2]
        refine ⟨_, rfl, _, rfl, .inl ⟨sp, _, _, _, rfl, rfl, SqL.of hsp, atI_nat (j := 0) rfl, _, rfl, _, rfl, .inl ⟨sp, _, _, _, rfl, rfl, SqL.of hsp, atI_nat (j := 0) rfl, _, rfl, _, _, rfl, rfl, _, rfl, _, _, rfl, rfl, _, rfl, e, _, rfl, SqL.of (s28 _ _ he), fun D1 hD1 => ?_⟩⟩⟩
        have ec : ((p : Nat) : Int) + ((b : Nat) : Int) - ((a : Nat) : Int) = ((p + (b - a) : Nat) : Int) := by omega
        rw [ec, cutV_nat (by omega) (by omega), show p + (b - a) - p = b - a by omega, ← List.map_drop, ← List.map_take]
        have g1 := same_new (o := .lst (((s.2.2.drop p).take (b - a)).map mV)) hD1
        have v1 : (upd H8 D1 (.lst (((s.2.2.drop p).take (b - a)).map mV))) D1 = some (.lst (((s.2.2.drop p).take (b - a)).map mV)) := upd_same
        generalize upd H8 D1 (.lst (((s.2.2.drop p).take (b - a)).map mV)) = G1 at g1 v1 ⊢
        refine ⟨_, rfl, _, rfl, _, _, rfl, rfl, .of_le (by omega) (by omega) (by omega) (by omega), fun D2 hD2 => ?_⟩
        rw [rg_from hab]
        have g2 := same_new (o := .lst (((List.range' a (b - a)).map some).map mV)) hD2
        refine ⟨.list (((s.2.2.drop p).take (b - a)).map mD), .list (((List.range' a (b - a)).map some).map mD), .lst (SqL.of (g2 _ _ v1)) (mds_dp _), .lst (SqL.of upd_same) (mds_dp _), mds_shaped _, mds_shaped _, _, rfl, ?_⟩
        rw [mds_eq]
        have sG := s28.trans (g1.trans g2)
        cases c : (!decide ((s.2.2.drop p).take (b - a) = (List.range' a (b - a)).map some)) with
        | false => exact iteF ⟨_, _, _, _, rfl, more c, sG⟩
        | true => exact iteT ⟨_, rfl, k2 s (found c) wt _ sG (sG _ _ hwt)⟩
      · rw [decide_eq_false h1c]
        refine iteT (iteT ⟨_, rfl, k2 s (found (brk_not h1c)) wt _ s28 (s28 _ _ hwt)⟩)
    · obtain ⟨o4, o5, o6, o7, rfl, nn, s2⟩ := q
      rw [List.take_of_length_le (by omega)] at nn
      exact k1 nn H2 s2
end
end Vk
set_option Elab.async false
set_option maxRecDepth 100000
set_option linter.all false
set_option maxHeartbeats 4000000
namespace Vk
open PySem PySem.Spec PyProof.Rows L2
/-! ## what is kept of a text stands as it stood -/
structure MarksOk (x : Str) (s : WS) : Prop where
  ch : ∀ q i : Nat, s.2.2[q]? = some (some i) → i < x.length ∧ s.2.1.cps.toList[q]? = x.cps.toList[i]?
  lt : ∀ q r i j : Nat, q < r → s.2.2[q]? = some (some i) → s.2.2[r]? = some (some j) → i < j
  ad : ∀ q r i : Nat, s.2.2[q]? = some (some i) → s.2.2[r]? = some (some (i + 1)) → r = q + 1
theorem marks_start {x : Str} : MarksOk x (startW x) := by
  have at_ : ∀ q i : Nat, ((List.range x.length).map some)[q]? = some (some i) → q = i ∧ q < x.length := fun q i h => by
    rw [List.getElem?_map] at h
    obtain ⟨k, hk, e⟩ := Option.map_eq_some_iff.mp h
    have kl := (List.getElem?_eq_some_iff.mp hk).1
    rw [List.length_range] at kl
    rw [List.getElem?_range kl] at hk
    have e1 := Option.some.inj hk
    have e2 := Option.some.inj e
    omega
  refine ⟨fun q i h => ?_, fun q r i j hqr h1 h2 => ?_, fun q r i h1 h2 => ?_⟩
  · obtain ⟨rfl, h2⟩ := at_ q i h
    exact ⟨h2, rfl⟩
  · have a1 := at_ q i h1
    have a2 := at_ r j h2
    omega
  · have a1 := at_ q i h1
    have a2 := at_ r (i + 1) h2
    omega
theorem MarksOk.step {ps : List (Str × Str)} {x : Str} {s s' : WS} {k B m : Nat} (ok : PsOk ps) (g : GoodW ps B m s) (h : MarksOk x s) (hs : stepW ps s k = some s') : MarksOk x s' := by
  obtain ⟨q0, p, hq, hk, hp, hl, rfl⟩ := step_some hs
  obtain ⟨o1, o2, o3⟩ := ok q0 (List.mem_of_getElem? hq)
  have ml := g.ml
  have old : ∀ q' i : Nat, (s.2.2.take p ++ List.replicate q0.2.length none ++ s.2.2.drop (p + q0.1.length))[q']? = some (some i) → ∃ q, s.2.2[q]? = some (some i) ∧ (putS s.2.1 p q0.1.length q0.2).cps.toList[q']? = s.2.1.cps.toList[q]? ∧ ((q' < p ∧ q = q') ∨ (p + q0.2.length ≤ q' ∧ q + q0.2.length = q' + q0.1.length ∧ p + q0.1.length ≤ q)) := fun q' i h => by
    rw [putS_list hl]
    have lt1 : (s.2.2.take p).length = p := by rw [List.length_take]; omega
    have lt2 : (s.2.1.cps.toList.take p).length = p := by rw [List.length_take, str_len]; omega
    by_cases c1 : q' < p
    · rw [List.append_assoc, List.getElem?_append_left (by omega), List.getElem?_take, if_pos c1] at h
      refine ⟨q', h, ?_, .inl ⟨c1, rfl⟩⟩
      rw [List.append_assoc, List.getElem?_append_left (by omega), List.getElem?_take, if_pos c1]
    · by_cases c2 : q' < p + q0.2.length
      · rw [List.append_assoc, List.getElem?_append_right (by omega), List.getElem?_append_left (by rw [List.length_replicate]; omega), List.getElem?_replicate] at h
        split at h
        · cases h
        · cases h
      · rw [List.append_assoc, List.getElem?_append_right (by omega), List.getElem?_append_right (by rw [List.length_replicate]; omega), List.length_replicate, lt1, List.getElem?_drop] at h
        refine ⟨p + q0.1.length + (q' - p - q0.2.length), h, ?_, .inr ⟨by omega, by omega, by omega⟩⟩
        have e0 : q0.2.cps.toList.length = q0.2.length := str_len
        rw [List.append_assoc, List.getElem?_append_right (by omega), List.getElem?_append_right (by omega), lt2, e0, List.getElem?_drop]
  refine ⟨fun q' i hi => ?_, fun q' r' i j hqr h1 h2 => ?_, fun q' r' i h1 h2 => ?_⟩
  · obtain ⟨q, a1, a2, _⟩ := old q' i hi
    obtain ⟨b1, b2⟩ := h.ch q i a1
    exact ⟨b1, a2.trans b2⟩
  · obtain ⟨q, a1, _, a3⟩ := old q' i h1
    obtain ⟨r, b1, _, b3⟩ := old r' j h2
    exact h.lt q r i j (by omega) a1 b1
  · obtain ⟨q, a1, _, a3⟩ := old q' i h1
    obtain ⟨r, b1, _, b3⟩ := old r' (i + 1) h2
    have := h.ad q r i a1 b1
    omega
theorem marks_all {ps : List (Str × Str)} {x : Str} {B : Nat} (ok : PsOk ps) : ∀ {f m : Nat} {L : List WS}, GoodL ps B m L → (∀ s ∈ L, MarksOk x s) → ∀ s ∈ allW ps f L, MarksOk x s
  | 0, _, _, _, _, s, hs => by cases hs
  | f + 1, m, L, g, h, s, hs => by
    rcases List.mem_append.mp hs with h1 | h1
    · exact h s h1
    · refine marks_all ok (g.next ok) (fun s' hs' => ?_) s h1
      obtain ⟨s0, hs0, h2⟩ := List.mem_flatMap.mp hs'
      obtain ⟨k, _, hk⟩ := List.mem_filterMap.mp h2
      exact (h s0 hs0).step ok (g s0 hs0) hk
theorem allR_marks {ps : List (Str × Str)} {x : Str} (ok : PsOk ps) : ∀ s ∈ allR ps x, MarksOk x s :=
  marks_all ok (good_start (Nat.le_refl _)) fun s hs => by
    rw [List.mem_singleton.mp hs]
    exact marks_start
theorem kEd_ge {L : List (Option Nat)} {n : Nat} : ∀ {d : Nat}, n - d ≤ kEd L n d
  | 0 => Nat.sub_le _ _
  | d + 1 => by
    rw [kEd]
    split
    · have := kEd_ge (L := L) (n := n) (d := d)
      omega
    · exact Nat.le_refl _
theorem kEd_iff {L : List (Option Nat)} {n : Nat} : ∀ {d b : Nat}, d ≤ n → n - d ≤ b → b ≤ n → (b ≤ kEd L n d ↔ ∀ i, n - d ≤ i → i < b → some i ∈ L)
  | 0, b, h1, h2, h3 => ⟨fun _ i h4 h5 => by omega, fun _ => h3⟩
  | d + 1, b, h1, h2, h3 => by
    rw [kEd]
    by_cases c : some (n - (d + 1)) ∈ L
    · rw [if_pos c]
      by_cases e : b = n - (d + 1)
      · subst e
        refine ⟨fun _ i h4 h5 => by omega, fun _ => ?_⟩
        have := kEd_ge (L := L) (n := n) (d := d)
        omega
      · rw [kEd_iff (by omega) (by omega) h3]
        refine ⟨fun h i h4 h5 => ?_, fun h i h4 h5 => h i (by omega) h5⟩
        by_cases ei : i = n - (d + 1)
        · rw [ei]; exact c
        · exact h i (by omega) h5
    · rw [if_neg c]
      refine ⟨fun h i h4 h5 => by omega, fun h => ?_⟩
      refine Nat.le_of_not_lt fun hlt => c (h _ (Nat.le_refl _) hlt)
theorem kEd_mono {L : List (Option Nat)} {n a c : Nat} (h : a ≤ c) : kEd L n (n - a) ≤ kEd L n (n - c) := by
  by_cases hc : n ≤ c
  · rw [show n - c = 0 by omega]
    exact kEd_le
  · by_cases hm : kEd L n (n - a) ≤ c
    · have := kEd_ge (L := L) (n := n) (d := n - c)
      omega
    · have up := kEd_le (L := L) (n := n) (d := n - a)
      refine (kEd_iff (by omega) (by omega) up).mpr fun i h4 h5 => ?_
      exact (kEd_iff (L := L) (n := n) (d := n - a) (b := kEd L n (n - a)) (by omega) (by omega) up).mp (Nat.le_refl _) i (by omega) h5
theorem mostG_mono {AL : List WS} {n a c : Nat} (h : a ≤ c) : mostG AL n a ≤ mostG AL n c := by
  induction AL with
  | nil => exact Nat.le_refl _
  | cons s AL ih =>
    have := kEd_mono (L := s.2.2) (n := n) h
    show min (kEd s.2.2 n (n - a)) (mostG AL n a) ≤ min (kEd s.2.2 n (n - c)) (mostG AL n c)
    omega
theorem mostG_top {n a : Nat} : ∀ {AL : List WS}, mostG AL n a ≤ n
  | [] => Nat.le_refl _
  | s :: AL => Nat.le_trans (Nat.min_le_right _ _) (mostG_top (AL := AL))
theorem plc_nodup {x w : Str} : (plc x w).Nodup := List.nodup_range.filter _
theorem two_iff {x w : Str} : 2 ≤ (plc x w).length ↔ ∃ i j, i ≠ j ∧ i ∈ plc x w ∧ j ∈ plc x w := by
  constructor
  · intro h
    match q : plc x w, h with
    | a :: b :: r, _ =>
      have nd := plc_nodup (x := x) (w := w)
      rw [q] at nd
      exact ⟨a, b, fun e => (List.nodup_cons.mp nd).1 (by rw [e]; exact List.mem_cons_self), List.mem_cons_self, List.mem_cons_of_mem _ List.mem_cons_self⟩
  · rintro ⟨i, j, ne, hi, hj⟩
    have := nodup_le (l := [i, j]) (m := plc x w) (List.nodup_cons.mpr ⟨fun z => ne (List.mem_singleton.mp z), List.pairwise_singleton _ _⟩) fun a ha => by
      rcases List.mem_cons.mp ha with e | ha
      · rw [e]; exact hi
      · rw [List.mem_singleton.mp ha]; exact hj
    exact this
theorem cut_list {x : Str} {a b : Nat} (h1 : a ≤ b) (h2 : b ≤ x.length) : (cutS x (some (a : Int)) (some (b : Int))).cps.toList = (x.cps.toList.drop a).take (b - a) := by
  rw [cut_ab h1 h2]
theorem at_cut {x z : Str} {a b i : Nat} (h1 : a ≤ b) (h2 : b ≤ x.length) : i ∈ plc z (cutS x (some (a : Int)) (some (b : Int))) ↔ i + (b - a) ≤ z.length ∧ (z.cps.toList.drop i).take (b - a) = (x.cps.toList.drop a).take (b - a) := by
  rw [plc_mem, at_lists, cut_len h1 h2, cut_list h1 h2]
theorem tw_less {AL : List WS} {x : Str} {a c e : Nat} (h : twG AL x a e = true) (h1 : a ≤ c) (h2 : c ≤ e) (h3 : e ≤ x.length) : twG AL x c e = true := by
  unfold twG at h ⊢
  rw [List.any_eq_true] at h ⊢
  obtain ⟨s, hs, h⟩ := h
  refine ⟨s, hs, decide_eq_true (two_iff.mpr ?_)⟩
  obtain ⟨i, j, ne, hi, hj⟩ := two_iff.mp (of_decide_eq_true h)
  have mv : ∀ i, i ∈ plc s.2.1 (cutS x (some (a : Int)) (some (e : Int))) → i + (c - a) ∈ plc s.2.1 (cutS x (some (c : Int)) (some (e : Int))) := fun i hi => by
    obtain ⟨p1, p2⟩ := (at_cut (by omega) h3).mp hi
    refine (at_cut h2 h3).mpr ⟨by omega, ?_⟩
    have := congrArg (List.drop (c - a)) p2
    rw [List.drop_take, List.drop_take, List.drop_drop, List.drop_drop, show e - a - (c - a) = e - c by omega, show a + (c - a) = c by omega] at this
    exact this
  exact ⟨_, _, fun z => ne (by omega), mv i hi, mv j hj⟩
theorem tw_more {AL : List WS} {x : Str} {a c e : Nat} (h : twG AL x a e = true) (h1 : a ≤ c) (h2 : c ≤ e) (h3 : e ≤ x.length) : twG AL x a c = true := by
  unfold twG at h ⊢
  rw [List.any_eq_true] at h ⊢
  obtain ⟨s, hs, h⟩ := h
  refine ⟨s, hs, decide_eq_true (two_iff.mpr ?_)⟩
  obtain ⟨i, j, ne, hi, hj⟩ := two_iff.mp (of_decide_eq_true h)
  have mv : ∀ i, i ∈ plc s.2.1 (cutS x (some (a : Int)) (some (e : Int))) → i ∈ plc s.2.1 (cutS x (some (a : Int)) (some (c : Int))) := fun i hi => by
    obtain ⟨p1, p2⟩ := (at_cut (by omega) h3).mp hi
    refine (at_cut h1 (by omega)).mpr ⟨by omega, ?_⟩
    have := congrArg (List.take (c - a)) p2
    rw [List.take_take, List.take_take, show min (c - a) (e - a) = c - a by omega] at this
    exact this
  exact ⟨_, _, ne, mv i hi, mv j hj⟩
/-! ### a span that a way breaks -/
theorem brk_iff {x : Str} {a b : Nat} {s : WS} (hm : MarksOk x s) (ml : s.2.2.length = s.2.1.length) (hab : a < b) (hb : b ≤ x.length) : brkW x a b s = false ↔ b ≤ kEd s.2.2 x.length (x.length - a) ∧ decide (2 ≤ (plc s.2.1 (cutS x (some (a : Int)) (some (b : Int)))).length) = false := by
  rw [kEd_iff (by omega) (by omega) hb, show x.length - (x.length - a) = a by omega]
  constructor
  · intro h
    by_cases h1 : (plc s.2.1 (cutS x (some (a : Int)) (some (b : Int)))).length = 1
    · obtain ⟨p, hp⟩ := one_of h1
      rw [brk_one hp] at h
      have e : (s.2.2.drop p).take (b - a) = (List.range' a (b - a)).map some := by simpa using h
      refine ⟨fun i h4 h5 => ?_, decide_eq_false (by omega)⟩
      have : some i ∈ (s.2.2.drop p).take (b - a) := by
        rw [e]
        exact List.mem_map.mpr ⟨i, List.mem_range'_1.mpr ⟨h4, by omega⟩, rfl⟩
      exact List.mem_of_mem_drop (List.mem_of_mem_take this)
    · rw [brk_not h1] at h
      cases h
  · rintro ⟨h1, h2⟩
    have h2 : ¬ 2 ≤ (plc s.2.1 (cutS x (some (a : Int)) (some (b : Int)))).length := of_decide_eq_false h2
    obtain ⟨q0, hq0⟩ := List.mem_iff_getElem?.mp (h1 a (Nat.le_refl _) hab)
    have run : ∀ t, t < b - a → s.2.2[q0 + t]? = some (some (a + t)) := fun t => by
      induction t with
      | zero => exact fun _ => hq0
      | succ t ih =>
        intro ht
        have i1 := ih (by omega)
        obtain ⟨r, hr⟩ := List.mem_iff_getElem?.mp (h1 (a + (t + 1)) (by omega) (by omega))
        have := hm.ad (q0 + t) r (a + t) i1 hr
        rw [show q0 + (t + 1) = r by omega]
        exact hr
    have lastl := (List.getElem?_eq_some_iff.mp (run (b - a - 1) (by omega))).1
    have mem : q0 ∈ plc s.2.1 (cutS x (some (a : Int)) (some (b : Int))) := by
      refine (at_cut (by omega) hb).mpr ⟨by omega, ?_⟩
      refine List.ext_getElem? fun t => ?_
      rw [List.getElem?_take, List.getElem?_take]
      by_cases ct : t < b - a
      · rw [if_pos ct, if_pos ct, List.getElem?_drop, List.getElem?_drop]
        exact (hm.ch _ _ (run t ct)).2
      · rw [if_neg ct, if_neg ct]
    have one : plc s.2.1 (cutS x (some (a : Int)) (some (b : Int))) = [q0] := by
      match q : plc s.2.1 (cutS x (some (a : Int)) (some (b : Int))), mem, h2 with
      | [k], mem, _ => rw [List.mem_singleton.mp mem]
      | _ :: _ :: _, _, h2 => exact absurd (by simp) h2
    rw [brk_one one]
    have e : (s.2.2.drop q0).take (b - a) = (List.range' a (b - a)).map some := by
      refine List.ext_getElem? fun t => ?_
      rw [List.getElem?_take, List.getElem?_map]
      by_cases ct : t < b - a
      · rw [if_pos ct, List.getElem?_drop, run t ct, List.getElem?_range' ct, Nat.one_mul]
        rfl
      · rw [if_neg ct, List.getElem?_eq_none (by rw [List.length_range']; omega)]
        rfl
    rw [decide_eq_true e]
    rfl
theorem brks_iff {ps : List (Str × Str)} {x : Str} {a b : Nat} (ok : PsOk ps) (hab : a < b) (hb : b ≤ x.length) : (allR ps x).find? (brkW x a b) = none ↔ (decide (b ≤ mostG (allR ps x) x.length a) && !twG (allR ps x) x a b) = true := by
  have mk := allR_marks (x := x) ok
  have gd := allR_good (x := x) ok
  rw [List.find?_eq_none, Bool.and_eq_true, decide_eq_true_eq, Bool.not_eq_true']
  have each : ∀ s ∈ allR ps x, (¬ brkW x a b s = true ↔ b ≤ kEd s.2.2 x.length (x.length - a) ∧ decide (2 ≤ (plc s.2.1 (cutS x (some (a : Int)) (some (b : Int)))).length) = false) := fun s hs => by
    obtain ⟨m, _, g⟩ := gd s hs
    rw [Bool.not_eq_true]
    exact brk_iff (mk s hs) g.ml hab hb
  constructor
  · intro h
    refine ⟨mostG_least hb fun s hs => ((each s hs).mp (h s hs)).1, ?_⟩
    unfold twG
    rw [List.any_eq_false]
    intro s hs z
    rw [((each s hs).mp (h s hs)).2] at z
    cases z
  · rintro ⟨h1, h2⟩ s hs
    refine (each s hs).mpr ⟨Nat.le_trans h1 (mostG_le hs), ?_⟩
    unfold twG at h2
    rw [List.any_eq_false] at h2
    simpa using h2 s hs
theorem due_is {ps : List (Str × Str)} {x : Str} {a b : Nat} (ok : PsOk ps) (hb : b ≤ x.length) : leastOf ((aroundW x.length b (a + 1)).filter fun p => ((allR ps x).find? (brkW x p.1 p.2)).isNone) = toldG x.length (mostG (allR ps x) x.length) (twG (allR ps x) x) b (min (a + 1) x.length) := by
  rw [told_least (n := x.length) (M := mostG (allR ps x) x.length) (tw := twG (allR ps x) x) (a := a) (fun a => mostG_top) (fun a c h => mostG_mono h) (fun a c e h h1 h2 h3 => tw_less h h1 h2 h3) (fun a c e h h1 h2 h3 => tw_more h h1 h2 h3) hb]
  refine congrArg leastOf (List.filter_congr fun p hp => ?_)
  obtain ⟨h1, h2, h3⟩ := mem_around.mp hp
  have := brks_iff (ps := ps) (x := x) (a := p.1) (b := p.2) ok (by omega) h3
  rw [Bool.eq_iff_iff, Option.isNone_iff_eq_none, this]
end Vk
set_option Elab.async false
set_option maxRecDepth 100000
set_option linter.all false
set_option maxHeartbeats 4000000
namespace Vk
open PySem PySem.Spec PyProof.Rows L2
section
variable {P : Program} {w : World} {K : PySem.W.Frag} {mg : Str → Option Value} {base : Heap}
variable {C_Once : Addr}
def spBreaker (C : Addr) : Sp := fun vs H Q _ => ∃ (x : Str) (a b : Nat) (ed : Addr) (es : List V) (ps : List (Str × Str)), vs = [.str x, .int (a : Nat), .int (b : Nat), .ref ed] ∧ x.length ≤ 20 ∧ a < b ∧ b ≤ x.length ∧ EdSq H ed es ∧ EdsO C H es ps ∧ PsOk ps ∧ ps.length ≤ 4 ∧
  ((allR ps x).find? (brkW x a b) = none → ∀ H', Same H H' → Q .non H') ∧ (∀ s, (allR ps x).find? (brkW x a b) = some s → ∀ wt H', Same H H' → H' wt = some (.tup (s.1.map natV)) → Q (.ref wt) H')
abbrev s_breaker : Stmt := top 49
theorem sc_breaker : FnScope ["text", "begin", "end", "edits", "way", "result", "entries"] ["text", "begin", "end", "edits"] (defScope s_breaker) := ⟨rfl, rfl, rfl, by decide +kernel, rfl, by decide +kernel, by decide +kernel⟩
theorem b_breaker {f : Addr} {fd : FuncData} (F : Fun K "breaker" "breaker" s_breaker f fd) (T : Txt mg) (c_all_results : CalG P w K mg base (L2.CX P w) 6 "all_results" (spAll C_Once)) (c_kept_ends : CalG P w K mg base CX0 1 "kept_ends" spKept) (c_stands_twice : CalG P w K mg base CX0 1 "stands_twice" spTwice) : FnG P w K mg base (L2.CX P w) 7 f fd ["text", "begin", "end", "edits"] (spBreaker C_Once) := by
  refine okG F sc_breaker (fun vs H Q E h => ?_) (fun cdv A outer s H vs Q E hg hr h => ?_)
  · obtain ⟨x, a, b, ed, es, ps, rfl, _⟩ := h
    rfl
  · have hu := hu_of hr
    have hu64 := hr.units
    obtain ⟨x, a, b, ed, es, ps, rfl, hx, hab, hb, hed, eds, ok, h4, k1, k2⟩ := h
    have xl : x.length ≤ sizeLine := few_len (by omega)
    refine ⟨_, (pss_cons (ps_for (passes_of rfl) rfl (pi_list (pe_cG c_all_results hg hr (by decide) (passes_call (takes_of rfl rfl rfl rfl) (fun _ _ _ _ h => h)) (pa_cons (pv 0) (pa_cons (pv 3) pa_nil)))) (pg_tup rfl (pgs_cons (pg_name (i := 4) sc_breaker.nd rfl (Or.inl rfl)) (pgs_cons (pg_name (i := 5) sc_breaker.nd rfl (Or.inl rfl)) (pgs_cons (pg_name (i := 6) sc_breaker.nd rfl (Or.inl rfl)) pgs_nil)))) (pss_one (ps_if (PW.pt (pw_or (pt_cmpR op_lt (pe_ix ix_seq (pe_cG c_kept_ends hg hr (by decide) pass0 (pa_cons (pv 6) (pa_cons (pe_callB call_len (by rfl) T.len (by decide +kernel) (pa_cons (pv 0) pa_nil)) pa_nil))) (pv 1) (fun _ _ => rfl)) (pv 2) (nomark _)) (pw_or1 (pt_val (pe_cG c_stands_twice hg hr (by decide) pass0 (pa_cons (pv 5) (pa_cons (pe_slice sl_str (pv 0) (po_some (pv 1)) (po_some (pv 2))) pa_nil))))))) (pss_one (ps_ret (pv 4))) pss_nil)))
      (pss_one (ps_ret pe_non))), ?_⟩
    refine ⟨_, rfl, _, rfl, x, ed, es, ps, rfl, hed, eds, ok, by omega, h4, fun bh zs H1 hbh0 hbh lay s1 => ?_⟩
    have gzs := paired_len lay
    refine ⟨bh, rfl, ⟨_, SqL.of hbh⟩, ?_⟩
    refine for_list (K := K) (a := bh) (xs := zs) (fun i σ H' => ∃ (o4 o5 o6 : Option V), σ = [some (.str x), some (.int (a : Nat)), some (.int (b : Nat)), some (.ref ed), o4, o5, o6] ∧ ((allR ps x).take i).find? (brkW x a b) = none ∧ Same H1 H') ⟨_, _, _, rfl, rfl, fun _ _ h => h⟩ (fun i σ H' _ q => let ⟨_, _, _, _, _, s⟩ := q; SqL.of (s _ _ hbh)) (fun i v σ H2 hv q => ?_) (fun σ H2 q => ?_)
    · obtain ⟨o4, o5, o6, rfl, nn, s2⟩ := q
      obtain ⟨s, hs, t, wt, e, en, rfl, _, ht, hwt, he, hen⟩ := paired_at lay hv
      obtain ⟨m, hm, g⟩ := allR_good ok s (List.mem_of_getElem? hs)
      have m1 := g.tl
      have m2 := g.ml
      have found : brkW x a b s = true → (allR ps x).find? (brkW x a b) = some s := fun hb' => by
        have il := (List.getElem?_eq_some_iff.mp hs).1
        have e1 : allR ps x = (allR ps x).take i ++ s :: (allR ps x).drop (i + 1) := by
          have := List.take_append_drop i (allR ps x)
          rw [List.drop_eq_getElem_cons il, (List.getElem?_eq_some_iff.mp hs).2] at this
          exact this.symm
        rw [e1, List.find?_append, nn, List.find?_cons_of_pos hb']
        rfl
      have more : brkW x a b s = false → ((allR ps x).take (i + 1)).find? (brkW x a b) = none := fun hb' => by
        rw [List.take_add_one, hs, Option.toList_some, List.find?_append, nn, List.find?_cons_of_neg (by rw [hb']; decide)]
        rfl
      have bi := brk_iff (a := a) (b := b) (allR_marks ok s (List.mem_of_getElem? hs)) g.ml hab hb
      refine ⟨t, _, rfl, SqT.of (s2 _ _ ht), rfl, _, _, rfl, _, _, rfl, _, _, rfl, rfl, ?_⟩
      refine ⟨_, rfl, _, rfl, _, _, rfl, ⟨xl, rfl⟩, e, x.length, en, s.2.2, rfl, by omega, by omega, s2 _ _ he, hen.keep (fun u ws h => s2 _ _ h), fun l H3 hl0 hl s3 => ?_⟩
      have s13 := s2.trans s3
      have ix : atI (endsG s.2.2 x.length 0) ((a : Nat) : Int) = some (V.int (kEd s.2.2 x.length (x.length - a) : Nat)) := atI_nat (endsG_at (by omega) (Nat.zero_le _))
      refine ⟨_, rfl, .inl ⟨l, _, _, _, rfl, rfl, SqL.of hl, ix, _, rfl, _, _, rfl, rfl, _, rfl, ?_⟩⟩
      have s03 := s1.trans s13
      by_cases c1 : b ≤ kEd s.2.2 x.length (x.length - a)
      · rw [decide_eq_false (show ¬ ((kEd s.2.2 x.length (x.length - a) : Nat) : Int) < ((b : Nat) : Int) by omega)]
        refine iteF ⟨_, rfl, _, rfl, _, rfl, _, rfl, _, rfl, _, rfl, x, rfl, xl, s.2.1, _, rfl, _, rfl, ?_⟩
        cases q : decide (2 ≤ (plc s.2.1 (cutS x (some ((a : Nat) : Int)) (some ((b : Nat) : Int)))).length) with
        | false => exact iteF ⟨_, _, _, rfl, more (bi.mpr ⟨c1, q⟩), s13⟩
        | true =>
          have bt : brkW x a b s = true := by
            cases z : brkW x a b s with
            | true => rfl
            | false =>
              have := (bi.mp z).2
              rw [q] at this
              cases this
          exact iteT ⟨_, rfl, k2 s (found bt) wt _ s03 (s13 _ _ hwt)⟩
      · rw [decide_eq_true (show ((kEd s.2.2 x.length (x.length - a) : Nat) : Int) < ((b : Nat) : Int) by omega)]
        have bt : brkW x a b s = true := by
          cases z : brkW x a b s with
          | true => rfl
          | false => exact absurd (bi.mp z).1 c1
        exact iteT (iteT ⟨_, rfl, k2 s (found bt) wt _ s03 (s13 _ _ hwt)⟩)
    · obtain ⟨o4, o5, o6, rfl, nn, s2⟩ := q
      rw [List.take_of_length_le (by omega)] at nn
      exact k1 nn H2 (s1.trans s2)
end
end Vk
set_option Elab.async false
set_option maxRecDepth 100000
set_option linter.all false
namespace Vk
open PySem PySem.Spec PyProof.Rows L2
/-- the letters of a text, one by one -/
def onesL (x : Str) : List Str := x.cps.toList.map fun c => (⟨#[c]⟩ : Str)
theorem onesL_len (x : Str) : (onesL x).length = x.length := by
  unfold onesL
  rw [List.length_map]
  exact Array.length_toList
theorem signs_are : ∀ (cs : List Nat) (vs : List Value), vs.length = cs.length → (∀ (i : Nat) (v : Value), vs[i]? = some v → ∃ c u, cs[i]? = some c ∧ v = Value.str ⟨#[c]⟩ u) → StrsAre vs (cs.map fun c => (⟨#[c]⟩ : Str))
  | [], [], _, _ => .nil
  | c :: cs, v :: vs, hl, h => by
    obtain ⟨c', u, e, ev⟩ := h 0 v rfl
    cases e
    subst ev
    exact .cons _ u (signs_are cs vs (Nat.succ.inj hl) fun i v' e => h (i + 1) v' e)
theorem signs_str {x : Str} {acc : Array Value} (h : ItemsOf (SignAt x) acc x.cps.size) : StrsAre acc.toList (onesL x) := by
  refine signs_are _ _ ?_ fun i v e => ?_
  · rw [Array.length_toList, Array.length_toList]
    exact h.1
  · obtain ⟨c, u, ec, ev⟩ := h.2 i v (by rw [← Array.getElem?_toList]; exact e)
    exact ⟨c, u, by rw [Array.getElem?_toList]; exact ec, ev⟩
section
variable {X : Cx}
/-- list(x), x a text -/
def rListStr : List V → Hp → VK → Prop := fun vs H Q => ∃ x : Str, vs = [V.str x] ∧ x.length ≤ sizeLine ∧ ∀ l, H l = none → Q (.ref l) (upd H l (.lst ((onesL x).map V.str)))
theorem call_list_ofStr (hc : X.calm = true) : CallR X (.type "list") rListStr := by
  intro pins s σ H vs us Q I r h
  obtain ⟨x, rfl, hx, q⟩ := h
  obtain ⟨u, rfl, rx⟩ := vals1 r
  obtain ⟨t, rfl⟩ := rx
  refine call_list_str (I.ok.hd hc) x t (fun h' tk acc c hk e hi => ?_) (hn := hx)
  have hz : ((onesL x).map V.str).length ≤ sizeLine := by rw [List.length_map, onesL_len]; exact hx
  exact ⟨.ref s.heap.objs.size, _, I.laid (t' := tk) hk (Nat.le_refl _) (show ObjOk X.prog X.w _ h' _ (.lst ((onesL x).map V.str)) from ⟨hz, acc.toList, c, vals_of_strs (signs_str hi), e⟩), rfl, q _ (I.hok.fresh (Nat.le_refl _))⟩
end
end Vk
set_option Elab.async false
set_option maxRecDepth 100000
set_option linter.all false
set_option maxHeartbeats 4000000
namespace Vk
open PySem PySem.Spec PyProof.Rows L2
theorem seq_at {m : Int} {n : Nat} (h0 : 0 ≤ m) (h1 : m < n) : seqIndex? m n = some m.toNat := by
  unfold seqIndex?
  simp only [ge_iff_le]
  split <;> first | rfl | omega | (split <;> first | rfl | omega) | (simp; omega)
theorem perm_erase : ∀ {xs : List V} {k : Nat} (h : k < xs.length), List.Perm (xs[k] :: xs.eraseIdx k) xs
  | _ :: _, 0, _ => List.Perm.refl _
  | y :: ys, k + 1, h => (List.Perm.swap y _ _).trans (List.Perm.cons y (perm_erase (xs := ys) (k := k) (Nat.lt_of_succ_lt_succ h)))
abbrev s_lshuffled : Stmt := top 54
theorem sc_lshuffled : FnScope ["_law_pen_here", "_law_items", "_law_left", "_law_found"] ["_law_pen_here", "_law_items"] (defScope s_lshuffled) := ⟨rfl, rfl, rfl, by decide +kernel, rfl, by decide +kernel, by decide +kernel⟩
theorem perm_strs' {ys xs : List V} (pm : List.Perm ys xs) : ∀ {l : List Str}, xs = l.map V.str → ∃ l', List.Perm l' l ∧ ys = l'.map V.str := by
  induction pm with
  | nil => intro l e; exact ⟨l, List.Perm.refl _, e⟩
  | cons x _ ih =>
    intro l e
    match l, e with
    | a :: r, e =>
      rw [List.map_cons] at e
      obtain ⟨l', q, e2⟩ := ih (List.cons.inj e).2
      exact ⟨a :: l', q.cons a, by rw [List.map_cons, ← e2, (List.cons.inj e).1]⟩
  | swap x y r =>
    intro l e
    match l, e with
    | a :: b :: r', e =>
      rw [List.map_cons, List.map_cons] at e
      obtain ⟨e1, e2⟩ := List.cons.inj e
      obtain ⟨e3, e4⟩ := List.cons.inj e2
      exact ⟨b :: a :: r', List.Perm.swap _ _ _, by rw [List.map_cons, List.map_cons, ← e1, ← e3, ← e4]⟩
  | trans _ _ ih1 ih2 =>
    intro l e
    obtain ⟨l1, q1, e1⟩ := ih2 e
    obtain ⟨l2, q2, e2⟩ := ih1 e1
    exact ⟨l2, q2.trans q1, e2⟩
theorem perm_strs {ys : List V} {l : List Str} (pm : List.Perm ys (l.map V.str)) : ∃ l', List.Perm l' l ∧ ys = l'.map V.str := perm_strs' pm rfl
section
variable {P : Program} {w : World} {K : PySem.W.Frag} {mg : Str → Option Value} {base : Heap}
/-- shuffled: the letters of a text in some order, in a new list -/
def spShufS : Sp := fun vs H Q _ => ∃ (p c : Addr) (z : Str) (T : Nat), vs = [.ref p, .str z] ∧ z.length ≤ 1000 ∧ Pen H p c T ∧ T + z.length < 1000000000 ∧
  ∀ n (ys : List Str) H', List.Perm ys (onesL z) → H n = none → H' n = some (.lst (ys.map V.str)) → Pen H' p c (T + z.length) → Ext p H H' → Q (.ref n) H'
theorem b_lshuffledS {f : Addr} {fd : FuncData} (F : Fun K "_law_shuffled" "_law_shuffled" s_lshuffled f fd) (T : Txt mg) (c_ldraw : CalG P w K mg base CX0 1 "_law_draw" spDraw) : FnG P w K mg base CX0 2 f fd ["_law_pen_here", "_law_items"] spShufS := by
  refine okG0 F sc_lshuffled (fun vs H Q E h => ?_) (fun cdv A outer s H vs Q E hg hr h => ?_)
  · obtain ⟨p, c, z, T, rfl, _⟩ := h
    rfl
  · have hu := hu_of hr
    have hu64 := hr.units
    obtain ⟨p, pc, z, T0, rfl, hz, hpen, hT, kz⟩ := h
    obtain ⟨xs, exs⟩ : ∃ xs : List V, xs = (onesL z).map V.str := ⟨_, rfl⟩
    have lx : xs.length = z.length := by rw [exs, List.length_map, onesL_len]
    have hx : xs.length ≤ 1000 := by rw [lx]; exact hz
    rw [← lx] at hT
    have k : ∀ n ys H', List.Perm ys xs → H n = none → H' n = some (.lst ys) → Pen H' p pc (T0 + xs.length) → Ext p H H' → Q (.ref n) H' := fun n ys H' pm h1 h2 h3 h4 => by
      rw [exs] at pm
      obtain ⟨zs, q1, rfl⟩ := perm_strs pm
      exact kz n zs H' q1 h1 h2 (lx ▸ h3) h4
    refine ⟨_, (pss_cons (ps_par (i := 2) (j := 3) (by rfl) sc_lshuffled.nd rfl rfl (by decide) rfl rfl (pa_cons (pe_callTy (call_list_ofStr rfl) (by rfl) T.list (by decide +kernel) (pa_cons (pv 1) pa_nil)) (pa_cons (pe_lst pa_nil) pa_nil)) (by rfl))
      (pss_cons (ps_while PassesOwn.never (pt_cmpR (op_neNil hu64) (pv 2) (pe_lst pa_nil) (nomark _)) (pss_one (ps_expr (pe_bm PySem.F.plainAttrs_list PySem.F.slot_list_append PySem.F.type_list_append mt_append (pv 3) (pa_cons (pe_bm PySem.F.plainAttrs_list PySem.F.slot_list_pop PySem.F.type_list_pop mt_popAt (pv 2) (pa_cons (pe_cG c_ldraw hg hr (by decide) pass0 (pa_cons (pv 0) (pa_cons (pe_callB call_len (by rfl) T.len (by decide +kernel) (pa_cons (pv 2) pa_nil)) pa_nil))) pa_nil)) pa_nil)))))
      (pss_one (ps_ret (pv 3))))), ?_⟩
    refine ⟨_, rfl, z, rfl, few_len hz, fun l1 hl1 => ?_⟩
    rw [← exs]
    refine ⟨few_len (Nat.zero_le _), fun l2 hl2 => ?_⟩
    have s1 := same_new (o := .lst xs) hl1
    have s2 := s1.trans (same_new (o := .lst []) hl2)
    have n12 : l1 ≠ l2 := ne_of_none upd_same hl2
    have hl2H := none_up s1 hl2
    have a1 := hpen.apart hl1
    have a2 := hpen.apart hl2H
    refine ⟨_, _, rfl, ?_⟩
    refine ⟨fun m σ H' => ∃ ls fs, σ = [some (.ref p), some (.str z), some (.ref l1), some (.ref l2)] ∧ H' l1 = some (.lst ls) ∧ H' l2 = some (.lst fs) ∧ List.Perm (fs ++ ls) xs ∧ Pen H' p pc (T0 + fs.length) ∧ Ext p H H' ∧ m = ls.length, ⟨_, xs, [], rfl, (upd_ne n12).trans upd_same, upd_same, List.Perm.refl _, hpen.stay s2, .same s2, rfl⟩, ?_⟩
    rintro m σ H1 ⟨ls, fs, rfl, h1, h2, pm, P1, x1, rfl⟩
    have len : fs.length + ls.length = xs.length := by rw [← List.length_append]; exact pm.length_eq
    refine ⟨_, rfl, few_len (Nat.zero_le _), fun q hq => ⟨l1, ls, q, rfl, rfl, SqL.of ((same_new hq) _ _ h1), SqL.of upd_same, _, rfl, ?_⟩⟩
    have sq := same_new (o := .lst []) hq
    have P2 := P1.stay sq
    have x2 := x1.trans (.same sq)
    have h1' := sq _ _ h1
    have h2' := sq _ _ h2
    generalize upd H1 q (.lst []) = H2 at P2 x2 h1' h2' ⊢
    match ls, h1', pm, len with
    | [], h1', pm, len =>
      refine iteF ⟨_, rfl, k l2 fs H2 (by rw [List.append_nil] at pm; exact pm) hl2H h2' ?_ x2⟩
      rw [List.length_nil] at len
      rw [← len]
      exact P2
    | y :: ys, h1', pm, len =>
      rw [List.length_cons] at len
      refine iteT ⟨fun σ' H' => ∃ ls fs, σ' = [some (.ref p), some (.str z), some (.ref l1), some (.ref l2)] ∧ H' l1 = some (.lst ls) ∧ H' l2 = some (.lst fs) ∧ List.Perm (fs ++ ls) xs ∧ Pen H' p pc (T0 + fs.length) ∧ Ext p H H' ∧ ls.length = ys.length, ?_, ?_⟩
      · rintro σ' H' ⟨ls, fs, e, q1, q2, q3, q4, q5, q6⟩
        exact ⟨_, by rw [List.length_cons, q6]; exact Nat.lt_succ_self _, ls, fs, e, q1, q2, q3, q4, q5, rfl⟩
      · refine ⟨_, rfl, .inl ⟨rfl, _, SqL.of h2'⟩, ?_⟩
        refine ⟨_, rfl, .inl ⟨rfl, _, SqL.of h1'⟩, ?_⟩
        refine ⟨_, rfl, _, rfl, .ref l1, _, rfl, .inl ⟨_, SqL.of h1', rfl⟩, p, pc, _, _, rfl, by rw [List.length_cons]; omega, by rw [List.length_cons]; omega, P2, by omega, fun d H3 d0 d1 P3 x3 => ?_⟩
        have g1 := P2.keepI x3 h1'
        have g2 := P2.keepI x3 h2'
        have dl : d.toNat < (y :: ys).length := by omega
        refine ⟨l1, _, d, d.toNat, (y :: ys)[d.toNat], rfl, rfl, g1, by omega, by rw [List.length_cons] at d1; omega, seq_at d0 d1, List.getElem?_eq_getElem dl, ?_⟩
        have g2' : (upd H3 l1 (.lst ((y :: ys).eraseIdx d.toNat))) l2 = some (.lst fs) := (upd_ne n12.symm).trans g2
        refine ⟨l2, fs, _, rfl, rfl, g2', fewL (by omega), ?_⟩
        refine ⟨_, _, rfl, (upd_ne n12).trans upd_same, upd_same, ?_, ?_, ?_, ?_⟩
        · refine List.Perm.trans ?_ pm
          rw [List.append_assoc]
          exact List.Perm.append_left _ (perm_erase dl)
        · rw [List.length_append, List.length_singleton, ← Nat.add_assoc]
          exact (P3.set a1.1 a1.2).set a2.1 a2.2
        · exact ((x2.trans x3).set hl1).set hl2H
        · rw [List.length_eraseIdx_of_lt dl, List.length_cons]
          rfl
end
end Vk
set_option Elab.async false
set_option maxRecDepth 100000
set_option linter.all false
set_option maxHeartbeats 4000000
namespace Vk
open PySem PySem.Spec PyProof.Rows L2
section
variable {P : Program} {w : World} {K : PySem.W.Frag} {mg : Str → Option Value} {base : Heap}
def chS (c : Nat) : Str := ⟨#[c]⟩
/-- a text of seven distinct letters, and three edits -/
def txt7 (cs : List Nat) : Str := ⟨(cs.take 3 ++ cs.drop 6 ++ (cs.drop 3).take 3).toArray⟩
def ps7 (cs : List Nat) : List (Str × Str) := (List.range 3).map fun k => (chS (cs.getD (3 + k) 0), chS (cs.getD k 0))
def spThree : Sp := fun vs H Q _ => ∃ (p c : Addr) (T : Nat), vs = [.ref p] ∧ Pen H p c T ∧ T + 100 < 1000000000 ∧
  ∀ (t l : Addr) ys (cs : List Nat) H', cs.length = 7 → cs.Nodup → (∀ c ∈ cs, c ∈ letS.cps.toList) → H' t = some (.tup [.str (txt7 cs), .ref l]) → H' l = some (.lst ys) → PlsO H' ys (ps7 cs) → Pen H' p c (T + 8) → Ext p H H' → Q (.ref t) H'
abbrev s_lnthree : Stmt := top 67
theorem sc_lnthree : FnScope ["_law_pen_here", "_law_some", "_law_text_here", "_law_k"] ["_law_pen_here"] (defScope s_lnthree) := ⟨rfl, rfl, rfl, by decide +kernel, rfl, by decide +kernel, by decide +kernel⟩
theorem b_lnthree {f : Addr} {fd : FuncData} (F : Fun K "_law_nthree" "_law_nthree" s_lnthree f fd) (T : Txt mg) (c_lshuffled : CalG P w K mg base CX0 2 "_law_shuffled" spShufS) : FnG P w K mg base CX0 3 f fd ["_law_pen_here"] spThree := by
  refine okG0 F sc_lnthree (fun vs H Q E h => ?_) (fun cdv A outer s H vs Q E hg hr h => ?_)
  · obtain ⟨p, c, T, rfl, _⟩ := h
    rfl
  · have hu := hu_of hr
    have hu64 := hr.units
    obtain ⟨p, pc, T0, rfl, hpen, hT, k⟩ := h
    refine ⟨_, (pss_cons (ps_set (i := 1) sc_lnthree.nd rfl (Or.inr rfl) (pe_slice sl_list (pe_cG c_lshuffled hg hr (by decide) pass0 (pa_cons (pv 0) (pa_cons pe_str pa_nil))) po_none (po_some pe_int)))
      (pss_cons (ps_set (i := 2) sc_lnthree.nd rfl (Or.inl rfl) (pe_op op_add_str (pe_op op_add_str (pe_join pe_str (pe_slice sl_list (pv 1) po_none (po_some pe_int))) (pe_ix ix_seq (pv 1) pe_int (fun _ _ => rfl))) (pe_join pe_str (pe_slice sl_list (pv 1) (po_some pe_int) (po_some pe_int)))))
      (pss_one (ps_ret (pe_tup (pa_cons (pv 2) (pa_cons (pe_lc (own := [("_law_k", 3)]) (g := gName 3) (tt := tYes) rfl sc_lnthree.nd (pi_range1 rfl T.range (pa_cons pe_int pa_nil)) (blkOk_by (own := [("_law_k", 3)]) (N := ["_law_pen_here", "_law_some", "_law_text_here", "_law_k"]) (sc := defScope s_lnthree) (by decide +kernel)) (fun _ _ _ _ _ => (pg_name (i := 3) sc_lnthree.nd rfl (Or.inl rfl))) (fun _ _ _ _ _ => pts_nil) (fun _ _ _ _ _ => (pe_tup (pa_cons pe_str (pa_cons (pe_tup (pa_cons (pe_tup (pa_cons (pe_ix (ix_seqK (K := K) rfl) (pv 1) (pe_op op_add pe_int (pv 3)) (fun _ _ => rfl)) (pa_cons (pe_ix (ix_seqK (K := K) rfl) (pv 1) (pv 3) (fun _ _ => rfl)) pa_nil))) pa_nil)) pa_nil))))) pa_nil))))))), ?_⟩
    refine ⟨_, rfl, p, pc, "abcdefgh", T0, rfl, by decide, hpen, (show T0 + 8 < _ by omega), fun nz zs H1 pz hnz0 hnz P1 x1 => ?_⟩
    have p8 : T0 + (Str.ofString "abcdefgh").length = T0 + 8 := rfl
    obtain ⟨ds, pd, rfl⟩ : ∃ ds : List Nat, ds.Perm (Str.ofString "abcdefgh").cps.toList ∧ zs = ds.map fun c => (⟨#[c]⟩ : Str) := by
      refine ⟨zs.map fun z => z.cps.toList.headD 0, ?_, ?_⟩
      · have := pz.map fun z : Str => z.cps.toList.headD 0
        unfold onesL at this
        rw [List.map_map] at this
        exact (List.map_id (Str.ofString "abcdefgh").cps.toList) ▸ this
      · rw [List.map_map]
        refine (List.map_id zs).symm.trans (List.map_congr_left fun z hz => ?_)
        obtain ⟨c, _, rfl⟩ := List.mem_map.mp (pz.mem_iff.mp hz)
        rfl
    have dl : ds.length = 8 := by rw [pd.length_eq]; rfl
    have dn : ds.Nodup := pd.nodup_iff.mpr (by decide +kernel)
    have dm : ∀ c ∈ ds, c ∈ letS.cps.toList := fun c hc => by
      have h : ∀ c ∈ (Str.ofString "abcdefgh").cps.toList, c ∈ letS.cps.toList := by decide +kernel
      exact h c (pd.mem_iff.mp hc)
    match ds, dl with
    | [c0, c1, c2, c3, c4, c5, c6, c7], _ =>
      refine ⟨_, rfl, nz, _, rfl, SqL.of hnz, fun D hD => ?_⟩
      have e7 : cutV (List.map V.str (List.map (fun c => (⟨#[c]⟩ : Str)) [c0, c1, c2, c3, c4, c5, c6, c7])) none (some 7) = [c0, c1, c2, c3, c4, c5, c6].map fun c => V.str (chS c) := cutV_to (p := 7) (by show 7 ≤ 8; decide)
      rw [e7]
      have sD := same_new (o := .lst ([c0, c1, c2, c3, c4, c5, c6].map fun c => V.str (chS c))) hD
      have v1 : (upd H1 D (.lst ([c0, c1, c2, c3, c4, c5, c6].map fun c => V.str (chS c)))) D = some (.lst ([c0, c1, c2, c3, c4, c5, c6].map fun c => V.str (chS c))) := upd_same
      have P2 := P1.stay sD
      have x2 := x1.trans (Ext.same sD)
      generalize upd H1 D (.lst ([c0, c1, c2, c3, c4, c5, c6].map fun c => V.str (chS c))) = H2 at v1 P2 x2 ⊢
      -- the text
      refine ⟨⟨_, rfl⟩, _, rfl, _, rfl, D, _, rfl, SqL.of v1, fun D1 hD1 => ?_⟩
      have e3 : cutV ([c0, c1, c2, c3, c4, c5, c6].map fun c => V.str (chS c)) none (some 3) = [chS c0, chS c1, chS c2].map V.str := cutV_to (p := 3) (by show 3 ≤ 7; decide)
      rw [e3]
      have s3 := same_new (o := .lst ([chS c0, chS c1, chS c2].map V.str)) hD1
      refine ⟨_, D1, [chS c0, chS c1, chS c2], rfl, rfl, .inl (SqL.of upd_same), by show 3 + 3 * 0 ≤ 16777216; decide, ?_⟩
      rw [show Txt.join (Str.ofString "") [chS c0, chS c1, chS c2] = ⟨[c0, c1, c2].toArray⟩ from join_ones [c0, c1, c2]]
      refine ⟨_, rfl, .inl ⟨D, _, 6, _, rfl, rfl, SqL.of (s3 _ _ v1), atI_nat (j := 6) rfl, _, _, rfl, rfl, few_len (by show 3 + 1 ≤ 1000; decide), ⟨_, rfl⟩, _, rfl, _, rfl, _, rfl, D, _, rfl, SqL.of (s3 _ _ v1), fun D2 hD2 => ?_⟩⟩
      have e36 : cutV ([c0, c1, c2, c3, c4, c5, c6].map fun c => V.str (chS c)) (some 3) (some 6) = [chS c3, chS c4, chS c5].map V.str := cutV_nat (k := 3) (b := 6) (by decide) (by show 6 ≤ 7; decide)
      rw [e36]
      have s4 := same_new (o := .lst ([chS c3, chS c4, chS c5].map V.str)) hD2
      refine ⟨_, D2, [chS c3, chS c4, chS c5], rfl, rfl, .inl (SqL.of upd_same), by show 3 + 3 * 0 ≤ 16777216; decide, ?_⟩
      rw [show Txt.join (Str.ofString "") [chS c3, chS c4, chS c5] = ⟨[c3, c4, c5].toArray⟩ from join_ones [c3, c4, c5]]
      refine ⟨_, _, rfl, rfl, few_len (by show 4 + 3 ≤ 1000; decide), ?_⟩
      have et : (⟨[c0, c1, c2].toArray⟩ ++ chS c6 ++ ⟨[c3, c4, c5].toArray⟩ : Str) = txt7 [c0, c1, c2, c3, c4, c5, c6] := str_eq (by rw [app_list, app_list]; rfl)
      rw [et]
      have s24 := s3.trans s4
      have P4 := P2.stay s24
      have x4 := x2.trans (Ext.same s24)
      have v4 := s24 _ _ v1
      generalize upd (upd H2 D1 (.lst ([chS c0, chS c1, chS c2].map V.str))) D2 (.lst ([chS c3, chS c4, chS c5].map V.str)) = H4 at P4 x4 v4 ⊢
      refine ⟨_, rfl, 3, rfl, by decide, by decide, fun F hF => ?_⟩
      have ix : ∀ j : Nat, j < 7 → atI ([c0, c1, c2, c3, c4, c5, c6].map fun c => V.str (chS c)) ((j : Nat) : Int) = some (V.str (chS ([c0, c1, c2, c3, c4, c5, c6].getD j 0))) := fun j hj => atI_nat (match j, hj with
        | 0, _ => rfl | 1, _ => rfl | 2, _ => rfl | 3, _ => rfl | 4, _ => rfl | 5, _ => rfl | 6, _ => rfl
        | j + 7, hj => absurd hj (by omega))
      refine lc_range (lo := 0) (n := 3) (fun m H' => (∃ ys, H' F = some (.lst ys) ∧ PlsO H' ys ((ps7 [c0, c1, c2, c3, c4, c5, c6]).take m)) ∧ Same H4 H') ⟨⟨[], upd_same, .nil⟩, same_new hF⟩ (fun m H' hm q => ?_) (fun H' q => ?_)
      · obtain ⟨⟨ys, hys, py⟩, sm⟩ := q
        have gy := paired_len py
        have hm3 : m < 3 := hm
        have v5 := sm _ _ v4
        refine ⟨rfl, ?_⟩
        dsimp only [tYes]
        rw [if_pos rfl]
        have i1 := ix (3 + m) (by omega)
        have i2 := ix m (by omega)
        have e1 : (3 : Int) + (0 + (m : Int)) = ((3 + m : Nat) : Int) := by omega
        have e2 : (0 : Int) + (m : Int) = ((m : Nat) : Int) := by omega
        refine ⟨_, rfl, _, rfl, _, _, rfl, rfl, .inl ⟨D, _, _, _, rfl, rfl, SqL.of v5, e1 ▸ i1, _, rfl, _, rfl, .inl ⟨D, _, _, _, rfl, rfl, SqL.of v5, e2 ▸ i2, ?_⟩⟩⟩
        refine ⟨few_len (Nat.le_of_ble_eq_true rfl), fun t3 h3 => ⟨few_len (Nat.le_of_ble_eq_true rfl), fun t2 h2 => ⟨few_len (Nat.le_of_ble_eq_true rfl), fun t h1 => ?_⟩⟩⟩
        have g3 := same_new (o := .tup [.str (chS ([c0, c1, c2, c3, c4, c5, c6].getD (3 + m) 0)), .str (chS ([c0, c1, c2, c3, c4, c5, c6].getD m 0))]) h3
        have g2 := same_new (o := .tup [.ref t3]) h2
        have g1 := same_new (o := .tup [.str "once", .ref t2]) h1
        have g31 := (g3.trans g2).trans g1
        have hys8 := g31 _ _ hys
        have el : (ps7 [c0, c1, c2, c3, c4, c5, c6])[m]? = some (chS ([c0, c1, c2, c3, c4, c5, c6].getD (3 + m) 0), chS ([c0, c1, c2, c3, c4, c5, c6].getD m 0)) := by
          unfold ps7
          rw [List.getElem?_map, List.getElem?_range hm3]
          rfl
        rw [List.take_add_one, el, Option.toList_some]
        refine ⟨ys, hys8, fewL (by rw [gy, List.length_take]; omega), ⟨ys ++ [.ref t], upd_same, ?_⟩, upd_out hF (sm.trans g31)⟩
        have ut : ∀ {o : HO} u ws, (upd (upd (upd H' t3 (.tup [.str (chS ([c0, c1, c2, c3, c4, c5, c6].getD (3 + m) 0)), .str (chS ([c0, c1, c2, c3, c4, c5, c6].getD m 0))])) t2 (.tup [.ref t3])) t (.tup [.str "once", .ref t2])) u = some (.tup ws) → (upd (upd (upd (upd H' t3 (.tup [.str (chS ([c0, c1, c2, c3, c4, c5, c6].getD (3 + m) 0)), .str (chS ([c0, c1, c2, c3, c4, c5, c6].getD m 0))])) t2 (.tup [.ref t3])) t (.tup [.str "once", .ref t2])) F o) u = some (.tup ws) := fun u ws h => by
          rw [upd_ne (fun z => by rw [z, hys8] at h; cases h)]
          exact h
        exact Paired.snoc ((py.keepT fun u ws h => g31 _ _ h).keepT ut) ⟨t, t2, t3, rfl, ut _ _ upd_same, ut _ _ (g1 _ _ upd_same), ut _ _ (g1 _ _ (g2 _ _ upd_same))⟩
      · obtain ⟨⟨ys, hys, py⟩, sm⟩ := q
        refine ⟨few_len (Nat.le_of_ble_eq_true rfl), fun t ht => ?_⟩
        have st := same_new (o := .tup [.str (txt7 [c0, c1, c2, c3, c4, c5, c6]), .ref F]) ht
        have d7 : [c0, c1, c2, c3, c4, c5, c6].Nodup := by
          have h : ([c0, c1, c2, c3, c4, c5, c6] ++ [c7]).Nodup := dn
          exact (List.nodup_append.mp h).1
        exact k t F ys [c0, c1, c2, c3, c4, c5, c6] _ rfl d7 (fun c hc => dm c (List.mem_append_left [c7] hc)) upd_same (st _ _ hys) (py.keepT fun u ws h => st _ _ h) ((P4.stay sm).stay st) (x4.trans (Ext.same (sm.trans st)))
end
end Vk
set_option Elab.async false
set_option maxRecDepth 100000
set_option linter.all false
set_option maxHeartbeats 4000000
namespace Vk
open PySem PySem.Spec PyProof.Rows L2
/-! ## letters renamed one to one -/
def rnS (f : Nat → Nat) (x : Str) : Str := ⟨(x.cps.toList.map f).toArray⟩
theorem rnS_list {f : Nat → Nat} {x : Str} : (rnS f x).cps.toList = x.cps.toList.map f := List.toList_toArray
theorem rnS_len {f : Nat → Nat} {x : Str} : (rnS f x).length = x.length := by rw [← str_len, rnS_list, List.length_map, str_len]
def InL (n : Nat) (x : Str) : Prop := ∀ c ∈ x.cps.toList, c < n
def Inj (f : Nat → Nat) (n : Nat) : Prop := ∀ a b, a < n → b < n → f a = f b → a = b
theorem map_inj {f : Nat → Nat} {n : Nat} (hf : Inj f n) : ∀ {l m : List Nat}, (∀ c ∈ l, c < n) → (∀ c ∈ m, c < n) → (l.map f = m.map f ↔ l = m)
  | [], [], _, _ => ⟨fun _ => rfl, fun _ => rfl⟩
  | [], _ :: _, _, _ => ⟨(fun h => nomatch h), (fun h => nomatch h)⟩
  | _ :: _, [], _, _ => ⟨(fun h => nomatch h), (fun h => nomatch h)⟩
  | a :: l, b :: m, hl, hm => by
    rw [List.map_cons, List.map_cons, List.cons.injEq, List.cons.injEq, map_inj hf (fun c hc => hl c (List.mem_cons_of_mem _ hc)) (fun c hc => hm c (List.mem_cons_of_mem _ hc))]
    exact ⟨fun ⟨h1, h2⟩ => ⟨hf a b (hl a List.mem_cons_self) (hm b List.mem_cons_self) h1, h2⟩, fun ⟨h1, h2⟩ => ⟨by rw [h1], h2⟩⟩
theorem rn_plc {f : Nat → Nat} {n : Nat} {x w : Str} (hf : Inj f n) (hx : InL n x) (hw : InL n w) : plc (rnS f x) (rnS f w) = plc x w := by
  unfold plc
  rw [rnS_len]
  refine List.filter_congr fun i _ => ?_
  rw [Bool.eq_iff_iff, at_lists, at_lists, rnS_len, rnS_len, rnS_list, rnS_list, ← List.map_drop, ← List.map_take, map_inj hf (fun c hc => hx c (List.mem_of_mem_drop (List.mem_of_mem_take hc))) hw]
theorem rn_put {f : Nat → Nat} {x y : Str} {p len : Nat} (h : p + len ≤ x.length) : putS (rnS f x) p len (rnS f y) = rnS f (putS x p len y) := by
  refine str_eq ?_
  rw [putS_list (by rw [rnS_len]; exact h), rnS_list, rnS_list, rnS_list, putS_list h, List.map_append, List.map_append, List.map_take, List.map_drop]
theorem rn_cut {f : Nat → Nat} {x : Str} {a b : Nat} (h1 : a ≤ b) (h2 : b ≤ x.length) : cutS (rnS f x) (some (a : Int)) (some (b : Int)) = rnS f (cutS x (some (a : Int)) (some (b : Int))) := by
  refine str_eq ?_
  rw [cut_list h1 (by rw [rnS_len]; exact h2), rnS_list, rnS_list, cut_list h1 h2, List.map_take, List.map_drop]
def rnW (f : Nat → Nat) (s : WS) : WS := (s.1, rnS f s.2.1, s.2.2)
def rnP (f : Nat → Nat) (ps : List (Str × Str)) : List (Str × Str) := ps.map fun q => (rnS f q.1, rnS f q.2)
def InP (n : Nat) (ps : List (Str × Str)) : Prop := ∀ q ∈ ps, InL n q.1 ∧ InL n q.2
section
variable {f : Nat → Nat} {n : Nat} {ps : List (Str × Str)} (hf : Inj f n) (hp : InP n ps)
include hf hp
theorem rn_step {s : WS} {k : Nat} (hs : InL n s.2.1) : stepW (rnP f ps) (rnW f s) k = (stepW ps s k).map (rnW f) := by
  unfold stepW rnP
  rw [List.getElem?_map]
  cases hq : ps[k]? with
  | none => rfl
  | some q =>
    obtain ⟨h1, h2⟩ := hp q (List.mem_of_getElem? hq)
    show (if k ∈ s.1 then none else match plc (rnS f s.2.1) (rnS f q.1) with
      | [p] => some (s.1 ++ [k], putS (rnS f s.2.1) p (rnS f q.1).length (rnS f q.2), s.2.2.take p ++ List.replicate (rnS f q.2).length none ++ s.2.2.drop (p + (rnS f q.1).length))
      | _ => none) = Option.map (rnW f) (if k ∈ s.1 then none else match plc s.2.1 q.1 with
      | [p] => some (s.1 ++ [k], putS s.2.1 p q.1.length q.2, s.2.2.take p ++ List.replicate q.2.length none ++ s.2.2.drop (p + q.1.length))
      | _ => none)
    rw [rn_plc hf hs h1, rnS_len, rnS_len]
    by_cases c : k ∈ s.1
    · rw [if_pos c, if_pos c]
      rfl
    · rw [if_neg c, if_neg c]
      match hl : plc s.2.1 q.1 with
      | [] => rfl
      | _ :: _ :: _ => rfl
      | [p] =>
        have pm : p ∈ plc s.2.1 q.1 := by rw [hl]; exact List.mem_cons_self
        have := (at_lists.mp (plc_mem.mp pm)).1
        show some _ = some (rnW f _)
        rw [rn_put this]
        rfl
omit hf in
theorem in_step {s s' : WS} {k : Nat} (hs : InL n s.2.1) (h : stepW ps s k = some s') : InL n s'.2.1 := by
  obtain ⟨q, p, hq, hk, hpl, hl, rfl⟩ := step_some h
  obtain ⟨h1, h2⟩ := hp q (List.mem_of_getElem? hq)
  intro c hc
  have hc : c ∈ (putS s.2.1 p q.1.length q.2).cps.toList := hc
  rw [putS_list hl] at hc
  rcases List.mem_append.mp hc with hc | hc
  · rcases List.mem_append.mp hc with hc | hc
    · exact hs c (List.mem_of_mem_take hc)
    · exact h2 c hc
  · exact hs c (List.mem_of_mem_drop hc)
omit hf in
theorem in_next {L : List WS} (hL : ∀ s ∈ L, InL n s.2.1) : ∀ s ∈ nextW ps L, InL n s.2.1 := fun s' hs' => by
  obtain ⟨s, hs, h⟩ := List.mem_flatMap.mp hs'
  obtain ⟨k, _, hk⟩ := List.mem_filterMap.mp h
  exact in_step hp (hL s hs) hk
theorem rn_next : ∀ {L : List WS}, (∀ s ∈ L, InL n s.2.1) → nextW (rnP f ps) (L.map (rnW f)) = (nextW ps L).map (rnW f)
  | [], _ => rfl
  | s :: L, hL => by
    have ih := rn_next (L := L) fun t ht => hL t (List.mem_cons_of_mem _ ht)
    unfold nextW at ih ⊢
    rw [List.map_cons, List.flatMap_cons, List.flatMap_cons, List.map_append, ih]
    congr 1
    rw [show (rnP f ps).length = ps.length from List.length_map _]
    have e : ∀ l : List Nat, l.filterMap (stepW (rnP f ps) (rnW f s)) = (l.filterMap (stepW ps s)).map (rnW f) := fun l => by
      induction l with
      | nil => rfl
      | cons k l ih =>
        rw [List.filterMap_cons, List.filterMap_cons, rn_step hf hp (hL s List.mem_cons_self), ih]
        cases stepW ps s k <;> rfl
    exact e _
theorem rn_all : ∀ {m : Nat} {L : List WS}, (∀ s ∈ L, InL n s.2.1) → allW (rnP f ps) m (L.map (rnW f)) = (allW ps m L).map (rnW f)
  | 0, _, _ => rfl
  | m + 1, L, hL => by
    show L.map (rnW f) ++ allW (rnP f ps) m (nextW (rnP f ps) (L.map (rnW f))) = (L ++ allW ps m (nextW ps L)).map (rnW f)
    rw [rn_next hf hp hL, rn_all (in_next hp hL), List.map_append]
theorem rn_R {x : Str} (hx : InL n x) : allR (rnP f ps) (rnS f x) = (allR ps x).map (rnW f) := by
  unfold allR
  rw [show (rnP f ps).length = ps.length from List.length_map _, ← rn_all hf hp (L := [startW x]) (fun s hs => by rw [List.mem_singleton.mp hs]; exact hx)]
  congr 1
  show [startW (rnS f x)] = [rnW f (startW x)]
  unfold startW rnW
  rw [rnS_len]
omit hf in
theorem in_all : ∀ {m : Nat} {L : List WS}, (∀ s ∈ L, InL n s.2.1) → ∀ s ∈ allW ps m L, InL n s.2.1
  | 0, _, _, s, hs => by cases hs
  | m + 1, L, hL, s, hs => by
    rcases List.mem_append.mp hs with h | h
    · exact hL s h
    · exact in_all (in_next hp hL) s h
omit hp in
theorem rn_brk {x : Str} {a b : Nat} {s : WS} (hx : InL n x) (hs : InL n s.2.1) (h1 : a ≤ b) (h2 : b ≤ x.length) : brkW (rnS f x) a b (rnW f s) = brkW x a b s := by
  have hc : InL n (cutS x (some (a : Int)) (some (b : Int))) := fun c h => by
    rw [cut_list h1 h2] at h
    exact hx c (List.mem_of_mem_drop (List.mem_of_mem_take h))
  unfold brkW
  show (match plc (rnS f s.2.1) (cutS (rnS f x) (some (a : Int)) (some (b : Int))) with
    | [p] => !decide ((s.2.2.drop p).take (b - a) = (List.range' a (b - a)).map some)
    | _ => true) = _
  rw [rn_cut h1 h2, rn_plc hf hs hc]
  all_goals rfl
theorem rn_find {x : Str} {a b : Nat} (hx : InL n x) (h1 : a ≤ b) (h2 : b ≤ x.length) : (allR (rnP f ps) (rnS f x)).find? (brkW (rnS f x) a b) = ((allR ps x).find? (brkW x a b)).map (rnW f) := by
  rw [rn_R hf hp hx, List.find?_map]
  congr 1
  have e : ∀ l : List WS, (∀ s ∈ l, InL n s.2.1) → l.find? (brkW (rnS f x) a b ∘ rnW f) = l.find? (brkW x a b) := fun l => by
    induction l with
    | nil => exact fun _ => rfl
    | cons s l ih =>
      intro h
      have e1 : (brkW (rnS f x) a b ∘ rnW f) s = brkW x a b s := rn_brk hf hx (h s List.mem_cons_self) h1 h2
      rw [List.find?_cons, List.find?_cons, e1, ih fun t ht => h t (List.mem_cons_of_mem _ ht)]
  exact e _ (in_all hp fun s hs => by rw [List.mem_singleton.mp hs]; exact hx)
end
/-! ### seven letters -/
def X7 : Str := ⟨#[0, 1, 2, 6, 3, 4, 5]⟩
def P7 : List (Str × Str) := [(⟨#[3]⟩, ⟨#[0]⟩), (⟨#[4]⟩, ⟨#[1]⟩), (⟨#[5]⟩, ⟨#[2]⟩)]
def S7 : List (Str × Str) := [(⟨#[1]⟩, ⟨#[1]⟩)]
theorem c7_all : ((allR P7 X7).find? (brkW X7 0 3)).map (·.1) = some [0, 1, 2] := by decide +kernel
theorem c7_12 : (allR (P7.drop 1) X7).find? (brkW X7 0 3) = none := by decide +kernel
theorem c7_02 : (allR [(⟨#[3]⟩, ⟨#[0]⟩), (⟨#[5]⟩, ⟨#[2]⟩)] X7).find? (brkW X7 0 3) = none := by decide +kernel
theorem c7_01 : (allR (P7.take 2) X7).find? (brkW X7 0 3) = none := by decide +kernel
theorem c7_s : ((allR S7 X7).find? (brkW X7 0 3)).map (·.1) = some [0] := by decide +kernel
end Vk
set_option Elab.async false
set_option maxRecDepth 100000
set_option linter.all false
set_option maxHeartbeats 4000000
namespace Vk
open PySem PySem.Spec PyProof.Rows L2
theorem brk_start {x : Str} {a b : Nat} (hab : a < b) (hb : b ≤ x.length) : brkW x a b (startW x) = twB x a b := by
  have own := plc_own (x := x) (a := a) (b := b) (by omega) hb
  cases q : twB x a b with
  | true =>
    refine brk_not ?_
    have : 2 ≤ (plc x (cutS x (some (a : Int)) (some (b : Int)))).length := of_decide_eq_true q
    show (plc x (cutS x (some (a : Int)) (some (b : Int)))).length ≠ 1
    omega
  | false =>
    refine (brk_iff (marks_start (x := x)) (good_start (ps := []) (Nat.le_refl x.length) _ List.mem_cons_self).ml hab hb).mpr ⟨?_, q⟩
    refine (kEd_iff (by omega) (by omega) hb).mpr fun i h1 h2 => ?_
    exact List.mem_map.mpr ⟨i, List.mem_range.mpr (by omega), rfl⟩
theorem rest_long {ps : List (Str × Str)} {B : Nat} (ok : PsOk ps) : ∀ {f m : Nat} {L : List WS}, GoodL ps B (m + 1) L → ∀ s ∈ allW ps f L, s.1 ≠ []
  | 0, _, _, _, s, hs => by cases hs
  | f + 1, m, L, g, s, hs => by
    rcases List.mem_append.mp hs with h | h
    · intro e
      have := (g s h).len
      rw [e] at this
      cases this
    · exact rest_long ok (g.next ok) s h
theorem find_start {ps : List (Str × Str)} {x : Str} {a b : Nat} {s : WS} (ok : PsOk ps) (h : (allR ps x).find? (brkW x a b) = some s) : s.1 = [] ↔ brkW x a b (startW x) = true := by
  have e : allR ps x = startW x :: allW ps ps.length (nextW ps [startW x]) := rfl
  rw [e, List.find?_cons] at h
  cases q : brkW x a b (startW x) with
  | true =>
    rw [q] at h
    have := Option.some.inj h
    rw [← this]
    exact ⟨fun _ => rfl, fun _ => rfl⟩
  | false =>
    rw [q] at h
    have m := List.mem_of_find?_eq_some h
    have := rest_long ok ((good_start (ps := ps) (Nat.le_refl x.length)).next ok) s m
    exact ⟨fun z => absurd z this, fun z => nomatch z⟩
theorem find_none {ps : List (Str × Str)} {x : Str} {a b : Nat} (h : (allR ps x).find? (brkW x a b) = none) : brkW x a b (startW x) = false := by
  have := List.find?_eq_none.mp h (startW x) (List.mem_append_left _ List.mem_cons_self)
  simpa using this
/-! ## ways shown -/
def wyD (l : List Nat) : PyData := .tuple (l.map fun k => PyData.int (k : Nat))
theorem wy_dp {K : PySem.W.Frag} {H : Hp} : ∀ l : List Nat, DpAll K H (l.map natV) (l.map fun k => PyData.int (k : Nat))
  | [] => .nil
  | _ :: l => .cons (.int _) (wy_dp l)
theorem wy_shaped (l : List Nat) : SeqAt.shaped (wyD l) = true := by
  have k : ∀ l : List Nat, PyData.canLayAll0 (l.map fun k => PyData.int (k : Nat)) = true ∧ PyData.depthAll (l.map fun k => PyData.int (k : Nat)) = 0 := fun l => by
    induction l with
    | nil => exact ⟨rfl, rfl⟩
    | cons a l ih =>
      refine ⟨ih.1, ?_⟩
      show max 0 (PyData.depthAll (l.map fun k => PyData.int (k : Nat))) = 0
      rw [ih.2]
      rfl
  obtain ⟨h1, h2⟩ := k l
  have h3 : PyData.canLay0 (wyD l) = true := h1
  have h4 : PyData.depth (wyD l) = 1 := by
    show PyData.depthAll (l.map fun k => PyData.int (k : Nat)) + 1 = 1
    rw [h2]
  unfold SeqAt.shaped
  rw [h3, h4]
  rfl
theorem wy_eq : ∀ l m : List Nat, PyData.eqv (wyD l) (wyD m) = decide (l = m)
  | [], [] => rfl
  | [], _ :: _ => rfl
  | _ :: _, [] => rfl
  | a :: l, b :: m => by
    show (decide ((a : Int) = (b : Int)) && PyData.eqv (wyD l) (wyD m)) = _
    rw [wy_eq l m, Bool.eq_iff_iff, Bool.and_eq_true, decide_eq_true_eq, decide_eq_true_eq, decide_eq_true_eq, List.cons.injEq]
    constructor
    · rintro ⟨h1, h2⟩
      exact ⟨by omega, h2⟩
    · rintro ⟨h1, h2⟩
      exact ⟨by omega, h2⟩
theorem wy_showy {l : List Nat} (h : ∀ k ∈ l, k ≤ 100) : Showy (wyD l) 1 (l.length * 105 + 2) := by
  have one : ∀ d ∈ l.map (fun k => PyData.int (k : Nat)), Showy d 0 101 := fun d hd => by
    obtain ⟨k, hk, rfl⟩ := List.mem_map.mp hd
    exact Showy.int (Nat.lt_of_le_of_lt (show ((k : Nat) : Int).natAbs ≤ 100 by have := h k hk; omega) (by decide +kernel))
  have q := Showy.tuple one
  rw [List.length_map] at q
  exact ⟨q.sh, q.nd, q.dp, by have := q.ln; unfold wyD; omega⟩
/-! ## seven letters, any -/
def f7 (cs : List Nat) (i : Nat) : Nat := cs.getD i 0
theorem f7_inj {cs : List Nat} (hl : cs.length = 7) (nd : cs.Nodup) : Inj (f7 cs) 7 := fun a b ha hb e => by
  have ga : a < cs.length := by omega
  have gb : b < cs.length := by omega
  unfold f7 at e
  rw [List.getD_eq_getElem?_getD, List.getD_eq_getElem?_getD, List.getElem?_eq_getElem ga, List.getElem?_eq_getElem gb] at e
  have e : cs[a] = cs[b] := e
  rcases Nat.lt_trichotomy a b with h | h | h
  · exact absurd e (List.pairwise_iff_getElem.mp nd a b ga gb h)
  · exact h
  · exact absurd e.symm (List.pairwise_iff_getElem.mp nd b a gb ga h)
theorem x7_in : InL 7 X7 := by unfold InL X7; decide
theorem txt7_is {cs : List Nat} (hl : cs.length = 7) : txt7 cs = rnS (f7 cs) X7 := by
  match cs, hl with
  | [c0, c1, c2, c3, c4, c5, c6], _ => exact str_eq rfl
theorem ps7_is {cs : List Nat} (hl : cs.length = 7) : ps7 cs = rnP (f7 cs) P7 := by
  match cs, hl with
  | [c0, c1, c2, c3, c4, c5, c6], _ => rfl
theorem inP_of {ps : List (Str × Str)} (h : (ps.all fun q => q.1.cps.toList.all (fun c => decide (c < 7)) && q.2.cps.toList.all (fun c => decide (c < 7))) = true) : InP 7 ps := fun q hq => by
  have := List.all_eq_true.mp h q hq
  rw [Bool.and_eq_true, List.all_eq_true, List.all_eq_true] at this
  exact ⟨fun c hc => of_decide_eq_true (this.1 c hc), fun c hc => of_decide_eq_true (this.2 c hc)⟩
theorem f7_some {cs : List Nat} {ps : List (Str × Str)} {w : List Nat} (hl : cs.length = 7) (nd : cs.Nodup) (hp : InP 7 ps) (h : ((allR ps X7).find? (brkW X7 0 3)).map (·.1) = some w) : ∃ s, (allR (rnP (f7 cs) ps) (txt7 cs)).find? (brkW (txt7 cs) 0 3) = some s ∧ s.1 = w := by
  rw [txt7_is hl, rn_find (f7_inj hl nd) hp x7_in (by decide) (by decide)]
  obtain ⟨s, h1, h2⟩ := Option.map_eq_some_iff.mp h
  exact ⟨rnW (f7 cs) s, by rw [h1]; rfl, h2⟩
theorem f7_none {cs : List Nat} {ps : List (Str × Str)} (hl : cs.length = 7) (nd : cs.Nodup) (hp : InP 7 ps) (h : (allR ps X7).find? (brkW X7 0 3) = none) : (allR (rnP (f7 cs) ps) (txt7 cs)).find? (brkW (txt7 cs) 0 3) = none := by
  rw [txt7_is hl, rn_find (f7_inj hl nd) hp x7_in (by decide) (by decide), h]
  rfl
theorem f7_st {cs : List Nat} (hl : cs.length = 7) (nd : cs.Nodup) (ok : PsOk (rnP (f7 cs) S7)) : stG (rnP (f7 cs) S7) (txt7 cs) 0 1 = [(0, 1)] := by
  have hx : (txt7 cs).length = 7 := by rw [txt7_is hl, rnS_len]; rfl
  show toldG (txt7 cs).length _ _ 1 (min (0 + 1) (txt7 cs).length) = _
  rw [← due_is ok (by omega), hx]
  have e : ∀ p ∈ aroundW 7 1 (0 + 1), ((allR (rnP (f7 cs) S7) (txt7 cs)).find? (brkW (txt7 cs) p.1 p.2)).isNone = ((allR S7 X7).find? (brkW X7 p.1 p.2)).isNone := fun p hp => by
    obtain ⟨h1, h2, h3⟩ := mem_around.mp hp
    rw [txt7_is hl, rn_find (f7_inj hl nd) (inP_of (by decide +kernel)) x7_in (by omega) h3]
    cases (allR S7 X7).find? (brkW X7 p.1 p.2) <;> rfl
  rw [List.filter_congr e]
  decide +kernel
end Vk
set_option Elab.async false
set_option maxRecDepth 100000
set_option maxHeartbeats 4000000
set_option linter.all false
namespace Vk
open PySem PySem.Spec PyProof.Rows L2 PySem.W
theorem walkX {l : PySem.W.OpenLaw} {n k : Nat} {q : Program} {loose : List Str} {XP : (Str → Option Value) → Heap → Prop} {YP : World → Heap → Prop} {d : DefRec} {K : Params → PySem.W.Frag} {CX : CXT} {sp : PySem.W.Frag → Sp} {x : Str}
    (hn : l.most = some n) (hn2 : n ≤ sizeLine) (hdf : d.params.defaults = []) (hr : Room k callerA) (hY : ∀ (w : World) (h : Heap), YP w h → (K w.params).In h)
    (F : ∀ (w : World) (mg : Str → Option Value) (fa : Addr) (h : Heap), (K w.params).In h → (∃ s0 mb, PySem.W.Ground q loose [] XP w s0 mg mb h) → mg d.name = some (.ref fa) →
      ∃ fd : FuncData, (∀ (s : Shared) (u : Value), BindsTo s fd ⟨[u], []⟩ [(x, u)]) ∧ ∀ base : Heap, (K w.params).In base → base.Ns mainGlobals mg → FnG l.prog w (K w.params) mg base CX k fa fd [x] (sp (K w.params)))
    (hsp : ∀ (K : PySem.W.Frag) (H : Hp) (a : Addr) (ns : List Int), ns.length ≤ n → Only H → SqL K H a (ns.map V.int) → sp K [.ref a] H (fun v _ => v = .bl true) fun _ _ _ => False)
    (noX : ∀ (H : Hp) (s : Shared) (e : Value) (s2 : Shared), CX [] H s (fun _ _ _ => False) e s2 → False) : PySem.W.WalkO q loose XP YP l.row.toRowW d [] (fun f vs => PySem.call f vs) := by
  refine Att.attach_call hn hdf ?_
  intro w s0 s1 mg mb fa o pm cd doc a vs ns G Y _ _ _ hmg scr hints hlen gens0
  obtain ⟨fd, hb, hF⟩ := F w mg fa _ (hY w _ Y) ⟨s0, mb, G⟩ hmg
  exact lawG (hY w _ Y) G.T.g G.T.b G.T.builtins G.T.nolimit gens0 scr hints (Nat.le_trans hlen hn2) hr hF hb (fun H h1 h2 => hsp _ H a ns hlen h1 h2) (fun H => noX H s1)
end Vk
set_option Elab.async false
set_option maxRecDepth 100000
set_option linter.all false
set_option maxHeartbeats 4000000
namespace Vk
open PySem PySem.Spec PyProof.Rows L2
section
variable {P : Program} {w : World} {K : PySem.W.Frag} {mg : Str → Option Value} {base : Heap}
variable {CN CO C_InvalidOld C_InvalidNew : Addr}
def spLaw (K : PySem.W.Frag) : Sp := fun vs H Q _ => ∃ (a : Addr) (ns : List Int), vs = [.ref a] ∧ SqL K H a (ns.map V.int) ∧ ns.length ≤ 63 ∧ ∀ H', Q (.bl true) H'
theorem no_inI {i lo hi : Int} (h1 : lo ≤ i) (h2 : i ≤ hi) (z : inI (.int i) lo hi = false) : False := by
  have e : inI (.int i) lo hi = true := by
    show (decide (lo ≤ i) && decide (i ≤ hi)) = true
    rw [decide_eq_true h1, decide_eq_true h2]
    rfl
  rw [e] at z
  cases z
theorem nat_int {a b : Nat} (h : PyData.int ((a : Nat) : Int) = PyData.int ((b : Nat) : Int)) : a = b := Int.ofNat.inj (PyData.int.inj h)
theorem no_k1 {X : Prop} {a n : Nat} (ha : a ≤ n) (z : inI (.int (a : Nat)) 0 (n : Nat) = false) : X := (no_inI (by omega) (by omega) z).elim
theorem no_k2 {a b n : Nat} {X : Int → Prop} (h1 : a ≤ b) (h2 : b ≤ n) (i : Int) (e : PyData.int (a : Nat) = .int i) (_ : 0 ≤ i) (_ : i ≤ (n : Nat)) (z : inI (.int (b : Nat)) i (n : Nat) = false) : X i := by
  have := PyData.int.inj e
  exact (no_inI (by omega) (by omega) z).elim
theorem pen_nl {H H' : Hp} {p c : Addr} {U : Nat} (q : Pen H p c U) (x : Ext p H H') : ∀ g u, H g = some u → (∀ k, u ≠ .dK k) → H' g = some u := fun g u e n => x _ _ e (fun z => by
  obtain ⟨tn, l, hp⟩ := q.is
  rw [z, hp] at e
  exact n _ (Option.some.inj e).symm)
theorem LayL.pen {A : Addr → Prop} {H H' : Hp} {xs : List V} {L : List WS} {p c : Addr} {U : Nat} (h : LayL A H xs L) (q : Pen H p c U) (x : Ext p H H') : LayL A H' xs L :=
  LayL.mono h (fun u ws e => pen_nl q x u _ e fun _ z => nomatch z) fun e es a h1 => ⟨a, pen_nl q x e _ h1 fun _ z => nomatch z⟩
theorem EdsO.pen {C : Addr} {H H' : Hp} {xs : List V} {ps : List (Str × Str)} {p c : Addr} {U : Nat} (h : EdsO C H xs ps) (q : Pen H p c U) (x : Ext p H H') : EdsO C H' xs ps :=
  pair_mono (fun _ _ ⟨a, dx, e, h1⟩ => ⟨a, dx, e, pen_nl q x a _ h1 fun _ z => nomatch z⟩) h
theorem EdsO.upd_lst {C D : Addr} {H : Hp} {xs us : List V} {o : HO} {ps : List (Str × Str)} (h : EdsO C H xs ps) (hD : H D = some (.lst us)) : EdsO C (upd H D o) xs ps :=
  pair_mono (fun _ _ ⟨a, dx, e, h1⟩ => ⟨a, dx, e, (upd_ne (fun z => by rw [z, hD] at h1; cases h1)).trans h1⟩) h
abbrev s_law : Stmt := top 68
theorem shn_none : (PyData.none).showable = true ∧ (PyData.none).hasDict = false ∧ (PyData.none).depth ≤ 60 ∧ (PyData.none).shown.length ≤ sizeLine := ⟨rfl, rfl, by decide, Nat.le_of_lt (fewL (by decide +kernel))⟩
theorem sc_law : FnScope ["_law_script", "_law_pen_here", "_law_turn", "_law_signs_here", "_law_here", "_law_plains", "_law_some", "_law_plain", "_law_behind", "_law_a", "_law_b", "_law_due", "_law_span", "_law_k", "_law_tip", "_law_own", "_law_same"] ["_law_script"] (defScope s_law) := ⟨rfl, rfl, rfl, by decide +kernel, rfl, by decide +kernel, by decide +kernel⟩
theorem b_law {f : Addr} {fd : FuncData} (F : Fun K "law" "law" s_law f fd) (T : Txt mg) (c_lpen : CalG P w K mg base CX0 1 "_law_pen" (spPen K)) (c_lfew : CalG P w K mg base CX0 3 "_law_few" spFew) (c_lntext : CalG P w K mg base CX0 4 "_law_ntext" spNtext) (c_lnonces : CalG P w K mg base CX0 4 "_law_nonces" spNonces) (c_lmade : CalG P w K mg base CX0 7 "_law_made" (spMade CO)) (c_lnways : CalG P w K mg base CX0 2 "_law_nways" spNways) (c_lnonce : CalG P w K mg base CX0 2 "_law_nonce" spNonce) (c_lnspot : CalG P w K mg base CX0 3 "_law_nspot" spSpot) (c_lnaround : CalG P w K mg base CX0 1 "_law_naround" spAround) (c_lnbreak : CalG P w K mg base CX0 2 "_law_nbreak" spNbreak) (c_lnthree : CalG P w K mg base CX0 3 "_law_nthree" spThree) (mk_Once : MakI P w K mg base (L2.CX P w) 5 "Once" CO ["old", "new"] (spEdit CO C_InvalidOld C_InvalidNew)) (c_steady : CalG P w K mg base (L2.CX P w) 7 "steady" (spSteady CN CO)) (c_breaker : CalG P w K mg base (L2.CX P w) 7 "breaker" (spBreaker CO)) (k_breaker : CalK P w K mg base (L2.CX P w) 7 "breaker" (spBreaker CO) ["edits", "end", "begin", "text"] List.reverse) : FnG P w K mg base CX0 8 f fd ["_law_script"] (spLaw K) := by
  refine okG0 F sc_law (fun vs H Q E h => ?_) (fun cdv A outer s H vs Q E hg hr h => ?_)
  · obtain ⟨a, ns, rfl, _⟩ := h
    rfl
  · have hu := hu_of hr
    have hu64 := hr.units
    obtain ⟨a, ns, rfl, hS, hlen, k⟩ := h
    refine ⟨_, (pss_cons (ps_set (i := 1) sc_law.nd rfl (Or.inl rfl) (pe_cG c_lpen hg hr (by decide) pass0 (pa_cons (pv 0) pa_nil)))
      (pss_cons (ps_for PassesOwn.never rfl (pi_range1 rfl T.range (pa_cons (pe_op op_add pe_int (pe_callB (call_min2 rfl) (by rfl) T.min (by decide +kernel) (pa_cons pe_int (pa_cons (pe_callB call_len (by rfl) T.len (by decide +kernel) (pa_cons (pv 0) pa_nil)) pa_nil)))) pa_nil)) (pg_name (i := 2) sc_law.nd rfl (Or.inl rfl)) (pss_cons (ps_set (i := 3) sc_law.nd rfl (Or.inl rfl) (pe_cG c_lfew hg hr (by decide) pass0 (pa_cons (pv 1) pa_nil)))
      (pss_cons (ps_set (i := 4) sc_law.nd rfl (Or.inl rfl) (pe_cG c_lntext hg hr (by decide) pass0 (pa_cons (pv 1) (pa_cons (pv 3) (pa_cons pe_int pa_nil)))))
      (pss_cons (ps_set (i := 5) sc_law.nd rfl (Or.inl rfl) (pe_cG c_lnonces hg hr (by decide) pass0 (pa_cons (pv 1) (pa_cons (pv 4) (pa_cons (pv 3) (pa_cons pe_int pa_nil))))))
      (pss_cons (ps_setLc (i := 6) (own := [("_law_plain", 7)]) (g := gName 7) (tt := tYes) rfl sc_law.nd rfl rfl (sw_true rfl rfl rfl (by decide +kernel)) (pi_list (pv 5)) (blkOk_by (own := [("_law_plain", 7)]) (N := ["_law_script", "_law_pen_here", "_law_turn", "_law_signs_here", "_law_here", "_law_plains", "_law_some", "_law_plain", "_law_behind", "_law_a", "_law_b", "_law_due", "_law_span", "_law_k", "_law_tip", "_law_own", "_law_same"]) (sc := defScope s_law) (by decide +kernel)) (fun _ _ _ _ _ => (pg_name (i := 7) sc_law.nd rfl (Or.inl rfl))) (fun _ _ _ _ _ => pts_nil) (fun _ _ _ _ _ => (pe_cG c_lmade hg hr (by decide) pass0 (pa_cons (pv 7) pa_nil))))
      (pss_cons (ps_set (i := 8) sc_law.nd rfl (Or.inl rfl) (pe_cG c_lnways hg hr (by decide) pass0 (pa_cons (pv 4) (pa_cons (pv 5) pa_nil))))
      (pss_cons (ps_for PassesOwn.never rfl (pi_range1 rfl T.range (pa_cons (pe_callB call_len (by rfl) T.len (by decide +kernel) (pa_cons (pv 4) pa_nil)) pa_nil)) (pg_name (i := 9) sc_law.nd rfl (Or.inl rfl)) (pss_one (ps_for PassesOwn.never rfl (pi_range2 rfl T.range (pa_cons (pe_op op_add (pv 9) pe_int) (pa_cons (pe_op op_add (pe_callB call_len (by rfl) T.len (by decide +kernel) (pa_cons (pv 4) pa_nil)) pe_int) pa_nil))) (pg_name (i := 10) sc_law.nd rfl (Or.inl rfl)) (pss_cons (ps_set (i := 11) sc_law.nd rfl (Or.inl rfl) (pe_cG c_lnbreak hg hr (by decide) pass0 (pa_cons (pv 4) (pa_cons (pv 9) (pa_cons (pv 10) (pa_cons (pv 8) pa_nil))))))
      (pss_one (ps_if (PW.pt (pw_or (pt_cmpR op_ne (pe_callB (Vk.call_reprD hg hu64) (by rfl) T.repr (by decide +kernel) (pa_cons (pe_cG c_breaker hg hr (by decide) passesF (pa_cons (pv 4) (pa_cons (pv 9) (pa_cons (pv 10) (pa_cons (pv 6) pa_nil))))) pa_nil)) (pe_callB (Vk.call_reprD hg hu64) (by rfl) T.repr (by decide +kernel) (pa_cons (pv 11) pa_nil)) (nomark _)) (pw_or1 (pt_cmpR op_ne (pe_cmpR (op_eqD hu64) (pv 11) (pe_tup pa_nil) (nomark _)) (pe_not (pe_cG c_lnonce hg hr (by decide) pass0 (pa_cons (pv 4) (pa_cons (pv 9) (pa_cons (pv 10) pa_nil))))) (nomark _))))) (pss_one (ps_ret pe_bl)) pss_nil))))))
      (pss_cons (ps_asg (pe_cG c_lnspot hg hr (by decide) pass0 (pa_cons (pv 1) (pa_cons (pv 4) pa_nil))) (pg_tup rfl (pgs_cons (pg_name (i := 9) sc_law.nd rfl (Or.inl rfl)) (pgs_cons (pg_name (i := 10) sc_law.nd rfl (Or.inl rfl)) pgs_nil))))
      (pss_one (ps_for PassesOwn.never rfl (pi_list (pe_cG c_steady hg hr (by decide) passesF (pa_cons (pv 4) (pa_cons (pv 9) (pa_cons (pv 10) (pa_cons (pv 6) pa_nil)))))) (pg_name (i := 12) sc_law.nd rfl (Or.inr rfl)) (pss_cons (ps_if (pt_cmpR op_notN (pe_kw k_breaker hg hr (by decide) passesF (pk_cons (pv 6) (pk_cons (pe_ix ix_seq (pv 12) pe_int (fun _ _ => rfl)) (pk_cons (pe_ix ix_seq (pv 12) pe_int (fun _ _ => rfl)) (pk_cons (pv 4) pk_nil))))) pe_non (nomark _)) (pss_one (ps_ret pe_bl)) pss_nil)
      (pss_one (ps_for PassesOwn.never rfl (pi_list (pe_lc (own := [("_law_own", 15)]) (g := gName 15) rfl sc_law.nd (pi_list (pe_cG c_lnaround hg hr (by decide) pass0 (pa_cons (pv 4) (pa_cons (pv 9) (pa_cons (pv 10) pa_nil))))) (blkOk_by (own := [("_law_own", 15)]) (N := ["_law_script", "_law_pen_here", "_law_turn", "_law_signs_here", "_law_here", "_law_plains", "_law_some", "_law_plain", "_law_behind", "_law_a", "_law_b", "_law_due", "_law_span", "_law_k", "_law_tip", "_law_own", "_law_same"]) (sc := defScope s_law) (by decide +kernel)) (fun _ _ _ _ _ => (pg_name (i := 15) sc_law.nd rfl (Or.inl rfl))) (fun _ _ _ _ _ => (pts_one (pt_cmpR (op_neDK (K := K) rfl hu64) (pv 15) (pv 12) (nomark _)))) (fun _ _ _ _ _ => (pv 15)))) (pg_tup rfl (pgs_cons (pg_name (i := 13) sc_law.nd rfl (Or.inl rfl)) (pgs_cons (pg_name (i := 14) sc_law.nd rfl (Or.inl rfl)) pgs_nil))) (pss_one (ps_if (PW.pt (pw_and (pt_cmpR op_le (pe_ix ix_seq (pv 12) pe_int (fun _ _ => rfl)) (pv 13) (nomark _)) (pw_and (pt_cmpR op_le (pv 14) (pe_ix ix_seq (pv 12) pe_int (fun _ _ => rfl)) (nomark _)) (pw_and1 (pt_cmpR op_isN (pe_cG c_breaker hg hr (by decide) passesF (pa_cons (pv 4) (pa_cons (pv 13) (pa_cons (pv 14) (pa_cons (pv 6) pa_nil))))) pe_non (nomark _)))))) (pss_one (ps_ret pe_bl)) pss_nil)))))))))))))))
      (pss_cons (ps_asg (pe_cG c_lnthree hg hr (by decide) pass0 (pa_cons (pv 1) pa_nil)) (pg_tup rfl (pgs_cons (pg_name (i := 4) sc_law.nd rfl (Or.inl rfl)) (pgs_cons (pg_name (i := 5) sc_law.nd rfl (Or.inl rfl)) pgs_nil))))
      (pss_cons (ps_setLc (i := 6) (own := [("_law_plain", 7)]) (g := gName 7) (tt := tYes) rfl sc_law.nd rfl rfl (sw_true rfl rfl rfl (by decide +kernel)) (pi_list (pv 5)) (blkOk_by (own := [("_law_plain", 7)]) (N := ["_law_script", "_law_pen_here", "_law_turn", "_law_signs_here", "_law_here", "_law_plains", "_law_some", "_law_plain", "_law_behind", "_law_a", "_law_b", "_law_due", "_law_span", "_law_k", "_law_tip", "_law_own", "_law_same"]) (sc := defScope s_law) (by decide +kernel)) (fun _ _ _ _ _ => (pg_name (i := 7) sc_law.nd rfl (Or.inl rfl))) (fun _ _ _ _ _ => pts_nil) (fun _ _ _ _ _ => (pe_cG c_lmade hg hr (by decide) pass0 (pa_cons (pv 7) pa_nil))))
      (pss_cons (ps_if (PW.pt (pw_or (pt_cmpR (op_neD hu64) (pe_cG c_breaker hg hr (by decide) passesF (pa_cons (pv 4) (pa_cons pe_int (pa_cons pe_int (pa_cons (pv 6) pa_nil))))) (pe_tup (pa_cons pe_int (pa_cons pe_int (pa_cons pe_int pa_nil)))) (nomark _)) (pw_or1 (pt_cmpR op_notN (pe_cG c_breaker hg hr (by decide) passesF (pa_cons (pv 4) (pa_cons pe_int (pa_cons pe_int (pa_cons (pe_slice sl_list (pv 6) (po_some pe_int) po_none) pa_nil))))) pe_non (nomark _))))) (pss_one (ps_ret pe_bl)) pss_nil)
      (pss_cons (ps_if (PW.pt (pw_or (pt_cmpR op_notN (pe_cG c_breaker hg hr (by decide) passesF (pa_cons (pv 4) (pa_cons pe_int (pa_cons pe_int (pa_cons (pe_lst (pa_cons (pe_ix ix_seq (pv 6) pe_int (fun _ _ => rfl)) (pa_cons (pe_ix ix_seq (pv 6) pe_int (fun _ _ => rfl)) pa_nil))) pa_nil))))) pe_non (nomark _)) (pw_or1 (pt_cmpR op_notN (pe_cG c_breaker hg hr (by decide) passesF (pa_cons (pv 4) (pa_cons pe_int (pa_cons pe_int (pa_cons (pe_slice sl_list (pv 6) po_none (po_some pe_int)) pa_nil))))) pe_non (nomark _))))) (pss_one (ps_ret pe_bl)) pss_nil)
      (pss_cons (ps_set (i := 16) sc_law.nd rfl (Or.inl rfl) (pe_ins mk_Once hg hr (by decide) passesF (pa_cons (pe_ix ix_seq (pv 4) pe_int (fun _ _ => rfl)) (pa_cons (pe_ix ix_seq (pv 4) pe_int (fun _ _ => rfl)) pa_nil))))
      (pss_one (ps_ret (pe_and (pe_cmpR (op_eqD hu64) (pe_cG c_breaker hg hr (by decide) passesF (pa_cons (pv 4) (pa_cons pe_int (pa_cons pe_int (pa_cons (pe_lst (pa_cons (pv 16) pa_nil)) pa_nil))))) (pe_tup (pa_cons pe_int pa_nil)) (nomark _)) (pe_one (pe_cmpR (op_eqD hu64) (pe_cG c_steady hg hr (by decide) passesF (pa_cons (pv 4) (pa_cons pe_int (pa_cons pe_int (pa_cons (pe_lst (pa_cons (pv 16) pa_nil)) pa_nil))))) (pe_lst (pa_cons (pe_tup (pa_cons pe_int (pa_cons pe_int pa_nil))) pa_nil)) (nomark _))))))))))))), ?_⟩
    refine ⟨_, rfl, a, ns, rfl, hS, fun p pc H1 hp0 Pn0 s1 => ?_⟩
    refine ⟨_, rfl, _, _, rfl, .inl ⟨_, s1.seq hS, rfl⟩, _, _, rfl, _, _, rfl, rfl, _, rfl, ?_, ?_, ?_⟩
    · split <;> omega
    · split <;> omega
    refine for_range (lo := 0) (fun i σ H' => ∃ o2 o3 o4 o5 o6 o7 o8 o9 o10 o11 o12 o13 o14 o15 o16 : Option V, σ = [some (.ref a), some (.ref p), o2, o3, o4, o5, o6, o7, o8, o9, o10, o11, o12, o13, o14, o15, o16] ∧ Pen H' p pc (1000 * i)) ?_ ?_ ?_
    · exact ⟨_, _, _, _, _, _, _, _, _, _, _, _, _, _, _, rfl, Pn0⟩
    · rintro i σ H2 hi ⟨o2, o3, o4, o5, o6, o7, o8, o9, o10, o11, o12, o13, o14, o15, o16, rfl, P2⟩
      have hi16 : i ≤ 10 := by
        have : i < 11 := by
          revert hi
          split <;> omega
        omega
      refine ⟨_, rfl, p, pc, 1000 * i, rfl, P2, by omega, fun sg H3 fsg P3 x3 => ?_⟩
      refine ⟨_, rfl, _, rfl, p, pc, sg, 9, _, rfl, fsg, by decide, P3, by omega, fun x H4 hx ltx P4 x4 => ?_⟩
      have xl : x.length ≤ sizeLine := Nat.le_trans hx (by decide)
      clear P2 P3 x3 x4
      refine ⟨_, rfl, _, rfl, _, rfl, p, pc, x, sg, 4, _, rfl, fsg, ltx, by omega, by decide, P4, by omega, fun lp ys ps H5 hlp0 hlp pls wds h3 P5 x5 => ?_⟩
      have gys := paired_len pls
      have ok : PsOk ps := wds.ok
      clear P4 x5
      -- the edits
      refine ⟨_, rfl, lp, rfl, ⟨_, SqL.of hlp⟩, fun D hD => ?_⟩
      refine lc_list (K := K) (a := lp) (xs := ys) (fun n H' => ∃ us, H' D = some (.lst us) ∧ EdsO CO H' us (ps.take n) ∧ Same H5 H') ⟨[], upd_same, .nil, same_new hD⟩ (fun n H' _ q => let ⟨_, _, _, s⟩ := q; SqL.of (s _ _ hlp)) (fun n v H' hv q => ?_) (fun H6 q => ?_)
      · obtain ⟨us, hd, eds, sm⟩ := q
        obtain ⟨q, hq, plq⟩ := paired_at pls hv
        have ged := paired_len eds
        rw [List.length_take] at ged
        refine ⟨rfl, ?_⟩
        dsimp only [tYes]
        rw [if_pos rfl]
        refine ⟨_, rfl, v, q, rfl, PlO.keepT plq (fun u ws h => sm _ _ h), wds q (List.mem_of_getElem? hq), fun ea dx H'' s'' hea => ⟨us, s'' _ _ hd, fewL (by omega), us ++ [.ref ea], upd_same, ?_, upd_out hD (sm.trans s'')⟩⟩
        rw [List.take_add_one, hq, Option.toList_some]
        exact Paired.snoc ((eds.keep s'').upd_lst (s'' _ _ hd)) ⟨ea, dx, rfl, (upd_ne (fun z => by rw [z, s'' _ _ hd] at hea; cases hea)).trans hea⟩
      obtain ⟨us, hD6, eds, s6⟩ := q
      rw [List.take_of_length_le (by omega)] at eds
      replace hlp := s6 _ _ hlp
      replace pls := pls.keepT (fun u ws h => s6 _ _ h)
      have P6 := P5.stay s6
      clear P5 s6 hlp0 hD
      refine ⟨_, rfl, _, rfl, x, lp, ys, ps, rfl, hlp, pls, ok, by omega, by omega, fun bh zs H7 hbh0 hbh lay s7 => ?_⟩
      have hD7 := s7 _ _ hD6
      replace eds := eds.keep s7
      have P7 := P6.stay s7
      clear P6 s7 hbh0 hD6 hlp pls
      have gus := paired_len eds
      have smal : ∀ s ∈ allR ps x, s.2.1.length ≤ 100 ∧ s.2.2.length = s.2.1.length := fun s hs => by
        obtain ⟨m, hm, g⟩ := allR_good ok s hs
        have := g.tl
        exact ⟨by omega, g.ml⟩
      have wsml : ∀ s ∈ allR ps x, s.1.length ≤ 4 ∧ ∀ k ∈ s.1, k ≤ 100 := fun s hs => by
        obtain ⟨m, hm, g⟩ := allR_good ok s hs
        exact ⟨by rw [g.len]; omega, fun k hk => by have := g.lt k hk; omega⟩
      refine name_go ?_
      dsimp only
      refine seq_mid (fun σ H' => ∃ o7 o9 o10 o11 o12 o13 o14 o15 o16 : Option V, σ = [some (.ref a), some (.ref p), some (.int (0 + (i : Int))), some (.str sg), some (.str x), some (.ref lp), some (.ref D), o7, some (.ref bh), o9, o10, o11, o12, o13, o14, o15, o16] ∧ Same H7 H') (fun D' hD' => ?_) (fun σ H8 hm => ?_)
      · refine ⟨_, rfl, _, _, rfl, ⟨xl, rfl⟩, _, rfl, by omega, by omega, ?_⟩
        refine for_range (lo := 0) (fun a1 σ H' => ∃ o7 o9 o10 o11 o12 o13 o14 o15 o16 : Option V, σ = [some (.ref a), some (.ref p), some (.int (0 + (i : Int))), some (.str sg), some (.str x), some (.ref lp), some (.ref D), o7, some (.ref bh), o9, o10, o11, o12, o13, o14, o15, o16] ∧ Same H7 H') ⟨_, _, _, _, _, _, _, _, _, rfl, fun _ _ h => h⟩ ?_ (fun σ H' q => hD' σ H' q)
        rintro a1 σ H8 ha1 ⟨o7, o9, o10, o11, o12, o13, o14, o15, o16, rfl, s8⟩
        have ha1 : a1 < x.length := by omega
        rw [Int.zero_add]
        refine name_go ?_
        try dsimp only
        refine ⟨_, rfl, _, _, rfl, rfl, _, rfl, _, _, rfl, ⟨xl, rfl⟩, _, _, rfl, rfl, _, _, rfl, ⟨by omega, by omega, by omega, by omega⟩, ?_⟩
        refine for_range (lo := ((a1 : Nat) : Int) + 1) (fun b0 σ H' => ∃ o7 o10 o11 o12 o13 o14 o15 o16 : Option V, σ = [some (.ref a), some (.ref p), some (.int (0 + (i : Int))), some (.str sg), some (.str x), some (.ref lp), some (.ref D), o7, some (.ref bh), some (.int (a1 : Nat)), o10, o11, o12, o13, o14, o15, o16] ∧ Same H7 H') ⟨_, _, _, _, _, _, _, _, rfl, s8⟩ ?_ (fun σ H' q => let ⟨_, _, _, _, _, _, _, _, e, s⟩ := q; ⟨_, _, _, _, _, _, _, _, _, e, s⟩)
        rintro b0 σ H9 hb0 ⟨o7, o10, o11, o12, o13, o14, o15, o16, rfl, s9⟩
        have eb : ((a1 : Nat) : Int) + 1 + (b0 : Int) = ((a1 + 1 + b0 : Nat) : Int) := by omega
        rw [eb]
        have hb1 : a1 + 1 + b0 ≤ x.length := by omega
        have hab : a1 < a1 + 1 + b0 := by omega
        generalize a1 + 1 + b0 = b1 at hb1 hab
        clear eb hb0
        refine name_go ?_
        try dsimp only
        have sn := shn_none
        refine ⟨_, rfl, _, rfl, _, rfl, _, rfl, x, a1, b1, bh, zs, allR ps x, rfl, by omega, by omega, hb1, s9 _ _ hbh, lay.keep s9, smal, fun fn H10 s10 => ?_, fun s es wt H10 s10 hwt => ?_⟩
        · have s70 := s9.trans s10
          have tb : twB x a1 b1 = false := by rw [← brk_start hab hb1]; exact find_none fn
          refine ⟨_, rfl, _, rfl, _, rfl, _, rfl, x, a1, b1, D, us, ps, rfl, by omega, hab, hb1, .inl (s70 _ _ hD7), eds.keep s70, ok, by omega, fun _ H11 s11 => ?_, fun s e => nomatch fn.symm.trans e⟩
          refine ⟨_, _, rfl, .non, sn.1, sn.2.1, sn.2.2.1, sn.2.2.2, _, rfl, _, _, rfl, .non, sn.1, sn.2.1, sn.2.2.1, sn.2.2.2, rfl, _, rfl, ?_⟩
          refine iteNS rfl ?_
          refine ⟨_, rfl, few_len (Nat.zero_le _), fun q hq => ⟨.none, .tuple [], .non, .tup (SqT.of upd_same) .nil, rfl, rfl, ?_⟩⟩
          refine ⟨_, rfl, _, rfl, _, rfl, x, a1, b1, rfl, by omega, (fun _ => hb1), fun H12 s12 => ⟨_, rfl, rfl, _, rfl, ?_⟩⟩
          have on : decide (a1 < b1 ∧ twB x a1 b1 = false) = true := decide_eq_true ⟨hab, tb⟩
          rw [on]
          refine iteF ⟨_, _, _, _, _, _, _, _, rfl, s70.trans (s11.trans ((same_new hq).trans s12))⟩
        · have s70 := s9.trans s10
          obtain ⟨sl4, sm⟩ := wsml s (List.mem_of_find?_eq_some es)
          have shw := wy_showy sm
          have shn : (wyD s.1).shown.length ≤ sizeLine := Nat.le_trans shw.ln (Nat.le_of_lt (fewL (by omega)))
          have shd : (wyD s.1).depth ≤ 60 := Nat.le_trans shw.dp (by decide)
          have fs := find_start ok es
          rw [brk_start hab hb1] at fs
          refine ⟨_, rfl, _, rfl, _, rfl, _, rfl, x, a1, b1, D, us, ps, rfl, by omega, hab, hb1, .inl (s70 _ _ hD7), eds.keep s70, ok, by omega, (fun e => nomatch e.symm.trans es), fun s' es' wt' H11 s11 hwt' => ?_⟩
          obtain rfl : s = s' := Option.some.inj (es.symm.trans es')
          refine ⟨_, _, rfl, .tup (SqT.of hwt') (wy_dp _), shw.sh, shw.nd, shd, shn, _, rfl, _, _, rfl, .tup (SqT.of (s11 _ _ hwt)) (wy_dp _), shw.sh, shw.nd, shd, shn, rfl, _, rfl, ?_⟩
          refine iteNS rfl ?_
          refine ⟨_, rfl, few_len (Nat.zero_le _), fun q hq => ⟨wyD s.1, wyD [], .tup (SqT.of (same_new hq _ _ (s11 _ _ hwt))) (wy_dp _), .tup (SqT.of upd_same) .nil, wy_shaped _, wy_shaped _, ?_⟩⟩
          refine ⟨_, rfl, _, rfl, _, rfl, x, a1, b1, rfl, by omega, (fun _ => hb1), fun H12 s12 => ⟨_, rfl, rfl, _, rfl, ?_⟩⟩
          have on : PyData.eqv (wyD s.1) (wyD []) = !decide (a1 < b1 ∧ twB x a1 b1 = false) := by
            rw [wy_eq, Bool.eq_iff_iff, decide_eq_true_eq, Bool.not_eq_true', decide_eq_false_iff_not, fs]
            constructor
            · intro z h
              rw [z] at h
              exact nomatch h.2
            · intro h
              cases z : twB x a1 b1 with
              | true => rfl
              | false => exact absurd ⟨hab, z⟩ h
          rw [on, decide_eq_true rfl]
          exact iteF ⟨_, _, _, _, _, _, _, _, rfl, s70.trans (s11.trans ((same_new hq).trans s12))⟩
      · obtain ⟨o7, o9, o10, o11, o12, o13, o14, o15, o16, rfl, s8⟩ := hm
        have P8 := P7.stay s8
        replace hD7 := s8 _ _ hD7
        replace eds := eds.keep s8
        clear P7 s8 hbh lay
        refine ⟨_, rfl, _, rfl, p, pc, x, _, rfl, by omega, P8, by omega, fun tsp ai bi H9 htsp a0 ab bx P9 x9 => ?_⟩
        obtain ⟨a1, rfl⟩ : ∃ n : Nat, ai = (n : Int) := ⟨ai.toNat, by omega⟩
        obtain ⟨b1, rfl⟩ : ∃ n : Nat, bi = (n : Int) := ⟨bi.toNat, by omega⟩
        have hab : a1 ≤ b1 := by omega
        have hbn : b1 ≤ x.length := by omega
        refine ⟨tsp, _, rfl, SqT.of htsp, rfl, _, _, rfl, _, _, rfl, rfl, ?_⟩
        replace hD7 := P8.keepI x9 hD7
        replace eds := eds.pen P8 x9
        clear P8 x9 htsp
        refine ⟨_, rfl, _, rfl, _, rfl, _, rfl, x, _, .int (a1 : Nat), _, .int (b1 : Nat), D, rfl, .atm (.int _), .atm (.int _), by omega, no_k1 (by omega), no_k2 hab hbn, fun a' b' e1 e2 _ _ => ?_⟩
        obtain rfl : a1 = a' := nat_int e1
        obtain rfl : b1 = b' := nat_int e2
        refine ⟨us, ps, .inl hD7, eds, ok, by omega, fun ls l3 H10 hls0 hls pls2 s10 => ?_⟩
        have P10 := P9.stay s10
        replace hD7 := s10 _ _ hD7
        replace eds := eds.keep s10
        have dl := due_is (a := a1) (b := b1) ok hbn
        have stl : (stG ps x a1 b1).length ≤ 20 := Nat.le_trans toldG_len (by omega)
        clear P9 s10 hls0
        refine ⟨ls, rfl, ⟨_, SqL.of hls⟩, ?_⟩
        refine for_list (K := K) (a := ls) (xs := l3) (fun _ σ H' => ∃ o7 o11 o12 o13 o14 o15 o16 : Option V, σ = [some (.ref a), some (.ref p), some (.int (0 + (i : Int))), some (.str sg), some (.str x), some (.ref lp), some (.ref D), o7, some (.ref bh), some (.int (a1 : Nat)), some (.int (b1 : Nat)), o11, o12, o13, o14, o15, o16] ∧ Same H10 H') ⟨_, _, _, _, _, _, _, rfl, fun _ _ h => h⟩ (fun _ σ H' _ q => let ⟨_, _, _, _, _, _, _, _, s⟩ := q; SqL.of (s _ _ hls)) (fun n v σ H11 hv q => ?_) (fun σ H' q => ?_)
        · obtain ⟨o7, o11, o12, o13, o14, o15, o16, rfl, s11⟩ := q
          obtain ⟨r, hr1, t, rfl, ht⟩ := paired_at pls2 hv
          have rm : r ∈ leastOf ((aroundW x.length b1 (a1 + 1)).filter fun p => ((allR ps x).find? (brkW x p.1 p.2)).isNone) := by
            rw [dl]
            exact List.mem_of_getElem? hr1
          obtain ⟨rg, rl⟩ := List.mem_filter.mp rm
          obtain ⟨ra, rn⟩ := List.mem_filter.mp rg
          obtain ⟨w1, w2, w3⟩ := mem_around.mp ra
          have rnone : (allR ps x).find? (brkW x r.1 r.2) = none := Option.isNone_iff_eq_none.mp rn
          refine name_go ?_
          try dsimp only
          have ht11 := s11 _ _ ht
          refine ⟨_, rfl, _, rfl, .inr (.inl ⟨t, _, 1, _, rfl, rfl, SqT.of ht11, rfl, _, rfl, .inr (.inl ⟨t, _, 0, _, rfl, rfl, SqT.of ht11, rfl, _, rfl, rfl, x, r.1, r.2, D, us, ps, rfl, by omega, by omega, w3, .inl (s11 _ _ hD7), eds.keep s11, ok, by omega, fun _ H12 s12 => ?_, fun s e => nomatch rnone.symm.trans e⟩)⟩)⟩
          refine ⟨rfl, _, rfl, ?_⟩
          refine iteF ?_
          have sx := s11.trans s12
          refine ⟨_, rfl, _, rfl, _, rfl, x, a1, b1, rfl, by omega, by omega, hbn, fun lr xr H13 hlr0 hlr pr s13 => ⟨lr, rfl, ⟨_, SqL.of hlr⟩, fun D2 hD20 => ?_⟩⟩
          have gxr := paired_len pr
          have alen : (aroundW x.length b1 (a1 + 1)).length ≤ 2000 := by
            have h1 := aroundW_len (n := x.length) (b := b1) (k := a1 + 1)
            have h2 : (a1 + 1) * x.length ≤ 11 * 10 := Nat.mul_le_mul (by omega) (by omega)
            omega
          have s113 := sx.trans s13
          refine lc_list (K := K) (a := lr) (xs := xr) (fun n H' => ∃ vs, H' D2 = some (.lst vs) ∧ PrN H' vs (((aroundW x.length b1 (a1 + 1)).take n).filter fun o => !decide (o = r)) ∧ Same H13 H') ⟨[], upd_same, .nil, same_new hD20⟩ (fun n H' _ q => let ⟨_, _, _, s⟩ := q; SqL.of (s _ _ hlr)) (fun n v H' hv q => ?_) (fun H14 q => ?_)
          · obtain ⟨vs, hd, pu, sm⟩ := q
            obtain ⟨o, ho1, to, rfl, hto⟩ := paired_at pr hv
            have gu := paired_len pu
            have gl : vs.length ≤ 2000 := by
              rw [gu]
              exact Nat.le_trans (List.length_filter_le _ _) (by rw [List.length_take]; omega)
            rw [List.take_add_one, ho1, Option.toList_some, List.filter_append]
            refine ⟨rfl, ?_⟩
            refine ⟨_, rfl, _, rfl, pD o, pD r, .tup (SqT.of (sm _ _ hto)) (.cons (.int _) (.cons (.int _) .nil)), .tup (SqT.of ((s113.trans sm) _ _ ht)) (.cons (.int _) (.cons (.int _) .nil)), pD_shaped _, pD_shaped _, _, rfl, ?_⟩
            rw [pD_eq]
            cases c : (!decide (o = r)) with
            | false =>
              rw [List.filter_cons_of_neg (p := fun o => !decide (o = r)) (by rw [c]; decide), List.filter_nil, List.append_nil]
              exact iteF ⟨vs, hd, pu, sm⟩
            | true =>
              rw [List.filter_cons_of_pos (p := fun o => !decide (o = r)) c, List.filter_nil]
              refine iteT ⟨_, rfl, vs, hd, fewL (by omega), vs ++ [.ref to], upd_same, ?_, upd_out hD20 sm⟩
              exact Paired.snoc (pu.keepT (upd_list hd)) ⟨to, rfl, upd_list hd _ _ (sm _ _ hto)⟩
          obtain ⟨vs, hd, pu, s14⟩ := q
          have s114 := s113.trans s14
          rw [List.take_of_length_le (by omega)] at pu
          refine ⟨D2, rfl, ⟨_, SqL.of hd⟩, ?_⟩
          refine for_list (K := K) (a := D2) (xs := vs) (fun _ σ H' => ∃ o7 o11 o13 o14 o15 o16 : Option V, σ = [some (.ref a), some (.ref p), some (.int (0 + (i : Int))), some (.str sg), some (.str x), some (.ref lp), some (.ref D), o7, some (.ref bh), some (.int (a1 : Nat)), some (.int (b1 : Nat)), o11, some (.ref t), o13, o14, o15, o16] ∧ Same H14 H') ⟨_, _, _, _, _, _, rfl, fun _ _ h => h⟩ (fun _ σ H' _ q => let ⟨_, _, _, _, _, _, _, s⟩ := q; SqL.of (s _ _ hd)) (fun m v σ H15 hv q => ?_) (fun σ H' q => ?_)
          · obtain ⟨o7, o11, o13, o14, o15, o16, rfl, s15⟩ := q
            obtain ⟨o, ho1, to, rfl, hto⟩ := paired_at pu hv
            obtain ⟨om, one⟩ := List.mem_filter.mp (List.mem_of_getElem? ho1)
            obtain ⟨v1, v2, v3⟩ := mem_around.mp om
            have one : o ≠ r := by simpa using one
            have s115 := s114.trans s15
            have ht15 := s115 _ _ ht
            refine ⟨to, _, rfl, SqT.of (s15 _ _ hto), rfl, _, _, rfl, _, _, rfl, rfl, ?_⟩
            refine ⟨_, rfl, .inr (.inl ⟨t, _, 0, _, rfl, rfl, SqT.of ht15, rfl, _, rfl, _, _, rfl, rfl, _, rfl, ?_⟩)⟩
            cases c1 : decide (((r.1 : Nat) : Int) ≤ ((o.1 : Nat) : Int)) with
            | false => exact iteF (iteF ⟨_, _, _, _, _, _, rfl, s15⟩)
            | true =>
              refine iteT ⟨_, rfl, _, rfl, .inr (.inl ⟨t, _, 1, _, rfl, rfl, SqT.of ht15, rfl, _, _, rfl, rfl, _, rfl, ?_⟩)⟩
              cases c2 : decide (((o.2 : Nat) : Int) ≤ ((r.2 : Nat) : Int)) with
              | false => exact iteF (iteF ⟨_, _, _, _, _, _, rfl, s15⟩)
              | true =>
                refine iteT ⟨_, rfl, _, rfl, _, rfl, _, rfl, x, o.1, o.2, D, us, ps, rfl, by omega, by omega, v3, .inl (s115 _ _ hD7), eds.keep s115, ok, by omega, (fun en => ?_), fun s es wt H16 s16 hwt => ?_⟩
                · exfalso
                  have c1 := of_decide_eq_true c1
                  have c2 := of_decide_eq_true c2
                  have og : o ∈ (aroundW x.length b1 (a1 + 1)).filter fun p => ((allR ps x).find? (brkW x p.1 p.2)).isNone := List.mem_filter.mpr ⟨om, by rw [en]; rfl⟩
                  rw [List.isEmpty_iff, List.filter_eq_nil_iff] at rl
                  refine rl o og ?_
                  unfold innerB
                  rw [Bool.and_eq_true, Bool.and_eq_true, decide_eq_true_eq, decide_eq_true_eq, decide_eq_true_eq]
                  exact ⟨one, by omega, by omega⟩
                · refine ⟨rfl, _, rfl, ?_⟩
                  rw [show decide (V.ref wt = V.non) = false from decide_eq_false (fun z => nomatch z)]
                  exact iteF ⟨_, _, _, _, _, _, rfl, s15.trans s16⟩
          · obtain ⟨o7, o11, o13, o14, o15, o16, rfl, s15⟩ := q
            exact ⟨_, _, _, _, _, _, _, rfl, s114.trans s15⟩
        · obtain ⟨o7, o11, o12, o13, o14, o15, o16, rfl, s11⟩ := q
          exact ⟨_, _, _, _, _, _, _, _, _, _, _, _, _, _, _, rfl, (P10.stay s11).mono (by omega)⟩
    · rintro σ H2 ⟨o2, o3, o4, o5, o6, o7, o8, o9, o10, o11, o12, o13, o14, o15, o16, rfl, P2⟩
      have bnd : 1000 * (4 + if ((ns.map V.int).length : Int) < 4 then ((ns.map V.int).length : Int) else 4).toNat ≤ 8000 := by
        split <;> omega
      refine ⟨_, rfl, p, pc, _, rfl, P2, by omega, fun t l ys cs H3 hl7 nd lett ht hlst pls P3 x3 => ⟨t, _, rfl, SqT.of ht, rfl, _, _, rfl, _, _, rfl, rfl, ?_⟩⟩
      clear P2 x3 ht bnd
      have wds : WdsO (ps7 cs) := fun q hq => by
        unfold ps7 at hq
        obtain ⟨kk, hk, rfl⟩ := List.mem_map.mp hq
        have kl := List.mem_range.mp hk
        have g : ∀ j, j < 7 → cs.getD j 0 ∈ letS.cps.toList := fun j hj => by
          rw [List.getD_eq_getElem?_getD, List.getElem?_eq_getElem (by omega)]
          exact lett _ (List.getElem_mem _)
        refine ⟨Nat.le_refl _, (show 1 ≤ 3 by decide), (show 1 ≤ 3 by decide), fun c hc => ?_, fun c hc => ?_⟩
        · rw [List.mem_singleton.mp (show c ∈ [cs.getD (3 + kk) 0] from hc)]
          exact g _ (by omega)
        · rw [List.mem_singleton.mp (show c ∈ [cs.getD kk 0] from hc)]
          exact g _ (by omega)
      have ok : PsOk (ps7 cs) := wds.ok
      have gys := paired_len pls
      have l3 : (ps7 cs).length = 3 := by unfold ps7; rw [List.length_map, List.length_range]
      refine ⟨_, rfl, l, rfl, ⟨_, SqL.of hlst⟩, fun D hD => ?_⟩
      refine lc_list (K := K) (a := l) (xs := ys) (fun n H' => ∃ us, H' D = some (.lst us) ∧ EdsO CO H' us ((ps7 cs).take n) ∧ Same H3 H') ⟨[], upd_same, .nil, same_new hD⟩ (fun n H' _ q => let ⟨_, _, _, s⟩ := q; SqL.of (s _ _ hlst)) (fun n v H' hv q => ?_) (fun H6 q => ?_)
      · obtain ⟨us, hd, eds, sm⟩ := q
        obtain ⟨q, hq, plq⟩ := paired_at pls hv
        have ged := paired_len eds
        rw [List.length_take] at ged
        refine ⟨rfl, ?_⟩
        dsimp only [tYes]
        rw [if_pos rfl]
        refine ⟨_, rfl, v, q, rfl, PlO.keepT plq (fun u ws h => sm _ _ h), wds q (List.mem_of_getElem? hq), fun ea dx H'' s'' hea => ⟨us, s'' _ _ hd, fewL (by omega), us ++ [.ref ea], upd_same, ?_, upd_out hD (sm.trans s'')⟩⟩
        rw [List.take_add_one, hq, Option.toList_some]
        exact Paired.snoc ((eds.keep s'').upd_lst (s'' _ _ hd)) ⟨ea, dx, rfl, (upd_ne (fun z => by rw [z, s'' _ _ hd] at hea; cases hea)).trans hea⟩
      obtain ⟨us, hD6, eds, s6⟩ := q
      rw [List.take_of_length_le (by omega)] at eds
      have gus := paired_len eds
      clear pls hlst hD s6 P3
      have hx7 : (txt7 cs).length = 7 := by rw [txt7_is hl7, rnS_len]; rfl
      obtain ⟨sa, ea, ewa⟩ := f7_some hl7 nd (ps := P7) (inP_of (by decide +kernel)) c7_all
      rw [← ps7_is hl7] at ea
      have e12 := f7_none hl7 nd (ps := P7.drop 1) (inP_of (by decide +kernel)) c7_12
      have e02 := f7_none hl7 nd (ps := [(⟨#[3]⟩, ⟨#[0]⟩), (⟨#[5]⟩, ⟨#[2]⟩)]) (inP_of (by decide +kernel)) c7_02
      have e01 := f7_none hl7 nd (ps := P7.take 2) (inP_of (by decide +kernel)) c7_01
      obtain ⟨ss, es, ews⟩ := f7_some hl7 nd (ps := S7) (inP_of (by decide +kernel)) c7_s
      have est := f7_st hl7 nd
      match cs, hl7, us, gus with
      | [c0, c1, c2, c3, c4, c5, c6], hl7, [u0, u1, u2], _ =>
        have ok12 : PsOk (rnP (f7 [c0, c1, c2, c3, c4, c5, c6]) (P7.drop 1)) := fun q hq => ok q (List.mem_of_mem_drop (i := 1) hq)
        have ok01 : PsOk (rnP (f7 [c0, c1, c2, c3, c4, c5, c6]) (P7.take 2)) := fun q hq => ok q (List.mem_of_mem_take (i := 2) hq)
        have xl : (txt7 [c0, c1, c2, c3, c4, c5, c6]).length ≤ 20 := by omega
        refine ⟨_, rfl, _, rfl, txt7 [c0, c1, c2, c3, c4, c5, c6], 0, 3, D, _, _, rfl, xl, by decide, by omega, .inl hD6, eds, ok, by omega, (fun e => nomatch e.symm.trans ea), fun s' es' wt H7 s7 hwt => ?_⟩
        obtain rfl : sa = s' := Option.some.inj (ea.symm.trans es')
        rw [ewa] at hwt
        refine ⟨few_len (Nat.le_of_ble_eq_true rfl), fun q1 hq1 => ⟨wyD [0, 1, 2], wyD [0, 1, 2], .tup (SqT.of (same_new hq1 _ _ hwt)) (wy_dp _), .tup (SqT.of upd_same) (wy_dp [0, 1, 2]), wy_shaped _, wy_shaped _, _, rfl, ?_⟩⟩
        rw [wy_eq, decide_eq_true rfl]
        refine iteF ?_
        have eds' : EdsO CO H6 [u0, u1, u2] [(chS c3, chS c0), (chS c4, chS c1), (chS c5, chS c2)] := eds
        clear eds
        unfold EdsO at eds'
        cases eds' with
        | cons p0 t0 =>
        cases t0 with
        | cons p1 t1 =>
        cases t1 with
        | cons p2 t2 =>
        cases t2
        have s68 := s7.trans (same_new (o := .tup [V.int 0, .int 1, .int 2]) hq1)
        generalize upd H7 q1 (.tup [V.int 0, .int 1, .int 2]) = H8 at s68 ⊢
        have hD8 := s68 _ _ hD6
        -- without the first
        refine ⟨_, rfl, _, rfl, _, rfl, D, _, rfl, SqL.of hD8, fun D1 hD1 => ?_⟩
        rw [show cutV [u0, u1, u2] (some 1) none = [u1, u2] from cutV_tail (k := 1) (show 1 ≤ 3 by decide)]
        have g1 := s68.trans (same_new (o := .lst [u1, u2]) hD1)
        refine ⟨txt7 [c0, c1, c2, c3, c4, c5, c6], 0, 3, D1, [u1, u2], rnP (f7 [c0, c1, c2, c3, c4, c5, c6]) (P7.drop 1), rfl, xl, by decide, by omega, .inl upd_same, EdsO.keep (C := CO) (.cons p1 (.cons p2 .nil)) g1, ok12, (show 2 ≤ 4 by decide), fun _ H9 s9 => ⟨rfl, _, rfl, iteF ?_⟩, (fun s e => nomatch e12.symm.trans e)⟩
        have s69 := g1.trans s9
        clear g1 s9 s68 hD8
        have hD9 := s69 _ _ hD6
        -- the first and the third
        refine ⟨_, rfl, _, rfl, .inl ⟨D, _, _, _, rfl, rfl, SqL.of hD9, atI_nat (j := 0) rfl, _, rfl, .inl ⟨D, _, _, _, rfl, rfl, SqL.of hD9, atI_nat (j := 2) rfl, few_len (Nat.le_of_ble_eq_true rfl), fun D2 hD2 => ?_⟩⟩⟩
        have g2 := s69.trans (same_new (o := .lst [u0, u2]) hD2)
        have ok02 : PsOk (rnP (f7 [c0, c1, c2, c3, c4, c5, c6]) [(⟨#[3]⟩, ⟨#[0]⟩), (⟨#[5]⟩, ⟨#[2]⟩)]) := fun q hq => by
          have hq : q ∈ [(chS c3, chS c0), (chS c5, chS c2)] := hq
          refine ok q ?_
          show q ∈ [(chS c3, chS c0), (chS c4, chS c1), (chS c5, chS c2)]
          simp only [List.mem_cons, List.not_mem_nil, or_false] at hq ⊢
          rcases hq with h | h
          · exact .inl h
          · exact .inr (.inr h)
        refine ⟨txt7 [c0, c1, c2, c3, c4, c5, c6], 0, 3, D2, [u0, u2], rnP (f7 [c0, c1, c2, c3, c4, c5, c6]) [(⟨#[3]⟩, ⟨#[0]⟩), (⟨#[5]⟩, ⟨#[2]⟩)], rfl, xl, by decide, by omega, .inl upd_same, EdsO.keep (C := CO) (.cons p0 (.cons p2 .nil)) g2, ok02, (show 2 ≤ 4 by decide), fun _ H10 s10 => ⟨rfl, _, rfl, iteF ?_⟩, (fun s e => nomatch e02.symm.trans e)⟩
        have s610 := g2.trans s10
        clear g2 s10 s69 hD9
        have hD10 := s610 _ _ hD6
        -- without the third
        refine ⟨_, rfl, _, rfl, _, rfl, D, _, rfl, SqL.of hD10, fun D3 hD3 => ?_⟩
        rw [show cutV [u0, u1, u2] none (some 2) = [u0, u1] from cutV_to (p := 2) (show 2 ≤ 3 by decide)]
        have g3 := s610.trans (same_new (o := .lst [u0, u1]) hD3)
        refine ⟨txt7 [c0, c1, c2, c3, c4, c5, c6], 0, 3, D3, [u0, u1], rnP (f7 [c0, c1, c2, c3, c4, c5, c6]) (P7.take 2), rfl, xl, by decide, by omega, .inl upd_same, EdsO.keep (C := CO) (.cons p0 (.cons p1 .nil)) g3, ok01, (show 2 ≤ 4 by decide), fun _ H11 s11 => ⟨rfl, _, rfl, iteF ?_⟩, (fun s e => nomatch e01.symm.trans e)⟩
        -- an edit that changes nothing
        have wd : WdO (chS c1, chS c1) := ⟨Nat.le_refl _, (show 1 ≤ 3 by decide), (show 1 ≤ 3 by decide), fun c hc => by
          rw [List.mem_singleton.mp (show c ∈ [c1] from hc)]
          exact lett c1 (List.mem_cons_of_mem _ List.mem_cons_self), fun c hc => by
          rw [List.mem_singleton.mp (show c ∈ [c1] from hc)]
          exact lett c1 (List.mem_cons_of_mem _ List.mem_cons_self)⟩
        have okS : PsOk (rnP (f7 [c0, c1, c2, c3, c4, c5, c6]) S7) := fun q hq => by
          have hq : q ∈ [(chS c1, chS c1)] := hq
          rw [List.mem_singleton.mp hq]
          exact ⟨wd.a1, wd.a2, wd.a3⟩
        have xl2 : (txt7 [c0, c1, c2, c3, c4, c5, c6]).length ≤ sizeLine := few_len (by omega)
        refine ⟨_, rfl, .inr (.inr ⟨_, _, c1, rfl, rfl, xl2, atI_nat (j := 1) rfl, _, rfl, .inr (.inr ⟨_, _, c1, rfl, rfl, xl2, atI_nat (j := 1) rfl, rfl, ?_⟩)⟩)⟩
        intro ea2 dx hea0 hdx0 ne
        refine ⟨ea2, dx, _, _, _, _, rfl, upd_same, .atm (.str (chS c1)), ⟨(show 1 ≤ _ by decide), ok_lett wd.l1⟩, .atm (.str (chS c1)), ⟨(show 1 ≤ _ by decide), ok_lett wd.l2⟩, (fun o => nomatch wd.o1.symm.trans o), (fun _ o => nomatch wd.o2.symm.trans o), fun _ _ => ⟨rfl, ?_⟩⟩
        have hea : (upd (upd (upd H11 dx (.own ea2)) ea2 (.ins CO dx [])) ea2 (.ins CO dx [(Str.ofString "_old", .str ⟨#[c1]⟩), (Str.ofString "_new", .str ⟨#[c1]⟩)])) ea2 = some (.ins CO dx (fl (chS c1) (chS c1))) := upd_same
        generalize upd (upd (upd H11 dx (.own ea2)) ea2 (.ins CO dx [])) ea2 (.ins CO dx [(Str.ofString "_old", .str ⟨#[c1]⟩), (Str.ofString "_new", .str ⟨#[c1]⟩)]) = H12 at hea ⊢
        have edS : ∀ H', Same H12 H' → EdsO CO H' [.ref ea2] (rnP (f7 [c0, c1, c2, c3, c4, c5, c6]) S7) := fun H' s' => .cons ⟨ea2, dx, rfl, s' _ _ hea⟩ .nil
        refine ⟨_, rfl, _, rfl, few_len (Nat.le_of_ble_eq_true rfl), fun D4 hD4 => ?_⟩
        refine ⟨txt7 [c0, c1, c2, c3, c4, c5, c6], 0, 3, D4, [.ref ea2], rnP (f7 [c0, c1, c2, c3, c4, c5, c6]) S7, rfl, xl, by decide, by omega, .inl upd_same, edS _ (same_new hD4), okS, (show 1 ≤ 4 by decide), (fun e => nomatch e.symm.trans es), fun s' es' wt H13 s13 hwt => ?_⟩
        obtain rfl : ss = s' := Option.some.inj (es.symm.trans es')
        rw [ews] at hwt
        refine ⟨few_len (Nat.le_of_ble_eq_true rfl), fun q2 hq2 => ⟨wyD [0], wyD [0], .tup (SqT.of (same_new hq2 _ _ hwt)) (wy_dp _), .tup (SqT.of upd_same) (wy_dp [0]), wy_shaped _, wy_shaped _, _, rfl, ?_⟩⟩
        rw [wy_eq, decide_eq_true rfl]
        refine iteT ?_
        have s14 := ((same_new (o := .lst [V.ref ea2]) hD4).trans s13).trans (same_new (o := .tup [V.int 0]) hq2)
        generalize upd H13 q2 (.tup [V.int 0]) = H14 at s14 ⊢
        refine ⟨_, rfl, _, rfl, few_len (Nat.le_of_ble_eq_true rfl), fun D5 hD5 => ?_⟩
        refine ⟨txt7 [c0, c1, c2, c3, c4, c5, c6], _, .int (0 : Nat), _, .int (1 : Nat), D5, rfl, .atm (.int _), .atm (.int _), xl, no_k1 (by omega), no_k2 (by decide) (by omega), fun a' b' e1 e2 _ _ => ?_⟩
        obtain rfl : 0 = a' := nat_int e1
        obtain rfl : 1 = b' := nat_int e2
        refine ⟨[.ref ea2], rnP (f7 [c0, c1, c2, c3, c4, c5, c6]) S7, .inl upd_same, edS _ (s14.trans (same_new hD5)), okS, (show 1 ≤ 4 by decide), fun ls l3 H15 hls0 hls pls2 s15 => ?_⟩
        rw [est okS] at pls2
        refine ⟨few_len (Nat.le_of_ble_eq_true rfl), fun tq htq => ⟨few_len (Nat.le_of_ble_eq_true rfl), fun lq hlq => ?_⟩⟩
        have g5 := same_new (o := .tup [V.int 0, .int 1]) htq
        have g6 := same_new (o := .lst [V.ref tq]) hlq
        refine ⟨.list [pD (0, 1)], .list [pD (0, 1)], .lst (SqL.of ((g5.trans g6) _ _ hls)) (prs_dp (pls2.keep (g5.trans g6))), .lst (SqL.of upd_same) (.cons (.tup (SqT.of (g6 _ _ upd_same)) (.cons (.int _) (.cons (.int _) .nil))) .nil), rfl, rfl, ?_⟩
        exact k _
end
end Vk
set_option Elab.async false
set_option maxRecDepth 100000
set_option linter.all false
set_option maxHeartbeats 4000000
namespace Vk
open PySem PySem.Spec PyProof.Rows L2 LamX NdefX StX PySem.VkX
section
variable {P : Program} {w : World} {K : PySem.W.Frag} {mg : Str → Option Value} {base : Heap}
abbrev m_oldOnce : Stmt := mtd (top 24) 1
theorem b_oldOnce {f C : Addr} {fd : FuncData} (F : Fun K "old" "Once.old" m_oldOnce f fd) (e : EdF K C) : FnOk P w K mg base CX0 1 f fd ["self"] (getSp C "_old") := by
  obtain ⟨oc, od, kV, doc, pm, an, cdv, ct, osl, rfl, lk, hcd⟩ := F.ex
  exact fn_getter (N := ["self"]) lk hcd ⟨rfl, rfl, rfl, by decide +kernel, rfl, by decide +kernel, by decide +kernel⟩ rfl rfl e.cl e.n1
abbrev m_newOnce : Stmt := mtd (top 24) 2
theorem b_newOnce {f C : Addr} {fd : FuncData} (F : Fun K "new" "Once.new" m_newOnce f fd) (e : EdF K C) : FnOk P w K mg base CX0 1 f fd ["self"] (getSp C "_new") := by
  obtain ⟨oc, od, kV, doc, pm, an, cdv, ct, osl, rfl, lk, hcd⟩ := F.ex
  exact fn_getter (N := ["self"]) lk hcd ⟨rfl, rfl, rfl, by decide +kernel, rfl, by decide +kernel, by decide +kernel⟩ rfl rfl e.cl e.n2
abbrev m_oldFirst : Stmt := mtd (top 25) 1
theorem b_oldFirst {f C : Addr} {fd : FuncData} (F : Fun K "old" "First.old" m_oldFirst f fd) (e : EdF K C) : FnOk P w K mg base CX0 1 f fd ["self"] (getSp C "_old") := by
  obtain ⟨oc, od, kV, doc, pm, an, cdv, ct, osl, rfl, lk, hcd⟩ := F.ex
  exact fn_getter (N := ["self"]) lk hcd ⟨rfl, rfl, rfl, by decide +kernel, rfl, by decide +kernel, by decide +kernel⟩ rfl rfl e.cl e.n1
abbrev m_newFirst : Stmt := mtd (top 25) 2
theorem b_newFirst {f C : Addr} {fd : FuncData} (F : Fun K "new" "First.new" m_newFirst f fd) (e : EdF K C) : FnOk P w K mg base CX0 1 f fd ["self"] (getSp C "_new") := by
  obtain ⟨oc, od, kV, doc, pm, an, cdv, ct, osl, rfl, lk, hcd⟩ := F.ex
  exact fn_getter (N := ["self"]) lk hcd ⟨rfl, rfl, rfl, by decide +kernel, rfl, by decide +kernel, by decide +kernel⟩ rfl rfl e.cl e.n2
abbrev m_oldPerhaps : Stmt := mtd (top 26) 1
theorem b_oldPerhaps {f C : Addr} {fd : FuncData} (F : Fun K "old" "Perhaps.old" m_oldPerhaps f fd) (e : EdF K C) : FnOk P w K mg base CX0 1 f fd ["self"] (getSp C "_old") := by
  obtain ⟨oc, od, kV, doc, pm, an, cdv, ct, osl, rfl, lk, hcd⟩ := F.ex
  exact fn_getter (N := ["self"]) lk hcd ⟨rfl, rfl, rfl, by decide +kernel, rfl, by decide +kernel, by decide +kernel⟩ rfl rfl e.cl e.n1
abbrev m_newPerhaps : Stmt := mtd (top 26) 2
theorem b_newPerhaps {f C : Addr} {fd : FuncData} (F : Fun K "new" "Perhaps.new" m_newPerhaps f fd) (e : EdF K C) : FnOk P w K mg base CX0 1 f fd ["self"] (getSp C "_new") := by
  obtain ⟨oc, od, kV, doc, pm, an, cdv, ct, osl, rfl, lk, hcd⟩ := F.ex
  exact fn_getter (N := ["self"]) lk hcd ⟨rfl, rfl, rfl, by decide +kernel, rfl, by decide +kernel, by decide +kernel⟩ rfl rfl e.cl e.n2
abbrev m_oldEvery : Stmt := mtd (top 27) 1
theorem b_oldEvery {f C : Addr} {fd : FuncData} (F : Fun K "old" "Every.old" m_oldEvery f fd) (e : EdF K C) : FnOk P w K mg base CX0 1 f fd ["self"] (getSp C "_old") := by
  obtain ⟨oc, od, kV, doc, pm, an, cdv, ct, osl, rfl, lk, hcd⟩ := F.ex
  exact fn_getter (N := ["self"]) lk hcd ⟨rfl, rfl, rfl, by decide +kernel, rfl, by decide +kernel, by decide +kernel⟩ rfl rfl e.cl e.n1
abbrev m_newEvery : Stmt := mtd (top 27) 2
theorem b_newEvery {f C : Addr} {fd : FuncData} (F : Fun K "new" "Every.new" m_newEvery f fd) (e : EdF K C) : FnOk P w K mg base CX0 1 f fd ["self"] (getSp C "_new") := by
  obtain ⟨oc, od, kV, doc, pm, an, cdv, ct, osl, rfl, lk, hcd⟩ := F.ex
  exact fn_getter (N := ["self"]) lk hcd ⟨rfl, rfl, rfl, by decide +kernel, rfl, by decide +kernel, by decide +kernel⟩ rfl rfl e.cl e.n2
end
/-- what of the text a class of edits must have -/
structure ClsT (K : PySem.W.Frag) (x : Str) (C fI : Addr) : Prop where
  ns : PySem.W.nsIn K mainGlobals x = some (some (.ref C))
  mks : PySem.W.makesIn K C = true
  it : PySem.W.findIn K (.ref C) "__init__" = some (some (.ref fI))
  fn : PySem.W.isFn K (.ref fI) = true
  kp : PySem.W.keepIn K (.ref C) = true
  pg : PySem.W.plainGet K C Str.empty = true
  hd : PySem.W.hasDictIn K C = true
  po : PySem.W.plainOver K C = true
  sa : PySem.W.findIn K (.ref C) "__setattr__" = some (some (.builtin "object.__setattr__"))
  n1 : PySem.W.findIn K (.ref C) "_old" = some none
  n2 : PySem.W.findIn K (.ref C) "_new" = some none
  ca : PySem.W.findIn K (.ref C) "__class__" = some (some (.builtin "object.__class__"))
  cn : PySem.W.specialIn K (.builtin "object.__class__") "__get__" = some (some (.builtin "getset_descriptor.__get__"))
  ct : PySem.W.takesIn K (.builtin "object.__class__") = some true
  cm : PySem.W.mroIn K C (.type "object") = some true
theorem ClsT.cl {K : PySem.W.Frag} {x : Str} {C fI : Addr} (t : ClsT K x C fI) : Cls K C := ⟨t.pg, t.hd, t.po, t.sa⟩
theorem ClsT.ed {K : PySem.W.Frag} {x : Str} {C fI : Addr} (t : ClsT K x C fI) : EdF K C := ⟨t.cl, t.n1, t.n2, t.ca, t.cn, t.ct, t.cm⟩
theorem ClsT.M {K : PySem.W.Frag} {x : Str} {C fI : Addr} (t : ClsT K x C fI) : L2.Mk K C fI := ⟨t.mks, t.it, t.fn, t.kp⟩
theorem kit_of {K : PySem.W.Frag} {C D : Addr} {b : Bool} (ic : PySem.W.isClsIn K D = true) (ty : PySem.W.typeIn K (.ref D) = some (.type "type")) (d : PySem.W.subIn K (.ref D) (.ref D) = some true) (s : PySem.W.subIn K (.ref C) (.ref D) = some b) : PySem.W.kitOne K (.ref C) (.ref D) = some b := by
  unfold PySem.W.kitOne
  by_cases e : C = D
  · subst e
    rw [if_pos (by simp)]
    exact d.symm.trans s
  · rw [if_neg (by simpa using e)]
    show (if ((PySem.W.clsIn K D).isSome && PySem.W.typeIn K (.ref D) == some (.type "type")) = true then PySem.W.subIn K (.ref C) (.ref D) else none) = some b
    rw [if_pos (by rw [show (PySem.W.clsIn K D).isSome = true from ic, ty]; simp)]
    exact s
theorem four {p : Nat → Prop} (a : p 0) (b : p 1) (c : p 2) (d : p 3) : ∀ n, n < 4 → p n
  | 0, _ => a
  | 1, _ => b
  | 2, _ => c
  | 3, _ => d
  | n + 4, h => absurd h (by omega)
theorem four2 {p : Nat → Nat → Prop} (h : ∀ i, i < 4 → p i 0 ∧ p i 1 ∧ p i 2 ∧ p i 3) : ∀ i j, i < 4 → j < 4 → p i j := fun i j hi hj => four (p := p i) (h i hi).1 (h i hi).2.1 (h i hi).2.2.1 (h i hi).2.2.2 j hj
theorem prop_mk {K : PySem.W.Frag} {C p g : Addr} {f : Str} {rest : List Value} (a : PySem.W.findIn K (.ref C) f = some (some (.ref p))) (b : PySem.W.specialIn K (.ref p) "__get__" = some (some (.builtin "property.__get__"))) (c : PySem.W.takesIn K (.ref p) = some true) (d : PySem.W.recIn K p "property" = some (.ref g :: rest)) : L2.PropOf K C f p g := ⟨a, b, c, ⟨rest, d⟩⟩
structure MostT (K : PySem.W.Frag) (x : Str) (C : Addr) (t : Tok) : Prop where
  ns : PySem.W.nsIn K mainGlobals x = some (some (.ref C))
  rd : PySem.W.readsIn K C (.type "type") = true
  sp : PySem.W.specialIn K (.ref C) "__getattribute__" = some (some (.builtin "type.__getattribute__"))
  fc : PySem.W.findCls K (.ref C) (.type "type") "MOST" = some (.val (.int 40 t))
structure EdC (K : PySem.W.Frag) (x : Str) (q0 q1 q2 : Str) (st : Stmt) (C fI p1 g1 p2 g2 : Addr) (dI d1 d2 : FuncData) : Prop where
  T : ClsT K x C fI
  P1 : L2.PropOf K C "old" p1 g1
  P2 : L2.PropOf K C "new" p2 g2
  FI : Fun K "__init__" q0 (mtd st 0) fI dI
  F1 : Fun K "old" q1 (mtd st 1) g1 d1
  F2 : Fun K "new" q2 (mtd st 2) g2 d2
theorem kit_two {K : PySem.W.Frag} {t c1 c2 : Value} {b1 b2 : Bool} (h1 : PySem.W.kitOne K t c1 = some b1) (h2 : PySem.W.kitOne K t c2 = some b2) : PySem.W.kitAny K t [c1, c2] = some (b1 || b2) := by
  cases b1 with
  | true => exact kitAny_cons h1 (fun z => nomatch z) (fun _ => rfl)
  | false =>
    refine kitAny_cons h1 (fun _ => ?_) (fun z => nomatch z)
    cases b2 with
    | true => exact kitAny_cons h2 (fun z => nomatch z) (fun _ => rfl)
    | false => exact kitAny_cons h2 (fun _ => rfl) (fun z => nomatch z)
structure Mat (K : PySem.W.Frag) (C0 C1 C2 C3 CE CA : Addr) : Prop where
  ns_Once : PySem.W.nsIn K mainGlobals "Once" = some (some (.ref C0))
  ic_Once : PySem.W.isClsIn K C0 = true
  ty_Once : PySem.W.typeIn K (.ref C0) = some (.type "type")
  ns_First : PySem.W.nsIn K mainGlobals "First" = some (some (.ref C1))
  ic_First : PySem.W.isClsIn K C1 = true
  ty_First : PySem.W.typeIn K (.ref C1) = some (.type "type")
  ns_Perhaps : PySem.W.nsIn K mainGlobals "Perhaps" = some (some (.ref C2))
  ic_Perhaps : PySem.W.isClsIn K C2 = true
  ty_Perhaps : PySem.W.typeIn K (.ref C2) = some (.type "type")
  ns_Every : PySem.W.nsIn K mainGlobals "Every" = some (some (.ref C3))
  ic_Every : PySem.W.isClsIn K C3 = true
  ty_Every : PySem.W.typeIn K (.ref C3) = some (.type "type")
  ns_Edit : PySem.W.nsIn K mainGlobals "Edit" = some (some (.ref CE))
  ic_Edit : PySem.W.isClsIn K CE = true
  ty_Edit : PySem.W.typeIn K (.ref CE) = some (.type "type")
  ns_AtOnce : PySem.W.nsIn K mainGlobals "AtOnce" = some (some (.ref CA))
  ic_AtOnce : PySem.W.isClsIn K CA = true
  ty_AtOnce : PySem.W.typeIn K (.ref CA) = some (.type "type")
  s_Once_Once : PySem.W.subIn K (.ref C0) (.ref C0) = some true
  s_Once_First : PySem.W.subIn K (.ref C0) (.ref C1) = some false
  s_Once_Perhaps : PySem.W.subIn K (.ref C0) (.ref C2) = some false
  s_Once_Every : PySem.W.subIn K (.ref C0) (.ref C3) = some false
  s_Once_AtOnce : PySem.W.subIn K (.ref C0) (.ref CA) = some false
  s_First_Once : PySem.W.subIn K (.ref C1) (.ref C0) = some false
  s_First_First : PySem.W.subIn K (.ref C1) (.ref C1) = some true
  s_First_Perhaps : PySem.W.subIn K (.ref C1) (.ref C2) = some false
  s_First_Every : PySem.W.subIn K (.ref C1) (.ref C3) = some false
  s_First_AtOnce : PySem.W.subIn K (.ref C1) (.ref CA) = some false
  s_Perhaps_Once : PySem.W.subIn K (.ref C2) (.ref C0) = some false
  s_Perhaps_First : PySem.W.subIn K (.ref C2) (.ref C1) = some false
  s_Perhaps_Perhaps : PySem.W.subIn K (.ref C2) (.ref C2) = some true
  s_Perhaps_Every : PySem.W.subIn K (.ref C2) (.ref C3) = some false
  s_Perhaps_AtOnce : PySem.W.subIn K (.ref C2) (.ref CA) = some false
  s_Every_Once : PySem.W.subIn K (.ref C3) (.ref C0) = some false
  s_Every_First : PySem.W.subIn K (.ref C3) (.ref C1) = some false
  s_Every_Perhaps : PySem.W.subIn K (.ref C3) (.ref C2) = some false
  s_Every_Every : PySem.W.subIn K (.ref C3) (.ref C3) = some true
  s_Every_AtOnce : PySem.W.subIn K (.ref C3) (.ref CA) = some false
  s_Once_Edit : PySem.W.subIn K (.ref C0) (.ref CE) = some true
  s_First_Edit : PySem.W.subIn K (.ref C1) (.ref CE) = some true
  s_Perhaps_Edit : PySem.W.subIn K (.ref C2) (.ref CE) = some true
  s_Every_Edit : PySem.W.subIn K (.ref C3) (.ref CE) = some true
  s_Edit_Edit : PySem.W.subIn K (.ref CE) (.ref CE) = some true
  s_AtOnce_AtOnce : PySem.W.subIn K (.ref CA) (.ref CA) = some true
theorem all {l : PySem.W.OpenLaw} {w : World} {K : PySem.W.Frag} {h : Heap} {mg : Str → Option Value} {fa : Addr} (X : K.In h) (G : h.Ns mainGlobals mg) (hfa : mg "law" = some (.ref fa))
    (e_InvalidOld : ∃ (C f : Addr) (fd : FuncData), ExcTxt K "InvalidOld" "InvalidOld.__init__" m_InvalidOld C f fd ["value"] tlV)
    (e_InvalidNew : ∃ (C f : Addr) (fd : FuncData), ExcTxt K "InvalidNew" "InvalidNew.__init__" m_InvalidNew C f fd ["value"] tlV)
    (e_InvalidSpot : ∃ (C f : Addr) (fd : FuncData), ExcTxt K "InvalidSpot" "InvalidSpot.__init__" m_InvalidSpot C f fd ["value"] tlV)
    (e_NoPlace : ∃ (C f : Addr) (fd : FuncData), ExcTxt K "NoPlace" "NoPlace.__init__" m_NoPlace C f fd ["index", "number"] tlL)
    (e_Once : ∃ (C fI p1 g1 p2 g2 : Addr) (dI d1 d2 : FuncData), EdC K "Once" "Once.__init__" "Once.old" "Once.new" (top 24) C fI p1 g1 p2 g2 dI d1 d2)
    (e_First : ∃ (C fI p1 g1 p2 g2 : Addr) (dI d1 d2 : FuncData), EdC K "First" "First.__init__" "First.old" "First.new" (top 25) C fI p1 g1 p2 g2 dI d1 d2)
    (e_Perhaps : ∃ (C fI p1 g1 p2 g2 : Addr) (dI d1 d2 : FuncData), EdC K "Perhaps" "Perhaps.__init__" "Perhaps.old" "Perhaps.new" (top 26) C fI p1 g1 p2 g2 dI d1 d2)
    (e_Every : ∃ (C fI p1 g1 p2 g2 : Addr) (dI d1 d2 : FuncData), EdC K "Every" "Every.__init__" "Every.old" "Every.new" (top 27) C fI p1 g1 p2 g2 dI d1 d2)
    (e_M : ∃ C0 C1 C2 C3 CE CA : Addr, Mat K C0 C1 C2 C3 CE CA)
    (d_lsigns : ∃ (f : Addr) (fd : FuncData), At K "_law_signs" s_lsigns f fd)
    (d_ldraw : ∃ (f : Addr) (fd : FuncData), At K "_law_draw" s_ldraw f fd)
    (d_lpen : ∃ (f : Addr) (fd : FuncData), At K "_law_pen" s_lpen f fd)
    (d_lpick : ∃ (f : Addr) (fd : FuncData), At K "_law_pick" s_lpick f fd)
    (d_lfew : ∃ (f : Addr) (fd : FuncData), At K "_law_few" s_lfew f fd)
    (d_lword : ∃ (f : Addr) (fd : FuncData), At K "_law_word" s_lword f fd)
    (d_lmade : ∃ (f : Addr) (fd : FuncData), At K "_law_made" s_lmade f fd)
    (d_lplaces : ∃ (f : Addr) (fd : FuncData), At K "_law_places" s_lplaces f fd)
    (d_lntext : ∃ (f : Addr) (fd : FuncData), At K "_law_ntext" s_lntext f fd)
    (d_lnaround : ∃ (f : Addr) (fd : FuncData), At K "_law_naround" s_lnaround f fd)
    (d_lnspot : ∃ (f : Addr) (fd : FuncData), At K "_law_nspot" s_lnspot f fd)
    (d_lnonces : ∃ (f : Addr) (fd : FuncData), At K "_law_nonces" s_lnonces f fd)
    (d_lnonce : ∃ (f : Addr) (fd : FuncData), At K "_law_nonce" s_lnonce f fd)
    (d_lshuffled : ∃ (f : Addr) (fd : FuncData), At K "_law_shuffled" s_lshuffled f fd)
    (d_lnthree : ∃ (f : Addr) (fd : FuncData), At K "_law_nthree" s_lnthree f fd)
    (d_lnways : ∃ (f : Addr) (fd : FuncData), At K "_law_nways" s_lnways f fd)
    (d_lnbreak : ∃ (f : Addr) (fd : FuncData), At K "_law_nbreak" s_lnbreak f fd)
    (d_is_text : ∃ (f : Addr) (fd : FuncData), At K "is_text" s_is_text f fd)
    (d_is_new : ∃ (f : Addr) (fd : FuncData), At K "is_new" s_is_new f fd)
    (d_is_old : ∃ (f : Addr) (fd : FuncData), At K "is_old" s_is_old f fd)
    (d_check_words : ∃ (f : Addr) (fd : FuncData), At K "check_words" s_check_words f fd)
    (d_places : ∃ (f : Addr) (fd : FuncData), At K "places" s_places f fd)
    (d_fits : ∃ (f : Addr) (fd : FuncData), At K "fits" s_fits f fd)
    (d_apart : ∃ (f : Addr) (fd : FuncData), At K "apart" s_apart f fd)
    (d_puts_of_one : ∃ (f : Addr) (fd : FuncData), At K "puts_of_one" s_puts_of_one f fd)
    (d_puts_of : ∃ (f : Addr) (fd : FuncData), At K "puts_of" s_puts_of f fd)
    (d_text_behind : ∃ (f : Addr) (fd : FuncData), At K "text_behind" s_text_behind f fd)
    (d_origins_behind : ∃ (f : Addr) (fd : FuncData), At K "origins_behind" s_origins_behind f fd)
    (d_is_integer : ∃ (f : Addr) (fd : FuncData), At K "is_integer" s_is_integer f fd)
    (d_is_integer_in : ∃ (f : Addr) (fd : FuncData), At K "is_integer_in" s_is_integer_in f fd)
    (d_check_spot : ∃ (f : Addr) (fd : FuncData), At K "check_spot" s_check_spot f fd)
    (d_stands_twice : ∃ (f : Addr) (fd : FuncData), At K "stands_twice" s_stands_twice f fd)
    (d_stands_once : ∃ (f : Addr) (fd : FuncData), At K "stands_once" s_stands_once f fd)
    (d_longer_results : ∃ (f : Addr) (fd : FuncData), At K "longer_results" s_longer_results f fd)
    (d_all_results : ∃ (f : Addr) (fd : FuncData), At K "all_results" s_all_results f fd)
    (d_kept_ends : ∃ (f : Addr) (fd : FuncData), At K "kept_ends" s_kept_ends f fd)
    (d_stands_twice_in_one : ∃ (f : Addr) (fd : FuncData), At K "stands_twice_in_one" s_stands_twice_in_one f fd)
    (d_least_windows : ∃ (f : Addr) (fd : FuncData), At K "least_windows" s_least_windows f fd)
    (d_breaker : ∃ (f : Addr) (fd : FuncData), At K "breaker" s_breaker f fd)
    (d_steady : ∃ (f : Addr) (fd : FuncData), At K "steady" s_steady f fd)
    (d_law : ∃ (f : Addr) (fd : FuncData), At K "law" s_law f fd)
    (z_str : PySem.W.nsIn K mainGlobals "str" = some none)
    (z_tuple : PySem.W.nsIn K mainGlobals "tuple" = some none)
    (z_enumerate : PySem.W.nsIn K mainGlobals "enumerate" = some none)
    (z_bool : PySem.W.nsIn K mainGlobals "bool" = some none)
    (z_sum : PySem.W.nsIn K mainGlobals "sum" = some none)
    (z_max : PySem.W.nsIn K mainGlobals "max" = some none)
    (z_ValueError : PySem.W.nsIn K mainGlobals "ValueError" = some none)
    (z_reversed : PySem.W.nsIn K mainGlobals "reversed" = some none)
    (z_len : PySem.W.nsIn K mainGlobals "len" = some none)
    (z_list : PySem.W.nsIn K mainGlobals "list" = some none)
    (z_int : PySem.W.nsIn K mainGlobals "int" = some none)
    (z_abs : PySem.W.nsIn K mainGlobals "abs" = some none)
    (z_range : PySem.W.nsIn K mainGlobals "range" = some none)
    (z_min : PySem.W.nsIn K mainGlobals "min" = some none)
    (z_repr : PySem.W.nsIn K mainGlobals "repr" = some none)
    (z_isinstance : PySem.W.nsIn K mainGlobals "isinstance" = some none)
    (g_LETTERS : ∃ u, mg "LETTERS" = some u ∧ RelV (.str letS) u)
    (g_MAX_WORD : ∃ u, mg "MAX_WORD" = some u ∧ RelV (.int 40) u)
    : ∃ (fd : FuncData), (∀ (s : Shared) (v : Value), BindsTo s fd ⟨[v], []⟩ [("_law_script", v)]) ∧ ∀ base : Heap, K.In base → base.Ns mainGlobals mg → FnG l.prog w K mg base CX0 8 fa fd ["_law_script"] (spLaw K) := by
  obtain ⟨C_InvalidOld, i_InvalidOld, fd_InvalidOld, E_InvalidOld⟩ := e_InvalidOld
  have o_InvalidOld : One K C_InvalidOld "InvalidOld" tlV := ⟨E_InvalidOld.cn, E_InvalidOld.ns, rfl⟩
  obtain ⟨C_InvalidNew, i_InvalidNew, fd_InvalidNew, E_InvalidNew⟩ := e_InvalidNew
  have o_InvalidNew : One K C_InvalidNew "InvalidNew" tlV := ⟨E_InvalidNew.cn, E_InvalidNew.ns, rfl⟩
  obtain ⟨C_InvalidSpot, i_InvalidSpot, fd_InvalidSpot, E_InvalidSpot⟩ := e_InvalidSpot
  have o_InvalidSpot : One K C_InvalidSpot "InvalidSpot" tlV := ⟨E_InvalidSpot.cn, E_InvalidSpot.ns, rfl⟩
  obtain ⟨C_NoPlace, i_NoPlace, fd_NoPlace, E_NoPlace⟩ := e_NoPlace
  have o_NoPlace : One K C_NoPlace "NoPlace" tlL := ⟨E_NoPlace.cn, E_NoPlace.ns, rfl⟩
  obtain ⟨C0, C1, C2, C3, CE, CA, M⟩ := e_M
  obtain ⟨C_Once, fI_Once, p1_Once, g1_Once, p2_Once, g2_Once, dI_Once, d1_Once, d2_Once, E_Once⟩ := e_Once
  cases E_Once.T.ns.symm.trans M.ns_Once
  obtain ⟨C_First, fI_First, p1_First, g1_First, p2_First, g2_First, dI_First, d1_First, d2_First, E_First⟩ := e_First
  cases E_First.T.ns.symm.trans M.ns_First
  obtain ⟨C_Perhaps, fI_Perhaps, p1_Perhaps, g1_Perhaps, p2_Perhaps, g2_Perhaps, dI_Perhaps, d1_Perhaps, d2_Perhaps, E_Perhaps⟩ := e_Perhaps
  cases E_Perhaps.T.ns.symm.trans M.ns_Perhaps
  obtain ⟨C_Every, fI_Every, p1_Every, g1_Every, p2_Every, g2_Every, dI_Every, d1_Every, d2_Every, E_Every⟩ := e_Every
  cases E_Every.T.ns.symm.trans M.ns_Every
  have n_Once := PySem.W.mg_of X G M.ns_Once
  have n_First := PySem.W.mg_of X G M.ns_First
  have n_Perhaps := PySem.W.mg_of X G M.ns_Perhaps
  have n_Every := PySem.W.mg_of X G M.ns_Every
  have n_Edit := PySem.W.mg_of X G M.ns_Edit
  have n_AtOnce := PySem.W.mg_of X G M.ns_AtOnce
  obtain ⟨f_lsigns, fd_lsigns, A_lsigns⟩ := d_lsigns
  have m_lsigns := PySem.W.mg_of X G A_lsigns.ns
  obtain ⟨f_ldraw, fd_ldraw, A_ldraw⟩ := d_ldraw
  have m_ldraw := PySem.W.mg_of X G A_ldraw.ns
  obtain ⟨f_lpen, fd_lpen, A_lpen⟩ := d_lpen
  have m_lpen := PySem.W.mg_of X G A_lpen.ns
  obtain ⟨f_lpick, fd_lpick, A_lpick⟩ := d_lpick
  have m_lpick := PySem.W.mg_of X G A_lpick.ns
  obtain ⟨f_lfew, fd_lfew, A_lfew⟩ := d_lfew
  have m_lfew := PySem.W.mg_of X G A_lfew.ns
  obtain ⟨f_lword, fd_lword, A_lword⟩ := d_lword
  have m_lword := PySem.W.mg_of X G A_lword.ns
  obtain ⟨f_lmade, fd_lmade, A_lmade⟩ := d_lmade
  have m_lmade := PySem.W.mg_of X G A_lmade.ns
  obtain ⟨f_lplaces, fd_lplaces, A_lplaces⟩ := d_lplaces
  have m_lplaces := PySem.W.mg_of X G A_lplaces.ns
  obtain ⟨f_lntext, fd_lntext, A_lntext⟩ := d_lntext
  have m_lntext := PySem.W.mg_of X G A_lntext.ns
  obtain ⟨f_lnaround, fd_lnaround, A_lnaround⟩ := d_lnaround
  have m_lnaround := PySem.W.mg_of X G A_lnaround.ns
  obtain ⟨f_lnspot, fd_lnspot, A_lnspot⟩ := d_lnspot
  have m_lnspot := PySem.W.mg_of X G A_lnspot.ns
  obtain ⟨f_lnonces, fd_lnonces, A_lnonces⟩ := d_lnonces
  have m_lnonces := PySem.W.mg_of X G A_lnonces.ns
  obtain ⟨f_lnonce, fd_lnonce, A_lnonce⟩ := d_lnonce
  have m_lnonce := PySem.W.mg_of X G A_lnonce.ns
  obtain ⟨f_lshuffled, fd_lshuffled, A_lshuffled⟩ := d_lshuffled
  have m_lshuffled := PySem.W.mg_of X G A_lshuffled.ns
  obtain ⟨f_lnthree, fd_lnthree, A_lnthree⟩ := d_lnthree
  have m_lnthree := PySem.W.mg_of X G A_lnthree.ns
  obtain ⟨f_lnways, fd_lnways, A_lnways⟩ := d_lnways
  have m_lnways := PySem.W.mg_of X G A_lnways.ns
  obtain ⟨f_lnbreak, fd_lnbreak, A_lnbreak⟩ := d_lnbreak
  have m_lnbreak := PySem.W.mg_of X G A_lnbreak.ns
  obtain ⟨f_is_text, fd_is_text, A_is_text⟩ := d_is_text
  have m_is_text := PySem.W.mg_of X G A_is_text.ns
  obtain ⟨f_is_new, fd_is_new, A_is_new⟩ := d_is_new
  have m_is_new := PySem.W.mg_of X G A_is_new.ns
  obtain ⟨f_is_old, fd_is_old, A_is_old⟩ := d_is_old
  have m_is_old := PySem.W.mg_of X G A_is_old.ns
  obtain ⟨f_check_words, fd_check_words, A_check_words⟩ := d_check_words
  have m_check_words := PySem.W.mg_of X G A_check_words.ns
  obtain ⟨f_places, fd_places, A_places⟩ := d_places
  have m_places := PySem.W.mg_of X G A_places.ns
  obtain ⟨f_fits, fd_fits, A_fits⟩ := d_fits
  have m_fits := PySem.W.mg_of X G A_fits.ns
  obtain ⟨f_apart, fd_apart, A_apart⟩ := d_apart
  have m_apart := PySem.W.mg_of X G A_apart.ns
  obtain ⟨f_puts_of_one, fd_puts_of_one, A_puts_of_one⟩ := d_puts_of_one
  have m_puts_of_one := PySem.W.mg_of X G A_puts_of_one.ns
  obtain ⟨f_puts_of, fd_puts_of, A_puts_of⟩ := d_puts_of
  have m_puts_of := PySem.W.mg_of X G A_puts_of.ns
  obtain ⟨f_text_behind, fd_text_behind, A_text_behind⟩ := d_text_behind
  have m_text_behind := PySem.W.mg_of X G A_text_behind.ns
  obtain ⟨f_origins_behind, fd_origins_behind, A_origins_behind⟩ := d_origins_behind
  have m_origins_behind := PySem.W.mg_of X G A_origins_behind.ns
  obtain ⟨f_is_integer, fd_is_integer, A_is_integer⟩ := d_is_integer
  have m_is_integer := PySem.W.mg_of X G A_is_integer.ns
  obtain ⟨f_is_integer_in, fd_is_integer_in, A_is_integer_in⟩ := d_is_integer_in
  have m_is_integer_in := PySem.W.mg_of X G A_is_integer_in.ns
  obtain ⟨f_check_spot, fd_check_spot, A_check_spot⟩ := d_check_spot
  have m_check_spot := PySem.W.mg_of X G A_check_spot.ns
  obtain ⟨f_stands_twice, fd_stands_twice, A_stands_twice⟩ := d_stands_twice
  have m_stands_twice := PySem.W.mg_of X G A_stands_twice.ns
  obtain ⟨f_stands_once, fd_stands_once, A_stands_once⟩ := d_stands_once
  have m_stands_once := PySem.W.mg_of X G A_stands_once.ns
  obtain ⟨f_longer_results, fd_longer_results, A_longer_results⟩ := d_longer_results
  have m_longer_results := PySem.W.mg_of X G A_longer_results.ns
  obtain ⟨f_all_results, fd_all_results, A_all_results⟩ := d_all_results
  have m_all_results := PySem.W.mg_of X G A_all_results.ns
  obtain ⟨f_kept_ends, fd_kept_ends, A_kept_ends⟩ := d_kept_ends
  have m_kept_ends := PySem.W.mg_of X G A_kept_ends.ns
  obtain ⟨f_stands_twice_in_one, fd_stands_twice_in_one, A_stands_twice_in_one⟩ := d_stands_twice_in_one
  have m_stands_twice_in_one := PySem.W.mg_of X G A_stands_twice_in_one.ns
  obtain ⟨f_least_windows, fd_least_windows, A_least_windows⟩ := d_least_windows
  have m_least_windows := PySem.W.mg_of X G A_least_windows.ns
  obtain ⟨f_breaker, fd_breaker, A_breaker⟩ := d_breaker
  have m_breaker := PySem.W.mg_of X G A_breaker.ns
  obtain ⟨f_steady, fd_steady, A_steady⟩ := d_steady
  have m_steady := PySem.W.mg_of X G A_steady.ns
  obtain ⟨f_law, fd_law, A_law⟩ := d_law
  have m_law := PySem.W.mg_of X G A_law.ns
  have e := hfa.symm.trans m_law
  cases e
  have T : Txt mg := ⟨PySem.W.mg_none_of X G z_str, PySem.W.mg_none_of X G z_tuple, PySem.W.mg_none_of X G z_enumerate, PySem.W.mg_none_of X G z_bool, PySem.W.mg_none_of X G z_sum, PySem.W.mg_none_of X G z_max, PySem.W.mg_none_of X G z_ValueError, PySem.W.mg_none_of X G z_reversed, PySem.W.mg_none_of X G z_len, PySem.W.mg_none_of X G z_list, PySem.W.mg_none_of X G z_int, PySem.W.mg_none_of X G z_abs, PySem.W.mg_none_of X G z_range, PySem.W.mg_none_of X G z_min, PySem.W.mg_none_of X G z_repr, PySem.W.mg_none_of X G z_isinstance⟩
  have bd_lsigns : Binds K fd_lsigns [] [] := A_lsigns.fn.binds (ps := []) fun _ _ _ _ _ _ us hl => match us, hl with | [], _ => rfl
  have bd_ldraw : Binds K fd_ldraw ["_law_pen_here", "_law_many"] [] := A_ldraw.fn.binds (ps := ["_law_pen_here", "_law_many"]) fun _ _ _ _ _ _ us hl => match us, hl with | [_, _], _ => rfl
  have bd_lpen : Binds K fd_lpen ["_law_script"] [] := A_lpen.fn.binds (ps := ["_law_script"]) fun _ _ _ _ _ _ us hl => match us, hl with | [_], _ => rfl
  have bd_lpick : Binds K fd_lpick ["_law_pen_here", "_law_options"] [] := A_lpick.fn.binds (ps := ["_law_pen_here", "_law_options"]) fun _ _ _ _ _ _ us hl => match us, hl with | [_, _], _ => rfl
  have bd_lfew : Binds K fd_lfew ["_law_pen_here"] [] := A_lfew.fn.binds (ps := ["_law_pen_here"]) fun _ _ _ _ _ _ us hl => match us, hl with | [_], _ => rfl
  have bd_lword : Binds K fd_lword ["_law_pen_here", "_law_signs_here", "_law_least", "_law_most_letters"] [] := A_lword.fn.binds (ps := ["_law_pen_here", "_law_signs_here", "_law_least", "_law_most_letters"]) fun _ _ _ _ _ _ us hl => match us, hl with | [_, _, _, _], _ => rfl
  have bd_lmade : Binds K fd_lmade ["_law_plain"] [] := A_lmade.fn.binds (ps := ["_law_plain"]) fun _ _ _ _ _ _ us hl => match us, hl with | [_], _ => rfl
  have bd_lplaces : Binds K fd_lplaces ["_law_text_here", "_law_was"] [] := A_lplaces.fn.binds (ps := ["_law_text_here", "_law_was"]) fun _ _ _ _ _ _ us hl => match us, hl with | [_, _], _ => rfl
  have bd_lntext : Binds K fd_lntext ["_law_pen_here", "_law_signs_here", "_law_most_letters"] [] := A_lntext.fn.binds (ps := ["_law_pen_here", "_law_signs_here", "_law_most_letters"]) fun _ _ _ _ _ _ us hl => match us, hl with | [_, _, _], _ => rfl
  have bd_lnaround : Binds K fd_lnaround ["_law_text_here", "_law_a", "_law_b"] [] := A_lnaround.fn.binds (ps := ["_law_text_here", "_law_a", "_law_b"]) fun _ _ _ _ _ _ us hl => match us, hl with | [_, _, _], _ => rfl
  have bd_lnspot : Binds K fd_lnspot ["_law_pen_here", "_law_text_here"] [] := A_lnspot.fn.binds (ps := ["_law_pen_here", "_law_text_here"]) fun _ _ _ _ _ _ us hl => match us, hl with | [_, _], _ => rfl
  have bd_lnonces : Binds K fd_lnonces ["_law_pen_here", "_law_text_here", "_law_signs_here", "_law_many"] [] := A_lnonces.fn.binds (ps := ["_law_pen_here", "_law_text_here", "_law_signs_here", "_law_many"]) fun _ _ _ _ _ _ us hl => match us, hl with | [_, _, _, _], _ => rfl
  have bd_lnonce : Binds K fd_lnonce ["_law_text_here", "_law_a", "_law_b"] [] := A_lnonce.fn.binds (ps := ["_law_text_here", "_law_a", "_law_b"]) fun _ _ _ _ _ _ us hl => match us, hl with | [_, _, _], _ => rfl
  have bd_lshuffled : Binds K fd_lshuffled ["_law_pen_here", "_law_items"] [] := A_lshuffled.fn.binds (ps := ["_law_pen_here", "_law_items"]) fun _ _ _ _ _ _ us hl => match us, hl with | [_, _], _ => rfl
  have bd_lnthree : Binds K fd_lnthree ["_law_pen_here"] [] := A_lnthree.fn.binds (ps := ["_law_pen_here"]) fun _ _ _ _ _ _ us hl => match us, hl with | [_], _ => rfl
  have bd_lnways : Binds K fd_lnways ["_law_text_here", "_law_plains"] [] := A_lnways.fn.binds (ps := ["_law_text_here", "_law_plains"]) fun _ _ _ _ _ _ us hl => match us, hl with | [_, _], _ => rfl
  have bd_lnbreak : Binds K fd_lnbreak ["_law_text_here", "_law_a", "_law_b", "_law_behind"] [] := A_lnbreak.fn.binds (ps := ["_law_text_here", "_law_a", "_law_b", "_law_behind"]) fun _ _ _ _ _ _ us hl => match us, hl with | [_, _, _, _], _ => rfl
  have bd_is_text : Binds K fd_is_text ["value"] [] := A_is_text.fn.binds (ps := ["value"]) fun _ _ _ _ _ _ us hl => match us, hl with | [_], _ => rfl
  have bd_is_new : Binds K fd_is_new ["value"] [] := A_is_new.fn.binds (ps := ["value"]) fun _ _ _ _ _ _ us hl => match us, hl with | [_], _ => rfl
  have bd_is_old : Binds K fd_is_old ["value"] [] := A_is_old.fn.binds (ps := ["value"]) fun _ _ _ _ _ _ us hl => match us, hl with | [_], _ => rfl
  have bd_check_words : Binds K fd_check_words ["old", "new"] [] := A_check_words.fn.binds (ps := ["old", "new"]) fun _ _ _ _ _ _ us hl => match us, hl with | [_, _], _ => rfl
  have bd_places : Binds K fd_places ["text", "word"] [] := A_places.fn.binds (ps := ["text", "word"]) fun _ _ _ _ _ _ us hl => match us, hl with | [_, _], _ => rfl
  have bd_fits : Binds K fd_fits ["edit", "number"] [] := A_fits.fn.binds (ps := ["edit", "number"]) fun _ _ _ _ _ _ us hl => match us, hl with | [_, _], _ => rfl
  have bd_apart : Binds K fd_apart ["found", "length"] [] := A_apart.fn.binds (ps := ["found", "length"]) fun _ _ _ _ _ _ us hl => match us, hl with | [_, _], _ => rfl
  have bd_puts_of_one : Binds K fd_puts_of_one ["edit", "index", "text"] [] := A_puts_of_one.fn.binds (ps := ["edit", "index", "text"]) fun _ _ _ _ _ _ us hl => match us, hl with | [_, _, _], _ => rfl
  have bd_puts_of : Binds K fd_puts_of ["edit", "index", "text"] [] := A_puts_of.fn.binds (ps := ["edit", "index", "text"]) fun _ _ _ _ _ _ us hl => match us, hl with | [_, _, _], _ => rfl
  have bd_text_behind : Binds K fd_text_behind ["text", "puts"] [] := A_text_behind.fn.binds (ps := ["text", "puts"]) fun _ _ _ _ _ _ us hl => match us, hl with | [_, _], _ => rfl
  have bd_origins_behind : Binds K fd_origins_behind ["entries", "puts", "index"] [] := A_origins_behind.fn.binds (ps := ["entries", "puts", "index"]) fun _ _ _ _ _ _ us hl => match us, hl with | [_, _, _], _ => rfl
  have bd_is_integer : Binds K fd_is_integer ["value"] [] := A_is_integer.fn.binds (ps := ["value"]) fun _ _ _ _ _ _ us hl => match us, hl with | [_], _ => rfl
  have bd_is_integer_in : Binds K fd_is_integer_in ["value", "low", "high"] [] := A_is_integer_in.fn.binds (ps := ["value", "low", "high"]) fun _ _ _ _ _ _ us hl => match us, hl with | [_, _, _], _ => rfl
  have bd_check_spot : Binds K fd_check_spot ["text", "first", "last"] [] := A_check_spot.fn.binds (ps := ["text", "first", "last"]) fun _ _ _ _ _ _ us hl => match us, hl with | [_, _, _], _ => rfl
  have bd_stands_twice : Binds K fd_stands_twice ["text", "word"] [] := A_stands_twice.fn.binds (ps := ["text", "word"]) fun _ _ _ _ _ _ us hl => match us, hl with | [_, _], _ => rfl
  have bd_stands_once : Binds K fd_stands_once ["text", "word"] [] := A_stands_once.fn.binds (ps := ["text", "word"]) fun _ _ _ _ _ _ us hl => match us, hl with | [_, _], _ => rfl
  have bd_longer_results : Binds K fd_longer_results ["results", "edits"] [] := A_longer_results.fn.binds (ps := ["results", "edits"]) fun _ _ _ _ _ _ us hl => match us, hl with | [_, _], _ => rfl
  have bd_all_results : Binds K fd_all_results ["text", "edits"] [] := A_all_results.fn.binds (ps := ["text", "edits"]) fun _ _ _ _ _ _ us hl => match us, hl with | [_, _], _ => rfl
  have bd_kept_ends : Binds K fd_kept_ends ["entries", "length"] [] := A_kept_ends.fn.binds (ps := ["entries", "length"]) fun _ _ _ _ _ _ us hl => match us, hl with | [_, _], _ => rfl
  have bd_stands_twice_in_one : Binds K fd_stands_twice_in_one ["texts", "word"] [] := A_stands_twice_in_one.fn.binds (ps := ["texts", "word"]) fun _ _ _ _ _ _ us hl => match us, hl with | [_, _], _ => rfl
  have bd_least_windows : Binds K fd_least_windows ["text", "first", "last", "results"] [] := A_least_windows.fn.binds (ps := ["text", "first", "last", "results"]) fun _ _ _ _ _ _ us hl => match us, hl with | [_, _, _, _], _ => rfl
  have bd_breaker : Binds K fd_breaker ["text", "begin", "end", "edits"] [] := A_breaker.fn.binds (ps := ["text", "begin", "end", "edits"]) fun _ _ _ _ _ _ us hl => match us, hl with | [_, _, _, _], _ => rfl
  have bd_steady : Binds K fd_steady ["text", "first", "last", "edits"] [] := A_steady.fn.binds (ps := ["text", "first", "last", "edits"]) fun _ _ _ _ _ _ us hl => match us, hl with | [_, _, _, _], _ => rfl
  have h_ed : ∀ n, n < 4 → EdF K (cls4 C0 C1 C2 C3 n) := four (E_Once.T.ed) (E_First.T.ed) (E_Perhaps.T.ed) (E_Every.T.ed)
  have h_kit : ∀ i j, i < 4 → j < 4 → PySem.W.kitOne K (.ref (cls4 C0 C1 C2 C3 i)) (.ref (cls4 C0 C1 C2 C3 j)) = some (i == j) := four2 (four ⟨kit_of M.ic_Once M.ty_Once M.s_Once_Once M.s_Once_Once, kit_of M.ic_First M.ty_First M.s_First_First M.s_Once_First, kit_of M.ic_Perhaps M.ty_Perhaps M.s_Perhaps_Perhaps M.s_Once_Perhaps, kit_of M.ic_Every M.ty_Every M.s_Every_Every M.s_Once_Every⟩ ⟨kit_of M.ic_Once M.ty_Once M.s_Once_Once M.s_First_Once, kit_of M.ic_First M.ty_First M.s_First_First M.s_First_First, kit_of M.ic_Perhaps M.ty_Perhaps M.s_Perhaps_Perhaps M.s_First_Perhaps, kit_of M.ic_Every M.ty_Every M.s_Every_Every M.s_First_Every⟩ ⟨kit_of M.ic_Once M.ty_Once M.s_Once_Once M.s_Perhaps_Once, kit_of M.ic_First M.ty_First M.s_First_First M.s_Perhaps_First, kit_of M.ic_Perhaps M.ty_Perhaps M.s_Perhaps_Perhaps M.s_Perhaps_Perhaps, kit_of M.ic_Every M.ty_Every M.s_Every_Every M.s_Perhaps_Every⟩ ⟨kit_of M.ic_Once M.ty_Once M.s_Once_Once M.s_Every_Once, kit_of M.ic_First M.ty_First M.s_First_First M.s_Every_First, kit_of M.ic_Perhaps M.ty_Perhaps M.s_Perhaps_Perhaps M.s_Every_Perhaps, kit_of M.ic_Every M.ty_Every M.s_Every_Every M.s_Every_Every⟩)
  have h_kE : ∀ i, i < 4 → PySem.W.kitOne K (.ref (cls4 C0 C1 C2 C3 i)) (.ref CE) = some true := four (kit_of M.ic_Edit M.ty_Edit M.s_Edit_Edit M.s_Once_Edit) (kit_of M.ic_Edit M.ty_Edit M.s_Edit_Edit M.s_First_Edit) (kit_of M.ic_Edit M.ty_Edit M.s_Edit_Edit M.s_Perhaps_Edit) (kit_of M.ic_Edit M.ty_Edit M.s_Edit_Edit M.s_Every_Edit)
  have h_kA : ∀ i, i < 4 → PySem.W.kitOne K (.ref (cls4 C0 C1 C2 C3 i)) (.ref CA) = some false := four (kit_of M.ic_AtOnce M.ty_AtOnce M.s_AtOnce_AtOnce M.s_Once_AtOnce) (kit_of M.ic_AtOnce M.ty_AtOnce M.s_AtOnce_AtOnce M.s_First_AtOnce) (kit_of M.ic_AtOnce M.ty_AtOnce M.s_AtOnce_AtOnce M.s_Perhaps_AtOnce) (kit_of M.ic_AtOnce M.ty_AtOnce M.s_AtOnce_AtOnce M.s_Every_AtOnce)
  have h_kFE : ∀ n, n < 4 → PySem.W.kitAny K (.ref (cls4 C0 C1 C2 C3 n)) [.ref C1, .ref C3] = some (n == 1 || n == 3) := four (kit_two (h_kit 0 1 (by decide) (by decide)) (h_kit 0 3 (by decide) (by decide))) (kit_two (h_kit 1 1 (by decide) (by decide)) (h_kit 1 3 (by decide) (by decide))) (kit_two (h_kit 2 1 (by decide) (by decide)) (h_kit 2 3 (by decide) (by decide))) (kit_two (h_kit 3 1 (by decide) (by decide)) (h_kit 3 3 (by decide) (by decide)))
  refine ⟨fd_law, fun s v => A_law.fn.binds1 rfl s v, fun base _ _ => ?_⟩
  have k_InvalidOld : ClsI l.prog w K mg base 1 "InvalidOld" C_InvalidOld ["value"] := c_InvalidOld X G E_InvalidOld
  have k_InvalidNew : ClsI l.prog w K mg base 1 "InvalidNew" C_InvalidNew ["value"] := c_InvalidNew X G E_InvalidNew
  have k_InvalidSpot : ClsI l.prog w K mg base 1 "InvalidSpot" C_InvalidSpot ["value"] := c_InvalidSpot X G E_InvalidSpot
  have k_NoPlace : ClsI l.prog w K mg base 1 "NoPlace" C_NoPlace ["index", "number"] := c_NoPlace X G E_NoPlace
  have h_old : ∀ n, n < 4 → PrI l.prog w K mg base 1 (cls4 C0 C1 C2 C3 n) "old" "_old" := four ⟨p1_Once, g1_Once, d1_Once, E_Once.T.cl, E_Once.P1, b_oldOnce E_Once.F1 E_Once.T.ed, E_Once.F1.binds (ps := ["self"]) fun _ _ _ _ _ _ us hl => match us, hl with | [_], _ => rfl⟩ ⟨p1_First, g1_First, d1_First, E_First.T.cl, E_First.P1, b_oldFirst E_First.F1 E_First.T.ed, E_First.F1.binds (ps := ["self"]) fun _ _ _ _ _ _ us hl => match us, hl with | [_], _ => rfl⟩ ⟨p1_Perhaps, g1_Perhaps, d1_Perhaps, E_Perhaps.T.cl, E_Perhaps.P1, b_oldPerhaps E_Perhaps.F1 E_Perhaps.T.ed, E_Perhaps.F1.binds (ps := ["self"]) fun _ _ _ _ _ _ us hl => match us, hl with | [_], _ => rfl⟩ ⟨p1_Every, g1_Every, d1_Every, E_Every.T.cl, E_Every.P1, b_oldEvery E_Every.F1 E_Every.T.ed, E_Every.F1.binds (ps := ["self"]) fun _ _ _ _ _ _ us hl => match us, hl with | [_], _ => rfl⟩
  have h_new : ∀ n, n < 4 → PrI l.prog w K mg base 1 (cls4 C0 C1 C2 C3 n) "new" "_new" := four ⟨p2_Once, g2_Once, d2_Once, E_Once.T.cl, E_Once.P2, b_newOnce E_Once.F2 E_Once.T.ed, E_Once.F2.binds (ps := ["self"]) fun _ _ _ _ _ _ us hl => match us, hl with | [_], _ => rfl⟩ ⟨p2_First, g2_First, d2_First, E_First.T.cl, E_First.P2, b_newFirst E_First.F2 E_First.T.ed, E_First.F2.binds (ps := ["self"]) fun _ _ _ _ _ _ us hl => match us, hl with | [_], _ => rfl⟩ ⟨p2_Perhaps, g2_Perhaps, d2_Perhaps, E_Perhaps.T.cl, E_Perhaps.P2, b_newPerhaps E_Perhaps.F2 E_Perhaps.T.ed, E_Perhaps.F2.binds (ps := ["self"]) fun _ _ _ _ _ _ us hl => match us, hl with | [_], _ => rfl⟩ ⟨p2_Every, g2_Every, d2_Every, E_Every.T.cl, E_Every.P2, b_newEvery E_Every.F2 E_Every.T.ed, E_Every.F2.binds (ps := ["self"]) fun _ _ _ _ _ _ us hl => match us, hl with | [_], _ => rfl⟩
  have t_signs : FnT l.prog w K mg base 1 "_law_signs" letS := okT A_lsigns.fn sc_lsigns m_lsigns bd_lsigns rfl
  have c_is_text : CalG l.prog w K mg base CX0 1 "is_text" (spTest isT) := ⟨f_is_text, fd_is_text, _, b_is_text A_is_text.fn T g_LETTERS, m_is_text, A_is_text.fn.kp, bd_is_text⟩
  have c_is_new : CalG l.prog w K mg base CX0 2 "is_new" (spTest isNew) := ⟨f_is_new, fd_is_new, _, b_is_new A_is_new.fn T c_is_text g_MAX_WORD, m_is_new, A_is_new.fn.kp, bd_is_new⟩
  have c_is_old : CalG l.prog w K mg base CX0 3 "is_old" (spTest isOld) := ⟨f_is_old, fd_is_old, _, b_is_old A_is_old.fn T c_is_new, m_is_old, A_is_old.fn.kp, bd_is_old⟩
  have c_check_words : CalG l.prog w K mg base (L2.CX l.prog w) 4 "check_words" (spCheck C_InvalidOld C_InvalidNew) := ⟨f_check_words, fd_check_words, _, b_check_words A_check_words.fn T c_is_old c_is_new k_InvalidOld k_InvalidNew, m_check_words, A_check_words.fn.kp, bd_check_words⟩
  have c_places : CalG l.prog w K mg base CX0 1 "places" (spPlaces K) := ⟨f_places, fd_places, _, b_places A_places.fn T, m_places, A_places.fn.kp, bd_places⟩
  have c_fits : CalG l.prog w K mg base CX0 1 "fits" (spFits C0 C1 C2 C3) := ⟨f_fits, fd_fits, _, b_fits A_fits.fn T n_First n_Every n_Perhaps h_ed h_kit h_kFE, m_fits, A_fits.fn.kp, bd_fits⟩
  have c_apart : CalG l.prog w K mg base CX0 1 "apart" (spApart K) := ⟨f_apart, fd_apart, _, b_apart A_apart.fn T, m_apart, A_apart.fn.kp, bd_apart⟩
  have c_puts_of_one : CalG l.prog w K mg base (L2.CX l.prog w) 3 "puts_of_one" (spPuts (cls4 C0 C1 C2 C3) C_NoPlace) := ⟨f_puts_of_one, fd_puts_of_one, _, b_puts_of_one A_puts_of_one.fn T c_places c_fits c_apart k_NoPlace n_First h_ed h_kit h_old h_new, m_puts_of_one, A_puts_of_one.fn.kp, bd_puts_of_one⟩
  have c_puts_of : CalG l.prog w K mg base (L2.CX l.prog w) 4 "puts_of" (spPuts (cls4 C0 C1 C2 C3) C_NoPlace) := ⟨f_puts_of, fd_puts_of, _, b_puts_of A_puts_of.fn T c_puts_of_one n_AtOnce h_ed h_kit h_kA, m_puts_of, A_puts_of.fn.kp, bd_puts_of⟩
  have c_text_behind : CalG l.prog w K mg base CX0 1 "text_behind" spBehind := ⟨f_text_behind, fd_text_behind, _, b_text_behind A_text_behind.fn T, m_text_behind, A_text_behind.fn.kp, bd_text_behind⟩
  have c_origins_behind : CalG l.prog w K mg base CX0 1 "origins_behind" spOB := ⟨f_origins_behind, fd_origins_behind, _, b_origins_behind A_origins_behind.fn T, m_origins_behind, A_origins_behind.fn.kp, bd_origins_behind⟩
  have c_is_integer : CalG l.prog w K mg base CX0 1 "is_integer" spIsInt := ⟨f_is_integer, fd_is_integer, _, b_is_integer A_is_integer.fn T, m_is_integer, A_is_integer.fn.kp, bd_is_integer⟩
  have c_is_integer_in : CalG l.prog w K mg base CX0 2 "is_integer_in" spInI := ⟨f_is_integer_in, fd_is_integer_in, _, b_is_integer_in A_is_integer_in.fn T c_is_integer, m_is_integer_in, A_is_integer_in.fn.kp, bd_is_integer_in⟩
  have c_check_spot : CalG l.prog w K mg base (L2.CX l.prog w) 3 "check_spot" (spCkSpot C_InvalidSpot) := ⟨f_check_spot, fd_check_spot, _, b_check_spot A_check_spot.fn T c_is_integer_in k_InvalidSpot, m_check_spot, A_check_spot.fn.kp, bd_check_spot⟩
  have c_stands_twice : CalG l.prog w K mg base CX0 1 "stands_twice" spTwice := ⟨f_stands_twice, fd_stands_twice, _, b_stands_twice A_stands_twice.fn T, m_stands_twice, A_stands_twice.fn.kp, bd_stands_twice⟩
  have c_stands_once : CalG l.prog w K mg base CX0 2 "stands_once" spOnce := ⟨f_stands_once, fd_stands_once, _, b_stands_once A_stands_once.fn T c_stands_twice, m_stands_once, A_stands_once.fn.kp, bd_stands_once⟩
  have c_longer_results : CalG l.prog w K mg base (L2.CX l.prog w) 5 "longer_results" (spLong C0) := ⟨f_longer_results, fd_longer_results, _, b_longer_results A_longer_results.fn T c_stands_once c_puts_of c_text_behind c_origins_behind h_old, m_longer_results, A_longer_results.fn.kp, bd_longer_results⟩
  have c_all_results : CalG l.prog w K mg base (L2.CX l.prog w) 6 "all_results" (spAll C0) := ⟨f_all_results, fd_all_results, _, b_all_results A_all_results.fn T c_longer_results, m_all_results, A_all_results.fn.kp, bd_all_results⟩
  have c_kept_ends : CalG l.prog w K mg base CX0 1 "kept_ends" spKept := ⟨f_kept_ends, fd_kept_ends, _, b_kept_ends A_kept_ends.fn T, m_kept_ends, A_kept_ends.fn.kp, bd_kept_ends⟩
  have c_stands_twice_in_one : CalG l.prog w K mg base CX0 2 "stands_twice_in_one" spIn1 := ⟨f_stands_twice_in_one, fd_stands_twice_in_one, _, b_stands_twice_in_one A_stands_twice_in_one.fn T c_stands_twice, m_stands_twice_in_one, A_stands_twice_in_one.fn.kp, bd_stands_twice_in_one⟩
  have c_least_windows : CalG l.prog w K mg base CX0 3 "least_windows" spLeastW := ⟨f_least_windows, fd_least_windows, _, b_least_windows A_least_windows.fn T c_stands_twice_in_one c_kept_ends, m_least_windows, A_least_windows.fn.kp, bd_least_windows⟩
  have c_breaker : CalG l.prog w K mg base (L2.CX l.prog w) 7 "breaker" (spBreaker C0) := ⟨f_breaker, fd_breaker, _, b_breaker A_breaker.fn T c_all_results c_kept_ends c_stands_twice, m_breaker, A_breaker.fn.kp, bd_breaker⟩
  have c_steady : CalG l.prog w K mg base (L2.CX l.prog w) 7 "steady" (spSteady C_InvalidSpot C0) := ⟨f_steady, fd_steady, _, b_steady A_steady.fn T c_all_results c_least_windows c_check_spot, m_steady, A_steady.fn.kp, bd_steady⟩
  have k_breaker : CalK l.prog w K mg base (L2.CX l.prog w) 7 "breaker" (spBreaker C0) ["edits", "end", "begin", "text"] List.reverse := ⟨f_breaker, fd_breaker, ["text", "begin", "end", "edits"], b_breaker A_breaker.fn T c_all_results c_kept_ends c_stands_twice, m_breaker, A_breaker.fn.kp, A_breaker.fn.kwb fun _ _ _ _ _ _ us hl => match us, hl with | [_, _, _, _], _ => rfl, fun _ _ r _ => vals_rev r⟩
  have mk_Once : MakI l.prog w K mg base (L2.CX l.prog w) 5 "Once" C0 ["old", "new"] (spEdit C0 C_InvalidOld C_InvalidNew) := ⟨n_Once, fI_Once, dI_Once, E_Once.T.M, b_Once E_Once.FI c_check_words E_Once.T.cl E_Once.T.n1 E_Once.T.n2, E_Once.FI.binds (ps := ["self", "old", "new"]) fun _ _ _ _ _ _ us hl => match us, hl with | [_, _, _], _ => rfl, fun s v ws KI hl => by
    match ws, hl with
    | [y, z], _ =>
      obtain ⟨oc, od, kV, doc, pm, an, cdv, ct, osl, rfl, lk, hcd⟩ := E_Once.FI.ex
      exact .of_eq rfl⟩
  have c_lsigns : CalG l.prog w K mg base CX0 1 "_law_signs" spSigns := ⟨f_lsigns, fd_lsigns, _, b_lsigns A_lsigns.fn T, m_lsigns, A_lsigns.fn.kp, bd_lsigns⟩
  have c_ldraw : CalG l.prog w K mg base CX0 1 "_law_draw" spDraw := ⟨f_ldraw, fd_ldraw, _, b_ldraw A_ldraw.fn T, m_ldraw, A_ldraw.fn.kp, bd_ldraw⟩
  have c_lpen : CalG l.prog w K mg base CX0 1 "_law_pen" (spPen K) := ⟨f_lpen, fd_lpen, _, b_lpen A_lpen.fn T, m_lpen, A_lpen.fn.kp, bd_lpen⟩
  have c_lpick : CalG l.prog w K mg base CX0 2 "_law_pick" (spPick K) := ⟨f_lpick, fd_lpick, _, b_lpick A_lpick.fn T c_ldraw, m_lpick, A_lpick.fn.kp, bd_lpick⟩
  have c_lfew : CalG l.prog w K mg base CX0 3 "_law_few" spFew := ⟨f_lfew, fd_lfew, _, b_lfew A_lfew.fn T c_lpick t_signs, m_lfew, A_lfew.fn.kp, bd_lfew⟩
  have c_lword : CalG l.prog w K mg base CX0 3 "_law_word" spWord := ⟨f_lword, fd_lword, _, b_lword A_lword.fn T c_ldraw c_lpick, m_lword, A_lword.fn.kp, bd_lword⟩
  have c_lmade : CalG l.prog w K mg base CX0 7 "_law_made" (spMade C0) := ⟨f_lmade, fd_lmade, _, b_lmade A_lmade.fn T mk_Once, m_lmade, A_lmade.fn.kp, bd_lmade⟩
  have c_lplaces : CalG l.prog w K mg base CX0 1 "_law_places" (spPlaces K) := ⟨f_lplaces, fd_lplaces, _, b_lplaces A_lplaces.fn T, m_lplaces, A_lplaces.fn.kp, bd_lplaces⟩
  have c_lntext : CalG l.prog w K mg base CX0 4 "_law_ntext" spNtext := ⟨f_lntext, fd_lntext, _, b_lntext A_lntext.fn T c_ldraw c_lpick c_lword, m_lntext, A_lntext.fn.kp, bd_lntext⟩
  have c_lnaround : CalG l.prog w K mg base CX0 1 "_law_naround" spAround := ⟨f_lnaround, fd_lnaround, _, b_lnaround A_lnaround.fn T, m_lnaround, A_lnaround.fn.kp, bd_lnaround⟩
  have c_lnspot : CalG l.prog w K mg base CX0 3 "_law_nspot" spSpot := ⟨f_lnspot, fd_lnspot, _, b_lnspot A_lnspot.fn T c_ldraw c_lpick, m_lnspot, A_lnspot.fn.kp, bd_lnspot⟩
  have c_lnonce : CalG l.prog w K mg base CX0 2 "_law_nonce" spNonce := ⟨f_lnonce, fd_lnonce, _, b_lnonce A_lnonce.fn T c_lplaces, m_lnonce, A_lnonce.fn.kp, bd_lnonce⟩
  have c_lshuffled : CalG l.prog w K mg base CX0 2 "_law_shuffled" spShufS := ⟨f_lshuffled, fd_lshuffled, _, b_lshuffledS A_lshuffled.fn T c_ldraw, m_lshuffled, A_lshuffled.fn.kp, bd_lshuffled⟩
  have c_lnthree : CalG l.prog w K mg base CX0 3 "_law_nthree" spThree := ⟨f_lnthree, fd_lnthree, _, b_lnthree A_lnthree.fn T c_lshuffled, m_lnthree, A_lnthree.fn.kp, bd_lnthree⟩
  have c_lnonces : CalG l.prog w K mg base CX0 4 "_law_nonces" spNonces := ⟨f_lnonces, fd_lnonces, _, b_lnonces A_lnonces.fn T c_ldraw c_lpick c_lword, m_lnonces, A_lnonces.fn.kp, bd_lnonces⟩
  have c_lnways : CalG l.prog w K mg base CX0 2 "_law_nways" spNways := ⟨f_lnways, fd_lnways, _, b_lnways A_lnways.fn T c_lplaces, m_lnways, A_lnways.fn.kp, bd_lnways⟩
  have c_lnbreak : CalG l.prog w K mg base CX0 2 "_law_nbreak" spNbreak := ⟨f_lnbreak, fd_lnbreak, _, b_lnbreak A_lnbreak.fn T c_lplaces, m_lnbreak, A_lnbreak.fn.kp, bd_lnbreak⟩
  exact b_law A_law.fn T c_lpen c_lfew c_lntext c_lnonces c_lmade c_lnways c_lnonce c_lnspot c_lnaround c_lnbreak c_lnthree mk_Once c_steady c_breaker k_breaker
end Vk
set_option Elab.async false
set_option maxRecDepth 100000
set_option linter.all false
open PySem PySem.W PyProof.Rows
set_option maxRecDepth 100000 in
set_option maxHeartbeats 0 in
theorem PySem.Challenge.cw_anchoredits_k54_whole_windows_and_their_holds : PySem.Challenge.rw_anchoredits_k54_whole_windows_and_their.Holds := by
  w_on; o_law
  refine holds_open (q := Vk.hd.view_39) (loose := Vk.hdLo) (Xt := Vk.hdXt) (XP := XL Vk.hd.view_39 []) (Yf := Hook.obs (kHook Vk.hd.heap_39 Vk.hdAs Vk.hdEk)) (Ya := Hook.val (kHook Vk.hd.heap_39 Vk.hdAs Vk.hdEk)) (YP := Hook.says (kHook Vk.hd.heap_39 Vk.hdAs Vk.hdEk)) (N := 11688) Vk.hdLeft (Hook.of (kHook Vk.hd.heap_39 Vk.hdAs Vk.hdEk)) (Hook.keeps (kHook Vk.hd.heap_39 Vk.hdAs Vk.hdEk)) (fun s e => xl_of s (Bool.and_eq_true_iff.mp e).1) XL.keeps (by rfl) (by rfl) (by rfl) (fun s e => recFacts_of (Bool.and_eq_true_iff.mp e).2) (by rfl) (by first | assumption | decide +kernel) (by decide +kernel) ⟨rfl, rfl, rfl, rfl, rfl, by decide +kernel⟩ ?hw ?hc
  case hw => w_witness2
  case hc =>
  k_fill
  refine Vk.walkX (l := PySem.Challenge.rw_anchoredits_k54_whole_windows_and_their) (n := 63) (k := 8) (x := "_law_script") (CX := L2.CX0) (sp := Vk.spLaw) rfl (by decide) rfl ⟨rfl, by decide, by decide⟩ (fun w h Y => PySem.W.kIn_of Y) ?F (fun K H a ns hl _ hS => ⟨a, ns, rfl, hS, hl, fun _ => rfl⟩) (fun _ _ _ _ z => z)
  case F =>
    intro w mg fa h KX Gr hmg
    obtain ⟨s0, mb, Gr⟩ := Gr
    refine' Vk.all KX Gr.T.g hmg ?e_InvalidOld ?e_InvalidNew ?e_InvalidSpot ?e_NoPlace ?e_Once ?e_First ?e_Perhaps ?e_Every ?e_M ?d_lsigns ?d_ldraw ?d_lpen ?d_lpick ?d_lfew ?d_lword ?d_lmade ?d_lplaces ?d_lntext ?d_lnaround ?d_lnspot ?d_lnonces ?d_lnonce ?d_lshuffled ?d_lnthree ?d_lnways ?d_lnbreak ?d_is_text ?d_is_new ?d_is_old ?d_check_words ?d_places ?d_fits ?d_apart ?d_puts_of_one ?d_puts_of ?d_text_behind ?d_origins_behind ?d_is_integer ?d_is_integer_in ?d_check_spot ?d_stands_twice ?d_stands_once ?d_longer_results ?d_all_results ?d_kept_ends ?d_stands_twice_in_one ?d_least_windows ?d_breaker ?d_steady ?d_law ?z_str ?z_tuple ?z_enumerate ?z_bool ?z_sum ?z_max ?z_ValueError ?z_reversed ?z_len ?z_list ?z_int ?z_abs ?z_range ?z_min ?z_repr ?z_isinstance ?g_LETTERS ?g_MAX_WORD
    (case e_InvalidOld => as_aux_lemma => (refine' ⟨_, _, _, Vk.exc_mk PySem.VkX.exB_value ?ns ?iC ?cls ?sa ?kC ?ga ?gg ?ex ?hd ?ha ?hn ?ht ?hm ?tI ?kI (Vk.no1 ?n1) ?l ?c⟩; (case ns => k_is); (case iC => k_is); (case cls => k_is); (case sa => k_is); (case kC => k_is); (case ga => k_is); (case gg => k_is); (case ex => k_is); (case hd => k_is); (case ha => k_is); (case hn => k_is); (case ht => k_is); (case hm => k_is); (case tI => k_is); (case kI => k_is); (case n1 => k_is); (case l => k_is); (case c => k_is)))
    (case e_InvalidNew => as_aux_lemma => (refine' ⟨_, _, _, Vk.exc_mk PySem.VkX.exB_value ?ns ?iC ?cls ?sa ?kC ?ga ?gg ?ex ?hd ?ha ?hn ?ht ?hm ?tI ?kI (Vk.no1 ?n1) ?l ?c⟩; (case ns => k_is); (case iC => k_is); (case cls => k_is); (case sa => k_is); (case kC => k_is); (case ga => k_is); (case gg => k_is); (case ex => k_is); (case hd => k_is); (case ha => k_is); (case hn => k_is); (case ht => k_is); (case hm => k_is); (case tI => k_is); (case kI => k_is); (case n1 => k_is); (case l => k_is); (case c => k_is)))
    (case e_InvalidSpot => as_aux_lemma => (refine' ⟨_, _, _, Vk.exc_mk PySem.VkX.exB_value ?ns ?iC ?cls ?sa ?kC ?ga ?gg ?ex ?hd ?ha ?hn ?ht ?hm ?tI ?kI (Vk.no1 ?n1) ?l ?c⟩; (case ns => k_is); (case iC => k_is); (case cls => k_is); (case sa => k_is); (case kC => k_is); (case ga => k_is); (case gg => k_is); (case ex => k_is); (case hd => k_is); (case ha => k_is); (case hn => k_is); (case ht => k_is); (case hm => k_is); (case tI => k_is); (case kI => k_is); (case n1 => k_is); (case l => k_is); (case c => k_is)))
    (case e_NoPlace => as_aux_lemma => (refine' ⟨_, _, _, Vk.exc_mk PySem.VkX.exB_lookup ?ns ?iC ?cls ?sa ?kC ?ga ?gg ?ex ?hd ?ha ?hn ?ht ?hm ?tI ?kI (Vk.no2 ?n1 ?n2) ?l ?c⟩; (case ns => k_is); (case iC => k_is); (case cls => k_is); (case sa => k_is); (case kC => k_is); (case ga => k_is); (case gg => k_is); (case ex => k_is); (case hd => k_is); (case ha => k_is); (case hn => k_is); (case ht => k_is); (case hm => k_is); (case tI => k_is); (case kI => k_is); (case n1 => k_is); (case n2 => k_is); (case l => k_is); (case c => k_is)))
    (case e_Once => as_aux_lemma => (refine' ⟨_, _, _, _, _, _, _, _, _, ⟨⟨?ns, ?mks, ?it, ?fn, ?kp, ?pg, ?hd, ?po, ?sa, ?n1, ?n2, ?ca, ?cn, ?ct, ?cm⟩, Vk.prop_mk ?pa1 ?pg1 ?pt1 ?pr1, Vk.prop_mk ?pa2 ?pg2 ?pt2 ?pr2, L2.fun_mk ?lI ?cI ?kI, L2.fun_mk ?l1 ?c1 ?k1, L2.fun_mk ?l2 ?c2 ?k2⟩⟩; (case ns => k_is); (case mks => k_is); (case it => k_is); (case fn => k_is); (case kp => k_is); (case pg => k_is); (case hd => k_is); (case po => k_is); (case sa => k_is); (case n1 => k_is); (case n2 => k_is); (case ca => k_is); (case cn => k_is); (case ct => k_is); (case cm => k_is); (case pa1 => k_is); (case pg1 => k_is); (case pt1 => k_is); (case pr1 => k_is); (case pa2 => k_is); (case pg2 => k_is); (case pt2 => k_is); (case pr2 => k_is); (case lI => k_is); (case cI => k_is); (case kI => k_is); (case l1 => k_is); (case c1 => k_is); (case k1 => k_is); (case l2 => k_is); (case c2 => k_is); (case k2 => k_is)))
    (case e_First => as_aux_lemma => (refine' ⟨_, _, _, _, _, _, _, _, _, ⟨⟨?ns, ?mks, ?it, ?fn, ?kp, ?pg, ?hd, ?po, ?sa, ?n1, ?n2, ?ca, ?cn, ?ct, ?cm⟩, Vk.prop_mk ?pa1 ?pg1 ?pt1 ?pr1, Vk.prop_mk ?pa2 ?pg2 ?pt2 ?pr2, L2.fun_mk ?lI ?cI ?kI, L2.fun_mk ?l1 ?c1 ?k1, L2.fun_mk ?l2 ?c2 ?k2⟩⟩; (case ns => k_is); (case mks => k_is); (case it => k_is); (case fn => k_is); (case kp => k_is); (case pg => k_is); (case hd => k_is); (case po => k_is); (case sa => k_is); (case n1 => k_is); (case n2 => k_is); (case ca => k_is); (case cn => k_is); (case ct => k_is); (case cm => k_is); (case pa1 => k_is); (case pg1 => k_is); (case pt1 => k_is); (case pr1 => k_is); (case pa2 => k_is); (case pg2 => k_is); (case pt2 => k_is); (case pr2 => k_is); (case lI => k_is); (case cI => k_is); (case kI => k_is); (case l1 => k_is); (case c1 => k_is); (case k1 => k_is); (case l2 => k_is); (case c2 => k_is); (case k2 => k_is)))
    (case e_Perhaps => as_aux_lemma => (refine' ⟨_, _, _, _, _, _, _, _, _, ⟨⟨?ns, ?mks, ?it, ?fn, ?kp, ?pg, ?hd, ?po, ?sa, ?n1, ?n2, ?ca, ?cn, ?ct, ?cm⟩, Vk.prop_mk ?pa1 ?pg1 ?pt1 ?pr1, Vk.prop_mk ?pa2 ?pg2 ?pt2 ?pr2, L2.fun_mk ?lI ?cI ?kI, L2.fun_mk ?l1 ?c1 ?k1, L2.fun_mk ?l2 ?c2 ?k2⟩⟩; (case ns => k_is); (case mks => k_is); (case it => k_is); (case fn => k_is); (case kp => k_is); (case pg => k_is); (case hd => k_is); (case po => k_is); (case sa => k_is); (case n1 => k_is); (case n2 => k_is); (case ca => k_is); (case cn => k_is); (case ct => k_is); (case cm => k_is); (case pa1 => k_is); (case pg1 => k_is); (case pt1 => k_is); (case pr1 => k_is); (case pa2 => k_is); (case pg2 => k_is); (case pt2 => k_is); (case pr2 => k_is); (case lI => k_is); (case cI => k_is); (case kI => k_is); (case l1 => k_is); (case c1 => k_is); (case k1 => k_is); (case l2 => k_is); (case c2 => k_is); (case k2 => k_is)))
    (case e_Every => as_aux_lemma => (refine' ⟨_, _, _, _, _, _, _, _, _, ⟨⟨?ns, ?mks, ?it, ?fn, ?kp, ?pg, ?hd, ?po, ?sa, ?n1, ?n2, ?ca, ?cn, ?ct, ?cm⟩, Vk.prop_mk ?pa1 ?pg1 ?pt1 ?pr1, Vk.prop_mk ?pa2 ?pg2 ?pt2 ?pr2, L2.fun_mk ?lI ?cI ?kI, L2.fun_mk ?l1 ?c1 ?k1, L2.fun_mk ?l2 ?c2 ?k2⟩⟩; (case ns => k_is); (case mks => k_is); (case it => k_is); (case fn => k_is); (case kp => k_is); (case pg => k_is); (case hd => k_is); (case po => k_is); (case sa => k_is); (case n1 => k_is); (case n2 => k_is); (case ca => k_is); (case cn => k_is); (case ct => k_is); (case cm => k_is); (case pa1 => k_is); (case pg1 => k_is); (case pt1 => k_is); (case pr1 => k_is); (case pa2 => k_is); (case pg2 => k_is); (case pt2 => k_is); (case pr2 => k_is); (case lI => k_is); (case cI => k_is); (case kI => k_is); (case l1 => k_is); (case c1 => k_is); (case k1 => k_is); (case l2 => k_is); (case c2 => k_is); (case k2 => k_is)))
    (case e_M => as_aux_lemma => (refine' ⟨_, _, _, _, _, _, ⟨?ns_Once, ?ic_Once, ?ty_Once, ?ns_First, ?ic_First, ?ty_First, ?ns_Perhaps, ?ic_Perhaps, ?ty_Perhaps, ?ns_Every, ?ic_Every, ?ty_Every, ?ns_Edit, ?ic_Edit, ?ty_Edit, ?ns_AtOnce, ?ic_AtOnce, ?ty_AtOnce, ?s_Once_Once, ?s_Once_First, ?s_Once_Perhaps, ?s_Once_Every, ?s_Once_AtOnce, ?s_First_Once, ?s_First_First, ?s_First_Perhaps, ?s_First_Every, ?s_First_AtOnce, ?s_Perhaps_Once, ?s_Perhaps_First, ?s_Perhaps_Perhaps, ?s_Perhaps_Every, ?s_Perhaps_AtOnce, ?s_Every_Once, ?s_Every_First, ?s_Every_Perhaps, ?s_Every_Every, ?s_Every_AtOnce, ?s_Once_Edit, ?s_First_Edit, ?s_Perhaps_Edit, ?s_Every_Edit, ?s_Edit_Edit, ?s_AtOnce_AtOnce⟩⟩; (case ns_Once => k_is); (case ns_First => k_is); (case ns_Perhaps => k_is); (case ns_Every => k_is); (case ns_Edit => k_is); (case ns_AtOnce => k_is); (case ic_Once => k_is); (case ty_Once => k_is); (case ic_First => k_is); (case ty_First => k_is); (case ic_Perhaps => k_is); (case ty_Perhaps => k_is); (case ic_Every => k_is); (case ty_Every => k_is); (case ic_Edit => k_is); (case ty_Edit => k_is); (case ic_AtOnce => k_is); (case ty_AtOnce => k_is); (case s_Once_Once => k_is); (case s_Once_First => k_is); (case s_Once_Perhaps => k_is); (case s_Once_Every => k_is); (case s_Once_AtOnce => k_is); (case s_First_Once => k_is); (case s_First_First => k_is); (case s_First_Perhaps => k_is); (case s_First_Every => k_is); (case s_First_AtOnce => k_is); (case s_Perhaps_Once => k_is); (case s_Perhaps_First => k_is); (case s_Perhaps_Perhaps => k_is); (case s_Perhaps_Every => k_is); (case s_Perhaps_AtOnce => k_is); (case s_Every_Once => k_is); (case s_Every_First => k_is); (case s_Every_Perhaps => k_is); (case s_Every_Every => k_is); (case s_Every_AtOnce => k_is); (case s_Once_Edit => k_is); (case s_First_Edit => k_is); (case s_Perhaps_Edit => k_is); (case s_Every_Edit => k_is); (case s_Edit_Edit => k_is); (case s_AtOnce_AtOnce => k_is)))
    (case d_lsigns => as_aux_lemma => (refine' ⟨_, _, Vk.at_mk ?a ?l ?c ?k⟩; (case a => k_is); (case l => k_is); (case c => k_is); (case k => k_is)))
    (case d_ldraw => as_aux_lemma => (refine' ⟨_, _, Vk.at_mk ?a ?l ?c ?k⟩; (case a => k_is); (case l => k_is); (case c => k_is); (case k => k_is)))
    (case d_lpen => as_aux_lemma => (refine' ⟨_, _, Vk.at_mk ?a ?l ?c ?k⟩; (case a => k_is); (case l => k_is); (case c => k_is); (case k => k_is)))
    (case d_lpick => as_aux_lemma => (refine' ⟨_, _, Vk.at_mk ?a ?l ?c ?k⟩; (case a => k_is); (case l => k_is); (case c => k_is); (case k => k_is)))
    (case d_lfew => as_aux_lemma => (refine' ⟨_, _, Vk.at_mk ?a ?l ?c ?k⟩; (case a => k_is); (case l => k_is); (case c => k_is); (case k => k_is)))
    (case d_lword => as_aux_lemma => (refine' ⟨_, _, Vk.at_mk ?a ?l ?c ?k⟩; (case a => k_is); (case l => k_is); (case c => k_is); (case k => k_is)))
    (case d_lmade => as_aux_lemma => (refine' ⟨_, _, Vk.at_mk ?a ?l ?c ?k⟩; (case a => k_is); (case l => k_is); (case c => k_is); (case k => k_is)))
    (case d_lplaces => as_aux_lemma => (refine' ⟨_, _, Vk.at_mk ?a ?l ?c ?k⟩; (case a => k_is); (case l => k_is); (case c => k_is); (case k => k_is)))
    (case d_lntext => as_aux_lemma => (refine' ⟨_, _, Vk.at_mk ?a ?l ?c ?k⟩; (case a => k_is); (case l => k_is); (case c => k_is); (case k => k_is)))
    (case d_lnaround => as_aux_lemma => (refine' ⟨_, _, Vk.at_mk ?a ?l ?c ?k⟩; (case a => k_is); (case l => k_is); (case c => k_is); (case k => k_is)))
    (case d_lnspot => as_aux_lemma => (refine' ⟨_, _, Vk.at_mk ?a ?l ?c ?k⟩; (case a => k_is); (case l => k_is); (case c => k_is); (case k => k_is)))
    (case d_lnonces => as_aux_lemma => (refine' ⟨_, _, Vk.at_mk ?a ?l ?c ?k⟩; (case a => k_is); (case l => k_is); (case c => k_is); (case k => k_is)))
    (case d_lnonce => as_aux_lemma => (refine' ⟨_, _, Vk.at_mk ?a ?l ?c ?k⟩; (case a => k_is); (case l => k_is); (case c => k_is); (case k => k_is)))
    (case d_lshuffled => as_aux_lemma => (refine' ⟨_, _, Vk.at_mk ?a ?l ?c ?k⟩; (case a => k_is); (case l => k_is); (case c => k_is); (case k => k_is)))
    (case d_lnthree => as_aux_lemma => (refine' ⟨_, _, Vk.at_mk ?a ?l ?c ?k⟩; (case a => k_is); (case l => k_is); (case c => k_is); (case k => k_is)))
    (case d_lnways => as_aux_lemma => (refine' ⟨_, _, Vk.at_mk ?a ?l ?c ?k⟩; (case a => k_is); (case l => k_is); (case c => k_is); (case k => k_is)))
    (case d_lnbreak => as_aux_lemma => (refine' ⟨_, _, Vk.at_mk ?a ?l ?c ?k⟩; (case a => k_is); (case l => k_is); (case c => k_is); (case k => k_is)))
    (case d_is_text => as_aux_lemma => (refine' ⟨_, _, Vk.at_mk ?a ?l ?c ?k⟩; (case a => k_is); (case l => k_is); (case c => k_is); (case k => k_is)))
    (case d_is_new => as_aux_lemma => (refine' ⟨_, _, Vk.at_mk ?a ?l ?c ?k⟩; (case a => k_is); (case l => k_is); (case c => k_is); (case k => k_is)))
    (case d_is_old => as_aux_lemma => (refine' ⟨_, _, Vk.at_mk ?a ?l ?c ?k⟩; (case a => k_is); (case l => k_is); (case c => k_is); (case k => k_is)))
    (case d_check_words => as_aux_lemma => (refine' ⟨_, _, Vk.at_mk ?a ?l ?c ?k⟩; (case a => k_is); (case l => k_is); (case c => k_is); (case k => k_is)))
    (case d_places => as_aux_lemma => (refine' ⟨_, _, Vk.at_mk ?a ?l ?c ?k⟩; (case a => k_is); (case l => k_is); (case c => k_is); (case k => k_is)))
    (case d_fits => as_aux_lemma => (refine' ⟨_, _, Vk.at_mk ?a ?l ?c ?k⟩; (case a => k_is); (case l => k_is); (case c => k_is); (case k => k_is)))
    (case d_apart => as_aux_lemma => (refine' ⟨_, _, Vk.at_mk ?a ?l ?c ?k⟩; (case a => k_is); (case l => k_is); (case c => k_is); (case k => k_is)))
    (case d_puts_of_one => as_aux_lemma => (refine' ⟨_, _, Vk.at_mk ?a ?l ?c ?k⟩; (case a => k_is); (case l => k_is); (case c => k_is); (case k => k_is)))
    (case d_puts_of => as_aux_lemma => (refine' ⟨_, _, Vk.at_mk ?a ?l ?c ?k⟩; (case a => k_is); (case l => k_is); (case c => k_is); (case k => k_is)))
    (case d_text_behind => as_aux_lemma => (refine' ⟨_, _, Vk.at_mk ?a ?l ?c ?k⟩; (case a => k_is); (case l => k_is); (case c => k_is); (case k => k_is)))
    (case d_origins_behind => as_aux_lemma => (refine' ⟨_, _, Vk.at_mk ?a ?l ?c ?k⟩; (case a => k_is); (case l => k_is); (case c => k_is); (case k => k_is)))
    (case d_is_integer => as_aux_lemma => (refine' ⟨_, _, Vk.at_mk ?a ?l ?c ?k⟩; (case a => k_is); (case l => k_is); (case c => k_is); (case k => k_is)))
    (case d_is_integer_in => as_aux_lemma => (refine' ⟨_, _, Vk.at_mk ?a ?l ?c ?k⟩; (case a => k_is); (case l => k_is); (case c => k_is); (case k => k_is)))
    (case d_check_spot => as_aux_lemma => (refine' ⟨_, _, Vk.at_mk ?a ?l ?c ?k⟩; (case a => k_is); (case l => k_is); (case c => k_is); (case k => k_is)))
    (case d_stands_twice => as_aux_lemma => (refine' ⟨_, _, Vk.at_mk ?a ?l ?c ?k⟩; (case a => k_is); (case l => k_is); (case c => k_is); (case k => k_is)))
    (case d_stands_once => as_aux_lemma => (refine' ⟨_, _, Vk.at_mk ?a ?l ?c ?k⟩; (case a => k_is); (case l => k_is); (case c => k_is); (case k => k_is)))
    (case d_longer_results => as_aux_lemma => (refine' ⟨_, _, Vk.at_mk ?a ?l ?c ?k⟩; (case a => k_is); (case l => k_is); (case c => k_is); (case k => k_is)))
    (case d_all_results => as_aux_lemma => (refine' ⟨_, _, Vk.at_mk ?a ?l ?c ?k⟩; (case a => k_is); (case l => k_is); (case c => k_is); (case k => k_is)))
    (case d_kept_ends => as_aux_lemma => (refine' ⟨_, _, Vk.at_mk ?a ?l ?c ?k⟩; (case a => k_is); (case l => k_is); (case c => k_is); (case k => k_is)))
    (case d_stands_twice_in_one => as_aux_lemma => (refine' ⟨_, _, Vk.at_mk ?a ?l ?c ?k⟩; (case a => k_is); (case l => k_is); (case c => k_is); (case k => k_is)))
    (case d_least_windows => as_aux_lemma => (refine' ⟨_, _, Vk.at_mk ?a ?l ?c ?k⟩; (case a => k_is); (case l => k_is); (case c => k_is); (case k => k_is)))
    (case d_breaker => as_aux_lemma => (refine' ⟨_, _, Vk.at_mk ?a ?l ?c ?k⟩; (case a => k_is); (case l => k_is); (case c => k_is); (case k => k_is)))
    (case d_steady => as_aux_lemma => (refine' ⟨_, _, Vk.at_mk ?a ?l ?c ?k⟩; (case a => k_is); (case l => k_is); (case c => k_is); (case k => k_is)))
    (case d_law => as_aux_lemma => (refine' ⟨_, _, Vk.at_mk ?a ?l ?c ?k⟩; (case a => k_is); (case l => k_is); (case c => k_is); (case k => k_is)))
    (case z_str => as_aux_lemma => k_is)
    (case z_tuple => as_aux_lemma => k_is)
    (case z_enumerate => as_aux_lemma => k_is)
    (case z_bool => as_aux_lemma => k_is)
    (case z_sum => as_aux_lemma => k_is)
    (case z_max => as_aux_lemma => k_is)
    (case z_ValueError => as_aux_lemma => k_is)
    (case z_reversed => as_aux_lemma => k_is)
    (case z_len => as_aux_lemma => k_is)
    (case z_list => as_aux_lemma => k_is)
    (case z_int => as_aux_lemma => k_is)
    (case z_abs => as_aux_lemma => k_is)
    (case z_range => as_aux_lemma => k_is)
    (case z_min => as_aux_lemma => k_is)
    (case z_repr => as_aux_lemma => k_is)
    (case z_isinstance => as_aux_lemma => k_is)
    (case g_LETTERS => as_aux_lemma => exact Vk.const_s Gr.T (by first | kernel_rfl | decide +kernel))
    (case g_MAX_WORD => as_aux_lemma => exact Vk.const_i Gr.T (by first | kernel_rfl | decide +kernel))
#print axioms PySem.Challenge.cw_anchoredits_k54_whole_windows_and_their_holds
