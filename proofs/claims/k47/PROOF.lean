import PyProof.Rows.All
import Wide.All
import OpenK.AllK
import Wide.FinOn
import PyProof.FString3
import PyProof.StrBlock2
import PyProof.ReprRoads
import KE.KxField
import HandS.ForMost
import HandS.EndTab
import HandS.WordsExc
import HandS.ExcOwn
import HandS.ExcValue
import HandS.ExcIs
import HandS.IsInst
import HandS.StrMore
import HandS.FStr
import HandS.Style
import HandS.Wide
import HandS.WideBits
import HandS.RaiseMore
import HandS.Small
import HandS.Evl
import HandS.Defaults
import KE.KExcSuper
import KE.KExcIs
import PySem.Challenge.RW_pricedreels_k47_gains_of_whole_sets
import KE.DataMinMax
import HandS.TupMul
import HandS.TupAny
import PyProof.InstEq
import HandS.OwnEq
import HandS.Zip
import HandS.Walk
import PyProof.Draws
import PyProof.ReprReads
import PyProof.ReprHeads
import PyProof.ReprDict
import HandS.FStrTup
import PyProof.EqKinds
import PyProof.FactsAll.dict_1
import PyProof.FactsAll.subtypes_3
import HandS.Deep
import HandS.TupSets
import KE.SortData
import HandS.Sort
import HandS.List
import HandS.Strs
import HandS.SetFor
import PyProof.Rows.SetFrom
import HandS.SortRule
import HandS.NamedTupSort
import HandS.Conv
import PyProof.StrOps2
import KE.RegKSuper
import KE.KExcLine
set_option Elab.async false
set_option linter.all false
set_option maxRecDepth 100000
set_option maxHeartbeats 4000000
namespace KA
open PySem PySem.Spec PyProof.Rows L2
section
variable {X : Cx}
/-- text * int -/
def rMulS : R2 := fun x y H Q => ∃ (a : Str) (n : Int), x = .str a ∧ y = .int n ∧ 0 ≤ n ∧ n ≤ 1000 ∧ a.length ≤ 1000 ∧ Q (.str (Txt.mul a n)) H
theorem op_mulS : OpR X (binaryOp .Mult) rMulS := by
  intro pins s σ H x y v u Q I rx ry h
  obtain ⟨a, n, rfl, rfl, h0, h1, h2, q⟩ := h
  obtain ⟨t, rfl⟩ := rx
  obtain ⟨t', rfl⟩ := ry
  refine SB.mul ⟨?_, fun hn hz => ?_, fun hn hz => ?_⟩ fun t' k => ⟨.str (Txt.mul a n), H, I.tok _, ⟨_, rfl⟩, q⟩
  · simp
    omega
  · have h3 : (1000 : Int) ≤ (2 ^ 63 - 1) / n := by
      refine Int.le_ediv_of_mul_le (by omega) ?_
      omega
    omega
  · have : a.length * n.toNat ≤ 1000 * 1000 := Nat.mul_le_mul h2 (by omega)
    unfold Builtin.Str.tooLong
    simp
    have e : sizeLine = 16777216 := by rfl
    omega
end
end KA
namespace KA
open PySem PySem.Spec PyProof.Rows L2 PySem.W
/-- the binary digits of a number from 0 on, as a text -/
def binText (n : Nat) : Str := ⟨((Nat.toDigits 2 n).map Char.toNat).toArray⟩
def specB : Str := ⟨#[98]⟩
theorem digits_some (n : Nat) : ∃ d ds, (Nat.toDigits 2 n).map Char.toNat = d :: ds := by
  cases e : (Nat.toDigits 2 n).map Char.toNat with
  | nil =>
    have h := congrArg List.length e
    simp at h
  | cons d ds => exact ⟨d, ds, rfl⟩
theorem meets_b {a : Int} {t : Tok} (h0 : 0 ≤ a) (hl : (binText a.natAbs).length ≤ sizeLine) (u : Tok) :
    Meets (Builtin.«int.__format__» ⟨[.int a t, .str specB u], []⟩) (fun _ R s => ∀ t' k, R (.ok (.ret (.str (binText a.natAbs) t'))) { s with toks := k }) := by
  apply KPc.meets_of
  intro _ _ _ _ _ _ _
  unfold Builtin.«int.__format__»
  refine wpAny_bind (wpAny_of_eq (a := (_, _)) rfl ?_)
  refine wpAny_bind (wpAny_of_eq (a := _) rfl ?_)
  kxf_if
  refine wpAny_bind (wpAny_typeNameOf (T := "str") (typeIs_str _ _ _) (by decide) fun _ => ?_)
  refine wpAny_bind (wpAny_of_eq (a := some _) rfl ?_)
  kxf_if
  kxf_if
  refine wpAny_bind (wpAny_typeNameOfCut_int ?_)
  have hneg : decide (a < 0) = false := decide_eq_false (by omega)
  (repeat kxf_if)
  refine KXf.ret_text (T := binText a.natAbs) ?_ ?_ ?_
  · rw [hneg]
    obtain ⟨d, ds, e⟩ := digits_some a.natAbs
    unfold binText
    rw [e]
    generalize hL : List.map _ _ = L
    have eL : L = d :: ds := hL.symm.trans e
    subst eL
    show ((⟨(List.replicate (((-1 : Int) - ((([] : List Nat).length : Nat) + (([] : List Nat).length : Nat) + (([] : List Nat).length : Nat)) - ((List.replicate ((0 : Int).toNat - (d :: ds).length) 48 ++ (d :: ds)).length : Nat)).toNat) 32 ++ ([] : List Nat) ++ [] ++ List.replicate 0 32 ++ (List.replicate ((0 : Int).toNat - (d :: ds).length) 48 ++ (d :: ds)) ++ [] ++ List.replicate 0 32).toArray⟩ : Str)) = _
    have z1 : (0 : Int).toNat - (d :: ds).length = 0 := by simp
    rw [z1]
    have z2 : ((-1 : Int) - ((([] : List Nat).length : Nat) + (([] : List Nat).length : Nat) + (([] : List Nat).length : Nat)) - ((List.replicate 0 48 ++ (d :: ds)).length : Nat)).toNat = 0 := by
      simp
      omega
    rw [z2]
    simp
  · rw [hneg]
    obtain ⟨d, ds, e⟩ := digits_some a.natAbs
    unfold binText at hl
    rw [e] at hl
    generalize hL : List.map _ _ = L
    have eL : L = d :: ds := hL.symm.trans e
    subst eL
    show (⟨(List.replicate (((-1 : Int) - ((([] : List Nat).length : Nat) + (([] : List Nat).length : Nat) + (([] : List Nat).length : Nat)) - ((List.replicate ((0 : Int).toNat - (d :: ds).length) 48 ++ (d :: ds)).length : Nat)).toNat) 32 ++ ([] : List Nat) ++ [] ++ List.replicate 0 32 ++ (List.replicate ((0 : Int).toNat - (d :: ds).length) 48 ++ (d :: ds)) ++ [] ++ List.replicate 0 32).toArray⟩ : Str).length ≤ _
    have z1 : (0 : Int).toNat - (d :: ds).length = 0 := by simp
    rw [z1]
    have z2 : ((-1 : Int) - ((([] : List Nat).length : Nat) + (([] : List Nat).length : Nat) + (([] : List Nat).length : Nat)) - ((List.replicate 0 48 ++ (d :: ds)).length : Nat)).toNat = 0 := by
      simp
      omega
    rw [z2]
    simpa using hl
  · assumption
end KA
namespace KA
open PySem PySem.Spec PyProof.Rows L2 PySem.W
section
variable {X : Cx}
/-- f'{e:b}', a number from 0 on -/
theorem pe_fmtB {e : Expr} {te : TE} {pos p1 p2 : Pos} {k : Nat} (he : PE X e te) :
    PE X (.FormattedValue e (-1) (some (.JoinedStr [.Constant (.str "b") k p1] p2)) pos) (fun σ H Q => te σ H fun x H1 => ∃ i : Int, x = .int i ∧ 0 ≤ i ∧ (binText i.natAbs).length ≤ sizeLine ∧ Q (.str (binText i.natAbs)) H1) := by
  refine ⟨fun pins s σ H Q I h => ?_⟩
  refine wpAny_FormattedValue_spec (thn (he.run pins s σ H _ I h) fun v s1 hv => ?_)
  obtain ⟨x, H1, I1, r1, i, rfl, h0, hz, q⟩ := hv
  obtain ⟨t, rfl⟩ := r1
  refine wpAny_JoinedStr_one ?_
  refine Calls.Constant_str ⟨("b" : Str), _, rfl, ?_⟩
  exact KXf.field_int (spec' := specB) (by decide +kernel) (by decide) (by decide) (fun u => meets_b h0 hz u) fun t' k => ⟨.str (binText i.natAbs), H1, (I1.tok _).tok _, ⟨_, rfl⟩, q⟩
end
end KA
namespace KA
open PySem PySem.Spec PyProof.Rows L2 PySem.W
/-! ### an exception that was caught, kept as a value -/
/-- an exception of the class cls with the own dict d stands at a -/
def ExV (cls : Value) (d : Option Addr) (a : Addr) : HO := .ext fun h => ∃ oe : Obj, h.get? a = some oe ∧ Zc cls d oe ∧ ∃ vs, oe.data = .fields vs
theorem exV_ok {P : Program} {w : World} {H : Hp} {h : Heap} {a : Addr} {cls : Value} {d : Option Addr} {oe : Obj} {vs : Array Value} (e : h.get? a = some oe) (z : Zc cls d oe) (f : oe.data = .fields vs) :
    ObjOk P w H h a (ExV cls d a) := ⟨⟨oe, e, z, vs, f⟩, ⟨oe, e⟩, fun _ _ ⟨o, q, r⟩ k => ⟨o, k o q, r⟩⟩
section
variable {X : Cx} {pins : List (Addr × Obj)} {σ : L2.St} {H : Hp} {s : Shared}
/-- what was pinned, and did not stand at the entry, is tracked from here on -/
theorem track {a : Addr} {oe : Obj} {φ : Heap → Prop} (J : Inv X ((a, oe) :: pins) σ H s) (ok : X.Ok) (n0 : X.s_0.heap.get? a = none) (np : ∀ p ∈ X.pn ++ pins, p.1 ≠ a)
    (new : ObjOk X.prog X.w (upd H a (.ext φ)) s.heap a (.ext φ)) : Inv X pins σ (upd H a (.ext φ)) s := by
  obtain ⟨ea, na, nL, notF, nc⟩ := J.pin (a, oe) (List.mem_append_right _ List.mem_cons_self)
  have nz : ∀ b u, H b = some u → b ≠ a := fun b u q => ne_of_none q na
  have cut : ∀ p, p ∈ X.pn ++ pins → p ∈ X.pn ++ (a, oe) :: pins := fun p hp => by
    rcases List.mem_append.mp hp with h | h
    · exact List.mem_append_left _ h
    · exact List.mem_append_right _ (List.mem_cons_of_mem _ h)
  have old : ∀ b o, X.s_0.heap.get? b = some o → b ≠ a := fun b o q z => by
    rw [z, n0] at q
    cases q
  have base : Un X.fs X.ex X.H_0 (upd H a (.ext φ)) X.s_0.heap s.heap :=
    { keep := J.base.keep, slot := J.base.slot, there := J.base.there
      free := fun b o q n hx => (upd_ne (old b o q)).trans (J.base.free b o q n hx)
      tups := fun b xs q => (upd_ne (nz b _ (J.base.tups b xs q))).trans (J.base.tups b xs q)
      frzs := fun b o u q => (upd_ne (nz b _ (J.base.frzs b o u q))).trans (J.base.frzs b o u q)
      tbls := fun b ps q => by
        obtain ⟨more, z⟩ := J.base.tbls b ps q
        exact ⟨more, (upd_ne (nz b _ z)).trans z⟩ }
  have apart : ∀ b, b ≠ a → H b = none → upd H a (.ext φ) b = none := fun b hb hn => (upd_ne hb).trans hn
  have ce : ∀ x c, X.env.cells.lookup x = some c → c ≠ a := fun x c q z => by
    obtain ⟨v, o, ho, hd⟩ := J.cell x c q
    rw [z, ea] at ho
    cases ho
    exact nc v hd
  have hk : HOk X.prog X.w (upd H a (.ext φ)) s.heap := fun b o q => by
    by_cases hb : b = a
    · subst hb
      rw [upd_same] at q
      cases q
      exact new
    · rw [upd_ne hb] at q
      exact (J.hok b o q).stay (fun c v _ r => r) (fun c r => (upd_ne (nz c _ r)).trans r) (fun c xs r => (upd_ne (nz c _ r)).trans r)
  have pk : ∀ p ∈ X.pn ++ pins, s.heap.get? p.1 = some p.2 ∧ upd H a (.ext φ) p.1 = none ∧ p.1 ≠ X.env.locals ∧ p.1 ∉ X.fs ∧ ∀ v, p.2.data ≠ .cell v := fun p hp => by
    obtain ⟨e1, e2, e3⟩ := J.pin p (cut p hp)
    exact ⟨e1, apart _ (np p hp) e2, e3⟩
  exact { ok := ok, os := J.os, bare := J.bare, base := base, loc := J.loc, cell := J.cell, free := apart _ (Ne.symm nL) J.free
          freeC := fun x c q => apart _ (ce x c q) (J.freeC x c q), pin := pk, hok := hk, len := J.len }
end
/-- what 'except x as n: m = n' wishes of an exception of the body: it is of the clause's class, and m holds it behind the try (slots: n in i, m in j) -/
def wKeep (K : PySem.W.Frag) (c : Value) (i j len : Nat) (D : Ends) : WX := fun cls d σ H =>
  PySem.W.exmOne K cls c = some true ∧ ∀ a, H a = none → σ.length = len → D.nx ((((σ.set i (some (.ref a))).set j (some (.ref a)))).set i none) (upd H a (ExV cls d a))
section
variable {X : Cx} {x n m : Str} {c : Value} {i j : Nat} {body : List Stmt} {np pm pr pa ph pt : Pos} {tb : WX → TS}
theorem ps_try_keep (hx : X.ex = []) (hs : X.stack = X.env :: X.outer) (hf : X.env.frame = some X.env.locals) (hN : X.N.Nodup) (hi : X.N[i]? = some n) (hj : X.N[j]? = some m) (hln : X.env.kindOf n = some .local) (hlm : X.env.kindOf m = some .local) (hc : Names X x c)
    (hd : (n == ("__debug__" : Str)) = false) (hcd : (n == ("__classdict__" : Str)) = false)
    (hb : ∀ (W : WX) (pn : List (Addr × Obj)) (xe : Value → Shared → Prop), Takes (X.tr pn xe) W → PassesOwn (model X.prog X.w) X.A X.env xe → PSs (X.tr pn xe) body (tb W)) :
    PS X (.Try body [.ExceptHandler (some (.Name x np)) (some n) [.Assign [.Name m pm] (.Name n pr) pa] ph] [] [] pt) (fun D σ H => tb (wKeep X.K c i j X.N.length D) D σ H) := by
  refine ⟨fun pins s σ H D I h => wpAny_Try_except ?_⟩
  have ok := I.ok
  have fr : X.A.frames = some (X.env :: X.outer) := ok.frames.trans (congrArg some hs)
  have ways : ∀ u s', XE (X.tr (X.pn ++ pins) (fun e s₁ => wpAny (model X.prog X.w) X.A (noteFrame e X.env)
      (fun _ s₂ => wpAny (model X.prog X.w) X.A (setFlight e none)
        (fun _ s₃ => wpAny (model X.prog X.w) X.A (handleBy e X.env [.ExceptHandler (some (.Name x np)) (some n) [.Assign [.Name m pm] (.Name n pr) pa] ph]) (SP X pins D) X.xe s₃) X.xe s₂) X.xe s₁)) (wKeep X.K c i j X.N.length D) u s' →
      wpAny (model X.prog X.w) X.A (noteFrame u X.env)
        (fun _ s₂ => wpAny (model X.prog X.w) X.A (setFlight u none)
          (fun _ s₃ => wpAny (model X.prog X.w) X.A (handleBy u X.env [.ExceptHandler (some (.Name x np)) (some n) [.Assign [.Name m pm] (.Name n pr) pa] ph]) (SP X pins D) X.xe s₃) X.xe s₂) X.xe s' := by
    rintro u s' ⟨a, B, sI, pins', σ', H', cls, d, rfl, Jt, nb, up, sky, na, os, ag, hyes, hgo⟩
    have J : Inv X pins σ' H' sI := Jt.ofTry ok
    have nb : ∀ b o, sI.heap.get? b = some o → b ∉ frs X.stack → B.get? b = some o := nb
    have sky : Sky B (X.env :: X.outer) a (Zc cls d) X.env.locals s'.heap := hs ▸ sky
    refine Sky.land Zc.steady fr hf sky fun h3 air3 grow3 => ?_
    have J3 : Inv X pins σ' H' { s' with heap := h3 } := J.landed nb air3.1 (up.trans grow3) os ag
    obtain ⟨o3, v3, e3, z3, f3⟩ := air3.there
    have away : a ∉ frs (X.env :: X.outer) := fun hm => by
      obtain ⟨_, o', e', hnf⟩ := air3.2.2.1.mem hm
      cases e3.symm.trans e'
      exact hnf _ f3
    have nL : a ≠ X.env.locals := fun z => away (List.mem_filterMap.mpr ⟨X.env, List.mem_cons_self, hf.trans (congrArg some z.symm)⟩)
    have notF : a ∉ X.fs := fun hm => by
      obtain ⟨e, inX, q⟩ := List.mem_filterMap.mp hm
      exact away (List.mem_filterMap.mpr ⟨e, List.mem_cons_of_mem _ inX, q⟩)
    have gone : sI.heap.get? a = none := by
      cases q : sI.heap.get? a with
      | none => rfl
      | some o =>
        have z := nb a o q (by rw [hs]; exact away)
        rw [air3.2.1] at z
        cases z
    have n0 : X.s_0.heap.get? a = none := by
      cases q : X.s_0.heap.get? a with
      | none => rfl
      | some o =>
        obtain ⟨o', z⟩ := J.base.there a o q (by rw [hx]; exact fun z => nomatch z)
        rw [gone] at z
        cases z
    have np' : ∀ p ∈ X.pn ++ pins, p.1 ≠ a := fun p hp z => by
      have q := (J.pin p hp).1
      rw [z, gone] at q
      cases q
    have S3 := J3.suite e3 f3 na nL notF
    refine wpAny_handleBy_cons (codeAny_handlers_test ?_) (by intro q; cases q)
    have LT : PySem.W.Looks (model X.prog X.w) h3 (typeOf (.ref a)) cls := fun A Q E s k q => wpAny_typeOf_ref (k _ _ e3) (z3.1.symm ▸ q)
    have LM := PySem.W.exm_one (M := model X.prog X.w) J3.kIn LT hyes
    have named : ∀ {Q E : Value → Shared → Prop}, Q c { s' with heap := h3 } →
        wpAny (model X.prog X.w) (X.A.mark (some (.ref a))) (eval (.Name x np) X.env) Q E { s' with heap := h3 } := fun {Q E} q => by
      obtain ⟨g, gd, gm | ⟨gm, gv, gn⟩⟩ := hc
      · exact ld_glob (X := X.suite a _) S3 g gm q gd
      · exact ld_blt (X := X.suite a _) S3 g gm gv q gn gd
    refine named (LM.here (codeAny_handlers_suite_as ?_))
    refine HandSPX.lands_againZ air3 fun h4 air4 grow4 => ?_
    have J4 : Inv X pins σ' H' { s' with heap := h4 } := J.landed nb air4.1 ((up.trans grow3).trans grow4) os ag
    obtain ⟨o4, v4, e4, z4, f4⟩ := air4.there
    refine store_ok (X := X.suite a ((a, o4) :: (X.pn ++ pins))) (v := .ref a) (J4.suite e4 f4 na nL notF) hN hi (.inl hln) rfl (fun s5 S5 => ?_) (.inr hln)
    have assign : PSs (X.suite a ((a, o4) :: (X.pn ++ pins))) [.Assign [.Name m pm] (.Name n pr) pa] (tAsg (tVar i) (gName j)) :=
      pss_one (ps_set (i := j) hN hj (.inl hlm) (pe_var hi (.inl hln) hd hcd) (hf := .inr hlm))
    have hlt : i < (σ'.set i (some (V.ref a))).length := by
      rw [List.length_set, J.len]
      exact (List.getElem?_eq_some_iff.mp hi).1
    refine wpAny_mono (assign.run [] s5 _ H' { D with nx := fun σ6 H6 => σ6 = (σ'.set i (some (.ref a))).set j (some (.ref a)) ∧ H6 = H', rt := fun _ _ => False, bk := fun _ _ => False, ct := fun _ _ => False } S5
      ⟨.ref a, by rw [List.getElem?_set_self (by simpa using hlt)], rfl, rfl⟩) (fun f s6 q6 => ?_) (fun _ _ z => z.elim)
    cases f with
    | next =>
      obtain ⟨σ6, H6, S6, eσ, eH⟩ := q6
      subst eσ
      subst eH
      have U : Inv X pins _ H6 s6 := S6.unsuite ok
      have P6 := S6.pin (a, o4) (List.mem_append_left _ List.mem_cons_self)
      have pin2 : ∀ p ∈ X.pn ++ (a, o4) :: pins, s6.heap.get? p.1 = some p.2 ∧ H6 p.1 = none ∧ p.1 ≠ X.env.locals ∧ p.1 ∉ X.fs ∧ ∀ v, p.2.data ≠ .cell v := fun p hp => by
        rcases List.mem_append.mp hp with h | h
        · exact U.pin p (List.mem_append_left _ h)
        · rcases List.mem_cons.mp h with e | h
          · rw [e]
            exact P6
          · exact U.pin p (List.mem_append_right _ h)
      have U2 : Inv X ((a, o4) :: pins) _ H6 s6 := { U with pin := pin2 }
      refine gone_ok U2 hN hi hln fun s7 J7 => ?_
      have P7 := (J7.pin (a, o4) (List.mem_append_right _ List.mem_cons_self)).1
      exact ⟨_, _, track J7 ok n0 np' (exV_ok P7 z4 f4), hgo a na J.len⟩
    | brk =>
      obtain ⟨_, _, _, z⟩ := q6
      exact z.elim
    | cont =>
      obtain ⟨_, _, _, z⟩ := q6
      exact z.elim
    | ret u =>
      obtain ⟨_, _, _, _, _, z⟩ := q6
      exact z.elim
  refine wpAny_mono ((hb (wKeep X.K c i j X.N.length D) (X.pn ++ pins) _ ways PassesOwn.looking).run [] s σ H D (I.toTry _) h) (fun f s1 q => ?_) fun _ _ z => z
  cases f with
  | next =>
    obtain ⟨σ1, H1, J1, q1⟩ := q
    exact wpAny_execs_nil ⟨σ1, H1, J1.ofTry ok, q1⟩
  | brk =>
    obtain ⟨σ1, H1, J1, q1⟩ := q
    exact ⟨σ1, H1, J1.ofTry ok, q1⟩
  | cont =>
    obtain ⟨σ1, H1, J1, q1⟩ := q
    exact ⟨σ1, H1, J1.ofTry ok, q1⟩
  | ret u =>
    obtain ⟨v, σ1, H1, J1, r, q1⟩ := q
    exact ⟨v, σ1, H1, J1.ofTry ok, r, q1⟩
end
end KA
namespace KA
open PySem PySem.Spec PyProof.Rows L2 PySem.W
/-- isinstance of an exception that is kept as a value, its class without fields of its own -/
def rIsV (K : PySem.W.Frag) : List V → Hp → VK → Prop := fun xs H Q => ∃ (a D : Addr) (c : V) (cv : Value) (b : Bool), xs = [.ref a, c] ∧ H a = some (ExV (.ref D) none a) ∧ ExcC K D ∧ ClsV c cv ∧ PySem.W.kitOne K (.ref D) cv = some b ∧ Q (.bl b) H
def rIs2 (K : PySem.W.Frag) : List V → Hp → VK → Prop := fun xs H Q => rIsi K xs H Q ∨ rIsV K xs H Q
section
variable {X : Cx}
theorem call_isV : CallR X (.builtin "isinstance") (rIsV X.K) := by
  intro pins s σ H xs us Q I r h
  obtain ⟨a, D, c, cv, b, rfl, ha, C, k, e, q⟩ := h
  obtain ⟨u1, u2, rfl, r1, r2⟩ := vals2 r
  cases k.eq r2
  cases (show u1 = Value.ref a from r1)
  obtain ⟨⟨oe, h1, ⟨z1, z2⟩, vs, z3⟩, _⟩ := I.hok a _ ha
  obtain ⟨oc, od, dt, sl⟩ := oe
  dsimp only at z1 z2 z3
  subst z1 z2 z3
  have J : PySem.W.InstAt s.heap a ⟨.ref D, none, .fields vs, sl⟩ D none := ⟨h1, rfl, rfl, trivial⟩
  exact PySem.W.kia_one (PySem.W.handS_kitx_exc C.hg C.hk C.hs C.hd C.ha C.hn C.ht C.hm) I.kIn J e (fun z => nomatch z) fun tk => ⟨.bl b, H, I.tok tk, rfl, q⟩
theorem call_is2 : CallR X (.builtin "isinstance") (rIs2 X.K) := by
  intro pins s σ H xs us Q I r h
  rcases h with h | h
  · exact call_isi pins s σ H xs us Q I r h
  · exact call_isV pins s σ H xs us Q I r h
/-- repr of data -/
def rRepr (K : PySem.W.Frag) : List V → Hp → VK → Prop := fun xs H Q => ∃ (x : Addr) (d : PyData), xs = [.ref x] ∧ Dp K H (.ref x) d ∧ d.showable = true ∧ d.hasDict = false ∧ d.depth ≤ 60 ∧ d.shown.length ≤ sizeLine ∧ Q (.str d.shown) H
theorem call_repr {k : Nat} (hg : X.A.guards = some []) (hr : Room k X.A) : CallR X (.builtin "repr") (rRepr X.K) := by
  intro pins s σ H xs us Q I r h
  obtain ⟨x, d, rfl, hd, hs, hn, hz, hl, q⟩ := h
  obtain ⟨u1, rfl, r1⟩ := vals1 r
  cases (show u1 = Value.ref x from r1)
  obtain ⟨as, rd⟩ := Dp.reads I d (.ref x) (.ref x) hd rfl
  have hu := hr.un
  refine repr_of_reads' rd hs (fun z => by rw [hn] at z; cases z) hg (by omega) (fun _ _ e => e) (fun h' u tk hk => ?_) hl
  exact ⟨.str d.shown, H, I.kept (t' := tk) hk, ⟨_, rfl⟩, q⟩
end
end KA
namespace KA
open PySem PySem.Spec PyProof.Rows L2 PySem.W LamX
section
variable {X : Cx}
/-- caught: what the lambda raises is kept and handed back, None if it raises nothing -/
def TCaught (K : PySem.W.Frag) (CS : Addr) : (XK → Hp → VK → Prop) → Hp → VK → Prop := fun tl H Q => ∀ Q1 : VK, (∀ v H', Q .non H' → Q1 v H') →
  tl (fun cls d H' => PySem.W.exmOne K cls (.ref CS) = some true ∧ ∀ a, H' a = none → Q (.ref a) (upd H' a (ExV cls d a))) H Q1
theorem caught_gives {a e n m q x : Str} {sg : Scope} {g CS : Addr} {cdg : Value} {j1 : Nat} {p1 p2 p3 p4 p5 p6 p7 p8 p9 pa pb pc pd pe : Pos} (S : FnScope [a, m, n] [a] sg)
    (la : sg.names.lookup a = some .local) (lm : sg.names.lookup m = some .local) (ln : sg.names.lookup n = some .local) (he : sg.names.lookup e = some .globalImplicit) (hme : X.mg e = some (.ref CS)) (hde : (e == ("__debug__" : Str)) = false)
    (d1 : (n == ("__debug__" : Str)) = false) (d2 : (n == ("__classdict__" : Str)) = false) (d3 : (m == ("__debug__" : Str)) = false) (d4 : (m == ("__classdict__" : Str)) = false) :
    GivesTo X [a, m, n] x sg g cdg
      [.Assign [.Name m p1] (.Constant .none j1 p2) p3,
       .Try [.Expr (.Call (.Name a p4) [] [] p5) p6] [.ExceptHandler (some (.Name e p7)) (some n) [.Assign [.Name m p8] (.Name n p9) pa] pb] [] [] pc,
       .Return (some (.Name m pd)) pe] a q (TCaught X.K CS) := by
  intro f c' s H Q tl act hc h
  have hgl : Gl (cxOf C8.CX0 X.prog X.w X.K X.mg X.base [a, m, n] x sg g cdg X.A X.stack s H C8.E0).nox e := he
  refine ⟨_, pss_cons (ps_set (i := 1) S.nd rfl (.inl lm) pe_non) (pss_cons (ps_try_keep (X := (cxOf C8.CX0 X.prog X.w X.K X.mg X.base [a, m, n] x sg g cdg X.A X.stack s H C8.E0).nox) (c := .ref CS) (i := 2) (j := 1)
      (tb := fun W D σ H => ∃ Eb : XK, (∀ cls d σ' H', Eb cls d H' → W cls d σ' H') ∧ σ[0]? = some (some (.ref f)) ∧ H c' = some (CodeO c' q) ∧ tl Eb H (fun _ H' => D.nx σ H'))
      rfl rfl rfl S.nd rfl rfl ln lm ⟨hgl, hde, .inl hme⟩ d1 d2 (fun W pn xe tk _ => ?_))
    (pss_one (ps_ret (pe_var (i := 1) rfl (.inl lm) d3 d4)))), ?_⟩
  · refine ⟨fun pins s' σ H' D I h' => ?_⟩
    obtain ⟨Eb, wish, h1, h2, h3⟩ := h'
    exact (pss_one (ps_expr (act W pn xe Eb p4 p5 tk wish))).run pins s' σ H' D I ⟨h1, h2, h3⟩
  · refine ⟨fun cls d H' => PySem.W.exmOne X.K cls (.ref CS) = some true ∧ ∀ a, H' a = none → Q (.ref a) (upd H' a (ExV cls d a)), fun cls d σ' H' ⟨e1, e2⟩ => ⟨e1, fun b hb hl => ?_⟩, rfl, hc, ?_⟩
    · match σ', hl with
      | [u, v, w], _ => exact ⟨_, rfl, e2 b hb⟩
    · exact h _ fun v H' z => ⟨_, rfl, z⟩
end
end KA
namespace KA
open PySem PySem.Spec PyProof.Rows L2 PySem.W LamX
/-! ### what the top has written, by name -/
/-- a def of the top -/
structure DefT (K : PySem.W.Frag) (mg : Str → Option Value) (x : Str) (st : Stmt) where
  a : Addr
  d : FuncData
  f : Fun K x x st a d
  m : mg x = some (.ref a)
abbrev veB : List Value := [.type "ValueError", .type "Exception", .type "BaseException", .type "object"]
/-- an exception class of the top over ReelError at R, without an __init__ of its own -/
structure ExcT (K : PySem.W.Frag) (mg : Str → Option Value) (x : Str) (R : Addr) where
  C : Addr
  g : mg x = some (.ref C)
  q : PySem.W.excIn K C veB "ValueError.__new__" = true
  k : PySem.W.keepIn K (.ref C) = true
  b : PySem.W.subIn K (.ref C) (.type "BaseException") = some true
  t : PySem.W.typeIn K (.ref C) = some (.type "type")
  r : PySem.W.subIn K (.ref C) (.ref R) = some true
  e : ExcC K C
/-- ReelError -/
structure ReelT (K : PySem.W.Frag) (mg : Str → Option Value) where
  C : Addr
  g : mg "ReelError" = some (.ref C)
  b : PySem.W.subIn K (.ref C) (.type "BaseException") = some true
  t : PySem.W.typeIn K (.ref C) = some (.type "type")
  d : PySem.W.hasDictIn K C = true
theorem ExcT.exm {K : PySem.W.Frag} {mg : Str → Option Value} {x : Str} (R : ReelT K mg) (T : ExcT K mg x R.C) : PySem.W.exmOne K (.ref T.C) (.ref R.C) = some true := PySem.W.exm_ref R.b R.d R.t T.r
/-- an int constant of the top -/
def CstT (mg : Str → Option Value) (x : Str) (n : Int) : Prop := ∃ t, mg x = some (.int n t)
abbrev C1 := L2.CX
theorem passE {X : Cx} : Passes (L2.CX X.prog X.w) X E0 := passL
section
variable {X : Cx} {E : XK}
/-- raise C('..') in a def that lets it out -/
theorem ps_raiseT {K : PySem.W.Frag} {mg : Str → Option Value} {x : Str} {R : Addr} {pos p1 p2 pc : Pos} {j : Nat} {m : Str} (hK : X.K = K) (hM : X.mg = mg) (T : ExcT K mg x R) (hg : Gl X x) (hc : X.calm = true) {W : WX} (tk : Takes X W)
    (hdb : (x == ("__debug__" : Str)) = false := by decide) :
    PS X (.Raise (some (.Call (.Name x p1) [.Constant (.str m) j pc] [] p2)) none pos) (fun _ σ H => W (.ref T.C) none σ H) := by
  subst hK
  subst hM
  exact ps_raise hc tk (pmk_own PySem.F.excBase_ValueError T.q T.g T.k (raises_own T.b T.t) hg hdb)
end
end KA
namespace KA
open PySem PySem.Spec PyProof.Rows L2 PySem.W LamX
/-! ### the law's own draws: their state -/
abbrev kLarge : Key := Sum.inr "large"
abbrev kCells : Key := Sum.inr "cells"
abbrev kLeft : Key := Sum.inr "left"
abbrev kTurn : Key := Sum.inr "turn"
def stKv (lg cl : Addr) (left turn : Int) : List (Key × V) := [(kLarge, .ref lg), (kCells, .ref cl), (kLeft, .int left), (kTurn, .int turn)]
section
variable {lg cl : Addr} {left turn : Int}
theorem k12 : ¬ kLarge = kCells := by decide +kernel
theorem k13 : ¬ kLarge = kLeft := by decide +kernel
theorem k14 : ¬ kLarge = kTurn := by decide +kernel
theorem k23 : ¬ kCells = kLeft := by decide +kernel
theorem k24 : ¬ kCells = kTurn := by decide +kernel
theorem k34 : ¬ kLeft = kTurn := by decide +kernel
theorem st_large : valV (stKv lg cl left turn) kLarge = some (.ref lg) := valV_pos rfl
theorem st_cells : valV (stKv lg cl left turn) kCells = some (.ref cl) := (valV_neg k12).trans (valV_pos rfl)
theorem st_left : valV (stKv lg cl left turn) kLeft = some (.int left) := (valV_neg k13).trans ((valV_neg k23).trans (valV_pos rfl))
theorem st_turn : valV (stKv lg cl left turn) kTurn = some (.int turn) := (valV_neg k14).trans ((valV_neg k24).trans ((valV_neg k34).trans (valV_pos rfl)))
theorem st_put_left (l : Int) : putK (stKv lg cl left turn) kLeft (.int l) = stKv lg cl l turn := by
  unfold putK
  rw [valV_any, st_left, Option.isSome_some, if_pos rfl]
  simp only [stKv, List.map_cons, List.map_nil, if_neg k13, if_neg k23, if_neg (Ne.symm k34), if_true]
theorem st_put_turn (t : Int) : putK (stKv lg cl left turn) kTurn (.int t) = stKv lg cl left t := by
  unfold putK
  rw [valV_any, st_turn, Option.isSome_some, if_pos rfl]
  simp only [stKv, List.map_cons, List.map_nil, if_neg k14, if_neg k24, if_neg k34, if_true]
end
/-- the state stands at st: the numbers that are left to draw from at lg, the script's at cl -/
structure StD (H : Hp) (st lg cl : Addr) (large cells : List Int) (left : Int) (turn : Nat) : Prop where
  d : H st = some (.dK (stKv lg cl left turn))
  l : H lg = some (.lst (large.map V.int))
  c : H cl = some (.lst (cells.map V.int))
  ne : lg ≠ cl
  pl : ∀ x ∈ large, 0 ≤ x
  p0 : 0 ≤ left
def StAt (H : Hp) (st lg cl : Addr) (n : Nat) : Prop := ∃ large cells left turn, StD H st lg cl large cells left turn ∧ turn ≤ n
/-- all but the state stands as it stood -/
def Kp (st lg : Addr) (H H' : Hp) : Prop := ∀ b o, H b = some o → b ≠ st → b ≠ lg → H' b = some o
theorem Kp.refl {st lg : Addr} {H : Hp} : Kp st lg H H := fun _ _ h _ _ => h
theorem Kp.trans {st lg : Addr} {H H1 H2 : Hp} (a : Kp st lg H H1) (b : Kp st lg H1 H2) : Kp st lg H H2 := fun c o h n1 n2 => b c o (a c o h n1 n2) n1 n2
theorem Kp.same {st lg : Addr} {H H1 : Hp} (a : Same H H1) : Kp st lg H H1 := fun c o h _ _ => a c o h
theorem Same.new {H : Hp} {p : Addr} {o : HO} (h : H p = none) : Same H (upd H p o) := fun b u e => by
  rw [upd_ne (ne_of_none e h)]
  exact e
theorem StD.same {H H' : Hp} {st lg cl : Addr} {large cells : List Int} {left : Int} {turn : Nat} (S : StD H st lg cl large cells left turn) (e : Same H H') : StD H' st lg cl large cells left turn :=
  { S with d := e _ _ S.d, l := e _ _ S.l, c := e _ _ S.c }
theorem StAt.same {H H' : Hp} {st lg cl : Addr} {n : Nat} (S : StAt H st lg cl n) (e : Same H H') : StAt H' st lg cl n := by
  obtain ⟨a, b, c, d, s, h⟩ := S
  exact ⟨a, b, c, d, s.same e, h⟩
theorem StAt.mono {H : Hp} {st lg cl : Addr} {n m : Nat} (S : StAt H st lg cl n) (h : n ≤ m) : StAt H st lg cl m := by
  obtain ⟨a, b, c, d, s, h'⟩ := S
  exact ⟨a, b, c, d, s, Nat.le_trans h' h⟩
theorem StD.st_lg {H : Hp} {st lg cl : Addr} {large cells : List Int} {left : Int} {turn : Nat} (S : StD H st lg cl large cells left turn) : st ≠ lg := ne_of S.d S.l (by intro z; cases z)
theorem StD.st_cl {H : Hp} {st lg cl : Addr} {large cells : List Int} {left : Int} {turn : Nat} (S : StD H st lg cl large cells left turn) : st ≠ cl := ne_of S.d S.c (by intro z; cases z)
/-- the state's dict is written -/
theorem StD.put {H : Hp} {st lg cl : Addr} {large cells : List Int} {left l : Int} {turn t : Nat} (S : StD H st lg cl large cells left turn) (h : 0 ≤ l) : StD (upd H st (.dK (stKv lg cl l t))) st lg cl large cells l t :=
  { d := upd_same, l := (upd_ne S.st_lg.symm).trans S.l, c := (upd_ne S.st_cl.symm).trans S.c, ne := S.ne, pl := S.pl, p0 := h }
theorem Kp.put {st lg : Addr} {H : Hp} {o : HO} : Kp st lg H (upd H st o) := fun b u e n _ => (upd_ne n).trans e
theorem Kp.put2 {st lg : Addr} {H : Hp} {o : HO} : Kp st lg H (upd H lg o) := fun b u e _ n => (upd_ne n).trans e
theorem dp_ints {K : PySem.W.Frag} {H : Hp} : ∀ ns : List Int, DpAll K H (ns.map V.int) (ns.map PyData.int)
  | [] => .nil
  | n :: r => .cons (.int n) (dp_ints r)
theorem dp_int_list {K : PySem.W.Frag} {H : Hp} {a : Addr} {ns : List Int} (h : H a = some (.lst (ns.map V.int))) : Dp K H (.ref a) (.list (ns.map PyData.int)) := .lst (SqL.of h) (dp_ints ns)
theorem dp_nil {K : PySem.W.Frag} {H : Hp} {a : Addr} (h : H a = some (.lst [])) : Dp K H (.ref a) (.list []) := .lst (SqL.of h) .nil
theorem lay_is : ∀ ns : List Int, PyData.canLayAll0 (ns.map PyData.int) = true ∧ PyData.depthAll (ns.map PyData.int) = 0
  | [] => ⟨rfl, rfl⟩
  | n :: r => by
    obtain ⟨h1, h2⟩ := lay_is r
    exact ⟨by simp [PyData.canLayAll0, PyData.canLay0, h1], by simp [PyData.depthAll, PyData.depth, h2]⟩
theorem shaped_is (ns : List Int) : SeqAt.shaped (.list (ns.map PyData.int)) = true := by
  obtain ⟨h1, h2⟩ := lay_is ns
  simp [SeqAt.shaped, PyData.canLay0, PyData.depth, h1, h2]
theorem shaped_nil : SeqAt.shaped (.list []) = true := shaped_is []
theorem eqv_ints_nil (ns : List Int) : PyData.eqv (.list (ns.map PyData.int)) (.list []) = ns.isEmpty := by
  cases ns <;> rfl
theorem st_merge (lg cl : Addr) (left turn : Int) : mergeK [] (stKv lg cl left turn) = stKv lg cl left turn := by
  unfold stKv mergeK
  simp only [List.foldl_cons, List.foldl_nil]
  rw [putK_new (kvs := []) _ valV_nil, List.nil_append]
  rw [putK_new (k := kCells) _ ((valV_neg (show ¬ kLarge = kCells from k12)).trans valV_nil), List.cons_append, List.nil_append]
  rw [putK_new (k := kLeft) _ ((valV_neg (show ¬ kLarge = kLeft from k13)).trans ((valV_neg (show ¬ kCells = kLeft from k23)).trans valV_nil)), List.cons_append, List.cons_append, List.nil_append]
  rw [putK_new (k := kTurn) _ ((valV_neg (show ¬ kLarge = kTurn from k14)).trans ((valV_neg (show ¬ kCells = kTurn from k24)).trans ((valV_neg (show ¬ kLeft = kTurn from k34)).trans valV_nil)))]
  rfl
theorem take_map_snoc {α β : Type} (f : α → β) (l : List α) (i : Nat) (x : α) (h : l[i]? = some x) : (l.take (i + 1)).map f = (l.take i).map f ++ [f x] := by
  rw [List.take_add_one, h]
  simp
theorem StAt.off {H : Hp} {st lg cl p : Addr} {n : Nat} (S : StAt H st lg cl n) (hp : H p = none) : p ≠ st ∧ p ≠ lg := by
  obtain ⟨_, _, _, _, S', _⟩ := S
  exact ⟨(ne_of_none S'.d hp).symm, (ne_of_none S'.l hp).symm⟩
end KA
namespace KA
open PySem PySem.Spec PyProof.Rows L2 PySem.W LamX
/-! ### calls by names alone; defs whose frame must know that no repr is running -/
section
variable {X : Cx} {CX : CXT} {k : Nat} {f : Addr} {fd : FuncData} {ps ks : List Str} {sp : Sp} {E : XK} {x : Str} {p pos : Pos} {kws : List Keyword} {tk : TA} {g : List Value → List Value → List Value} {gV : List V → List V → List V}
def tKw (m : Nat) (sp : Sp) (gV : List V → List V → List V) (E : XK) (tk : TA) : TE := fun σ H Q => tk σ H fun zs H2 => zs.length = m ∧ sp (gV [] zs) H2 Q E
/-- f(k = v, ..) -/
theorem pe_kw (F : FnOk X.prog X.w X.K X.mg X.base CX k f fd ps sp) (hr : Room k X.A) (hg : Gl X x) (hm : X.mg x = some (.ref f)) (hk : PySem.W.keepIn X.K (.ref f) = true) (hb : KBn X.K fd ps 0 ks g gV) (hx : Passes CX X E) (hkw : PK X kws tk)
    (named : (backToKw pos (keywordEach kws X.env)).all (·.1.isSome) = true := by rfl) (theirs : (backToKw pos (keywordEach kws X.env)).filterMap (·.1) = ks := by rfl) (hdb : (x == ("__debug__" : Str)) = false := by decide)
    (noStars : ((backTo pos (starEach [] X.env)).any (·.1) || (backToKw pos (keywordEach kws X.env)).any (·.1.isNone)) = false := by rfl) :
    PE X (.Call (.Name x p) [] kws pos) (tKw ks.length sp gV E tk) :=
  ⟨fun pins s σ H Q I h => wpAny_Call_Name_kw (ld_glob I hg hm (PySem.W.callWith_KW0 (h₀ := X.base) I.ok.mod.kin hk named (thn (hkw.run pos pins s σ H _ I h) fun ws s2 hw => by
    obtain ⟨zs, H2, I2, rz, l2, q2⟩ := hw
    refine ⟨I2.kIn, ?_⟩
    rw [theirs]
    exact run_fnN F hr hb hx I2 .nil rz rfl l2 q2) noStars) hdb)⟩
end
section
variable {K : PySem.W.Frag} {x qual : Str} {st : Stmt} {f : Addr} {fd : FuncData} {ps ks : List Str}
/-- one parameter, by its name -/
theorem Fun.kw1 {a : Str} (F : Fun K x qual st f fd) (h : ∀ (kV doc pm : Value) (an : Option Addr) (cdv ct u : Value), bindArgs (PySem.W.fnOf x qual (defArgs st) (defBody st) (defScope st) .none kV doc pm an cdv ct) ⟨[], [(a, u)]⟩ = pure [(a, u)]) :
    KBn K fd [a] 0 [a] (fun _ ws => ws) (fun _ zs => zs) := by
  obtain ⟨oc, od, kV, doc, pm, an, cdv, ct, osl, rfl, lk, hcd⟩ := F.ex
  refine ⟨fun s us ws X l1 l2 => ?_, fun _ r => r⟩
  match us, ws, l1, l2 with
  | [], [u], _, _ => exact .of_eq (h kV doc pm an cdv ct u)
/-- two parameters a, b, called as f(b = .., a = ..) -/
theorem Fun.kw2 {a b : Str} (F : Fun K x qual st f fd) (h : ∀ (kV doc pm : Value) (an : Option Addr) (cdv ct u v : Value), bindArgs (PySem.W.fnOf x qual (defArgs st) (defBody st) (defScope st) .none kV doc pm an cdv ct) ⟨[], [(b, u), (a, v)]⟩ = pure [(a, v), (b, u)]) :
    KBn K fd [a, b] 0 [b, a] (fun _ ws => ws.reverse) (fun _ zs => zs.reverse) := by
  obtain ⟨oc, od, kV, doc, pm, an, cdv, ct, osl, rfl, lk, hcd⟩ := F.ex
  refine ⟨fun s us ws X l1 l2 => ?_, fun {_ _ zs ws} _ r => ?_⟩
  · match us, ws, l1, l2 with
    | [], [u, v], _, _ => exact .of_eq (h kV doc pm an cdv ct u v)
  · clear h
    have rev : ∀ {zs : List V} {ws : List Value}, Vals zs ws → Vals zs.reverse ws.reverse := fun {zs ws} r => by
      induction r with
      | nil => exact .nil
      | cons h _ ih =>
        rw [List.reverse_cons, List.reverse_cons]
        exact ih.append (.cons h .nil)
    exact rev r
end
end KA
namespace KA
open PySem PySem.Spec PyProof.Rows L2 PySem.W LamX
/-- as FnOk, where no repr is running around the call -/
structure FnG (P : Program) (w : World) (K : PySem.W.Frag) (mg : Str → Option Value) (base : Heap) (CX : CXT) (k : Nat) (f : Addr) (fd : FuncData) (ps : List Str) (sp : Sp) : Prop where
  len : ∀ vs H Q E, sp vs H Q E → vs.length = ps.length
  run : ∀ (A : Around) (outer : List Env) (s : Shared) (H : Hp) (args : Args) (us : List Value) (vs : List V) (Q : VK) (E : XK), Room k A → A.guards = some [] →
    Env0 P w K mg base A outer s H → BindsTo s fd args (ps.zip us) → Vals vs us → sp vs H Q E → codeAny (model P w) A (.call (.ref f) args) (CR CX outer P w H s Q E) s
theorem fnG_of {CX : CXT} {P : Program} {w : World} {K : PySem.W.Frag} {mg : Str → Option Value} {base : Heap} {k : Nat} {f : Addr} {x qual : Str} {st : Stmt} {fd : FuncData} {N ps : List Str} {sp : Sp} (F : Fun K x qual st f fd) (S : FnScope N ps (defScope st))
    (len : ∀ vs H Q E, sp vs H Q E → vs.length = ps.length)
    (hbody : ∀ (cdv : Value) (A : Around) (outer : List Env) (s : Shared) (H : Hp) (vs : List V) (Q : VK) (E : XK), Room k (A.deeper (envOfC qual (defScope st) s.heap.objs.size f cdv)) → A.guards = some [] → sp vs H Q E →
      ∃ t, PSs (cxOf CX P w K mg base N qual (defScope st) f cdv A outer s H E) (defBody st) t ∧ t { nx := fun _ H' => Q .non H', rt := Q } (L2.start N vs) H) : FnG P w K mg base CX (k + 1) f fd ps sp := by
  obtain ⟨oc, od, kV, doc, pm, an, cdv, ct, osl, rfl, lk, hcd⟩ := F.ex
  exact ⟨len, fun A outer s H args us vs Q E hr hg e0 hb r h => run_ofS lk hcd S hr e0 hb r (len _ _ _ _ h) fun hr' => hbody cdv A outer s H vs Q E hr' hg h⟩
/-- what stands around the law's call: the script at a, the tables of cs (each a code object and its table) empty -/
structure Law (h : Heap) (mg mb : Str → Option Value) (K : PySem.W.Frag) (cs : List (Addr × Addr)) (a : Addr) (vs : List Value) (ns : List Int) : Prop where
  kx : K.In h
  nsM : h.Ns mainGlobals mg
  bn : h.Ns builtinsNs mb
  bb : ∀ x : Str, x ≠ "__name__" → mb x = bootBuiltins x
  lim : h.NoLimit
  tab : ∀ p ∈ cs, h.get? p.2 = some { cls := .none, data := .fields #[] }
  notab : ∀ p ∈ cs, K.lookup p.2 = none
  code : ∀ p ∈ cs, PySem.W.CodeHd h p.1 p.2
  bm : ∃ (bm : Addr) (ob : Obj), mg "__builtins__" = some (.ref bm) ∧ bm ≠ builtinsNs ∧ h.get? bm = some ob ∧ ob.cls = .type "module" ∧ ob.dict = some builtinsNs ∧ ob.data = .plain
  at_ : h.get? a = some { cls := .type "list", data := .seq vs.toArray }
  isI : IntsAre vs ns
  len : ns.length ≤ sizeLine
/-- the abstract heap at the law's call -/
def lawH (K : PySem.W.Frag) (cs : List (Addr × Addr)) (a : Addr) (vs : List Value) (ns : List Int) : Hp := fun b =>
  if b = a ∧ K.lookup a = none then some (.frz { cls := .type "list", data := .seq vs.toArray } (.lst (ns.map V.int)))
  else if b ∈ cs.map (·.2) then some (.tbl #[]) else none
section
variable {P : Program} {w : World} {K : PySem.W.Frag} {mg mb : Str → Option Value} {h : Heap} {cs : List (Addr × Addr)} {a : Addr} {vs : List Value} {ns : List Int}
theorem Law.tabAt (L : Law h mg mb K cs a vs ns) {b : Addr} (hb : b ∈ cs.map (·.2)) : h.get? b = some { cls := .none, data := .fields #[] } ∧ K.lookup b = none := by
  obtain ⟨p, hp, rfl⟩ := List.mem_map.mp hb
  exact ⟨L.tab p hp, L.notab p hp⟩
theorem Law.ne (L : Law h mg mb K cs a vs ns) {b : Addr} (hb : b ∈ cs.map (·.2)) : b ≠ a := fun z => by
  have q := (L.tabAt hb).1
  rw [z, L.at_] at q
  cases q
/-- what is tracked: the script, or a table -/
theorem Law.cases (L : Law h mg mb K cs a vs ns) {b : Addr} {u : HO} (e : lawH K cs a vs ns b = some u) :
    (b = a ∧ K.lookup a = none ∧ u = .frz { cls := .type "list", data := .seq vs.toArray } (.lst (ns.map V.int))) ∨ (b ∈ cs.map (·.2) ∧ u = .tbl #[]) := by
  unfold lawH at e
  split at e
  · rename_i c
    exact .inl ⟨c.1, c.2, (Option.some.inj e).symm⟩
  · split at e
    · rename_i c
      exact .inr ⟨c, (Option.some.inj e).symm⟩
    · cases e
theorem Law.tbl (L : Law h mg mb K cs a vs ns) {b : Addr} (hb : b ∈ cs.map (·.2)) : lawH K cs a vs ns b = some (.tbl #[]) := by
  unfold lawH
  rw [if_neg (fun z => L.ne hb z.1), if_pos hb]
theorem Law.seq (L : Law h mg mb K cs a vs ns) : SqL K (lawH K cs a vs ns) a (ns.map V.int) := by
  cases q : K.lookup a with
  | none => exact .inl (.inr ⟨_, by unfold lawH; rw [if_pos ⟨rfl, q⟩]⟩)
  | some o =>
    have e := L.kx a o q
    rw [L.at_] at e
    cases e
    exact .inr ⟨_, vs.toArray, _, q, rfl, rfl, rfl, by rw [List.size_toArray, L.isI.length]; exact L.len, by simpa using vals_ints L.isI⟩
theorem Law.hok (L : Law h mg mb K cs a vs ns) : HOk P w (lawH K cs a vs ns) h := fun b u e => by
  rcases L.cases e with ⟨rfl, _, rfl⟩ | ⟨hb, rfl⟩
  · exact ⟨L.at_, by rw [List.length_map]; exact L.len, vs, _, vals_ints L.isI, L.at_⟩
  · exact (L.tabAt hb).1
/-- an object that is neither a list nor an empty record is not tracked -/
theorem Law.free (L : Law h mg mb K cs a vs ns) {b : Addr} {o : Obj} (e : h.get? b = some o) (h1 : ∀ vs n, o.data ≠ .seq vs n) (h2 : o.data ≠ .fields #[]) : lawH K cs a vs ns b = none := by
  cases q : lawH K cs a vs ns b with
  | none => rfl
  | some u =>
    rcases L.cases q with ⟨rfl, _⟩ | ⟨hb, _⟩
    · rw [L.at_] at e
      cases e
      exact absurd rfl (h1 _ _)
    · rw [(L.tabAt hb).1] at e
      cases e
      exact absurd rfl h2
theorem Law.nsK (L : Law h mg mb K cs a vs ns) {b : Addr} {m : Str → Option Value} (x : h.Ns b m) : (hidT h (lawH K cs a vs ns)).Ns b m := by
  obtain ⟨o, es, ep, e, d, r⟩ := x
  refine ⟨o, es, ep, hidT_get e (L.free e (fun _ _ z => ?_) fun z => ?_), d, r⟩ <;> (rw [d] at z; cases z)
theorem Law.kin (L : Law h mg mb K cs a vs ns) : K.In (hidT h (lawH K cs a vs ns)) := fun b o e => hidT_get (L.kx b o e) (by
  cases q : lawH K cs a vs ns b with
  | none => rfl
  | some u =>
    rcases L.cases q with ⟨rfl, z, _⟩ | ⟨hb, _⟩
    · rw [z] at e
      cases e
    · rw [(L.tabAt hb).2] at e
      cases e)
theorem Law.mod (L : Law h mg mb K cs a vs ns) : L2.Mod K mg (hidT h (lawH K cs a vs ns)) := by
  obtain ⟨mc, h1, h2⟩ := L.lim
  exact ⟨L.kin, L.nsK L.nsM, ⟨mb, L.nsK L.bn, L.bb⟩, mc, L.nsK h1, h2⟩
theorem Law.main (L : Law h mg mb K cs a vs ns) {b : Addr} {o : Obj} (e : h.get? b = some o) (n : ∀ es ep, o.data ≠ .dict es ep) : b ≠ mainGlobals := fun z => by
  obtain ⟨o', es, ep, e', d, _⟩ := L.nsM
  rw [z, e'] at e
  cases e
  exact n _ _ d
theorem Law.tabs (L : Law h mg mb K cs a vs ns) : ∀ p ∈ cs, TabB (hidT h (lawH K cs a vs ns)) mg p.1 p.2 := fun p hp => by
  have hm : p.2 ∈ cs.map (·.2) := List.mem_map.mpr ⟨p, hp, rfl⟩
  have ht := (L.tabAt hm).1
  refine ⟨?_, ?_, fun z => L.main ht (fun _ _ q => by cases q) z.symm⟩
  · obtain ⟨o, us, file, tf, flags, tg, inF, text, tt, e1, r1, r2, r3, rest⟩ := L.code p hp
    refine ⟨o, us, file, tf, flags, tg, inF, text, tt, hidT_get e1 (L.free e1 (fun _ _ z => ?_) fun z => ?_), r1, r2, r3, rest⟩
    · rw [r2] at z
      cases z
    · rw [r2] at z
      cases z
      simp at r3
  · obtain ⟨bm, ob, b1, b2, b3, b4, b5, b6⟩ := L.bm
    refine ⟨bm, ob, b1, b2, L.main b3 (fun _ _ q => by rw [b6] at q; cases q), fun q => ?_, hidT_get b3 (L.free b3 (fun _ _ z => ?_) fun z => ?_), b4, b5, b6⟩
    · rw [q, ht] at b3
      cases b3
      cases b6
    · rw [b6] at z
      cases z
    · rw [b6] at z
      cases z
/-- an address of the heap at the call stands as it stood, or it is a table that has grown -/
theorem Law.stay (L : Law h mg mb K cs a vs ns) {s' : Shared} {H' : Hp} {b : Addr} {o : Obj} (un : Un [] [] (lawH K cs a vs ns) H' h s'.heap) (ok : HOk P w H' s'.heap) (e : h.get? b = some o) (nb : b ∉ cs.map (·.2)) : s'.heap.get? b = some o := by
  cases q : lawH K cs a vs ns b with
  | none => exact un.keep b o e q (by simp) (by simp)
  | some u =>
    rcases L.cases q with ⟨rfl, _, rfl⟩ | ⟨z, _⟩
    · have e2 := (ok b _ (un.frzs b _ _ q)).1
      rw [L.at_] at e
      rw [← e]
      exact e2
    · exact absurd z nb
theorem Law.grown (L : Law h mg mb K cs a vs ns) {s' : Shared} {H' : Hp} {b : Addr} (un : Un [] [] (lawH K cs a vs ns) H' h s'.heap) (ok : HOk P w H' s'.heap) (hb : b ∈ cs.map (·.2)) : ∃ more : Array Value, s'.heap.get? b = some { cls := .none, data := .fields more } := by
  obtain ⟨more, z⟩ := un.tbls b #[] (L.tbl hb)
  exact ⟨_, ok b _ z⟩
theorem Law.old (L : Law h mg mb K cs a vs ns) {s' : Shared} {H' : Hp} (un : Un [] [] (lawH K cs a vs ns) H' h s'.heap) (ok : HOk P w H' s'.heap) : OldK h s'.heap := by
  constructor
  · intro b o e
    by_cases hb : b ∈ cs.map (·.2)
    · obtain ⟨p, hp, rfl⟩ := List.mem_map.mp hb
      obtain ⟨more, hm⟩ := L.grown un ok hb
      have ht := L.tab p hp
      rw [ht] at e
      cases e
      refine .inr (.inl ⟨((L.code p hp).tab ht).isCodeTable, rfl, #[], more, rfl, ?_⟩)
      rw [Array.empty_append]
      exact hm
    · exact .inl (L.stay un ok e hb)
  · intro b o e
    by_cases hb : b ∈ cs.map (·.2)
    · obtain ⟨more, hm⟩ := L.grown un ok hb
      exact ⟨_, hm⟩
    · exact ⟨o, L.stay un ok e hb⟩
end
/-- the law, called with the script at a -/
theorem law_callG {P : Program} {w : World} {K : PySem.W.Frag} {mg mb : Str → Option Value} {CX : CXT} {k : Nat} {fa a : Addr} {cs : List (Addr × Addr)} {fd : FuncData} {x : Str} {sp : Sp} {s : Shared} {vs : List Value} {ns : List Int}
    (L : Law s.heap mg mb K cs a vs ns) (hg : s.gens = #[]) (hr : Room k callerA) (F : ∀ base : Heap, K.In base → base.Ns mainGlobals mg → (∀ p ∈ cs, TabB base mg p.1 p.2) → FnG P w K mg base CX k fa fd [x] sp)
    (hbind : ∀ (s : Shared) (u : Value), BindsTo s fd ⟨[u], []⟩ [(x, u)]) (hsp : ∀ H : Hp, (∀ p ∈ cs, H p.2 = some (.tbl #[])) → SqL K H a (ns.map V.int) → sp [.ref a] H (fun v _ => v = .bl true) fun _ _ _ => False)
    (hCX : ∀ H e s', CX [] H s (fun _ _ _ => False) e s' → False) :
    codeAny (model P w) callerA (.call (.ref fa) ⟨[.ref a], []⟩) (fun r s' => r = .ok (.ret (.bool true)) ∧ OldK s.heap s'.heap ∧ s'.os = s.os ∧ AllBare s'.gens) s := by
  have env : Env0 P w K mg (hidT s.heap (lawH K cs a vs ns)) callerA [] s (lawH K cs a vs ns) :=
    ⟨rfl, L.mod, fun _ _ => of_hidT, Nat.le_of_eq (hidT_size _ _), trivial, fun b hb => absurd (show b ∈ ([] : List Addr) from hb) List.not_mem_nil, L.hok, .of_eq hg⟩
  have pre := hsp (lawH K cs a vs ns) (fun p hp => L.tbl (List.mem_map.mpr ⟨p, hp, rfl⟩)) L.seq
  have run := (F _ L.kin (L.nsK L.nsM) L.tabs).run callerA [] s _ ⟨[.ref a], []⟩ [.ref a] [.ref a] _ _ hr rfl env (hbind s _) (.cons rfl .nil) pre
  refine codeAny_mono run fun r s' q => ?_
  match r, q with
  | .error e, q => exact (hCX _ e s' q).elim
  | .ok .next, q => exact False.elim q
  | .ok .brk, q => exact False.elim q
  | .ok .cont, q => exact False.elim q
  | .ok (.ret u), q =>
    obtain ⟨v, H', os, bare, un, ok, rv, e⟩ := q
    cases (show v = .bl true from e)
    cases (show u = Value.bool true from rv)
    exact ⟨rfl, L.old un ok, os, bare⟩
/-- what is known of the law at the head's heap h -/
def LawAtG (l : PySem.W.OpenLaw) (w : World) (K : PySem.W.Frag) (CX : CXT) (k n : Nat) (x : Str) (mg : Str → Option Value) (fa : Addr) (h : Heap) : Prop :=
  ∃ (fd : FuncData) (cs : List (Addr × Addr)) (sp : Sp), ((∀ p ∈ cs, h.get? p.2 = some { cls := .none, data := .fields #[] }) ∧ (∀ p ∈ cs, K.lookup p.2 = none) ∧ ∀ p ∈ cs, PySem.W.CodeHd h p.1 p.2) ∧
    (∀ (s : Shared) (u : Value), BindsTo s fd ⟨[u], []⟩ [(x, u)]) ∧
    (∀ (H : Hp) (a : Addr) (ns : List Int), ns.length ≤ n → (∀ p ∈ cs, H p.2 = some (.tbl #[])) → SqL K H a (ns.map V.int) → sp [.ref a] H (fun v _ => v = .bl true) fun _ _ _ => False) ∧
    ∀ base : Heap, K.In base → base.Ns mainGlobals mg → (∀ p ∈ cs, TabB base mg p.1 p.2) → FnG l.prog w K mg base CX k fa fd [x] sp
theorem walk_ofG {l : PySem.W.OpenLaw} {n k : Nat} {q : Program} {loose : List Str} {XP : (Str → Option Value) → Heap → Prop} {YP : World → Heap → Prop} {d : DefRec} {K : Params → PySem.W.Frag} {CX : World → CXT} {x : Str}
    (most : l.most = some n) (line : n ≤ sizeLine) (plain : d.params.defaults = []) (room : Room k callerA) (known : ∀ (w : World) (h : Heap), YP w h → (K w.params).In h)
    (at_ : ∀ (w : World) (mg : Str → Option Value) (fa : Addr) (h : Heap), YP w h → (K w.params).In h → h.Ns mainGlobals mg → mg d.name = some (.ref fa) → LawAtG l w (K w.params) (CX w) k n x mg fa h)
    (calm : ∀ (w : World) (H : Hp) (s : Shared) (e : Value) (s' : Shared), CX w [] H s (fun _ _ _ => False) e s' → False) : PySem.W.WalkO q loose XP YP l.row.toRowW d [] (fun f vs => PySem.call f vs) := by
  refine Att.attach_callB most plain fun w _ s mg mb fa _ _ _ _ a vs ns G Y _ _ _ name here isI short _ bare => ?_
  obtain ⟨fd, cs, sp, ⟨t1, t2, t3⟩, bind, pre, F⟩ := at_ w mg fa _ Y (known w _ Y) G.T.g name
  exact law_callG ⟨known w _ Y, G.T.g, G.T.b, G.T.builtins, G.T.nolimit, t1, t2, t3, G.T.bmain, here, isI, Nat.le_trans short line⟩ bare room F bind (fun H t S => pre H a ns short t S) fun H e s' => calm w H s e s'
end KA
namespace KU
open PySem PySem.W PySem.Calls PyProof.Rows PySem.HandSPX
/-! ### an own error whose __init__(self, f) says super().__init__(e) and self.f = f -/
abbrev upBody (f : Str) (e : Expr) (p0 p1 p2 p3 pe q1 q2 q3 q4 : Pos) : List Stmt :=
  [.Expr (.Call (.Attribute (.Call (.Name "super" p0) [] [] p1) "__init__" p2) [e] [] p3) pe, .Assign [.Attribute (.Name "self" q1) f q2] (.Name f q3) q4]
abbrev upArgs (f : Str) (r1 r2 : Pos) : Arguments := { posonlyargs := [], args := [{ arg := "self", annotation := none, pos := r1 }, { arg := f, annotation := none, pos := r2 }], vararg := none, kwonlyargs := [], kw_defaults := [], kwarg := none, defaults := [] }
abbrev upScope (f : Str) : Scope := { kind := .function, names := [(PySem.Str.ofString "self", .local), (f, .local), (PySem.Str.ofString "__class__", .free), (PySem.Str.ofString "super", .globalImplicit)], isGenerator := false, isCoroutine := false, more := [] }
/-- what the written part says of the class at C, of its __init__ at fI -/
structure UpTxt (P : Program) (K : Frag) (C fI cda cc : Addr) (qual f : Str) (e : Expr) : Prop where
  fn : ∃ (oc : Value) (od : Option Addr) (doc pm : Value) (an : Option Addr) (ct : Value) (osl : Array (Option Value)) (r1 r2 p0 p1 p2 p3 pe q1 q2 q3 q4 : Pos),
    K.lookup fI = some ⟨oc, od, .func (ksFn "__init__" qual (upArgs f r1 r2) (upBody f e p0 p1 p2 p3 pe q1 q2 q3 q4) (upScope f) .none .none doc pm an (.ref cda) ct cc), osl⟩ ∧
      (∀ a b : Value, bindArgs (ksFn "__init__" qual (upArgs f r1 r2) (upBody f e p0 p1 p2 p3 pe q1 q2 q3 q4) (upScope f) .none .none doc pm an (.ref cda) ct cc) ⟨[a, b], []⟩ = pure [(PySem.Str.ofString "self", a), (f, b)]) ∧
      (∀ L : Addr, swapsWith (.Name f q3) (some (.Attribute (.Name "self" q1) f q2)) q4.line (ksEnv qual (upScope f) L fI (.ref cda) cc) = pure false) ∧
      ∃ pl : Sem Bool, ∀ L : Addr, eval (.Call (.Attribute (.Call (.Name "super" p0) [] [] p1) "__init__" p2) [e] [] p3) (ksEnv qual (upScope f) L fI (.ref cda) cc) = (do
        let o ← attributeBase (.Call (.Name "super" p0) [] [] p1) "__init__" (ksEnv qual (upScope f) L fI (.ref cda) cc) (eval (.Call (.Name "super" p0) [] [] p1) (ksEnv qual (upScope f) L fI (.ref cda) cc))
        standAt p2.atName
        let (g, first) ← holding [o] (getMethod o "__init__" pl)
        callWith p3 g first (backTo p3 (starEach [e] (ksEnv qual (upScope f) L fI (.ref cda) cc))) [])
  star : ∀ env : Env, starEach [e] env = [(false, eval e env)]
  code : codeIn K (.ref cda) qual = true
  file : ∃ (cl : Value) (cdd : Option Addr) (vs : Array Value) (ccs : Array (Option Value)) (fl : Str) (tf : Tok), K.lookup cda = some ⟨cl, cdd, .fields vs, ccs⟩ ∧ vs[2]? = some (.str fl tf) ∧ ((P.main.file : Str) == fl) = true
  cell : ∃ (cl : Value) (cld : Option Addr) (csl : Array (Option Value)), K.lookup cc = some ⟨cl, cld, .cell (some (.ref C)), csl⟩
  cls : ∃ cd, clsIn K C = some cd ∧ refsVE cd.mro = true ∧ cd.hasDict = true
  self : mroIn K C (.ref C) = some true
  noSuper : nsIn K mainGlobals "super" = some none
  top : (P.main.scope.names.lookup ("super" : Str)).isSome = false
  third : nsIn K cStatics "thirdparty.any" = some none
  up : ks_superIn K C C "__init__" = some (some (.builtin "ValueError.__init__"))
  val : subIn K (.ref C) (.type "ValueError") = some true
  own : excInitIn K C [.type "ValueError", .type "Exception", .type "BaseException", .type "object"] "ValueError.__new__" = true
  set : findIn K (.ref C) "__setattr__" = some (some (.builtin "object.__setattr__"))
  noF : findIn K (.ref C) f = some none
  obj : ∃ (nm q : Str) (N : Addr) (bs bm : List Value) (sn : List Str) (sub : List Value) (ab : Bool) (col : Option Bool) (dd : Option Addr) (k0 k1 k2 k3 k5 : Option Value),
    K.lookup C = some (excClassObj nm q C N bs bm true sn sub ab col dd k0 k1 k2 k3 k5 "ValueError.__new__") ∧ refsVE bm = true
  iC : findIn K (.ref C) "__init__" = some (some (.ref fI))
  tC : typeIn K (.ref fI) = some (.type "function")
  ga : findIn K (.ref C) "__getattribute__" = some (some (.builtin "BaseException.__getattribute__"))
  gg : findIn K (.ref C) "__getattr__" = some none
  kC : keepIn K (.ref C) = true
  exC : subIn K (.ref C) (.type "BaseException") = some true
  tyC : typeIn K (.ref C) = some (.type "type")
  hdC : hasDictIn K C = true
  nf : f ≠ "self" ∧ f ≠ "__class__" ∧ f ≠ "super" ∧ f ≠ "__debug__"
/-- what it leaves of a fresh exception at x -/
structure UpEnd (h h' : Heap) (x C dx t1 : Addr) (f : Str) (v : Value) : Prop where
  keep : ∀ b o, b ≠ x → h.get? b = some o → h'.get? b = some o
  obj : h'.get? x = some { cls := .ref C, dict := some dx, data := .fields #[.ref t1, .none, .none, .none, .bool false, .none] }
  big : h.objs.size ≤ dx
  ne : dx ≠ x
  ns : h'.Ns1 dx (fun y => if y = f then some v else none)
section
variable {prog : Program} {w : World} {A : Around} {R : Result → Shared → Prop} {s : Shared} {K : Frag} {mg mb : Str → Option Value} {C fI cda cc : Addr} {qual f : Str} {e : Expr}
theorem up_init (T : UpTxt prog K C fI cda cc qual f e) {x t0 : Addr} {v : Value} (X : K.In s.heap) (hlim : s.heap.NoLimit) (hg : s.heap.Ns mainGlobals mg) (hb : s.heap.Ns builtinsNs mb) (hbb : ∀ y : Str, y ≠ "__name__" → mb y = bootBuiltins y)
    (hx : s.heap.get? x = some (excO C t0)) (hnx : K.lookup x = none) (hroom : A.depth < recursionLimit)
    (text : ∀ (A' : Around) (E : Value → Shared → Prop) (s' : Shared) (L : Addr) (m : Str → Option Value) (Q : Value → Shared → Prop), A'.units ≤ A.units + 4 → (∀ b o, s.heap.get? b = some o → s'.heap.get? b = some o) → s'.heap.Ns L m → m f = some v → (∀ (z : Str) (t : Tok) (h' : Heap) (t' : Tok), (∀ b o, s'.heap.get? b = some o → h'.get? b = some o) → Q (.str z t) { s' with heap := h', toks := t' }) → wpAny (model prog w) A' (eval e (ksEnv qual (upScope f) L fI (.ref cda) cc)) Q E s')
    (hq : ∀ h' tk dx t1, UpEnd s.heap h' x C dx t1 f v → R (.ok (.ret .none)) { s with heap := h', toks := tk }) :
    codeAny (model prog w) A (.call (.ref fI) ⟨[.ref x, v], []⟩) R s := by
  obtain ⟨hp, g, dr, tk, os⟩ := s
  dsimp only at X hlim hg hb hx
  obtain ⟨oc, od, doc, pm, an, ct, osl, r1, r2, p0, p1, p2, p3, pe, q1, q2, q3, q4, ho, hbd, hswap, pl, hcall⟩ := T.fn
  obtain ⟨n1, n2, n3, n4⟩ := T.nf
  have lf : (upScope f).names.lookup f = some .local := by
    show List.lookup f ((PySem.Str.ofString "self", NameKind.local) :: _) = _
    rw [List.lookup_cons]
    cases f == PySem.Str.ofString "self" with
    | true => rfl
    | false =>
      show List.lookup f ((f, NameKind.local) :: _) = _
      rw [List.lookup_cons, beq_self_eq_true]
  refine ks_codeAny_call_defAt (binds := [(PySem.Str.ofString "self", .ref x), (f, v)]) (body := upBody f e p0 p1 p2 p3 pe q1 q2 q3 q4) hroom (X _ _ ho) rfl hlim (codeRec_of X T.code) rfl ?bind ?cells ?locs (fun h₁ hns keep => ?_) rfl rfl rfl
  case bind => exact .of_eq (hbd _ _)
  case cells =>
    intro y hy
    simp only [List.mem_cons, List.not_mem_nil, or_false] at hy
    rcases hy with z | z | z | z <;> (subst z; exact fun q => by cases q)
  case locs =>
    intro y hy
    simp only [List.mem_cons, List.not_mem_nil, or_false] at hy
    rcases hy with z | z <;> subst z
    · rfl
    · exact lf
  have X1 : K.In h₁ := X.keeps keep
  have ms : (List.lookup (PySem.Str.ofString "self") [(PySem.Str.ofString "self", Value.ref x), (f, v)].reverse) = some (.ref x) := by
    show List.lookup (PySem.Str.ofString "self") [(f, v), (PySem.Str.ofString "self", Value.ref x)] = _
    rw [List.lookup_cons, beq_false_of_ne (Ne.symm n1)]
    rfl
  have mf : (List.lookup f [(PySem.Str.ofString "self", Value.ref x), (f, v)].reverse) = some v := by
    show List.lookup f [(f, v), (PySem.Str.ofString "self", Value.ref x)] = _
    rw [List.lookup_cons, beq_self_eq_true]
  obtain ⟨cd, hcd, hmro, hdict⟩ := T.cls
  obtain ⟨cl, cdd, vs, ccs, fl, tf, hcode, hvs, hfile⟩ := T.file
  obtain ⟨ccl, cld, csl, hcell⟩ := T.cell
  have hx1 := keep _ _ hx
  generalize hm : (fun y => List.lookup y [(PySem.Str.ofString "self", Value.ref x), (f, v)].reverse) = m at hns
  have ms' : m "self" = some (.ref x) := by rw [← hm]; exact ms
  have mf' : m f = some v := by rw [← hm]; exact mf
  clear ms mf hm
  show PySem.wpAt _ _ _ (execs (upBody f e p0 p1 p2 p3 pe q1 q2 q3 q4) (ksEnv qual (upScope f) hp.objs.size fI (.ref cda) cc)) _ _ _
  refine ks_wpAt_execs_cons (ks_wpAt_Expr_any (ks_wpAt_MethodCall (pl := pl) ?_ (hcall _)))
  obtain ⟨oC, hC1, hC2⟩ : ∃ oC, h₁.get? C = some oC ∧ oC.data = .cls cd := by
    unfold clsIn at hcd
    split at hcd
    · rename_i c d cd' sl z
      cases hcd
      exact ⟨_, X1 _ _ z, rfl⟩
    · cases hcd
  have k1 : (upScope f).names.lookup ("super" : Str) = some .globalImplicit := by
    show List.lookup (PySem.Str.ofString "super") ((f, NameKind.local) :: _) = _
    rw [List.lookup_cons, beq_false_of_ne (Ne.symm n3)]
    rfl
  have k2 : (upScope f).names.lookup ("__class__" : Str) = some .free := by
    show List.lookup (PySem.Str.ofString "__class__") ((f, NameKind.local) :: _) = _
    rw [List.lookup_cons, beq_false_of_ne (Ne.symm n2)]
    rfl
  refine ks_wpAt_super_base (env := ksEnv qual (upScope f) hp.objs.size fI (.ref cda) cc) k1 k2 rfl rfl (X1 _ _ ho) rfl rfl rfl (X1 _ _ hcode) rfl hvs hfile T.top ?_
  refine ks_loadName_global rfl k1 (loadGlobal_builtin (env := ksEnv qual (upScope f) hp.objs.size fI (.ref cda) cc) (hg.keeps keep) (mg_none_of X hg T.noSuper) (hb.keeps keep) ((hbb _ (by decide +kernel)).trans (show bootBuiltins "super" = some (.type "super") by kernel_rfl)) ⟨rfl, ?_⟩)
  refine wpAny_loadName_free rfl k2 rfl ⟨_, X1 _ _ hcell, rfl⟩ ?_
  refine wpAny_loadName_local rfl rfl hns ms' ?_
  refine ks_wpAny_isType_cls hC1 hC2 ⟨rfl, ?_⟩
  refine ks_wpAny_call_super hC1 hC2 hx1 rfl (fun c z => by cases z) (looks_mroIn X1 T.self) (fun h2 so keep2 => ?_)
  have X2 : K.In h2 := X1.keeps keep2
  have hx2 := keep2 _ _ hx1
  have I2 : InstAt h2 x (excO C t0) C none := ⟨hx2, rfl, rfl, trivial⟩
  have along : alongIn K "__init__" ((cd.mro.dropWhile (· != .ref C)).drop 1) = some (some (.builtin "ValueError.__init__")) := by
    have z := T.up
    unfold ks_superIn at z
    rw [hcd] at z
    exact z
  refine kxs_getMethod kxs_ValueError so (looks_opaque X2 T.third) (l₀ := cd.mro) (fun A Q E s k q => wpAny_bind ((looks_clsIn X2 hcd) A _ E s k (wpAny_pure q))) rfl X2 along (I2.type.andThen (looks_subIn X2 T.val)) (ks_ne X2 I2 hcd) rfl ?_
  have push3 : ∀ b o, h2.get? b = some o → (h2.push (kxs_mw "ValueError.__init__" x)).get? b = some o := fun b o z => Heap.get?_push_of_some _ z
  generalize hh3 : h2.push (kxs_mw "ValueError.__init__" x) = h3 at push3
  have hu : h3.get? h2.objs.size = some (kxs_mw "ValueError.__init__" x) := by
    rw [← hh3]
    exact Heap.get?_push_at rfl rfl
  generalize h2.objs.size = u at hu
  have X3 : K.In h3 := X2.keeps push3
  have hx3 := push3 _ _ hx2
  have hns3 : h3.Ns hp.objs.size m := (hns.keeps keep2).keeps push3
  rw [T.star]
  refine kxs_callWith (i := "ValueError.__init__") (x := x) (u := u) rfl (evalArgs_plain (spliced_cons ?_))
  refine text _ _ _ _ _ _ (by show A.units + 3 ≤ A.units + 4; omega) (fun b o z => push3 b o (keep2 b o (keep b o z))) hns3 mf' fun z zt h3' t' g3 => spliced_nil ⟨g3 _ _ hu, ?_⟩
  replace X3 := X3.keeps g3
  replace hx3 := g3 _ _ hx3
  replace hns3 := hns3.keeps g3
  replace hu := g3 _ _ hu
  replace push3 : ∀ b o, h2.get? b = some o → h3'.get? b = some o := fun b o z => g3 b o (push3 b o z)
  obtain ⟨nm, N', qn, bs, bm, hdct, sn, sub, ab, col, dd, kk0, kk1, kk2, kk3, kk5, hC, hT⟩ := excInit_of X3 T.own
  refine wpAny_call (codeAny_of_tree ?_)
  show wpAny _ (Around.in1 _) (callAny (.ref u) ⟨[.str z zt], []⟩) _ _ _
  simp only [callAny]
  refine wpAny_bind (wpAny_load hu ?_)
  simp only [kxs_mw, show (Value.type "method-wrapper" == Value.type "method" || Value.type "method-wrapper" == Value.type "builtin_function_or_method" || Value.type "method-wrapper" == Value.type "method-wrapper") = true by decide, if_true]
  have FB := F.excBase_ValueError
  refine KFB.if_so (by decide) (wpAny_bind (check_bound_init FB.toExcCallFacts hC hx3 rfl (wpAny_bind (wpAny_pure (wpAny_pure ⟨plainId_quiet FB.init.plain _, codeAny_builtin FB.initEntry ?_⟩)))))
  refine exc_init_tree (cls := .ref C) (t0 := t0) (dv := none) (c2 := .none) (c3 := .none) (b4 := .bool false) hx3 (by show 1 ≤ sizeLine; decide) fun h4 keep4 hx4 _ => ?_
  have X4 : K.In h4 := fun b o z => keep4 b o (fun q => by rw [q, hnx] at z; cases z) (X3 b o z)
  have hns4 : h4.Ns hp.objs.size m := by
    obtain ⟨oL, es, ep, hL, rest⟩ := hns3
    exact ⟨oL, es, ep, keep4 _ _ (Nat.ne_of_gt (Heap.lt_size hx)) hL, rest⟩
  refine wpAt_of_wpAny (wpAny_execs_cons (plainObj_wpAny_Assign_Attribute ?_ (hswap _)))
  have kf : (ksEnv qual (upScope f) hp.objs.size fI (.ref cda) cc).kindOf f = some .local := lf
  have ndb : (f == ("__debug__" : Str)) = false := beq_false_of_ne n4
  refine wpAny_Name (wpAny_loadName_local rfl kf hns4 mf' ?_) ndb
  refine wpAny_Name (wpAny_loadName_local rfl rfl hns4 ms' ?_) rfl
  refine set_plain X4 (ox := excO C h3'.objs.size) (od := none) ⟨hx4, rfl, rfl, trivial⟩ T.set ?_
  refine exc_osa X4 hx4 hcd hmro hdict T.noF fun h5 tk5 dx keep5 big ne5 hx5 hn5 => ?_
  refine wpAny_execs_nil (hq h5 tk5 dx h3'.objs.size ⟨fun b o hb z => keep5 b o hb (keep4 b o hb (push3 b o (keep2 b o (keep b o z)))), hx5, ?_, ne5, hn5⟩)
  exact Nat.le_of_lt (Nat.lt_of_lt_of_le hns4.lt big)
/-- a made one -/
structure UpMade (h h' : Heap) (e C d : Addr) (f : Str) (v : Value) : Prop where
  keep : ∀ b o, h.get? b = some o → h'.get? b = some o
  new : h.objs.size ≤ e
  obj : ∃ oe vs, h'.get? e = some oe ∧ oe.cls = .ref C ∧ oe.dict = some d ∧ oe.data = .fields vs ∧ vs[1]? = some .none
  big : h.objs.size ≤ d
  ne : d ≠ e
  ns : h'.Ns1 d (fun y => if y = f then some v else none)
theorem up_made (T : UpTxt prog K C fI cda cc qual f e) {v : Value} (X : K.In s.heap) (hlim : s.heap.NoLimit) (hg : s.heap.Ns mainGlobals mg) (hb : s.heap.Ns builtinsNs mb) (hbb : ∀ y : Str, y ≠ "__name__" → mb y = bootBuiltins y) (hroom : A.depth + 1 < recursionLimit)
    (text : ∀ (A' : Around) (E : Value → Shared → Prop) (s' : Shared) (L : Addr) (m : Str → Option Value) (Q : Value → Shared → Prop), A'.units ≤ A.units + 12 → (∀ b o, s.heap.get? b = some o → s'.heap.get? b = some o) → s'.heap.Ns L m → m f = some v → (∀ (z : Str) (t : Tok) (h' : Heap) (t' : Tok), (∀ b o, s'.heap.get? b = some o → h'.get? b = some o) → Q (.str z t) { s' with heap := h', toks := t' }) → wpAny (model prog w) A' (eval e (ksEnv qual (upScope f) L fI (.ref cda) cc)) Q E s')
    (hq : ∀ h' tk a d, UpMade s.heap h' a C d f v → R (.ok (.ret (.ref a))) { s with heap := h', toks := tk }) : codeAny (model prog w) A (.call (.ref C) ⟨[v], []⟩) R s := by
  obtain ⟨nm, q, N, bs, bm, sn, sub, ab, col, dd, k0, k1, k2, k3, k5, hC, hbm⟩ := T.obj
  obtain ⟨hp, g, dr, tk, os⟩ := s
  dsimp only at X hlim hg hb
  generalize hh : (hp.push (kdv_tup [v])).push (excO C hp.objs.size) = h1
  have k : ∀ b o, hp.get? b = some o → h1.get? b = some o := fun b o z => by
    rw [← hh]
    exact Heap.get?_push_of_some _ (Heap.get?_push_of_some _ z)
  have got : h1.get? (hp.objs.size + 1) = some (excO C hp.objs.size) := by
    rw [← hh]
    heap_get
  have fresh : K.lookup (hp.objs.size + 1) = none := by
    cases z : K.lookup (hp.objs.size + 1) with
    | none => rfl
    | some o => exact absurd (show hp.objs.size + 1 < hp.objs.size from Heap.lt_size (X _ _ z)) (Nat.not_lt.mpr (Nat.le_succ _))
  refine call_own F.excBase_ValueError (fun Y => refsVE_contains Y bm hbm) (X _ _ hC) (looks_findIn X T.iC) (fun self => bind_fn X self T.tC) (by show 1 ≤ sizeLine; decide) ?_
  rw [hh]
  refine up_init (s := ⟨h1, g, dr, tk, os⟩) T (X.keeps k) (hlim.keeps k) (hg.keeps k) (hb.keeps k) hbb got fresh hroom (fun A' E s' L m Q un kp => text A' E s' L m Q (Nat.le_trans un (by show A.units + 1 + 4 ≤ A.units + 12; omega)) fun b o z => kp b o (k b o z)) fun h' tk' dx t1 Z => ?_
  have size1 : hp.objs.size ≤ h1.objs.size := Nat.le_of_lt (Nat.lt_of_succ_lt (Heap.lt_size got))
  exact ⟨rfl, hq h' tk' (hp.objs.size + 1) dx ⟨fun b o z => Z.keep b o (Nat.ne_of_lt (Nat.lt_succ_of_lt (Heap.lt_size z))) (k b o z), Nat.le_succ _, ⟨_, _, Z.obj, rfl, rfl, rfl, rfl⟩, Nat.le_trans size1 Z.big, Z.ne, Z.ns⟩⟩
end
end KU
namespace KU
open PySem PySem.W PySem.Calls PyProof.Rows PySem.HandSPX
/-- what the error says of v can be told -/
abbrev Text (P : Program) (w : World) (fI cda cc : Addr) (qual f : Str) (e : Expr) (v : Value) : Prop :=
  ∀ (A' : Around) (E : Value → Shared → Prop) (s' : Shared) (L : Addr) (m : Str → Option Value) (Q : Value → Shared → Prop), s'.heap.Ns L m → m f = some v → (∀ (z : Str) (t t' : Tok), Q (.str z t) { s' with toks := t' }) →
    wpAny (model P w) A' (eval e (ksEnv qual (upScope f) L fI (.ref cda) cc)) Q E s'
theorem kind_f {f : Str} : (upScope f).names.lookup f = some .local := by
  show List.lookup f ((PySem.Str.ofString "self", NameKind.local) :: _) = _
  rw [List.lookup_cons]
  cases f == PySem.Str.ofString "self" with
  | true => rfl
  | false =>
    show List.lookup f ((f, NameKind.local) :: _) = _
    rw [List.lookup_cons, beq_self_eq_true]
/-- f'z{f}' of an int, of a text -/
theorem text_of {P : Program} {w : World} {fI cda cc : Addr} {qual f z : Str} {j : Nat} {pc pn pf pj : Pos} {v : Value} {y : Str} (hd : f ≠ "__debug__")
    (fld : ∀ (A' : Around) (E : Value → Shared → Prop) (s' : Shared) (Q : Value → Shared → Prop), (∀ (t t' : Tok), Q (.str y t) { s' with toks := t' }) → wpAny (model P w) A' (formatField v Str.empty) Q E s')
    (h1 : z.length ≤ sizeLine) (h2 : (z ++ y).length ≤ sizeLine) : Text P w fI cda cc qual f (.JoinedStr [.Constant (.str z) j pc, .FormattedValue (.Name f pn) (-1) none pf] pj) v := by
  intro A' E s' L m Q hn hm k
  refine wpAny_JoinedStr ?_
  have e0 : ∀ env : Env, evalEach [.Constant (.str z) j pc, .FormattedValue (.Name f pn) (-1) none pf] env = [eval (.Constant (.str z) j pc) env, eval (.FormattedValue (.Name f pn) (-1) none pf) env] := fun _ => by first | rfl | simp [evalEach]
  rw [e0]
  have e1 : Str.empty ++ z = z := by
    show (⟨#[] ++ z.cps⟩ : Str) = z
    rw [Array.empty_append]
  refine Calls.Constant_str ⟨z, _, rfl, by rw [e1]; exact h1, ?_⟩
  rw [e1]
  refine wpAny_FormattedValue_plain (wpAny_Name (wpAny_loadName_local rfl (show (ksEnv qual (upScope f) L fI (.ref cda) cc).kindOf f = some .local from kind_f) hn hm ?_) (beq_false_of_ne hd))
  exact fld _ _ _ _ fun t t' => ⟨y, t, rfl, h2, h2, k _ _ _⟩
theorem text_int {P : Program} {w : World} {fI cda cc : Addr} {qual f z : Str} {j : Nat} {pc pn pf pj : Pos} {i : Int} {t : Tok} (hd : f ≠ "__debug__") (hi : i.natAbs.log2 < 1920) (h1 : z.length ≤ sizeLine) (h2 : (z ++ (toString i : String)).length ≤ sizeLine) :
    Text P w fI cda cc qual f (.JoinedStr [.Constant (.str z) j pc, .FormattedValue (.Name f pn) (-1) none pf] pj) (.int i t) :=
  text_of hd (fun _ _ _ _ k => wpAny_formatField_int hi (k _ _)) h1 h2
theorem text_str {P : Program} {w : World} {fI cda cc : Addr} {qual f z y : Str} {j : Nat} {pc pn pf pj : Pos} {t : Tok} (hd : f ≠ "__debug__") (h1 : z.length ≤ sizeLine) (h2 : (z ++ y).length ≤ sizeLine) (h3 : y.length ≤ sizeLine) :
    Text P w fI cda cc qual f (.JoinedStr [.Constant (.str z) j pc, .FormattedValue (.Name f pn) (-1) none pf] pj) (.str y t) :=
  text_of hd (fun _ _ _ _ k => wpAny_formatField_str (k _ _) (k _ _) h3) h1 h2
end KU
namespace KU
open PySem PySem.Spec PyProof.Rows L2
theorem relO_up {v : V} {v' : Value} {n : Str} (r : RelV v v') (f : Str) : RelO (List.lookup f [(n, v)]) (if f = n then some v' else none) := by
  by_cases c : f = n
  · subst c
    rw [if_pos rfl, List.lookup_cons, beq_self_eq_true]
    exact r
  · rw [if_neg c, List.lookup_cons, beq_false_of_ne c]
    trivial
section
variable {X : Cx} {C fI cda cc : Addr} {qual f x : Str} {e : Expr}
/-- x(a), x the class's name -/
def tMkUp (T : Value → Prop) (C : Addr) (f : Str) (ta : TA) : L2.St → Hp → XK → Prop := fun σ H Q => ta σ H fun vs H1 => ∃ v, vs = [v] ∧ (∀ v', RelV v v' → T v') ∧ ∀ d, H1 d = none → Q (.ref C) (some d) (upd H1 d (.xd [(f, v)]))
theorem pmk_up {a : Expr} {ta : TA} {p pos : Pos} {k : Nat} (T : UpTxt X.prog X.K C fI cda cc qual f e) (gC : X.mg x = some (.ref C)) (hr : Room k X.A) (ha : PA X [a] ta) (hg : Gl X x) (hdb : (x == ("__debug__" : Str)) = false := by decide)
    (he : starEach (a :: []) X.env = (false, eval a X.env) :: starEach [] X.env := by rfl) (hpl : (backTo pos (starEach [] X.env)).any (·.1) = false := by rfl) :
    PMk X (.Call (.Name x p) [a] [] pos) (tMkUp (Text X.prog X.w fI cda cc qual f e) C f ta) := by
  intro pins s σ H Q I h
  refine wpAny_Call_Name_kw (ld_glob I hg gC ?_ hdb)
  refine PySem.W.callWith_K (h₀ := X.base) I.ok.mod.kin T.kC (thn (ha.run pos pins s σ H _ I h) fun us s1 hh => ?_) he hpl
  obtain ⟨vs, H1, I1, r1, v, rfl, ht, q1⟩ := hh
  refine ⟨I1.kIn, ?_⟩
  cases r1 with
  | cons rv rn =>
    rename_i v' us'
    cases rn
    show wpAny _ _ (call (.ref C) [v']) _ _ _
    obtain ⟨mb, b1, b2⟩ := I1.mod.blt
    have lim := I1.nolimit
    have glob := I1.mod.glob.keeps I1.bk
    have blt := b1.keeps I1.bk
    have dp := hr.dp
    obtain ⟨hp, g, dr, tk, os⟩ := s1
    refine wpAny_call (up_made T I1.kIn lim glob blt b2 (by omega) (fun A' E s' L m Q _ _ hn hm k => ht v' rv A' E s' L m Q hn hm fun z t t' => k z t s'.heap t' fun _ _ e => e) fun h' tk' a' d M => ?_)
    show MkP X pins σ Q (.ref a') ⟨h', g, dr, tk', os⟩
    obtain ⟨oe, fv, hoe, hc, hd, hdat, one⟩ := M.obj
    obtain ⟨G, in_, out⟩ := restrict h' fun b => decide (b ≠ a')
    have same : ∀ b, b ≠ a' → G.get? b = h'.get? b := fun b hb => in_ b (decide_eq_true hb)
    have gone : G.get? a' = none := out a' (by simp)
    have stay : ∀ b o, hp.get? b = some o → G.get? b = some o := fun b o z => (same b (Nat.ne_of_lt (Nat.lt_of_lt_of_le (Heap.lt_size z) M.new))).trans (M.keep b o z)
    have own : ObjOk X.prog X.w (upd H1 d (.xd [(f, v)])) G d (.xd [(f, v)]) := ⟨_, M.ns.at (fun o z => (same d M.ne).trans z), fun y => relO_up rv y⟩
    have J : Inv X pins σ (upd H1 d (.xd [(f, v)])) ⟨G, g, dr, tk', os⟩ := I1.laid (t' := tk') stay M.big own
    refine ⟨a', oe, fv, ⟨G, g, dr, tk', os⟩, _, .ref C, some d, rfl, J, fun b o z => ?_, gone, hoe, ⟨hc, hd⟩, hdat, one, ?_, rfl, I1.bare, raises_own T.exC T.tyC, q1 d (I1.hok.fresh M.big)⟩
    · have hb : b ≠ a' := fun y => by
        rw [y] at z
        exact absurd (gone.symm.trans z) (by simp)
      exact (same b hb).symm.trans z
    · rw [upd_ne (Ne.symm M.ne)]
      exact I1.hok.fresh M.new
/-- raise x(a) -/
theorem ps_raiseUp {a : Expr} {ta : TA} {W : WX} {p pos pos2 : Pos} {k : Nat} (hc : X.calm = true) (T : UpTxt X.prog X.K C fI cda cc qual f e) (gC : X.mg x = some (.ref C)) (hr : Room k X.A) (tk : Takes X W) (ha : PA X [a] ta) (hg : Gl X x) (hdb : (x == ("__debug__" : Str)) = false := by decide)
    (he : starEach (a :: []) X.env = (false, eval a X.env) :: starEach [] X.env := by rfl) (hpl : (backTo pos (starEach [] X.env)).any (·.1) = false := by rfl) :
    PS X (.Raise (some (.Call (.Name x p) [a] [] pos)) none pos2) (fun _ σ H => tMkUp (Text X.prog X.w fI cda cc qual f e) C f ta σ H fun cls d H' => W cls d σ H') := ps_raise hc tk (pmk_up T gC hr ha hg hdb he hpl)
/-- err.f, err an exception that is kept as a value -/
def tUpGet (C : Addr) (f : Str) (te : TE) : TE := fun σ H Q => te σ H fun x H1 => ∃ (a d : Addr) (v : V), x = .ref a ∧ H1 a = some (KA.ExV (.ref C) (some d) a) ∧ H1 d = some (.xd [(f, v)]) ∧ Q v H1
theorem pe_upGet {o : Expr} {te : TE} {pos : Pos} (T : UpTxt X.prog X.K C fI cda cc qual f e) (he : PE X o te) (hb : attributeBase o f X.env (eval o X.env) = eval o X.env := by rfl) :
    PE X (.Attribute o f pos) (tUpGet C f te) := by
  refine ⟨fun pins s σ H Q I h => ?_⟩
  refine attr_of hb (thn (he.run pins s σ H _ I h) fun u s1 hh => ?_)
  obtain ⟨x, H1, I1, rx, a, d, v, rfl, ha, hd, q⟩ := hh
  obtain rfl : u = Value.ref a := rx
  obtain ⟨⟨oe, got, z, vs, dat⟩, _⟩ := I1.hok a _ ha
  obtain ⟨mA, ns, rel⟩ := I1.hok d _ hd
  obtain ⟨od, at_, look⟩ := lookIn_ns ns
  have l : List.lookup f [(f, v)] = some v := by rw [List.lookup_cons, beq_self_eq_true]
  obtain ⟨u, hu, ru⟩ := RelO.some_of (v := v) (o := mA f) (by rw [← l]; exact rel f)
  have J : PySem.W.InstAt s1.heap a oe C (some od) := ⟨got, z.1, by unfold PySem.W.notCls; rw [dat] <;> rfl, by rw [z.2]; exact at_⟩
  exact HandSPX.exc_get I1.kIn J T.ga T.gg T.exC (PySem.W.findObj_own T.hdC T.noF rfl (by rw [look, hu])) (handed_of ru) ⟨v, H1, I1.tok _, ru, q⟩
end
end KU
namespace KW
open PySem PySem.Spec PyProof.Rows L2 PySem.W LamX
/-! ### a lambda without parameters that is handed on from def to def: it stands as it was made, whoever calls it -/
theorem un_comp {fs gs : List Addr} {H H1 H2 : Hp} {h h1 h2 : Heap} (a : Un fs [] H H1 h h1) (b : Un gs [] H1 H2 h1 h2) (sub : ∀ x ∈ gs, x ∈ fs ∨ h.get? x = none) : Un fs [] H H2 h h2 := by
  have no : ∀ {x : Addr} {o : Obj}, h.get? x = some o → x ∉ fs → x ∉ gs := fun e n z => by
    rcases sub _ z with q | q
    · exact n q
    · rw [q] at e
      cases e
  refine ⟨fun x o e n hx _ => ?_, fun x o e n hx _ => ?_, fun x o e n _ => ?_, fun x o e _ => ?_, fun x xs e => b.tups _ _ (a.tups _ _ e), fun x o u e => b.frzs _ _ _ (a.frzs _ _ _ e), fun x ps e => ?_⟩
  · exact b.keep x o (a.keep x o e n hx (by simp)) (a.free x o e n (by simp)) (no e hx) (by simp)
  · obtain ⟨sl, e1⟩ := a.slot x o e n hx (by simp)
    have n1 := a.free x o e n (by simp)
    by_cases hg : x ∈ gs
    · obtain ⟨sl2, e2⟩ := b.slot x _ e1 n1 hg (by simp)
      exact ⟨sl2, e2⟩
    · exact ⟨sl, b.keep x _ e1 n1 hg (by simp)⟩
  · obtain ⟨o1, e1⟩ := a.there x o e (by simp)
    exact b.free x o1 e1 (a.free x o e n (by simp)) (by simp)
  · obtain ⟨o1, e1⟩ := a.there x o e (by simp)
    exact b.there x o1 e1 (by simp)
  · obtain ⟨m1, e1⟩ := a.tbls x ps e
    obtain ⟨m2, e2⟩ := b.tbls x _ e1
    exact ⟨m1 ++ m2, by rw [e2, Array.append_assoc]⟩
/-- the lambda at f, its code object at c' of the name q, made where the heaps were H0, h0; fs: the frames that ran then; t: what it promises -/
structure Work (P : Program) (w : World) (K : PySem.W.Frag) (mg : Str → Option Value) (base : Heap) (k : Nat) (fs : List Addr) (H0 : Hp) (h0 : Heap) (f c' : Addr) (q : Str) (t : XK → Hp → VK → Prop) : Prop where
  obj : ∃ (params : Arguments) (body : Expr) (scope : Scope) (cl : List (Str × Addr)) (pm ctv : Value), h0.get? f = some (PySem.W.kla_obj "<lambda>" q params body scope cl pm c' ctv)
  free : H0 f = none
  out : f ∉ fs
  run : ∀ (A : Around) (outer : List Env) (s1 : Shared) (HZ : Hp) (Q : VK) (E : XK), Room (k + 1) A → Env0 P w K mg base A outer s1 HZ → Un fs [] H0 HZ h0 s1.heap → HZ c' = some (CodeO c' q) → t E HZ Q →
    codeAny (model P w) A (.call (.ref f) ⟨[], []⟩) (CR (L2.CX P w) outer P w HZ s1 Q E) s1
section
variable {X : Cx} {pins : List (Addr × Obj)} {σ : L2.St} {H : Hp} {s : Shared}
theorem work_of {k : Nat} {f c' : Addr} {pm ctv : Value} {params : Arguments} {body : Expr} {scope : Scope} {tb : XK → TE} (I : Inv X pins σ H s) (L : LamS X.env.scope scope)
    (hf : s.heap.get? f = some (PySem.W.kla_obj "<lambda>" (X.env.qual ++ "<lambda>") params body scope (cloFrom X.env.cells scope.names []) pm c' ctv)) (hfn : H f = none) (hfr : f ∉ frs X.stack)
    (hbind : bindArgs (PySem.W.kla_fn "<lambda>" (X.env.qual ++ "<lambda>") params body scope (cloFrom X.env.cells scope.names []) pm (.ref c') ctv) ⟨[], []⟩ = pure [])
    (hbody : ∀ (A : Around) (outer : List Env) (s1 : Shared) (HZ : Hp) (E : XK), Room k (A.deeper (lamEnv X scope s1.heap.objs.size f c')) → PE (lamCx X A outer s1 HZ E scope f c') body (tb E)) :
    Work X.prog X.w X.K X.mg X.base k (frs X.stack) H s.heap f c' (X.env.qual ++ "<lambda>") (fun E HZ Q => tb E σ HZ Q) := by
  refine ⟨⟨_, _, _, _, _, _, hf⟩, hfn, hfr, fun A outer s1 HZ Q E hr e0 un hc ht => ?_⟩
  have of1 := un.keep f _ hf hfn hfr (by simp)
  obtain ⟨⟨oc, vs, t, hoc, hdc, hvc⟩, _, _⟩ := e0.hok c' _ hc
  have lim : s1.heap.NoLimit := e0.mod.nolimit.keeps fun b o e => (e0.bs b o e).1
  refine PySem.W.kla_callFunE hr.depth of1 rfl L.co L.gen rfl ⟨c', oc, vs, t, rfl, hoc, hdc, hvc⟩ ?_
  rw [hbind]
  refine wpAny_pure (wpAny_newFunctionEnv (fun y hy => (L.own y hy).2) (fun y hy => absurd hy (by simp)) (fun h₁ hns hsb => ⟨lim.fresh _ hsb, ?_⟩) L.kind)
  show codeAny _ _ (.expr body (lamEnv X scope s1.heap.objs.size f c')) _ _
  have kp : ∀ b o, s1.heap.get? b = some o → h₁.get? b = some o := fun b o e => hsb.extBut b o (Nat.ne_of_lt (Heap.lt_size e)) (Heap.get?_push_of_some _ e)
  have J : Inv (lamCx X A outer s1 HZ E scope f c') [] σ HZ { s1 with heap := h₁, toks := s1.toks + ([] : List (Str × Value)).length } := lam_start2 I L e0 hr.hd un hns kp
  refine PySem.W.kla_codeExpr (wpAny_mono ((hbody A outer s1 HZ E (hr.deeper _)).run [] _ _ HZ Q J ht) (fun v s' hq => ?_) fun e s' hq => hq)
  obtain ⟨w', H', J', rv, q⟩ := hq
  exact ⟨w', H', J'.os, J'.bare, J'.base, J'.hok, rv, q⟩
end
section
variable {Z : Cx} {k : Nat} {fs : List Addr} {H0 : Hp} {h0 : Heap} {f c' : Addr} {q : Str} {t : XK → Hp → VK → Prop}
/-- where Z stands to the making -/
structure Since (Z : Cx) (fs : List Addr) (H0 : Hp) (h0 : Heap) : Prop where
  un : Un fs [] H0 Z.H_0 h0 Z.s_0.heap
  sub : ∀ b ∈ Z.fs, b ∈ fs ∨ h0.get? b = none
  ex : Z.ex = []
theorem Since.now {pins : List (Addr × Obj)} {σ : L2.St} {H : Hp} {s : Shared} (S : Since Z fs H0 h0) (I : Inv Z pins σ H s) : Un fs [] H0 H h0 s.heap := by
  have b := I.base
  rw [S.ex] at b
  exact un_comp S.un b S.sub
theorem Since.stk {pins : List (Addr × Obj)} {σ : L2.St} {H : Hp} {s : Shared} (S : Since Z fs H0 h0) (I : Inv Z pins σ H s) : ∀ b ∈ frs Z.stack, b ∈ fs ∨ h0.get? b = none := fun b hb => by
  rcases List.mem_cons.mp (I.stkSub b hb) with e | e
  · refine .inr ?_
    cases z : h0.get? b with
    | none => rfl
    | some o =>
      obtain ⟨o', z'⟩ := S.un.there b o z (by simp)
      have l := Heap.lt_size z'
      have a := I.ok.above
      rw [e] at l
      exact absurd l (Nat.not_lt.mpr a)
  · exact S.sub b e
/-- the slot's name is called: a work stands in it -/
theorem pe_work {i : Nat} {a : Str} {E : XK} {p1 p2 : Pos} (Wk : Work Z.prog Z.w Z.K Z.mg Z.base k fs H0 h0 f c' q t) (S : Since Z fs H0 h0) (hx : Passes (L2.CX Z.prog Z.w) Z E) (hr : Room (k + 1) Z.A) (hN : Z.N[i]? = some a) (hv : Vis Z.env.scope a)
    (hd : (a == ("__debug__" : Str)) = false := by decide) (hcd : (a == ("__classdict__" : Str)) = false := by decide) :
    PE Z (.Call (.Name a p1) [] [] p2) (fun σ H Q => σ[i]? = some (some (.ref f)) ∧ H c' = some (CodeO c' q) ∧ t E H Q) := by
  refine ⟨fun pins s σ H Q I h => ?_⟩
  obtain ⟨hs, hc, ht⟩ := h
  refine wpAny_Call_Name_kw (thn ((pe_var (pos := p1) (i := i) hN hv hd hcd).run pins s σ H (fun v H1 => v = .ref f ∧ H1 = H) I ⟨.ref f, hs, rfl, rfl⟩) fun u s1 ⟨v, H1, I1, r1, q1⟩ => ?_)
  obtain ⟨ev, eH⟩ := q1
  subst ev
  rw [eH] at I1
  obtain rfl : u = Value.ref f := r1
  obtain ⟨_, _, _, _, _, _, ob⟩ := Wk.obj
  have un := S.now I1
  have of1 := un.keep f _ ob Wk.free Wk.out (by simp)
  refine PySem.W.callWith_F0 ⟨_, _, _, _, of1⟩ ?_
  refine wpAny_call (codeAny_mono (Wk.run Z.A Z.stack s1 H Q E hr I1.env0 un hc ht) fun r s' hq => ?_)
  match r, hq with
  | .error e, hq => exact hx pins σ H s1 e s' I1 hq
  | .ok (.ret u), hq => exact I1.after hq
  | .ok .next, hq => exact False.elim hq
  | .ok .brk, hq => exact False.elim hq
  | .ok .cont, hq => exact False.elim hq
end
/-- the promise of a def that a work is handed to -/
structure FnW (P : Program) (w : World) (K : PySem.W.Frag) (mg : Str → Option Value) (base : Heap) (fs : List Addr) (H0 : Hp) (h0 : Heap) (CX : CXT) (k : Nat) (g : Addr) (fd : FuncData) (ps : List Str) (sp : Sp) : Prop where
  len : ∀ vs H Q E, sp vs H Q E → vs.length = ps.length
  run : ∀ (A : Around) (outer : List Env) (s : Shared) (H : Hp) (args : Args) (us : List Value) (vs : List V) (Q : VK) (E : XK), Room k A → A.guards = some [] → Env0 P w K mg base A outer s H → Un fs [] H0 H h0 s.heap → (∀ b ∈ frs outer, b ∈ fs ∨ h0.get? b = none) →
    BindsTo s fd args (ps.zip us) → Vals vs us → sp vs H Q E → codeAny (model P w) A (.call (.ref g) args) (CR CX outer P w H s Q E) s
theorem fnW_of {CX : CXT} {P : Program} {w : World} {K : PySem.W.Frag} {mg : Str → Option Value} {base : Heap} {fs : List Addr} {H0 : Hp} {h0 : Heap} {k : Nat} {f : Addr} {x qual : Str} {st : Stmt} {fd : FuncData} {N ps : List Str} {sp : Sp} (F : Fun K x qual st f fd) (S : FnScope N ps (defScope st))
    (len : ∀ vs H Q E, sp vs H Q E → vs.length = ps.length)
    (hbody : ∀ (cdv : Value) (A : Around) (outer : List Env) (s : Shared) (H : Hp) (vs : List V) (Q : VK) (E : XK), Room k (A.deeper (envOfC qual (defScope st) s.heap.objs.size f cdv)) → A.guards = some [] → Since (cxOf CX P w K mg base N qual (defScope st) f cdv A outer s H E) fs H0 h0 → sp vs H Q E →
      ∃ t, PSs (cxOf CX P w K mg base N qual (defScope st) f cdv A outer s H E) (defBody st) t ∧ t { nx := fun _ H' => Q .non H', rt := Q } (L2.start N vs) H) : FnW P w K mg base fs H0 h0 CX (k + 1) f fd ps sp := by
  obtain ⟨oc, od, kV, doc, pm, an, cdv, ct, osl, rfl, lk, hcd⟩ := F.ex
  exact ⟨len, fun A outer s H args us vs Q E hr hgd e0 un sub hb r h => run_ofS lk hcd S hr e0 hb r (len _ _ _ _ h) fun hr' => hbody cdv A outer s H vs Q E hr' hgd ⟨un, sub, rfl⟩ h⟩
section
variable {Z : Cx} {CX : CXT} {k : Nat} {fs : List Addr} {H0 : Hp} {h0 : Heap} {g : Addr} {fd : FuncData} {ps : List Str} {sp : Sp} {E : XK} {x : Str} {p pos : Pos} {e : Expr} {es : List Expr} {t : TA}
/-- x(a, ..) in a def that the work has been handed to, handed on -/
theorem pe_wcall (F : FnW Z.prog Z.w Z.K Z.mg Z.base fs H0 h0 CX k g fd ps sp) (S : Since Z fs H0 h0) (hr : Room k Z.A) (hgd : Z.A.guards = some []) (hg : Gl Z x) (hm : Z.mg x = some (.ref g)) (hk : PySem.W.keepIn Z.K (.ref g) = true) (hb : Binds Z.K fd ps []) (hx : Passes CX Z E) (ha : PA Z (e :: es) t)
    (hdb : (x == ("__debug__" : Str)) = false := by decide) (he : starEach (e :: es) Z.env = (false, eval e Z.env) :: starEach es Z.env := by rfl) (hpl : (backTo pos (starEach es Z.env)).any (·.1) = false := by rfl) :
    PE Z (.Call (.Name x p) (e :: es) [] pos) (tCall sp [] E t) := by
  refine ⟨fun pins s σ H Q I h => ?_⟩
  refine wpAny_Call_Name_kw (ld_glob I hg hm ?_ hdb)
  refine PySem.W.callWith_K (h₀ := Z.base) I.ok.mod.kin hk (thn (ha.run pos pins s σ H _ I h) fun us s1 ⟨vs, H1, I1, r, q⟩ => ⟨I1.kIn, ?_⟩) he hpl
  have q : sp (vs ++ []) H1 Q E := q
  rw [List.append_nil] at q
  have hl : us.length = ps.length := by rw [← r.length]; exact F.len _ _ _ _ q
  have bt := hb s1 us I1.kIn (by simpa using hl)
  rw [List.append_nil] at bt
  refine wpAny_call (codeAny_mono (F.run Z.A Z.stack s1 H1 ⟨us, []⟩ us vs Q E hr hgd I1.env0 (S.now I1) (S.stk I1) bt r q) fun rr s' hq => ?_)
  match rr, hq with
  | .error e, hq => exact hx pins σ H1 s1 e s' I1 hq
  | .ok (.ret u), hq => exact I1.after hq
  | .ok .next, hq => exact False.elim hq
  | .ok .brk, hq => exact False.elim hq
  | .ok .cont, hq => exact False.elim hq
end
section
variable {X : Cx} {T : List (Addr × Str)} {CX : CXT} {kb k : Nat} {g c P : Addr} {fd : FuncData} {ps : List Str} {E : XK} {x : Str} {params : Arguments} {body : Expr} {scope : Scope} {t : XK → TE} {p lpos pos : Pos} {es : List Expr} {ta : TA} {sp : Addr → Addr → (XK → Hp → VK → Prop) → Sp}
/-- x(lambda: body, ..), x a def that hands it on -/
theorem pe_lamW (FW : ∀ (H0 : Hp) (h0 : Heap) (f c' : Addr) (t' : XK → Hp → VK → Prop), Work X.prog X.w X.K X.mg X.base kb (frs X.stack) H0 h0 f c' (X.env.qual ++ "<lambda>") t' → FnW X.prog X.w X.K X.mg X.base (frs X.stack) H0 h0 CX k g fd ps (sp f c' t'))
    (hg : Gl X x) (hm : X.mg x = some (.ref g)) (hk : PySem.W.keepIn X.K (.ref g) = true) (hb : Binds X.K fd ps []) (hx : Passes CX X E) (hr : Room k X.A) (hgd : X.A.guards = some []) (TB : TabB X.base X.mg c P) (hcode : X.env.code = .ref c) (hmT : (P, X.env.qual ++ "<lambda>") ∈ T) (hu : ∀ p ∈ T, p.1 = P → p.2 = X.env.qual ++ "<lambda>")
    (L : LamS X.env.scope scope) (hdef : defaultsOf params X.env = ([], [])) (hbind : ∀ (q : Str) (cl : List (Str × Addr)) (pm cv ctv : Value), bindArgs (PySem.W.kla_fn "<lambda>" q params body scope cl pm cv ctv) ⟨[], []⟩ = pure [])
    (hbody : ∀ (A : Around) (outer : List Env) (s : Shared) (H : Hp) (E : XK) (f c' : Addr), Room kb (A.deeper (lamEnv X scope s.heap.objs.size f c')) → PE (lamCx X A outer s H E scope f c') body (t E)) (ha : PA X es ta)
    (hdb : (x == ("__debug__" : Str)) = false := by decide) (he : starEach (.Lambda params body scope lpos :: es) X.env = (false, eval (.Lambda params body scope lpos) X.env) :: starEach es X.env := by rfl) (hpl : (backTo pos (starEach es X.env)).any (·.1) = false := by rfl) :
    PE X (.Call (.Name x p) (.Lambda params body scope lpos :: es) [] pos) (fun σ H Q => Tabs T H ∧ ∀ H1, ExtN H H1 → Tabs T H1 → ∀ f c' : Addr, H1 c' = some (CodeO c' (X.env.qual ++ "<lambda>")) →
      ta σ H1 fun vs H2 => sp f c' (fun E H Q => t E σ H Q) (.ref f :: vs) H2 Q E) := by
  refine ⟨fun pins s σ H Q I h => ?_⟩
  obtain ⟨hT, h⟩ := h
  refine wpAny_Call_Name_kw (ld_glob I hg hm ?_ hdb)
  refine PySem.W.callWith_K (h₀ := X.base) I.ok.mod.kin hk ?_ he hpl
  rw [he]
  show wpAny _ _ (spliced ((false, eval (.Lambda params body scope lpos) X.env) :: backTo pos (starEach es X.env))) _ _ s
  refine Calls.spliced_cons (lam_make2 I TB hcode hmT hu hT hdef (L.has I.ok) fun f c' pm' ctv H1 s' I1 eN T1 hf hfn hfr hco => ?_)
  have fl : f ≠ X.env.locals := fun z => by
    obtain ⟨m, ⟨o, es', ep, e1, e2, _⟩, _⟩ := I1.loc
    rw [← z, hf] at e1
    cases e1
    cases e2
  have ff : f ∉ X.fs := fun z => hfr (by
    rcases I1.ok.stk with q | ⟨q, _⟩
    · rw [q]
      exact z
    · rw [q]
      obtain ⟨e, he', q'⟩ := List.mem_filterMap.mp z
      exact List.mem_filterMap.mpr ⟨e, List.mem_cons_of_mem _ he', q'⟩)
  have J1 : Inv X ((f, PySem.W.kla_obj "<lambda>" (X.env.qual ++ "<lambda>") params body scope (cloFrom X.env.cells scope.names []) pm' c' ctv) :: pins) σ H1 s' := I1.pins_of fun q hq => by
    rcases List.mem_cons.mp hq with z | z
    · rw [z]
      exact ⟨hf, hfn, fl, ff, fun v y => by cases y⟩
    · exact I1.pin q (List.mem_append_right _ z)
  refine thn (ha.run pos _ s' σ H1 _ J1 (h H1 eN T1 f c' hco)) fun us s2 ⟨vs, H2, J2, r, q⟩ => ⟨J2.kIn, ?_⟩
  have at2 := J2.pin (f, _) (List.mem_append_right _ List.mem_cons_self)
  have I2 : Inv X pins σ H2 s2 := J2.pins_of fun q hq => J2.pin q (List.mem_append_right _ (List.mem_cons_of_mem _ hq))
  have Wk := work_of (tb := t) I2 L at2.1 at2.2.1 hfr (hbind _ _ _ _ _) (fun A outer s1 HZ E hr2 => hbody A outer s1 HZ E f c' hr2)
  have F := FW H2 s2.heap f c' _ Wk
  have r2 : Vals (.ref f :: vs) (.ref f :: us) := .cons rfl r
  have hl : (Value.ref f :: us).length = ps.length := by rw [← r2.length]; exact F.len _ _ _ _ q
  have bt := hb s2 (.ref f :: us) I2.kIn (by simpa using hl)
  rw [List.append_nil] at bt
  refine wpAny_call (codeAny_mono (F.run X.A X.stack s2 H2 ⟨.ref f :: us, []⟩ (.ref f :: us) (.ref f :: vs) Q E hr hgd I2.env0 (Un.kept fun _ _ z => z) (fun b hb => .inl hb) bt r2 q) fun rr s3 hq => ?_)
  match rr, hq with
  | .error e, hq => exact hx pins σ H2 s2 e s3 I2 hq
  | .ok (.ret u), hq => exact I2.after hq
  | .ok .next, hq => exact False.elim hq
  | .ok .brk, hq => exact False.elim hq
  | .ok .cont, hq => exact False.elim hq
end
end KW
namespace KA
open PySem PySem.Spec PyProof.Rows L2 PySem.W LamX KW
/-- isinstance of an exception that is kept as a value, with fields of its own -/
def rIsD (K : PySem.W.Frag) : List V → Hp → VK → Prop := fun xs H Q => ∃ (a D d : Addr) (fs : List (Str × V)) (c : V) (cv : Value) (b : Bool), xs = [.ref a, c] ∧ H a = some (ExV (.ref D) (some d) a) ∧ H d = some (.xd fs) ∧ ExcC K D ∧ ClsV c cv ∧ PySem.W.kitOne K (.ref D) cv = some b ∧ Q (.bl b) H
def rIs3 (K : PySem.W.Frag) : List V → Hp → VK → Prop := fun xs H Q => rIs2 K xs H Q ∨ rIsD K xs H Q
section
variable {X : Cx}
theorem call_isD : CallR X (.builtin "isinstance") (rIsD X.K) := by
  intro pins s σ H xs us Q I r h
  obtain ⟨a, D, d, fs, c, cv, b, rfl, ha, hd, C, k, e, q⟩ := h
  obtain ⟨u1, u2, rfl, r1, r2⟩ := vals2 r
  cases k.eq r2
  obtain rfl : u1 = Value.ref a := r1
  obtain ⟨⟨oe, at1, z, vs, dat⟩, _⟩ := I.hok a _ ha
  obtain ⟨mA, ns, _⟩ := I.hok d _ hd
  obtain ⟨od, at2, _⟩ := lookIn_ns ns
  have J : PySem.W.InstAt s.heap a oe D (some od) := ⟨at1, z.1, by unfold PySem.W.notCls; rw [dat] <;> rfl, by rw [z.2]; exact at2⟩
  obtain ⟨cd, hc, _⟩ := any_some C.hd
  exact PySem.W.kia_one (kitx_exc (by rw [hc]; rfl) C.hg C.hk C.hs C.ha C.hn C.ht C.hm) I.kIn J e (fun z => nomatch z) fun tk => ⟨.bl b, H, I.tok tk, rfl, q⟩
theorem call_is3 : CallR X (.builtin "isinstance") (rIs3 X.K) := by
  intro pins s σ H xs us Q I r h
  rcases h with h | h
  · exact call_is2 pins s σ H xs us Q I r h
  · exact call_isD pins s σ H xs us Q I r h
end
/-- caught, of a work that was handed on: at f, its code object at c' -/
def spCaughtW (K : PySem.W.Frag) (CS : Addr) (f c' : Addr) (q : Str) (t : XK → Hp → VK → Prop) : Sp := fun vs H Q _ => vs = [.ref f] ∧ H c' = some (CodeO c' q) ∧ TCaught K CS t H Q
theorem caught_work {P : Program} {w : World} {K : PySem.W.Frag} {mg : Str → Option Value} {base : Heap} {fs : List Addr} {H0 : Hp} {h0 : Heap} {k : Nat} {f c' : Addr} {q : Str} {t : XK → Hp → VK → Prop} {g : Addr} {fd : FuncData} {x a e n m : Str} {st : Stmt} {CS : Addr} {j1 : Nat} {p1 p2 p3 p4 p5 p6 p7 p8 p9 pa pb pc pd pe : Pos}
    (Wk : Work P w K mg base k fs H0 h0 f c' q t) (F : Fun K x x st g fd) (S : FnScope [a, m, n] [a] (defScope st))
    (hb : defBody st = [.Assign [.Name m p1] (.Constant .none j1 p2) p3,
       .Try [.Expr (.Call (.Name a p4) [] [] p5) p6] [.ExceptHandler (some (.Name e p7)) (some n) [.Assign [.Name m p8] (.Name n p9) pa] pb] [] [] pc,
       .Return (some (.Name m pd)) pe])
    (la : (defScope st).names.lookup a = some .local) (lm : (defScope st).names.lookup m = some .local) (ln : (defScope st).names.lookup n = some .local) (he : (defScope st).names.lookup e = some .globalImplicit) (hme : mg e = some (.ref CS)) (hde : (e == ("__debug__" : Str)) = false)
    (d0 : (a == ("__debug__" : Str)) = false) (d00 : (a == ("__classdict__" : Str)) = false) (d1 : (n == ("__debug__" : Str)) = false) (d2 : (n == ("__classdict__" : Str)) = false) (d3 : (m == ("__debug__" : Str)) = false) (d4 : (m == ("__classdict__" : Str)) = false) :
    FnW P w K mg base fs H0 h0 (L2.CX P w) (k + 2) g fd [a] (spCaughtW K CS f c' q t) := by
  refine fnW_of F S (fun vs H Q E h => by rw [h.1]; rfl) (fun cdv A outer s H vs Q E hr _ Sn h => ?_)
  obtain ⟨rfl, hc, hT⟩ := h
  rw [hb]
  refine ⟨_, pss_cons (ps_set (i := 1) S.nd rfl (.inl lm) pe_non) (pss_cons (ps_try_keep (c := .ref CS) (i := 2) (j := 1)
      (tb := fun W D σ H => ∃ Eb : XK, (∀ cls d σ' H', Eb cls d H' → W cls d σ' H') ∧ σ[0]? = some (some (.ref f)) ∧ H c' = some (CodeO c' q) ∧ t Eb H (fun _ H' => D.nx σ H'))
      rfl rfl rfl S.nd rfl rfl ln lm ⟨he, hde, .inl hme⟩ d1 d2 (fun W pn xe tk _ => ?_))
    (pss_one (ps_ret (pe_var (i := 1) rfl (.inl lm) d3 d4)))), ?_⟩
  · refine ⟨fun pins s' σ H' D I h' => ?_⟩
    obtain ⟨Eb, wish, h1, h2, h3⟩ := h'
    exact (pss_one (ps_expr (pe_work (Z := (cxOf (L2.CX P w) P w K mg base [a, m, n] x (defScope st) g cdv A outer s H E).tr pn xe) (i := 0) Wk ⟨Sn.un, Sn.sub, Sn.ex⟩ (passes_call tk wish) hr rfl (.inl la) d0 d00))).run pins s' σ H' D I ⟨h1, h2, h3⟩
  · refine ⟨fun cls d H' => PySem.W.exmOne K cls (.ref CS) = some true ∧ ∀ b, H' b = none → Q (.ref b) (upd H' b (ExV cls d b)), fun cls d σ' H' ⟨e1, e2⟩ => ⟨e1, fun b hb hl => ?_⟩, rfl, hc, ?_⟩
    · match σ', hl with
      | [u, v, z], _ => exact ⟨_, rfl, e2 b hb⟩
    · exact hT _ fun v H' z => ⟨_, rfl, z⟩
end KA
namespace KL
open PySem PySem.Spec PyProof.Rows L2 PySem.W LamX KA KW
/-! ### a lambda without parameters as a value: kept in a list, a local name, and called later by a def it is handed to -/
/-- the lambda at f, its code object at c', as the def with the frame env made it -/
def LamO (env : Env) (params : Arguments) (body : Expr) (scope : Scope) (f c' : Addr) : HO :=
  .ext fun h => ∃ pm ctv : Value, h.get? f = some (PySem.W.kla_obj "<lambda>" (env.qual ++ "<lambda>") params body scope (cloFrom env.cells scope.names []) pm c' ctv)
theorem lamO_tbl {env : Env} {params : Arguments} {body : Expr} {scope : Scope} {f c' : Addr} (ps : Array Value) : LamO env params body scope f c' ≠ .tbl ps := fun z => by
  unfold LamO at z
  cases z
theorem lamO_lst {env : Env} {params : Arguments} {body : Expr} {scope : Scope} {f c' : Addr} (xs : List V) : LamO env params body scope f c' ≠ .lst xs := fun z => by
  unfold LamO at z
  cases z
section
variable {X : Cx} {pins : List (Addr × Obj)} {σ : L2.St} {H : Hp} {s : Shared}
theorem laidLam {env : Env} {params : Arguments} {body : Expr} {scope : Scope} {c' : Addr} {pm ctv : Value} {h' : Heap} {tk : Nat} (I : Inv X pins σ H { s with heap := h', toks := tk }) :
    Inv X pins σ (upd H h'.objs.size (LamO env params body scope h'.objs.size c')) { s with heap := h'.push (PySem.W.kla_obj "<lambda>" (env.qual ++ "<lambda>") params body scope (cloFrom env.cells scope.names []) pm c' ctv), toks := tk } :=
  I.laid (t' := tk) (fun b o e => Heap.get?_push_of_some _ e) (Nat.le_refl _) ⟨⟨pm, ctv, Heap.get?_push_size _ rfl⟩, ⟨_, Heap.get?_push_size _ rfl⟩, fun h1 h2 ⟨a, b, e⟩ st => ⟨a, b, st _ e⟩⟩
/-- it is made: a value of the heap -/
theorem lam_valF {T : List (Addr × Str)} {c P : Addr} {params : Arguments} {body : Expr} {scope : Scope} {pos : Pos} {E Q : Value → Shared → Prop} (I : Inv X pins σ H s) (TB : TabB X.base X.mg c P) (hcode : X.env.code = .ref c)
    (mem : (P, X.env.qual ++ "<lambda>") ∈ T) (one : ∀ p ∈ T, p.1 = P → p.2 = X.env.qual ++ "<lambda>") (hT : Tabs T H) (hdef : defaultsOf params X.env = ([], [])) (hfree : ∀ y ∈ scope.names, y.2 = .free → ∃ c, X.env.cells.lookup y.1 = some c)
    (k : ∀ (f c' : Addr) (H1 : Hp) (s' : Shared), ExtN H H1 → Tabs T H1 → H1 f = none → H1 c' = some (CodeO c' (X.env.qual ++ "<lambda>")) → Inv X pins σ (upd H1 f (LamO X.env params body scope f c')) s' → Q (.ref f) s') :
    wpAny (model X.prog X.w) X.A (eval (.Lambda params body scope pos) X.env) Q E s := by
  obtain ⟨tb, atP, tri, amg⟩ := hT _ mem
  have clo := closure_ok hfree
  have glob := I.mod.glob.keeps I.bk
  have code := TB.code.keeps I.bk
  have raw : s.heap.get? P = some { cls := .none, data := .fields tb } := I.hok P _ atP
  have bm := TB.bm.keeps I.bk
  refine PySem.W.kla_eval hdef ?_
  cases found : codeAmong pos tb.toList with
  | some cv =>
    obtain ⟨c', rfl, hco⟩ := amg pos cv found
    refine PySem.W.kla_makeFunctionHit clo I.ok.glob glob hcode code raw tri found bm ?_
    intro ctv h' tk hx hsz
    have J : Inv X pins σ H { s with heap := h', toks := tk } := I.kept fun b o e => hx b o e
    exact k _ c' H _ (ExtN.refl H) hT (I.hok.fresh hsz) hco (laidLam J)
  | none =>
    refine PySem.W.kla_makeFunction clo I.ok.glob glob hcode code raw tri found TB.gP bm ?_
    intro c' ctv h' tk hx hge hlt rec tbl
    obtain ⟨c2, oc, vs, t, ec, hoc, hd, hv⟩ := rec
    cases ec
    have free : H c' = none := I.hok.fresh hge
    have ne : P ≠ c' := ne_of_none atP free
    have J := inv_table (t' := tk) (more := #[rawInt pos.line, rawInt pos.col, .ref c']) (h' := h') I atP hx tbl hge ⟨oc, vs, t, hoc, hd, hv⟩
    generalize hH : upd (upd H P (.tbl (tb ++ #[rawInt pos.line, rawInt pos.col, .ref c']))) c' (CodeO c' (X.env.qual ++ "<lambda>")) = H1 at J
    have at1 : H1 c' = some (CodeO c' (X.env.qual ++ "<lambda>")) := by rw [← hH, upd_same]
    have at2 : H1 P = some (.tbl (tb ++ #[rawInt pos.line, rawInt pos.col, .ref c'])) := by rw [← hH, upd_ne ne, upd_same]
    have at3 : ∀ b, b ≠ P → b ≠ c' → H1 b = H b := fun b h1 h2 => by rw [← hH, upd_ne h2, upd_ne h1]
    have ext : ExtN H H1 := fun b o e n => by
      rw [at3 b (fun z => n tb (Option.some.inj (e.symm.trans (z ▸ atP)))) (ne_of_none e free)]
      exact e
    have eL : (tb ++ #[rawInt pos.line, rawInt pos.col, .ref c']).toList = tb.toList ++ [rawInt pos.line, rawInt pos.col, .ref c'] := by simp
    refine k _ c' H1 _ ext (fun p hp => ?_) (J.hok.fresh (Nat.le_refl _)) at1 (laidLam J)
    by_cases hb : p.1 = P
    · rw [one p hp hb, hb]
      refine ⟨_, at2, eL ▸ PySem.TriplesOk_snoc _ _ _ _ tri, fun p' cv hcv => ?_⟩
      rw [eL] at hcv
      cases among_app _ tri hcv with
      | inl z =>
        obtain ⟨c0, e1, e2⟩ := amg p' cv z
        exact ⟨c0, e1, ext _ _ e2 codeO_ne⟩
      | inr z => exact ⟨c', z, at1⟩
    · obtain ⟨ps', a1, a2, a3⟩ := hT p hp
      refine ⟨ps', (at3 p.1 hb (ne_of_none a1 free)).trans a1, a2, fun p' cv hcv => ?_⟩
      obtain ⟨c0, e1, e2⟩ := a3 p' cv hcv
      exact ⟨c0, e1, ext _ _ e2 codeO_ne⟩
end
def tLamV (T : List (Addr × Str)) (env : Env) (params : Arguments) (body : Expr) (scope : Scope) : TE := fun _ H Q => Tabs T H ∧ ∀ H1, ExtN H H1 → Tabs T H1 → ∀ f c' : Addr, H1 f = none → H1 c' = some (CodeO c' (env.qual ++ "<lambda>")) → Q (.ref f) (upd H1 f (LamO env params body scope f c'))
theorem pe_lamV {X : Cx} {T : List (Addr × Str)} {c P : Addr} {params : Arguments} {body : Expr} {scope : Scope} {pos : Pos} (TB : TabB X.base X.mg c P) (hcode : X.env.code = .ref c) (mem : (P, X.env.qual ++ "<lambda>") ∈ T) (one : ∀ p ∈ T, p.1 = P → p.2 = X.env.qual ++ "<lambda>")
    (L : LamS X.env.scope scope) (hdef : defaultsOf params X.env = ([], [])) : PE X (.Lambda params body scope pos) (tLamV T X.env params body scope) := by
  refine ⟨fun pins s σ H Q I h => ?_⟩
  obtain ⟨hT, h⟩ := h
  exact lam_valF I TB hcode mem one hT hdef (L.has I.ok) fun f c' H1 s' ext T1 fr co J => ⟨.ref f, _, J, rfl, h H1 ext T1 f c' fr co⟩
/-- the same, of a lambda with names of its own, which uses none of the def's -/
theorem pe_lamVF {X : Cx} {T : List (Addr × Str)} {c P : Addr} {params : Arguments} {body : Expr} {scope : Scope} {pos : Pos} (TB : TabB X.base X.mg c P) (hcode : X.env.code = .ref c) (mem : (P, X.env.qual ++ "<lambda>") ∈ T) (one : ∀ p ∈ T, p.1 = P → p.2 = X.env.qual ++ "<lambda>")
    (hn : ∀ y ∈ scope.names, y.2 ≠ .free) (hdef : defaultsOf params X.env = ([], [])) : PE X (.Lambda params body scope pos) (tLamV T X.env params body scope) := by
  refine ⟨fun pins s σ H Q I h => ?_⟩
  obtain ⟨hT, h⟩ := h
  exact lam_valF I TB hcode mem one hT hdef (fun y hy e => absurd e (hn y hy)) fun f c' H1 s' ext T1 fr co J => ⟨.ref f, _, J, rfl, h H1 ext T1 f c' fr co⟩
/-- what is known of a lambda that was handed on: pre tells that it stands, t what its call promises -/
structure WorkL (P : Program) (w : World) (K : PySem.W.Frag) (mg : Str → Option Value) (base : Heap) (k : Nat) (fs : List Addr) (H0 : Hp) (h0 : Heap) (f : Addr) (pre : Hp → Prop) (t : XK → Hp → VK → Prop) : Prop where
  fn : ∀ (HZ : Hp) (h1 : Heap), HOk P w HZ h1 → pre HZ → ∃ (qual : Str) (params : Arguments) (body : Expr) (scope : Scope) (cl : List (Str × Addr)) (pm : Value) (c' : Addr) (ctv : Value), h1.get? f = some (PySem.W.kla_obj "<lambda>" qual params body scope cl pm c' ctv)
  run : ∀ (A : Around) (outer : List Env) (s1 : Shared) (HZ : Hp) (Q : VK) (E : XK), Room (k + 1) A → Env0 P w K mg base A outer s1 HZ → Un fs [] H0 HZ h0 s1.heap → pre HZ → t E HZ Q →
    codeAny (model P w) A (.call (.ref f) ⟨[], []⟩) (CR (L2.CX P w) outer P w HZ s1 Q E) s1
section
variable {X : Cx} {pins : List (Addr × Obj)} {σ : L2.St} {H : Hp} {s : Shared}
theorem work_ofL {k : Nat} {f c' : Addr} {params : Arguments} {body : Expr} {scope : Scope} {tb : XK → TE} (I : Inv X pins σ H s) (L : LamS X.env.scope scope)
    (hbind : ∀ (q : Str) (cl : List (Str × Addr)) (pm cv ctv : Value), bindArgs (PySem.W.kla_fn "<lambda>" q params body scope cl pm cv ctv) ⟨[], []⟩ = pure [])
    (hbody : ∀ (A : Around) (outer : List Env) (s1 : Shared) (HZ : Hp) (E : XK), Room k (A.deeper (lamEnv X scope s1.heap.objs.size f c')) → PE (lamCx X A outer s1 HZ E scope f c') body (tb E)) :
    WorkL X.prog X.w X.K X.mg X.base k (frs X.stack) H s.heap f (fun HZ => HZ f = some (LamO X.env params body scope f c') ∧ HZ c' = some (CodeO c' (X.env.qual ++ "<lambda>"))) (fun E HZ Q => tb E σ HZ Q) := by
  refine ⟨fun HZ h1 ok pre => ?_, fun A outer s1 HZ Q E hr e0 un pre ht => ?_⟩
  · obtain ⟨⟨pm, ctv, e⟩, _⟩ := ok f _ pre.1
    exact ⟨_, _, _, _, _, _, _, _, e⟩
  · obtain ⟨pf, pc⟩ := pre
    obtain ⟨⟨pm, ctv, of1⟩, _⟩ := e0.hok f _ pf
    obtain ⟨⟨oc, vs, t, hoc, hdc, hvc⟩, _⟩ := e0.hok c' _ pc
    have lim : s1.heap.NoLimit := e0.mod.nolimit.keeps fun b o e => (e0.bs b o e).1
    refine PySem.W.kla_callFunE hr.depth of1 rfl L.co L.gen rfl ⟨c', oc, vs, t, rfl, hoc, hdc, hvc⟩ ?_
    rw [hbind]
    refine wpAny_pure (wpAny_newFunctionEnv (fun y hy => (L.own y hy).2) (fun y hy => absurd hy (by simp)) (fun h₁ hns hsb => ⟨lim.fresh _ hsb, ?_⟩) L.kind)
    show codeAny _ _ (.expr body (lamEnv X scope s1.heap.objs.size f c')) _ _
    have keep : ∀ b o, s1.heap.get? b = some o → h₁.get? b = some o := fun b o e => hsb.extBut b o (Nat.ne_of_lt (Heap.lt_size e)) (Heap.get?_push_of_some _ e)
    have J : Inv (lamCx X A outer s1 HZ E scope f c') [] σ HZ { s1 with heap := h₁, toks := s1.toks + ([] : List (Str × Value)).length } := lam_start2 I L e0 hr.hd un hns keep
    refine PySem.W.kla_codeExpr (wpAny_mono ((hbody A outer s1 HZ E (hr.deeper _)).run [] _ _ HZ Q J ht) (fun v s' hq => ?_) fun e s' hq => hq)
    obtain ⟨w', H', J', rv, q⟩ := hq
    exact ⟨w', H', J'.os, J'.bare, J'.base, J'.hok, rv, q⟩
end
section
variable {Z : Cx} {k : Nat} {fs : List Addr} {H0 : Hp} {h0 : Heap} {f : Addr} {pre : Hp → Prop} {t : XK → Hp → VK → Prop}
theorem pe_workL {i : Nat} {a : Str} {E : XK} {p1 p2 : Pos} (Wk : WorkL Z.prog Z.w Z.K Z.mg Z.base k fs H0 h0 f pre t) (S : Since Z fs H0 h0) (hx : Passes (L2.CX Z.prog Z.w) Z E) (hr : Room (k + 1) Z.A) (hN : Z.N[i]? = some a) (hv : Vis Z.env.scope a)
    (hd : (a == ("__debug__" : Str)) = false := by decide) (hcd : (a == ("__classdict__" : Str)) = false := by decide) :
    PE Z (.Call (.Name a p1) [] [] p2) (fun σ H Q => σ[i]? = some (some (.ref f)) ∧ pre H ∧ t E H Q) := by
  refine ⟨fun pins s σ H Q I h => ?_⟩
  obtain ⟨hs, hp, ht⟩ := h
  refine wpAny_Call_Name_kw (thn ((pe_var (pos := p1) (i := i) hN hv hd hcd).run pins s σ H (fun v H1 => v = .ref f ∧ H1 = H) I ⟨.ref f, hs, rfl, rfl⟩) fun u s1 ⟨v, H1, I1, r1, q1⟩ => ?_)
  obtain ⟨rfl, rfl⟩ := q1
  obtain rfl : u = Value.ref f := r1
  obtain ⟨_, _, _, _, _, _, _, _, ob⟩ := Wk.fn H1 s1.heap I1.hok hp
  refine PySem.W.callWith_F0 ⟨_, _, _, _, ob⟩ ?_
  refine wpAny_call (codeAny_mono (Wk.run Z.A Z.stack s1 H1 Q E hr I1.env0 (S.now I1) hp ht) fun r s' hq => ?_)
  match r, hq with
  | .error e, hq => exact hx pins σ H1 s1 e s' I1 hq
  | .ok (.ret u), hq => exact I1.after hq
  | .ok .next, hq => exact False.elim hq
  | .ok .brk, hq => exact False.elim hq
  | .ok .cont, hq => exact False.elim hq
end
/-- caught, of such a lambda -/
def spCaughtL (K : PySem.W.Frag) (CS : Addr) (f : Addr) (pre : Hp → Prop) (t : XK → Hp → VK → Prop) : Sp := fun vs H Q _ => vs = [.ref f] ∧ pre H ∧ TCaught K CS t H Q
theorem caught_workL {P : Program} {w : World} {K : PySem.W.Frag} {mg : Str → Option Value} {base : Heap} {fs : List Addr} {H0 : Hp} {h0 : Heap} {k : Nat} {f : Addr} {pre : Hp → Prop} {t : XK → Hp → VK → Prop} {g : Addr} {fd : FuncData} {x a e n m : Str} {st : Stmt} {CS : Addr} {j1 : Nat} {p1 p2 p3 p4 p5 p6 p7 p8 p9 pa pb pc pd pe : Pos}
    (Wk : WorkL P w K mg base k fs H0 h0 f pre t) (F : Fun K x x st g fd) (S : FnScope [a, m, n] [a] (defScope st))
    (hb : defBody st = [.Assign [.Name m p1] (.Constant .none j1 p2) p3,
       .Try [.Expr (.Call (.Name a p4) [] [] p5) p6] [.ExceptHandler (some (.Name e p7)) (some n) [.Assign [.Name m p8] (.Name n p9) pa] pb] [] [] pc,
       .Return (some (.Name m pd)) pe])
    (la : (defScope st).names.lookup a = some .local) (lm : (defScope st).names.lookup m = some .local) (ln : (defScope st).names.lookup n = some .local) (he : (defScope st).names.lookup e = some .globalImplicit) (hme : mg e = some (.ref CS)) (hde : (e == ("__debug__" : Str)) = false)
    (d0 : (a == ("__debug__" : Str)) = false) (d00 : (a == ("__classdict__" : Str)) = false) (d1 : (n == ("__debug__" : Str)) = false) (d2 : (n == ("__classdict__" : Str)) = false) (d3 : (m == ("__debug__" : Str)) = false) (d4 : (m == ("__classdict__" : Str)) = false) :
    FnW P w K mg base fs H0 h0 (L2.CX P w) (k + 2) g fd [a] (spCaughtL K CS f pre t) := by
  refine fnW_of F S (fun vs H Q E h => by rw [h.1]; rfl) (fun cdv A outer s H vs Q E hr _ Sn h => ?_)
  obtain ⟨rfl, hp, hT⟩ := h
  rw [hb]
  refine ⟨_, pss_cons (ps_set (i := 1) S.nd rfl (.inl lm) pe_non) (pss_cons (ps_try_keep (c := .ref CS) (i := 2) (j := 1)
      (tb := fun W D σ H => ∃ Eb : XK, (∀ cls d σ' H', Eb cls d H' → W cls d σ' H') ∧ σ[0]? = some (some (.ref f)) ∧ pre H ∧ t Eb H (fun _ H' => D.nx σ H'))
      rfl rfl rfl S.nd rfl rfl ln lm ⟨he, hde, .inl hme⟩ d1 d2 (fun W pn xe tk _ => ?_))
    (pss_one (ps_ret (pe_var (i := 1) rfl (.inl lm) d3 d4)))), ?_⟩
  · refine ⟨fun pins s' σ H' D I h' => ?_⟩
    obtain ⟨Eb, wish, h1, h2, h3⟩ := h'
    exact (pss_one (ps_expr (pe_workL (Z := (cxOf (L2.CX P w) P w K mg base [a, m, n] x (defScope st) g cdv A outer s H E).tr pn xe) (i := 0) Wk ⟨Sn.un, Sn.sub, Sn.ex⟩ (passes_call tk wish) hr rfl (.inl la) d0 d00))).run pins s' σ H' D I ⟨h1, h2, h3⟩
  · refine ⟨fun cls d H' => PySem.W.exmOne K cls (.ref CS) = some true ∧ ∀ b, H' b = none → Q (.ref b) (upd H' b (ExV cls d b)), fun cls d σ' H' ⟨e1, e2⟩ => ⟨e1, fun b hb hl => ?_⟩, rfl, hp, ?_⟩
    · match σ', hl with
      | [u, v, z], _ => exact ⟨_, rfl, e2 b hb⟩
    · exact hT _ fun v H' z => ⟨_, rfl, z⟩
/-- a lambda of a def, and what its body promises -/
structure LamD where
  params : Arguments
  body : Expr
  scope : Scope
  t : XK → TE
structure LamOk (X : Cx) (kb : Nat) (l : LamD) : Prop where
  L : LamS X.env.scope l.scope
  bind : ∀ (q : Str) (cl : List (Str × Addr)) (pm cv ctv : Value), bindArgs (PySem.W.kla_fn "<lambda>" q l.params l.body l.scope cl pm cv ctv) ⟨[], []⟩ = pure []
  run : ∀ (A : Around) (outer : List Env) (s : Shared) (H : Hp) (E : XK) (f c' : Addr), Room kb (A.deeper (lamEnv X l.scope s.heap.objs.size f c')) → PE (lamCx X A outer s H E l.scope f c') l.body (l.t E)
/-- x(work): work, a name of this def, stands for one of its lambdas -/
theorem pe_callL {X : Cx} {CX : CXT} {kb k i : Nat} {g : Addr} {fd : FuncData} {ps : List Str} {E : XK} {x a : Str} {p p' pos : Pos} {sp : Addr → (Hp → Prop) → (XK → Hp → VK → Prop) → Sp} (lams : List LamD) (ok : ∀ l ∈ lams, LamOk X kb l)
    (FW : ∀ (H0 : Hp) (h0 : Heap) (f : Addr) (pre : Hp → Prop) (t' : XK → Hp → VK → Prop), WorkL X.prog X.w X.K X.mg X.base kb (frs X.stack) H0 h0 f pre t' → FnW X.prog X.w X.K X.mg X.base (frs X.stack) H0 h0 CX k g fd ps (sp f pre t'))
    (hg : Gl X x) (hm : X.mg x = some (.ref g)) (hk : PySem.W.keepIn X.K (.ref g) = true) (hb : Binds X.K fd ps []) (hx : Passes CX X E) (hr : Room k X.A) (hgd : X.A.guards = some []) (hN : X.N[i]? = some a) (hv : Vis X.env.scope a)
    (hdb : (x == ("__debug__" : Str)) = false := by decide) (hd : (a == ("__debug__" : Str)) = false := by decide) (hcd : (a == ("__classdict__" : Str)) = false := by decide)
    (he : starEach [.Name a p'] X.env = (false, eval (.Name a p') X.env) :: starEach [] X.env := by rfl) (hpl : (backTo pos (starEach [] X.env)).any (·.1) = false := by rfl) :
    PE X (.Call (.Name x p) [.Name a p'] [] pos) (fun σ H Q => ∃ l ∈ lams, ∃ f c' : Addr, σ[i]? = some (some (.ref f)) ∧ H f = some (LamO X.env l.params l.body l.scope f c') ∧ H c' = some (CodeO c' (X.env.qual ++ "<lambda>")) ∧
      sp f (fun HZ => HZ f = some (LamO X.env l.params l.body l.scope f c') ∧ HZ c' = some (CodeO c' (X.env.qual ++ "<lambda>"))) (fun E H Q => l.t E σ H Q) [.ref f] H Q E) := by
  refine ⟨fun pins s σ H Q I h => ?_⟩
  obtain ⟨l, hl, f, c', hs, hf, hc, q⟩ := h
  have O := ok l hl
  refine wpAny_Call_Name_kw (ld_glob I hg hm ?_ hdb)
  refine PySem.W.callWith_K (h₀ := X.base) I.ok.mod.kin hk ?_ he hpl
  rw [he]
  refine Calls.spliced_cons (thn ((pe_var (pos := p') (i := i) hN hv hd hcd).run pins s σ H (fun v H1 => v = .ref f ∧ H1 = H) I ⟨.ref f, hs, rfl, rfl⟩) fun u s1 ⟨v, H1, I1, r1, q1⟩ => ?_)
  obtain ⟨rfl, rfl⟩ := q1
  obtain rfl : u = Value.ref f := r1
  refine Calls.spliced_nil ⟨I1.kIn, ?_⟩
  have Wk := work_ofL (tb := l.t) (f := f) (c' := c') I1 O.L O.bind (fun A outer s2 HZ E hr2 => O.run A outer s2 HZ E f c' hr2)
  have F := FW H1 s1.heap f _ _ Wk
  have hlen : [Value.ref f].length = ps.length := by
    have := F.len _ _ _ _ q
    exact this
  have bt := hb s1 [.ref f] I1.kIn (by simpa using hlen)
  rw [List.append_nil] at bt
  refine wpAny_call (codeAny_mono (F.run X.A X.stack s1 H1 ⟨[.ref f], []⟩ [.ref f] [.ref f] Q E hr hgd I1.env0 (Un.kept fun _ _ z => z) (fun b hb => .inl hb) bt (.cons rfl .nil) q) fun rr s3 hq => ?_)
  match rr, hq with
  | .error e, hq => exact hx pins σ H1 s1 e s3 I1 hq
  | .ok (.ret u), hq => exact I1.after hq
  | .ok .next, hq => exact False.elim hq
  | .ok .brk, hq => exact False.elim hq
  | .ok .cont, hq => exact False.elim hq
end KL
namespace K47
open PySem PySem.Spec PyProof.Rows L2 PySem.W LamX KA
def top (i : Nat) : Stmt := PySem.Challenge.pw_pricedreels_k47_gains_of_whole_sets.main.body.getD i (.Pass ⟨0, 0, 0, 0⟩)
abbrev s_is_number : Stmt := top 1
theorem sc_is_number : FnScope ["thing"] ["thing"] (defScope s_is_number) := ⟨rfl, rfl, rfl, by decide +kernel, rfl, by decide +kernel, by decide +kernel⟩
abbrev s_is_within : Stmt := top 2
theorem sc_is_within : FnScope ["thing", "low", "high"] ["thing", "low", "high"] (defScope s_is_within) := ⟨rfl, rfl, rfl, by decide +kernel, rfl, by decide +kernel, by decide +kernel⟩
abbrev s_check_web : Stmt := top 9
theorem sc_check_web : FnScope ["web", "frame", "row", "told", "ready"] ["web"] (defScope s_check_web) := ⟨rfl, rfl, rfl, by decide +kernel, rfl, by decide +kernel, by decide +kernel⟩
abbrev s_are_in : Stmt := top 10
theorem sc_are_in : FnScope ["frames", "others", "frame"] ["frames", "others"] (defScope s_are_in) := ⟨rfl, rfl, rfl, by decide +kernel, rfl, by decide +kernel, by decide +kernel⟩
abbrev s_is_lot : Stmt := top 11
theorem sc_is_lot : FnScope ["thing", "many", "one", "other", "number"] ["thing", "many"] (defScope s_is_lot) := ⟨rfl, rfl, rfl, by decide +kernel, rfl, by decide +kernel, by decide +kernel⟩
abbrev s_is_whole : Stmt := top 12
theorem sc_is_whole : FnScope ["web", "thing", "frame"] ["web", "thing"] (defScope s_is_whole) := ⟨rfl, rfl, rfl, by decide +kernel, rfl, by decide +kernel, by decide +kernel⟩
abbrev s_greatest_gain : Stmt := top 15
theorem sc_greatest_gain : FnScope ["web", "gains", "chosen"] ["web", "gains"] (defScope s_greatest_gain) := ⟨rfl, rfl, rfl, by decide +kernel, rfl, by decide +kernel, by decide +kernel⟩
abbrev s_best_sets : Stmt := top 16
theorem sc_best_sets : FnScope ["web", "gains"] ["web", "gains"] (defScope s_best_sets) := ⟨rfl, rfl, rfl, by decide +kernel, rfl, by decide +kernel, by decide +kernel⟩
abbrev s_check_gains : Stmt := top 17
theorem sc_check_gains : FnScope ["web", "gains"] ["web", "gains"] (defScope s_check_gains) := ⟨rfl, rfl, rfl, by decide +kernel, rfl, by decide +kernel, by decide +kernel⟩
abbrev s_are_numbers : Stmt := top 18
theorem sc_are_numbers : FnScope ["web", "thing", "low", "high", "number"] ["web", "thing", "low", "high"] (defScope s_are_numbers) := ⟨rfl, rfl, rfl, by decide +kernel, rfl, by decide +kernel, by decide +kernel⟩
abbrev s_whole_sets : Stmt := top 19
theorem sc_whole_sets : FnScope ["web", "found", "frame", "chosen"] ["web"] (defScope s_whole_sets) := ⟨rfl, rfl, rfl, by decide +kernel, rfl, by decide +kernel, by decide +kernel⟩
abbrev s_gain_of : Stmt := top 20
theorem sc_gain_of : FnScope ["gains", "chosen", "frame"] ["gains", "chosen"] (defScope s_gain_of) := ⟨rfl, rfl, rfl, by decide +kernel, rfl, by decide +kernel, by decide +kernel⟩
abbrev s_best_of : Stmt := top 21
theorem sc_best_of : FnScope ["web", "gains", "sets", "most", "best", "many", "chosen"] ["web", "gains"] (defScope s_best_of) := ⟨rfl, rfl, rfl, by decide +kernel, rfl, by decide +kernel, by decide +kernel⟩
abbrev s__law_begun : Stmt := top 23
theorem sc__law_begun : FnScope ["script", "cells_here", "large", "cell"] ["script"] (defScope s__law_begun) := ⟨rfl, rfl, rfl, by decide +kernel, rfl, by decide +kernel, by decide +kernel⟩
abbrev s__law_draw : Stmt := top 24
theorem sc__law_draw : FnScope ["state", "size_here", "found", "turn", "cell", "mixed"] ["state", "size_here"] (defScope s__law_draw) := ⟨rfl, rfl, rfl, by decide +kernel, rfl, by decide +kernel, by decide +kernel⟩
abbrev s__law_pick : Stmt := top 25
theorem sc__law_pick : FnScope ["state", "several"] ["state", "several"] (defScope s__law_pick) := ⟨rfl, rfl, rfl, by decide +kernel, rfl, by decide +kernel, by decide +kernel⟩
abbrev s__law_mixed : Stmt := top 26
theorem sc__law_mixed : FnScope ["state", "several", "left", "found"] ["state", "several"] (defScope s__law_mixed) := ⟨rfl, rfl, rfl, by decide +kernel, rfl, by decide +kernel, by decide +kernel⟩
abbrev s__law_caught : Stmt := top 27
theorem sc__law_caught : FnScope ["work", "caught", "error"] ["work"] (defScope s__law_caught) := ⟨rfl, rfl, rfl, by decide +kernel, rfl, by decide +kernel, by decide +kernel⟩
abbrev s__law_net : Stmt := top 28
theorem sc__law_net : FnScope ["state", "most", "size_here", "rounds_here", "line", "found", "turn", "own", "some", "lap"] ["state", "most"] (defScope s__law_net) := ⟨rfl, rfl, rfl, by decide +kernel, rfl, by decide +kernel, by decide +kernel⟩
abbrev s__law_is_shut : Stmt := top 29
theorem sc__law_is_shut : FnScope ["net", "lot", "own", "mate"] ["net", "lot"] (defScope s__law_is_shut) := ⟨rfl, rfl, rfl, by decide +kernel, rfl, by decide +kernel, by decide +kernel⟩
abbrev s__law_shut_lots : Stmt := top 30
theorem sc__law_shut_lots : FnScope ["net", "found", "own", "lot"] ["net"] (defScope s__law_shut_lots) := ⟨rfl, rfl, rfl, by decide +kernel, rfl, by decide +kernel, by decide +kernel⟩
abbrev s__law_sum : Stmt := top 31
theorem sc__law_sum : FnScope ["several", "lot", "own"] ["several", "lot"] (defScope s__law_sum) := ⟨rfl, rfl, rfl, by decide +kernel, rfl, by decide +kernel, by decide +kernel⟩
abbrev s__law_best_lots : Stmt := top 32
theorem sc__law_best_lots : FnScope ["net", "several", "every", "best", "some", "least", "most", "lot", "own"] ["net", "several"] (defScope s__law_best_lots) := ⟨rfl, rfl, rfl, by decide +kernel, rfl, by decide +kernel, by decide +kernel⟩
abbrev s__law_yields : Stmt := top 33
theorem sc__law_yields : FnScope ["state", "net", "fashion", "found", "own", "item"] ["state", "net"] (defScope s__law_yields) := ⟨rfl, rfl, rfl, by decide +kernel, rfl, by decide +kernel, by decide +kernel⟩
abbrev s__law_more_right : Stmt := top 34
theorem sc__law_more_right : FnScope ["state", "net", "several", "due", "lot", "size_here", "longer", "cost", "found", "each", "item"] ["state", "net", "several", "due"] (defScope s__law_more_right) := ⟨rfl, rfl, rfl, by decide +kernel, rfl, by decide +kernel, by decide +kernel⟩
abbrev s__law_refused_right : Stmt := top 35
theorem sc__law_refused_right : FnScope ["state", "net", "several", "spot_here", "bent", "some", "due", "odd", "error"] ["state", "net", "several"] (defScope s__law_refused_right) := ⟨rfl, rfl, rfl, by decide +kernel, rfl, by decide +kernel, by decide +kernel⟩
abbrev s_law : Stmt := top 36
theorem sc_law : FnScope ["script", "state", "turn", "net", "several", "shown", "due", "lot", "every"] ["script"] (defScope s_law) := ⟨rfl, rfl, rfl, by decide +kernel, rfl, by decide +kernel, by decide +kernel⟩
/-- what the top has written -/
structure Top (K : PySem.W.Frag) (mg : Str → Option Value) where
  reel : ReelT K mg
  BadGains : ExcT K mg "BadGains" reel.C
  is_number : DefT K mg "is_number" s_is_number
  is_within : DefT K mg "is_within" s_is_within
  check_web : DefT K mg "check_web" s_check_web
  are_in : DefT K mg "are_in" s_are_in
  is_lot : DefT K mg "is_lot" s_is_lot
  is_whole : DefT K mg "is_whole" s_is_whole
  greatest_gain : DefT K mg "greatest_gain" s_greatest_gain
  best_sets : DefT K mg "best_sets" s_best_sets
  check_gains : DefT K mg "check_gains" s_check_gains
  are_numbers : DefT K mg "are_numbers" s_are_numbers
  whole_sets : DefT K mg "whole_sets" s_whole_sets
  gain_of : DefT K mg "gain_of" s_gain_of
  best_of : DefT K mg "best_of" s_best_of
  _law_begun : DefT K mg "_law_begun" s__law_begun
  _law_draw : DefT K mg "_law_draw" s__law_draw
  _law_pick : DefT K mg "_law_pick" s__law_pick
  _law_mixed : DefT K mg "_law_mixed" s__law_mixed
  _law_caught : DefT K mg "_law_caught" s__law_caught
  _law_net : DefT K mg "_law_net" s__law_net
  _law_is_shut : DefT K mg "_law_is_shut" s__law_is_shut
  _law_shut_lots : DefT K mg "_law_shut_lots" s__law_shut_lots
  _law_sum : DefT K mg "_law_sum" s__law_sum
  _law_best_lots : DefT K mg "_law_best_lots" s__law_best_lots
  _law_yields : DefT K mg "_law_yields" s__law_yields
  _law_more_right : DefT K mg "_law_more_right" s__law_more_right
  _law_refused_right : DefT K mg "_law_refused_right" s__law_refused_right
  law : DefT K mg "law" s_law
  cMOST_FRAMES : CstT mg "MOST_FRAMES" (10)
  cMOST_GAIN : CstT mg "MOST_GAIN" (9999999999)
  b_isinstance : mg "isinstance" = none
  b_int : mg "int" = none
  b_bool : mg "bool" = none
  b_len : mg "len" = none
  b_abs : mg "abs" = none
  b_range : mg "range" = none
  b_min : mg "min" = none
  b_max : mg "max" = none
  b_repr : mg "repr" = none
  b_list : mg "list" = none
  b_tuple : mg "tuple" = none
  b_sorted : mg "sorted" = none
  b_set : mg "set" = none
  b_sum : mg "sum" = none
  b_zip : mg "zip" = none
  b_all : mg "all" = none
  b_enumerate : mg "enumerate" = none
  b_ValueError : mg "ValueError" = none
section
variable {K : PySem.W.Frag} {mg : Str → Option Value}
theorem bd_is_number (T : Top K mg) : Binds K T.is_number.d ["thing"] [] := T.is_number.f.binds fun _ _ _ _ _ _ us hl => match us, hl with | [_], _ => rfl
theorem bd_is_within (T : Top K mg) : Binds K T.is_within.d ["thing", "low", "high"] [] := T.is_within.f.binds fun _ _ _ _ _ _ us hl => match us, hl with | [_, _, _], _ => rfl
theorem bd_check_web (T : Top K mg) : Binds K T.check_web.d ["web"] [] := T.check_web.f.binds fun _ _ _ _ _ _ us hl => match us, hl with | [_], _ => rfl
theorem bd_are_in (T : Top K mg) : Binds K T.are_in.d ["frames", "others"] [] := T.are_in.f.binds fun _ _ _ _ _ _ us hl => match us, hl with | [_, _], _ => rfl
theorem bd_is_lot (T : Top K mg) : Binds K T.is_lot.d ["thing", "many"] [] := T.is_lot.f.binds fun _ _ _ _ _ _ us hl => match us, hl with | [_, _], _ => rfl
theorem bd_is_whole (T : Top K mg) : Binds K T.is_whole.d ["web", "thing"] [] := T.is_whole.f.binds fun _ _ _ _ _ _ us hl => match us, hl with | [_, _], _ => rfl
theorem bd_greatest_gain (T : Top K mg) : Binds K T.greatest_gain.d ["web", "gains"] [] := T.greatest_gain.f.binds fun _ _ _ _ _ _ us hl => match us, hl with | [_, _], _ => rfl
theorem bd_best_sets (T : Top K mg) : Binds K T.best_sets.d ["web", "gains"] [] := T.best_sets.f.binds fun _ _ _ _ _ _ us hl => match us, hl with | [_, _], _ => rfl
theorem bd_check_gains (T : Top K mg) : Binds K T.check_gains.d ["web", "gains"] [] := T.check_gains.f.binds fun _ _ _ _ _ _ us hl => match us, hl with | [_, _], _ => rfl
theorem bd_are_numbers (T : Top K mg) : Binds K T.are_numbers.d ["web", "thing", "low", "high"] [] := T.are_numbers.f.binds fun _ _ _ _ _ _ us hl => match us, hl with | [_, _, _, _], _ => rfl
theorem bd_whole_sets (T : Top K mg) : Binds K T.whole_sets.d ["web"] [] := T.whole_sets.f.binds fun _ _ _ _ _ _ us hl => match us, hl with | [_], _ => rfl
theorem bd_gain_of (T : Top K mg) : Binds K T.gain_of.d ["gains", "chosen"] [] := T.gain_of.f.binds fun _ _ _ _ _ _ us hl => match us, hl with | [_, _], _ => rfl
theorem bd_best_of (T : Top K mg) : Binds K T.best_of.d ["web", "gains"] [] := T.best_of.f.binds fun _ _ _ _ _ _ us hl => match us, hl with | [_, _], _ => rfl
theorem bd__law_begun (T : Top K mg) : Binds K T._law_begun.d ["script"] [] := T._law_begun.f.binds fun _ _ _ _ _ _ us hl => match us, hl with | [_], _ => rfl
theorem bd__law_draw (T : Top K mg) : Binds K T._law_draw.d ["state", "size_here"] [] := T._law_draw.f.binds fun _ _ _ _ _ _ us hl => match us, hl with | [_, _], _ => rfl
theorem bd__law_pick (T : Top K mg) : Binds K T._law_pick.d ["state", "several"] [] := T._law_pick.f.binds fun _ _ _ _ _ _ us hl => match us, hl with | [_, _], _ => rfl
theorem bd__law_mixed (T : Top K mg) : Binds K T._law_mixed.d ["state", "several"] [] := T._law_mixed.f.binds fun _ _ _ _ _ _ us hl => match us, hl with | [_, _], _ => rfl
theorem bd__law_caught (T : Top K mg) : Binds K T._law_caught.d ["work"] [] := T._law_caught.f.binds fun _ _ _ _ _ _ us hl => match us, hl with | [_], _ => rfl
theorem bd__law_net (T : Top K mg) : Binds K T._law_net.d ["state", "most"] [] := T._law_net.f.binds fun _ _ _ _ _ _ us hl => match us, hl with | [_, _], _ => rfl
theorem bd__law_is_shut (T : Top K mg) : Binds K T._law_is_shut.d ["net", "lot"] [] := T._law_is_shut.f.binds fun _ _ _ _ _ _ us hl => match us, hl with | [_, _], _ => rfl
theorem bd__law_shut_lots (T : Top K mg) : Binds K T._law_shut_lots.d ["net"] [] := T._law_shut_lots.f.binds fun _ _ _ _ _ _ us hl => match us, hl with | [_], _ => rfl
theorem bd__law_sum (T : Top K mg) : Binds K T._law_sum.d ["several", "lot"] [] := T._law_sum.f.binds fun _ _ _ _ _ _ us hl => match us, hl with | [_, _], _ => rfl
theorem bd__law_best_lots (T : Top K mg) : Binds K T._law_best_lots.d ["net", "several"] [] := T._law_best_lots.f.binds fun _ _ _ _ _ _ us hl => match us, hl with | [_, _], _ => rfl
theorem bd__law_yields (T : Top K mg) : Binds K T._law_yields.d ["state", "net"] [] := T._law_yields.f.binds fun _ _ _ _ _ _ us hl => match us, hl with | [_, _], _ => rfl
theorem bd__law_more_right (T : Top K mg) : Binds K T._law_more_right.d ["state", "net", "several", "due"] [] := T._law_more_right.f.binds fun _ _ _ _ _ _ us hl => match us, hl with | [_, _, _, _], _ => rfl
theorem bd__law_refused_right (T : Top K mg) : Binds K T._law_refused_right.d ["state", "net", "several"] [] := T._law_refused_right.f.binds fun _ _ _ _ _ _ us hl => match us, hl with | [_, _, _], _ => rfl
theorem bd_law (T : Top K mg) : Binds K T.law.d ["script"] [] := T.law.f.binds fun _ _ _ _ _ _ us hl => match us, hl with | [_], _ => rfl
end
end K47
namespace KA
open PySem
/-! ### numbers in bits: the mathematics -/
/-- n in k bits, as codes -/
def bitsL : Nat → Nat → List Nat
  | 0, _ => []
  | k + 1, n => bitsL k (n / 2) ++ [48 + n % 2]
theorem bitsL_len : ∀ k n, (bitsL k n).length = k
  | 0, _ => rfl
  | k + 1, n => by simp [bitsL, bitsL_len k]
def binL (n : Nat) : List Nat := (Nat.toDigits 2 n).map Char.toNat
theorem binL_lt {n : Nat} (h : n < 2) : binL n = [48 + n] := by
  unfold binL
  rw [Nat.toDigits_of_lt_base h]
  have : n = 0 ∨ n = 1 := by omega
  rcases this with rfl | rfl <;> rfl
theorem binL_ge {n : Nat} (h : 2 ≤ n) : binL n = binL (n / 2) ++ [48 + n % 2] := by
  unfold binL
  rw [Nat.toDigits_of_base_le (by decide) h, List.map_append]
  have : n % 2 = 0 ∨ n % 2 = 1 := by omega
  rcases this with e | e <;> rw [e] <;> rfl
/-- the digits behind the first one -/
def tailL (n : Nat) : List Nat := (binL n).drop 1
theorem binL_ne (n : Nat) : binL n ≠ [] := by
  unfold binL
  intro h
  exact Nat.toDigits_ne_nil (List.map_eq_nil_iff.mp h)
theorem tailL_lt {n : Nat} (h : n < 2) : tailL n = [] := by
  unfold tailL
  rw [binL_lt h]
  rfl
theorem tailL_ge {n : Nat} (h : 2 ≤ n) : tailL n = tailL (n / 2) ++ [48 + n % 2] := by
  unfold tailL
  rw [binL_ge h, List.drop_append_of_le_length]
  have := List.length_pos_iff.mpr (binL_ne (n / 2))
  omega
theorem binL_head : ∀ (n : Nat), 1 ≤ n → binL n = 49 :: tailL n := by
  intro n
  induction n using Nat.strongRecOn with
  | _ n ih =>
    intro h
    by_cases h2 : n < 2
    · have : n = 1 := by omega
      subst this
      rfl
    · rw [tailL_ge (by omega), binL_ge (by omega), ih (n / 2) (by omega) (by omega)]
      rfl
theorem binL_le : ∀ (k n : Nat), 0 < k → n < 2 ^ k → (binL n).length ≤ k
  | 0, _, h, _ => by omega
  | k + 1, n, _, h => by
    by_cases h2 : n < 2
    · rw [binL_lt h2]
      simp
    · rw [binL_ge (by omega), List.length_append]
      have hk : 0 < k := by
        rcases Nat.eq_zero_or_pos k with e | e
        · subst e
          simp at h
          omega
        · exact e
      have := binL_le k (n / 2) hk (by rw [Nat.pow_succ] at h; omega)
      simp
      omega
theorem bitsL_bin : ∀ (k n : Nat), 0 < k → n < 2 ^ k → List.replicate (k - (binL n).length) 48 ++ binL n = bitsL k n
  | 0, _, h, _ => by omega
  | k + 1, n, _, h => by
    rw [bitsL]
    by_cases h2 : n < 2
    · rw [binL_lt h2]
      have e : n / 2 = 0 := by omega
      have e2 : n % 2 = n := by omega
      rw [e, e2]
      have z : ∀ j, bitsL j 0 = List.replicate j 48 := fun j => by
        induction j with
        | zero => rfl
        | succ j ih => rw [bitsL, Nat.zero_div, ih, List.replicate_succ']
      rw [z]
      simp
    · have hk : 0 < k := by
        rcases Nat.eq_zero_or_pos k with e | e
        · subst e
          simp at h
          omega
        · exact e
      have hd : n / 2 < 2 ^ k := by
        rw [Nat.pow_succ] at h
        omega
      rw [← bitsL_bin k (n / 2) hk hd, binL_ge (by omega), List.length_append]
      have e : k + 1 - ((binL (n / 2)).length + [48 + n % 2].length) = k - (binL (n / 2)).length := by simp
      rw [e, List.append_assoc]
theorem binText_eq (n : Nat) : binText n = ⟨(binL n).toArray⟩ := rfl
theorem binText_len (n : Nat) : (binText n).length = (binL n).length := by simp [binText, binL, Str.length]
/-- n in m bits, as a text -/
def twosT (m n : Nat) : Str := ⟨(bitsL m n).toArray⟩
theorem zfill_bin {m n : Nat} (hm : 0 < m) (h : n < 2 ^ m) : Txt.zfill (binText n) (m : Int) = twosT m n := by
  have hl := binL_le m n hm h
  have hb := bitsL_bin m n hm h
  unfold Txt.zfill
  rw [binText_len]
  by_cases e : (m : Int) ≤ ((binL n).length : Nat)
  · rw [if_pos e]
    have : m - (binL n).length = 0 := by omega
    rw [this] at hb
    simp only [List.replicate_zero, List.nil_append] at hb
    rw [binText_eq, hb]
    rfl
  · rw [if_neg e]
    have h0 : (binText n).cps[0]? = some 48 ∨ (binText n).cps[0]? = some 49 := by
      rw [binText_eq]
      rcases Nat.eq_zero_or_pos n with z | z
      · subst z
        exact .inl rfl
      · rw [binL_head n z]
        exact .inr rfl
    have e2 : zfilled (binText n) ((m : Int).toNat - (binL n).length) = Builtin.Str.padded (binText n) ((m : Int).toNat - (binL n).length) 0 48 := by
      unfold zfilled
      rcases h0 with z | z
      · rw [z]
        rfl
      · rw [z]
        rfl
    rw [e2]
    unfold Builtin.Str.padded twosT
    rw [← hb, binText_eq]
    congr 1
    apply Array.toList_inj.mp
    simp
/-- n ones -/
def onesT (n : Nat) : Str := ⟨(List.replicate n 49).toArray⟩
theorem onesT_len (n : Nat) : (onesT n).length = n := by simp [onesT, Str.length]
theorem fold_ones (n : Nat) : ∀ acc : Array Nat, (List.replicate n (#[49] : Array Nat)).foldl (· ++ ·) acc = acc ++ (List.replicate n 49).toArray := by
  induction n with
  | zero => intro acc; simp
  | succ n ih =>
    intro acc
    rw [List.replicate_succ, List.foldl_cons, ih, List.replicate_succ]
    apply Array.toList_inj.mp
    simp
theorem mul_ones (n : Nat) : Txt.mul "1" (n : Int) = onesT n := by
  unfold Txt.mul
  by_cases h : (n : Int) < 1
  · rw [if_pos h]
    have : n = 0 := by omega
    subst this
    rfl
  · rw [if_neg h]
    by_cases h1 : n = 1
    · subst h1
      rfl
    · rw [if_neg (by
        have e : ((n : Int) == 1) = false := by
          rw [beq_eq_false_iff_ne]
          omega
        rw [e]
        decide)]
      show (⟨(List.replicate (n : Int).toNat (#[49] : Array Nat)).foldl (· ++ ·) #[]⟩ : Str) = _
      rw [Int.toNat_natCast, fold_ones]
      unfold onesT
      congr 1
      apply Array.toList_inj.mp
      simp
end KA
namespace K47
open PySem PySem.Spec PyProof.Rows L2 PySem.W LamX KA
/-! ### the promises -/
/-- a value whose type isinstance can tell; whether it is a number -/
inductive Pl (K : PySem.W.Frag) (H : Hp) : V → Bool → Prop where
  | int (i : Int) : Pl K H (.int i) true
  | bl (b : Bool) : Pl K H (.bl b) false
  | str (s : Str) : Pl K H (.str s) false
  | non : Pl K H .non false
  | tup {a : Addr} {xs : List V} (e : H a = some (.tup xs)) : Pl K H (.ref a) false
  | lst {a : Addr} {xs : List V} (e : H a = some (.lst xs)) : Pl K H (.ref a) false
  | dK {a : Addr} {kvs : List (Key × V)} (e : H a = some (.dK kvs)) : Pl K H (.ref a) false
theorem Pl.ty {K : PySem.W.Frag} {H : Hp} {x : V} {b : Bool} (h : Pl K H x b) : ∃ t : String, TyX K H x (.type t) ∧ kitB t "int" = some (b || (t == "bool")) ∧ kitB t "bool" = some (t == "bool") ∧ ((b || (t == "bool")) && !(t == "bool")) = b := by
  cases h with
  | int i => exact ⟨"int", .base (.int i), by decide +kernel, by decide +kernel, by decide⟩
  | bl i => exact ⟨"bool", .base (.bl i), by decide +kernel, by decide +kernel, by decide⟩
  | str i => exact ⟨"str", .base (.str i), by decide +kernel, by decide +kernel, by decide⟩
  | non => exact ⟨"NoneType", .base .non, by decide +kernel, by decide +kernel, by decide⟩
  | tup e => exact ⟨"tuple", .base (.tup e), by decide +kernel, by decide +kernel, by decide⟩
  | lst e => exact ⟨"list", .base (.lst e), by decide +kernel, by decide +kernel, by decide⟩
  | dK e => exact ⟨"dict", .base (.dK e), by decide +kernel, by decide +kernel, by decide⟩
def within (x : V) (lo hi : Int) : Bool := match x with
  | .int i => decide (lo ≤ i) && decide (i ≤ hi)
  | _ => false
def spNumber (K : PySem.W.Frag) : Sp := fun vs H Q _ => ∃ x b, vs = [x] ∧ Pl K H x b ∧ Q (.bl b) H
def spWithin (K : PySem.W.Frag) : Sp := fun vs H Q _ => ∃ x b lo hi, vs = [x, .int lo, .int hi] ∧ Pl K H x b ∧ Q (.bl (within x lo hi)) H
section
variable {P : Program} {w : World} {K : PySem.W.Frag} {mg : Str → Option Value} {base : Heap} (T : Top K mg)
abbrev pInt {X : Cx} {pos : Pos} (hg : Gl X "int") (hm : X.mg "int" = none) : PE X (.Name "int" pos) (tC (.ty "int")) := pe_bltn hg hm PyProof.Rows.boot_int rfl
theorem q_bl {Q : VK} {H : Hp} {a b : Bool} (k : Q (.bl b) H) (e : a = b) : Q (.bl a) H := e ▸ k
theorem q_int {Q : VK} {H : Hp} {a b : Int} (k : Q (.int b) H) (e : a = b) : Q (.int a) H := e ▸ k
theorem q_str {Q : VK} {H : Hp} {a b : Str} (k : Q (.str b) H) (e : a = b) : Q (.str a) H := e ▸ k
theorem ok_is_number : FnOk P w K mg base (L2.CX P w) 1 T.is_number.a T.is_number.d ["thing"] (spNumber K) := by
  refine T.is_number.f.okX sc_is_number (fun vs H Q E h => ?_) (fun cdv A outer s H vs Q E hr h => ?_)
  · obtain ⟨x, b, rfl, _⟩ := h
    rfl
  · obtain ⟨x, b, rfl, hp, k⟩ := h
    refine ⟨_, pss_one (ps_ret (pe_and
      (pe_callB call_isi (by rfl) T.b_isinstance PyProof.Rows.boot_isinstance (pa_cons (pv 0) (pa_cons (pe_bltn (v := .ty "int") (by rfl) T.b_int PyProof.Rows.boot_int rfl) pa_nil)))
      (pe_one (pe_not (pe_callB call_isi (by rfl) T.b_isinstance PyProof.Rows.boot_isinstance (pa_cons (pv 0) (pa_cons (pe_bltn (v := .ty "bool") (by rfl) T.b_bool (by decide +kernel) rfl) pa_nil))))))), ?_⟩
    obtain ⟨t, ht, h1, h2, h3⟩ := hp.ty
    refine ⟨_, rfl, x, _, _, _, _, rfl, .ty "int", ht, kit_ty h1, _, rfl, ?_⟩
    cases e : (b || (t == "bool"))
    · rw [e] at h3
      refine iteF ?_
      exact q_bl k h3
    · rw [e] at h3
      refine iteT ?_
      refine ⟨_, rfl, x, _, _, _, _, rfl, .ty "bool", ht, kit_ty h2, _, rfl, ?_⟩
      exact q_bl k (by simpa using h3)
theorem ok_is_within : FnOk P w K mg base (L2.CX P w) 2 T.is_within.a T.is_within.d ["thing", "low", "high"] (spWithin K) := by
  refine T.is_within.f.okX sc_is_within (fun vs H Q E h => ?_) (fun cdv A outer s H vs Q E hr h => ?_)
  · obtain ⟨x, b, lo, hi, rfl, _⟩ := h
    rfl
  · obtain ⟨x, b, lo, hi, rfl, hp, k⟩ := h
    refine ⟨_, pss_one (ps_ret (pe_and (pe_call (ok_is_number T) hr (by rfl) T.is_number.m T.is_number.f.kp (bd_is_number T) .nil passE (pa_cons (pv 0) pa_nil))
      (pe_one (pe_chain op_le op_le (pv 1) (pv 0) (pv 2))))), ?_⟩
    refine ⟨_, rfl, x, b, rfl, hp, b, rfl, ?_⟩
    cases hp with
    | int i =>
      refine iteT ⟨_, rfl, _, rfl, lo, i, rfl, rfl, _, rfl, ?_⟩
      by_cases h1 : lo ≤ i
      · rw [decide_eq_true h1]
        refine iteT ⟨_, rfl, i, hi, rfl, rfl, ?_⟩
        exact q_bl k (by simp [within, h1])
      · rw [decide_eq_false h1]
        refine iteF ?_
        exact q_bl k (by simp [within, h1])
    | _ => exact iteF k
def foldI (i : Int) : Int := if i > 0 then 2 * i - 1 else -2 * i
def spFold : Sp := fun vs H Q _ => ∃ i : Int, vs = [.int i] ∧ Q (.int (foldI i)) H
def unfoldI (n : Int) : Int := if Builtin.bitAnd n 1 != 0 then (n + 1) / 2 else -(n / 2)
def spUnfold : Sp := fun vs H Q _ => ∃ i : Int, vs = [.int i] ∧ Q (.int (unfoldI i)) H
/-- n in m bits, as the program writes it -/
theorem padOk {m : Int} (h0 : 0 ≤ m) (h1 : m ≤ 100) : PadOk m = true := by
  unfold PadOk fitsSsize Builtin.Str.tooLong
  have e : sizeLine = 16777216 := rfl
  rw [e]
  simp
  omega
def inBits (n m : Int) : Str := if m = 0 then "" else Txt.zfill (binText n.natAbs) m
def spInBits : Sp := fun vs H Q _ => ∃ n m : Int, vs = [.int n, .int m] ∧ 0 ≤ n ∧ (binText n.natAbs).length ≤ 100 ∧ 0 ≤ m ∧ m ≤ 100 ∧ Q (.str (inBits n m)) H
def spIsTold (K : PySem.W.Frag) : Sp := fun vs H Q _ => ∃ x b, vs = [x] ∧ Pl K H x b ∧ Q (.bl (within x (-32767) 32767)) H
/-- a check: nothing, or an error of the class at C -/
def spCheck (K : PySem.W.Frag) (lo hi : Int) (C : Addr) : Sp := fun vs H Q E => ∃ x b, vs = [x] ∧ Pl K H x b ∧ (within x lo hi = true → Q .non H) ∧ (within x lo hi = false → E (.ref C) none H)
theorem iteNot {A B : Prop} {b : Bool} (h1 : b = false → A) (h2 : b = true → B) : if (!b) = true then A else B := by
  cases b
  · exact h1 rfl
  · exact h2 rfl
theorem passX {X : Cx} {E : XK} (hs : X.stack = X.env :: X.outer) (hf : X.env.frame = some X.env.locals) (hex : X.ex = []) (hx : X.xe = fun e s' => wpAny (model X.prog X.w) X.A (leaving X.env e) (fun _ s'' => L2.CX X.prog X.w X.outer X.H_0 X.s_0 E e s'') (fun e' s'' => L2.CX X.prog X.w X.outer X.H_0 X.s_0 E e' s'') s') :
    Passes (L2.CX X.prog X.w) X E := passes_call (takes_of hs hf hex hx) fun _ _ _ _ h => h
theorem within_int {x : V} {lo hi : Int} (h : within x lo hi = true) : ∃ i, x = .int i ∧ lo ≤ i ∧ i ≤ hi := by
  cases x with
  | int i =>
    simp only [within, Bool.and_eq_true, decide_eq_true_eq] at h
    exact ⟨i, rfl, h⟩
  | _ => cases h
def spFolded (K : PySem.W.Frag) (C : Addr) : Sp := fun vs H Q E => ∃ x b, vs = [x] ∧ Pl K H x b ∧ (∀ i, x = .int i → -32767 ≤ i → i ≤ 32767 → Q (.int (foldI i)) H) ∧ (within x (-32767) 32767 = false → E (.ref C) none H)
def spUnfolded (K : PySem.W.Frag) (C : Addr) : Sp := fun vs H Q E => ∃ x b, vs = [x] ∧ Pl K H x b ∧ (∀ i, x = .int i → 0 ≤ i → i ≤ 65534 → Q (.int (unfoldI i)) H) ∧ (within x 0 65534 = false → E (.ref C) none H)
end
end K47
namespace K47
open PySem PySem.Spec PyProof.Rows L2 PySem.W LamX KA
open Evl (pss_cut tCut)
def spDraw : Sp := fun vs H Q _ => ∃ (st lg cl : Addr) (n m : Nat), vs = [.ref st, .int n] ∧ 0 < n ∧ n < 2 ^ 100 ∧ m ≤ 1000000 ∧ StAt H st lg cl m ∧
  ∀ (r : Nat) (H' : Hp), r < n → StAt H' st lg cl (m + 1) → Kp st lg H H' → Q (.int r) H'
section
variable {P : Program} {w : World} {K : PySem.W.Frag} {mg : Str → Option Value} {base : Heap} (T : Top K mg)
theorem draw_div {n : Nat} (h0 : 0 < n) (h : n < 2 ^ 100) {i : Int} : CDivW i (n : Int) := wide_div (b := 100) (by omega) (by simpa using h) (by decide) (by decide)
theorem ok_draw : FnOk P w K mg base (L2.CX P w) 1 T._law_draw.a T._law_draw.d ["state", "size_here"] spDraw := by
  refine T._law_draw.f.okX sc__law_draw (fun vs H Q E h => ?_) (fun cdv A outer s H vs Q E hr h => ?_)
  · obtain ⟨st, lg, cl, n, m, rfl, _⟩ := h
    rfl
  · obtain ⟨st, lg, cl, n, m, rfl, hn, hn2, hm, ⟨large, cells, left, turn, S, ht⟩, k⟩ := h
    have hu := hu_of hr
    refine ⟨_, pss_cut (ps_while (passes_of rfl) (PW.pt (pw_and (pt_cmpR op_eq (pe_dget hu (pv 0) pe_str (fun _ _ => rfl)) pe_int (nomark _)) (pw_and1 (pt_cmpR (op_neD hr.units) (pe_dget hu (pv 0) pe_str (fun _ _ => rfl)) (pe_lst pa_nil) (nomark _)))))
        (pss_one (ps_dput hu (pv 0) pe_str (pe_bm PySem.F.plainAttrs_list PySem.F.slot_list_pop PySem.F.type_list_pop mt_popAt (pe_dget hu (pv 0) pe_str (fun _ _ => rfl)) (pa_cons pe_int pa_nil)) rfl)))
      (pss_cons (ps_if (pt_cmpR op_gt (pe_dget hu (pv 0) pe_str (fun _ _ => rfl)) pe_int (nomark _))
        (pss_cons (ps_set (i := 2) sc__law_draw.nd rfl (.inl rfl) (pe_op op_mod (pe_callTy call_int1 (by rfl) T.b_int PyProof.Rows.boot_int (pa_cons (pe_dget hu (pv 0) pe_str (fun _ _ => rfl)) pa_nil)) (pv 1)))
        (pss_cons (ps_dput hu (pv 0) pe_str (pe_op op_fdivW (pe_dget hu (pv 0) pe_str (fun _ _ => rfl)) (pv 1)) rfl)
        (pss_one (ps_ret (pv 2))))) pss_nil)
      (pss_cons (ps_set (i := 3) sc__law_draw.nd rfl (.inl rfl) (pe_op op_add (pe_dget hu (pv 0) pe_str (fun _ _ => rfl)) pe_int))
      (pss_cons (ps_dput hu (pv 0) pe_str (pv 3) rfl)
      (pss_cut (ps_set (i := 4) sc__law_draw.nd rfl (.inl rfl) (pe_ifExp (pt_cmpR (op_neD hr.units) (pe_dget hu (pv 0) pe_str (fun _ _ => rfl)) (pe_lst pa_nil) (nomark _))
        (pe_ix ix_list (pe_dget hu (pv 0) pe_str (fun _ _ => rfl)) (pe_op op_mod (pe_callTy call_int1 (by rfl) T.b_int PyProof.Rows.boot_int (pa_cons (pv 3) pa_nil)) (pe_callB call_len_seq (by rfl) T.b_len PySem.boot_len (pa_cons (pe_dget hu (pv 0) pe_str (fun _ _ => rfl)) pa_nil))) (fun _ _ => rfl))
        pe_int))
      (pss_cons (ps_set (i := 5) sc__law_draw.nd rfl (.inl rfl) (pe_op op_mod (pe_callTy call_int1 (by rfl) T.b_int PyProof.Rows.boot_int (pa_cons (pe_op op_pow (pe_op op_add (pe_op op_add (pe_op op_mod (pe_callTy call_int1 (by rfl) T.b_int PyProof.Rows.boot_int (pa_cons (pv 4) pa_nil)) pe_int) (pe_op op_mul pe_int (pv 3))) pe_int) pe_int) pa_nil)) pe_int))
      (pss_one (ps_ret (pe_op op_mod (pe_callTy call_int1 (by rfl) T.b_int PyProof.Rows.boot_int (pa_cons (pe_op op_fdiv (pe_op op_mod (pe_callTy call_int1 (by rfl) T.b_int PyProof.Rows.boot_int (pa_cons (pe_op op_pow (pe_op op_add (pv 5) (pe_op op_mul pe_int (pv 3))) pe_int) pa_nil)) pe_int) pe_int) pa_nil)) (pv 1))))))))), ?_⟩
    -- the while
    refine ⟨fun σ' H' => σ' = [some (.ref st), some (.int n), none, none, none, none] ∧ ∃ large' left', StD H' st lg cl large' cells left' turn ∧ Kp st lg H H', ?_, ?_⟩
    · refine ⟨fun μ σ' H' => σ' = [some (.ref st), some (.int n), none, none, none, none] ∧ ∃ large' left', large'.length = μ ∧ StD H' st lg cl large' cells left' turn ∧ Kp st lg H H',
        ⟨large.length, rfl, large, left, rfl, S, Kp.refl⟩, ?_⟩
      rintro μ σ' H1 ⟨rfl, large', left', hμ, S1, kp1⟩
      refine ⟨_, rfl, st, _, rfl, (show DGet H1 st (kV kLeft) _ from st_left ▸ DGet.k S1.d), rfl, _, rfl, ?_⟩
      by_cases c1 : left' = 0
      · subst c1
        refine iteT ⟨_, rfl, st, _, rfl, (show DGet H1 st (kV kLarge) _ from st_large ▸ DGet.k S1.d), by decide, fun p hp => ?_⟩
        have S2 := S1.same (Same.new (o := .lst []) hp)
        have kp2 := kp1.trans (Kp.same (Same.new (o := .lst []) hp))
        refine ⟨_, _, dp_int_list S2.l, dp_nil upd_same, shaped_is _, shaped_nil, _, rfl, ?_⟩
        rw [eqv_ints_nil]
        cases large' with
        | nil => exact iteF ⟨rfl, [], 0, S2, kp2⟩
        | cons x rest =>
          refine iteT ⟨fun σ' H' => σ' = [some (.ref st), some (.int n), none, none, none, none] ∧ ∃ large' left', large'.length = rest.length ∧ StD H' st lg cl large' cells left' turn ∧ Kp st lg H H',
            fun σ' H' ⟨e, l', lf, e2, r⟩ => ⟨rest.length, by rw [← hμ]; exact Nat.lt_succ_self _, e, l', lf, e2, r⟩, ?_⟩
          refine ⟨_, rfl, st, .ref lg, rfl, (show DGet _ st (kV kLarge) _ from st_large ▸ DGet.k S2.d), .inl ⟨rfl, _, SqL.of S2.l⟩, lg, _, 0, 0, .int x, rfl, rfl, S2.l, by decide, by decide, by simp [seqIndex?], rfl, ?_⟩
          have S3 : StD (upd (upd H1 p (.lst [])) lg (.lst (rest.map V.int))) st lg cl rest cells 0 turn :=
            { d := (upd_ne S2.st_lg).trans S2.d, l := upd_same, c := (upd_ne S2.ne.symm).trans S2.c, ne := S2.ne, pl := fun y hy => S2.pl y (List.mem_cons_of_mem _ hy), p0 := S2.p0 }
          have hx : 0 ≤ x := S2.pl x List.mem_cons_self
          refine ⟨_, rfl, st, _, rfl, (show DPut _ st (kV kLeft) _ _ from DPut.k S3.d (by show 4 < sizeLine; decide)), ?_⟩
          rw [st_put_left]
          exact ⟨rfl, rest, x, rfl, S3.put hx, (kp2.trans Kp.put2).trans Kp.put⟩
      · rw [show decide (V.int left' = V.int 0) = false from decide_eq_false fun z => c1 (V.int.inj z)]
        exact iteF ⟨rfl, large', left', S1, kp1⟩
    · rintro σ' H1 ⟨rfl, large', left', S1, kp1⟩
      refine ⟨_, rfl, st, _, rfl, (show DGet H1 st (kV kLeft) _ from st_left ▸ DGet.k S1.d), _, _, rfl, rfl, _, rfl, ?_⟩
      by_cases c1 : 0 < left'
      · rw [show decide ((0 : Int) < left') = true from decide_eq_true c1]
        refine iteT ⟨_, rfl, st, _, rfl, (show DGet H1 st (kV kLeft) _ from st_left ▸ DGet.k S1.d), .inl ⟨_, rfl, _, rfl, _, _, rfl, rfl, (by show (0 : Int) < (n : Int); omega), ?_⟩⟩
        refine ⟨_, rfl, st, _, rfl, (show DGet H1 st (kV kLeft) _ from st_left ▸ DGet.k S1.d), _, rfl, _, _, rfl, rfl, draw_div hn hn2, _, rfl, st, _, rfl, (show DPut _ st (kV kLeft) _ _ from DPut.k S1.d (by show 4 < sizeLine; decide)), ?_⟩
        rw [st_put_left]
        have hr0 := Int.emod_nonneg left' (show (n : Int) ≠ 0 by omega)
        have hr1 := Int.emod_lt_of_pos left' (show (0 : Int) < n by omega)
        have S3 := S1.put (t := turn) (l := left' / (n : Int)) (Int.ediv_nonneg (by omega) (by omega))
        exact ⟨_, rfl, q_int (k (left' % (n : Int)).toNat _ (by omega) ⟨_, _, _, _, S3, by omega⟩ (kp1.trans Kp.put)) (by omega)⟩
      · rw [show decide ((0 : Int) < left') = false from decide_eq_false c1]
        refine iteF ⟨_, rfl, st, _, rfl, (show DGet H1 st (kV kTurn) _ from st_turn ▸ DGet.k S1.d), _, _, rfl, rfl, _, rfl, _, rfl, st, _, rfl, (show DPut _ st (kV kTurn) _ _ from DPut.k S1.d (by show 4 < sizeLine; decide)), ?_⟩
        rw [st_put_turn]
        have S2 : StD (upd H1 st (.dK (stKv lg cl left' ((turn + 1 : Nat) : Int)))) st lg cl large' cells left' (turn + 1) := S1.put S1.p0
        have kp2 : Kp st lg H (upd H1 st (.dK (stKv lg cl left' ((turn + 1 : Nat) : Int)))) := kp1.trans Kp.put
        have e1 : ((turn : Int) + 1) = ((turn + 1 : Nat) : Int) := by omega
        rw [e1]
        generalize upd H1 st (.dK (stKv lg cl left' ((turn + 1 : Nat) : Int))) = H2 at S2 kp2 ⊢
        refine ⟨fun σ' H' => ∃ c : Int, σ' = [some (.ref st), some (.int n), none, some (.int ((turn + 1 : Nat) : Int)), some (.int c), none] ∧ StD H' st lg cl large' cells left' (turn + 1) ∧ Kp st lg H H', ?_, ?_⟩
        · refine ⟨_, rfl, st, .ref cl, rfl, (show DGet H2 st (kV kCells) _ from st_cells ▸ DGet.k S2.d), by decide, fun p hp => ?_⟩
          have S3 := S2.same (Same.new (o := .lst []) hp)
          have kp3 := kp2.trans (Kp.same (Same.new (o := .lst []) hp))
          refine ⟨_, _, dp_int_list S3.c, dp_nil upd_same, shaped_is _, shaped_nil, _, rfl, ?_⟩
          rw [eqv_ints_nil]
          generalize upd H2 p (.lst []) = H3 at S3 kp3 ⊢
          cases cells with
          | nil => exact iteF ⟨0, rfl, S3, kp3⟩
          | cons y ys =>
            refine iteT ⟨_, rfl, st, .ref cl, rfl, (show DGet H3 st (kV kCells) _ from st_cells ▸ DGet.k S3.d), _, rfl, .inl ⟨_, rfl, _, rfl, st, .ref cl, rfl, (show DGet H3 st (kV kCells) _ from st_cells ▸ DGet.k S3.d), cl, _, rfl, .inl (SqL.of S3.c), _, _, rfl, rfl, ?_, ?_⟩⟩
            · show (0 : Int) < ((((y :: ys).map V.int).length : Nat) : Int)
              simp
            · have hlen : ((y :: ys).map V.int).length = (y :: ys).length := List.length_map _
              have hz : (turn + 1) % (y :: ys).length < (y :: ys).length := Nat.mod_lt _ (by simp)
              obtain ⟨c, hc⟩ : ∃ c, (y :: ys)[(turn + 1) % (y :: ys).length]? = some c := ⟨_, List.getElem?_eq_getElem hz⟩
              refine ⟨cl, _, _, .int c, rfl, rfl, SqL.of S3.c, ?_, c, rfl, S3, kp3⟩
              rw [hlen, show (((turn : Int) + 1) % (((y :: ys).length : Nat) : Int)) = (((turn + 1) % (y :: ys).length : Nat) : Int) from rfl]
              exact atI_nat (by rw [List.getElem?_map, hc]; rfl)
        · rintro σ' H3 ⟨c, rfl, S3, kp3⟩
          have h1 := Int.emod_nonneg c (show (2147483563 : Int) ≠ 0 by decide)
          have h2 := Int.emod_lt_of_pos c (show (0 : Int) < 2147483563 by decide)
          refine ⟨_, rfl, .inl ⟨_, rfl, _, _, rfl, rfl, (by show (0 : Int) < 2147483563; decide), _, rfl, _, _, rfl, rfl, .inl ⟨by decide, by decide⟩, _, _, rfl, rfl, _, _, rfl, rfl, _, _, rfl, rfl, ⟨by decide, by decide, ?_⟩, .inl ⟨_, rfl, _, _, rfl, rfl, (by show (0 : Int) < 2147483629; decide), ?_⟩⟩⟩
          · generalize c % 2147483563 = c' at h1 h2 ⊢
            omega
          generalize (c % 2147483563 + 40692 * ((turn + 1 : Nat) : Int) + 24681) ^ (3 : Int).toNat = z
          have h3 := Int.emod_nonneg z (show (2147483629 : Int) ≠ 0 by decide)
          have h4 := Int.emod_lt_of_pos z (show (0 : Int) < 2147483629 by decide)
          dsimp only
          generalize z % 2147483629 = y at h3 h4 ⊢
          refine ⟨_, rfl, _, rfl, _, _, rfl, rfl, .inl ⟨by decide, by decide⟩, _, _, rfl, rfl, _, _, rfl, rfl, ⟨by decide, by decide, by omega⟩, .inl ⟨_, rfl, _, _, rfl, rfl, (by show (0 : Int) < 2147483579; decide), _, _, rfl, rfl, ⟨by decide, by decide⟩, .inl ⟨_, rfl, _, rfl, _, _, rfl, rfl, (by show (0 : Int) < (n : Int); omega), ?_⟩⟩⟩
          generalize (y + 104917 * ((turn + 1 : Nat) : Int)) ^ (5 : Int).toNat % 2147483579 / 29 = x
          have h5 := Int.emod_nonneg x (show (n : Int) ≠ 0 by omega)
          have h6 := Int.emod_lt_of_pos x (show (0 : Int) < n by omega)
          exact q_int (k (x % (n : Int)).toNat _ (by omega) ⟨_, _, _, _, S3, by omega⟩ kp3) (by omega)
end
end K47
namespace K47
open PySem PySem.Spec PyProof.Rows L2 PySem.W LamX KA
open Evl (pss_cut tCut)
def spPick : Sp := fun vs H Q _ => ∃ (st lg cl a : Addr) (xs : List V) (m : Nat), vs = [.ref st, .ref a] ∧ H a = some (.lst xs) ∧ a ≠ lg ∧ 0 < xs.length ∧ xs.length ≤ 1000 ∧ m ≤ 1000000 ∧ StAt H st lg cl m ∧
  ∀ (x : V) (H' : Hp), x ∈ xs → StAt H' st lg cl (m + 1) → Kp st lg H H' → Q x H'
section
variable {P : Program} {w : World} {K : PySem.W.Frag} {mg : Str → Option Value} {base : Heap} (T : Top K mg)
theorem ok_pick : FnOk P w K mg base (L2.CX P w) 2 T._law_pick.a T._law_pick.d ["state", "several"] spPick := by
  refine T._law_pick.f.okX sc__law_pick (fun vs H Q E h => ?_) (fun cdv A outer s H vs Q E hr h => ?_)
  · obtain ⟨st, lg, cl, a, xs, m, rfl, _⟩ := h
    rfl
  · obtain ⟨st, lg, cl, a, xs, m, rfl, ha, hal, h0, h1, hm, S, k⟩ := h
    have has : a ≠ st := by
      obtain ⟨_, _, _, _, S', _⟩ := S
      exact ne_of ha S'.d (by intro z; cases z)
    refine ⟨_, pss_one (ps_ret (pe_ix ix_list (pv 1) (pe_call (ok_draw T) hr (by rfl) T._law_draw.m T._law_draw.f.kp (bd__law_draw T) .nil passE (pa_cons (pv 0) (pa_cons (pe_callB call_len_seq (by rfl) T.b_len PySem.boot_len (pa_cons (pv 1) pa_nil)) pa_nil))) (fun _ _ => rfl))), ?_⟩
    refine ⟨_, rfl, _, rfl, _, rfl, a, xs, rfl, .inl (SqL.of ha), st, lg, cl, xs.length, m, rfl, h0, ?_, hm, S, fun r H' hr' S' kp => ?_⟩
    · exact Nat.lt_of_le_of_lt h1 (by decide)
    · obtain ⟨x, hx⟩ : ∃ x, xs[r]? = some x := ⟨_, List.getElem?_eq_getElem hr'⟩
      exact ⟨a, xs, _, x, rfl, rfl, SqL.of (kp a _ ha has hal), atI_nat hx, k x H' (List.mem_of_getElem? hx) S' kp⟩
def spBegun (K : PySem.W.Frag) : Sp := fun vs H Q _ => ∃ (a : Addr) (ns : List Int), vs = [.ref a] ∧ SqL K H a (ns.map V.int) ∧ ns.length ≤ 63 ∧
  ∀ (st lg cl : Addr) (H' : Hp), StAt H' st lg cl 0 → Same H H' → H st = none → H lg = none → Q (.ref st) H'
theorem ok_begun : FnOk P w K mg base (L2.CX P w) 1 T._law_begun.a T._law_begun.d ["script"] (spBegun K) := by
  refine T._law_begun.f.okX sc__law_begun (fun vs H Q E h => ?_) (fun cdv A outer s H vs Q E hr h => ?_)
  · obtain ⟨a, ns, rfl, _⟩ := h
    rfl
  · obtain ⟨a, ns, rfl, hS, hl, k⟩ := h
    refine ⟨_, pss_cons (ps_setLc (i := 1) (own := [("cell", 3)]) (g := gName 3) (tt := tYes) rfl sc__law_begun.nd rfl rfl (sw_true rfl rfl rfl (by decide +kernel)) (pi_list (pv 0)) (blkOk_by (own := [("cell", 3)]) (N := ["script", "cells_here", "large", "cell"]) (sc := defScope s__law_begun) (by decide +kernel))
        (fun _ _ _ _ _ => pg_name (i := 3) sc__law_begun.nd rfl (Or.inl rfl)) (fun _ _ _ _ _ => pts_nil) (fun _ _ _ _ _ => pe_callB call_abs (by rfl) T.b_abs (by decide +kernel) (pa_cons (pv 3) pa_nil)))
      (pss_cons (ps_setLc (i := 2) (own := [("cell", 3)]) (g := gName 3) rfl sc__law_begun.nd rfl rfl (sw_true rfl rfl rfl (by decide +kernel)) (pi_list (pv 1)) (blkOk_by (own := [("cell", 3)]) (N := ["script", "cells_here", "large", "cell"]) (sc := defScope s__law_begun) (by decide +kernel))
        (fun _ _ _ _ _ => pg_name (i := 3) sc__law_begun.nd rfl (Or.inl rfl)) (fun _ _ _ _ _ => pts_one (pt_cmpR op_ge (pv 3) (pe_op op_pow pe_int pe_int) (nomark _))) (fun _ _ _ _ _ => pe_op op_sub (pv 3) (pe_op op_pow pe_int pe_int)))
      (pss_one (ps_ret (pe_disp (pps_cons pe_str (pv 2) (pps_cons pe_str (pv 1) (pps_cons pe_str pe_int (pps_cons pe_str pe_int pps_nil)))) (by rfl) (by rfl) (fun z => by cases z) (by decide))))), ?_⟩
    refine ⟨_, rfl, a, rfl, ⟨_, hS⟩, fun cl hcl => lc_list (K := K) (a := a) (xs := ns.map V.int) (fun i H' => H' cl = some (.lst ((ns.take i).map fun n => V.int (if n < 0 then -n else n))) ∧ Same H H') ⟨upd_same, Same.new hcl⟩ (fun i H' _ h => h.2.seq hS) ?_ ?_⟩
    · rintro i x H' hx ⟨h1, h2⟩
      obtain ⟨n, hn, rfl⟩ : ∃ n, ns[i]? = some n ∧ x = V.int n := by
        rw [List.getElem?_map] at hx
        cases e : ns[i]? with
        | none => rw [e] at hx; cases hx
        | some n => rw [e] at hx; exact ⟨n, rfl, (Option.some.inj hx).symm⟩
      refine ⟨rfl, ?_⟩
      dsimp only [tYes]
      rw [if_pos rfl]
      refine ⟨_, rfl, n, rfl, _, h1, ?_, ?_, ?_⟩
      · rw [List.length_map, List.length_take]
        exact Nat.lt_of_le_of_lt (Nat.min_le_right _ _) (Nat.lt_of_le_of_lt hl (by decide))
      · rw [upd_same, take_map_snoc _ _ _ _ hn]
      · intro b o e
        rw [upd_ne (ne_of_none e hcl)]
        exact h2 b o e
    rintro H1 ⟨h1, h2⟩
    rw [List.length_map, List.take_length] at h1
    have h1 : H1 cl = some (.lst ((ns.map fun n => if n < 0 then -n else n).map V.int)) := by rw [h1, List.map_map]; rfl
    have hlc : (ns.map fun n => if n < 0 then -n else n).length ≤ 63 := by rw [List.length_map]; exact hl
    generalize (ns.map fun n => if n < 0 then -n else n) = cells at h1 hlc
    refine ⟨_, rfl, cl, rfl, ⟨_, SqL.of h1⟩, fun lg hlg => lc_list (K := K) (a := cl) (xs := cells.map V.int) (fun i H' => H' lg = some (.lst ((((cells.take i).filter fun c => decide ((1000000000000000000 : Int) ≤ c)).map fun c => c - 1000000000000000000).map V.int)) ∧ Same H1 H') ⟨upd_same, Same.new hlg⟩ (fun i H' _ h => h.2.seq (SqL.of h1)) ?_ ?_⟩
    · rintro i x H' hx ⟨h3, h4⟩
      obtain ⟨n, hn, rfl⟩ : ∃ n, cells[i]? = some n ∧ x = V.int n := by
        rw [List.getElem?_map] at hx
        cases e : cells[i]? with
        | none => rw [e] at hx; cases hx
        | some n => rw [e] at hx; exact ⟨n, rfl, (Option.some.inj hx).symm⟩
      have et : cells.take (i + 1) = cells.take i ++ [n] := by rw [List.take_add_one, hn]; rfl
      refine ⟨rfl, _, rfl, _, _, rfl, rfl, ⟨by decide, by decide, by decide⟩, _, _, rfl, rfl, _, rfl, ?_⟩
      rw [show ((10 : Int) ^ (18 : Int).toNat) = 1000000000000000000 by decide, et, List.filter_append]
      by_cases c : (1000000000000000000 : Int) ≤ n
      · rw [show decide ((1000000000000000000 : Int) ≤ n) = true from decide_eq_true c]
        dsimp only
        rw [if_pos rfl]
        refine ⟨_, rfl, _, _, rfl, rfl, ⟨by decide, by decide, by decide⟩, _, _, rfl, rfl, _, h3, ?_, ?_, ?_⟩
        · rw [List.length_map, List.length_map]
          refine Nat.lt_of_le_of_lt (Nat.le_trans (List.length_filter_le _ _) ?_) (show 63 < sizeLine by decide)
          rw [List.length_take]
          omega
        · rw [upd_same]
          simp [c]
        · intro b o e
          rw [upd_ne (ne_of_none e hlg)]
          exact h4 b o e
      · rw [show decide ((1000000000000000000 : Int) ≤ n) = false from decide_eq_false c]
        dsimp only
        rw [if_neg Bool.false_ne_true]
        refine ⟨?_, h4⟩
        simpa [c] using h3
    rintro H2 ⟨h3, h4⟩
    intro st hst
    refine ⟨_, rfl, _, rfl, upd_same, stKv lg cl 0 0, rfl, (by show 4 ≤ 15; decide), ?_⟩
    rw [st_merge]
    have hne : cl ≠ lg := ne_of_none h1 hlg
    have h5 := h4 cl _ h1
    rw [List.length_map, List.take_length] at h3
    have hp : ∀ x ∈ (cells.filter fun c => decide ((1000000000000000000 : Int) ≤ c)).map (fun c => c - 1000000000000000000), 0 ≤ x := by
      intro x hx
      obtain ⟨c, hc, rfl⟩ := List.mem_map.mp hx
      have := (List.mem_filter.mp hc).2
      simp at this
      omega
    generalize (cells.filter fun c => decide ((1000000000000000000 : Int) ≤ c)).map (fun c => c - 1000000000000000000) = large at h3 hp
    have n1 : lg ≠ st := ne_of_none h3 hst
    have n2 : cl ≠ st := ne_of_none h5 hst
    have same : Same H (upd (upd H2 st (.dK [])) st (.dK (stKv lg cl 0 0))) := fun b o e => by
      have e2 := h4 b o (h2 b o e)
      rw [upd_upd, upd_ne (ne_of_none e2 hst)]
      exact e2
    refine k st lg cl _ ⟨large, cells, 0, 0, ⟨upd_same, ?_, ?_, hne.symm, hp, Int.le_refl _⟩, Nat.le_refl _⟩ same ((h2.trans h4).free hst) (h2.free hlg)
    · rw [upd_upd, upd_ne n1]
      exact h3
    · rw [upd_upd, upd_ne n2]
      exact h5
end
end K47
namespace KT
open PySem PySem.Spec PyProof.Rows L2 PySem.W LamX KA KW
/-! ### min(t), max(t) of a tuple of ints; t[::-1]; t * n, n from 1 on -/
theorem alike_ints (ns : List Int) : AlikeAll (ns.map PyData.int) := by
  refine ⟨fun x hx y hy => ?_, fun x hx => ?_⟩
  · obtain ⟨i, _, rfl⟩ := List.mem_map.mp hx
    obtain ⟨j, _, rfl⟩ := List.mem_map.mp hy
    simp [alike]
  · obtain ⟨i, _, rfl⟩ := List.mem_map.mp hx
    exact fun z => by cases z
theorem dp_ints {K : PySem.W.Frag} {H : Hp} : ∀ ns : List Int, DpAll K H (ns.map V.int) (ns.map PyData.int)
  | [] => .nil
  | i :: ns => .cons (.int i) (dp_ints ns)
theorem depth_ints : ∀ ns : List Int, PyData.depthAll (ns.map PyData.int) ≤ 1
  | [] => by simp [PyData.depthAll]
  | i :: ns => by
    have := depth_ints ns
    simp only [List.map_cons, PyData.depthAll, PyData.depth]
    omega
theorem reads_int {h : Heap} {v : Value} {i : Int} {as : List Addr} (r : Reads h v (.int i) as) : ∃ t, v = .int i t := by
  cases r
  exact ⟨_, rfl⟩
theorem foldl_min_mem (n : Int) : ∀ ns : List Int, ns.foldl min n ∈ n :: ns := by
  intro ns
  induction ns generalizing n with
  | nil => simp
  | cons k r ih =>
    rw [List.foldl_cons]
    rcases List.mem_cons.mp (ih (min n k)) with e | e
    · rw [e]
      rcases Int.le_total n k with h | h
      · rw [Int.min_eq_left h]; exact List.mem_cons_self
      · rw [Int.min_eq_right h]; exact List.mem_cons_of_mem _ List.mem_cons_self
    · exact List.mem_cons_of_mem _ (List.mem_cons_of_mem _ e)
theorem foldl_min_le (n : Int) : ∀ (ns : List Int) (y : Int), y ∈ n :: ns → ns.foldl min n ≤ y := by
  intro ns
  induction ns generalizing n with
  | nil => intro y hy; simp at hy; subst hy; exact Int.le_refl _
  | cons k r ih =>
    intro y hy
    rw [List.foldl_cons]
    have h0 := ih (min n k) (min n k) List.mem_cons_self
    rcases List.mem_cons.mp hy with e | e
    · subst e; omega
    · rcases List.mem_cons.mp e with e | e
      · subst e; omega
      · exact ih (min n k) y (List.mem_cons_of_mem _ e)
theorem foldl_max_mem (n : Int) : ∀ ns : List Int, ns.foldl max n ∈ n :: ns := by
  intro ns
  induction ns generalizing n with
  | nil => simp
  | cons k r ih =>
    rw [List.foldl_cons]
    rcases List.mem_cons.mp (ih (max n k)) with e | e
    · rw [e]
      rcases Int.le_total n k with h | h
      · rw [Int.max_eq_right h]; exact List.mem_cons_of_mem _ List.mem_cons_self
      · rw [Int.max_eq_left h]; exact List.mem_cons_self
    · exact List.mem_cons_of_mem _ (List.mem_cons_of_mem _ e)
theorem foldl_max_ge (n : Int) : ∀ (ns : List Int) (y : Int), y ∈ n :: ns → y ≤ ns.foldl max n := by
  intro ns
  induction ns generalizing n with
  | nil => intro y hy; simp at hy; subst hy; exact Int.le_refl _
  | cons k r ih =>
    intro y hy
    rw [List.foldl_cons]
    have h0 := ih (max n k) (max n k) List.mem_cons_self
    rcases List.mem_cons.mp hy with e | e
    · subst e; omega
    · rcases List.mem_cons.mp e with e | e
      · subst e; omega
      · exact ih (max n k) y (List.mem_cons_of_mem _ e)
def rMinT (K : PySem.W.Frag) : List V → Hp → VK → Prop := fun vs H Q => ∃ (a : Addr) (ns : List Int), vs = [V.ref a] ∧ SqT K H a (ns.map V.int) ∧ 0 < ns.length ∧ ∀ m, m ∈ ns → (∀ y, y ∈ ns → m ≤ y) → Q (.int m) H
def rMaxT (K : PySem.W.Frag) : List V → Hp → VK → Prop := fun vs H Q => ∃ (a : Addr) (ns : List Int), vs = [V.ref a] ∧ SqT K H a (ns.map V.int) ∧ 0 < ns.length ∧ ∀ m, m ∈ ns → (∀ y, y ∈ ns → y ≤ m) → Q (.int m) H
section
variable {X : Cx}
theorem cr_minT (hc : X.calm = true) (hu : X.A.units + 2 < cLine) : CallR X (.builtin "min") (rMinT X.K) := by
  intro pins s σ H vs us Q I r h
  obtain ⟨a, ns, rfl, hs, hne, q⟩ := h
  obtain ⟨its, rv, hl, _⟩ := I.tuple hs
  rw [Vals.ref1 r]
  cases ns with
  | nil => cases hne
  | cons n ns =>
    obtain ⟨as, hr⟩ := Dp.readsAll I _ _ its (dp_ints (n :: ns)) rv
    refine min_tuple_data (x := .int n) (xs := ns.map .int) (I.ok.hd hc) hl hr (alike_ints (n :: ns)) ?_ fun i v h' tk bs _ rd hk => ?_
    · have := depth_ints (n :: ns)
      rw [List.map_cons] at this
      omega
    · rw [minD_ints] at rd
      obtain ⟨t, rfl⟩ := reads_int rd
      exact ⟨.int _, H, I.kept hk, ⟨_, rfl⟩, q _ (foldl_min_mem n ns) (foldl_min_le n ns)⟩
theorem cr_maxT (hc : X.calm = true) (hu : X.A.units + 2 < cLine) : CallR X (.builtin "max") (rMaxT X.K) := by
  intro pins s σ H vs us Q I r h
  obtain ⟨a, ns, rfl, hs, hne, q⟩ := h
  obtain ⟨its, rv, hl, _⟩ := I.tuple hs
  rw [Vals.ref1 r]
  cases ns with
  | nil => cases hne
  | cons n ns =>
    obtain ⟨as, hr⟩ := Dp.readsAll I _ _ its (dp_ints (n :: ns)) rv
    refine max_tuple_data (x := .int n) (xs := ns.map .int) (I.ok.hd hc) hl hr (alike_ints (n :: ns)) ?_ fun i v h' tk bs _ rd hk => ?_
    · have := depth_ints (n :: ns)
      rw [List.map_cons] at this
      omega
    · rw [maxD_ints] at rd
      obtain ⟨t, rfl⟩ := reads_int rd
      exact ⟨.int _, H, I.kept hk, ⟨_, rfl⟩, q _ (foldl_max_mem n ns) (foldl_max_ge n ns)⟩
/-- one call name, either a list or a tuple -/
def rOrC (r r' : List V → Hp → VK → Prop) : List V → Hp → VK → Prop := fun vs H Q => r vs H Q ∨ r' vs H Q
theorem cr_or {f : Value} {r r' : List V → Hp → VK → Prop} (h : CallR X f r) (h' : CallR X f r') : CallR X f (rOrC r r') := fun pins s σ H vs us Q I rv q => q.elim (h pins s σ H vs us Q I rv) (h' pins s σ H vs us Q I rv)
end
section
variable {prog : Program} {w : World} {A : Around} {E : Value → Shared → Prop} {s : Shared}
theorem adjust_rev (n : Nat) : Builtin.Slice.sliceAdjust none none (-1) (n : Int) = ((n : Int) - 1, -1) := rfl
theorem places_rev (n : Nat) : Builtin.Slice.slicePlaces ((n : Int) - 1) (-1) (-1) = n := by
  unfold Builtin.Slice.slicePlaces
  have h1 : ¬ ((-1 : Int) > 0) := by omega
  have h2 : (- -1 : Int) = 1 := by decide
  simp only [h1, if_false, h2, Int.ediv_one]
  split <;> omega
theorem sliceApplied_rev {sl : Addr} {vl vu vs : Value} {n : Nat} {Q : Int × Int × Nat → Shared → Prop} (hs : s.heap.IsSliceOf sl vl vu vs) (pl : IsPart vl none) (pu : IsPart vu none) (ps : IsPart vs (some (-1)))
    (h : Q ((n : Int) - 1, -1, n) s) : wpAny (model prog w) A (Builtin.Slice.sliceApplied (.ref sl) (pure (n : Int))) Q E s := by
  obtain ⟨os, hos, hcs, hds⟩ := id hs
  unfold Builtin.Slice.sliceApplied Builtin.Slice.sliceFields
  refine wpAny_bind (wpAny_bind (wpAny_field hos hds (x := vl) rfl (wpAny_bind (wpAny_field hos hds (x := vu) rfl (wpAny_bind (wpAny_field hos hds (x := vs) rfl (wpAny_pure ?_)))))))
  refine wpAny_bind (HT.slicePart_ ps ?_)
  show wpAny _ _ (if ((-1 : Int) == 0) = true then _ else _) _ _ s
  rw [if_neg (by decide)]
  refine wpAny_bind (HT.slicePart_ pl (wpAny_bind (HT.slicePart_ pu (wpAny_bind (wpAny_pure ?_)))))
  show wpAny _ _ (match Builtin.Slice.sliceAdjust none none (-1) (n : Int) with | (lo, hi) => pure (lo, (-1 : Int), Builtin.Slice.slicePlaces lo hi (-1))) _ _ s
  rw [adjust_rev n]
  show wpAny _ _ (pure ((n : Int) - 1, (-1 : Int), Builtin.Slice.slicePlaces ((n : Int) - 1) (-1) (-1))) _ _ s
  rw [places_rev]
  exact wpAny_pure h
theorem fm_congr {α β : Type} {f g : α → Option β} : ∀ {l : List α}, (∀ x, x ∈ l → f x = g x) → l.filterMap f = l.filterMap g
  | [], _ => rfl
  | x :: l, h => by
    have ih := fm_congr (l := l) fun y hy => h y (List.mem_cons_of_mem _ hy)
    rw [List.filterMap_cons, List.filterMap_cons, h x List.mem_cons_self, ih]
theorem pick_rev (xs : Array Value) : ((List.range xs.size).filterMap fun (m : Nat) => xs[(((xs.size : Int) - 1) + (m : Int) * (-1)).toNat]?).toArray = xs.toList.reverse.toArray := by
  have h := krv_pick xs
  unfold slicePick at h
  rw [krv_bounds] at h
  rw [← h]
  show _ = ((sliceRange ((xs.size : Int) - 1) (-1) (-1)).filterMap (xs[·]?)).toArray
  rw [krv_sliceRange, List.filterMap_map]
  congr 1
  apply fm_congr
  intro m hm
  have := List.mem_range.mp hm
  have e : (((xs.size : Int) - 1) + (m : Int) * (-1)).toNat = xs.size - 1 - m := by omega
  show xs[(((xs.size : Int) - 1) + (m : Int) * (-1)).toNat]? = xs[xs.size - 1 - m]?
  rw [e]
theorem getItem_tuple_rev {t sl : Addr} {items : Array Value} {vl vu vs : Value} {Q : Value → Shared → Prop} (ht : IsTup s.heap t items) (hs : s.heap.IsSliceOf sl vl vu vs) (pl : IsPart vl none) (pu : IsPart vu none) (ps : IsPart vs (some (-1)))
    (h : Q (.ref s.heap.objs.size) { s with heap := s.heap.push { cls := .type "tuple", data := .seq items.toList.reverse.toArray } })
    (hsz : items.size ≤ sizeLine) : wpAny (model prog w) A (getItem (.ref t) (.ref sl)) Q E s := by
  have htake : sizeOk (.seq items.toList.reverse.toArray) := by
    show items.toList.reverse.toArray.size ≤ sizeLine
    rw [List.size_toArray, List.length_reverse, Array.length_toList]
    exact hsz
  obtain ⟨os, hos, hcs, hds⟩ := id hs
  have hTs : s.TypeIs (.ref sl) "slice" := ⟨os, hos, hcs⟩
  unfold getItem
  try with_reducible refine wpAny_holding ?_
  first | refine wpAny_bind (wpAny_pure ?_) | skip
  refine wpAny_bind (wpAny_sequenceKey ht.typeIs (by decide) ?_)
  refine wpAny_bind (wpAny_callSpecial?_slot (name := Str.ofString "__getitem__") ht.typeIs PyProof.Rows.slot_tuple_getitem
    (wpAny_call_entry PyProof.Rows.slot_tuple_getitem ht.typeIs entry_tuple_getitem ?_ (args_tuple_getitem _ _)))
  show wpAny _ _ (Builtin.Tuple.tupleItemsOf (.ref t) >>= _) _ _ s
  refine wpAny_bind (tupleItemsOf_ ht ?_)
  refine wpAny_bind (wpAny_typeOf hTs ?_)
  rw [if_pos (by decide)]
  refine wpAny_bind (sliceApplied_rev hs pl pu ps ?_)
  have hno : ¬ ((((items.size : Int) - 1) == 0 && (-1 : Int) == 1 && items.size == items.size) = true) := by
    intro q
    rw [Bool.and_eq_true, Bool.and_eq_true] at q
    exact absurd q.1.2 (by decide)
  show wpAny _ _ (if (((items.size : Int) - 1) == 0 && (-1 : Int) == 1 && items.size == items.size) = true then _ else _) _ _ s
  rw [if_neg hno, pick_rev]
  first
    | exact wpAny_bind (m := Builtin.Tuple.tupleExact _) (wpAny_newObj_type (wpAny_pure ⟨_, rfl, wpAny_pure h⟩) htake)
    | exact wpAny_bind (m := Builtin.Tuple.tupleExact _) (wpAny_newObj_type (wpAny_bind (wpAny_pure (wpAny_pure ⟨_, rfl, wpAny_pure h⟩))) htake)
    | exact wpAny_bind (wpAny_bind (m := Builtin.Tuple.tupleExact _) (wpAny_newObj_type (wpAny_pure (wpAny_pure ⟨_, rfl, wpAny_pure h⟩)) htake))
    | exact wpAny_bind (wpAny_bind (m := Builtin.Tuple.tupleExact _) (wpAny_newObj_type (wpAny_pure ⟨_, rfl, wpAny_pure h⟩) htake))
end
section
variable {X : Cx}
def tRevT (K : PySem.W.Frag) (te : TE) : TE := fun σ H Q => te σ H fun x H1 => ∃ a xs, x = .ref a ∧ SqT K H1 a xs ∧ ∀ p, H1 p = none → Q (.ref p) (upd H1 p (.tup xs.reverse))
theorem pe_revT {e : Expr} {te : TE} {k : Nat} {p1 p2 p3 pos : Pos} (he : PE X e te) : PE X (.Subscript e (.Slice none none (some (.UnaryOp .USub (.Constant (.int 1) k p1) p2)) p3) pos) (tRevT X.K te) := by
  refine ⟨fun pins s σ H Q I h => ?_⟩
  refine Subscript_ (thn (he.run pins s σ H _ I h) fun v s1 ⟨x, H1, I1, r1, q1⟩ => ?_)
  obtain ⟨a, xs, ex, hx, q⟩ := q1
  subst ex
  cases r1
  have hst : PO X (some (.UnaryOp .USub (.Constant (.int 1) k p1) p2)) (tPart (tUn (rU fun i => .int (-i)) (tC (.int 1)))) := po_some (pe_un un_neg pe_int)
  refine wpAny_Slice (thn (po_none.run pins s1 σ H1 (fun o H2 => o = none ∧ H2 = H1) I1 ⟨rfl, rfl⟩) fun vl s2 ⟨l, H2, I2, pl, el, e2⟩ => ?_)
  subst el e2
  refine thn (po_none.run pins s2 σ H2 (fun o H3 => o = none ∧ H3 = H2) I2 ⟨rfl, rfl⟩) fun vu s3 ⟨u, H3, I3, pu, eu, e3⟩ => ?_
  subst eu e3
  refine thn (hst.run pins s3 σ H3 (fun o H4 => o = some (-1) ∧ H4 = H3) I3 ⟨1, rfl, -1, rfl, rfl, rfl⟩) fun vs s4 ⟨o, H4, I4, ps, eo, e4⟩ => ?_
  subst eo e4
  have I5 : Inv X pins σ H4 { s4 with heap := s4.heap.push { cls := .type "slice", data := .fields #[vl, vu, vs] } } := I4.kept (t' := s4.toks) fun b ob q => Heap.get?_push_of_some _ q
  obtain ⟨its, r, ht, hz⟩ := I5.tuple hx
  have hlen := r.length
  show wpAny (model X.prog X.w) X.A (subscriptTail e (.Slice none none (some (.UnaryOp .USub (.Constant (.int 1) k p1) p2)) p3) (.ref a) (.ref s4.heap.objs.size)) (EP X pins σ Q) X.xe { s4 with heap := s4.heap.push { cls := .type "slice", data := .fields #[vl, vu, vs] } }
  refine tail_any (ops := [.ref a, .ref s4.heap.objs.size]) ht.typeIs (PyProof.Rows.slot_tuple_getitem.lookup) ?_ (by with_unfolding_all rfl)
  refine getItem_tuple_rev ht (Heap.IsSliceOf.new _ vl vu vs) pl pu ps ?_ (by rw [List.size_toArray]; omega)
  refine ⟨.ref _, _, I5.laid (t' := s4.toks) (o := .tup xs.reverse) (fun b ob q => Heap.get?_push_of_some _ q) (Nat.le_refl _) ?_, rfl, q _ (I5.hok.fresh (Nat.le_refl _))⟩
  exact ⟨by rw [List.length_reverse]; exact hz, _, r.reverse, IsTup.new _ _⟩
end
section
theorem tuple_mul_one (l : Addr) (items : Array Value) (n : Nat) (dd : Option Addr) (sl : Array (Option Value)) (u : Tok) :
    Meets (Builtin.«tuple.__mul__» ⟨[.ref l, .int 1 u], []⟩) (fun _ R s => s.heap.get? l = some { cls := .type "tuple", dict := dd, data := .seq items n, slots := sl } ∧ R (.ok (.ret (Value.ref l))) s) :=
  .of_wp fun prog w A R s h => by
    obtain ⟨hp, g, d, tk, os⟩ := s
    obtain ⟨hl, h⟩ := h
    have f1 := AutoSeq1.idx_int
    have c0 : (decide ((1 : Int) < -(2 ^ 63)) || decide ((1 : Int) ≥ 2 ^ 63)) = false := by decide
    have c1 : (items.isEmpty || (1 : Int) == 1) = true := by
      cases items.isEmpty <;> rfl
    wp_walk using wpAny_loadPart' hl
    repeat (first
      | (refine wpAny_ite_false (decide_eq_false (by rw [c0]; exact Bool.false_ne_true)) ?_; wp_walk using wpAny_loadPart' hl)
      | (refine wpAny_ite_true (decide_eq_true c1) ?_; wp_walk using wpAny_loadPart' hl))
    exact ⟨_, rfl, h⟩
/-- t * k, k from 1 on: of 1 it is t itself -/
def rRepA (K : PySem.W.Frag) : R2 := fun x y H Q => ∃ l k xs, x = .ref l ∧ y = .int k ∧ SqT K H l xs ∧ xs ≠ [] ∧ 1 ≤ k ∧ k ≤ 1000 ∧ xs.length ≤ 1000 ∧ (k = 1 → Q (.ref l) H) ∧ (2 ≤ k → ∀ p, H p = none → Q (.ref p) (upd H p (.tup (List.replicate k.toNat xs).flatten)))
variable {X : Cx}
theorem op_repA : OpR X (binaryOp .Mult) (rRepA X.K) := by
  intro pins s σ H x y v u Q I rx ry h
  obtain ⟨l, k, xs, rfl, rfl, hT, hne, h1, h2, hz, q1, q2⟩ := h
  by_cases hk : k = 1
  · subst hk
    cases rx
    obtain ⟨t, rfl⟩ := ry
    obtain ⟨its, r, ⟨⟨cls, dd, data, sl⟩, ho, hc, n, hd⟩, hs⟩ := I.tuple hT
    simp only at hc hd
    subst hc hd
    refine wpAny_binaryOp_repeat_ref (T := "tuple") (U := "int") (by decide) ⟨_, ho, rfl⟩ (fun s' => typeIs_int s' 1 t) noFill_tuple_mul F.fills_int_mul F.slot_int_rmul repeat_tuple F.slot_int_index.lookup
      (call_meets F.slot_int_rmul (typeIs_int s 1 t) F.entry_int_rmul (F.args_int_rmul_2 _ _) (int_rmul_tuple 1 t l its.toArray n dd sl)
        ⟨ho, rfl, ⟨_, ho, rfl⟩, call_meets F.slot_tuple_mul ⟨_, ho, rfl⟩ F.entry_tuple_mul (F.args_tuple_mul_2 _ _) (tuple_mul_one l its.toArray n dd sl t) ⟨ho, ?_⟩⟩)
    exact ⟨.ref l, H, I, rfl, q1 rfl⟩
  · exact op_repT pins s σ H _ _ v u Q I rx ry ⟨l, k, xs, rfl, rfl, hT, hne, by omega, h2, hz, q2 (by omega)⟩
end
end KT
namespace KY
open PySem PySem.Spec PyProof.Rows L2 PySem.W LamX KA KW
/-! ### x == y, x != y, where x is an instance whose class writes __eq__ and no __ne__ -/
section
variable {X : Cx} {CX : CXT} {n : Nat} {C f : Addr} {fd : FuncData} {ps : List Str} {sp : Sp} {E : XK}
theorem own_call {A : Around} {pins : List (Addr × Obj)} {σ : L2.St} {H : Hp} {s : Shared} {x y : V} {v u : Value} {R : Bool → Hp → Prop} (sb : L2.Sub X n A) (F : FnOk X.prog X.w X.K X.mg X.base CX n f fd ps sp) (hb : Binds X.K fd ps []) (hx : Passes CX X E)
    (I : Inv X pins σ H s) (rx : RelV x v) (ry : RelV y u) (hsp : sp [x, y] H (fun v H' => ∃ b, v = .bl b ∧ R b H') E) :
    wpAny (model X.prog X.w) A (call (.ref f) [v, u]) (fun r s' => ∃ b, r = .bool b ∧ ∃ H', Inv X pins σ H' s' ∧ R b H') X.xe s := by
  have e0 : Env0 X.prog X.w X.K X.mg X.base A X.stack s H := by
    have e := I.env0
    exact ⟨by rw [sb.fr]; exact e.frames, e.mod, e.bs, e.bsz, e.funs, e.frf, e.hok, e.bare⟩
  have hl := F.len _ _ _ _ hsp
  have r2 : L2.Vals [x, y] [v, u] := .cons rx (.cons ry .nil)
  refine wpAny_call (codeAny_mono (F.run A X.stack s H ⟨[v, u], []⟩ [v, u] [x, y] _ E sb.room e0 (by
    have := hb s [v, u] I.kIn (by simpa using hl)
    simpa using this) r2 hsp) fun r s' hq => ?_)
  cases r with
  | error e => exact hx pins σ H s e s' I hq
  | ok fl =>
    cases fl with
    | ret w =>
      obtain ⟨z, H', I', rz, b, ez, ex⟩ := I.after hq
      subst ez
      cases rz
      exact ⟨b, rfl, H', I', ex⟩
    | next => exact False.elim hq
    | brk => exact False.elim hq
    | cont => exact False.elim hq
def rEqI (K : PySem.W.Frag) (C : Addr) (sp : Sp) (E : XK) (g : Bool → Bool) : R2 := fun x y H Q => ∃ a dx fs tb, x = .ref a ∧ H a = some (.ins C dx fs) ∧ TyX K H y tb ∧ PySem.W.notFirst K C tb = true ∧ sp [x, y] H (fun v H' => ∃ b, v = .bl b ∧ Q (.bl (g b)) H') E
theorem op_eqI (F : FnOk X.prog X.w X.K X.mg X.base CX n f fd ps sp) (hr : Room n X.A) (hs : PySem.W.findIn X.K (.ref C) "__eq__" = some (some (.ref f))) (hf : PySem.W.isFn X.K (.ref f) = true) (hb : Binds X.K fd ps []) (hx : Passes CX X E) :
    OpR X (compareOp .Eq) (rEqI X.K C sp E fun b => b) := by
  intro pins s σ H x y v u Q I rx ry h
  obtain ⟨a, dx, fs, tb, rfl, ha, ty, nf, hsp⟩ := h
  cases rx
  obtain ⟨mA, J, _⟩ := ins_get I.hok ha
  obtain ⟨od, J, _⟩ := J.look
  obtain ⟨Pk, Z, pk, _⟩ := kit_of I ry ty
  obtain ⟨m, hF⟩ := I.fr
  show wpAny (model X.prog X.w) X.A (richCompare .Eq (.ref a) u) (EP X pins σ Q) X.xe s
  refine PySem.W.cmp_K (op := .Eq) hr.units0 hF I.ok.mod.kin J (Z.ty _ _ I.kIn pk) nf hs hf ?_
  refine wpAny_mono (own_call ⟨hr, rfl⟩ F hb hx I (x := .ref a) (show L2.RelV (.ref a) (.ref a) from rfl) ry hsp) (fun r s' hq => ?_) fun _ _ e => e
  obtain ⟨b, rfl, H', I', q⟩ := hq
  exact ⟨.bl b, H', I', rfl, q⟩
section
variable {M : Model} {prog : Program} {w : World} {A : Around} {E' : Value → Shared → Prop} {s : Shared} {K : PySem.W.Frag} {x : Addr} {ox : Obj} {od : Option Obj}
theorem ifBound_objNe {args : List Value} {Q : Option Value → Shared → Prop} (X : K.In s.heap) (I : PySem.W.InstAt s.heap x ox C od) (hs : PySem.W.findIn K (.ref C) "__ne__" = some (some (.builtin "object.__ne__")))
    (h : wpAny M A (call (.builtin "object.__ne__") (.ref x :: args)) (fun v => Q (some v)) E' s) : wpAny M A (callSpecialIfBound? (.ref x) "__ne__" args) Q E' s := by
  simp only [callSpecialIfBound?, bindSpecialIfBound?]
  refine wpAny_holding (wpAny_bind (wpAny_bind (wpAny_bind (I.type.here ((PySem.W.looks_findIn X hs).here ?_)))))
  refine wpAny_bind (wpAny_askSetting (wpAny_ite ?_))
  have fin : wpAny M A (call (.builtin "object.__ne__") ([.ref x] ++ args) >>= fun v => pure (some v)) Q E' s := wpAny_bind (wpAny_mono h (fun v s' h' => wpAny_pure h') fun _ _ h' => h')
  split
  · exact wpAny_bind (wpAny_of_eq (F.cmp_object.ne.bind _) (wpAny_pure (by exact fin)))
  · exact wpAny_tryCatch (wpAny_bind (wpAny_of_eq (F.cmp_object.ne.bind _) (wpAny_pure (by exact fin))))
theorem entry_ne {y : Value} {Q : Fin → Shared → Prop} (hu : A.units < cLine) (X : K.In s.heap) (I : PySem.W.InstAt s.heap x ox C od) (hs : PySem.W.findIn K (.ref C) "__eq__" = some (some (.ref f))) (hf : PySem.W.isFn K (.ref f) = true)
    (hcall : wpAny (model prog w) A (call (.ref f) [.ref x, y]) (fun v s' => ∃ b, v = .bool b ∧ Q (.done (.ret (.bool (!b)))) s') E' s) :
    wpAny (model prog w) A (Builtin.«object.__ne__» ⟨[.ref x, y], []⟩) Q E' s := by
  unfold Builtin.«object.__ne__»
  repeat (first
    | with_reducible refine wpAny_cRoomFor hu ?_
    | (refine wpAny_bind (m := callSpecialIfBound? (.ref x) (Str.ofString "__eq__") [y])
        (PySem.W.ifBound_K X I hs hf (wpAny_mono hcall (fun r s' hr => by
          obtain ⟨b, rfl, hq⟩ := hr
          repeat (first | exact hq | exact wpAny_pure hq | exact wpAny_truthy_bool hq | (refine wpAny_bind (m := truthy (.bool _)) (wpAny_truthy_bool ?_)) | wp_step)) fun _ _ e => e)))
    | wp_step)
theorem ne_K {L : Addr} {h₀ : Heap} {m : Str → Option Value} {b tb : Value} {Q : Value → Shared → Prop} (hu : A.units + 1 < cLine) (hF : Fr h₀ L s.heap m) (X₀ : K.In h₀) (I : PySem.W.InstAt s.heap x ox C od) (hb : PySem.W.Looks (model prog w) s.heap (typeOf b) tb) (hn : PySem.W.notFirst K C tb = true)
    (hne : PySem.W.findIn K (.ref C) "__ne__" = some (some (.builtin "object.__ne__"))) (hm : PySem.W.mroIn K C (.type "object") = some true) (hs : PySem.W.findIn K (.ref C) "__eq__" = some (some (.ref f))) (hf : PySem.W.isFn K (.ref f) = true)
    (h : wpAny (model prog w) A.in1 (call (.ref f) [.ref x, b]) (fun v s' => ∃ c, v = .bool c ∧ Q (.bool (!c)) s') E' s) : wpAny (model prog w) A (richCompare .NotEq (.ref x) b) Q E' s := by
  have X := X₀.keeps hF.keep
  have one : wpAny (model prog w) A (tryCompare (.ref x) "__ne__" b) (fun r s' => ∃ v, r = some v ∧ Q v s') E' s := by
    unfold tryCompare
    refine wpAny_bind (ifBound_objNe X I hne ?_)
    refine wpAny_call (codeAny_call_builtin F.cmp_object.ne.plain F.cmpEntry_ne (PySem.W.check_slot F.cmpKind_ne F.cmpSplit_ne (I.type.andThen (PySem.W.looks_mroIn X hm)) (F.cmpArgs_ne _ _) (entry_ne (A := A.in1) (by show A.units + 1 < cLine; exact hu) X I hs hf (wpAny_mono h (fun r s' hr => ?_) fun _ _ e => e))))
    obtain ⟨c, rfl, q⟩ := hr
    refine ⟨c, rfl, ?_⟩
    first
      | exact wpAny_pure ⟨_, rfl, q⟩
      | exact ⟨_, rfl, q⟩
  unfold richCompare
  simp only [oneThing_ref]
  refine wpAny_holding (wpAny_bind (wpAny_cRoomFor (by omega) ?_))
  refine wpAny_bind (I.type.here (wpAny_bind (hb.here ?_)))
  split
  · rename_i q
    have e : subIn K tb (.ref C) = some false := by
      rcases Bool.or_eq_true_iff.mp hn with e | e
      · rw [beq_iff_eq.mp e] at q; simp at q
      · exact beq_iff_eq.mp e
    refine wpAny_bind ((looks_subIn X e).here ?_)
    simp only [Bool.false_eq_true, if_false]
    refine wpAny_bind (wpAny_mono one (fun r s' z => ?_) fun _ _ e => e)
    obtain ⟨v, rfl, hq⟩ := z
    exact wpAny_pure hq
  · refine wpAny_bind (wpAny_pure ?_)
    simp only [Bool.false_eq_true, if_false]
    refine wpAny_bind (wpAny_mono one (fun r s' z => ?_) fun _ _ e => e)
    obtain ⟨v, rfl, hq⟩ := z
    exact wpAny_pure hq
end
theorem op_neI (F : FnOk X.prog X.w X.K X.mg X.base CX n f fd ps sp) (hr : Room (n + 1) X.A) (hs : PySem.W.findIn X.K (.ref C) "__eq__" = some (some (.ref f))) (hne : PySem.W.findIn X.K (.ref C) "__ne__" = some (some (.builtin "object.__ne__"))) (hm : PySem.W.mroIn X.K C (.type "object") = some true)
    (hf : PySem.W.isFn X.K (.ref f) = true) (hb : Binds X.K fd ps []) (hx : Passes CX X E) :
    OpR X (compareOp .NotEq) (rEqI X.K C sp E fun b => !b) := by
  intro pins s σ H x y v u Q I rx ry h
  obtain ⟨a, dx, fs, tb, rfl, ha, ty, nf, hsp⟩ := h
  cases rx
  obtain ⟨mA, J, _⟩ := ins_get I.hok ha
  obtain ⟨od, J, _⟩ := J.look
  obtain ⟨Pk, Z, pk, _⟩ := kit_of I ry ty
  obtain ⟨m, hF⟩ := I.fr
  show wpAny (model X.prog X.w) X.A (richCompare .NotEq (.ref a) u) (EP X pins σ Q) X.xe s
  have hu : X.A.units + 1 < cLine := by
    have := hr.units
    omega
  refine ne_K hu hF I.ok.mod.kin J (Z.ty _ _ I.kIn pk) nf hne hm hs hf ?_
  refine wpAny_mono (own_call (L2.Sub.in1 ⟨hr, rfl⟩) F hb hx I (x := .ref a) (show L2.RelV (.ref a) (.ref a) from rfl) ry hsp) (fun r s' hq => ?_) fun _ _ e => e
  obtain ⟨b, rfl, H', I', q⟩ := hq
  exact ⟨b, rfl, .bl (!b), H', I', rfl, q⟩
end
end KY
namespace KEN
open PySem PySem.Spec PyProof.Rows L2 PySem.W PySem.AutoSeq1 RZ
/-! ### enumerate(t), t a tuple: the iterator's two cells, a turn of it -/
abbrev enO (it : Addr) : Obj := { cls := .type "enumerate", data := .fields #[.none, .bool false, .ref it, rawInt 0, .none, .none] }
abbrev tiO (l : Addr) : Obj := { cls := .type "tuple_iterator", data := .fields #[.ref l, .int 0 0] }
/-- what enumerate makes of a tuple: its iterator, and the counter behind it -/
theorem made_enum (l : Addr) (its : Array Value) : Meets (Builtin.«enumerate.__new__» ⟨[.type "enumerate", .ref l], []⟩)
    fun _ R s => s.heap.IsTuple l its ∧ R (.ok (.ret (.ref (s.heap.push (tiO l)).objs.size))) { s with heap := (s.heap.push (tiO l)).push (enO s.heap.objs.size) } :=
  .of_wp fun P w A R ⟨hp, g, d, tk, os⟩ ⟨tl, fin⟩ => by
    have up := sub_enumerate
    have it {A' : Around} {E Q : Value → Shared → Prop} (q : Q (.ref hp.objs.size) ⟨hp.push (tiO l), g, d, tk, os⟩) : wpAny (model P w) A' (pyIter (.ref l)) Q E ⟨hp, g, d, tk, os⟩ := wpAny_pyIter_tuple (s := ⟨hp, g, d, tk, os⟩) tl q
    wp_walk using it
    refine wpAny_stack_any fun _ => wpAny_pure ?_
    split
    all_goals first
      | (rename_i cl _ _ _ _ _; cases (cl == Value.type "enumerate") <;> (wp_walk using it; exact ⟨_, rfl, fin⟩))
      | (wp_walk using it; exact ⟨_, rfl, fin⟩)
/-- the state of such an iterator ahead of item i -/
structure EnSt (a e it : Addr) (i : Nat) (h : Heap) : Prop where
  en : ∃ old, IsEnum h e it (i : Int) old
  ti : h.IsTupleIter it a i
  ne : e ≠ it
section
variable {a e it : Addr} {i : Nat} {h h' : Heap}
theorem two {b x y : Addr} (m : b ∈ [x, y]) : b = x ∨ b = y := by simpa using m
theorem EnSt.keep (s : EnSt a e it i h) (k : ∀ b ∈ [e, it], ∀ o, h.get? b = some o → h'.get? b = some o) : EnSt a e it i h' :=
  ⟨s.en.imp fun _ q => k e List.mem_cons_self _ q, s.ti.at fun o q => k it (List.mem_cons_of_mem _ List.mem_cons_self) o q, s.ne⟩
theorem EnSt.cell (s : EnSt a e it i h) {b : Addr} (m : b ∈ [e, it]) : b < h.objs.size ∧ ∃ o, h.get? b = some o ∧ ∀ v, o.data ≠ .cell v := by
  rcases two m with rfl | rfl
  · obtain ⟨_, q⟩ := s.en
    exact ⟨Heap.lt_size q, _, q, fun _ z => nomatch z⟩
  · obtain ⟨o, q, _, dq⟩ := s.ti
    exact ⟨Heap.lt_size q, o, q, fun _ z => by rw [dq] at z; cases z⟩
theorem EnSt.off (s : EnSt a e it i h) {its : Array Value} (t : h.IsTuple a its) : a ≠ it ∧ a ≠ e := by
  obtain ⟨o, q, cq, _⟩ := t
  constructor <;> rintro rfl
  · obtain ⟨o2, q2, cq2, _⟩ := s.ti
    rw [q] at q2
    cases q2
    exact absurd (Value.type.inj (cq.symm.trans cq2)) (by decide)
  · obtain ⟨_, q2⟩ := s.en
    have same := q.symm.trans q2
    cases same
    exact absurd (Value.type.inj cq.symm) (by decide)
end
theorem seqT {K : PySem.W.Frag} {H H' : Hp} {a : Addr} {xs : List V} (e : Same H H') (h : SqT K H a xs) : SqT K H' a xs := h.imp (fun q => q.imp (e _ _) fun ⟨o, z⟩ => ⟨o, e _ _ z⟩) id
/-- the tuple's items in draws -/
theorem drawn {P : Program} {w : World} {A : Around} {it l : Addr} {its : Array Value} (calm : A.handled = none) (ne : l ≠ it) : Draws P w A it [it, l] its.size (fun j v => its[j]? = some v) fun j h => h.IsTupleIter it l j ∧ h.IsTuple l its := by
  constructor
  · exact fun _ _ st => st.1.imp fun _ q => q.1
  · rintro j h h' ⟨st, o, q, r⟩ k
    exact ⟨st.at fun _ z => k it List.mem_cons_self _ z, o, k l (List.mem_cons_of_mem _ List.mem_cons_self) _ q, r⟩
  · intro j s Q E lt st k
    have here : its[j]? = some its[j] := Array.getElem?_eq_getElem lt
    exact nextOf_tuple_item st.1 st.2 here fun h' st' sb => k _ h' s.toks here ⟨st', st.2.extBut sb.extBut ne⟩ sb
  · exact fun s Q E st k => nextOf_tuple_end calm st.1 st.2 (Array.getElem?_eq_none (Nat.le_refl _)) k
/-- each item of the tuple at a in a new pair behind its place -/
def ItE (K : PySem.W.Frag) (a : Addr) : It where
  go i H := ∃ xs x, SqT K H a xs ∧ xs[i]? = some x
  yld i H v H' := ∃ t x, v = .ref t ∧ H t = none ∧ H' = upd H t (.tup [.int (i : Nat), x]) ∧ ∀ xs, SqT K H a xs → xs[i]? = some x
  stop i H := ∃ xs : List V, SqT K H a xs ∧ xs.length = i
theorem turn_en {P : Program} {w : World} {K : PySem.W.Frag} {elts : List Expr} {kk : Nat} {tpos : Pos} (a e it : Addr) : Turn P w K (.Tuple elts kk tpos) (ItE K a) [e, it] e (EnSt a e it) := by
  constructor
  · exact List.mem_cons_self
  · exact fun i h st b m => (st.cell m).2
  · exact fun i h h' st k => st.keep k
  · intro X eP ew eK calm i pins s σ H E I free st ⟨xs, x, sq, at_⟩
    subst eP ew eK
    obtain ⟨vs, vals, tup, _⟩ := I.tuple sq
    have tup : s.heap.IsTuple a vs.toArray := tup
    obtain ⟨u, uat, urel⟩ := vals.get at_
    obtain ⟨o1, o2⟩ := st.off tup
    obtain ⟨old, en⟩ := st.en
    have lt : i < vs.toArray.size := by simpa using (List.getElem?_eq_some_iff.mp uat).1
    refine wpAny_pyNext_enum_itemD (drawn (its := vs.toArray) (A := X.A.in1) (I.ok.hd calm) o1) en ⟨st.ti, tup⟩ lt st.ne (fun m => (two m).elim st.ne o2.symm) fun y h1 tk yat out ti1 pair size keep => ?_
    have same : y = u := Option.some.inj (yat.symm.trans (by simpa using uat))
    subst same
    refine ⟨_, rfl, wpAny_letOwnedTupleGo_enum (s := { s with heap := h1, toks := tk + 1 }) out fun h2 en2 sb => ?_⟩
    have le := (st.cell (b := e) List.mem_cons_self).1
    have pair2 : h2.get? s.heap.objs.size = some { cls := .type "tuple", data := .seq #[.int i tk, y] } := (sb.2 _ (Nat.ne_of_gt le)).trans pair
    have obj : ObjOk X.prog X.w (upd H s.heap.objs.size (.tup [.int (i : Nat), x])) h2 s.heap.objs.size (.tup [.int (i : Nat), x]) :=
      ⟨by show 2 ≤ sizeLine; decide, _, .cons ⟨tk, rfl⟩ (.cons urel .nil), ⟨_, pair2, rfl, _, rfl⟩⟩
    refine ⟨.ref s.heap.objs.size, _, I.turnedNew (t' := tk + 1) (fun b o off q => ?_) free (Nat.le_refl _) obj, rfl, ⟨_, x, rfl, I.hok.fresh (Nat.le_refl _), rfl, fun ys sy => ?_⟩, ⟨⟨y, ?_⟩, ti1.1.at fun o q => (sb.2 it st.ne.symm).trans q, st.ne⟩, fun b m => ?_⟩
    · have ne1 : b ≠ e := fun z => off (z ▸ List.mem_cons_self)
      exact (sb.2 b ne1).trans (keep b o ne1 (fun z => off (z ▸ List.mem_cons_of_mem _ List.mem_cons_self)) q)
    · rw [I.tuple_inj sy sq]
      exact at_
    · rw [Int.natCast_succ]
      exact en2
    · rw [upd_ne (Nat.ne_of_lt (st.cell m).1)]
      exact (free b m).1
  · intro X eP ew eK calm i pins s σ H E I free st ⟨xs, sq, all⟩
    subst eP ew eK all
    obtain ⟨vs, vals, tup, _⟩ := I.tuple sq
    obtain ⟨old, en⟩ := st.en
    have tup : s.heap.IsTuple a vs.toArray := tup
    have size : vs.toArray.size = xs.length := by rw [List.size_toArray, vals.length]
    have own := free it (List.mem_cons_of_mem _ List.mem_cons_self)
    refine wpAny_pyNext_enum_endD (drawn (its := vs.toArray) (A := X.A.in1) (I.ok.hd calm) (st.off tup).1) en (by rw [size]; exact ⟨st.ti, tup⟩) fun h1 but => ⟨rfl, ?_⟩
    exact I.turned (t' := s.toks) (fun b o off q => but b o off q) own.1 own.2.1 own.2.2.2.1 own.2.2.2.2.1 own.2.2.2.2.2
  · exact fun A i s Q E st k => st.en.elim fun _ q => wpAny_pyIter_enum q k
theorem walk_en {K : PySem.W.Frag} {a : Addr} {xs : List V} : Walk (ItE K a) xs.length (fun H => SqT K H a xs) (YPair (fun i => some (.int (i : Nat))) fun i => xs[i]?) := by
  refine ⟨fun i H lt sq => ⟨xs, _, sq, List.getElem?_eq_getElem lt⟩, fun H sq => ⟨xs, sq, rfl⟩, ?_⟩
  rintro i H v H' lt sq ⟨t, x, ev, ft, eH, k⟩
  exact ⟨t, _, x, ev, ft, eH, rfl, k xs sq⟩
section
variable {X : Cx}
theorem fresh_fp {pins : List (Addr × Obj)} {σ : L2.St} {H : Hp} {s : Shared} (I : Inv X pins σ H s) {bs : List Addr} (h : ∀ b ∈ bs, s.heap.objs.size ≤ b) : ∀ b ∈ bs, FpOk X pins H b := fun b m => I.fpOk (h b m) (I.hok.fresh (h b m))
/-- for i, x in enumerate(l), l a list or a tuple -/
def iEnumS (K : PySem.W.Frag) (ta : TA) : TI := fun σ H R => ta σ H fun vs H1 => ∃ a xs, vs = [.ref a] ∧ (SqL K H1 a xs ∨ SqT K H1 a xs) ∧ ∀ (J : It) (G : Hp → Prop), Walk J xs.length G (YPair (fun i => some (.int (i : Nat))) (fun i => xs[i]?)) → (∀ H', Same H1 H' → G H') → R J H1
theorem pi_enumS {e : Expr} {ta : TA} {p pos tpos : Pos} {elts : List Expr} {kk : Nat} (hg : Gl X "enumerate") (hm : X.mg "enumerate" = none) (ha : PA X [e] ta) (hs : starEach [e] X.env = [(false, eval e X.env)] := by rfl) :
    PI X (.Tuple elts kk tpos) (.Call (.Name "enumerate" p) [e] [] pos) (iEnumS X.K ta) := by
  constructor
  intro pins s σ H R I h
  have args := thn (ha.run pos pins s σ H _ I h) (Q' := fun us s1 => wpAny (model X.prog X.w) X.A (call (.type "enumerate") us) (fun v s2 => wpAny (model X.prog X.w) X.A (pyIter v) (PIE X pins σ (.Tuple elts kk tpos) R) X.xe s2) X.xe s1) ?_
  · exact Call_ (ld_blt I hg hm boot_enumerate (PyProof.Rows.callWith_type1 args hs rfl))
  rintro us s1 ⟨vs, H1, J1, rel, a, xs, rfl, sq, k⟩
  obtain ⟨u, rfl, ru⟩ := vals1 rel
  cases ru
  have fp := fresh_fp J1 (bs := [s1.heap.objs.size + 1, s1.heap.objs.size]) fun b m => (two m).elim (fun z => Nat.le_of_lt (Nat.lt_of_lt_of_eq (Nat.lt_succ_self _) z.symm)) fun z => Nat.le_of_eq z.symm
  rcases sq with sq | sq
  · obtain ⟨vs, vals, lst, _⟩ := J1.list sq
    refine call_enumerate_list lst.isList fun h' en li size keep => wpAny_pyIter_enum en ?_
    exact ⟨_, _, _, _, H1, rfl, J1.kept (t' := s1.toks) keep, turn_enum a _ _, ⟨⟨_, en⟩, li, Nat.succ_ne_self _⟩, fp, k _ _ walk_enum fun H' s' => s'.seq sq⟩
  · obtain ⟨vs, vals, tup, _⟩ := J1.tuple sq
    refine callType_new F.called_enumerate (by decide) (F.typeCall_enumerate_1 _) (F.newCall_enumerate_1 _) (fun o => F.args_object_init_2 o _) F.entry_enumerate_new (made_enum a vs.toArray) ⟨tup, ?_⟩
    have size : (s1.heap.push (tiO a)).objs.size = s1.heap.objs.size + 1 := Heap.size_push _ _
    have en : IsEnum ((s1.heap.push (tiO a)).push (enO s1.heap.objs.size)) (s1.heap.objs.size + 1) s1.heap.objs.size 0 .none := size ▸ Heap.get?_push_size (s1.heap.push (tiO a)) (o := enO s1.heap.objs.size) rfl
    rw [size]
    refine ⟨⟨_, en, rfl⟩, wpAny_pyIter_enum en ?_⟩
    have keep : ∀ b o, s1.heap.get? b = some o → ((s1.heap.push (tiO a)).push (enO s1.heap.objs.size)).get? b = some o := fun b o q => Heap.get?_push_of_some _ (Heap.get?_push_of_some _ q)
    exact ⟨_, _, _, _, H1, rfl, J1.kept (t' := s1.toks) keep, turn_en a _ _, ⟨⟨_, en⟩, ⟨_, Heap.get?_push_of_some _ (Heap.get?_push_size _ rfl), rfl, rfl⟩, Nat.succ_ne_self _⟩, fp, k _ _ walk_en fun H' s' => seqT s' sq⟩
/-! ### for x in l, l a list or a tuple -/
def iSeqS (K : PySem.W.Frag) (tl : TE) : TI := fun σ H R => tl σ H fun x H1 => ∃ a xs, x = .ref a ∧ (SqL K H1 a xs ∨ SqT K H1 a xs) ∧ ∀ (J : It) (G : Hp → Prop), Walk J xs.length G (YAt xs) → (∀ H', Same H1 H' → G H') → R J H1
theorem pi_seqS {tg l : Expr} {tl : TE} (hl : PE X l tl) : PI X tg l (iSeqS X.K tl) := by
  constructor
  intro pins s σ H R I h
  refine thn (hl.run pins s σ H _ I h) ?_
  rintro v s1 ⟨x, H1, J1, rel, a, xs, rfl, sq, k⟩
  cases rel
  have fp := fresh_fp J1 (bs := [s1.heap.objs.size]) fun b m => Nat.le_of_eq (List.mem_singleton.mp m).symm
  have keep (o : Obj) := J1.kept (t' := s1.toks) fun b u (q : s1.heap.get? b = some u) => Heap.get?_push_of_some o q
  rcases sq with sq | sq
  · obtain ⟨vs, vals, lst, _⟩ := J1.list sq
    exact wpAny_pyIter_list lst.isList ⟨_, _, _, _, H1, rfl, keep _, turn_list a _, ⟨_, Heap.get?_push_size _ rfl, rfl, rfl⟩, fp, k _ _ walk_list fun H' s' => s'.seq sq⟩
  · obtain ⟨vs, vals, tup, _⟩ := J1.tuple sq
    have tup : s1.heap.IsTuple a vs.toArray := tup
    exact wpAny_pyIter_tuple tup ⟨_, _, _, _, H1, rfl, keep _, turn_tuple a _, ⟨_, Heap.get?_push_size _ rfl, rfl, rfl⟩, fp, k _ _ walk_tup fun H' s' => seqT s' sq⟩
end
end KEN
namespace K47
/-! ### frames that lean on others: the mathematics -/
def subs : Nat → List (List Nat)
  | 0 => [[]]
  | n + 1 => subs n ++ (subs n).map (· ++ [n])
theorem mem_subs : ∀ (n : Nat) (s : List Nat), s ∈ subs n ↔ s.Pairwise (· < ·) ∧ ∀ x ∈ s, x < n
  | 0, s => by
    constructor
    · intro h
      rw [List.mem_singleton.mp h]
      exact ⟨.nil, fun x hx => nomatch hx⟩
    · rintro ⟨_, h⟩
      cases s with
      | nil => exact List.mem_singleton.mpr rfl
      | cons x s => exact absurd (h x List.mem_cons_self) (Nat.not_lt_zero _)
  | n + 1, s => by
    have ih := mem_subs n
    show s ∈ subs n ++ (subs n).map (· ++ [n]) ↔ _
    rw [List.mem_append, List.mem_map]
    constructor
    · rintro (h | ⟨t, ht, rfl⟩)
      · obtain ⟨a, b⟩ := (ih s).mp h
        exact ⟨a, fun x hx => Nat.lt_succ_of_lt (b x hx)⟩
      · obtain ⟨a, b⟩ := (ih t).mp ht
        refine ⟨List.pairwise_append.mpr ⟨a, List.pairwise_singleton _ _, fun x hx y hy => ?_⟩, fun x hx => ?_⟩
        · rw [List.mem_singleton.mp hy]
          exact b x hx
        · rcases List.mem_append.mp hx with h | h
          · exact Nat.lt_succ_of_lt (b x h)
          · rw [List.mem_singleton.mp h]
            exact Nat.lt_succ_self _
    · rintro ⟨a, b⟩
      rcases List.eq_nil_or_concat s with rfl | ⟨t, y, rfl⟩
      · exact .inl ((ih []).mpr ⟨.nil, fun x hx => nomatch hx⟩)
      · simp only [List.concat_eq_append] at a b ⊢
        obtain ⟨a1, _, a3⟩ := List.pairwise_append.mp a
        have lt : ∀ x ∈ t, x < y := fun x hx => a3 x hx y (List.mem_singleton.mpr rfl)
        have hy := b y (List.mem_append_right _ (List.mem_singleton.mpr rfl))
        by_cases e : y = n
        · subst e
          exact .inr ⟨t, (ih t).mpr ⟨a1, lt⟩, rfl⟩
        · refine .inl ((ih _).mpr ⟨a, fun x hx => ?_⟩)
          rcases List.mem_append.mp hx with h | h
          · have := lt x h
            omega
          · rw [List.mem_singleton.mp h]
            omega
/-- ascending lists of the same items are one -/
theorem asc_ext : ∀ (a b : List Nat), a.Pairwise (· < ·) → b.Pairwise (· < ·) → (∀ x, x ∈ a ↔ x ∈ b) → a = b
  | [], [], _, _, _ => rfl
  | [], y :: b, _, _, h => by have := (h y).mpr List.mem_cons_self; cases this
  | x :: a, [], _, _, h => by have := (h x).mp List.mem_cons_self; cases this
  | x :: a, y :: b, ha, hb, h => by
    obtain ⟨a1, a2⟩ := List.pairwise_cons.mp ha
    obtain ⟨b1, b2⟩ := List.pairwise_cons.mp hb
    have e : x = y := by
      rcases List.mem_cons.mp ((h x).mp List.mem_cons_self) with z | z
      · exact z
      · rcases List.mem_cons.mp ((h y).mpr List.mem_cons_self) with z2 | z2
        · exact z2.symm
        · have := a1 y z2
          have := b1 x z
          omega
    subst e
    rw [asc_ext a b a2 b2 fun z => ?_]
    constructor
    · intro hz
      rcases List.mem_cons.mp ((h z).mp (List.mem_cons_of_mem _ hz)) with e | e
      · subst e
        exact absurd (a1 z hz) (Nat.lt_irrefl _)
      · exact e
    · intro hz
      rcases List.mem_cons.mp ((h z).mpr (List.mem_cons_of_mem _ hz)) with e | e
      · subst e
        exact absurd (b1 z hz) (Nat.lt_irrefl _)
      · exact e
theorem range_asc : ∀ n : Nat, (List.range n).Pairwise (· < ·) := fun n => List.pairwise_lt_range
theorem filter_asc (n : Nat) (p : Nat → Bool) : ((List.range n).filter p).Pairwise (· < ·) := (range_asc n).filter _
theorem filter_subs (n : Nat) (p : Nat → Bool) : (List.range n).filter p ∈ subs n :=
  (mem_subs n _).mpr ⟨filter_asc n p, fun x hx => List.mem_range.mp (List.mem_filter.mp hx).1⟩
theorem asc_filter {n : Nat} {s : List Nat} (h : s ∈ subs n) : s = (List.range n).filter fun x => decide (x ∈ s) := by
  obtain ⟨a, b⟩ := (mem_subs n s).mp h
  refine asc_ext _ _ a (filter_asc _ _) fun x => ?_
  rw [List.mem_filter, List.mem_range, decide_eq_true_eq]
  exact ⟨fun hx => ⟨b x hx, hx⟩, fun h => h.2⟩
/-! ### gains -/
def gat (g : List Int) (i : Nat) : Int := g.getD i 0
def gain (g : List Int) (s : List Nat) : Int := (s.map (gat g)).sum
def wsum (g : List Int) (p : Nat → Bool) : Nat → Int
  | 0 => 0
  | n + 1 => wsum g p n + if p n then gat g n else 0
theorem gain_filter (g : List Int) (p : Nat → Bool) : ∀ n, gain g ((List.range n).filter p) = wsum g p n
  | 0 => rfl
  | n + 1 => by
    have ih := gain_filter g p n
    unfold gain at ih ⊢
    rw [List.range_succ, List.filter_append, List.map_append, List.sum_append, ih]
    show _ = wsum g p n + _
    cases h : p n
    · simp [h]
    · simp [h]
theorem wsum_mod (g : List Int) (p q : Nat → Bool) : ∀ n, wsum g (fun x => p x && q x) n + wsum g (fun x => p x || q x) n = wsum g p n + wsum g q n
  | 0 => rfl
  | n + 1 => by
    have ih := wsum_mod g p q n
    simp only [wsum]
    generalize wsum g (fun x => p x && q x) n = z1 at ih ⊢
    generalize wsum g (fun x => p x || q x) n = z2 at ih ⊢
    generalize wsum g p n = z3 at ih ⊢
    generalize wsum g q n = z4 at ih ⊢
    have h : ∀ (x y : Bool) (v : Int), (if (x && y) = true then v else 0) + (if (x || y) = true then v else 0) = (if x = true then v else 0) + (if y = true then v else 0) := fun x y v => by
      cases x <;> cases y <;> simp
    have := h (p n) (q n) (gat g n)
    omega
theorem wsum_congr (g g' : List Int) (p q : Nat → Bool) : ∀ n, (∀ i, i < n → gat g i = gat g' i) → (∀ i, i < n → p i = q i) → wsum g p n = wsum g' q n
  | 0, _, _ => rfl
  | n + 1, h1, h2 => by
    simp only [wsum]
    rw [wsum_congr g g' p q n (fun i hi => h1 i (Nat.lt_succ_of_lt hi)) (fun i hi => h2 i (Nat.lt_succ_of_lt hi)), h1 n (Nat.lt_succ_self _), h2 n (Nat.lt_succ_self _)]
def row (rows : List (List Nat)) (f : Nat) : List Nat := rows.getD f []
def inB (s : List Nat) (x : Nat) : Bool := decide (x ∈ s)
def wholeB (rows : List (List Nat)) (s : List Nat) : Bool := s.all fun f => (row rows f).all (inB s)
theorem wholeB_iff {rows : List (List Nat)} {s : List Nat} : wholeB rows s = true ↔ ∀ f ∈ s, ∀ x ∈ row rows f, x ∈ s := by
  unfold wholeB inB
  simp only [List.all_eq_true, decide_eq_true_eq]
def wholes (rows : List (List Nat)) : List (List Nat) := (subs rows.length).filter (wholeB rows)
theorem mem_wholes {rows : List (List Nat)} {s : List Nat} : s ∈ wholes rows ↔ (s.Pairwise (· < ·) ∧ ∀ x ∈ s, x < rows.length) ∧ ∀ f ∈ s, ∀ x ∈ row rows f, x ∈ s := by
  unfold wholes
  rw [List.mem_filter, mem_subs, wholeB_iff]
def cap (n : Nat) (a b : List Nat) : List Nat := (List.range n).filter fun x => inB a x && inB b x
def cup (n : Nat) (a b : List Nat) : List Nat := (List.range n).filter fun x => inB a x || inB b x
theorem mem_cap {n : Nat} {a b : List Nat} {x : Nat} : x ∈ cap n a b ↔ x < n ∧ x ∈ a ∧ x ∈ b := by
  unfold cap inB
  simp [List.mem_filter]
theorem mem_cup {n : Nat} {a b : List Nat} {x : Nat} : x ∈ cup n a b ↔ x < n ∧ (x ∈ a ∨ x ∈ b) := by
  unfold cup inB
  simp [List.mem_filter]
section
variable {rows : List (List Nat)} {a b : List Nat}
theorem cap_wholes (ha : a ∈ wholes rows) (hb : b ∈ wholes rows) : cap rows.length a b ∈ wholes rows := by
  obtain ⟨⟨a1, a2⟩, a3⟩ := mem_wholes.mp ha
  obtain ⟨⟨b1, b2⟩, b3⟩ := mem_wholes.mp hb
  refine mem_wholes.mpr ⟨⟨filter_asc _ _, fun x hx => (mem_cap.mp hx).1⟩, fun f hf x hx => ?_⟩
  obtain ⟨h1, h2, h3⟩ := mem_cap.mp hf
  have q := a3 f h2 x hx
  exact mem_cap.mpr ⟨a2 x q, q, b3 f h3 x hx⟩
theorem cup_wholes (ha : a ∈ wholes rows) (hb : b ∈ wholes rows) : cup rows.length a b ∈ wholes rows := by
  obtain ⟨⟨a1, a2⟩, a3⟩ := mem_wholes.mp ha
  obtain ⟨⟨b1, b2⟩, b3⟩ := mem_wholes.mp hb
  refine mem_wholes.mpr ⟨⟨filter_asc _ _, fun x hx => (mem_cup.mp hx).1⟩, fun f hf x hx => ?_⟩
  obtain ⟨h1, h2⟩ := mem_cup.mp hf
  rcases h2 with h2 | h2
  · have q := a3 f h2 x hx
    exact mem_cup.mpr ⟨a2 x q, .inl q⟩
  · have q := b3 f h2 x hx
    exact mem_cup.mpr ⟨b2 x q, .inr q⟩
theorem gain_wsum (g : List Int) {n : Nat} {s : List Nat} (h : s ∈ subs n) : gain g s = wsum g (inB s) n := by
  have e := asc_filter h
  have q : gain g s = gain g ((List.range n).filter fun x => decide (x ∈ s)) := by rw [← e]
  rw [q, gain_filter]
  rfl
theorem wholes_subs (ha : a ∈ wholes rows) : a ∈ subs rows.length := (List.mem_filter.mp ha).1
theorem gain_mod (g : List Int) (ha : a ∈ wholes rows) (hb : b ∈ wholes rows) : gain g (cap rows.length a b) + gain g (cup rows.length a b) = gain g a + gain g b := by
  rw [gain_wsum g (wholes_subs ha), gain_wsum g (wholes_subs hb)]
  unfold cap cup
  rw [gain_filter, gain_filter]
  exact wsum_mod _ _ _ _
end
/-! ### the greatest, and the sets that reach it -/
def maxI : List Int → Int
  | [] => 0
  | [x] => x
  | x :: y :: l => max x (maxI (y :: l))
theorem maxI_spec : ∀ (l : List Int), l ≠ [] → maxI l ∈ l ∧ ∀ y ∈ l, y ≤ maxI l
  | [], h => absurd rfl h
  | [x], _ => ⟨List.mem_singleton.mpr rfl, fun y hy => by rw [List.mem_singleton.mp hy]; exact Int.le_refl _⟩
  | x :: y :: l, _ => by
    obtain ⟨a, b⟩ := maxI_spec (y :: l) (by simp)
    show max x (maxI (y :: l)) ∈ _ ∧ ∀ z ∈ _, z ≤ max x (maxI (y :: l))
    refine ⟨?_, fun z hz => ?_⟩
    · by_cases c : x ≤ maxI (y :: l)
      · rw [Int.max_eq_right c]
        exact List.mem_cons_of_mem _ a
      · rw [Int.max_eq_left (by omega)]
        exact List.mem_cons_self
    · rcases List.mem_cons.mp hz with rfl | hz
      · exact Int.le_max_left _ _
      · have := b z hz
        omega
theorem maxI_eq {l : List Int} {m : Int} (h1 : m ∈ l) (h2 : ∀ y ∈ l, y ≤ m) : m = maxI l := by
  obtain ⟨a, b⟩ := maxI_spec l (fun e => by rw [e] at h1; cases h1)
  have := b m h1
  have := h2 _ a
  omega
def topG (rows : List (List Nat)) (g : List Int) : Int := maxI ((wholes rows).map (gain g))
theorem nil_wholes (rows : List (List Nat)) : [] ∈ wholes rows := mem_wholes.mpr ⟨⟨.nil, fun x hx => nomatch hx⟩, fun x hx => nomatch hx⟩
theorem topG_spec (rows : List (List Nat)) (g : List Int) : (∃ s ∈ wholes rows, gain g s = topG rows g) ∧ ∀ s ∈ wholes rows, gain g s ≤ topG rows g := by
  obtain ⟨a, b⟩ := maxI_spec ((wholes rows).map (gain g)) (fun e => by
    have := List.mem_map_of_mem (f := gain g) (nil_wholes rows)
    rw [e] at this
    cases this)
  obtain ⟨s, hs, e⟩ := List.mem_map.mp a
  exact ⟨⟨s, hs, e⟩, fun s hs => b _ (List.mem_map_of_mem hs)⟩
def bests (rows : List (List Nat)) (g : List Int) : List (List Nat) := (wholes rows).filter fun s => decide (gain g s = topG rows g)
theorem mem_bests {rows : List (List Nat)} {g : List Int} {s : List Nat} : s ∈ bests rows g ↔ s ∈ wholes rows ∧ gain g s = topG rows g := by
  unfold bests
  rw [List.mem_filter, decide_eq_true_eq]
theorem bests_ne (rows : List (List Nat)) (g : List Int) : ∃ s, s ∈ bests rows g := by
  obtain ⟨⟨s, h1, h2⟩, _⟩ := topG_spec rows g
  exact ⟨s, mem_bests.mpr ⟨h1, h2⟩⟩
def leastL (rows : List (List Nat)) (g : List Int) : List Nat := (List.range rows.length).filter fun x => (bests rows g).all fun s => inB s x
def mostL (rows : List (List Nat)) (g : List Int) : List Nat := (List.range rows.length).filter fun x => (bests rows g).any fun s => inB s x
theorem mem_leastL {rows : List (List Nat)} {g : List Int} {x : Nat} : x ∈ leastL rows g ↔ x < rows.length ∧ ∀ s ∈ bests rows g, x ∈ s := by
  unfold leastL inB
  rw [List.mem_filter, List.mem_range, List.all_eq_true]
  simp only [decide_eq_true_eq]
theorem mem_mostL {rows : List (List Nat)} {g : List Int} {x : Nat} : x ∈ mostL rows g ↔ x < rows.length ∧ ∃ s ∈ bests rows g, x ∈ s := by
  unfold mostL inB
  rw [List.mem_filter, List.mem_range, List.any_eq_true]
  simp only [decide_eq_true_eq]
section
variable {rows : List (List Nat)} {g : List Int} {a b : List Nat}
theorem bests_cap (ha : a ∈ bests rows g) (hb : b ∈ bests rows g) : cap rows.length a b ∈ bests rows g ∧ cup rows.length a b ∈ bests rows g := by
  obtain ⟨a1, a2⟩ := mem_bests.mp ha
  obtain ⟨b1, b2⟩ := mem_bests.mp hb
  have c1 := cap_wholes a1 b1
  have c2 := cup_wholes a1 b1
  have m := gain_mod g a1 b1
  have t1 := (topG_spec rows g).2 _ c1
  have t2 := (topG_spec rows g).2 _ c2
  exact ⟨mem_bests.mpr ⟨c1, by omega⟩, mem_bests.mpr ⟨c2, by omega⟩⟩
theorem bests_asc (ha : a ∈ bests rows g) : a.Pairwise (· < ·) ∧ ∀ x ∈ a, x < rows.length := (mem_wholes.mp (mem_bests.mp ha).1).1
theorem least_of (ha : a ∈ bests rows g) (h : ∀ s ∈ bests rows g, a.length ≤ s.length) : a = leastL rows g := by
  refine asc_ext _ _ (bests_asc ha).1 (filter_asc _ _) fun x => ?_
  rw [mem_leastL]
  refine ⟨fun hx => ⟨(bests_asc ha).2 x hx, fun s hs => ?_⟩, fun hx => hx.2 a ha⟩
  have c := (bests_cap ha hs).1
  have e : cap rows.length a s = a.filter (inB s) := by
    refine asc_ext _ _ (bests_asc c).1 ((bests_asc ha).1.filter _) fun y => ?_
    rw [mem_cap, List.mem_filter]
    unfold inB
    rw [decide_eq_true_eq]
    exact ⟨fun h => h.2, fun h => ⟨(bests_asc ha).2 y h.1, h⟩⟩
  have l := h _ c
  rw [e] at l
  have := List.length_filter_eq_length_iff.mp (Nat.le_antisymm (List.length_filter_le _ _) l) x hx
  exact of_decide_eq_true this
theorem most_of (ha : a ∈ bests rows g) (h : ∀ s ∈ bests rows g, s.length ≤ a.length) : a = mostL rows g := by
  refine asc_ext _ _ (bests_asc ha).1 (filter_asc _ _) fun x => ?_
  rw [mem_mostL]
  refine ⟨fun hx => ⟨(bests_asc ha).2 x hx, a, ha, hx⟩, fun ⟨hx, s, hs, hxs⟩ => ?_⟩
  have c := (bests_cap ha hs).2
  have e : a = (cup rows.length a s).filter (inB a) := by
    refine asc_ext _ _ (bests_asc ha).1 ((bests_asc c).1.filter _) fun y => ?_
    rw [List.mem_filter, mem_cup]
    unfold inB
    rw [decide_eq_true_eq]
    exact ⟨fun h => ⟨⟨(bests_asc ha).2 y h, .inl h⟩, h⟩, fun h => h.2⟩
  have l := h _ c
  have l2 : ((cup rows.length a s).filter (inB a)).length = a.length := by rw [← e]
  have := List.length_filter_eq_length_iff.mp (Nat.le_antisymm (List.length_filter_le _ _) (l2 ▸ l)) x (mem_cup.mpr ⟨hx, .inr hxs⟩)
  exact of_decide_eq_true this
theorem least_best : leastL rows g ∈ bests rows g := by
  obtain ⟨a, ha, hm⟩ : ∃ a ∈ bests rows g, ∀ s ∈ bests rows g, a.length ≤ s.length := by
    have go : ∀ (k : Nat) (a : List Nat), a ∈ bests rows g → a.length ≤ k → ∃ a ∈ bests rows g, ∀ s ∈ bests rows g, a.length ≤ s.length := by
      intro k
      induction k with
      | zero => exact fun a ha hl => ⟨a, ha, fun s _ => by omega⟩
      | succ k ih =>
        intro a ha hl
        by_cases c : ∃ s ∈ bests rows g, s.length < a.length
        · obtain ⟨s, hs, hl2⟩ := c
          exact ih s hs (by omega)
        · exact ⟨a, ha, fun s hs => Nat.le_of_not_lt fun q => c ⟨s, hs, q⟩⟩
    obtain ⟨a, ha⟩ := bests_ne rows g
    exact go a.length a ha (Nat.le_refl _)
  rw [← least_of ha hm]
  exact ha
theorem most_best : mostL rows g ∈ bests rows g := by
  have bd : ∀ s ∈ bests rows g, s.length ≤ rows.length := fun s hs => by
    have e := asc_filter (wholes_subs (mem_bests.mp hs).1)
    rw [e]
    exact Nat.le_trans (List.length_filter_le _ _) (by rw [List.length_range]; exact Nat.le_refl _)
  obtain ⟨a, ha, hm⟩ : ∃ a ∈ bests rows g, ∀ s ∈ bests rows g, s.length ≤ a.length := by
    have go : ∀ (k : Nat) (a : List Nat), a ∈ bests rows g → rows.length ≤ a.length + k → ∃ a ∈ bests rows g, ∀ s ∈ bests rows g, s.length ≤ a.length := by
      intro k
      induction k with
      | zero => exact fun a ha hl => ⟨a, ha, fun s hs => by have := bd s hs; omega⟩
      | succ k ih =>
        intro a ha hl
        by_cases c : ∃ s ∈ bests rows g, a.length < s.length
        · obtain ⟨s, hs, hl2⟩ := c
          exact ih s hs (by omega)
        · exact ⟨a, ha, fun s hs => Nat.le_of_not_lt fun q => c ⟨s, hs, q⟩⟩
    obtain ⟨a, ha⟩ := bests_ne rows g
    exact go rows.length a ha (by omega)
  rw [← most_of ha hm]
  exact ha
end
end K47
namespace K47
/-! ### webs: checked, in an order, made longer -/
def ascB : List Nat → Bool
  | x :: y :: l => decide (x < y) && ascB (y :: l)
  | _ => true
theorem ascB_iff : ∀ l : List Nat, ascB l = true ↔ l.Pairwise (· < ·)
  | [] => by simp [ascB]
  | [x] => by simp [ascB]
  | x :: y :: l => by
    have ih := ascB_iff (y :: l)
    show (decide (x < y) && ascB (y :: l)) = true ↔ _
    rw [Bool.and_eq_true, decide_eq_true_eq, ih]
    constructor
    · rintro ⟨a, b⟩
      refine List.pairwise_cons.mpr ⟨fun z hz => ?_, b⟩
      rcases List.mem_cons.mp hz with rfl | hz
      · exact a
      · exact Nat.lt_trans a ((List.pairwise_cons.mp b).1 z hz)
    · intro h
      obtain ⟨a, b⟩ := List.pairwise_cons.mp h
      exact ⟨a y List.mem_cons_self, b⟩
def lotB (n : Nat) (s : List Nat) : Bool := s.all (fun x => decide (x < n)) && ascB s
theorem lotB_iff {n : Nat} {s : List Nat} : lotB n s = true ↔ s.Pairwise (· < ·) ∧ ∀ x ∈ s, x < n := by
  unfold lotB
  rw [Bool.and_eq_true, List.all_eq_true, ascB_iff]
  simp only [decide_eq_true_eq]
  exact ⟨fun ⟨a, b⟩ => ⟨b, a⟩, fun ⟨a, b⟩ => ⟨b, a⟩⟩
def badAt (rows : List (List Nat)) (i : Nat) : Bool := !(lotB rows.length (row rows i)) || inB (row rows i) i
def readyL (rows : List (List Nat)) (told : List Nat) : List Nat := (List.range rows.length).filter fun f => !(inB told f) && (row rows f).all (inB told)
def runs (rows : List (List Nat)) : Nat → List Nat → Bool
  | 0, _ => true
  | k + 1, told => if rows.length ≤ told.length then true else if readyL rows told = [] then false else runs rows k (told ++ readyL rows told)
theorem runs_done {rows : List (List Nat)} {told : List Nat} (h : rows.length ≤ told.length) : ∀ k, runs rows k told = true
  | 0 => rfl
  | k + 1 => by rw [runs, if_pos h]
/-- what a web is told: nothing, or the place -/
inductive At where
  | good
  | whole
  | frame (i : Nat)
  deriving DecidableEq
def webAns : Option (List (List Nat)) → At
  | none => .whole
  | some rows => if ¬ (1 ≤ rows.length ∧ rows.length ≤ 10) then .whole else match (List.range rows.length).find? (badAt rows) with
    | some i => .frame i
    | none => if runs rows rows.length [] = true then .good else .whole
/-- in the line's order each frame leans on those ahead alone -/
structure Ord (rows : List (List Nat)) (line : List Nat) : Prop where
  nd : line.Nodup
  len : line.length = rows.length
  lt : ∀ x ∈ line, x < rows.length
  asc : ∀ i, i < rows.length → (row rows i).Pairwise (· < ·)
  lean : ∀ t f, line[t]? = some f → ∀ x ∈ row rows f, x ∈ line.take t
theorem nodup_le : ∀ (a b : List Nat), a.Nodup → (∀ x ∈ a, x ∈ b) → a.length ≤ b.length
  | [], _, _, _ => Nat.zero_le _
  | x :: a, b, h, s => by
    obtain ⟨h1, h2⟩ := List.nodup_cons.mp h
    have hx := s x List.mem_cons_self
    have := nodup_le a (b.erase x) h2 fun y hy => (List.mem_erase_of_ne (fun e : y = x => h1 (by rw [← e]; exact hy))).mpr (s y (List.mem_cons_of_mem _ hy))
    rw [List.length_erase_of_mem hx] at this
    have : 0 < b.length := List.length_pos_of_mem hx
    rw [List.length_cons]
    omega
theorem range_nodup (n : Nat) : (List.range n).Nodup := List.nodup_range
section
variable {rows : List (List Nat)} {line : List Nat}
theorem Ord.all (o : Ord rows line) {x : Nat} (h : x < rows.length) : x ∈ line := by
  refine Decidable.byContradiction fun q => ?_
  have := nodup_le (x :: line) (List.range rows.length) (List.nodup_cons.mpr ⟨q, o.nd⟩) fun y hy => by
    rcases List.mem_cons.mp hy with rfl | hy
    · exact List.mem_range.mpr h
    · exact List.mem_range.mpr (o.lt y hy)
  rw [List.length_cons, List.length_range, o.len] at this
  omega
theorem Ord.lt' (o : Ord rows line) {f : Nat} (hf : f < rows.length) {x : Nat} (hx : x ∈ row rows f) : x < rows.length := by
  obtain ⟨t, ht⟩ := List.getElem?_of_mem (o.all hf)
  exact o.lt x (List.mem_of_mem_take (o.lean t f ht x hx))
theorem Ord.own (o : Ord rows line) {f : Nat} (hf : f < rows.length) : f ∉ row rows f := by
  intro h
  obtain ⟨t, ht⟩ := List.getElem?_of_mem (o.all hf)
  have m := o.lean t f ht f h
  obtain ⟨t2, h2⟩ := List.getElem?_of_mem m
  rw [List.getElem?_take] at h2
  by_cases c : t2 < t
  · rw [if_pos c] at h2
    obtain ⟨l1, e1⟩ := List.getElem?_eq_some_iff.mp ht
    obtain ⟨l2, e2⟩ := List.getElem?_eq_some_iff.mp h2
    have := (List.nodup_iff_pairwise_ne.mp o.nd)
    have := (List.pairwise_iff_getElem.mp this) t2 t l2 l1 c
    exact this (e2.trans e1.symm)
  · rw [if_neg c] at h2
    cases h2
theorem Ord.ready (o : Ord rows line) {told : List Nat} (h : told.length < rows.length) : readyL rows told ≠ [] := by
  obtain ⟨t, f, ht, hf, hb⟩ : ∃ t f, line[t]? = some f ∧ f ∉ told ∧ ∀ x ∈ line.take t, x ∈ told := by
    have go : ∀ (k : Nat), k ≤ line.length → (∀ x ∈ line.take k, x ∈ told) ∨ ∃ t f, line[t]? = some f ∧ f ∉ told ∧ ∀ x ∈ line.take t, x ∈ told := by
      intro k
      induction k with
      | zero => exact fun _ => .inl fun x hx => by rw [List.take_zero] at hx; cases hx
      | succ k ih =>
        intro hk
        rcases ih (by omega) with q | q
        · have e : line[k]? = some line[k] := List.getElem?_eq_getElem (by omega)
          by_cases c : line[k] ∈ told
          · refine .inl fun x hx => ?_
            rw [List.take_add_one, e] at hx
            rcases List.mem_append.mp hx with z | z
            · exact q x z
            · rw [List.mem_singleton.mp z]
              exact c
          · exact .inr ⟨k, _, e, c, q⟩
        · exact .inr q
    rcases go line.length (Nat.le_refl _) with q | q
    · rw [List.take_length] at q
      have := nodup_le line told o.nd q
      rw [o.len] at this
      omega
    · exact q
  have hfl := o.lt f (List.mem_of_getElem? ht)
  refine List.ne_nil_of_mem (a := f) ?_
  unfold readyL inB
  rw [List.mem_filter, List.mem_range]
  refine ⟨hfl, ?_⟩
  simp only [Bool.and_eq_true, Bool.not_eq_true', decide_eq_false_iff_not, List.all_eq_true, decide_eq_true_eq]
  exact ⟨hf, fun x hx => hb x (o.lean t f ht x hx)⟩
theorem Ord.runs (o : Ord rows line) : ∀ (k : Nat) (told : List Nat), rows.length ≤ told.length + k → K47.runs rows k told = true
  | 0, _, _ => rfl
  | k + 1, told, h => by
    rw [K47.runs]
    split
    · rfl
    · rename_i c
      rw [if_neg (o.ready (by omega))]
      refine o.runs k _ ?_
      have := List.length_pos_iff.mpr (o.ready (told := told) (by omega))
      rw [List.length_append]
      omega
theorem Ord.good (o : Ord rows line) (h1 : 1 ≤ rows.length) (h2 : rows.length ≤ 10) : webAns (some rows) = .good := by
  show (if ¬ (1 ≤ rows.length ∧ rows.length ≤ 10) then At.whole else match (List.range rows.length).find? (badAt rows) with
    | some i => At.frame i
    | none => if K47.runs rows rows.length [] = true then At.good else At.whole) = At.good
  rw [if_neg (fun q => q ⟨h1, h2⟩)]
  have e : (List.range rows.length).find? (badAt rows) = none := by
    refine List.find?_eq_none.mpr fun i hi => ?_
    have hi := List.mem_range.mp hi
    have l : lotB rows.length (row rows i) = true := lotB_iff.mpr ⟨o.asc i hi, fun x hx => o.lt' hi hx⟩
    unfold badAt inB
    simp [l, o.own hi]
  rw [e]
  show (if _ then _ else _) = _
  rw [if_pos (o.runs _ _ (by simp))]
theorem row_lt {rows : List (List Nat)} {r : List Nat} {i : Nat} (h : i < rows.length) : row (rows ++ [r]) i = row rows i := by
  unfold row
  rw [List.getD_eq_getElem?_getD, List.getD_eq_getElem?_getD, List.getElem?_append_left h]
theorem row_end {rows : List (List Nat)} {r : List Nat} : row (rows ++ [r]) rows.length = r := by
  unfold row
  rw [List.getD_eq_getElem?_getD, List.getElem?_append_right (Nat.le_refl _)]
  simp
theorem Ord.longer (o : Ord rows line) {lot : List Nat} (h : lot ∈ wholes rows) : Ord (rows ++ [lot]) (line ++ [rows.length]) := by
  obtain ⟨⟨l1, l2⟩, _⟩ := mem_wholes.mp h
  refine ⟨?_, ?_, ?_, ?_, ?_⟩
  · refine List.nodup_append.mpr ⟨o.nd, List.nodup_cons.mpr ⟨by simp, List.nodup_nil⟩, fun x hx y hy => ?_⟩
    rw [List.mem_singleton.mp hy]
    have := o.lt x hx
    omega
  · rw [List.length_append, List.length_append, o.len]
    rfl
  · intro x hx
    rw [List.length_append]
    rcases List.mem_append.mp hx with q | q
    · exact Nat.lt_succ_of_lt (o.lt x q)
    · rw [List.mem_singleton.mp q]
      exact Nat.lt_succ_self _
  · intro i hi
    rw [List.length_append] at hi
    by_cases c : i < rows.length
    · rw [row_lt c]
      exact o.asc i c
    · have e : i = rows.length := by simp at hi; omega
      rw [e, row_end]
      exact l1
  · intro t f ht x hx
    by_cases c : t < line.length
    · rw [List.getElem?_append_left c] at ht
      have fl := o.lt f (List.mem_of_getElem? ht)
      rw [row_lt fl] at hx
      rw [List.take_append_of_le_length (by omega)]
      exact o.lean t f ht x hx
    · rw [List.getElem?_append_right (by omega)] at ht
      have e : t = line.length := by
        rcases Nat.eq_zero_or_pos (t - line.length) with z | z
        · omega
        · rw [List.getElem?_eq_none (by simp; omega)] at ht
          cases ht
      subst e
      simp at ht
      subst ht
      rw [row_end] at hx
      rw [List.take_left']
      · exact o.all (l2 x hx)
      · rfl
end
/-! ### the frame behind the others -/
section
variable {rows : List (List Nat)} {lot : List Nat} {g : List Int}
theorem gat_lt {c : Int} {i : Nat} (h : i < g.length) : gat (g ++ [c]) i = gat g i := by
  unfold gat
  rw [List.getD_eq_getElem?_getD, List.getD_eq_getElem?_getD, List.getElem?_append_left h]
theorem gat_end {c : Int} : gat (g ++ [c]) g.length = c := by
  unfold gat
  rw [List.getD_eq_getElem?_getD, List.getElem?_append_right (Nat.le_refl _)]
  simp
def least0 (g : List Int) : Int := (g.map fun x => min x 0).sum
theorem wsum_le (g : List Int) (p : Nat → Bool) : ∀ n, n ≤ g.length → wsum g p n ≤ wsum g (fun _ => true) n - ((g.take n).map fun x => min x 0).sum
  | 0, _ => by simp [wsum]
  | n + 1, h => by
    have ih := wsum_le g p n (by omega)
    have e : g[n]? = some g[n] := List.getElem?_eq_getElem (by omega)
    have eg : gat g n = g[n] := by
      unfold gat
      rw [List.getD_eq_getElem?_getD, e]
      rfl
    rw [List.take_add_one, e, List.map_append, List.sum_append]
    simp only [wsum, eg]
    show _ ≤ _ + _ - (_ + (List.map _ [g[n]]).sum)
    simp only [List.map_cons, List.map_nil, List.sum_cons, List.sum_nil]
    have m1 : min g[n] 0 ≤ g[n] := Int.min_le_left _ _
    have m2 : min g[n] 0 ≤ 0 := Int.min_le_right _ _
    generalize ((g.take n).map fun x => min x 0).sum = z at ih ⊢
    generalize min g[n] 0 = y at m1 m2 ⊢
    generalize wsum g p n = z1 at ih ⊢
    generalize wsum g (fun _ => true) n = z2 at ih ⊢
    generalize g[n] = v at m1 ⊢
    rw [if_pos trivial]
    split <;> omega
theorem full_wholes {line : List Nat} (o : Ord rows line) : List.range rows.length ∈ wholes rows :=
  mem_wholes.mpr ⟨⟨range_asc _, fun x hx => List.mem_range.mp hx⟩, fun f hf x hx => List.mem_range.mpr (o.lt' (List.mem_range.mp hf) hx)⟩
theorem gain_full (g : List Int) (n : Nat) : gain g (List.range n) = wsum g (fun _ => true) n := by
  have := gain_filter g (fun _ => true) n
  rwa [List.filter_eq_self.mpr (fun _ _ => rfl)] at this
theorem len_snoc {lot : List Nat} : (rows ++ [lot]).length = rows.length + 1 := by rw [List.length_append]; rfl
theorem gain_snoc {c : Int} {s : List Nat} (h : ∀ x ∈ s, x < g.length) : gain (g ++ [c]) s = gain g s := by
  unfold gain
  congr 1
  refine List.map_congr_left fun x hx => gat_lt (h x hx)
/-- with what the frame behind gains, every best set holds it -/
theorem behind_in {line : List Nat} (o : Ord rows line) (hl : lot ∈ wholes rows) (hg : g.length = rows.length) {s : List Nat} (hs : s ∈ wholes (rows ++ [lot])) (hn : rows.length ∉ s) :
    gain (g ++ [0 - least0 g + 1]) s < gain (g ++ [0 - least0 g + 1]) (List.range (rows ++ [lot]).length) := by
  have ss := wholes_subs hs
  rw [len_snoc] at ss
  obtain ⟨s1, s2⟩ := (mem_subs _ s).mp ss
  have s3 : ∀ x ∈ s, x < rows.length := fun x hx => by
    have := s2 x hx
    have : x ≠ rows.length := fun e => hn (e ▸ hx)
    omega
  rw [gain_snoc (fun x hx => hg ▸ s3 x hx), gain_wsum g ((mem_subs rows.length s).mpr ⟨s1, s3⟩), len_snoc, gain_full]
  simp only [wsum, if_true]
  have e : gat (g ++ [0 - least0 g + 1]) rows.length = 0 - least0 g + 1 := by rw [← hg]; exact gat_end
  have q := wsum_le g (inB s) rows.length (by omega)
  have t : g.take rows.length = g := by rw [← hg, List.take_length]
  rw [t] at q
  have w : wsum (g ++ [0 - least0 g + 1]) (fun _ => true) rows.length = wsum g (fun _ => true) rows.length := wsum_congr _ _ _ _ _ (fun i hi => gat_lt (by omega)) (fun _ _ => rfl)
  rw [e, w]
  unfold least0 at *
  omega
theorem behind_all {line : List Nat} (o : Ord rows line) (hl : lot ∈ wholes rows) (hg : g.length = rows.length) {s : List Nat} (hs : s ∈ bests (rows ++ [lot]) (g ++ [0 - least0 g + 1])) : rows.length ∈ s := by
  obtain ⟨h1, h2⟩ := mem_bests.mp hs
  refine Decidable.byContradiction fun q => ?_
  have := behind_in (g := g) o hl hg h1 q
  have := (topG_spec (rows ++ [lot]) (g ++ [0 - least0 g + 1])).2 _ (full_wholes (o.longer hl))
  omega
theorem short_wholes {s : List Nat} (hs : s ∈ wholes rows) : s ∈ wholes (rows ++ [lot]) := by
  obtain ⟨⟨a, b⟩, c⟩ := mem_wholes.mp hs
  refine mem_wholes.mpr ⟨⟨a, fun x hx => by rw [len_snoc]; exact Nat.lt_succ_of_lt (b x hx)⟩, fun f hf x hx => ?_⟩
  rw [row_lt (b f hf)] at hx
  exact c f hf x hx
theorem more_top (hg : g.length = rows.length) (c : Int) : topG rows g ≤ topG (rows ++ [lot]) (g ++ [c]) := by
  obtain ⟨⟨s, hs, e⟩, _⟩ := topG_spec rows g
  have := (topG_spec (rows ++ [lot]) (g ++ [c])).2 s (short_wholes hs)
  rw [gain_snoc (fun x hx => hg ▸ (mem_wholes.mp hs).1.2 x hx)] at this
  omega
/-- a whole set that holds the frame behind is whole without it -/
theorem cut_wholes {s : List Nat} (hs : s ∈ wholes (rows ++ [lot])) (hlt : ∀ f, f < rows.length → ∀ x ∈ row rows f, x < rows.length) (hn : rows.length ∈ s) : ∃ t ∈ wholes rows, s = t ++ [rows.length] := by
  obtain ⟨⟨a, b⟩, c⟩ := mem_wholes.mp hs
  rw [len_snoc] at b
  have e : s = s.filter (fun x => decide (x < rows.length)) ++ [rows.length] := by
    refine asc_ext _ _ a (List.pairwise_append.mpr ⟨a.filter _, List.pairwise_singleton _ _, fun x hx y hy => ?_⟩) fun x => ?_
    · rw [List.mem_singleton.mp hy]
      exact of_decide_eq_true (List.mem_filter.mp hx).2
    · rw [List.mem_append, List.mem_filter, List.mem_singleton, decide_eq_true_eq]
      constructor
      · intro hx
        have := b x hx
        by_cases z : x < rows.length
        · exact .inl ⟨hx, z⟩
        · exact .inr (by omega)
      · rintro (⟨h, _⟩ | rfl)
        · exact h
        · exact hn
  refine ⟨_, mem_wholes.mpr ⟨⟨a.filter _, fun x hx => of_decide_eq_true (List.mem_filter.mp hx).2⟩, fun f hf x hx => ?_⟩, e⟩
  obtain ⟨h1, h2⟩ := List.mem_filter.mp hf
  have h2 := of_decide_eq_true h2
  have := c f h1 x (by rw [row_lt h2]; exact hx)
  exact List.mem_filter.mpr ⟨this, decide_eq_true (hlt f h2 x hx)⟩
theorem bests_less {line : List Nat} (o : Ord rows line) (hg : g.length = rows.length) (s : List Nat) : s ∈ bests (rows ++ [lot]) (g ++ [-1]) ↔ s ∈ bests rows g := by
  have ch : ∀ s ∈ wholes (rows ++ [lot]), (s ∈ wholes rows ∧ gain (g ++ [-1]) s = gain g s) ∨ gain (g ++ [-1]) s < topG rows g := fun s hs => by
    by_cases c : rows.length ∈ s
    · obtain ⟨t, ht, rfl⟩ := cut_wholes hs (fun f hf x hx => o.lt' hf hx) c
      refine .inr ?_
      have e : gain (g ++ [-1]) (t ++ [rows.length]) = gain g t - 1 := by
        have q : gain (g ++ [-1]) (t ++ [rows.length]) = gain (g ++ [-1]) t + gat (g ++ [-1]) rows.length := by
          unfold gain
          rw [List.map_append, List.sum_append]
          simp
        rw [q, gain_snoc (fun x hx => hg ▸ (mem_wholes.mp ht).1.2 x hx)]
        have : gat (g ++ [-1]) rows.length = -1 := by rw [← hg]; exact gat_end
        omega
      have := (topG_spec rows g).2 t ht
      omega
    · obtain ⟨⟨a, b⟩, d⟩ := mem_wholes.mp hs
      have b' : ∀ x ∈ s, x < rows.length := fun x hx => by
        have := b x hx
        rw [len_snoc] at this
        have : x ≠ rows.length := fun e => c (e ▸ hx)
        omega
      exact .inl ⟨mem_wholes.mpr ⟨⟨a, b'⟩, fun f hf x hx => d f hf x (by rw [row_lt (b' f hf)]; exact hx)⟩, gain_snoc (fun x hx => hg ▸ b' x hx)⟩
  have top : topG (rows ++ [lot]) (g ++ [-1]) = topG rows g := by
    have m := more_top (lot := lot) hg (-1)
    obtain ⟨⟨t, ht, e⟩, _⟩ := topG_spec (rows ++ [lot]) (g ++ [-1])
    rcases ch t ht with ⟨q1, q2⟩ | q
    · have := (topG_spec rows g).2 t q1
      omega
    · omega
  rw [mem_bests, mem_bests, top]
  constructor
  · rintro ⟨h1, h2⟩
    rcases ch s h1 with ⟨q1, q2⟩ | q
    · exact ⟨q1, q2 ▸ h2⟩
    · omega
  · rintro ⟨h1, h2⟩
    exact ⟨short_wholes h1, by rw [gain_snoc (fun x hx => hg ▸ (mem_wholes.mp h1).1.2 x hx)]; exact h2⟩
theorem least_less {line : List Nat} (o : Ord rows line) (hg : g.length = rows.length) : leastL (rows ++ [lot]) (g ++ [-1]) = leastL rows g := by
  refine asc_ext _ _ (filter_asc _ _) (filter_asc _ _) fun x => ?_
  rw [mem_leastL, mem_leastL]
  constructor
  · rintro ⟨_, h⟩
    obtain ⟨s, hs⟩ := bests_ne rows g
    exact ⟨(bests_asc hs).2 x (h s ((bests_less o hg s).mpr hs)), fun s hs => h s ((bests_less o hg s).mpr hs)⟩
  · rintro ⟨h1, h⟩
    exact ⟨by rw [len_snoc]; omega, fun s hs => h s ((bests_less o hg s).mp hs)⟩
theorem most_less {line : List Nat} (o : Ord rows line) (hg : g.length = rows.length) : mostL (rows ++ [lot]) (g ++ [-1]) = mostL rows g := by
  refine asc_ext _ _ (filter_asc _ _) (filter_asc _ _) fun x => ?_
  rw [mem_mostL, mem_mostL]
  constructor
  · rintro ⟨_, s, hs, hx⟩
    have hs := (bests_less o hg s).mp hs
    exact ⟨(bests_asc hs).2 x hx, s, hs, hx⟩
  · rintro ⟨h1, s, hs, hx⟩
    exact ⟨by rw [len_snoc]; omega, s, (bests_less o hg s).mpr hs, hx⟩
/-! ### no gains, and losses alone -/
theorem gain_rep (n : Nat) (c : Int) : ∀ s : List Nat, (∀ x ∈ s, x < n) → gain (List.replicate n c) s = c * (s.length : Int)
  | [], _ => by simp [gain]
  | x :: s, h => by
    have ih := gain_rep n c s fun y hy => h y (List.mem_cons_of_mem _ hy)
    have e : gat (List.replicate n c) x = c := by
      unfold gat
      rw [List.getD_eq_getElem?_getD, List.getElem?_replicate, if_pos (h x List.mem_cons_self)]
      rfl
    have q : gain (List.replicate n c) (x :: s) = gat (List.replicate n c) x + gain (List.replicate n c) s := by
      unfold gain
      rw [List.map_cons, List.sum_cons]
    rw [q, e, ih, List.length_cons, Int.natCast_succ, Int.mul_add, Int.mul_one, Int.add_comm]
theorem zero_best {s : List Nat} (hs : s ∈ wholes rows) : s ∈ bests rows (List.replicate rows.length 0) := by
  have z : ∀ s ∈ wholes rows, gain (List.replicate rows.length 0) s = 0 := fun s hs => by
    rw [gain_rep _ _ _ (mem_wholes.mp hs).1.2, Int.zero_mul]
  obtain ⟨⟨t, ht, e⟩, _⟩ := topG_spec rows (List.replicate rows.length 0)
  exact mem_bests.mpr ⟨hs, by rw [z s hs, ← e, z t ht]⟩
theorem least_zero : leastL rows (List.replicate rows.length 0) = [] := by
  refine List.eq_nil_iff_forall_not_mem.mpr fun x hx => ?_
  have := (mem_leastL.mp hx).2 [] (zero_best (nil_wholes rows))
  cases this
theorem most_zero {line : List Nat} (o : Ord rows line) : mostL rows (List.replicate rows.length 0) = List.range rows.length := by
  refine asc_ext _ _ (filter_asc _ _) (range_asc _) fun x => ?_
  rw [mem_mostL, List.mem_range]
  exact ⟨fun h => h.1, fun h => ⟨h, _, zero_best (full_wholes o), List.mem_range.mpr h⟩⟩
theorem top_loss : topG rows (List.replicate rows.length (-1)) = 0 := by
  obtain ⟨⟨t, ht, e⟩, m⟩ := topG_spec rows (List.replicate rows.length (-1))
  have := m [] (nil_wholes rows)
  rw [gain_rep _ _ _ (fun x hx => absurd hx List.not_mem_nil)] at this
  rw [gain_rep _ _ _ (mem_wholes.mp ht).1.2] at e
  simp at this
  omega
end
/-! ### what cannot be -/
theorem ans_none : webAns none = .whole := rfl
theorem ans_nil : webAns (some []) = .whole := rfl
theorem ans_own : webAns (some [[0]]) = .frame 0 := by decide
theorem ans_ring : webAns (some [[1], [0]]) = .whole := by decide
theorem ans_out : webAns (some [[], [2]]) = .frame 1 := by decide
end K47
namespace K47
open PySem PySem.Spec PyProof.Rows L2 PySem.W LamX KA KW KU KL KT
open Evl (pss_cut tCut)
theorem Same.put {H H' : Hp} {D : Addr} {o : HO} (s : Same H H') (h : H D = none) : Same H (upd H' D o) := fun b o e => by
  rw [upd_ne (ne_of_none e h)]
  exact s b o e
theorem Kp.put3 {st lg D : Addr} {H H' : Hp} {o : HO} (k : Kp st lg H H') (hD : H D = none) : Kp st lg H (upd H' D o) := fun b u e n1 n2 => by
  rw [upd_ne (fun z => by rw [z, hD] at e; cases e)]
  exact k _ _ e n1 n2
theorem offc {H : Hp} {st lg cl p : Addr} {n : Nat} (S : StAt H st lg cl n) (hp : H p = none) : p ≠ cl := by
  obtain ⟨_, _, _, _, S', _⟩ := S
  exact (ne_of_none S'.c hp).symm
theorem stAt_put {H : Hp} {st lg cl e : Addr} {n : Nat} {ys : List V} (S : StAt H st lg cl n) (h1 : e ≠ st) (h2 : e ≠ lg) (h3 : e ≠ cl) : StAt (upd H e (.lst ys)) st lg cl n := by
  obtain ⟨a, b, c, d, s, h'⟩ := S
  exact ⟨a, b, c, d, { s with d := (upd_ne h1.symm).trans s.d, l := (upd_ne h2.symm).trans s.l, c := (upd_ne h3.symm).trans s.c }, h'⟩
/-! ### lists of new tuples, loops within loops -/
/-- tuples stay -/
def Tp (H H' : Hp) : Prop := ∀ b xs, H b = some (.tup xs) → H' b = some (.tup xs)
theorem Tp.same {H H' : Hp} (s : Same H H') : Tp H H' := fun b xs e => s _ _ e
theorem Tp.trans {H H1 H2 : Hp} (a : Tp H H1) (b : Tp H1 H2) : Tp H H2 := fun c xs e => b _ _ (a _ _ e)
theorem Tp.put {H : Hp} {D : Addr} {xs : List V} {o : HO} (h : H D = some (.lst xs)) : Tp H (upd H D o) := fun b ys e => by
  rw [upd_ne (fun z => by rw [z, h] at e; cases e)]
  exact e
theorem Tp.kp {st lg cl : Addr} {m : Nat} {H H' : Hp} (S : StAt H st lg cl m) (k : Kp st lg H H') : Tp H H' := fun b xs e => by
  obtain ⟨_, _, _, _, s, _⟩ := S
  exact k _ _ e (ne_of e s.d (by intro z; cases z)) (ne_of e s.l (by intro z; cases z))
/-- v is the tuple of these values -/
def TupAt (H : Hp) (v : V) (xs : List V) : Prop := ∃ p, v = .ref p ∧ H p = some (.tup xs)
theorem TupAt.tp {H H' : Hp} {v : V} {xs : List V} (h : TupAt H v xs) (t : Tp H H') : TupAt H' v xs := by
  obtain ⟨p, e, q⟩ := h
  exact ⟨p, e, t _ _ q⟩
/-- these are tuples, as f tells -/
def RL {α : Type} (f : α → List V) (H : Hp) (vs : List V) (as : List α) : Prop := vs.length = as.length ∧ ∀ (i : Nat) (v : V), vs[i]? = some v → ∃ a, as[i]? = some a ∧ TupAt H v (f a)
section
variable {α : Type} {f : α → List V} {H H' : Hp} {vs us : List V} {as bs : List α}
theorem RL.nil : RL f H [] [] := ⟨rfl, fun i v h => by simp at h⟩
theorem RL.tp (r : RL f H vs as) (t : Tp H H') : RL f H' vs as := ⟨r.1, fun i v h => by
  obtain ⟨a, e, q⟩ := r.2 i v h
  exact ⟨a, e, q.tp t⟩⟩
theorem RL.same (r : RL f H vs as) (t : Same H H') : RL f H' vs as := r.tp (Tp.same t)
theorem RL.append (r : RL f H vs as) (q : RL f H us bs) : RL f H (vs ++ us) (as ++ bs) := ⟨by rw [List.length_append, List.length_append, r.1, q.1], fun i v h => by
  by_cases c : i < vs.length
  · rw [List.getElem?_append_left c] at h
    obtain ⟨a, e, z⟩ := r.2 i v h
    exact ⟨a, by rw [List.getElem?_append_left (by rw [← r.1]; exact c)]; exact e, z⟩
  · rw [List.getElem?_append_right (by omega)] at h
    obtain ⟨a, e, z⟩ := q.2 _ v h
    exact ⟨a, by rw [List.getElem?_append_right (by rw [← r.1]; omega), ← r.1]; exact e, z⟩⟩
theorem RL.one {v : V} {a : α} (h : TupAt H v (f a)) : RL f H [v] [a] := ⟨rfl, fun i u e => by
  match i, e with
  | 0, e => exact ⟨a, rfl, (Option.some.inj e) ▸ h⟩⟩
theorem RL.get (r : RL f H vs as) {i : Nat} {v : V} (h : vs[i]? = some v) : ∃ p a, v = .ref p ∧ as[i]? = some a ∧ H p = some (.tup (f a)) := by
  obtain ⟨a, e, p, q, z⟩ := r.2 i v h
  exact ⟨p, a, q, e, z⟩
theorem RL.at_ (r : RL f H vs as) {i : Nat} {a : α} (h : as[i]? = some a) : ∃ p, vs[i]? = some (.ref p) ∧ H p = some (.tup (f a)) := by
  have l := (List.getElem?_eq_some_iff.mp h).1
  obtain ⟨p, a', e1, e2, e3⟩ := r.get (List.getElem?_eq_getElem (l := vs) (i := i) (by rw [r.1]; exact l))
  rw [h] at e2
  cases e2
  exact ⟨p, by rw [List.getElem?_eq_getElem (by rw [r.1]; exact l), e1], e3⟩
end
/-- the list at D, made since H1 -/
def NI {α : Type} (f : α → List V) (H1 : Hp) (D : Addr) (as : List α) (H : Hp) : Prop := ∃ ws, H D = some (.lst ws) ∧ RL f H ws as ∧ Same H1 H
section
variable {α : Type} {f : α → List V} {H1 H H' : Hp} {D : Addr} {as bs : List α}
theorem NI.new (hD : H1 D = none) : NI f H1 D [] (upd H1 D (.lst [])) := ⟨[], upd_same, .nil, Same.new hD⟩
theorem NI.same (n : NI f H1 D as H) (s : Same H H') : NI f H1 D as H' := by
  obtain ⟨ws, a, b, c⟩ := n
  exact ⟨ws, s _ _ a, b.same s, c.trans s⟩
theorem NI.s (n : NI f H1 D as H) : Same H1 H := n.elim fun _ q => q.2.2
theorem NI.push {v : V} {a : α} (n : NI f H1 D as H) (hD : H1 D = none) (l : as.length < 100000) (q : TupAt H v (f a)) : ∃ acc, H D = some (.lst acc) ∧ acc.length < sizeLine ∧ NI f H1 D (as ++ [a]) (upd H D (.lst (acc ++ [v]))) := by
  obtain ⟨ws, e, r, s⟩ := n
  refine ⟨ws, e, Nat.lt_trans (by rw [r.1]; exact l) (by decide), ws ++ [v], upd_same, (r.append (.one q)).tp (Tp.put e), K47.Same.put s hD⟩
end
theorem walk_core {J : It} {n : Nat} {G : Hp → Prop} {Y : Nat → Hp → V → Hp → Prop} (w : Walk J n G Y) {H1 : Hp} {Stop : Hp → Prop} {Body : (Hp → Prop) → V → Hp → Prop} (Pv : Nat → Hp → Prop) (h0 : Pv 0 H1) (hG : ∀ i H, i ≤ n → Pv i H → G H)
    (hs : ∀ i x H H', i < n → Pv i H → Y i H x H' → Body (Pv (i + 1)) x H') (hd : ∀ H, Pv n H → Stop H) :
    ∃ W : Nat → Nat → Hp → Prop, (∃ m, W 0 m H1) ∧ ∀ i m H, W i m H → (J.stop i H ∧ Stop H) ∨ (J.go i H ∧ ∃ Nx : Hp → Prop, (∀ H', Nx H' → ∃ m', m' < m ∧ W (i + 1) m' H') ∧ ∀ x H', J.yld i H x H' → Body Nx x H') := by
  refine ⟨fun i m H => m = n - i ∧ i ≤ n ∧ Pv i H, ⟨n, by simp, Nat.zero_le _, h0⟩, ?_⟩
  rintro i m H ⟨rfl, hi, p⟩
  have q := hG i H hi p
  by_cases hlt : i < n
  · exact .inr ⟨w.goes i H hlt q, Pv (i + 1), fun H' p' => ⟨n - (i + 1), by omega, rfl, hlt, p'⟩, fun x H' y => hs i x H H' hlt p (w.yields i H x H' hlt q y)⟩
  · have e : i = n := by omega
    subst e
    exact .inl ⟨w.stops H q, hd H p⟩
/-- the inner loop of two, the list at D growing -/
theorem inn_it {J : It} {n : Nat} {G : Hp → Prop} {Y : Nat → Hp → V → Hp → Prop} (w : Walk J n G Y) {g : TG} {tt : TT} {te : TE} {vs : List Nat} {σ : L2.St} {H4 : Hp} {D : Addr} {Nx : Hp → Prop} (Pv : Nat → Hp → Prop) (h0 : Pv 0 H4) (hG : ∀ i H, i ≤ n → Pv i H → G H)
    (hs : ∀ i x H H', i < n → Pv i H → Y i H x H' → g x (wipe σ vs) H' fun σ3 H5 => wipe σ3 vs = wipe σ vs ∧ tt σ3 H5 fun b H6 => if b = true then te σ3 H6 fun y H7 => ∃ acc, H7 D = some (.lst acc) ∧ acc.length < sizeLine ∧ Pv (i + 1) (upd H7 D (.lst (acc ++ [y]))) else Pv (i + 1) H6)
    (hd : ∀ H, Pv n H → Nx H) :
    ∃ W1 : Nat → Nat → Hp → Prop, (∃ m, W1 0 m H4) ∧ ∀ j k H, W1 j k H → (J.stop j H ∧ Nx H) ∨ (J.go j H ∧ ∃ Nx1 : Hp → Prop, (∀ H', Nx1 H' → ∃ k', k' < k ∧ W1 (j + 1) k' H') ∧ ∀ x H', J.yld j H x H' → g x (wipe σ vs) H' fun σ3 H5 => wipe σ3 vs = wipe σ vs ∧ tt σ3 H5 fun b H6 =>
        if b = true then te σ3 H6 fun y H7 => ∃ acc, H7 D = some (.lst acc) ∧ acc.length < sizeLine ∧ Nx1 (upd H7 D (.lst (acc ++ [y]))) else Nx1 H6) :=
  walk_core w (Body := fun Nx1 x H' => g x (wipe σ vs) H' fun σ3 H5 => wipe σ3 vs = wipe σ vs ∧ tt σ3 H5 fun b H6 => if b = true then te σ3 H6 fun y H7 => ∃ acc, H7 D = some (.lst acc) ∧ acc.length < sizeLine ∧ Nx1 (upd H7 D (.lst (acc ++ [y]))) else Nx1 H6) Pv h0 hG hs hd
/-- the outer one -/
theorem out_it {J : It} {n : Nat} {G : Hp → Prop} {Y : Nat → Hp → V → Hp → Prop} (w : Walk J n G Y) {g : TG} {tt : TT} {wi1 : TI} {g1 : TG} {tt1 : TT} {te : TE} {vs vs1 : List Nat} {σ : L2.St} {H1 : Hp} {D : Addr} {Qd : Hp → Prop} (Pv : Nat → Hp → Prop) (h0 : Pv 0 (upd H1 D (.lst []))) (hG : ∀ i H, i ≤ n → Pv i H → G H)
    (hs : ∀ i x H H', i < n → Pv i H → Y i H x H' → g x (wipe σ vs) H' fun σ2 H2 => wipe σ2 vs = wipe σ vs ∧ tt σ2 H2 fun b H3 =>
      if b = true then wi1 σ2 H3 fun J1 H4 => ∃ W1 : Nat → Nat → Hp → Prop, (∃ m, W1 0 m H4) ∧ ∀ j k H, W1 j k H →
      (J1.stop j H ∧ Pv (i + 1) H) ∨ (J1.go j H ∧ ∃ Nx1 : Hp → Prop, (∀ H', Nx1 H' → ∃ k', k' < k ∧ W1 (j + 1) k' H') ∧ ∀ x H', J1.yld j H x H' → g1 x (wipe σ2 vs1) H' fun σ3 H5 => wipe σ3 vs1 = wipe σ2 vs1 ∧ tt1 σ3 H5 fun b H6 =>
        if b = true then te σ3 H6 fun y H7 => ∃ acc, H7 D = some (.lst acc) ∧ acc.length < sizeLine ∧ Nx1 (upd H7 D (.lst (acc ++ [y]))) else Nx1 H6) else Pv (i + 1) H3) (hd : ∀ H, Pv n H → Qd H) :
    ∃ W : Nat → Nat → Hp → Prop, (∃ m, W 0 m (upd H1 D (.lst []))) ∧ ∀ i m H, W i m H → (J.stop i H ∧ Qd H) ∨ (J.go i H ∧ ∃ Nx : Hp → Prop, (∀ H', Nx H' → ∃ m', m' < m ∧ W (i + 1) m' H') ∧ ∀ x H', J.yld i H x H' → g x (wipe σ vs) H' fun σ2 H2 => wipe σ2 vs = wipe σ vs ∧ tt σ2 H2 fun b H3 =>
      if b = true then wi1 σ2 H3 fun J1 H4 => ∃ W1 : Nat → Nat → Hp → Prop, (∃ m, W1 0 m H4) ∧ ∀ j k H, W1 j k H →
      (J1.stop j H ∧ Nx H) ∨ (J1.go j H ∧ ∃ Nx1 : Hp → Prop, (∀ H', Nx1 H' → ∃ k', k' < k ∧ W1 (j + 1) k' H') ∧ ∀ x H', J1.yld j H x H' → g1 x (wipe σ2 vs1) H' fun σ3 H5 => wipe σ3 vs1 = wipe σ2 vs1 ∧ tt1 σ3 H5 fun b H6 =>
        if b = true then te σ3 H6 fun y H7 => ∃ acc, H7 D = some (.lst acc) ∧ acc.length < sizeLine ∧ Nx1 (upd H7 D (.lst (acc ++ [y]))) else Nx1 H6) else Nx H3) :=
  walk_core w (Body := fun Nx x H' => g x (wipe σ vs) H' fun σ2 H2 => wipe σ2 vs = wipe σ vs ∧ tt σ2 H2 fun b H3 =>
      if b = true then wi1 σ2 H3 fun J1 H4 => ∃ W1 : Nat → Nat → Hp → Prop, (∃ m, W1 0 m H4) ∧ ∀ j k H, W1 j k H →
      (J1.stop j H ∧ Nx H) ∨ (J1.go j H ∧ ∃ Nx1 : Hp → Prop, (∀ H', Nx1 H' → ∃ k', k' < k ∧ W1 (j + 1) k' H') ∧ ∀ x H', J1.yld j H x H' → g1 x (wipe σ2 vs1) H' fun σ3 H5 => wipe σ3 vs1 = wipe σ2 vs1 ∧ tt1 σ3 H5 fun b H6 =>
        if b = true then te σ3 H6 fun y H7 => ∃ acc, H7 D = some (.lst acc) ∧ acc.length < sizeLine ∧ Nx1 (upd H7 D (.lst (acc ++ [y]))) else Nx1 H6) else Nx H3) Pv h0 hG hs hd
end K47
namespace K47
open PySem PySem.Spec PyProof.Rows L2 PySem.W LamX KA KW KU KL KT
open Evl (pss_cut tCut)
/-! ### the law's own mixing -/
theorem erase_map {α β : Type} (f : α → β) : ∀ (l : List α) (d : Nat), (l.map f).eraseIdx d = (l.eraseIdx d).map f
  | [], _ => rfl
  | x :: l, 0 => rfl
  | x :: l, d + 1 => by
    rw [List.map_cons, List.eraseIdx_cons_succ, List.eraseIdx_cons_succ, List.map_cons, erase_map f l d]
theorem erase_perm {α : Type} : ∀ (l : List α) (d : Nat) (y : α), l[d]? = some y → ([y] ++ l.eraseIdx d).Perm l
  | [], _, _, h => by simp at h
  | x :: l, 0, y, h => by
    have : x = y := by simpa using h
    subst this
    exact List.Perm.refl _
  | x :: l, d + 1, y, h => by
    have ih := erase_perm l d y (by simpa using h)
    rw [List.eraseIdx_cons_succ]
    exact (List.Perm.swap x y _).trans (ih.cons x)
section
variable {P : Program} {w : World} {K : PySem.W.Frag} {mg : Str → Option Value} {base : Heap} (T : Top K mg)
def spMixed (K : PySem.W.Frag) : Sp := fun vs H Q _ => ∃ (st lg cl a : Addr) (is : List Int) (m : Nat), vs = [.ref st, .ref a] ∧ SqL K H a (is.map V.int) ∧ is.length ≤ 1000 ∧ m ≤ 900000 ∧ StAt H st lg cl m ∧
  ∀ (p : Addr) (js : List Int) (H' : Hp), js.Perm is → H' p = some (.lst (js.map V.int)) → H p = none → StAt H' st lg cl (m + is.length) → Kp st lg H H' → Q (.ref p) H'
theorem ok_mixed : FnOk P w K mg base (L2.CX P w) 2 T._law_mixed.a T._law_mixed.d ["state", "several"] (spMixed K) := by
  refine T._law_mixed.f.okX sc__law_mixed (fun vs H Q E h => ?_) (fun cdv A outer s H vs Q E hr h => ?_)
  · obtain ⟨st, lg, cl, a, is, m, rfl, _⟩ := h
    rfl
  · obtain ⟨st, lg, cl, a, is, m, rfl, ha, hl, hm, S, k⟩ := h
    refine ⟨_, pss_cons (ps_par (i := 2) (j := 3) rfl sc__law_mixed.nd rfl rfl (by decide) rfl rfl (pa_cons (pe_callTy call_list_of (by rfl) T.b_list (by decide +kernel) (pa_cons (pv 1) pa_nil)) (pa_cons (pe_lst pa_nil) pa_nil)) (by rfl))
      (pss_cons (ps_while (passes_of rfl) (pt_cmpR (op_neD hr.units) (pv 2) (pe_lst pa_nil) (nomark _))
        (pss_one (ps_expr (pe_bm PySem.F.plainAttrs_list PySem.F.slot_list_append PySem.F.type_list_append mt_append (pv 3) (pa_cons (pe_bm PySem.F.plainAttrs_list PySem.F.slot_list_pop PySem.F.type_list_pop mt_popAt (pv 2)
          (pa_cons (pe_call (ok_draw T) hr (by rfl) T._law_draw.m T._law_draw.f.kp (bd__law_draw T) .nil passE (pa_cons (pv 0) (pa_cons (pe_callB call_len_seq (by rfl) T.b_len PySem.boot_len (pa_cons (pv 2) pa_nil)) pa_nil))) pa_nil)) pa_nil)))))
      (pss_one (ps_ret (pv 3)))), ?_⟩
    refine ⟨_, rfl, a, _, rfl, .inl ha, fun q hq => ⟨(by show 0 ≤ sizeLine; decide), fun r hr' => ⟨_, _, rfl, ?_⟩⟩⟩
    have sq := Same.new (o := .lst (is.map V.int)) hq
    have S1 := S.same sq
    have sr := Same.new (o := .lst []) hr'
    have S2 := S1.same sr
    have q1 := (S.off hq).1
    have q2 := (S.off hq).2
    have q3 := offc S hq
    have r1 := (S1.off hr').1
    have r2 := (S1.off hr').2
    have r3 := offc S1 hr'
    have qr : q ≠ r := ne_of_none upd_same hr'
    have hr0 : H r = none := sq.free hr'
    refine ⟨fun μ σ' H1 => σ' = [some (.ref st), some (.ref a), some (.ref q), some (.ref r)] ∧ ∃ (L M : List Int), L.length = μ ∧ (L ++ M).Perm is ∧ H1 q = some (.lst (L.map V.int)) ∧ H1 r = some (.lst (M.map V.int)) ∧ StAt H1 st lg cl (m + M.length) ∧
      Kp st lg H H1, ⟨is.length, rfl, is, [], rfl, by rw [List.append_nil], (upd_ne qr).trans upd_same, upd_same, S2, (Kp.same sq).trans (Kp.same sr)⟩, ?_⟩
    clear S1 S2 sr hr'
    rintro μ σ' H1 ⟨rfl, L, M, rfl, e2, e4, e5, S1, kp⟩
    have e1 : L.length + M.length = is.length := by rw [← e2.length_eq, List.length_append]
    refine ⟨_, rfl, (by show 0 ≤ sizeLine; decide), fun p hp => ?_⟩
    have nq : q ≠ p := ne_of_none e4 hp
    have nr : r ≠ p := ne_of_none e5 hp
    have e4' : (upd H1 p (.lst [])) q = some (.lst (L.map V.int)) := (upd_ne nq).trans e4
    have e5' : (upd H1 p (.lst [])) r = some (.lst (M.map V.int)) := (upd_ne nr).trans e5
    have S2 := S1.same (Same.new (o := .lst []) hp)
    have kp2 := kp.trans (Kp.same (Same.new (o := .lst []) hp))
    refine ⟨_, _, dp_int_list e4', dp_nil upd_same, shaped_is _, shaped_nil, _, rfl, ?_⟩
    rw [eqv_ints_nil]
    generalize upd H1 p (.lst []) = H2 at e4' e5' S2 kp2
    cases L with
    | nil =>
      refine iteF ⟨_, rfl, ?_⟩
      have : M.length = is.length := by simpa using e1
      exact k r M H2 e2 e5' hr0 (this ▸ S2) kp2
    | cons x rest =>
      refine iteT ⟨fun σ' H' => σ' = [some (.ref st), some (.ref a), some (.ref q), some (.ref r)] ∧ ∃ (L' M' : List Int), L'.length = rest.length ∧ (L' ++ M').Perm is ∧ H' q = some (.lst (L'.map V.int)) ∧ H' r = some (.lst (M'.map V.int)) ∧ StAt H' st lg cl (m + M'.length) ∧ Kp st lg H H',
        fun σ' H' ⟨e, L', M', f1, f2⟩ => ⟨rest.length, by simp, e, L', M', f1, f2⟩, ?_⟩
      refine ⟨_, rfl, .inl ⟨rfl, _, SqL.of e5'⟩, _, rfl, .inl ⟨rfl, _, SqL.of e4'⟩, _, rfl, _, rfl, q, _, rfl, .inl (SqL.of e4'), st, lg, cl, ((x :: rest).map V.int).length, m + M.length, rfl, by simp, ?_, ?_, S2, fun d H3 hd S3 kp3 => ?_⟩
      · rw [List.length_map]
        exact Nat.lt_of_le_of_lt (show _ ≤ 1000 from by omega) (by decide)
      · omega
      rw [List.length_map] at hd
      have g4 := kp3 q _ e4' q1 q2
      have g5 := kp3 r _ e5' r1 r2
      obtain ⟨y, hy⟩ : ∃ y, (x :: rest)[d]? = some y := ⟨_, List.getElem?_eq_getElem hd⟩
      have le : d < 1001 := by omega
      refine ⟨q, _, (d : Int), d, .int y, rfl, rfl, g4, by omega, by omega, ?_, by rw [List.getElem?_map, hy]; rfl, ?_⟩
      · have hd2 : d < rest.length + 1 := by simpa using hd
        unfold seqIndex?
        rw [if_neg (show ¬ (d : Int) < 0 by omega), if_pos ?_, Int.toNat_natCast]
        rw [Bool.and_eq_true, decide_eq_true_eq, decide_eq_true_eq, List.length_map, List.length_cons]
        omega
      rw [erase_map]
      have g6 : (upd H3 q (.lst (((x :: rest).eraseIdx d).map V.int))) r = some (.lst (M.map V.int)) := (upd_ne qr.symm).trans g5
      refine ⟨r, _, .int y, rfl, rfl, g6, ?_, rfl, (x :: rest).eraseIdx d, M ++ [y], ?_, ?_, ?_, ?_, ?_, ?_⟩
      · rw [List.length_map]
        exact Nat.lt_of_le_of_lt (show M.length ≤ 1000 by omega) (by decide)
      · rw [List.length_eraseIdx_of_lt hd]
        simp
      · refine List.Perm.trans ?_ e2
        rw [← List.append_assoc]
        refine (List.perm_append_comm (l₂ := [y])).trans ?_
        rw [← List.append_assoc]
        exact (erase_perm _ d y hy).append_right M
      · rw [upd_ne qr, upd_same]
      · rw [upd_same, List.map_append]
        rfl
      · have := stAt_put (ys := (M.map V.int) ++ [.int y]) (stAt_put (ys := ((x :: rest).eraseIdx d).map V.int) S3 q1 q2 q3) r1 r2 r3
        rw [List.length_append]
        exact this
      · exact Kp.put3 (Kp.put3 (kp2.trans kp3) (by first | exact hq)) hr0
end
end K47
namespace K47
open PySem PySem.Spec PyProof.Rows L2 PySem.W LamX KA KW KU KL KT
/-! ### comprehensions: what they leave, said once -/
theorem take_filter_yes {α : Type} {as : List α} {p : α → Bool} {i : Nat} {a : α} (e : as[i]? = some a) (h : p a = true) : (as.take (i + 1)).filter p = (as.take i).filter p ++ [a] := by
  rw [List.take_add_one, e, List.filter_append]
  simp [h]
theorem take_filter_no {α : Type} {as : List α} {p : α → Bool} {i : Nat} {a : α} (e : as[i]? = some a) (h : p a = false) : (as.take (i + 1)).filter p = (as.take i).filter p := by
  rw [List.take_add_one, e, List.filter_append]
  simp [h]
/-- what is left are plain values -/
theorem lcP {J : It} {n : Nat} {G : Hp → Prop} {Yd : Nat → Hp → V → Hp → Prop} (w : Walk J n G Yd) {g : TG} {tt : TT} {te : TE} {vs : List Nat} {σ : L2.St} {H1 : Hp} {D : Addr} {Qd : Hp → Prop} {α : Type} (as : List α) (p : α → Bool) (h : α → V)
    (hn : n = as.length) (hD : H1 D = none) (hG : ∀ H', Same H1 H' → G H') (l : as.length ≤ 100000) (hY : ∀ i H x H', Yd i H x H' → Same H H')
    (hs : ∀ i x a H H' (N : Hp → Prop) (R : VK), as[i]? = some a → Same H1 H → Yd i H x H' → (p a = true → ∀ H4, Same H' H4 → R (h a) H4) → (p a = false → ∀ H4, Same H' H4 → N H4) → g x (wipe σ vs) H' fun σ2 H2 => wipe σ2 vs = wipe σ vs ∧ tt σ2 H2 fun b H3 => if b = true then te σ2 H3 R else N H3)
    (hd : ∀ H', Same H1 H' → H' D = some (.lst ((as.filter p).map h)) → Qd H') :
    ∃ W : Nat → Nat → Hp → Prop, (∃ m, W 0 m (upd H1 D (.lst []))) ∧ ∀ i m H, W i m H →
      (J.stop i H ∧ Qd H) ∨ (J.go i H ∧ ∃ Nx : Hp → Prop, (∀ H', Nx H' → ∃ m', m' < m ∧ W (i + 1) m' H') ∧ ∀ x H', J.yld i H x H' → g x (wipe σ vs) H' fun σ2 H2 => wipe σ2 vs = wipe σ vs ∧ tt σ2 H2 fun b H3 =>
        if b = true then te σ2 H3 fun y H4 => ∃ acc, H4 D = some (.lst acc) ∧ acc.length < sizeLine ∧ Nx (upd H4 D (.lst (acc ++ [y]))) else Nx H3) := by
  subst hn
  refine lc_it w (fun i H => H D = some (.lst (((as.take i).filter p).map h)) ∧ Same H1 H) ⟨upd_same, Same.new hD⟩ (fun i H _ q => hG H q.2) ?_ ?_
  · rintro i x H H' hi ⟨e, s⟩ y
    obtain ⟨a, ha⟩ : ∃ a, as[i]? = some a := ⟨_, List.getElem?_eq_getElem hi⟩
    have s' := hY i H x H' y
    refine hs i x a H H' _ _ ha s y (fun hp H4 s4 => ?_) (fun hp H4 s4 => ?_)
    · refine ⟨_, s4 _ _ (s' _ _ e), ?_, ?_, ?_⟩
      · refine Nat.lt_of_le_of_lt (Nat.le_trans (List.length_map (as := (as.take i).filter p) h ▸ List.length_filter_le p (as.take i)) (Nat.le_trans (by rw [List.length_take]; exact Nat.min_le_right _ _) l)) (by decide)
      · rw [upd_same, take_filter_yes ha hp, List.map_append]
        rfl
      · exact Same.put (s.trans (s'.trans s4)) hD
    · rw [take_filter_no ha hp]
      exact ⟨s4 _ _ (s' _ _ e), s.trans (s'.trans s4)⟩
  · rintro H' ⟨e, s⟩
    rw [List.take_length] at e
    exact hd H' s e
/-- what is left are tuples -/
theorem lcR {J : It} {n : Nat} {G : Hp → Prop} {Yd : Nat → Hp → V → Hp → Prop} (w : Walk J n G Yd) {g : TG} {tt : TT} {te : TE} {vs : List Nat} {σ : L2.St} {H1 : Hp} {D : Addr} {Qd : Hp → Prop} {α β : Type} (f : β → List V) (as : List α) (p : α → Bool) (h : α → β)
    (hn : n = as.length) (hD : H1 D = none) (hG : ∀ H', Same H1 H' → G H') (l : as.length < 100000) (hY : ∀ i H x H', Yd i H x H' → Same H H')
    (hs : ∀ i x a H H' (N : Hp → Prop) (R : VK), as[i]? = some a → Same H1 H → Yd i H x H' → (p a = true → ∀ v H4, Same H' H4 → TupAt H4 v (f (h a)) → R v H4) → (p a = false → ∀ H4, Same H' H4 → N H4) → g x (wipe σ vs) H' fun σ2 H2 => wipe σ2 vs = wipe σ vs ∧ tt σ2 H2 fun b H3 => if b = true then te σ2 H3 R else N H3)
    (hd : ∀ H' ws, Same H1 H' → H' D = some (.lst ws) → RL f H' ws ((as.filter p).map h) → Qd H') :
    ∃ W : Nat → Nat → Hp → Prop, (∃ m, W 0 m (upd H1 D (.lst []))) ∧ ∀ i m H, W i m H →
      (J.stop i H ∧ Qd H) ∨ (J.go i H ∧ ∃ Nx : Hp → Prop, (∀ H', Nx H' → ∃ m', m' < m ∧ W (i + 1) m' H') ∧ ∀ x H', J.yld i H x H' → g x (wipe σ vs) H' fun σ2 H2 => wipe σ2 vs = wipe σ vs ∧ tt σ2 H2 fun b H3 =>
        if b = true then te σ2 H3 fun y H4 => ∃ acc, H4 D = some (.lst acc) ∧ acc.length < sizeLine ∧ Nx (upd H4 D (.lst (acc ++ [y]))) else Nx H3) := by
  subst hn
  refine lc_it w (fun i H => NI f H1 D (((as.take i).filter p).map h) H) (NI.new hD) (fun i H _ q => hG H q.s) ?_ ?_
  · rintro i x H H' hi ni y
    obtain ⟨a, ha⟩ : ∃ a, as[i]? = some a := ⟨_, List.getElem?_eq_getElem hi⟩
    have s' := hY i H x H' y
    refine hs i x a H H' _ _ ha ni.s y (fun hp v H4 s4 tv => ?_) (fun hp H4 s4 => ?_)
    · rw [take_filter_yes ha hp, List.map_append]
      refine (ni.same (s'.trans s4)).push hD ?_ tv
      rw [List.length_map]
      refine Nat.lt_of_le_of_lt (List.length_filter_le p (as.take i)) ?_
      rw [List.length_take]
      omega
    · rw [take_filter_no ha hp]
      exact ni.same (s'.trans s4)
  · rintro H' ⟨ws, e, r, s⟩
    rw [List.take_length] at r
    exact hd H' ws s e r
theorem yAt_same {xs : List V} : ∀ (i : Nat) (H : Hp) (x : V) (H' : Hp), YAt xs i H x H' → Same H H' := fun i H x H' y => by
  obtain ⟨rfl, _⟩ := y
  exact fun _ _ e => e
theorem yFn_same {f : Nat → V} : ∀ (i : Nat) (H : Hp) (x : V) (H' : Hp), YFn f i H x H' → Same H H' := fun i H x H' y => by
  obtain ⟨rfl, _⟩ := y
  exact fun _ _ e => e
theorem yPair_same {f g : Nat → Option V} : ∀ (i : Nat) (H : Hp) (x : V) (H' : Hp), YPair f g i H x H' → Same H H' := fun i H x H' y => by
  obtain ⟨T, x, y, rfl, hT, rfl, h1, h2⟩ := y
  exact Same.new hT
theorem walk_zipT {K : PySem.W.Frag} {a b : Addr} {xs ys : List V} {n : Nat} (hn : n = min xs.length ys.length) : Walk (RZ.ItzT K a b) n (fun H => SqT K H a xs ∧ SqT K H b ys) (YPair (fun i => xs[i]?) (fun i => ys[i]?)) := by
  subst hn
  constructor
  · intro i H lt ⟨sx, sy⟩
    exact ⟨xs, ys, _, _, sx, sy, List.getElem?_eq_getElem (Nat.lt_of_lt_of_le lt (Nat.min_le_left _ _)), List.getElem?_eq_getElem (Nat.lt_of_lt_of_le lt (Nat.min_le_right _ _))⟩
  · exact fun H q => ⟨xs, ys, q.1, q.2, by omega⟩
  · rintro i H v H' _ ⟨sx, sy⟩ ⟨t, x, y, ev, ft, eH, kx, ky⟩
    exact ⟨t, x, y, ev, ft, eH, kx xs sx, ky ys sy⟩
theorem walk_rangeN {n : Nat} : Walk (Itr 0 n) n (fun _ => True) (YFn fun i : Nat => V.int (i : Int)) := by
  have e : (fun i : Nat => V.int (0 + (i : Int))) = fun i : Nat => V.int (i : Int) := funext fun i => by rw [Int.zero_add]
  rw [← e]
  exact walk_range
theorem range_at {n i a : Nat} (h : (List.range n)[i]? = some a) : a = i ∧ i < n := by
  obtain ⟨h1, h2⟩ := List.getElem?_eq_some_iff.mp h
  rw [List.getElem_range] at h2
  rw [List.length_range] at h1
  exact ⟨h2.symm, h1⟩
def rLen (K : PySem.W.Frag) : List V → Hp → VK → Prop := fun xs H Q => ∃ p ys, xs = [.ref p] ∧ (SqL K H p ys ∨ SqT K H p ys) ∧ Q (.int ((ys.length : Nat) : Int)) H
/-! ### natural numbers as values -/
def NV (ns : List Nat) : List V := ns.map fun n : Nat => V.int (n : Int)
theorem NV_len (ns : List Nat) : (NV ns).length = ns.length := List.length_map _
theorem NV_ints (ns : List Nat) : NV ns = (ns.map fun n : Nat => (n : Int)).map V.int := by
  unfold NV
  rw [List.map_map]
  rfl
theorem NV_at {ns : List Nat} {i : Nat} {x : V} (h : (NV ns)[i]? = some x) : ∃ n, ns[i]? = some n ∧ x = .int (n : Int) := by
  unfold NV at h
  rw [List.getElem?_map] at h
  cases e : ns[i]? with
  | none => rw [e] at h; cases h
  | some n => rw [e] at h; exact ⟨n, rfl, (Option.some.inj h).symm⟩
theorem NV_get {ns : List Nat} {i : Nat} {n : Nat} (h : ns[i]? = some n) : (NV ns)[i]? = some (.int (n : Int)) := by
  unfold NV
  rw [List.getElem?_map, h]
  rfl
theorem NV_flat (ns : List Nat) : (NV ns).all flatV = true := by
  rw [List.all_eq_true]
  intro x hx
  obtain ⟨n, _, rfl⟩ := List.mem_map.mp hx
  rfl
theorem inV_NV (n : Nat) (ns : List Nat) : inV (.int (n : Int)) (NV ns) = inB ns n := by
  rw [Bool.eq_iff_iff]
  unfold inV inB NV
  rw [List.any_eq_true, decide_eq_true_eq]
  constructor
  · rintro ⟨x, hx, e⟩
    obtain ⟨m, hm, rfl⟩ := List.mem_map.mp hx
    have e : ((m : Int) == (n : Int)) = true := e
    have : (m : Int) = (n : Int) := eq_of_beq e
    have : m = n := by omega
    exact this ▸ hm
  · intro h
    exact ⟨.int (n : Int), List.mem_map.mpr ⟨n, h, rfl⟩, beq_self_eq_true (n : Int)⟩
/-- a list or a tuple at x of the tuples of these rows -/
def Wv (H : Hp) (x : V) (rows : List (List Nat)) : Prop := ∃ (a : Addr) (vs : List V), x = .ref a ∧ (H a = some (.lst vs) ∨ H a = some (.tup vs)) ∧ RL NV H vs rows
theorem Wv.keep {H H' : Hp} {x : V} {rows : List (List Nat)} (h : Wv H x rows) (s : Same H H') : Wv H' x rows := by
  obtain ⟨a, vs, rfl, e, r⟩ := h
  exact ⟨a, vs, rfl, e.imp (s _ _) (s _ _), r.same s⟩
end K47
namespace K47
open PySem PySem.Spec PyProof.Rows L2 PySem.W LamX KA KW KU KL KT
open Evl (pss_cut tCut)
/-! ### lots and whole sets -/
def spLot : Sp := fun vs H Q _ => ∃ (a : Addr) (ns : List Nat) (n : Nat), vs = [.ref a, .int (n : Int)] ∧ H a = some (.tup (NV ns)) ∧ ns.length ≤ 1000 ∧ ∀ H', Same H H' → Q (.bl (lotB n ns)) H'
def spAreIn (K : PySem.W.Frag) : Sp := fun vs H Q _ => ∃ (a b : Addr) (ns ms : List Nat), vs = [.ref a, .ref b] ∧ H a = some (.tup (NV ns)) ∧ ns.length ≤ 1000 ∧ (H b = some (.lst (NV ms)) ∨ H b = some (.tup (NV ms))) ∧ ∀ H', Same H H' → Q (.bl (ns.all (inB ms))) H'
def spWhole : Sp := fun vs H Q _ => ∃ (x : V) (rows : List (List Nat)) (b : Addr) (s : List Nat), vs = [x, .ref b] ∧ Wv H x rows ∧ rows.length ≤ 1000 ∧ (∀ r ∈ rows, r.length ≤ 1000) ∧ H b = some (.tup (NV s)) ∧ s.length ≤ 1000 ∧ (∀ f ∈ s, f < rows.length) ∧ ∀ H', Same H H' → Q (.bl (lotB rows.length s && wholeB rows s)) H'
theorem within_nat (x n : Nat) : within (.int (x : Int)) 0 ((n : Int) - 1) = decide (x < n) := by
  show (decide ((0 : Int) ≤ x) && decide ((x : Int) ≤ n - 1)) = _
  rw [Bool.eq_iff_iff, Bool.and_eq_true, decide_eq_true_eq, decide_eq_true_eq, decide_eq_true_eq]
  omega
theorem ix_either {K : PySem.W.Frag} {a : Addr} {vs : List V} {H : Hp} {Q : VK} {i : Nat} {v : V} (ha : H a = some (.lst vs) ∨ H a = some (.tup vs)) (h : vs[i]? = some v) (q : Q v H) : rIx K (.ref a) (.int (i : Int)) H Q := by
  rcases ha with ha | ha
  · exact .inl ⟨a, vs, _, v, rfl, rfl, SqL.of ha, atI_nat h, q⟩
  · exact .inr (.inl ⟨a, vs, _, v, rfl, rfl, SqT.of ha, atI_nat h, q⟩)
/-- neighbours rise -/
def pairsUp (ns : List Nat) : List (Nat × Nat) := ns.zip ns.tail
theorem pairsUp_all : ∀ ns : List Nat, (pairsUp ns).all (fun p => decide (p.1 < p.2)) = ascB ns
  | [] => rfl
  | [x] => rfl
  | x :: y :: l => by
    have ih := pairsUp_all (y :: l)
    show (decide (x < y) && (pairsUp (y :: l)).all _) = (decide (x < y) && ascB (y :: l))
    rw [ih]
theorem all_map_bl {α : Type} (as : List α) (p : α → Bool) : (as.map fun a => V.bl (p a)) = (as.map p).map V.bl := by rw [List.map_map]; rfl
theorem all_id {α : Type} (as : List α) (p : α → Bool) : (as.map p).all id = as.all p := by rw [List.all_map]; rfl
theorem filter_yes {α : Type} (as : List α) : as.filter (fun _ => true) = as := List.filter_eq_self.mpr fun _ _ => rfl
theorem sl_tail {K : PySem.W.Frag} {a : Addr} {ns : List Nat} {H : Hp} {Q : VK} (e : H a = some (.tup (NV ns))) (k : ∀ q H', Same H H' → H' q = some (.tup (NV ns.tail)) → Q (.ref q) H') : rSlA K (.ref a) (some 1) none H Q := by
  have c1 : HT.sIx (NV ns).length 0 (some 1) = min 1 ns.length := (HT.sIx_nat _ 0 1).trans (by rw [NV_len])
  refine ⟨a, NV ns, rfl, SqT.of e, fun c => ?_, fun c p hp => ?_⟩
  · have : ns = [] := by
      rw [c1] at c
      exact List.eq_nil_of_length_eq_zero (by omega)
    subst this
    exact k a H (fun _ _ e => e) e
  · have : cutV (NV ns) (some 1) none = NV ns.tail := by
      unfold cutV
      rw [c1, HT.sIx_none, NV_len]
      cases ns with
      | nil => rfl
      | cons x l =>
        rw [show min 1 (x :: l).length = 1 by rw [List.length_cons]; omega, List.take_of_length_le (by rw [List.length_drop, NV_len]; exact Nat.le_refl _)]
        rfl
    rw [this]
    exact k p _ (Same.new hp) upd_same
section
variable {P : Program} {w : World} {K : PySem.W.Frag} {mg : Str → Option Value} {base : Heap} (T : Top K mg)
theorem ok_is_lot : FnOk P w K mg base (L2.CX P w) 3 T.is_lot.a T.is_lot.d ["thing", "many"] spLot := by
  refine T.is_lot.f.okX sc_is_lot (fun vs H Q E h => ?_) (fun cdv A outer s H vs Q E hr h => ?_)
  · obtain ⟨a, ns, n, rfl, _⟩ := h
    rfl
  · obtain ⟨a, ns, n, rfl, ha, hl, k⟩ := h
    refine ⟨_, pss_cons (ps_if (PW.pt (pw_or (pt_not (pt_val (pe_callB call_isi (by rfl) T.b_isinstance PyProof.Rows.boot_isinstance (pa_cons (pv 0) (pa_cons (pe_bltn (v := .ty "tuple") (by rfl) T.b_tuple (by decide +kernel) rfl) pa_nil)))))
        (pw_or1 (pt_not (pt_val (pe_callB (cr_all rfl) (by rfl) T.b_all (by decide +kernel) (pa_cons (pe_lc (own := [("number", 4)]) (g := gName 4) (tt := tYes) rfl sc_is_lot.nd (pi_tup (pv 0)) (blkOk_by (own := [("number", 4)]) (N := ["thing", "many", "one", "other", "number"]) (sc := defScope s_is_lot) (by decide +kernel))
          (fun _ _ _ _ _ => pg_name (i := 4) sc_is_lot.nd rfl (Or.inl rfl)) (fun _ _ _ _ _ => pts_nil) (fun _ _ _ _ _ => pe_call (ok_is_within T) hr (by rfl) T.is_within.m T.is_within.f.kp (bd_is_within T) .nil passE (pa_cons (pv 4) (pa_cons pe_int (pa_cons (pe_op op_sub (pv 1) pe_int) pa_nil))))) pa_nil)))))))
        (pss_one (ps_ret pe_bl)) pss_nil)
      (pss_one (ps_ret (pe_callB (cr_all rfl) (by rfl) T.b_all (by decide +kernel) (pa_cons (pe_lc (own := [("one", 2), ("other", 3)]) (g := gTup K 2 (gCons (gName 2) (gCons (gName 3) gNil))) (tt := tYes) rfl sc_is_lot.nd (RZ.pi_zipA (by rfl) T.b_zip (pa_cons (pv 0) (pa_cons (pe_slice sl_tupA (pv 0) (po_some pe_int) po_none) pa_nil)))
          (blkOk_by (own := [("one", 2), ("other", 3)]) (N := ["thing", "many", "one", "other", "number"]) (sc := defScope s_is_lot) (by decide +kernel))
          (fun _ _ _ _ _ => pg_tup rfl (pgs_cons (pg_name (i := 2) sc_is_lot.nd rfl (Or.inl rfl)) (pgs_cons (pg_name (i := 3) sc_is_lot.nd rfl (Or.inl rfl)) pgs_nil))) (fun _ _ _ _ _ => pts_nil) (fun _ _ _ _ _ => pe_cmpR op_lt (pv 2) (pv 3) (nomark _))) pa_nil)))), ?_⟩
    refine ⟨_, rfl, _, _, _, _, true, rfl, .ty "tuple", .base (.tup ha), kit_ty (by decide +kernel), _, rfl, iteF ⟨_, rfl, a, rfl, ⟨_, SqT.of ha⟩, fun D hD => ?_⟩⟩
    refine lcP (walk_tup (K := K) (a := a) (xs := NV ns)) ns (fun _ => true) (fun x => V.bl (decide (x < n))) (NV_len ns) hD (fun H' s' => SqT.of (s' _ _ ha)) (Nat.le_trans hl (by decide)) yAt_same ?_ ?_
    · rintro i x m H1 H2 N R hm s1 ⟨rfl, hx⟩ hy hn
      rw [NV_get hm] at hx
      cases hx
      refine ⟨rfl, ?_⟩
      dsimp only [tYes]
      rw [if_pos rfl]
      refine ⟨_, rfl, _, rfl, _, _, rfl, rfl, _, true, _, _, rfl, .int _, ?_⟩
      rw [within_nat]
      exact hy rfl _ fun _ _ e => e
    · intro H1 s1 e1
      rw [filter_yes, all_map_bl] at e1
      refine ⟨D, _, rfl, SqL.of e1, ?_⟩
      rw [all_id]
      cases hc : ns.all fun x => decide (x < n) with
      | false => exact ⟨_, rfl, iteT (q_bl (k H1 s1) (by unfold lotB; rw [hc]; rfl))⟩
      | true =>
        have e0 : lotB n ns = ascB ns := by unfold lotB; rw [hc]; rfl
        rw [e0] at k
        refine ⟨_, rfl, iteF ?_⟩
        have ha1 := s1 _ _ ha
        refine ⟨_, rfl, _, rfl, _, rfl, ?_⟩
        dsimp only [tNoPart]
        refine sl_tail (K := K) ha1 fun q H2 s2 e2 => ?_
        have ha2 := s2 _ _ ha1
        refine ⟨a, q, NV ns, NV ns.tail, rfl, .inr ⟨SqT.of ha2, SqT.of e2, fun D2 hD2 => ?_⟩⟩
        refine lcP (walk_zipT (K := K) (a := a) (b := q) (xs := NV ns) (ys := NV ns.tail) rfl) (pairsUp ns) (fun _ => true) (fun p => V.bl (decide (p.1 < p.2))) (by rw [NV_len, NV_len]; unfold pairsUp; rw [List.length_zip]) hD2 (fun H' s' => ⟨SqT.of (s' _ _ ha2), SqT.of (s' _ _ e2)⟩) (by unfold pairsUp; rw [List.length_zip]; omega) yPair_same ?_ ?_
        · rintro i x ⟨m1, m2⟩ H3 H4 N R hm s3 ⟨T', x1, y1, rfl, hT, rfl, h1, h2⟩ hy hn
          obtain ⟨n1, p1, rfl⟩ := NV_at h1
          obtain ⟨n2, p2, rfl⟩ := NV_at h2
          have hm' : (pairsUp ns)[i]? = some (n1, n2) := List.getElem?_zip_eq_some.mpr ⟨p1, p2⟩
          rw [hm] at hm'
          cases hm'
          refine ⟨T', _, rfl, SqT.of upd_same, rfl, _, _, rfl, _, _, rfl, rfl, rfl, ?_⟩
          dsimp only [tYes]
          rw [if_pos rfl]
          refine ⟨_, rfl, _, rfl, _, _, rfl, rfl, ?_⟩
          show R (.bl (decide ((m1 : Int) < (m2 : Int)))) _
          rw [show decide ((m1 : Int) < (m2 : Int)) = decide (m1 < m2) from decide_eq_decide.mpr (by omega)]
          exact hy rfl _ fun _ _ e => e
        · intro H3 s3 e3
          rw [filter_yes, all_map_bl] at e3
          refine ⟨D2, _, rfl, SqL.of e3, ?_⟩
          rw [all_id, pairsUp_all]
          exact k H3 (s1.trans (s2.trans s3))
theorem ok_are_in : FnOk P w K mg base (L2.CX P w) 1 T.are_in.a T.are_in.d ["frames", "others"] (spAreIn K) := by
  refine T.are_in.f.okX sc_are_in (fun vs H Q E h => ?_) (fun cdv A outer s H vs Q E hr h => ?_)
  · obtain ⟨a, b, ns, ms, rfl, _⟩ := h
    rfl
  · obtain ⟨a, b, ns, ms, rfl, ha, hl, hb, k⟩ := h
    refine ⟨_, pss_one (ps_ret (pe_callB (cr_all rfl) (by rfl) T.b_all (by decide +kernel) (pa_cons (pe_lc (own := [("frame", 2)]) (g := gName 2) (tt := tYes) rfl sc_are_in.nd (pi_tup (pv 0)) (blkOk_by (own := [("frame", 2)]) (N := ["frames", "others", "frame"]) (sc := defScope s_are_in) (by decide +kernel))
          (fun _ _ _ _ _ => pg_name (i := 2) sc_are_in.nd rfl (Or.inl rfl)) (fun _ _ _ _ _ => pts_nil) (fun _ _ _ _ _ => pe_cmpR (show OpR _ _ (rIn K false) from op_in_seq) (pv 2) (pv 1) (by rfl))) pa_nil))), ?_⟩
    refine ⟨_, rfl, a, rfl, ⟨_, SqT.of ha⟩, fun D hD => ?_⟩
    refine lcP (walk_tup (K := K) (a := a) (xs := NV ns)) ns (fun _ => true) (fun x => V.bl (inB ms x)) (NV_len ns) hD (fun H' s' => SqT.of (s' _ _ ha)) (Nat.le_trans hl (by decide)) yAt_same ?_ ?_
    · rintro i x m H1 H2 N R hm s1 ⟨rfl, hx⟩ hy hn
      rw [NV_get hm] at hx
      cases hx
      refine ⟨rfl, ?_⟩
      dsimp only [tYes]
      rw [if_pos rfl]
      refine ⟨_, rfl, _, rfl, b, _, rfl, hb.imp (fun e => SqL.of (s1 _ _ e)) (fun e => SqT.of (s1 _ _ e)), rfl, NV_flat ms, ?_⟩
      rw [if_neg Bool.false_ne_true, inV_NV]
      exact hy rfl _ fun _ _ e => e
    · intro H1 s1 e1
      rw [filter_yes, all_map_bl] at e1
      refine ⟨D, _, rfl, SqL.of e1, ?_⟩
      rw [all_id]
      exact k H1 s1
theorem ok_is_whole : FnOk P w K mg base (L2.CX P w) 4 T.is_whole.a T.is_whole.d ["web", "thing"] spWhole := by
  refine T.is_whole.f.okX sc_is_whole (fun vs H Q E h => ?_) (fun cdv A outer s H vs Q E hr h => ?_)
  · obtain ⟨x, rows, b, s, rfl, _⟩ := h
    rfl
  · obtain ⟨x, rows, b, s, rfl, hw, hl, hrl, hb, hs, hlt, k⟩ := h
    refine ⟨_, pss_one (ps_ret (pe_and (pe_call (ok_is_lot T) hr (by rfl) T.is_lot.m T.is_lot.f.kp (bd_is_lot T) .nil passE (pa_cons (pv 1) (pa_cons (pe_callB call_len_seq (by rfl) T.b_len PySem.boot_len (pa_cons (pv 0) pa_nil)) pa_nil)))
      (pe_one (pe_callB (cr_all rfl) (by rfl) T.b_all (by decide +kernel) (pa_cons (pe_lc (own := [("frame", 2)]) (g := gName 2) (tt := tYes) rfl sc_is_whole.nd (pi_tup (pv 1)) (blkOk_by (own := [("frame", 2)]) (N := ["web", "thing", "frame"]) (sc := defScope s_is_whole) (by decide +kernel))
          (fun _ _ _ _ _ => pg_name (i := 2) sc_is_whole.nd rfl (Or.inl rfl)) (fun _ _ _ _ _ => pts_nil) (fun _ _ _ _ _ => pe_call (ok_are_in T) (hr.mono (by decide)) (by rfl) T.are_in.m T.are_in.f.kp (bd_are_in T) .nil passE (pa_cons (pe_ix (show IxR _ (rIx K) from ix_seq) (pv 0) (pv 2) (fun _ _ => rfl)) (pa_cons (pv 1) pa_nil)))) pa_nil))))), ?_⟩
    obtain ⟨a, ws, rfl, ha, rl⟩ := id hw
    have hlen : ws.length = rows.length := rl.1
    refine ⟨_, rfl, _, rfl, a, ws, rfl, ha.imp SqL.of SqT.of, b, s, rows.length, by rw [hlen]; rfl, hb, hs, fun H1 s1 => ⟨_, rfl, ?_⟩⟩
    cases hc : lotB rows.length s with
    | false => exact iteF (q_bl (k H1 s1) (by rw [hc]; rfl))
    | true =>
      have hb1 := s1 _ _ hb
      refine iteT ⟨_, rfl, b, rfl, ⟨_, SqT.of hb1⟩, fun D hD => ?_⟩
      refine lcP (walk_tup (K := K) (a := b) (xs := NV s)) s (fun _ => true) (fun f => V.bl ((row rows f).all (inB s))) (NV_len s) hD (fun H' s' => SqT.of (s' _ _ hb1)) (Nat.le_trans hs (by decide)) yAt_same ?_ ?_
      · rintro i x m H2 H3 N R hm s2 ⟨rfl, hx⟩ hy hn
        rw [NV_get hm] at hx
        cases hx
        refine ⟨rfl, ?_⟩
        dsimp only [tYes]
        rw [if_pos rfl]
        have hml := hlt m (List.mem_of_getElem? hm)
        have er : rows[m]? = some (row rows m) := by
          unfold row
          rw [List.getD_eq_getElem?_getD, List.getElem?_eq_getElem hml]
          rfl
        obtain ⟨p, ep, hp⟩ := (rl.same (s1.trans s2)).at_ er
        have s12 := s1.trans s2
        refine ⟨_, rfl, _, rfl, ix_either (K := K) (ha.imp (s12 _ _) (s12 _ _)) ep ⟨_, rfl, p, b, row rows m, s, rfl, hp, hrl _ (List.mem_of_getElem? er), .inr (s2 _ _ hb1), fun H4 s4 => hy rfl H4 s4⟩⟩
      · intro H2 s2 e2
        rw [filter_yes, all_map_bl] at e2
        refine ⟨D, _, rfl, SqL.of e2, ?_⟩
        rw [all_id]
        exact q_bl (k H2 (s1.trans s2)) (by rw [hc]; rfl)
end
end K47
namespace KU
open PySem PySem.W PySem.Calls PyProof.Rows PySem.HandSPX
/-! ### an own error of a value of the heap: what it says of it, whatever is being shown -/
abbrev TextAt (P : Program) (w : World) (fI cda cc : Addr) (qual f : Str) (e : Expr) (u0 : Nat) (h0 : Heap) (v : Value) : Prop :=
  ∀ (A' : Around) (E : Value → Shared → Prop) (s' : Shared) (L : Addr) (m : Str → Option Value) (Q : Value → Shared → Prop), A'.units ≤ u0 + 12 → (∀ b o, h0.get? b = some o → s'.heap.get? b = some o) → s'.heap.Ns L m → m f = some v →
    (∀ (z : Str) (t : Tok) (h' : Heap) (t' : Tok), (∀ b o, s'.heap.get? b = some o → h'.get? b = some o) → Q (.str z t) { s' with heap := h', toks := t' }) → wpAny (model P w) A' (eval e (ksEnv qual (upScope f) L fI (.ref cda) cc)) Q E s'
theorem Text.at_ {P : Program} {w : World} {fI cda cc : Addr} {qual f : Str} {e : Expr} {v : Value} (t : Text P w fI cda cc qual f e v) (u0 : Nat) (h0 : Heap) : TextAt P w fI cda cc qual f e u0 h0 v := fun A' E s' L m Q _ _ hn hm k => t A' E s' L m Q hn hm fun z t t' => k z t s'.heap t' fun _ _ e => e
/-- f'z{f}': a short text, the heap may grow -/
theorem textAt_of {P : Program} {w : World} {fI cda cc : Addr} {qual f z : Str} {j : Nat} {pc pn pf pj : Pos} {v : Value} {u0 : Nat} {h0 : Heap} (hd : f ≠ "__debug__")
    (fld : ∀ (A' : Around) (E : Value → Shared → Prop) (s' : Shared) (Q : Value → Shared → Prop), A'.units ≤ u0 + 12 → (∀ b o, h0.get? b = some o → s'.heap.get? b = some o) → (∀ (y : Str) (t : Tok) (h' : Heap) (t' : Tok), y.length ≤ 1000 → (∀ b o, s'.heap.get? b = some o → h'.get? b = some o) → Q (.str y t) { s' with heap := h', toks := t' }) → wpAny (model P w) A' (formatField v Str.empty) Q E s')
    (h1 : z.length ≤ 1000) : TextAt P w fI cda cc qual f (.JoinedStr [.Constant (.str z) j pc, .FormattedValue (.Name f pn) (-1) none pf] pj) u0 h0 v := by
  intro A' E s' L m Q hu hk hn hm k
  refine wpAny_JoinedStr ?_
  have e0 : ∀ env : Env, evalEach [.Constant (.str z) j pc, .FormattedValue (.Name f pn) (-1) none pf] env = [eval (.Constant (.str z) j pc) env, eval (.FormattedValue (.Name f pn) (-1) none pf) env] := fun _ => by first | rfl | simp [evalEach]
  rw [e0]
  have e1 : Str.empty ++ z = z := by
    show (⟨#[] ++ z.cps⟩ : Str) = z
    rw [Array.empty_append]
  have line : 2000 ≤ sizeLine := by decide
  refine Calls.Constant_str ⟨z, _, rfl, by rw [e1]; omega, ?_⟩
  rw [e1]
  refine wpAny_FormattedValue_plain (wpAny_Name (wpAny_loadName_local rfl (show (ksEnv qual (upScope f) L fI (.ref cda) cc).kindOf f = some .local from kind_f) hn hm ?_) (beq_false_of_ne hd))
  refine fld _ _ _ _ hu hk fun y t h' t' hy kp => ?_
  have h2 : (z ++ y).length ≤ sizeLine := by
    have e : (z ++ y).length = z.length + y.length := Array.size_append
    rw [e]
    omega
  exact ⟨y, t, rfl, h2, h2, k _ _ _ _ kp⟩
section
variable {prog : Program} {w : World} {A : Around} {E : Value → Shared → Prop} {s : Shared}
/-- list.__repr__, whatever is under way -/
theorem list_head_any {M : Model} {Q : Fin → Shared → Prop} {a : Addr} {o : Obj} {x : Value} {l : List Value} {n b : Nat} (hget : s.heap.get? a = some o) (hd : o.data = .seq (x :: l).toArray n)
    (h0 : Q (.done (.ret (.str "[...]" s.toks))) { s with toks := s.toks + 1 })
    (h : wpAny M A (do again (.builtin "list.__repr__.loop" ⟨[.ref a, rawInt 0, ← newList [], rawInt b], []⟩)) Q E s) : wpAny M A (Builtin.listReprAt b ⟨[.ref a], []⟩) Q E s := by
  intro Γ p hΓ
  have h1 := h Γ p hΓ
  unfold Builtin.listReprAt
  simp [slotArgs, Builtin.List.listItems, seqItems?, Sem.wp_load_of (h := hget), hd, stack]
  show Sem.wp M Γ (if (Γ.below.any _) = true then _ else _) _ _ p s
  split
  · simp [rule, retStr, ret]
    exact h0
  · exact h1
theorem list_repr_any {Q : Value → Shared → Prop} {a : Addr} {o : Obj} {x : Value} {l : List Value} {n : Nat} {ts : List Str} (ha : s.heap.get? a = some o) (hc : o.cls = .type "list") (hd : o.data = .seq (x :: l).toArray n) (hlen : ts.length = (x :: l).toArray.size)
    (hT : ∀ (i : Nat) (y : Value), (x :: l).toArray[i]? = some y → ∃ t, ts[i]? = some t ∧ ReprIs prog w y t) (hsz : (listText ts).length ≤ 900)
    (h : ∀ (m : Str) (u : Tok) (h' : Heap) (tk : Nat), m.length ≤ 1000 → (∀ b o, s.heap.get? b = some o → h'.get? b = some o) → Q (.str m u) { s with heap := h', toks := tk }) : wpAny (model prog w) A (call (.builtin "list.__repr__") [.ref a]) Q E s := by
  have line : 2000 ≤ sizeLine := by decide
  refine wpAny_call (codeAny_call_builtin F.slot_list_repr.plain F.entry_list_repr (F.slot_list_repr.check _ _ _ _ _ _ _ _ ⟨o, ha, hc⟩ (F.args_list_repr_1 _) (list_head_any (A := A.in1) (b := 0) ha hd ?_ ?_)))
  · exact h "[...]" _ s.heap _ (by decide +kernel) fun _ _ e => e
  · refine wpAny_bind (m := newList []) (wpAny_newObj_type ?_)
    refine wpAny_pure ⟨F.quiet_list_repr_loop _, ?_⟩
    refine codeAny_list_repr_start (P := s.heap.objs.size) (Nat.ne_of_lt (Heap.lt_size ha)) hlen hT (Heap.get?_push_of_some _ ha) hd (Heap.get?_push_size _ rfl) (fun h' u tk hk => ?_) (by omega)
    exact h _ u h' tk (by omega) fun b o e => hk b o (Nat.ne_of_lt (Heap.lt_size e)) (Heap.get?_push_of_some _ e)
/-- dict.__repr__ of an empty dict, whatever is under way -/
theorem dict_repr_any {Q : Value → Shared → Prop} {a : Addr} {o : Obj} {n : Nat} (ha : s.heap.get? a = some o) (hc : o.cls = .type "dict") (hd : o.data = .dict #[] n) (hsys : (a == sysModules) = false)
    (h : ∀ (m : Str) (u tk : Tok), m.length ≤ 1000 → Q (.str m u) { s with toks := tk }) : wpAny (model prog w) A (call (.builtin "dict.__repr__") [.ref a]) Q E s := by
  have hTy : s.TypeIs (.ref a) "dict" := ⟨o, ha, hc⟩
  have line : 2000 ≤ sizeLine := by decide
  refine wpAny_call (codeAny_call_builtin_own (Code.quiet_builtin _ (by decide +kernel)) F.entry_dict_repr (F.slot_dict_repr.check _ _ _ _ _ _ _ _ ⟨o, ha, hc⟩ (F.args_dict_repr_1 _) (wpOwn_of_wpAny ?_)))
  show wpAny _ _ (Builtin.dictReprAt 0 ⟨[.ref a], []⟩) _ _ s
  unfold Builtin.dictReprAt
  refine wpAny_bind ?_
  unfold Builtin.Dict.dictSlotNone
  refine wpAny_bind (wpAny_notOrdered_dict hTy ?_)
  show wpAny _ _ (pure (Value.ref a)) _ _ s
  refine wpAny_pure ?_
  rw [dictReprRunning_eq]
  refine wpAny_bind (wpAny_bind (wpAny_stack_any fun st => wpAny_pure ?_))
  generalize (st.tail.any (dictGuardF (.ref a))) = b
  cases b with
  | true =>
    refine PySem.W.KFB.if_so rfl ?_
    refine wpAny_bind (wpAny_rule ?_)
    refine wpAny_bind (wpAny_mkStr (wpAny_pure ?_) (by decide +kernel))
    exact h "{...}" _ _ (by decide +kernel)
  | false =>
    refine PySem.W.KFB.if_not rfl ?_
    show wpAny _ _ (Builtin.Dict.addrOf (.ref a) >>= _) _ _ s
    refine wpAny_bind (wpAny_pure ?_)
    show wpAny _ _ (Builtin.Dict.showsAll a >>= _) _ _ s
    unfold Builtin.Dict.showsAll
    rw [if_neg (by rw [hsys]; exact Bool.false_ne_true)]
    refine wpAny_bind (wpAny_pure ?_)
    refine wpAny_bind (wpAny_dictEpoch ha hd ?_)
    refine wpAny_bind (wpAny_dictEntries ha hd ?_)
    refine wpAny_bind ?_
    rw [Std.Legacy.Range.forIn_eq_forIn_range']
    refine wpAny_pure ?_
    refine wpAny_bind (wpAny_mkStr (wpAny_pure ?_) (by decide +kernel))
    exact h "{}" _ _ (by decide +kernel)
/-! ### in an f-string -/
theorem field_list {Q : Value → Shared → Prop} {a : Addr} {o : Obj} {x : Value} {l : List Value} {n : Nat} {ts : List Str} (hu : A.units + 2 < cLine) (ha : s.heap.get? a = some o) (hc : o.cls = .type "list") (hd : o.data = .seq (x :: l).toArray n) (hlen : ts.length = (x :: l).toArray.size)
    (hT : ∀ (i : Nat) (y : Value), (x :: l).toArray[i]? = some y → ∃ t, ts[i]? = some t ∧ ReprIs prog w y t) (hsz : (listText ts).length ≤ 900)
    (h : ∀ (m : Str) (u : Tok) (h' : Heap) (tk : Nat), m.length ≤ 1000 → (∀ b o, s.heap.get? b = some o → h'.get? b = some o) → Q (.str m u) { s with heap := h', toks := tk }) : wpAny (model prog w) A (formatField (.ref a) Str.empty) Q E s :=
  wpAny_formatField_slot (fun _ _ => nofun) hu ⟨o, ha, hc⟩ F.slot_list_format F.slot_list_str F.slot_list_repr.toG
    (list_repr_any (s := { s with toks := s.toks + 1 }) ha hc hd hlen hT hsz fun m u h' tk hm kp => ⟨m, u, rfl, h m u h' tk hm kp⟩)
theorem field_dict {Q : Value → Shared → Prop} {a : Addr} {o : Obj} {n : Nat} (hu : A.units + 2 < cLine) (ha : s.heap.get? a = some o) (hc : o.cls = .type "dict") (hd : o.data = .dict #[] n) (hsys : (a == sysModules) = false)
    (h : ∀ (m : Str) (u tk : Tok), m.length ≤ 1000 → Q (.str m u) { s with toks := tk }) : wpAny (model prog w) A (formatField (.ref a) Str.empty) Q E s :=
  wpAny_formatField_slot (fun _ _ => nofun) hu ⟨o, ha, hc⟩ F.slot_dict_format F.slot_dict_str F.slot_dict_repr
    (dict_repr_any (s := { s with toks := s.toks + 1 }) ha hc hd hsys fun m u tk hm => ⟨m, u, rfl, h m u tk hm⟩)
theorem field_tuple {Q : Value → Shared → Prop} {a : Addr} {o : Obj} {items : Array Value} {n : Nat} {ts : List Str} (hu : A.units + 2 < cLine) (ha : s.heap.get? a = some o) (hc : o.cls = .type "tuple") (hd : o.data = .seq items n) (hT : ReprAll prog w items.toList ts) (hsz : (tupleText ts).length ≤ 900)
    (h : ∀ (m : Str) (u tk : Tok), m.length ≤ 1000 → Q (.str m u) { s with toks := tk }) : wpAny (model prog w) A (formatField (.ref a) Str.empty) Q E s := by
  have line : 2000 ≤ sizeLine := by decide
  exact fmt_tuple hu ha hc hd hT (by omega) fun m u tk hm => h m u tk (by omega)
end
end KU
namespace KU
open PySem PySem.Spec PyProof.Rows L2
section
variable {X : Cx} {C fI cda cc : Addr} {qual f x : Str} {e : Expr}
/-- x(a), x the class's name, of any value that can be told -/
def tMkUpH (P : Program) (w : World) (T : Heap → Value → Prop) (C : Addr) (f : Str) (ta : TA) : L2.St → Hp → XK → Prop := fun σ H Q => ta σ H fun vs H1 => ∃ v, vs = [v] ∧ (∀ (h0 : Heap) v', HOk P w H1 h0 → RelV v v' → T h0 v') ∧ ∀ d, H1 d = none → Q (.ref C) (some d) (upd H1 d (.xd [(f, v)]))
theorem pmk_upH {a : Expr} {ta : TA} {p pos : Pos} {k : Nat} (T : UpTxt X.prog X.K C fI cda cc qual f e) (gC : X.mg x = some (.ref C)) (hr : Room k X.A) (ha : PA X [a] ta) (hg : Gl X x) (hdb : (x == ("__debug__" : Str)) = false := by decide)
    (he : starEach (a :: []) X.env = (false, eval a X.env) :: starEach [] X.env := by rfl) (hpl : (backTo pos (starEach [] X.env)).any (·.1) = false := by rfl) :
    PMk X (.Call (.Name x p) [a] [] pos) (tMkUpH X.prog X.w (fun h0 v => ∀ u0, u0 + 14 < cLine → TextAt X.prog X.w fI cda cc qual f e u0 h0 v) C f ta) := by
  intro pins s σ H Q I h
  refine wpAny_Call_Name_kw (ld_glob I hg gC ?_ hdb)
  refine PySem.W.callWith_K (h₀ := X.base) I.ok.mod.kin T.kC (thn (ha.run pos pins s σ H _ I h) fun us s1 hh => ?_) he hpl
  obtain ⟨vs, H1, I1, r1, v, rfl, ht, q1⟩ := hh
  refine ⟨I1.kIn, ?_⟩
  cases r1 with
  | cons rv rn =>
    rename_i v' us'
    cases rn
    show wpAny _ _ (call (.ref C) [v']) _ _ _
    obtain ⟨mb, b1, b2⟩ := I1.mod.blt
    have lim := I1.nolimit
    have glob := I1.mod.glob.keeps I1.bk
    have blt := b1.keeps I1.bk
    have dp := hr.dp
    have un := hr.un
    have hok := I1.hok
    obtain ⟨hp, g, dr, tk, os⟩ := s1
    refine wpAny_call (up_made T I1.kIn lim glob blt b2 (by omega) (ht _ v' hok rv X.A.units (by omega)) fun h' tk' a' d M => ?_)
    show MkP X pins σ Q (.ref a') ⟨h', g, dr, tk', os⟩
    obtain ⟨oe, fv, hoe, hc, hd, hdat, one⟩ := M.obj
    obtain ⟨G, in_, out⟩ := restrict h' fun b => decide (b ≠ a')
    have same : ∀ b, b ≠ a' → G.get? b = h'.get? b := fun b hb => in_ b (decide_eq_true hb)
    have gone : G.get? a' = none := out a' (by simp)
    have stay : ∀ b o, hp.get? b = some o → G.get? b = some o := fun b o z => (same b (Nat.ne_of_lt (Nat.lt_of_lt_of_le (Heap.lt_size z) M.new))).trans (M.keep b o z)
    have own : ObjOk X.prog X.w (upd H1 d (.xd [(f, v)])) G d (.xd [(f, v)]) := ⟨_, M.ns.at (fun o z => (same d M.ne).trans z), fun y => relO_up rv y⟩
    have J : Inv X pins σ (upd H1 d (.xd [(f, v)])) ⟨G, g, dr, tk', os⟩ := I1.laid (t' := tk') stay M.big own
    refine ⟨a', oe, fv, ⟨G, g, dr, tk', os⟩, _, .ref C, some d, rfl, J, fun b o z => ?_, gone, hoe, ⟨hc, hd⟩, hdat, one, ?_, rfl, I1.bare, raises_own T.exC T.tyC, q1 d (I1.hok.fresh M.big)⟩
    · have hb : b ≠ a' := fun y => by
        rw [y] at z
        exact absurd (gone.symm.trans z) (by simp)
      exact (same b hb).symm.trans z
    · rw [upd_ne (Ne.symm M.ne)]
      exact I1.hok.fresh M.new
/-- raise x(a) -/
theorem ps_raiseUpH {a : Expr} {ta : TA} {W : WX} {p pos pos2 : Pos} {k : Nat} (hc : X.calm = true) (T : UpTxt X.prog X.K C fI cda cc qual f e) (gC : X.mg x = some (.ref C)) (hr : Room k X.A) (tk : Takes X W) (ha : PA X [a] ta) (hg : Gl X x) (hdb : (x == ("__debug__" : Str)) = false := by decide)
    (he : starEach (a :: []) X.env = (false, eval a X.env) :: starEach [] X.env := by rfl) (hpl : (backTo pos (starEach [] X.env)).any (·.1) = false := by rfl) :
    PS X (.Raise (some (.Call (.Name x p) [a] [] pos)) none pos2) (fun _ σ H => tMkUpH X.prog X.w (fun h0 v => ∀ u0, u0 + 14 < cLine → TextAt X.prog X.w fI cda cc qual f e u0 h0 v) C f ta σ H fun cls d H' => W cls d σ H') := ps_raise hc tk (pmk_upH T gC hr ha hg hdb he hpl)
/-- a value of some kind that an error may tell of -/
inductive Sy (H : Hp) : V → Prop where
  | non : Sy H .non
  | zero : Sy H (.int 0)
  | str (y : Str) (h : y.length ≤ 100) : Sy H (.str y)
  | tup {a : Addr} {y : Str} (e : H a = some (.tup [.str y])) (h : (tupleText [reprText y]).length ≤ 900) : Sy H (.ref a)
  | lst {a : Addr} {y : Str} (e : H a = some (.lst [.str y])) (h : (listText [reprText y]).length ≤ 900) : Sy H (.ref a)
  | dK {a : Addr} (e : H a = some (.dK [])) : Sy H (.ref a)
theorem Sy.text {P : Program} {w : World} {H : Hp} {v : V} (s : Sy H v) {fI cda cc : Addr} {qual f z : Str} {j : Nat} {pc pn pf pj : Pos} (hd : f ≠ "__debug__") (h1 : z.length ≤ 1000) {h0 : Heap} {v' : Value} (ok : HOk P w H h0) (r : RelV v v') (u0 : Nat) (hu : u0 + 14 < cLine) :
    TextAt P w fI cda cc qual f (.JoinedStr [.Constant (.str z) j pc, .FormattedValue (.Name f pn) (-1) none pf] pj) u0 h0 v' := by
  have line : 2000 ≤ sizeLine := by decide
  cases s with
  | non =>
    obtain rfl : v' = Value.none := r
    exact textAt_of hd (fun A' E s' Q _ _ k => wpAny_formatField_none (k "None" _ s'.heap _ (by decide +kernel) fun _ _ e => e)) h1
  | zero =>
    obtain ⟨t, rfl⟩ := r
    exact textAt_of hd (fun A' E s' Q _ _ k => wpAny_formatField_int (by decide) (k _ _ s'.heap _ (by decide +kernel) fun _ _ e => e)) h1
  | str y h =>
    obtain ⟨t, rfl⟩ := r
    exact textAt_of hd (fun A' E s' Q _ _ k => wpAny_formatField_str (k _ _ s'.heap s'.toks (by omega) fun _ _ e => e) (k _ _ s'.heap _ (by omega) fun _ _ e => e) (by omega)) h1
  | tup e h =>
    obtain rfl : v' = Value.ref _ := r
    obtain ⟨_, its, rv, o, ho, hc, n, hdd⟩ := ok _ _ e
    obtain ⟨u, rfl, ru⟩ := vals1 rv
    obtain ⟨t, rfl⟩ := ru
    refine textAt_of hd (fun A' E s' Q hu' kp k => field_tuple (by omega) (kp _ _ ho) hc hdd (.cons (ReprIs.str _ t (Nat.le_trans (tupleText_mem_le (List.mem_singleton.mpr rfl)) (by omega))) .nil) h fun m u tk hm => k m u s'.heap tk hm fun _ _ e => e) h1
  | lst e h =>
    obtain rfl : v' = Value.ref _ := r
    obtain ⟨_, its, n, rv, ho⟩ := ok _ _ e
    obtain ⟨u, rfl, ru⟩ := vals1 rv
    obtain ⟨t, rfl⟩ := ru
    refine textAt_of hd (fun A' E s' Q hu' kp k => field_list (by omega) (kp _ _ ho) rfl rfl (ts := [_]) rfl (fun i y hy => ?_) h fun m u h' tk hm kp' => k m u h' tk hm kp') h1
    rcases i with _ | i
    · have hy := Option.some.inj hy
      subst hy
      exact ⟨_, rfl, ReprIs.str _ t (Nat.le_trans (listText_mem_le (List.mem_singleton.mpr rfl)) (by omega))⟩
    · simp at hy
  | dK e =>
    obtain rfl : v' = Value.ref _ := r
    obtain ⟨_, hsys, vs, rv, o, es, ep, ho, ed, hdd, ko, pr, nd⟩ := ok _ _ e
    cases rv
    have ee : es = #[] := by
      obtain ⟨l⟩ := es
      have pr : Pairs _ l [] := pr
      cases pr
      rfl
    subst ee
    exact textAt_of hd (fun A' E s' Q hu' kp k => field_dict (by omega) (kp _ _ ho) ed.1 hdd hsys fun m u tk hm => k m u s'.heap tk hm fun _ _ e => e) h1
end
end KU
/-! a text and a dict are not equal; x in texts, x of any kind that an error may tell of -/
namespace KEQ
open PySem PySem.Spec PyProof.Rows L2
open AutoSeq1 (wpAny_loadPart')
open SeqAt MeetsSeq MeetsSeq2 MeetsSeq3 SeqRoads2
theorem sub_dict_str : isSubtype (.type "dict") (.type "str") = pure false := by rw [isSubtype_type]; kernel_rfl
theorem str_eq_declines_dict (b : Str) (u : Tok) (l : Addr) (es : Array DictEntry) (n : Nat) (dd : Option Addr) (sl : Array (Option Value)) :
    Meets (Builtin.«str.__eq__» ⟨[.str b u, .ref l], []⟩) (fun _ R s => s.heap.get? l = some { cls := .type "dict", dict := dd, data := .dict es n, slots := sl } ∧ R (.ok (.ret .notImplemented)) s) :=
  .of_wp fun prog w A R s h => by obtain ⟨hp, g, d, tk, os⟩ := s; obtain ⟨hl, h⟩ := h; have f1 := sub_dict_str; wp_walk using wpAny_loadPart' hl, wpAny_load hl; exact ⟨_, rfl, h⟩
theorem dict_eq_declines_str (l : Addr) (es : Array DictEntry) (n : Nat) (dd : Option Addr) (sl : Array (Option Value)) (b : Str) (u : Tok) :
    Meets (Builtin.«dict.__eq__» ⟨[.ref l, .str b u], []⟩) (fun _ R s => s.heap.get? l = some { cls := .type "dict", dict := dd, data := .dict es n, slots := sl } ∧ R (.ok (.ret .notImplemented)) s) :=
  .of_wp fun prog w A R s h => by obtain ⟨hp, g, d, tk, os⟩ := s; obtain ⟨hl, h⟩ := h; have f1 := F.sub_str_dict; wp_walk using wpAny_loadPart' hl; exact ⟨_, rfl, h⟩
section
variable {A : Around} {s : Shared}
theorem rc_str_dict {l : Addr} {o : Obj} {es : Array DictEntry} {n : Nat} (b : Str) (u : Tok) (ho : s.heap.get? l = some o) (hc : o.cls = .type "dict") (hd : o.data = .dict es n) (hu : A.units < cLine) : RcAt A s (.str b u) (.ref l) false := fun prog w E Q h => by
  obtain ⟨cls, dd, data, sl⟩ := o
  simp only at hc hd
  subst hc hd
  exact rc_eq_decline_or (k := false) (typeIs_str s b u) ⟨_, ho, rfl⟩ (by decide) sub_dict_str F.slot_str_eq F.slot_dict_eq_refl
    (fun _ hq => call_meets F.slot_str_eq (typeIs_str s b u) F.entry_str_eq (F.args_str_eq_2 _ _) (str_eq_declines_dict b u l es n dd sl) ⟨ho, hq⟩)
    (fun _ hq => call_meets F.slot_dict_eq_refl ⟨_, ho, rfl⟩ F.entry_dict_eq (F.args_dict_eq_2 _ _) (dict_eq_declines_str l es n dd sl b u) ⟨ho, hq⟩)
    (fun _ hq => wpAny_of_eq (rfl : isSame (.str b u) (.ref l) = pure false) hq) (.inr hu) h
theorem eq_str_dict {l : Addr} {o : Obj} {es : Array DictEntry} {n : Nat} (b : Str) (u : Tok) (ho : s.heap.get? l = some o) (hc : o.cls = .type "dict") (hd : o.data = .dict es n) (hu : A.units < cLine) : EqAt A s (.str b u) (.ref l) false := fun prog w E Q h => by
  unfold eqBool
  refine wpAny_holding ?_
  refine wpAny_ite_split (fun hab => absurd (eq_of_beq hab) nofun) (fun _ => ?_)
  exact wpAny_bind (rc_str_dict b u ho hc hd hu prog w E _ (wpAny_truthy_bool h))
end
/-- x is one of these texts -/
def inY (x : V) (ms : List Str) : Bool := match x with
  | .str z => ms.any fun y => y == z
  | _ => false
def eY (x : V) : Value → Bool
  | .str b _ => (match x with | .str z => b == z | _ => false)
  | _ => false
theorem any_eY {x : V} : ∀ {ms : List Str} {its : List Value}, Vals (ms.map V.str) its → its.any (eY x) = inY x ms
  | [], [], _ => by cases x <;> rfl
  | m :: ms, _, .cons r t => by
    obtain ⟨k, rfl⟩ := r
    rw [List.any_cons, any_eY t]
    cases x with
    | str z =>
      show ((m == z) || (ms.any fun y => y == z)) = ((m :: ms).any fun y => y == z)
      rw [List.any_cons]
    | _ => rfl
theorem eY_at {X : Cx} {A : Around} {pins : List (Addr × Obj)} {σ : L2.St} {H : Hp} {s : Shared} {x : V} {v : Value} (I : Inv X pins σ H s) (rx : RelV x v) (sy : KU.Sy H x) (hu : A.units < cLine) {b : Str} {u : Tok} : EqAt A s (.str b u) v (eY x (.str b u)) := by
  cases sy with
  | non =>
    obtain rfl : v = Value.none := rx
    exact EqAt.str_none b u
  | zero =>
    obtain ⟨t, rfl⟩ := rx
    exact EqAt.str_int b u _ _
  | str y h =>
    obtain ⟨t, rfl⟩ := rx
    exact EqAt.str_str b u _ _
  | tup e h =>
    obtain rfl : v = Value.ref _ := rx
    obtain ⟨_, its, rv, tt⟩ := I.hok _ _ e
    exact EqAt.str_tuple b u tt hu
  | lst e h =>
    obtain rfl : v = Value.ref _ := rx
    obtain ⟨its, rv, pl, _⟩ := I.list (SqL.of e)
    exact EqAt.str_list b u pl.isList hu
  | dK e =>
    obtain rfl : v = Value.ref _ := rx
    obtain ⟨_, hsys, vs, rv, o, es, ep, ho, ed, hdd, _⟩ := I.hok _ _ e
    exact eq_str_dict b u ho ed.1 hdd hu
def rNotInY (K : PySem.W.Frag) : R2 := fun x y H Q => ∃ p ms, y = .ref p ∧ SqL K H p (ms.map V.str) ∧ KU.Sy H x ∧ Q (.bl (!inY x ms)) H
theorem op_notInY {X : Cx} (hu : X.A.units + 65 < cLine) : OpR X (compareOp .NotIn) (rNotInY X.K) := by
  intro pins s σ H x y v u Q I rx ry h
  obtain ⟨p, ms, rfl, hq, sy, q⟩ := h
  cases ry
  obtain ⟨its, r, pl, hz⟩ := I.list hq
  refine SeqAt.notIn_listAt (eY x) pl.isList (fun w hw => ?_) ⟨.bl _, H, I, rfl, ?_⟩
  · have hw : w ∈ its := by simpa using hw
    obtain ⟨i, hi, e⟩ := List.mem_iff_getElem.mp hw
    have hi2 : i < (ms.map V.str).length := by rw [r.length]; exact hi
    obtain ⟨w', e1, r1⟩ := r.get (i := i) (List.getElem?_eq_getElem hi2)
    rw [List.getElem?_eq_getElem hi] at e1
    have e2 := Option.some.inj e1
    rw [e] at e2
    subst e2
    rw [List.getElem_map] at r1
    obtain ⟨t, rfl⟩ := r1
    exact eY_at I rx sy (by show X.A.units + 1 < cLine; omega)
  · rw [show its.toArray.any (eY x) = its.any (eY x) by simp, any_eY r]
    exact q
end KEQ
namespace K47
open PySem PySem.Spec PyProof.Rows L2 PySem.W LamX KA KW KU KL KT
open Evl (pss_cut tCut)
/-! ### webs are checked -/
/-- what is known of the error of a web -/
structure BadWebT (P : Program) (w : World) (K : PySem.W.Frag) (mg : Str → Option Value) (R : Addr) where
  C : Addr
  fI : Addr
  cda : Addr
  cc : Addr
  e : Expr
  g : mg "BadWeb" = some (.ref C)
  u : UpTxt P K C fI cda cc "BadWeb.__init__" "at" e
  r : PySem.W.subIn K (.ref C) (.ref R) = some true
  x : ExcC K C
  sayN : Text P w fI cda cc "BadWeb.__init__" "at" e .none
  sayI : ∀ (i : Nat) (t : Tok), i ≤ 1000 → Text P w fI cda cc "BadWeb.__init__" "at" e (.int (i : Int) t)
theorem bw_exm {P : Program} {w : World} {K : PySem.W.Frag} {mg : Str → Option Value} (R : ReelT K mg) (S : BadWebT P w K mg R.C) : PySem.W.exmOne K (.ref S.C) (.ref R.C) = some true := PySem.W.exm_ref R.b R.d R.t S.r
/-- a value as a web -/
inductive Wb (H : Hp) : V → Option (List (List Nat)) → Prop where
  | non : Wb H .non none
  | some {x : V} {rows : List (List Nat)} (w : Wv H x rows) (l : rows.length ≤ 1000) (l2 : ∀ r ∈ rows, r.length ≤ 1000) : Wb H x (some rows)
theorem Wb.keep {H H' : Hp} {x : V} {o : Option (List (List Nat))} (h : Wb H x o) (s : Same H H') : Wb H' x o := by
  cases h with
  | non => exact .non
  | some w l l2 => exact .some (w.keep s) l l2
def webX : At → V
  | .frame i => .int (i : Int)
  | _ => .non
def spCheckWeb (CB : Addr) : Sp := fun vs H Q E => ∃ x o, vs = [x] ∧ Wb H x o ∧ (webAns o = .good → ∀ H', Same H H' → Q .non H') ∧ (webAns o ≠ .good → ∀ H' d, Same H H' → H' d = none → E (.ref CB) (some d) (upd H' d (.xd [("at", webX (webAns o))])))
theorem kit_two {K : PySem.W.Frag} {t a b : String} {x y : Bool} (e1 : kitB t a = some x) (e2 : kitB t b = some y) : PySem.W.kitAny K (.type t) [.type a, .type b] = some (x || y) := by
  unfold PySem.W.kitAny
  rw [kit_ty e1]
  cases x
  · show (match PySem.W.kitOne K (.type t) (.type b) with | some true => some true | some false => some false | none => none) = _
    rw [kit_ty e2]
    cases y <;> rfl
  · rfl
section
variable {P : Program} {w : World} {K : PySem.W.Frag} {mg : Str → Option Value} {base : Heap} (T : Top K mg) (BW : BadWebT P w K mg T.reel.C)
theorem ok_check_web : FnOk P w K mg base (L2.CX P w) 4 T.check_web.a T.check_web.d ["web"] (spCheckWeb BW.C) := by
  refine T.check_web.f.okX sc_check_web (fun vs H Q E h => ?_) (fun cdv A outer s H vs Q E hr h => ?_)
  · obtain ⟨x, o, rfl, _⟩ := h
    rfl
  · obtain ⟨x, o, rfl, hw, k1, k2⟩ := h
    obtain ⟨tF, hcF⟩ := T.cMOST_FRAMES
    refine ⟨_, (pss_cons (ps_if (PW.pt (pw_or (pt_not (pt_val (pe_callB (show CallR _ _ (rIsiT K) from call_isiT) (by rfl) T.b_isinstance PyProof.Rows.boot_isinstance (pa_cons (pv 0) (pa_cons (pe_tup (pa_cons (pe_bltn (v := .ty "list") (by rfl) T.b_list (by decide +kernel) rfl) (pa_cons (pe_bltn (v := .ty "tuple") (by rfl) T.b_tuple (by decide +kernel) rfl) pa_nil))) pa_nil))))) (pw_or1 (pt_not (pt_chain op_le op_le pe_int (pe_callB call_len_seq (by rfl) T.b_len PySem.boot_len (pa_cons (pv 0) pa_nil)) (pe_glob (v := .int 10) (by rfl) hcF ⟨_, rfl⟩)))))) (pss_one (ps_raiseUp rfl BW.u BW.g hr (takes_of rfl rfl rfl rfl) (pa_cons pe_non pa_nil) (by rfl))) pss_nil)
      (pss_cons (ps_for (passes_of rfl) rfl (KEN.pi_enumS (by rfl) T.b_enumerate (pa_cons (pv 0) pa_nil)) (pg_tup rfl (pgs_cons (pg_name (i := 1) sc_check_web.nd rfl (by first | exact .inl rfl | exact .inr rfl)) (pgs_cons (pg_name (i := 2) sc_check_web.nd rfl (by first | exact .inl rfl | exact .inr rfl)) pgs_nil)))
        (pss_one (ps_if (PW.pt (pw_or (pt_not (pt_val (pe_call (ok_is_lot T) (hr.mono (by decide)) (by rfl) T.is_lot.m T.is_lot.f.kp (bd_is_lot T) .nil passE (pa_cons (pv 2) (pa_cons (pe_callB call_len_seq (by rfl) T.b_len PySem.boot_len (pa_cons (pv 0) pa_nil)) pa_nil))))) (pw_or1 (pt_cmpR (show OpR _ _ (rIn K false) from op_in_seq) (pv 1) (pv 2) (by rfl))))) (pss_one (ps_raiseUp rfl BW.u BW.g hr (takes_of rfl rfl rfl rfl) (pa_cons (pv 1) pa_nil) (by rfl))) pss_nil)))
      (pss_cons (ps_set (i := 3) sc_check_web.nd rfl (by first | exact .inl rfl | exact .inr rfl) (pe_lst pa_nil))
      (pss_one (ps_while (passes_of rfl) (pt_cmpR op_lt (pe_callB call_len_seq (by rfl) T.b_len PySem.boot_len (pa_cons (pv 3) pa_nil)) (pe_callB call_len_seq (by rfl) T.b_len PySem.boot_len (pa_cons (pv 0) pa_nil)) (nomark _))
        (pss_cons (ps_setLc (i := 4) (own := [("frame", 1)]) (g := (gName 1)) rfl sc_check_web.nd rfl rfl (sw_true rfl rfl rfl (by decide +kernel)) (pi_range1 (by rfl) T.b_range (pa_cons (pe_callB call_len_seq (by rfl) T.b_len PySem.boot_len (pa_cons (pv 0) pa_nil)) pa_nil)) (blkOk_by (own := [("frame", 1)]) (N := ["web", "frame", "row", "told", "ready"]) (sc := defScope s_check_web) (by decide +kernel)) (fun _ _ _ _ _ => pg_name (i := 1) sc_check_web.nd rfl (Or.inl rfl)) (fun _ _ _ _ _ => pts_one (PW.pt (pw_and (pt_cmpR (show OpR _ _ (rIn K true) from op_notIn_seq) (pv 1) (pv 3) (by rfl)) (pw_and1 (pt_val (pe_call (ok_are_in T) (hr.mono (by decide)) (by rfl) T.are_in.m T.are_in.f.kp (bd_are_in T) .nil passE (pa_cons (pe_ix (show IxR _ (rIx K) from ix_seq) (pv 0) (pv 1) (fun _ _ => rfl)) (pa_cons (pv 3) pa_nil)))))))) (fun _ _ _ _ _ => (pv 1)))
      (pss_cons (ps_if (pt_cmpR (op_eqD hr.units) (pv 4) (pe_lst pa_nil) (nomark _)) (pss_one (ps_raiseUp rfl BW.u BW.g hr (takes_of rfl rfl rfl rfl) (pa_cons pe_non pa_nil) (by rfl))) pss_nil)
      (pss_one (ps_expr (pe_bm PySem.F.plainAttrs_list PySem.F.slot_list_extend PySem.F.type_list_extend mt_extend (pv 3) (pa_cons (pv 4) pa_nil))))))))))), ?_⟩
    cases hw with
    | non =>
      refine ⟨_, rfl, (by show 2 ≤ sizeLine; decide), fun z hz => ?_⟩
      have tz := Same.new (o := .tup [V.ty "list", .ty "tuple"]) hz
      refine ⟨.non, z, _, _, _, _, rfl, upd_same, .cons (.ty "list") (.cons (.ty "tuple") .nil), .base .non, kit_two (x := false) (y := false) (by decide +kernel) (by decide +kernel), _, rfl, ?_⟩
      refine iteT (iteT ⟨_, rfl, fun v' r => ?_, fun d hd => k2 (by decide) _ d tz hd⟩)
      cases r
      exact BW.sayN
    | @some x rows hv l l2 =>
      obtain ⟨a, ws, rfl, ha, rl⟩ := id hv
      have hlen := rl.1
      refine ⟨_, rfl, (by show 2 ≤ sizeLine; decide), fun z hz => ?_⟩
      have tz := Same.new (o := .tup [V.ty "list", .ty "tuple"]) hz
      obtain ⟨t, ht, kt⟩ : ∃ t, TyX K (upd H z (.tup [V.ty "list", .ty "tuple"])) (.ref a) (.type t) ∧ PySem.W.kitAny K (.type t) [.type "list", .type "tuple"] = some true := by
        rcases ha with ha | ha
        · exact ⟨_, .base (.lst (tz _ _ ha)), kit_two (x := true) (y := false) (by decide +kernel) (by decide +kernel)⟩
        · exact ⟨_, .base (.tup (tz _ _ ha)), kit_two (x := false) (y := true) (by decide +kernel) (by decide +kernel)⟩
      refine ⟨.ref a, z, _, _, _, _, rfl, upd_same, .cons (.ty "list") (.cons (.ty "tuple") .nil), ht, kt, _, rfl, iteF ⟨_, rfl, a, ws, rfl, ha.imp (fun e => SqL.of (tz _ _ e)) (fun e => SqT.of (tz _ _ e)), 1, ((ws.length : Nat) : Int), rfl, rfl, _, rfl, ?_⟩⟩
      clear ht kt t
      generalize upd H z (.tup [V.ty "list", .ty "tuple"]) = Hz at tz
      have few : ¬ (1 ≤ rows.length ∧ rows.length ≤ 10) → webAns (some rows) = .whole := fun q => by
        show (if ¬ (1 ≤ rows.length ∧ rows.length ≤ 10) then At.whole else _) = _
        rw [if_pos q]
      by_cases c1 : (1 : Int) ≤ ((ws.length : Nat) : Int)
      case neg =>
        rw [decide_eq_false c1]
        have e := few (by omega)
        refine iteF ⟨_, rfl, iteT ⟨_, rfl, fun v' r => ?_, fun d hd => ?_⟩⟩
        · cases r
          exact BW.sayN
        · have := k2 (by rw [e]; decide) _ d tz hd
          rw [e] at this
          exact this
      rw [decide_eq_true c1]
      refine iteT ⟨((ws.length : Nat) : Int), 10, rfl, rfl, _, rfl, ?_⟩
      by_cases c2 : ((ws.length : Nat) : Int) ≤ 10
      case neg =>
        rw [decide_eq_false c2]
        have e := few (by omega)
        refine iteT ⟨_, rfl, fun v' r => ?_, fun d hd => ?_⟩
        · cases r
          exact BW.sayN
        · have := k2 (by rw [e]; decide) _ d tz hd
          rw [e] at this
          exact this
      rw [decide_eq_true c2]
      have nn : 1 ≤ rows.length ∧ rows.length ≤ 10 := ⟨by omega, by omega⟩
      have ans : webAns (some rows) = match (List.range rows.length).find? (badAt rows) with
          | some i => At.frame i
          | none => if runs rows rows.length [] = true then .good else .whole := by
        show (if ¬ (1 ≤ rows.length ∧ rows.length ≤ 10) then At.whole else _) = _
        rw [if_neg (fun q => q nn)]
        all_goals (cases (List.range rows.length).find? (badAt rows) <;> rfl)
      refine iteF ⟨_, rfl, a, ws, rfl, ha.imp (fun e => SqL.of (tz _ _ e)) (fun e => SqT.of (tz _ _ e)), fun J G wk hG => for_it wk (fun i σ H' => (∃ v1 v2, σ = [some (.ref a), v1, v2, none, none]) ∧ Same Hz H' ∧ ∀ j, j < i → badAt rows j = false) ⟨⟨none, none, rfl⟩, fun _ _ e => e, fun j hj => absurd hj (Nat.not_lt_zero _)⟩ (fun i σ H' _ p => hG H' p.2.1) ?_ ?_⟩
      · rintro i x σ Hq Hr hi ⟨⟨v1, v2, rfl⟩, sq, hb⟩ ⟨T', x1, y1, rfl, hT, rfl, h1, h2⟩
        cases h1
        have rq := rl.same (tz.trans sq)
        obtain ⟨p, ns, rfl, en, hp⟩ := rq.get h2
        have tT := Same.new (o := .tup [V.int ((i : Nat) : Int), .ref p]) hT
        have hi' : i < rows.length := hlen ▸ hi
        have ern : row rows i = ns := by
          unfold row
          rw [List.getD_eq_getElem?_getD, en]
          rfl
        have lns : ns.length ≤ 1000 := l2 _ (List.mem_of_getElem? en)
        refine ⟨T', _, rfl, SqT.of upd_same, rfl, _, _, rfl, _, _, rfl, rfl, ?_⟩
        have tq := (tz.trans sq).trans tT
        refine ⟨_, rfl, _, rfl, a, ws, rfl, ha.imp (fun e => SqL.of (tq _ _ e)) (fun e => SqT.of (tq _ _ e)), p, ns, rows.length, by rw [hlen]; rfl, tT _ _ hp, lns, fun H2 s2 => ⟨_, rfl, ?_⟩⟩
        have s02 : Same H H2 := tq.trans s2
        have bad : badAt rows i = true → webAns (some rows) = .frame i := fun z => by
          rw [ans, find_range _ hi' z hb]
        have raise : badAt rows i = true → ∀ d, H2 d = none → E (.ref BW.C) (some d) (upd H2 d (.xd [("at", V.int ((i : Nat) : Int))])) := fun z d hd => by
          have e := bad z
          have := k2 (by rw [e]; exact fun q => nomatch q) _ d s02 hd
          rw [e] at this
          exact this
        have say : ∀ v', RelV (V.int ((i : Nat) : Int)) v' → Text P w BW.fI BW.cda BW.cc "BadWeb.__init__" "at" BW.e v' := fun v' r => by
          obtain ⟨t, rfl⟩ := r
          exact BW.sayI i t (by omega)
        cases hc : lotB rows.length ns with
        | false => exact iteT (iteT ⟨_, rfl, _, rfl, say, raise (by unfold badAt; rw [ern, hc]; rfl)⟩)
        | true =>
          refine iteF ⟨_, rfl, _, rfl, p, _, rfl, .inr (SqT.of (s2 _ _ (tT _ _ hp))), rfl, NV_flat ns, ?_⟩
          rw [if_neg Bool.false_ne_true, inV_NV]
          refine ⟨_, rfl, ?_⟩
          cases ho : inB ns i with
          | true => exact iteT ⟨_, rfl, _, rfl, say, raise (by unfold badAt; rw [ern, hc, ho]; rfl)⟩
          | false =>
            refine iteF ⟨⟨_, _, rfl⟩, (sq.trans tT).trans s2, fun j hj => ?_⟩
            by_cases ej : j = i
            · subst ej
              unfold badAt
              rw [ern, hc, ho]
              rfl
            · exact hb j (by omega)
      · rintro σ H1 ⟨⟨v1, v2, rfl⟩, s1, hb⟩
        rw [hlen] at hb
        have fn : (List.range rows.length).find? (badAt rows) = none := List.find?_eq_none.mpr fun j hj => by
          rw [hb j (List.mem_range.mp hj)]
          exact Bool.false_ne_true
        rw [fn] at ans
        have s01 : Same H H1 := tz.trans s1
        refine ⟨(by show 0 ≤ sizeLine; decide), fun q hq => ?_⟩
        have whole : runs rows rows.length [] = false → ∀ H' d, Same H H' → H' d = none → E (.ref BW.C) (some d) (upd H' d (.xd [("at", V.non)])) := fun z H' d s' hd => by
          have e : webAns (some rows) = .whole := by
            rw [ans]
            show (if _ then _ else _) = _
            rw [z, if_neg Bool.false_ne_true]
          have := k2 (by rw [e]; decide) _ d s' hd
          rw [e] at this
          exact this
        refine ⟨fun μ σ' H2 => ∃ v1 v2 v4, σ' = [some (.ref a), v1, v2, some (.ref q), v4] ∧ ∃ told : List Nat, H2 q = some (.lst (NV told)) ∧ Same H1 H2 ∧ told.length ≤ 1000 ∧ rows.length ≤ told.length + μ ∧ runs rows rows.length [] = runs rows μ told,
          ⟨rows.length, v1, v2, none, rfl, [], upd_same, Same.new hq, Nat.zero_le _, by simp, rfl⟩, ?_⟩
        rintro μ σ' H2 ⟨v1, v2, v4, rfl, told, eq, s2, tl, tm, er⟩
        have s02 := s01.trans s2
        refine ⟨_, rfl, q, _, rfl, .inl (SqL.of eq), _, rfl, a, ws, rfl, ha.imp (fun e => SqL.of (s02 _ _ e)) (fun e => SqT.of (s02 _ _ e)), _, _, rfl, rfl, _, rfl, ?_⟩
        rw [NV_len, hlen]
        by_cases ct : told.length < rows.length
        case neg =>
          rw [show decide (((told.length : Nat) : Int) < ((rows.length : Nat) : Int)) = false from decide_eq_false (by omega)]
          refine iteF (k1 ?_ H2 s02)
          rw [ans]
          show (if _ then _ else _) = _
          have : runs rows μ told = true := by
            cases μ with
            | zero => rfl
            | succ μ => rw [runs, if_pos (by omega)]
          rw [er, this, if_pos rfl]
        rw [show decide (((told.length : Nat) : Int) < ((rows.length : Nat) : Int)) = true from decide_eq_true (by omega)]
        obtain ⟨μ, rfl⟩ : ∃ ν, μ = ν + 1 := ⟨μ - 1, by omega⟩
        refine iteT ⟨fun σ' H' => ∃ v1 v2 v4, σ' = [some (.ref a), v1, v2, some (.ref q), v4] ∧ ∃ told : List Nat, H' q = some (.lst (NV told)) ∧ Same H1 H' ∧ told.length ≤ 1000 ∧ rows.length ≤ told.length + μ ∧ runs rows rows.length [] = runs rows μ told,
          fun σ' H' h => ⟨μ, Nat.lt_succ_self _, h⟩, ?_⟩
        refine ⟨_, rfl, a, ws, rfl, ha.imp (fun e => SqL.of (s02 _ _ e)) (fun e => SqT.of (s02 _ _ e)), _, rfl, by omega, by omega, ?_⟩
        rw [Int.toNat_natCast]
        intro D hD
        refine lcP (walk_rangeN (n := ws.length)) (List.range rows.length) (fun f => !(inB told f) && (row rows f).all (inB told)) (fun f => V.int ((f : Nat) : Int)) (by rw [List.length_range, hlen]) hD (fun _ _ => trivial) (by rw [List.length_range]; omega) yFn_same ?_ ?_
        · rintro i x f H3 H4 N R hf s3 ⟨rfl, rfl⟩ hy hn
          obtain ⟨rfl, hfl⟩ := range_at hf
          refine ⟨rfl, ?_⟩
          have s23 := s02.trans s3
          have eq3 := s3 _ _ eq
          refine ⟨_, rfl, _, rfl, q, _, rfl, .inl (SqL.of eq3), rfl, NV_flat told, ?_⟩
          rw [if_pos rfl, inV_NV]
          cases c : inB told f with
          | true => exact ⟨_, rfl, iteF (hn (by rw [c]; rfl) _ fun _ _ e => e)⟩
          | false =>
            have er : rows[f]? = some (row rows f) := by
              unfold row
              rw [List.getD_eq_getElem?_getD, List.getElem?_eq_getElem hfl]
              rfl
            obtain ⟨p, ep, hp⟩ := (rl.same s23).at_ er
            refine ⟨_, rfl, iteT ⟨_, rfl, _, rfl, ix_either (K := K) (ha.imp (s23 _ _) (s23 _ _)) ep ⟨_, rfl, p, q, row rows f, told, rfl, hp, l2 _ (List.mem_of_getElem? er), .inl eq3, fun H5 s5 => ⟨_, rfl, ?_⟩⟩⟩⟩
            cases c2 : (row rows f).all (inB told) with
            | true => exact iteT ⟨_, rfl, hy (by rw [c, c2]; rfl) _ s5⟩
            | false => exact iteF (hn (by rw [c, c2]; rfl) _ s5)
        · intro H3 s3 e3
          have e3 : H3 D = some (.lst (NV (readyL rows told))) := e3
          have s03 := s02.trans s3
          refine ⟨_, rfl, (by show 0 ≤ sizeLine; decide), fun z2 hz2 => ?_⟩
          have t4 := Same.new (o := .lst []) hz2
          have e4 := t4 _ _ e3
          have q4 := t4 _ _ (s3 _ _ eq)
          have s13 := (s2.trans s3).trans t4
          have s04 := s03.trans t4
          refine ⟨_, _, dp_int_list (by rw [← NV_ints]; exact e4), dp_nil upd_same, shaped_is _, shaped_nil, _, rfl, ?_⟩
          rw [eqv_ints_nil]
          generalize upd H3 z2 (.lst []) = H4 at t4 e4 q4 s13 s04
          cases hR : readyL rows told with
          | nil =>
            refine iteT ⟨_, rfl, fun v' r => ?_, fun d hd => whole ?_ _ d s04 hd⟩
            · cases r
              exact BW.sayN
            · rw [er, runs, if_neg (by omega), if_pos hR]
          | cons f fs =>
            rw [hR] at e4
            have hfl : (f :: fs).length ≤ rows.length := by
              rw [← hR]
              refine Nat.le_trans (List.length_filter_le _ _) ?_
              rw [List.length_range]
              exact Nat.le_refl _
            refine iteF ⟨_, rfl, .inl ⟨rfl, _, SqL.of q4⟩, _, rfl, q, D, NV told, NV (f :: fs), rfl, rfl, q4, e4, ?_, ?_⟩
            · rw [NV_len, NV_len]
              exact Nat.le_trans (show _ ≤ 2000 by omega) (by decide)
            · refine ⟨v1, v2, _, rfl, told ++ (f :: fs), ?_, ?_, ?_, ?_, ?_⟩
              · rw [upd_same]
                unfold NV
                rw [List.map_append]
              · exact Same.put s13 hq
              · rw [List.length_append]
                omega
              · rw [List.length_append, List.length_cons]
                omega
              · rw [er, runs, if_neg (by omega), if_neg (by rw [hR]; exact List.cons_ne_nil _ _), hR]
end
end K47
namespace K47
open PySem PySem.Spec PyProof.Rows L2 PySem.W LamX KA KW KU KL KT
open Evl (pss_cut tCut)
/-! ### gains are checked -/
theorem Pl.num {K : PySem.W.Frag} {H : Hp} {x : V} {b : Bool} (h : Pl K H x b) (lo hi : Int) : b = false → within x lo hi = false := by
  intro e
  subst e
  cases h <;> rfl
theorem Pl.keep {K : PySem.W.Frag} {H H' : Hp} {x : V} {b : Bool} (h : Pl K H x b) (s : Same H H') : Pl K H' x b := by
  cases h with
  | int i => exact .int i
  | bl i => exact .bl i
  | str i => exact .str i
  | non => exact .non
  | tup e => exact .tup (s _ _ e)
  | lst e => exact .lst (s _ _ e)
  | dK e => exact .dK (s _ _ e)
/-- neither a list nor a tuple -/
inductive Ns (H : Hp) : V → Prop where
  | int (i : Int) : Ns H (.int i)
  | str (s : Str) : Ns H (.str s)
  | non : Ns H .non
  | dK {a : Addr} {kvs : List (Key × V)} (e : H a = some (.dK kvs)) : Ns H (.ref a)
theorem Ns.ty {K : PySem.W.Frag} {H : Hp} {x : V} (h : Ns H x) : ∃ t : String, TyX K H x (.type t) ∧ PySem.W.kitAny K (.type t) [.type "list", .type "tuple"] = some false := by
  cases h with
  | int i => exact ⟨"int", .base (.int i), kit_two (x := false) (y := false) (by decide +kernel) (by decide +kernel)⟩
  | str i => exact ⟨"str", .base (.str i), kit_two (x := false) (y := false) (by decide +kernel) (by decide +kernel)⟩
  | non => exact ⟨"NoneType", .base .non, kit_two (x := false) (y := false) (by decide +kernel) (by decide +kernel)⟩
  | dK e => exact ⟨"dict", .base (.dK e), kit_two (x := false) (y := false) (by decide +kernel) (by decide +kernel)⟩
theorem Ns.keep {H H' : Hp} {x : V} (h : Ns H x) (s : Same H H') : Ns H' x := by
  cases h with
  | int i => exact .int i
  | str i => exact .str i
  | non => exact .non
  | dK e => exact .dK (s _ _ e)
/-- a value as gains -/
inductive Gn (K : PySem.W.Frag) (H : Hp) : V → Option (List V) → Prop where
  | no {x : V} (h : Ns H x) : Gn K H x none
  | some {a : Addr} {xs : List V} (e : H a = some (.lst xs) ∨ H a = some (.tup xs)) (p : ∀ x ∈ xs, ∃ b, Pl K H x b) (l : xs.length ≤ 1000) : Gn K H (.ref a) (some xs)
theorem Gn.keep {K : PySem.W.Frag} {H H' : Hp} {x : V} {o : Option (List V)} (h : Gn K H x o) (s : Same H H') : Gn K H' x o := by
  cases h with
  | no h => exact .no (h.keep s)
  | some e p l => exact .some (e.imp (s _ _) (s _ _)) (fun x hx => (p x hx).imp fun b h => h.keep s) l
def numsB (n : Nat) (lo hi : Int) : Option (List V) → Bool
  | none => false
  | some xs => decide (xs.length = n) && xs.all fun x => within x lo hi
def spAreNumbers (K : PySem.W.Frag) : Sp := fun vs H Q _ => ∃ x y rows o lo hi, vs = [x, y, .int lo, .int hi] ∧ Wv H x rows ∧ Gn K H y o ∧ ∀ H', Same H H' → Q (.bl (numsB rows.length lo hi o)) H'
abbrev mostG : Int := 9999999999
def spCheckGains (K : PySem.W.Frag) (CB CG : Addr) : Sp := fun vs H Q E => ∃ x y o, vs = [x, y] ∧ Wb H x o ∧ (webAns o ≠ .good → ∀ H' d, Same H H' → H' d = none → E (.ref CB) (some d) (upd H' d (.xd [("at", webX (webAns o))]))) ∧
  (webAns o = .good → ∃ rows p, o = some rows ∧ Gn K H y p ∧ (numsB rows.length (-mostG) mostG p = true → ∀ H', Same H H' → Q .non H') ∧ (numsB rows.length (-mostG) mostG p = false → ∀ H', Same H H' → E (.ref CG) none H'))
section
variable {P : Program} {w : World} {K : PySem.W.Frag} {mg : Str → Option Value} {base : Heap} (T : Top K mg) (BW : BadWebT P w K mg T.reel.C)
theorem ok_are_numbers : FnOk P w K mg base (L2.CX P w) 3 T.are_numbers.a T.are_numbers.d ["web", "thing", "low", "high"] (spAreNumbers K) := by
  refine T.are_numbers.f.okX sc_are_numbers (fun vs H Q E h => ?_) (fun cdv A outer s H vs Q E hr h => ?_)
  · obtain ⟨x, y, rows, o, lo, hi, rfl, _⟩ := h
    rfl
  · obtain ⟨x, y, rows, o, lo, hi, rfl, hw, hg, k⟩ := h
    refine ⟨_, (pss_one (ps_ret (pe_and (pe_callB (show CallR _ _ (rIsiT K) from call_isiT) (by rfl) T.b_isinstance PyProof.Rows.boot_isinstance (pa_cons (pv 1) (pa_cons (pe_tup (pa_cons (pe_bltn (v := .ty "list") (by rfl) T.b_list (by decide +kernel) rfl) (pa_cons (pe_bltn (v := .ty "tuple") (by rfl) T.b_tuple (by decide +kernel) rfl) pa_nil))) pa_nil))) (pe_and (pe_cmpR op_eq (pe_callB call_len_seq (by rfl) T.b_len PySem.boot_len (pa_cons (pv 1) pa_nil)) (pe_callB call_len_seq (by rfl) T.b_len PySem.boot_len (pa_cons (pv 0) pa_nil)) (nomark _)) (pe_one (pe_callB (cr_all rfl) (by rfl) T.b_all (by decide +kernel) (pa_cons (pe_lc (own := [("number", 4)]) (g := (gName 4)) (tt := tYes) rfl sc_are_numbers.nd (KEN.pi_seqS (pv 1)) (blkOk_by (own := [("number", 4)]) (N := ["web", "thing", "low", "high", "number"]) (sc := defScope s_are_numbers) (by decide +kernel)) (fun _ _ _ _ _ => pg_name (i := 4) sc_are_numbers.nd rfl (Or.inl rfl)) (fun _ _ _ _ _ => pts_nil) (fun _ _ _ _ _ => (pe_call (ok_is_within T) (hr.mono (by decide)) (by rfl) T.is_within.m T.is_within.f.kp (bd_is_within T) .nil passE (pa_cons (pv 4) (pa_cons (pv 2) (pa_cons (pv 3) pa_nil)))))) pa_nil))))))), ?_⟩
    refine ⟨_, rfl, (by show 2 ≤ sizeLine; decide), fun z hz => ?_⟩
    have tz := Same.new (o := .tup [V.ty "list", .ty "tuple"]) hz
    cases hg with
    | no hn =>
      obtain ⟨t, ht, kt⟩ := (hn.keep tz).ty (K := K)
      exact ⟨y, z, _, _, _, _, rfl, upd_same, .cons (.ty "list") (.cons (.ty "tuple") .nil), ht, kt, _, rfl, iteF (k _ tz)⟩
    | @some a xs e p l =>
      obtain ⟨t, ht, kt⟩ : ∃ t, TyX K (upd H z (.tup [V.ty "list", .ty "tuple"])) (.ref a) (.type t) ∧ PySem.W.kitAny K (.type t) [.type "list", .type "tuple"] = some true := by
        rcases e with ha | ha
        · exact ⟨_, .base (.lst (tz _ _ ha)), kit_two (x := true) (y := false) (by decide +kernel) (by decide +kernel)⟩
        · exact ⟨_, .base (.tup (tz _ _ ha)), kit_two (x := false) (y := true) (by decide +kernel) (by decide +kernel)⟩
      obtain ⟨b, ws, rfl, hb, rl⟩ := id hw
      have hlen := rl.1
      refine ⟨.ref a, z, _, _, _, _, rfl, upd_same, .cons (.ty "list") (.cons (.ty "tuple") .nil), ht, kt, _, rfl, iteT ?_⟩
      clear ht kt t
      generalize upd H z (.tup [V.ty "list", .ty "tuple"]) = Hz at tz
      have e1 : SqL K Hz a xs ∨ SqT K Hz a xs := e.imp (fun e => SqL.of (tz _ _ e)) (fun e => SqT.of (tz _ _ e))
      refine ⟨_, rfl, a, xs, rfl, e1, _, rfl, b, ws, rfl, hb.imp (fun e => SqL.of (tz _ _ e)) (fun e => SqT.of (tz _ _ e)), ?_⟩
      refine ⟨rfl, _, rfl, ?_⟩
      rw [dec_int]
      by_cases c : xs.length = rows.length
      case neg =>
        rw [show (((xs.length : Nat) : Int) == ((ws.length : Nat) : Int)) = false from beq_eq_false_iff_ne.mpr (by omega)]
        exact iteF (q_bl (k Hz tz) (by show false = (decide (xs.length = rows.length) && _); rw [decide_eq_false c]; rfl))
      rw [show (((xs.length : Nat) : Int) == ((ws.length : Nat) : Int)) = true by simp [c, hlen]]
      refine iteT ⟨_, rfl, a, xs, rfl, e1, fun J G wk hG D hD => ?_⟩
      refine lcP wk xs (fun _ => true) (fun x => V.bl (within x lo hi)) rfl hD hG (Nat.le_trans l (by decide)) yAt_same ?_ ?_
      · rintro i x m H1 H2 N R hm s1 ⟨rfl, hx⟩ hy hn
        have : xs[i]? = some x := hx
        rw [hm] at this
        cases this
        refine ⟨rfl, ?_⟩
        dsimp only [tYes]
        rw [if_pos rfl]
        obtain ⟨b', hb'⟩ := p x (List.mem_of_getElem? hm)
        exact ⟨_, rfl, _, rfl, _, rfl, x, b', lo, hi, rfl, hb'.keep (tz.trans s1), hy rfl _ fun _ _ e => e⟩
      · intro H1 s1 e2
        rw [filter_yes, all_map_bl] at e2
        refine ⟨D, _, rfl, SqL.of e2, ?_⟩
        rw [all_id]
        exact q_bl (k H1 (tz.trans s1)) (by show _ = (decide (xs.length = rows.length) && _); rw [decide_eq_true c]; rfl)
theorem ok_check_gains : FnOk P w K mg base (L2.CX P w) 5 T.check_gains.a T.check_gains.d ["web", "gains"] (spCheckGains K BW.C T.BadGains.C) := by
  refine T.check_gains.f.okX sc_check_gains (fun vs H Q E h => ?_) (fun cdv A outer s H vs Q E hr h => ?_)
  · obtain ⟨x, y, o, rfl, _⟩ := h
    rfl
  · obtain ⟨x, y, o, rfl, hw, k1, k2⟩ := h
    obtain ⟨tG, hcG⟩ := T.cMOST_GAIN
    refine ⟨_, (pss_cons (ps_expr (pe_call (ok_check_web T BW) (hr.mono (by decide)) (by rfl) T.check_web.m T.check_web.f.kp (bd_check_web T) .nil (passX rfl rfl rfl rfl) (pa_cons (pv 0) pa_nil)))
      (pss_one (ps_if (pt_not (pt_val (pe_call (ok_are_numbers T) (hr.mono (by decide)) (by rfl) T.are_numbers.m T.are_numbers.f.kp (bd_are_numbers T) .nil passE (pa_cons (pv 0) (pa_cons (pv 1) (pa_cons (pe_un un_neg (pe_glob (v := .int 9999999999) (by rfl) hcG ⟨_, rfl⟩)) (pa_cons (pe_glob (v := .int 9999999999) (by rfl) hcG ⟨_, rfl⟩) pa_nil))))))) (pss_one (ps_raiseT rfl rfl T.BadGains (by rfl) rfl (takes_of rfl rfl rfl rfl))) pss_nil))), ?_⟩
    refine ⟨_, rfl, x, o, rfl, hw, fun g H' s' => ?_, k1⟩
    obtain ⟨rows, p, rfl, hg, k2, k3⟩ := k2 g
    have hw' := hw.keep s'
    cases hw' with
    | some wv l l2 =>
      refine ⟨_, rfl, _, rfl, _, rfl, x, y, rows, p, _, _, rfl, wv, hg.keep s', fun H2 s2 => ⟨_, rfl, ?_⟩⟩
      cases hc : numsB rows.length (-mostG) mostG p with
      | true => exact iteF (k2 hc H2 (s'.trans s2))
      | false => exact iteT (k3 hc H2 (s'.trans s2))
end
end K47
namespace KST
open PySem PySem.Spec PyProof.Rows L2 PySem.W
/-! ### sorted(xs), xs a list of pairs of ints: in their order -/
def pairLe (p q : Int × Int) : Prop := p.1 < q.1 ∨ (p.1 = q.1 ∧ p.2 ≤ q.2)
theorem each_refs : ∀ (bs : List (Addr × Int × Int)) {us : List Value}, Vals (bs.map fun b => V.ref b.1) us → EachIs (fun v (b : Addr × Int × Int) => v = Value.ref b.1) us bs
  | [], _, r => by cases r; exact .nil
  | b :: bs, _, r => by
    cases r with
    | cons r1 r2 => exact .cons r1 (each_refs bs r2)
theorem refs_each : ∀ {us : List Value} {bs : List (Addr × Int × Int)}, EachIs (fun v (b : Addr × Int × Int) => v = Value.ref b.1) us bs → Vals (bs.map fun b => V.ref b.1) us
  | _, _, .nil => .nil
  | _, _, .cons h t => .cons h (refs_each t)
def enc (b : Addr × Int × Int) : PyData := .tuple [.int b.2.1, .int b.2.2]
theorem pair_uniq : ∀ (xs ys : List (Int × Int)), xs.Perm ys → xs.Pairwise pairLe → ys.Pairwise pairLe → xs = ys
  | [], ys, p, _, _ => by rw [List.nil_perm.mp p]
  | x :: xs, ys, p, h1, h2 => by
    cases ys with
    | nil => exact absurd p.length_eq (by simp)
    | cons y ys =>
      have e : x = y := by
        have m1 : x ∈ y :: ys := p.mem_iff.mp List.mem_cons_self
        have m2 : y ∈ x :: xs := p.symm.mem_iff.mp List.mem_cons_self
        rcases List.mem_cons.mp m1 with z | z
        · exact z
        · rcases List.mem_cons.mp m2 with z2 | z2
          · exact z2.symm
          · have a := (List.pairwise_cons.mp h2).1 x z
            have b := (List.pairwise_cons.mp h1).1 y z2
            unfold pairLe at a b
            obtain ⟨x1, x2⟩ := x
            obtain ⟨y1, y2⟩ := y
            simp only [Prod.mk.injEq]
            dsimp only at a b
            omega
      subst e
      rw [pair_uniq xs ys (List.Perm.cons_inv p) (List.pairwise_cons.mp h1).2 (List.pairwise_cons.mp h2).2]
section
variable {X : Cx}
def rSortedT (K : PySem.W.Frag) : List V → Hp → VK → Prop := fun vs H Q => ∃ (a : Addr) (bs : List (Addr × Int × Int)), vs = [V.ref a] ∧ SqL K H a (bs.map fun b => V.ref b.1) ∧ (∀ b ∈ bs, H b.1 = some (.tup [.int b.2.1, .int b.2.2])) ∧
  ∀ (bs' : List (Addr × Int × Int)) (q : Addr), bs'.Perm bs → (bs'.map (·.2)).Pairwise pairLe → H q = none → Q (.ref q) (upd H q (.lst (bs'.map fun b => V.ref b.1)))
theorem cr_sortedT (hu : X.A.units + 4 < cLine) : CallR X (.builtin "sorted") (rSortedT X.K) := by
  intro pins s σ H vs us Q I r h
  obtain ⟨a, bs, rfl, hs, hx, q⟩ := h
  obtain ⟨its, rv, hl, hz⟩ := I.list hs
  rw [Vals.ref1 r]
  have e := each_refs bs rv
  have lb : its.length = bs.length := by
    have := rv.length
    rw [List.length_map] at this
    exact this.symm
  have er : EachIs (fun v b => ∃ as, Reads s.heap v (enc b) as) its bs := by
    have go : ∀ (cs : List (Addr × Int × Int)) (ws : List Value), (∀ b ∈ cs, b ∈ bs) → EachIs (fun v (b : Addr × Int × Int) => v = Value.ref b.1) ws cs → EachIs (fun v b => ∃ as, Reads s.heap v (enc b) as) ws cs := by
      intro cs ws hm e
      induction e with
      | nil => exact .nil
      | @cons v b vs bs' h1 t ih =>
        refine .cons ?_ (ih fun b hb => hm b (List.mem_cons_of_mem _ hb))
        exact Dp.reads I (enc b) (.ref b.1) v (.tup (SqT.of (hx b (hm b List.mem_cons_self))) (.cons (.int _) (.cons (.int _) .nil))) h1
    exact go bs its (fun _ h => h) e
  refine sorted_data (enc := enc) (R := fun v (b : Addr × Int × Int) => v = Value.ref b.1) hl.isList e er (AllAlike.of fun _ _ => by simp [alike, alikeAll, enc]) (Sortable.tuples fun _ => ⟨_, _, rfl⟩) (by rw [← lb, ← rv.length]; exact hz) (fun b _ => ?_) fun out lo eo => ?_
  · show X.A.units + 2 + (PyData.tuple [.int b.2.1, .int b.2.2]).depth < cLine
    have : (PyData.tuple [.int b.2.1, .int b.2.2]).depth ≤ 1 := by simp [PyData.depth, PyData.depthAll]
    omega
  · have en : dataLe false enc = fun p q : Addr × Int × Int => decide (p.2.1 < q.2.1 ∨ (p.2.1 = q.2.1 ∧ p.2.2 ≤ q.2.2)) := dataLe_ii (fun b : Addr × Int × Int => b.2.1) (fun b => b.2.2)
    obtain ⟨ep, he'⟩ := PyProof.Rows.sortedAll_at s.heap its out.toArray
    have pm := List.mergeSort_perm bs (dataLe false enc)
    have pw : ((bs.mergeSort (dataLe false enc)).map (·.2)).Pairwise pairLe := by
      rw [List.pairwise_map, en]
      refine (List.pairwise_mergeSort (fun a b c h1 h2 => ?_) (fun a b => ?_) bs).imp fun h => ?_
      · simp only [decide_eq_true_eq] at h1 h2 ⊢
        omega
      · simp only [Bool.or_eq_true, decide_eq_true_eq]
        omega
      · exact (decide_eq_true_eq (p := _ ∨ _)).mp h
    refine ⟨.ref _, upd H (s.heap.objs.size + 1) (.lst ((bs.mergeSort (dataLe false enc)).map fun b => V.ref b.1)), I.laid (t' := s.toks) (fun _ _ => PyProof.Rows.sortedAll_old) (Nat.le_succ _) ⟨?_, out, ep, refs_each eo, he'⟩, rfl, q _ _ pm pw (I.hok.fresh (Nat.le_succ _))⟩
    rw [List.length_map, pm.length_eq, ← lb, ← rv.length]
    exact hz
end
end KST
namespace KSL
open PySem PySem.Spec PyProof.Rows L2 PySem.W
/-! ### set(xs), xs a list of ints -/
theorem call_set_listI {P : Program} {w : World} {A : Around} {E : Value → Shared → Prop} {s : Shared} {l : Addr} {items : Array Value} (ns : List Int) {Q : Value → Shared → Prop}
    (hh : A.handled = none) (hl : s.heap.IsList l items) (hit : IntsAre items.toList ns) (hb : ns.length + 1 < scanBound)
    (h : ∀ (h' : Heap) (tk c : Nat), SetR w h' s.heap.objs.size (fun j => decide (j ∈ ns)) c → c ≤ ns.length → (∀ (b : Addr) (o : Obj), s.heap.get? b = some o → h'.get? b = some o) →
      Q (Value.ref s.heap.objs.size) { heap := h', gens := s.gens, drawn := s.drawn, toks := tk, os := s.os }) :
    wpAny (model P w) A (call (Value.type "set") [Value.ref l]) Q E s := by
  have hisz : items.size = ns.length := by
    have q := hit.length
    rw [Array.length_toList] at q
    exact q
  obtain ⟨c, tl, hmro⟩ := F.called_set.mro
  have hmade := F.called_set.made
  have hsub := F.called_set.sub
  refine wpAny_call (codeAny_of_tree (wpAny_pure ⟨Code.quiet_builtin _ (by kernel_rfl), codeAny_builtin F.entry_type_call ?_⟩))
  rw [Around.under_plain (weight_type_call_type "set" [Value.ref l] []) rfl]
  have h1 := F.called_set.notType
  have h2 := F.called_set.canCreate
  have hct := F.typeCall_set_1 (Value.ref l)
  show wpAny _ _ (Builtin.«type.__call__» ⟨[Value.type "set", Value.ref l], []⟩) _ _ _
  unfold Builtin.«type.__call__»
  dsimp only
  refine wpAny_ite_false (Eq.refl _) (wpAny_ite_false (Eq.refl _) (wpAny_bind (wpAny_of_eq hct ?_)))
  refine wpAny_bind (wpAny_of_eq hmro ?_)
  refine wpAny_ite_false (Eq.refl _) (wpAny_bind (wpAny_of_eq hmade ?_))
  refine wpAny_bind (wpAny_pure ?_)
  refine wpAny_bind (wpAny_holding (wpAny_call (codeAny_mono (code_set_led1 (E := E) (Q₁ := fun obj s₁ => obj = Value.ref s.heap.objs.size ∧ s₁ = { heap := s.heap.push { cls := Value.type "set", data := Data.set #[] 0 (SetTable.fresh 0 0 !w.params.followText "set-order") }, gens := s.gens, drawn := s.drawn, toks := s.toks, os := s.os }) (Value.ref l) ⟨rfl, rfl⟩) fun r s₁ hr => ?_)))
  cases r with
  | error e => exact hr
  | ok fl =>
  cases fl with
  | ret obj =>
    obtain ⟨rfl, rfl⟩ := hr
    have hS : (s.heap.push { cls := Value.type "set", data := Data.set #[] 0 (SetTable.fresh 0 0 !w.params.followText "set-order") }).get? s.heap.objs.size = some { cls := Value.type "set", data := Data.set #[] 0 (SetTable.fresh 0 0 !w.params.followText "set-order") } := Heap.get?_push_size _ rfl
    have hT : Shared.TypeIs { heap := s.heap.push { cls := Value.type "set", data := Data.set #[] 0 (SetTable.fresh 0 0 !w.params.followText "set-order") }, gens := s.gens, drawn := s.drawn, toks := s.toks, os := s.os } (Value.ref s.heap.objs.size) "set" := ⟨_, hS, rfl⟩
    have hli := F.called_set.init.lookup
    have hbi := F.called_set.init.bind (Value.ref s.heap.objs.size)
    dsimp only
    refine wpAny_bind (wpAny_isInstance hT hsub (wpAny_ite_false (Eq.refl _) ?_))
    refine wpAny_bind (wpAny_holding ?_)
    unfold callSpecial?
    refine wpAny_bind (wpAny_specialOf hT hli (wpAny_holding ?_))
    dsimp only
    refine wpAny_bind (wpAny_of_eq hbi ?_)
    dsimp only
    refine wpAny_bind (wpAny_call (codeAny_mono (R := wants (fun v s' => v = Value.none ∧ ∃ h' tk c', s' = { heap := h', gens := s.gens, drawn := s.drawn, toks := tk, os := s.os } ∧ SetR w h' s.heap.objs.size (fun j => decide (j ∈ ns)) c' ∧ c' ≤ ns.length ∧ ∀ (b : Addr) (o : Obj), s.heap.get? b = some o → h'.get? b = some o) E)
      (codeAny_call_builtin F.called_set.init.plain F.entry_set_init (check_set_init_1 hT ?_)) fun r₂ s₂ hr₂ => ?_))
    · obtain ⟨⟨ocls, odict, odata, oslots⟩, hol, hcl, nl, hdl⟩ := hl
      cases hcl
      cases hdl
      have hol' : (s.heap.push { cls := Value.type "set", data := Data.set #[] 0 (SetTable.fresh 0 0 !w.params.followText "set-order") }).get? l = some _ := Heap.get?_push_of_some _ hol
      have hsls := F.sub_list_set
      have hslf := F.sub_list_frozenset
      have hl1 : (s.heap.push { cls := Value.type "set", data := Data.set #[] 0 (SetTable.fresh 0 0 !w.params.followText "set-order") }).IsList l items := ⟨_, hol', rfl, _, rfl⟩
      show wpAny _ _ (Builtin.«set.__init__» ⟨[Value.ref s.heap.objs.size, Value.ref l], []⟩) _ _ _
      unfold Builtin.«set.__init__»
      dsimp only
      refine wpAny_bind (wpAny_ite_true (Eq.refl _) (wpAny_pure ?_))
      refine wpAny_bind ?_
      unfold typeNameOfCut shownTypeOf
      refine wpAny_bind (wpAny_bind (wpAny_typeOf hT (wpAny_ite_false (Eq.refl _) (wpAny_pure ?_))))
      unfold typeNameCut typeName
      refine wpAny_pure ?_
      refine wpAny_bind ?_
      unfold checkCount
      refine wpAny_ite_false (Eq.refl _) (wpAny_ite_false (Eq.refl _) (wpAny_ite_false (Eq.refl _) (wpAny_pure ?_)))
      refine wpAny_bind ?_
      unfold Builtin.Frozenset.addrOf
      refine wpAny_pure ?_
      refine wpAny_bind ?_
      unfold setUsed
      refine wpAny_bind ?_
      unfold setState
      refine wpAny_bind (wpAny_load' hS ?_)
      dsimp only
      refine wpAny_ite_false (Eq.refl _) (wpAny_pure (wpAny_pure (wpAny_ite_false (Eq.refl _) ?_)))
      unfold Builtin.Frozenset.updateFrom Builtin.Frozenset.isAnySet
      have hTl : Shared.TypeIs { heap := s.heap.push { cls := Value.type "set", data := Data.set #[] 0 (SetTable.fresh 0 0 !w.params.followText "set-order") }, gens := s.gens, drawn := s.drawn, toks := s.toks, os := s.os } (Value.ref l) "list" := ⟨_, hol', rfl⟩
      refine wpAny_bind (wpAny_bind ?_)
      show wpAny _ _ (isInstance (Value.ref l) (Value.type "set") >>= _) _ _ _
      refine wpAny_bind (wpAny_isInstance hTl hsls ?_)
      show wpAny _ _ (isInstance (Value.ref l) (Value.type "frozenset")) _ _ _
      refine wpAny_isInstance hTl hslf ?_
      refine wpAny_ite_false (Eq.refl _) ?_
      refine wpAny_bind (wpAny_typeOf hTl (wpAny_ite_false (Eq.refl _) ?_))
      refine wpAny_bind (wpAny_pyIter_list hl1 ?_)
      refine wpAny_bind (wpAny_runValue ?_)
      have hlS := Heap.lt_size hol
      have hh3 : A.in1.in1.in1.handled = none := hh
      have hz1 := Heap.size_push s.heap { cls := Value.type "set", data := Data.set #[] 0 (SetTable.fresh 0 0 !w.params.followText "set-order") }
      have hneI : (show Addr from l) ≠ (s.heap.push { cls := Value.type "set", data := Data.set #[] 0 (SetTable.fresh 0 0 !w.params.followText "set-order") }).objs.size := by
        rw [hz1]
        exact Nat.ne_of_lt (Nat.lt_succ_of_lt hlS)
      have hSf : ¬ s.heap.objs.size ∈ [(s.heap.push { cls := Value.type "set", data := Data.set #[] 0 (SetTable.fresh 0 0 !w.params.followText "set-order") }).objs.size, l] := by
        rw [hz1]
        intro m
        rcases List.mem_cons.mp m with m | m
        · exact absurd m (Nat.ne_of_lt (Nat.lt_succ_self _))
        · exact absurd (List.mem_singleton.mp m) (Nat.ne_of_gt hlS)
      have hval : ∀ (i : Nat) (v : Value), items[i]? = some v → ∃ k t, ns[i]? = some k ∧ v = Value.int k t := fun i v hv => by
        have hi : i < ns.length := by
          rw [← hisz]
          exact (Array.getElem?_eq_some_iff.mp hv).1
        obtain ⟨t, e⟩ := hit.int_at (i := i) (v := v) (by rw [Array.getElem?_toList]; exact hv)
        refine ⟨_, t, List.getElem?_eq_getElem hi, ?_⟩
        rw [e, List.getD_eq_getElem?_getD, List.getElem?_eq_getElem hi]
        rfl
      have hget : ((s.heap.push { cls := Value.type "set", data := Data.set #[] 0 (SetTable.fresh 0 0 !w.params.followText "set-order") }).push { cls := Value.type "list_iterator", data := Data.fields #[Value.ref l, Value.int 0 0] }).get? s.heap.objs.size = some _ := Heap.get?_push_of_some _ hS
      refine set_update_ints (Walks.toS (Walks.list hh3 (s.heap.push { cls := Value.type "set", data := Data.set #[] 0 (SetTable.fresh 0 0 !w.params.followText "set-order") }).objs.size l hneI items)) s.heap.objs.size hSf ns hisz hb hval _ 0 _ rfl (Nat.zero_le _) ⟨⟨_, Heap.get?_push_size _ rfl, rfl, rfl⟩, hl1.push _⟩ ⟨0, Nat.le_refl _, setR_new_at hget⟩ ?_
      rintro ⟨h', g2, d', tk', os'⟩ c' hm hc' hS'
      have eg := hm.gens
      have ed := hm.drawn
      have eo := hm.os
      cases eg
      cases ed
      cases eo
      refine wpAny_pure (wpAny_pure ⟨rfl, h', tk', c', rfl, hS', hisz ▸ hc', fun b o e => ?_⟩)
      have hb0 := Heap.lt_size e
      have hb1 := Nat.ne_of_lt hb0
      refine hm.heap b o ?_ (Heap.get?_push_of_some _ (Heap.get?_push_of_some _ e))
      rw [hz1]
      intro m
      rcases List.mem_cons.mp m with m | m
      · exact hb1 m
      · exact absurd (List.mem_singleton.mp m) (Nat.ne_of_lt (Nat.lt_succ_of_lt hb0))
    · cases r₂ with
      | error e => exact hr₂
      | ok fl₂ =>
      cases fl₂ with
      | ret r =>
        obtain ⟨rfl, h', tk, c', rfl, hS', hc', hk'⟩ := hr₂
        refine wpAny_pure ?_
        dsimp only
        refine wpAny_ite_false (Eq.refl _) (wpAny_pure (h _ _ _ hS' hc' hk'))
      | _ => exact hr₂.elim
  | _ => exact hr.elim
section
variable {X : Cx}
def rSetL (K : PySem.W.Frag) (w : World) : List V → Hp → VK → Prop := fun vs H Q => ∃ (a : Addr) (ns : List Int), vs = [V.ref a] ∧ SqL K H a (ns.map V.int) ∧ ns.length ≤ 1000 ∧
  ∀ (q : Addr) (c : Nat), c ≤ ns.length → H q = none → Q (.ref q) (upd H q (SetO w q (fun j => decide (j ∈ ns)) c))
theorem cr_setL (hc : X.calm = true) : CallR X (.type "set") (rSetL X.K X.w) := by
  intro pins s σ H vs us Q I r h
  obtain ⟨a, ns, rfl, hs, hl, q⟩ := h
  obtain ⟨its, rv, hil, hz⟩ := I.list hs
  rw [Vals.ref1 r]
  refine call_set_listI ns (I.ok.hd hc) hil.isList (intsAre_of rv) ?_ fun h' tk c hS hle hk => ⟨.ref _, upd H s.heap.objs.size (SetO X.w s.heap.objs.size (fun j => decide (j ∈ ns)) c), I.laid (t' := tk) hk (Nat.le_refl _) (setO_new hS), rfl, q _ c hle (I.hok.fresh (Nat.le_refl _))⟩
  exact Nat.lt_of_le_of_lt (Nat.add_le_add_right hl 1) (by decide)
end
end KSL
namespace KSU
open PySem PySem.Spec PyProof.Rows L2 PySem.W
/-! ### sorted(xs), xs a list of tuples of ints of any lengths, the first of which is empty: a new list of the same ones -/
theorem perm_of_map {α β : Type} {f : α → β} {out xs : List β} (p : out.Perm xs) : ∀ l : List α, xs = l.map f → ∃ l' : List α, l'.Perm l ∧ out = l'.map f := by
  induction p with
  | nil =>
    intro l e
    cases l with
    | nil => exact ⟨[], .nil, rfl⟩
    | cons a l => cases e
  | @cons x l1 l2 p ih =>
    intro l e
    cases l with
    | nil => cases e
    | cons a l =>
      injection e with e1 e2
      obtain ⟨l', p', q⟩ := ih l e2
      exact ⟨a :: l', p'.cons a, by rw [e1, q, List.map_cons]⟩
  | swap x y l1 =>
    intro l e
    match l, e with
    | [], e => cases e
    | [_], e => cases e
    | a :: b :: l, e =>
      injection e with e1 e2
      injection e2 with e2 e3
      exact ⟨b :: a :: l, .swap _ _ _, by rw [e1, e2, e3, List.map_cons, List.map_cons]⟩
  | trans p1 p2 ih1 ih2 =>
    intro l e
    obtain ⟨l2, q2, e2⟩ := ih2 l e
    obtain ⟨l1, q1, e1⟩ := ih1 l2 e2
    exact ⟨l1, q1.trans q2, e1⟩
section
variable {prog : Program} {w : World} {A : Around} {E : Value → Shared → Prop} {s : Shared} {M : Model}
theorem mapM_wp {α β : Type} {f : α → Sem β} {R : α → β → Prop} : ∀ (l : List α) {Q : List β → Shared → Prop}, (∀ v ∈ l, ∀ Q' : β → Shared → Prop, (∀ r, R v r → Q' r s) → wpAny M A (f v) Q' E s) → (∀ rs, EachIs (fun r v => R v r) rs l → Q rs s) → wpAny M A (l.mapM f) Q E s
  | [], _, _, h => by rw [List.mapM_nil]; exact wpAny_pure (h _ .nil)
  | x :: l, Q, hf, h => by
    rw [List.mapM_cons]
    exact wpAny_bind (hf x (.head _) _ fun r hr => wpAny_bind (mapM_wp l (fun v hv => hf v (.tail _ hv)) fun rs e => wpAny_pure (h _ (.cons hr e))))
theorem first_wp {v : Value} {ns : List Int} (t : TS.TupInts s.heap v ns) (Q : Option Value → Shared → Prop) (h : ∀ r, (ns = [] → r = none) → Q r s) : wpAny M A (firstOfTuple' v) Q E s := by
  obtain ⟨a, xs, rfl, ⟨o, ho, hc, n, hd⟩, i⟩ := t
  rw [kas_first_eq]
  refine wpAny_bind (Looks.here (show Looks M s.heap (typeOf (.ref a)) o.cls from (Looks.ld ho).andThen .now) ?_)
  rw [hc, if_neg (by first | decide | simp)]
  refine wpAny_bind (listItems_at ho hd (wpAny_pure (h _ fun e => ?_)))
  subst e
  have l1 := i.length
  rw [Array.length_toList] at l1
  have : xs.size = 0 := l1
  simp [this]
theorem kind_tups {v0 : Value} {vs : List Value} {k : Value → List Int} (ht : ∀ v ∈ v0 :: vs, TS.TupInts s.heap v (k v)) (h0 : k v0 = []) (Q : SortKind → Shared → Prop) (h : Q oneType' s) : wpAny M A (keyKind' (v0 :: vs).toArray) Q E s := by
  have hT : ∀ v ∈ v0 :: vs, Looks M s.heap (typeOf v) (Value.type "tuple") := fun v hv => by
    obtain ⟨a, xs, rfl, ⟨o, ho, hc, n, hd⟩, i⟩ := ht v hv
    exact hc ▸ (show Looks M s.heap (typeOf (.ref a)) o.cls from (Looks.ld ho).andThen .now)
  rw [keyKind'_eq, List.mapM_toArray, map_eq_pure_bind]
  refine wpAny_bind (wpAny_bind (mapM_wp (R := fun v r => k v = [] → r = none) _ (fun v hv Q' hq => first_wp (ht v hv) Q' hq) fun rs e => wpAny_pure ?_))
  cases e with
  | @cons r _ rs' _ h1 h2 =>
    have e1 := h1 h0
    subst e1
    rw [if_neg (by simp), if_neg (by simp)]
    rw [oneTypeOnly'_eq, List.mapM_toArray, map_eq_pure_bind]
    refine wpAny_bind (wpAny_bind (wpAny_bind (kas_mapM (r := Value.type "tuple") _ (fun v hv Q' hq => (hT v hv).here hq) (wpAny_pure ?_))))
    have hall : ((List.map (fun _ => Value.type "tuple") (v0 :: vs)).toArray.all fun x => x == Value.type "tuple") = true := by
      simp only [List.all_toArray, List.all_map, List.all_eq_true]
      intro _ _
      rfl
    have h0 : (List.map (fun _ => Value.type "tuple") (v0 :: vs)).toArray[0]? = some (Value.type "tuple") := by simp
    rw [h0]
    simp only [hall, if_true]
    exact wpAny_pure (wpAny_pure h)
theorem oneLt_tups {x y : Value} {ns ms : List Int} {Q : Bool → Shared → Prop} (hu : A.units < cLine) (hx : TS.TupInts s.heap x ns) (hy : TS.TupInts s.heap y ms) (h : Q (HT.lexLt ns ms) s) : wpAny (model prog w) A (oneLt' true x y) Q E s := by
  obtain ⟨l, items, rfl, ⟨⟨cls, dd, data, sl⟩, ho, hc, n, hd⟩, hi⟩ := hx
  obtain ⟨b, items2, rfl, ⟨⟨cls2, dd2, data2, sl2⟩, ho2, hc2, n2, hd2⟩, hj⟩ := hy
  simp only at hc hd hc2 hd2
  subst hc hd hc2 hd2
  rw [oneLt'_eq]
  simp only [if_true]
  refine wpAny_bind (wpAny_cRoomFor hu ?_)
  refine wpAny_bind (wpAny_callSpecialIfBound?_slot ⟨_, ho, rfl⟩ PySem.F.slot_tuple_lt (call_meets PySem.F.slot_tuple_lt ⟨_, ho, rfl⟩ PySem.F.entry_tuple_lt (PySem.F.args_tuple_lt_2 _ _) (HT.tuple_lt_ints l b items items2 n n2 dd dd2 sl sl2 ns ms hi hj) ⟨ho, ho2, ?_⟩))
  exact wpAny_truthy_bool h
theorem sortable {a : Addr} {v0 : Value} {vs : List Value} {k : Value → List Int} (hu : A.units < cLine) (ht : ∀ v ∈ v0 :: vs, TS.TupInts s.heap v (k v)) (h0 : k v0 = []) (ha : ∀ o, s.heap.get? a = some o → o.cls ≠ .type "tuple") :
    SrtO.SortableO prog w A s a (v0 :: vs) fun v u => HT.lexLt (k v) (k u) := by
  intro h' keep
  have ht' : ∀ v ∈ v0 :: vs, TS.TupInts h' v (k v) := fun v hm => (ht v hm).keeps fun b o e c => keep b o (fun z => by subst z; exact ha o e c) e
  refine ⟨oneType', fun Q E hq => kind_tups (s := { s with heap := h' }) ht' h0 Q hq, fun p q hp hq => ?_⟩
  show wpAny (model prog w) A (keyLt' oneType' p.1 q.1) _ _ _
  rw [keyLt'_oneType]
  exact oneLt_tups hu (ht' _ hp) (ht' _ hq) ⟨rfl, rfl⟩
end
section
variable {X : Cx}
theorem refs_each : ∀ (bs : List (Addr × List Int)) {us : List Value}, Vals (bs.map fun b => V.ref b.1) us → us = bs.map fun b => Value.ref b.1
  | [], _, r => by cases r; rfl
  | b :: bs, _, r => by
    cases r with
    | cons r1 r2 => rw [refs_each bs r2]; cases r1; rfl
theorem each_refs : ∀ (bs : List (Addr × List Int)), Vals (bs.map fun b => V.ref b.1) (bs.map fun b => Value.ref b.1)
  | [] => .nil
  | b :: bs => .cons rfl (each_refs bs)
def rSortedL (K : PySem.W.Frag) : List V → Hp → VK → Prop := fun vs H Q => ∃ (a p0 : Addr) (bs : List (Addr × List Int)), vs = [V.ref a] ∧ SqL K H a (((p0, []) :: bs).map fun b => V.ref b.1) ∧ (∀ b ∈ ((p0, []) :: bs : List (Addr × List Int)), H b.1 = some (.tup (b.2.map V.int))) ∧
  ∀ (bs' : List (Addr × List Int)) (q : Addr), bs'.Perm ((p0, []) :: bs) → H q = none → Q (.ref q) (upd H q (.lst (bs'.map fun b => V.ref b.1)))
theorem cr_sortedL (hu : X.A.units + 4 < cLine) : CallR X (.builtin "sorted") (rSortedL X.K) := by
  intro pins s σ H vs us Q I r h
  obtain ⟨a, p0, bs, rfl, hs, hx, q⟩ := h
  obtain ⟨its, rv, hl, hz⟩ := I.list hs
  rw [Vals.ref1 r]
  have ei := refs_each _ rv
  subst ei
  have ht : ∀ b ∈ ((p0, []) :: bs : List (Addr × List Int)), TS.TupInts s.heap (Value.ref b.1) b.2 := fun b hb => by
    obtain ⟨_, its2, r2, o, ho, hc, n, hd⟩ := I.hok _ _ (hx b hb)
    exact ⟨_, _, rfl, ⟨o, ho, hc, n, hd⟩, intsAre_of r2⟩
  have hk : ∀ v ∈ (((p0, []) :: bs : List (Addr × List Int)).map fun b => Value.ref b.1), TS.TupInts s.heap v (TS.intsOf s.heap v) := fun v hv => by
    obtain ⟨b, hb, rfl⟩ := List.mem_map.mp hv
    rw [(ht b hb).ints]
    exact ht b hb
  have hk0 : TS.intsOf s.heap (Value.ref p0) = [] := (ht (p0, []) List.mem_cons_self).ints
  refine SrtO.sorted_ord (ltv := fun v u => HT.lexLt (TS.intsOf s.heap v) (TS.intsOf s.heap u)) (NtL.swo_lexL _) hl.isList (by rw [← rv.length]; exact hz) (fun h2 h₁ a ha kk => ?_) fun out hs2 hb => ?_
  · refine sortable (s := { s with heap := h₁ }) (show X.A.units + 2 < cLine by omega) (fun v hv => (hk v hv).keeps fun b o e _ => (kk b o e).2) hk0 fun o e => ?_
    have e' : some o = some (seqObj "list" _ 0) := e.symm.trans ha
    cases e'
    intro c
    exact absurd (Value.type.inj c) (by decide)
  · obtain ⟨bs', pm, rfl⟩ := perm_of_map hb.perm _ rfl
    obtain ⟨ep, he'⟩ := PyProof.Rows.sortedAll_at s.heap (((p0, []) :: bs : List (Addr × List Int)).map fun b => Value.ref b.1) (bs'.map fun b => Value.ref b.1).toArray
    refine ⟨.ref _, upd H (s.heap.objs.size + 1) (.lst (bs'.map fun b => V.ref b.1)), I.laid (t' := s.toks) (fun _ _ => PyProof.Rows.sortedAll_old) (Nat.le_succ _) ⟨?_, _, ep, each_refs bs', he'⟩, rfl, q _ _ pm (I.hok.fresh (Nat.le_succ _))⟩
    have l1 := pm.length_eq
    rw [List.length_map, l1]
    rw [List.length_map] at hz
    exact hz
end
end KSU
namespace K47
open PySem PySem.Spec PyProof.Rows L2 PySem.W LamX KA KW KU KL KT
open Evl (pss_cut tCut)
/-! ### all whole sets -/
theorem subs_len : ∀ n, (subs n).length = 2 ^ n
  | 0 => rfl
  | n + 1 => by
    show (subs n ++ (subs n).map (· ++ [n])).length = _
    rw [List.length_append, List.length_map, subs_len n, Nat.pow_succ]
    omega
theorem subs_few {n : Nat} (h : n ≤ 10) : (subs n).length ≤ 1024 := by
  rw [subs_len]
  exact Nat.pow_le_pow_right (by decide) h
theorem sub_len {n : Nat} {s : List Nat} (h : s ∈ subs n) : s.length ≤ n := by
  have e := asc_filter h
  rw [e]
  exact Nat.le_trans (List.length_filter_le _ _) (by rw [List.length_range]; exact Nat.le_refl _)
theorem sub_lot {n : Nat} {s : List Nat} (h : s ∈ subs n) : lotB n s = true := lotB_iff.mpr ((mem_subs n s).mp h)
theorem good_len {rows : List (List Nat)} (h : webAns (some rows) = .good) : 1 ≤ rows.length ∧ rows.length ≤ 10 := by
  refine Decidable.byContradiction fun q => ?_
  have e : webAns (some rows) = .whole := by
    show (if ¬ (1 ≤ rows.length ∧ rows.length ≤ 10) then At.whole else _) = _
    rw [if_pos q]
  rw [e] at h
  cases h
def spWholeSets : Sp := fun vs H Q _ => ∃ (x : V) (rows : List (List Nat)), vs = [x] ∧ Wv H x rows ∧ rows.length ≤ 10 ∧ (∀ r ∈ rows, r.length ≤ 1000) ∧ ∀ q ws H', Same H H' → H q = none → H' q = some (.lst ws) → RL NV H' ws (wholes rows) → Q (.ref q) H'
/-- gains, good ones -/
def Gv (H : Hp) (x : V) (g : List Int) : Prop := ∃ a, x = .ref a ∧ (H a = some (.lst (g.map V.int)) ∨ H a = some (.tup (g.map V.int)))
theorem Gv.keep {H H' : Hp} {x : V} {g : List Int} (h : Gv H x g) (s : Same H H') : Gv H' x g := by
  obtain ⟨a, rfl, e⟩ := h
  exact ⟨a, rfl, e.imp (s _ _) (s _ _)⟩
def spGainOf : Sp := fun vs H Q _ => ∃ (x : V) (b : Addr) (g : List Int) (s : List Nat), vs = [x, .ref b] ∧ Gv H x g ∧ H b = some (.tup (NV s)) ∧ s.length ≤ 1000 ∧ (∀ f ∈ s, f < g.length) ∧ ∀ H', Same H H' → Q (.int (gain g s)) H'
section
variable {P : Program} {w : World} {K : PySem.W.Frag} {mg : Str → Option Value} {base : Heap} (T : Top K mg)
theorem ok_whole_sets : FnOk P w K mg base (L2.CX P w) 5 T.whole_sets.a T.whole_sets.d ["web"] spWholeSets := by
  refine T.whole_sets.f.okX sc_whole_sets (fun vs H Q E h => ?_) (fun cdv A outer s H vs Q E hr h => ?_)
  · obtain ⟨x, rows, rfl, _⟩ := h
    rfl
  · obtain ⟨x, rows, rfl, hw, hl, l2, k⟩ := h
    refine ⟨_, (pss_cons (ps_set (i := 1) sc_whole_sets.nd rfl (by first | exact .inl rfl | exact .inr rfl) (pe_lst (pa_cons (pe_tup pa_nil) pa_nil)))
      (pss_cons (ps_for (passes_of rfl) rfl (pi_range1 (by rfl) T.b_range (pa_cons (pe_callB call_len_seq (by rfl) T.b_len PySem.boot_len (pa_cons (pv 0) pa_nil)) pa_nil)) (pg_name (i := 2) sc_whole_sets.nd rfl (by first | exact .inl rfl | exact .inr rfl))
        (pss_one (ps_set (i := 1) sc_whole_sets.nd rfl (by first | exact .inl rfl | exact .inr rfl) (pe_op op_cat (pv 1) (pe_lc (own := [("chosen", 3)]) (g := (gName 3)) (tt := tYes) rfl sc_whole_sets.nd (pi_list (pv 1)) (blkOk_by (own := [("chosen", 3)]) (N := ["web", "found", "frame", "chosen"]) (sc := defScope s_whole_sets) (by decide +kernel)) (fun _ _ _ _ _ => pg_name (i := 3) sc_whole_sets.nd rfl (Or.inl rfl)) (fun _ _ _ _ _ => pts_nil) (fun _ _ _ _ _ => (pe_op (show OpR _ _ (rCatA K) from op_catA) (pv 3) (pe_tup (pa_cons (pv 2) pa_nil)))))))))
      (pss_one (ps_ret (pe_lc (own := [("chosen", 3)]) (g := (gName 3)) rfl sc_whole_sets.nd (pi_list (pv 1)) (blkOk_by (own := [("chosen", 3)]) (N := ["web", "found", "frame", "chosen"]) (sc := defScope s_whole_sets) (by decide +kernel)) (fun _ _ _ _ _ => pg_name (i := 3) sc_whole_sets.nd rfl (Or.inl rfl)) (fun _ _ _ _ _ => pts_one (pt_val (pe_call (ok_is_whole T) (hr.mono (by decide)) (by rfl) T.is_whole.m T.is_whole.f.kp (bd_is_whole T) .nil passE (pa_cons (pv 0) (pa_cons (pv 3) pa_nil))))) (fun _ _ _ _ _ => (pv 3))))))), ?_⟩
    obtain ⟨a, ws, rfl, ha, rl⟩ := id hw
    have hlen := rl.1
    refine ⟨(by show 0 ≤ sizeLine; decide), fun e0 he0 => ⟨(by show 1 ≤ sizeLine; decide), fun q0 hq0 => ?_⟩⟩
    have t0 := Same.new (o := .tup []) he0
    have t1 := Same.new (o := .lst [.ref e0]) hq0
    have s1 := t0.trans t1
    have rl0 : RL NV (upd (upd H e0 (.tup [])) q0 (.lst [.ref e0])) [.ref e0] (subs 0) := .one ⟨e0, rfl, t1 _ _ upd_same⟩
    have eq0 : (upd (upd H e0 (.tup [])) q0 (.lst [.ref e0])) q0 = some (.lst [.ref e0]) := upd_same
    have hq0' : H q0 = none := t0.free hq0
    generalize upd (upd H e0 (.tup [])) q0 (.lst [.ref e0]) = H1 at s1 rl0 eq0
    clear t0 t1 he0 hq0
    refine ⟨_, rfl, a, ws, rfl, ha.imp (fun e => SqL.of (s1 _ _ e)) (fun e => SqT.of (s1 _ _ e)), _, rfl, by omega, by omega, ?_⟩
    rw [Int.toNat_natCast]
    refine for_it (walk_rangeN (n := ws.length)) (fun i σ H' => ∃ v2 q us, σ = [some (.ref a), some (.ref q), v2, none] ∧ H' q = some (.lst us) ∧ RL NV H' us (subs i) ∧ Same H H') ⟨none, q0, _, rfl, eq0, rl0, s1⟩ (fun _ _ _ _ _ => trivial) ?_ ?_
    · rintro i x σ H2 H3 hi ⟨v2, q, us, rfl, e2, r2, s2⟩ ⟨rfl, rfl⟩
      refine ⟨_, rfl, _, rfl, q, rfl, ⟨_, SqL.of e2⟩, fun D hD => ?_⟩
      have few : (subs i).length ≤ 1024 := subs_few (by omega)
      refine lcR (walk_list (K := K) (a := q) (xs := us)) NV (subs i) (fun _ => true) (fun s => s ++ [i]) r2.1 hD (fun H' s' => SqL.of (s' _ _ e2)) (by omega) yAt_same ?_ ?_
      · rintro j y s H4 H5 N R hs s4 ⟨rfl, hy⟩ ky kn
        obtain ⟨p, s', rfl, es, hp⟩ := r2.get hy
        rw [hs] at es
        cases es
        have hp4 := s4 _ _ hp
        refine ⟨rfl, ?_⟩
        dsimp only [tYes]
        rw [if_pos rfl]
        refine ⟨_, rfl, _, rfl, (by show 1 ≤ sizeLine; decide), fun p2 hp2 => ?_⟩
        have t5 := Same.new (o := .tup [V.int ((i : Nat) : Int)]) hp2
        have lim : s.length ≤ i := sub_len (List.mem_of_getElem? hs)
        refine ⟨p, p2, NV s, [V.int ((i : Nat) : Int)], rfl, rfl, SqT.of (t5 _ _ hp4), SqT.of upd_same, ?_, fun z => ?_, fun _ z => ?_, fun z _ p3 hp3 => ?_⟩
        · rw [NV_len]
          exact Nat.le_trans (show s.length + 1 ≤ 1000 by omega) (by decide)
        · refine ky rfl _ _ t5 ⟨p2, rfl, ?_⟩
          have : s = [] := by
            cases s with
            | nil => rfl
            | cons _ _ => cases z
          rw [this]
          exact upd_same
        · cases z
        · refine ky rfl _ _ (t5.trans (Same.new hp3)) ⟨p3, rfl, ?_⟩
          rw [upd_same]
          unfold NV
          rw [List.map_append]
          rfl
      · intro H4 vs4 s4 e4 r4
        rw [filter_yes] at r4
        have u4 := s4 _ _ e2
        have ru4 := r2.same s4
        refine ⟨q, D, us, vs4, rfl, rfl, u4, e4, ?_, fun p hp => ?_⟩
        · have l1 := ru4.1
          have l2' := r4.1
          rw [List.length_map] at l2'
          exact Nat.le_trans (show _ ≤ 2048 by omega) (by decide)
        · have t5 := Same.new (o := .lst (us ++ vs4)) hp
          exact ⟨_, p, us ++ vs4, rfl, upd_same, (ru4.append r4).same t5, (s2.trans s4).trans t5⟩
    · rintro σ H2 ⟨v2, q, us, rfl, e2, r2, s2⟩
      rw [hlen] at r2
      have few : (subs rows.length).length ≤ 1024 := subs_few hl
      refine ⟨_, rfl, q, rfl, ⟨_, SqL.of e2⟩, fun D hD => ?_⟩
      refine lcR (walk_list (K := K) (a := q) (xs := us)) NV (subs rows.length) (wholeB rows) id r2.1 hD (fun H' s' => SqL.of (s' _ _ e2)) (by omega) yAt_same ?_ ?_
      · rintro j y s H4 H5 N R hs s4 ⟨rfl, hy⟩ ky kn
        obtain ⟨p, s', rfl, es, hp⟩ := r2.get hy
        rw [hs] at es
        cases es
        have ms := List.mem_of_getElem? hs
        have lim : s.length ≤ rows.length := sub_len ms
        refine ⟨rfl, ?_⟩
        refine ⟨_, rfl, _, rfl, _, rows, p, s, rfl, hw.keep (s2.trans s4), by omega, l2, s4 _ _ hp, by omega, ((mem_subs _ _).mp ms).2, fun H6 s6 => ⟨_, rfl, ?_⟩⟩
        rw [sub_lot ms, Bool.true_and]
        cases hc : wholeB rows s with
        | true => exact iteT ⟨_, rfl, ky hc _ _ s6 ⟨p, rfl, s6 _ _ (s4 _ _ hp)⟩⟩
        | false => exact iteF (kn hc _ s6)
      · intro H4 vs4 s4 e4 r4
        rw [List.map_id] at r4
        exact k D vs4 H4 (s2.trans s4) (s2.free hD) e4 r4
theorem ok_gain_of : FnOk P w K mg base (L2.CX P w) 1 T.gain_of.a T.gain_of.d ["gains", "chosen"] spGainOf := by
  refine T.gain_of.f.okX sc_gain_of (fun vs H Q E h => ?_) (fun cdv A outer s H vs Q E hr h => ?_)
  · obtain ⟨x, b, g, s, rfl, _⟩ := h
    rfl
  · obtain ⟨x, b, g, s, rfl, hg, hb, hs, hlt, k⟩ := h
    refine ⟨_, (pss_one (ps_ret (pe_callB (cr_sum rfl) (by rfl) T.b_sum (by decide +kernel) (pa_cons (pe_lc (own := [("frame", 2)]) (g := (gName 2)) (tt := tYes) rfl sc_gain_of.nd (pi_tup (pv 1)) (blkOk_by (own := [("frame", 2)]) (N := ["gains", "chosen", "frame"]) (sc := defScope s_gain_of) (by decide +kernel)) (fun _ _ _ _ _ => pg_name (i := 2) sc_gain_of.nd rfl (Or.inl rfl)) (fun _ _ _ _ _ => pts_nil) (fun _ _ _ _ _ => (pe_ix (show IxR _ (rIx K) from ix_seq) (pv 0) (pv 2) (fun _ _ => rfl)))) pa_nil)))), ?_⟩
    obtain ⟨a, rfl, ha⟩ := hg
    refine ⟨_, rfl, b, rfl, ⟨_, SqT.of hb⟩, fun D hD => ?_⟩
    refine lcP (walk_tup (K := K) (a := b) (xs := NV s)) s (fun _ => true) (fun f => V.int (gat g f)) (NV_len s) hD (fun H' s' => SqT.of (s' _ _ hb)) (Nat.le_trans hs (by decide)) yAt_same ?_ ?_
    · rintro i x m H1 H2 N R hm s1 ⟨rfl, hx⟩ hy hn
      rw [NV_get hm] at hx
      cases hx
      refine ⟨rfl, ?_⟩
      dsimp only [tYes]
      rw [if_pos rfl]
      have eg : (g.map V.int)[m]? = some (V.int (gat g m)) := by
        unfold gat
        rw [List.getElem?_map, List.getD_eq_getElem?_getD, List.getElem?_eq_getElem (hlt m (List.mem_of_getElem? hm))]
        rfl
      exact ⟨_, rfl, _, rfl, ix_either (K := K) (ha.imp (s1 _ _) (s1 _ _)) eg (hy rfl _ fun _ _ e => e)⟩
    · intro H1 s1 e1
      rw [filter_yes] at e1
      have e1 : H1 D = some (.lst ((s.map (gat g)).map V.int)) := by rw [e1, List.map_map]; rfl
      exact ⟨D, _, rfl, SqL.of e1, k H1 s1⟩
end
end K47
namespace K47
open PySem PySem.Spec PyProof.Rows L2 PySem.W LamX KA KW KU KL KT
open Evl (pss_cut tCut)
/-! ### the greatest gain, the best sets -/
/-- the answers to a web and gains: an error's, or what a good pair has -/
def Asked (K : PySem.W.Frag) (CB CG : Addr) (H : Hp) (x y : V) (E : XK) (good : List (List Nat) → List Int → Prop) : Prop :=
  (∃ o, Wb H x o ∧ webAns o ≠ .good ∧ ∀ H' d, Same H H' → H' d = none → E (.ref CB) (some d) (upd H' d (.xd [("at", webX (webAns o))]))) ∨
  (∃ rows p, Wv H x rows ∧ (∀ r ∈ rows, r.length ≤ 1000) ∧ webAns (some rows) = .good ∧ Gn K H y p ∧ numsB rows.length (-mostG) mostG p = false ∧ ∀ H', Same H H' → E (.ref CG) none H') ∨
  (∃ rows g, Wv H x rows ∧ (∀ r ∈ rows, r.length ≤ 1000) ∧ webAns (some rows) = .good ∧ Gv H y g ∧ g.length = rows.length ∧ (∀ i ∈ g, -mostG ≤ i ∧ i ≤ mostG) ∧ good rows g)
def spGreatest (K : PySem.W.Frag) (CB CG : Addr) : Sp := fun vs H Q E => ∃ x y, vs = [x, y] ∧ Asked K CB CG H x y E fun rows g => ∀ H', Same H H' → Q (.int (topG rows g)) H'
/-- two tuples in a tuple -/
def Two (H : Hp) (v : V) (s t : List Nat) : Prop := ∃ p a b, v = .ref p ∧ H p = some (.tup [.ref a, .ref b]) ∧ H a = some (.tup (NV s)) ∧ H b = some (.tup (NV t))
def spBestOf : Sp := fun vs H Q _ => ∃ x y rows g, vs = [x, y] ∧ Wv H x rows ∧ rows.length ≤ 10 ∧ (∀ r ∈ rows, r.length ≤ 1000) ∧ Gv H y g ∧ g.length = rows.length ∧ ∀ v H', Same H H' → Two H' v (leastL rows g) (mostL rows g) → Q v H'
def spBestSets (K : PySem.W.Frag) (CB CG : Addr) : Sp := fun vs H Q E => ∃ x y, vs = [x, y] ∧ Asked K CB CG H x y E fun rows g => ∀ v H', Same H H' → Two H' v (leastL rows g) (mostL rows g) → Q v H'
theorem good_gn {K : PySem.W.Frag} {H : Hp} {y : V} {g : List Int} {rows : List (List Nat)} (h : Gv H y g) (hl : g.length = rows.length) (hn : rows.length ≤ 10) (hb : ∀ i ∈ g, -mostG ≤ i ∧ i ≤ mostG) : Gn K H y (some (g.map V.int)) ∧ numsB rows.length (-mostG) mostG (some (g.map V.int)) = true := by
  obtain ⟨a, rfl, e⟩ := h
  refine ⟨.some e (fun x hx => ?_) (by rw [List.length_map]; omega), ?_⟩
  · obtain ⟨i, _, rfl⟩ := List.mem_map.mp hx
    exact ⟨true, .int i⟩
  · show (decide ((g.map V.int).length = rows.length) && (g.map V.int).all fun x => within x (-mostG) mostG) = true
    rw [List.length_map, decide_eq_true hl, Bool.true_and, List.all_eq_true]
    intro x hx
    obtain ⟨i, hi, rfl⟩ := List.mem_map.mp hx
    have := hb i hi
    show (decide (_ ≤ i) && decide (i ≤ _)) = true
    rw [Bool.and_eq_true, decide_eq_true_eq, decide_eq_true_eq]
    exact this
theorem wholes_few {rows : List (List Nat)} (h : rows.length ≤ 10) : (wholes rows).length ≤ 1024 := Nat.le_trans (List.length_filter_le _ _) (subs_few h)
theorem wholes_ne (rows : List (List Nat)) : wholes rows ≠ [] := List.ne_nil_of_mem (nil_wholes rows)
/-- the first place of an item -/
theorem first_of : ∀ (L : List Int) (m : Int), m ∈ L → ∃ j : Nat, L[j]? = some m ∧ ∀ (i : Nat) (z : Int), i < j → L[i]? = some z → z ≠ m
  | [], _, h => nomatch h
  | x :: L, m, h => by
    by_cases c : x = m
    · exact ⟨0, by rw [c]; rfl, fun i z hi _ => absurd hi (Nat.not_lt_zero _)⟩
    · obtain ⟨j, h1, h2⟩ := first_of L m ((List.mem_cons.mp h).resolve_left fun e => c e.symm)
      refine ⟨j + 1, h1, fun i z hi hz => ?_⟩
      cases i with
      | zero =>
        have : x = z := by simpa using hz
        exact this ▸ c
      | succ i => exact h2 i z (by omega) (by simpa using hz)
theorem index_of {K : PySem.W.Frag} {a : Addr} {L : List Int} {m : Int} {H : Hp} {Q : VK} (e : H a = some (.lst (L.map V.int))) (hm : m ∈ L) (k : ∀ j : Nat, L[j]? = some m → Q (.int (j : Int)) H) : rIndex K (.ref a) [.int m] H Q := by
  obtain ⟨j, h1, h2⟩ := first_of L m hm
  refine ⟨a, _, .int m, j, .int m, rfl, rfl, SqL.of e, rfl, ?_, by rw [List.getElem?_map, h1]; rfl, beq_self_eq_true m, fun i z hi hz => ?_, k j h1⟩
  · rw [List.all_eq_true]
    intro x hx
    obtain ⟨i, _, rfl⟩ := List.mem_map.mp hx
    rfl
  · rw [List.getElem?_map] at hz
    cases e2 : L[i]? with
    | none => rw [e2] at hz; cases hz
    | some y =>
      rw [e2] at hz
      cases hz
      have := h2 i y hi e2
      show (y == m) = false
      exact beq_eq_false_iff_ne.mpr this
section
variable {P : Program} {w : World} {K : PySem.W.Frag} {mg : Str → Option Value} {base : Heap} (T : Top K mg) (BW : BadWebT P w K mg T.reel.C)
theorem asked_check {H : Hp} {x y : V} {E : XK} {good : List (List Nat) → List Int → Prop} {Q : VK} (h : Asked K BW.C T.BadGains.C H x y E good)
    (k : ∀ rows g, Wv H x rows → (∀ r ∈ rows, r.length ≤ 1000) → rows.length ≤ 10 → Gv H y g → g.length = rows.length → good rows g → ∀ H', Same H H' → Q .non H') : spCheckGains K BW.C T.BadGains.C [x, y] H Q E := by
  rcases h with ⟨o, hw, hg, k1⟩ | ⟨rows, p, hw, l2, hg, gn, nb, k1⟩ | ⟨rows, g, hw, l2, hg, gv, gl, gb, k1⟩
  · exact ⟨x, y, o, rfl, hw, fun _ => k1, fun z => absurd z hg⟩
  · have gl := good_len hg
    exact ⟨x, y, some rows, rfl, .some hw (by omega) l2, fun z => absurd hg z, fun _ => ⟨rows, p, rfl, gn, fun z => absurd (nb.symm.trans z) Bool.false_ne_true, fun _ => k1⟩⟩
  · have gl' := good_len hg
    obtain ⟨gn, nb⟩ := good_gn (K := K) gv gl gl'.2 gb
    exact ⟨x, y, some rows, rfl, .some hw (by omega) l2, fun z => absurd hg z, fun _ => ⟨rows, _, rfl, gn, fun _ => k rows g hw l2 gl'.2 gv gl k1, fun z => absurd (nb.symm.trans z) (fun q => Bool.noConfusion q)⟩⟩
theorem ok_greatest_gain : FnOk P w K mg base (L2.CX P w) 6 T.greatest_gain.a T.greatest_gain.d ["web", "gains"] (spGreatest K BW.C T.BadGains.C) := by
  refine T.greatest_gain.f.okX sc_greatest_gain (fun vs H Q E h => ?_) (fun cdv A outer s H vs Q E hr h => ?_)
  · obtain ⟨x, y, rfl, _⟩ := h
    rfl
  · obtain ⟨x, y, rfl, h⟩ := h
    refine ⟨_, (pss_cons (ps_expr (pe_call (ok_check_gains T BW) (hr.mono (by decide)) (by rfl) T.check_gains.m T.check_gains.f.kp (bd_check_gains T) .nil (passX rfl rfl rfl rfl) (pa_cons (pv 0) (pa_cons (pv 1) pa_nil))))
      (pss_one (ps_ret (pe_callB (cr_max rfl) (by rfl) T.b_max (by decide +kernel) (pa_cons (pe_lc (own := [("chosen", 2)]) (g := (gName 2)) (tt := tYes) rfl sc_greatest_gain.nd (pi_list (pe_call (ok_whole_sets T) (hr.mono (by decide)) (by rfl) T.whole_sets.m T.whole_sets.f.kp (bd_whole_sets T) .nil passE (pa_cons (pv 0) pa_nil))) (blkOk_by (own := [("chosen", 2)]) (N := ["web", "gains", "chosen"]) (sc := defScope s_greatest_gain) (by decide +kernel)) (fun _ _ _ _ _ => pg_name (i := 2) sc_greatest_gain.nd rfl (Or.inl rfl)) (fun _ _ _ _ _ => pts_nil) (fun _ _ _ _ _ => (pe_call (ok_gain_of T) (hr.mono (by decide)) (by rfl) T.gain_of.m T.gain_of.f.kp (bd_gain_of T) .nil passE (pa_cons (pv 1) (pa_cons (pv 2) pa_nil))))) pa_nil))))), ?_⟩
    refine ⟨_, rfl, _, rfl, ?_⟩
    dsimp only [tNil]
    refine asked_check T BW h fun rows g hw l2 hl gv gl k H1 s1 => ?_
    refine ⟨_, rfl, _, rows, rfl, hw.keep s1, hl, l2, fun q ws H2 s2 _ e2 r2 => ⟨q, rfl, ⟨_, SqL.of e2⟩, fun D hD => ?_⟩⟩
    refine lcP (walk_list (K := K) (a := q) (xs := ws)) (wholes rows) (fun _ => true) (fun s => V.int (gain g s)) r2.1 hD (fun H' s' => SqL.of (s' _ _ e2)) (Nat.le_trans (wholes_few hl) (by decide)) yAt_same ?_ ?_
    · rintro i z s H3 H4 N R hs s3 ⟨rfl, hz⟩ ky kn
      obtain ⟨p, s', rfl, es, hp⟩ := r2.get hz
      rw [hs] at es
      cases es
      have ms := (mem_wholes.mp (List.mem_of_getElem? hs)).1
      refine ⟨rfl, ?_⟩
      dsimp only [tYes]
      rw [if_pos rfl]
      exact ⟨_, rfl, _, rfl, y, p, g, s, rfl, gv.keep ((s1.trans s2).trans s3), s3 _ _ hp, Nat.le_trans (sub_len ((mem_subs _ _).mpr ms)) (by omega), fun f hf => gl ▸ ms.2 f hf, fun H5 s5 => ky rfl _ s5⟩
    · intro H3 s3 e3
      rw [filter_yes] at e3
      have e3 : H3 D = some (.lst (((wholes rows).map (gain g)).map V.int)) := by rw [e3, List.map_map]; rfl
      refine ⟨D, _, rfl, SqL.of e3, ?_, fun m hm hmax => ?_⟩
      · rw [List.length_map]
        exact List.length_pos_iff.mpr (wholes_ne rows)
      · rw [maxI_eq hm hmax]
        exact k H3 ((s1.trans s2).trans s3)
theorem ok_best_of : FnOk P w K mg base (L2.CX P w) 6 T.best_of.a T.best_of.d ["web", "gains"] spBestOf := by
  refine T.best_of.f.okX sc_best_of (fun vs H Q E h => ?_) (fun cdv A outer s H vs Q E hr h => ?_)
  · obtain ⟨x, y, rows, g, rfl, _⟩ := h
    rfl
  · obtain ⟨x, y, rows, g, rfl, hw, hl, l2, gv, gl, k⟩ := h
    refine ⟨_, (pss_cons (ps_set (i := 2) sc_best_of.nd rfl (by first | exact .inl rfl | exact .inr rfl) (pe_call (ok_whole_sets T) (hr.mono (by decide)) (by rfl) T.whole_sets.m T.whole_sets.f.kp (bd_whole_sets T) .nil passE (pa_cons (pv 0) pa_nil)))
      (pss_cons (ps_set (i := 3) sc_best_of.nd rfl (by first | exact .inl rfl | exact .inr rfl) (pe_callB (cr_max rfl) (by rfl) T.b_max (by decide +kernel) (pa_cons (pe_lc (own := [("chosen", 6)]) (g := (gName 6)) (tt := tYes) rfl sc_best_of.nd (pi_list (pv 2)) (blkOk_by (own := [("chosen", 6)]) (N := ["web", "gains", "sets", "most", "best", "many", "chosen"]) (sc := defScope s_best_of) (by decide +kernel)) (fun _ _ _ _ _ => pg_name (i := 6) sc_best_of.nd rfl (Or.inl rfl)) (fun _ _ _ _ _ => pts_nil) (fun _ _ _ _ _ => (pe_call (ok_gain_of T) (hr.mono (by decide)) (by rfl) T.gain_of.m T.gain_of.f.kp (bd_gain_of T) .nil passE (pa_cons (pv 1) (pa_cons (pv 6) pa_nil))))) pa_nil)))
      (pss_cons (ps_setLc (i := 4) (own := [("chosen", 6)]) (g := (gName 6)) rfl sc_best_of.nd rfl rfl (sw_true rfl rfl rfl (by decide +kernel)) (pi_list (pv 2)) (blkOk_by (own := [("chosen", 6)]) (N := ["web", "gains", "sets", "most", "best", "many", "chosen"]) (sc := defScope s_best_of) (by decide +kernel)) (fun _ _ _ _ _ => pg_name (i := 6) sc_best_of.nd rfl (Or.inl rfl)) (fun _ _ _ _ _ => pts_one (pt_cmpR op_eq (pe_call (ok_gain_of T) (hr.mono (by decide)) (by rfl) T.gain_of.m T.gain_of.f.kp (bd_gain_of T) .nil passE (pa_cons (pv 1) (pa_cons (pv 6) pa_nil))) (pv 3) (nomark _))) (fun _ _ _ _ _ => (pv 6)))
      (pss_cons (ps_setLc (i := 5) (own := [("chosen", 6)]) (g := (gName 6)) (tt := tYes) rfl sc_best_of.nd rfl rfl (sw_true rfl rfl rfl (by decide +kernel)) (pi_list (pv 4)) (blkOk_by (own := [("chosen", 6)]) (N := ["web", "gains", "sets", "most", "best", "many", "chosen"]) (sc := defScope s_best_of) (by decide +kernel)) (fun _ _ _ _ _ => pg_name (i := 6) sc_best_of.nd rfl (Or.inl rfl)) (fun _ _ _ _ _ => pts_nil) (fun _ _ _ _ _ => (pe_callB (show CallR _ _ (rLen K) from call_len_seq) (by rfl) T.b_len PySem.boot_len (pa_cons (pv 6) pa_nil))))
      (pss_one (ps_ret (pe_tup (pa_cons (pe_ix (show IxR _ (rIx K) from ix_seq) (pv 4) (pe_bm PySem.F.plainAttrs_list PySem.F.slot_list_index PySem.F.type_list_index mt_index (pv 5) (pa_cons (pe_callB (cr_min rfl) (by rfl) T.b_min (by decide +kernel) (pa_cons (pv 5) pa_nil)) pa_nil)) (fun _ _ => rfl)) (pa_cons (pe_ix (show IxR _ (rIx K) from ix_seq) (pv 4) (pe_bm PySem.F.plainAttrs_list PySem.F.slot_list_index PySem.F.type_list_index mt_index (pv 5) (pa_cons (pe_callB (cr_max rfl) (by rfl) T.b_max (by decide +kernel) (pa_cons (pv 5) pa_nil)) pa_nil)) (fun _ _ => rfl)) pa_nil))))))))), ?_⟩
    refine ⟨_, rfl, x, rows, rfl, hw, hl, l2, fun q ws H1 s1 _ e1 r1 => ?_⟩
    refine ⟨_, rfl, q, rfl, ⟨_, SqL.of e1⟩, fun D hD => ?_⟩
    refine lcP (walk_list (K := K) (a := q) (xs := ws)) (wholes rows) (fun _ => true) (fun s => V.int (gain g s)) r1.1 hD (fun H' s' => SqL.of (s' _ _ e1)) (Nat.le_trans (wholes_few hl) (by decide)) yAt_same ?_ ?_
    · rintro i z s H3 H4 N R hs s3 ⟨rfl, hz⟩ ky kn
      obtain ⟨p, s', rfl, es, hp⟩ := r1.get hz
      rw [hs] at es
      cases es
      have ms := (mem_wholes.mp (List.mem_of_getElem? hs)).1
      refine ⟨rfl, ?_⟩
      dsimp only [tYes]
      rw [if_pos rfl]
      exact ⟨_, rfl, _, rfl, y, p, g, s, rfl, gv.keep (s1.trans s3), s3 _ _ hp, Nat.le_trans (sub_len ((mem_subs _ _).mpr ms)) (by omega), fun f hf => gl ▸ ms.2 f hf, fun H5 s5 => ky rfl _ s5⟩
    intro H2 s2 e2
    rw [filter_yes] at e2
    have e2 : H2 D = some (.lst (((wholes rows).map (gain g)).map V.int)) := by rw [e2, List.map_map]; rfl
    refine ⟨D, _, rfl, SqL.of e2, ?_, fun m hm hmax => ?_⟩
    · rw [List.length_map]
      exact List.length_pos_iff.mpr (wholes_ne rows)
    rw [maxI_eq hm hmax]
    clear hm hmax
    have e1' := s2 _ _ e1
    have r2 := r1.same s2
    refine ⟨_, rfl, q, rfl, ⟨_, SqL.of e1'⟩, fun D2 hD2 => ?_⟩
    refine lcR (walk_list (K := K) (a := q) (xs := ws)) NV (wholes rows) (fun s => decide (gain g s = topG rows g)) id r2.1 hD2 (fun H' s' => SqL.of (s' _ _ e1')) (Nat.lt_of_le_of_lt (wholes_few hl) (by decide)) yAt_same ?_ ?_
    · rintro i z s H3 H4 N R hs s3 ⟨rfl, hz⟩ ky kn
      obtain ⟨p, s', rfl, es, hp⟩ := r2.get hz
      rw [hs] at es
      cases es
      have ms := (mem_wholes.mp (List.mem_of_getElem? hs)).1
      refine ⟨rfl, ?_⟩
      refine ⟨_, rfl, _, rfl, y, p, g, s, rfl, gv.keep ((s1.trans s2).trans s3), s3 _ _ hp, Nat.le_trans (sub_len ((mem_subs _ _).mpr ms)) (by omega), fun f hf => gl ▸ ms.2 f hf, fun H5 s5 => ⟨_, rfl, ?_⟩⟩
      refine ⟨rfl, _, rfl, ?_⟩
      rw [dec_int]
      by_cases c : gain g s = topG rows g
      · rw [show (gain g s == maxI ((wholes rows).map (gain g))) = true from beq_iff_eq.mpr c]
        exact ⟨_, rfl, ky (decide_eq_true c) _ _ s5 ⟨p, rfl, s5 _ _ (s3 _ _ hp)⟩⟩
      · rw [show (gain g s == maxI ((wholes rows).map (gain g))) = false from beq_eq_false_iff_ne.mpr c]
        exact kn (decide_eq_false c) _ s5
    intro H3 us s3 e3 r3
    rw [List.map_id] at r3
    have r3 : RL NV H3 us (bests rows g) := r3
    have bfew : (bests rows g).length ≤ 1024 := Nat.le_trans (List.length_filter_le _ _) (wholes_few hl)
    refine ⟨_, rfl, D2, rfl, ⟨_, SqL.of e3⟩, fun D3 hD3 => ?_⟩
    refine lcP (walk_list (K := K) (a := D2) (xs := us)) (bests rows g) (fun _ => true) (fun s => V.int ((s.length : Nat) : Int)) r3.1 hD3 (fun H' s' => SqL.of (s' _ _ e3)) (Nat.le_trans bfew (by decide)) yAt_same ?_ ?_
    · rintro i z s H4 H5 N R hs s4 ⟨rfl, hz⟩ ky kn
      obtain ⟨p, s', rfl, es, hp⟩ := r3.get hz
      rw [hs] at es
      cases es
      refine ⟨rfl, ?_⟩
      dsimp only [tYes]
      rw [if_pos rfl]
      refine ⟨_, rfl, p, NV s, rfl, .inr (SqT.of (s4 _ _ hp)), ?_⟩
      rw [NV_len]
      exact ky rfl _ fun _ _ e => e
    intro H4 s4 e4
    rw [filter_yes] at e4
    have e4 : H4 D3 = some (.lst (((bests rows g).map fun s => ((s.length : Nat) : Int)).map V.int)) := by rw [e4, List.map_map]; rfl
    have e3' := s4 _ _ e3
    have r4 := r3.same s4
    have s04 := ((s1.trans s2).trans s3).trans s4
    obtain ⟨b0, hb0⟩ := bests_ne rows g
    have pos : 0 < ((bests rows g).map fun s => ((s.length : Nat) : Int)).length := by
      rw [List.length_map]
      exact List.length_pos_of_mem hb0
    have pick : ∀ (j : Nat) (m : Int), ((bests rows g).map fun s => ((s.length : Nat) : Int))[j]? = some m → ∃ p s, us[j]? = some (.ref p) ∧ s ∈ bests rows g ∧ m = (s.length : Int) ∧ H4 p = some (.tup (NV s)) := fun j m hj => by
      rw [List.getElem?_map] at hj
      cases hs : (bests rows g)[j]? with
      | none => rw [hs] at hj; cases hj
      | some s =>
        rw [hs] at hj
        cases hj
        obtain ⟨p, ep, hp⟩ := r4.at_ hs
        exact ⟨p, s, ep, List.mem_of_getElem? hs, rfl, hp⟩
    refine ⟨_, rfl, _, rfl, .inl ⟨rfl, _, SqL.of e4⟩, _, rfl, D3, _, rfl, SqL.of e4, pos, fun m hm hmin => ?_⟩
    dsimp only [tNil]
    refine index_of (K := K) e4 hm fun j1 hj1 => ?_
    obtain ⟨p1, t1, ep1, ht1, rfl, hp1⟩ := pick j1 m hj1
    have lo : t1 = leastL rows g := least_of ht1 fun s hs => by
      have := hmin _ (List.mem_map_of_mem (f := fun s : List Nat => ((s.length : Nat) : Int)) hs)
      omega
    refine ix_either (K := K) (.inl e3') ep1 ⟨_, rfl, _, rfl, .inl ⟨rfl, _, SqL.of e4⟩, _, rfl, D3, _, rfl, SqL.of e4, pos, fun m2 hm2 hmax2 => ?_⟩
    dsimp only [tNil]
    refine index_of (K := K) e4 hm2 fun j2 hj2 => ?_
    obtain ⟨p2, t2, ep2, ht2, rfl, hp2⟩ := pick j2 m2 hj2
    have hi : t2 = mostL rows g := most_of ht2 fun s hs => by
      have := hmax2 _ (List.mem_map_of_mem (f := fun s : List Nat => ((s.length : Nat) : Int)) hs)
      omega
    refine ix_either (K := K) (.inl e3') ep2 ⟨(by show 2 ≤ sizeLine; decide), fun p hp => ?_⟩
    have t5 := Same.new (o := .tup [V.ref p1, .ref p2]) hp
    exact k _ _ (s04.trans t5) ⟨p, p1, p2, rfl, upd_same, lo ▸ t5 _ _ hp1, hi ▸ t5 _ _ hp2⟩
theorem ok_best_sets : FnOk P w K mg base (L2.CX P w) 7 T.best_sets.a T.best_sets.d ["web", "gains"] (spBestSets K BW.C T.BadGains.C) := by
  refine T.best_sets.f.okX sc_best_sets (fun vs H Q E h => ?_) (fun cdv A outer s H vs Q E hr h => ?_)
  · obtain ⟨x, y, rfl, _⟩ := h
    rfl
  · obtain ⟨x, y, rfl, h⟩ := h
    refine ⟨_, (pss_cons (ps_expr (pe_call (ok_check_gains T BW) (hr.mono (by decide)) (by rfl) T.check_gains.m T.check_gains.f.kp (bd_check_gains T) .nil (passX rfl rfl rfl rfl) (pa_cons (pv 0) (pa_cons (pv 1) pa_nil))))
      (pss_one (ps_ret (pe_call (ok_best_of T) (hr.mono (by decide)) (by rfl) T.best_of.m T.best_of.f.kp (bd_best_of T) .nil passE (pa_cons (pv 0) (pa_cons (pv 1) pa_nil)))))), ?_⟩
    refine ⟨_, rfl, _, rfl, ?_⟩
    dsimp only [tNil]
    refine asked_check T BW h fun rows g hw l2 hl gv gl k H1 s1 => ?_
    exact ⟨_, rfl, _, rfl, x, y, rows, g, rfl, hw.keep s1, hl, l2, gv.keep s1, gl, fun v H2 s2 two => k v H2 (s1.trans s2) two⟩
end
end K47
namespace K47
open PySem PySem.Spec PyProof.Rows L2 PySem.W LamX KA KW KU KL KT
open Evl (pss_cut tCut)
/-! ### the law's own sums and shut lots -/
def spLsum : Sp := fun vs H Q _ => ∃ (a b : Addr) (g : List Int) (s : List Nat), vs = [.ref a, .ref b] ∧ H a = some (.lst (g.map V.int)) ∧ H b = some (.tup (NV s)) ∧ s.length ≤ 1000 ∧ (∀ f ∈ s, f < g.length) ∧ ∀ H', Same H H' → Q (.int (gain g s)) H'
def spShut : Sp := fun vs H Q _ => ∃ (a b : Addr) (ws : List V) (rows : List (List Nat)) (s : List Nat), vs = [.ref a, .ref b] ∧ H a = some (.lst ws) ∧ RL NV H ws rows ∧ (∀ r ∈ rows, r.length ≤ 1000) ∧ H b = some (.tup (NV s)) ∧ s.length ≤ 1000 ∧ (∀ f ∈ s, f < rows.length) ∧ ∀ H', Same H H' → Q (.bl (wholeB rows s)) H'
theorem room_units {k : Nat} {A : Around} (h : Room k A) : A.units + 4 < cLine := by
  have := h.units
  omega
theorem rest_nil {r s : List Nat} : (r.filter fun x => !(inB s x)).isEmpty = r.all (inB s) := by
  rw [Bool.eq_iff_iff, List.isEmpty_iff, List.filter_eq_nil_iff, List.all_eq_true]
  constructor
  · intro h x hx
    have := h x hx
    cases c : inB s x with
    | true => rfl
    | false => rw [c] at this; exact absurd rfl this
  · intro h x hx
    rw [h x hx]
    exact Bool.false_ne_true
theorem shut_nil {rows : List (List Nat)} {s : List Nat} : (s.filter fun f => !((row rows f).all (inB s))).isEmpty = wholeB rows s := by
  unfold wholeB
  rw [Bool.eq_iff_iff, List.isEmpty_iff, List.filter_eq_nil_iff, List.all_eq_true]
  constructor
  · intro h x hx
    have := h x hx
    cases c : (row rows x).all (inB s) with
    | true => rfl
    | false => rw [c] at this; exact absurd rfl this
  · intro h x hx
    rw [h x hx]
    exact Bool.false_ne_true
theorem NV_empty (s : List Nat) : (s.map fun n : Nat => (n : Int)).isEmpty = s.isEmpty := by cases s <;> rfl
/-- the comprehension in an expression -/
def lcIn : Expr → Expr
  | .Compare l _ _ _ => l
  | e => e
def lcOf : Expr → Scope
  | .ListComp _ _ s _ => s
  | _ => defScope s_is_number
def lcIf : Expr → Expr
  | .ListComp _ (g :: _) _ _ => match g.ifs with
    | c :: _ => lcIn c
    | [] => .Name "x" ⟨0, 0, 0, 0⟩
  | e => e
def retOf : Stmt → Expr
  | .Return (some e) _ => e
  | .Assign _ e _ => e
  | _ => .Name "x" ⟨0, 0, 0, 0⟩
def stAt (s : Stmt) (i : Nat) : Expr := lcIn (retOf ((defBody s).getD i (.Pass ⟨0, 0, 0, 0⟩)))
section
variable {P : Program} {w : World} {K : PySem.W.Frag} {mg : Str → Option Value} {base : Heap} (T : Top K mg)
theorem ok_lsum : FnOk P w K mg base (L2.CX P w) 1 T._law_sum.a T._law_sum.d ["several", "lot"] spLsum := by
  refine T._law_sum.f.okX sc__law_sum (fun vs H Q E h => ?_) (fun cdv A outer s H vs Q E hr h => ?_)
  · obtain ⟨x, b, g, s, rfl, _⟩ := h
    rfl
  · obtain ⟨a, b, g, s, rfl, ha, hb, hs, hlt, k⟩ := h
    refine ⟨_, (pss_one (ps_ret (pe_callB (cr_sum rfl) (by rfl) T.b_sum (by decide +kernel) (pa_cons (pe_lc (own := [("own", 2)]) (g := (gName 2)) (tt := tYes) rfl sc__law_sum.nd (pi_tup (pv 1)) (blkOk_by (own := [("own", 2)]) (N := ["several", "lot", "own"]) (sc := defScope s__law_sum) (by decide +kernel)) (fun _ _ _ _ _ => pg_name (i := 2) sc__law_sum.nd rfl (Or.inl rfl)) (fun _ _ _ _ _ => pts_nil) (fun _ _ _ _ _ => (pe_ix (show IxR _ (rIx K) from ix_seq) (pv 0) (pv 2) (fun _ _ => rfl)))) pa_nil)))), ?_⟩
    refine ⟨_, rfl, b, rfl, ⟨_, SqT.of hb⟩, fun D hD => ?_⟩
    refine lcP (walk_tup (K := K) (a := b) (xs := NV s)) s (fun _ => true) (fun f => V.int (gat g f)) (NV_len s) hD (fun H' s' => SqT.of (s' _ _ hb)) (Nat.le_trans hs (by decide)) yAt_same ?_ ?_
    · rintro i x m H1 H2 N R hm s1 ⟨rfl, hx⟩ hy hn
      rw [NV_get hm] at hx
      cases hx
      refine ⟨rfl, ?_⟩
      dsimp only [tYes]
      rw [if_pos rfl]
      have eg : (g.map V.int)[m]? = some (V.int (gat g m)) := by
        unfold gat
        rw [List.getElem?_map, List.getD_eq_getElem?_getD, List.getElem?_eq_getElem (hlt m (List.mem_of_getElem? hm))]
        rfl
      exact ⟨_, rfl, _, rfl, ix_either (K := K) (.inl (s1 _ _ ha)) eg (hy rfl _ fun _ _ e => e)⟩
    · intro H1 s1 e1
      rw [filter_yes] at e1
      have e1 : H1 D = some (.lst ((s.map (gat g)).map V.int)) := by rw [e1, List.map_map]; rfl
      exact ⟨D, _, rfl, SqL.of e1, k H1 s1⟩
theorem ok_is_shut : FnOk P w K mg base (L2.CX P w) 1 T._law_is_shut.a T._law_is_shut.d ["net", "lot"] spShut := by
  refine T._law_is_shut.f.okX sc__law_is_shut (fun vs H Q E h => ?_) (fun cdv A outer s0 H vs Q E hr h => ?_)
  · obtain ⟨a, b, ws, rows, s, rfl, _⟩ := h
    rfl
  · obtain ⟨a, b, ws, rows, s, rfl, ha, rl, l2, hb, hs, hlt, k⟩ := h
    have inR : ∀ (sI : Shared) (HI : Hp) (C : Addr) (cl : List (Str × Addr)) (fp : List Addr), PE ((cxOf (L2.CX P w) P w K mg base ["net", "lot", "own", "mate"] "_law_is_shut" (defScope s__law_is_shut) T._law_is_shut.a cdv A outer s0 H E).blk sI HI (lcOf (stAt s__law_is_shut 0)) (compEnvC (lcOf (stAt s__law_is_shut 0)) cl C (cxOf (L2.CX P w) P w K mg base ["net", "lot", "own", "mate"] "_law_is_shut" (defScope s__law_is_shut) T._law_is_shut.a cdv A outer s0 H E).env) fp) (lcIf (stAt s__law_is_shut 0)) (tLc (iTup K (tOp (rIxL K) (tVar 0) (tVar 2))) (gName 3) (tTest (tOp (rIn K true) (tVar 3) (tVar 1))) (tVar 3) [3]) := by
      intro sI HI C cl fp
      refine pe_lc (own := [("mate", 3)]) (g := gName 3) rfl sc__law_is_shut.nd ?_ ?_ ?_ ?_ ?_
      · exact (pi_tup (pe_ix (show IxR _ (rIxL K) from ix_list) (pv 0) (pv 2) (fun _ _ => rfl)))
      · exact blkOk_by (N := ["net", "lot", "own", "mate"]) (sc := relS (lcOf (stAt s__law_is_shut 0)) (defScope s__law_is_shut)) (by decide +kernel)
      · exact fun _ _ _ _ _ => pg_name (i := 3) sc__law_is_shut.nd rfl (Or.inl rfl)
      · exact fun _ _ _ _ _ => pts_one (pt_cmpR (show OpR _ _ (rIn K true) from op_notIn_seq) (pv 3) (pv 1) (by rfl))
      · exact fun _ _ _ _ _ => (pv 3)
    refine ⟨_, (pss_one (ps_ret (pe_cmpR (op_eqD hr.units) (pe_lc (own := [("own", 2)]) (g := (gName 2)) rfl sc__law_is_shut.nd (pi_tup (pv 1)) (blkOk_by (own := [("own", 2)]) (N := ["net", "lot", "own", "mate"]) (sc := defScope s__law_is_shut) (by decide +kernel)) (fun _ _ _ _ _ => pg_name (i := 2) sc__law_is_shut.nd rfl (Or.inl rfl)) (fun _ _ _ _ _ => pts_one (pt_cmpR (show OpR _ _ (rNeD K) from op_neD hr.units) (inR _ _ _ _ _) (pe_lst pa_nil) (nomark _))) (fun _ _ _ _ _ => (pv 2))) (pe_lst pa_nil) (nomark _)))), ?_⟩
    refine ⟨_, rfl, b, rfl, ⟨_, SqT.of hb⟩, fun D hD => ?_⟩
    refine lcP (walk_tup (K := K) (a := b) (xs := NV s)) s (fun f => !((row rows f).all (inB s))) (fun f => V.int ((f : Nat) : Int)) (NV_len s) hD (fun H' s' => SqT.of (s' _ _ hb)) (Nat.le_trans hs (by decide)) yAt_same ?_ ?_
    · rintro i x m H1 H2 N R hm s1 ⟨rfl, hx⟩ hy hn
      rw [NV_get hm] at hx
      cases hx
      refine ⟨rfl, ?_⟩
      have hml := hlt m (List.mem_of_getElem? hm)
      have er : rows[m]? = some (row rows m) := by
        unfold row
        rw [List.getD_eq_getElem?_getD, List.getElem?_eq_getElem hml]
        rfl
      obtain ⟨p, ep, hp⟩ := (rl.same s1).at_ er
      have lr := l2 _ (List.mem_of_getElem? er)
      refine ⟨_, rfl, _, rfl, a, ws, _, _, rfl, rfl, SqL.of (s1 _ _ ha), atI_nat ep, p, rfl, ⟨_, SqT.of hp⟩, fun D2 hD2 => ?_⟩
      refine lcP (walk_tup (K := K) (a := p) (xs := NV (row rows m))) (row rows m) (fun x => !(inB s x)) (fun f => V.int ((f : Nat) : Int)) (NV_len _) hD2 (fun H' s' => SqT.of (s' _ _ hp)) (Nat.le_trans lr (by decide)) yAt_same ?_ ?_
      · rintro j y n H3 H4 N2 R2 hn2 s3 ⟨rfl, hx2⟩ ky kn
        rw [NV_get hn2] at hx2
        cases hx2
        refine ⟨rfl, ?_⟩
        refine ⟨_, rfl, _, rfl, b, _, rfl, .inr (SqT.of (s3 _ _ (s1 _ _ hb))), rfl, NV_flat s, ?_⟩
        rw [if_pos rfl, inV_NV]
        cases c : inB s n with
        | true => exact ⟨_, rfl, kn (by rw [c]; rfl) _ fun _ _ e => e⟩
        | false => exact ⟨_, rfl, _, rfl, ky (by rw [c]; rfl) _ fun _ _ e => e⟩
      · intro H3 s3 e3
        have e3 : H3 D2 = some (.lst (NV ((row rows m).filter fun x => !(inB s x)))) := e3
        refine ⟨(by show 0 ≤ sizeLine; decide), fun z hz => ?_⟩
        have t4 := Same.new (o := .lst []) hz
        refine ⟨_, _, dp_int_list (by rw [← NV_ints]; exact t4 _ _ e3), dp_nil upd_same, shaped_is _, shaped_nil, _, rfl, ?_⟩
        rw [eqv_ints_nil, NV_empty, rest_nil]
        cases c : (row rows m).all (inB s) with
        | true => exact hn (by rw [c]; rfl) _ (s3.trans t4)
        | false => exact ⟨_, rfl, hy (by rw [c]; rfl) _ (s3.trans t4)⟩
    · intro H1 s1 e1
      have e1 : H1 D = some (.lst (NV (s.filter fun f => !((row rows f).all (inB s))))) := e1
      refine ⟨(by show 0 ≤ sizeLine; decide), fun z hz => ?_⟩
      have t2 := Same.new (o := .lst []) hz
      refine ⟨_, _, dp_int_list (by rw [← NV_ints]; exact t2 _ _ e1), dp_nil upd_same, shaped_is _, shaped_nil, ?_⟩
      rw [eqv_ints_nil, NV_empty, shut_nil]
      exact k _ (s1.trans t2)
end
end K47
namespace K47
open PySem PySem.Spec PyProof.Rows L2 PySem.W LamX KA KW KU KL KT
open Evl (pss_cut tCut)
/-! ### the law's own shut lots -/
def spShutLots : Sp := fun vs H Q _ => ∃ (a : Addr) (ws : List V) (rows : List (List Nat)), vs = [.ref a] ∧ H a = some (.lst ws) ∧ RL NV H ws rows ∧ rows.length ≤ 10 ∧ (∀ r ∈ rows, r.length ≤ 1000) ∧ ∀ q us ls H', Same H H' → H q = none → H' q = some (.lst us) → RL NV H' us ls → ls.Perm (wholes rows) → Q (.ref q) H'
theorem subs_head : ∀ n, ∃ t, subs n = [] :: t
  | 0 => ⟨[], rfl⟩
  | n + 1 => by
    obtain ⟨t, e⟩ := subs_head n
    refine ⟨t ++ (subs n).map (· ++ [n]), ?_⟩
    show subs n ++ (subs n).map (· ++ [n]) = _
    rw [e, List.cons_append]
theorem wholes_head (rows : List (List Nat)) : ∃ t, wholes rows = [] :: t := by
  obtain ⟨t, e⟩ := subs_head rows.length
  refine ⟨t.filter (wholeB rows), ?_⟩
  unfold wholes
  rw [e, List.filter_cons_of_pos rfl]
/-- the addresses of a list of tuples -/
theorem rl_addr {H : Hp} : ∀ {ws : List V} {ls : List (List Nat)}, RL NV H ws ls → ∃ cs : List (Addr × List Nat), ws = cs.map (fun c => V.ref c.1) ∧ ls = cs.map (·.2) ∧ ∀ c ∈ cs, H c.1 = some (.tup (NV c.2))
  | [], [], _ => ⟨[], rfl, rfl, fun c hc => nomatch hc⟩
  | [], _ :: _, r => by cases r.1
  | _ :: _, [], r => by cases r.1
  | v :: ws, l :: ls, r => by
    obtain ⟨p, a, e1, e2, e3⟩ := r.get (i := 0) rfl
    have e2 : l = a := by simpa using e2
    subst e1 e2
    obtain ⟨cs, h1, h2, h3⟩ := rl_addr (ws := ws) (ls := ls) ⟨by have := r.1; simpa using this, fun i v hv => by
      obtain ⟨a, ea, q⟩ := r.2 (i + 1) v (by simpa using hv)
      exact ⟨a, by simpa using ea, q⟩⟩
    refine ⟨(p, l) :: cs, by rw [h1, List.map_cons], by rw [h2, List.map_cons], fun c hc => ?_⟩
    rcases List.mem_cons.mp hc with rfl | hc
    · exact e3
    · exact h3 c hc
theorem addr_rl {H : Hp} : ∀ {cs : List (Addr × List Nat)}, (∀ c ∈ cs, H c.1 = some (.tup (NV c.2))) → RL NV H (cs.map fun c => V.ref c.1) (cs.map (·.2))
  | [], _ => .nil
  | c :: cs, h => (RL.one (f := NV) (a := c.2) ⟨c.1, rfl, h c List.mem_cons_self⟩).append (addr_rl fun d hd => h d (List.mem_cons_of_mem _ hd))
def toI (c : Addr × List Nat) : Addr × List Int := (c.1, c.2.map fun n : Nat => (n : Int))
theorem map_toI (cs : List (Addr × List Nat)) : ((cs.map toI).map fun b => V.ref b.1) = cs.map fun c => V.ref c.1 := by rw [List.map_map]; rfl
section
variable {P : Program} {w : World} {K : PySem.W.Frag} {mg : Str → Option Value} {base : Heap} (T : Top K mg)
theorem ok_shut_lots : FnOk P w K mg base (L2.CX P w) 2 T._law_shut_lots.a T._law_shut_lots.d ["net"] spShutLots := by
  refine T._law_shut_lots.f.okX sc__law_shut_lots (fun vs H Q E h => ?_) (fun cdv A outer s H vs Q E hr h => ?_)
  · obtain ⟨a, ws, rows, rfl, _⟩ := h
    rfl
  · obtain ⟨a, ws, rows, rfl, ha, rl, hl, l2, k⟩ := h
    refine ⟨_, (pss_cons (ps_set (i := 1) sc__law_shut_lots.nd rfl (by first | exact .inl rfl | exact .inr rfl) (pe_lst (pa_cons (pe_tup pa_nil) pa_nil)))
      (pss_cons (ps_for (passes_of rfl) rfl (pi_range1 (by rfl) T.b_range (pa_cons (pe_callB call_len_seq (by rfl) T.b_len PySem.boot_len (pa_cons (pv 0) pa_nil)) pa_nil)) (pg_name (i := 2) sc__law_shut_lots.nd rfl (by first | exact .inl rfl | exact .inr rfl))
        (pss_one (ps_set (i := 1) sc__law_shut_lots.nd rfl (by first | exact .inl rfl | exact .inr rfl) (pe_op op_cat (pv 1) (pe_lc (own := [("lot", 3)]) (g := (gName 3)) (tt := tYes) rfl sc__law_shut_lots.nd (pi_list (pv 1)) (blkOk_by (own := [("lot", 3)]) (N := ["net", "found", "own", "lot"]) (sc := defScope s__law_shut_lots) (by decide +kernel)) (fun _ _ _ _ _ => pg_name (i := 3) sc__law_shut_lots.nd rfl (Or.inl rfl)) (fun _ _ _ _ _ => pts_nil) (fun _ _ _ _ _ => (pe_op (show OpR _ _ (rCatA K) from op_catA) (pv 3) (pe_tup (pa_cons (pv 2) pa_nil)))))))))
      (pss_one (ps_ret (pe_callB (KSU.cr_sortedL (room_units hr)) (by rfl) T.b_sorted (by decide +kernel) (pa_cons (pe_lc (own := [("lot", 3)]) (g := (gName 3)) rfl sc__law_shut_lots.nd (pi_list (pv 1)) (blkOk_by (own := [("lot", 3)]) (N := ["net", "found", "own", "lot"]) (sc := defScope s__law_shut_lots) (by decide +kernel)) (fun _ _ _ _ _ => pg_name (i := 3) sc__law_shut_lots.nd rfl (Or.inl rfl)) (fun _ _ _ _ _ => pts_one (pt_val (pe_call (ok_is_shut T) (hr.mono (by decide)) (by rfl) T._law_is_shut.m T._law_is_shut.f.kp (bd__law_is_shut T) .nil passE (pa_cons (pv 0) (pa_cons (pv 3) pa_nil))))) (fun _ _ _ _ _ => (pv 3))) pa_nil)))))), ?_⟩
    have hlen := rl.1
    refine ⟨(by show 0 ≤ sizeLine; decide), fun e0 he0 => ⟨(by show 1 ≤ sizeLine; decide), fun q0 hq0 => ?_⟩⟩
    have t0 := Same.new (o := .tup []) he0
    have t1 := Same.new (o := .lst [.ref e0]) hq0
    have s1 := t0.trans t1
    have rl0 : RL NV (upd (upd H e0 (.tup [])) q0 (.lst [.ref e0])) [.ref e0] (subs 0) := .one ⟨e0, rfl, t1 _ _ upd_same⟩
    have eq0 : (upd (upd H e0 (.tup [])) q0 (.lst [.ref e0])) q0 = some (.lst [.ref e0]) := upd_same
    have hq0' : H q0 = none := t0.free hq0
    generalize upd (upd H e0 (.tup [])) q0 (.lst [.ref e0]) = H1 at s1 rl0 eq0
    clear t0 t1 he0 hq0
    refine ⟨_, rfl, a, ws, rfl, .inl (SqL.of (s1 _ _ ha)), _, rfl, by omega, by omega, ?_⟩
    rw [Int.toNat_natCast]
    refine for_it (walk_rangeN (n := ws.length)) (fun i σ H' => ∃ v2 q us, σ = [some (.ref a), some (.ref q), v2, none] ∧ H' q = some (.lst us) ∧ RL NV H' us (subs i) ∧ Same H H') ⟨none, q0, _, rfl, eq0, rl0, s1⟩ (fun _ _ _ _ _ => trivial) ?_ ?_
    · rintro i x σ H2 H3 hi ⟨v2, q, us, rfl, e2, r2, s2⟩ ⟨rfl, rfl⟩
      refine ⟨_, rfl, _, rfl, q, rfl, ⟨_, SqL.of e2⟩, fun D hD => ?_⟩
      have few : (subs i).length ≤ 1024 := subs_few (by omega)
      refine lcR (walk_list (K := K) (a := q) (xs := us)) NV (subs i) (fun _ => true) (fun s => s ++ [i]) r2.1 hD (fun H' s' => SqL.of (s' _ _ e2)) (by omega) yAt_same ?_ ?_
      · rintro j y s H4 H5 N R hs s4 ⟨rfl, hy⟩ ky kn
        obtain ⟨p, s', rfl, es, hp⟩ := r2.get hy
        rw [hs] at es
        cases es
        have hp4 := s4 _ _ hp
        refine ⟨rfl, ?_⟩
        dsimp only [tYes]
        rw [if_pos rfl]
        refine ⟨_, rfl, _, rfl, (by show 1 ≤ sizeLine; decide), fun p2 hp2 => ?_⟩
        have t5 := Same.new (o := .tup [V.int ((i : Nat) : Int)]) hp2
        have lim : s.length ≤ i := sub_len (List.mem_of_getElem? hs)
        refine ⟨p, p2, NV s, [V.int ((i : Nat) : Int)], rfl, rfl, SqT.of (t5 _ _ hp4), SqT.of upd_same, ?_, fun z => ?_, fun _ z => ?_, fun z _ p3 hp3 => ?_⟩
        · rw [NV_len]
          exact Nat.le_trans (show s.length + 1 ≤ 1000 by omega) (by decide)
        · refine ky rfl _ _ t5 ⟨p2, rfl, ?_⟩
          have : s = [] := by
            cases s with
            | nil => rfl
            | cons _ _ => cases z
          rw [this]
          exact upd_same
        · cases z
        · refine ky rfl _ _ (t5.trans (Same.new hp3)) ⟨p3, rfl, ?_⟩
          rw [upd_same]
          unfold NV
          rw [List.map_append]
          rfl
      · intro H4 vs4 s4 e4 r4
        rw [filter_yes] at r4
        have u4 := s4 _ _ e2
        have ru4 := r2.same s4
        refine ⟨q, D, us, vs4, rfl, rfl, u4, e4, ?_, fun p hp => ?_⟩
        · have l1 := ru4.1
          have l2' := r4.1
          rw [List.length_map] at l2'
          exact Nat.le_trans (show _ ≤ 2048 by omega) (by decide)
        · have t5 := Same.new (o := .lst (us ++ vs4)) hp
          exact ⟨_, p, us ++ vs4, rfl, upd_same, (ru4.append r4).same t5, (s2.trans s4).trans t5⟩
    · rintro σ H2 ⟨v2, q, us, rfl, e2, r2, s2⟩
      rw [hlen] at r2
      have few : (subs rows.length).length ≤ 1024 := subs_few hl
      refine ⟨_, rfl, q, rfl, ⟨_, SqL.of e2⟩, fun D hD => ?_⟩
      refine lcR (walk_list (K := K) (a := q) (xs := us)) NV (subs rows.length) (wholeB rows) id r2.1 hD (fun H' s' => SqL.of (s' _ _ e2)) (by omega) yAt_same ?_ ?_
      · rintro j y s H4 H5 N R hs s4 ⟨rfl, hy⟩ ky kn
        obtain ⟨p, s', rfl, es, hp⟩ := r2.get hy
        rw [hs] at es
        cases es
        have ms := List.mem_of_getElem? hs
        have lim : s.length ≤ rows.length := sub_len ms
        refine ⟨rfl, ?_⟩
        refine ⟨_, rfl, _, rfl, a, p, ws, rows, s, rfl, s4 _ _ (s2 _ _ ha), rl.same (s2.trans s4), l2, s4 _ _ hp, by omega, ((mem_subs _ _).mp ms).2, fun H6 s6 => ⟨_, rfl, ?_⟩⟩
        cases hc : wholeB rows s with
        | true => exact iteT ⟨_, rfl, ky hc _ _ s6 ⟨p, rfl, s6 _ _ (s4 _ _ hp)⟩⟩
        | false => exact iteF (kn hc _ s6)
      · intro H4 vs4 s4 e4 r4
        rw [List.map_id] at r4
        have r4 : RL NV H4 vs4 (wholes rows) := r4
        obtain ⟨cs, h1, h2, h3⟩ := rl_addr r4
        obtain ⟨t, et⟩ := wholes_head rows
        obtain ⟨p0, cs', rfl⟩ : ∃ p0 cs', cs = (p0, []) :: cs' := by
          cases cs with
          | nil => rw [et] at h2; cases h2
          | cons c cs =>
            rw [et, List.map_cons] at h2
            injection h2 with a1 a2
            exact ⟨c.1, cs, by rw [a1]⟩
        refine ⟨D, p0, cs'.map toI, rfl, ?_, fun b hb => ?_, fun bs' q hp hq => ?_⟩
        · have : (((p0, []) :: cs'.map toI : List (Addr × List Int)).map fun b => V.ref b.1) = vs4 := by
            rw [h1, List.map_cons, map_toI, List.map_cons]
          rw [this]
          exact SqL.of e4
        · rcases List.mem_cons.mp hb with rfl | hb
          · exact h3 _ List.mem_cons_self
          · obtain ⟨c, hc, rfl⟩ := List.mem_map.mp hb
            have := h3 c (List.mem_cons_of_mem _ hc)
            show H4 c.1 = some (.tup ((c.2.map fun n : Nat => (n : Int)).map V.int))
            rw [this, NV_ints]
        · have hp' : bs'.Perm (((p0, []) :: cs').map toI) := hp
          obtain ⟨ds, pd, rfl⟩ := KSU.perm_of_map hp' _ rfl
          have t5 := Same.new (o := .lst ((ds.map toI).map fun b => V.ref b.1)) hq
          refine k q _ (ds.map (·.2)) _ ((s2.trans s4).trans t5) ((s2.trans s4).free hq) upd_same ?_ ?_
          · have r5 := addr_rl (H := upd H4 q (.lst ((ds.map toI).map fun b => V.ref b.1))) (cs := ds) fun c hc => t5 _ _ (h3 c (pd.mem_iff.mp hc))
            rw [← map_toI ds] at r5
            exact r5
          · rw [h2]
            exact pd.map _
end
end K47
namespace K47
open PySem PySem.Spec PyProof.Rows L2 PySem.W LamX KA KW KU KL KT
open Evl (pss_cut tCut)
/-! ### data small enough to be shown and compared; repr of any value -/
structure Sm (n z : Nat) (d : PyData) : Prop where
  l : d.leavesShort 13 = true
  w : d.weight ≤ n
  s : d.showable = true
  n : d.hasDict = false
  z : d.depth ≤ z
  c : d.canLay0 = true
theorem small_fits {d : PyData} (hl : d.leavesShort 13 = true) (hw : d.weight ≤ 2 ^ 20) : d.shown.length ≤ sizeLine := PyData.shown_fits (by decide) (by decide) hl hw
theorem int_small {i : Int} (h1 : -100000000000 ≤ i) (h2 : i ≤ 100000000000) : (PyData.int i).leavesShort 13 = true ∧ (PyData.int i).weight ≤ 40 ∧ (PyData.int i).showable = true := by
  have hn : i.natAbs < 2 ^ 40 := by omega
  have hl : i.natAbs.log2 ≤ 40 := by
    rcases Nat.eq_zero_or_pos i.natAbs with z | z
    · rw [z]
      decide
    · exact Nat.le_of_lt ((Nat.log2_lt (by omega)).mpr hn)
  have hl2 : i.natAbs.log2 < 40 ∨ i.natAbs = 0 := by
    rcases Nat.eq_zero_or_pos i.natAbs with z | z
    · exact .inr z
    · exact .inl ((Nat.log2_lt (by omega)).mpr hn)
  refine ⟨?_, ?_, ?_⟩
  · simp only [PyData.leavesShort, decide_eq_true_eq]
    exact PyData.shown_int_le (by omega)
  · simp only [PyData.weight]
    split
    · omega
    · rename_i c
      rcases hl2 with q | q
      · omega
      · exact absurd (by simpa using q) c
  · simp only [PyData.showable, decide_eq_true_eq]
    omega
theorem Sm.mono {n m z y : Nat} {d : PyData} (h : Sm n z d) (h1 : n ≤ m) (h2 : z ≤ y) : Sm m y d := ⟨h.l, Nat.le_trans h.w h1, h.s, h.n, Nat.le_trans h.z h2, h.c⟩
theorem sm_int {i : Int} (h1 : -100000000000 ≤ i) (h2 : i ≤ 100000000000) : Sm 40 0 (.int i) := by
  obtain ⟨a, b, c⟩ := int_small h1 h2
  exact ⟨a, b, c, rfl, Nat.le_refl _, rfl⟩
theorem sm_bool {b : Bool} : Sm 17 0 (.bool b) := ⟨rfl, Nat.zero_le _, rfl, rfl, Nat.le_refl _, rfl⟩
theorem sm_all {n z : Nat} : ∀ ds : List PyData, (∀ d ∈ ds, Sm n z d) → PyData.leavesShortAll 13 ds = true ∧ PyData.weightAll ds ≤ (n + 1) * ds.length ∧ PyData.showableAll ds = true ∧ PyData.hasDictAll ds = false ∧ PyData.depthAll ds ≤ z ∧ PyData.canLayAll0 ds = true
  | [], _ => ⟨rfl, Nat.zero_le _, rfl, rfl, Nat.zero_le _, rfl⟩
  | d :: r, h => by
    obtain ⟨a, b, c, e, f, g⟩ := sm_all r fun x hx => h x (List.mem_cons_of_mem _ hx)
    obtain ⟨a', b', c', e', f', g'⟩ := h d List.mem_cons_self
    refine ⟨by simp [PyData.leavesShortAll, a, a'], ?_, by simp [PyData.showableAll, c, c'], by simp [PyData.hasDictAll, e, e'], ?_, by simp [PyData.canLayAll0, g, g']⟩
    · simp only [PyData.weightAll, List.length_cons, Nat.mul_add, Nat.mul_one]
      omega
    · simp only [PyData.depthAll]
      omega
theorem sm_tuple {n z k : Nat} {ds : List PyData} (h : ∀ d ∈ ds, Sm n z d) (hl : ds.length ≤ k) : Sm ((n + 1) * k) (z + 1) (.tuple ds) := by
  obtain ⟨a, b, c, e, f, g⟩ := sm_all ds h
  have hk : (n + 1) * ds.length ≤ (n + 1) * k := Nat.mul_le_mul_left _ hl
  refine ⟨by simpa only [PyData.leavesShort] using a, ?_, by simpa only [PyData.showable] using c, by simpa only [PyData.hasDict] using e, ?_, by simpa only [PyData.canLay0] using g⟩
  · simp only [PyData.weight]
    omega
  · simp only [PyData.depth]
    omega
theorem sm_list {n z k : Nat} {ds : List PyData} (h : ∀ d ∈ ds, Sm n z d) (hl : ds.length ≤ k) : Sm ((n + 1) * k) (z + 1) (.list ds) := by
  obtain ⟨a, b, c, e, f, g⟩ := sm_all ds h
  have hk : (n + 1) * ds.length ≤ (n + 1) * k := Nat.mul_le_mul_left _ hl
  refine ⟨by simpa only [PyData.leavesShort] using a, ?_, by simpa only [PyData.showable] using c, by simpa only [PyData.hasDict] using e, ?_, by simpa only [PyData.canLay0] using g⟩
  · simp only [PyData.weight]
    omega
  · simp only [PyData.depth]
    omega
theorem Sm.repr {n z : Nat} {d : PyData} (h : Sm n z d) (h1 : n ≤ 2 ^ 20) (h2 : z ≤ 60) : d.showable = true ∧ d.hasDict = false ∧ d.depth ≤ 60 ∧ d.shown.length ≤ sizeLine := ⟨h.s, h.n, Nat.le_trans h.z h2, small_fits h.l (Nat.le_trans h.w h1)⟩
theorem Sm.shaped {n z : Nat} {d : PyData} (h : Sm n z d) (h2 : z ≤ 60) : SeqAt.shaped d = true := by
  unfold SeqAt.shaped
  rw [h.c, Bool.true_and, decide_eq_true_eq]
  exact Nat.le_trans h.z (Nat.le_trans h2 (by decide))
theorem dp_rl {α : Type} {K : PySem.W.Frag} {H : Hp} {f : α → List V} {g : α → PyData} (hfg : ∀ p a, H p = some (.tup (f a)) → Dp K H (.ref p) (g a)) : ∀ {us : List V} {as : List α}, RL f H us as → DpAll K H us (as.map g)
  | [], [], _ => .nil
  | [], _ :: _, r => by cases r.1
  | _ :: _, [], r => by cases r.1
  | u :: us, b :: bs, r => by
    obtain ⟨p, a, e1, e2, e3⟩ := r.get (i := 0) (v := u) rfl
    have : b = a := Option.some.inj e2
    subst this e1
    refine .cons (hfg _ _ e3) (dp_rl hfg ⟨by simpa using r.1, fun j v e => ?_⟩)
    exact r.2 (j + 1) v (by simpa using e)
/-- lots as data -/
def lotD (s : List Nat) : PyData := .tuple ((s.map fun n : Nat => (n : Int)).map PyData.int)
theorem dp_lot {K : PySem.W.Frag} {H : Hp} (p : Addr) (s : List Nat) (e : H p = some (.tup (NV s))) : Dp K H (.ref p) (lotD s) := .tup (SqT.of e) (by rw [NV_ints]; exact KA.dp_ints _)
theorem sm_lot {s : List Nat} (h1 : s.length ≤ 10) (h2 : ∀ x ∈ s, x ≤ 1000) : Sm 410 1 (lotD s) := sm_tuple (n := 40) (z := 0) (k := 10) (fun d hd => by
  obtain ⟨i, hi, rfl⟩ := List.mem_map.mp hd
  obtain ⟨n, hn, rfl⟩ := List.mem_map.mp hi
  have := h2 n hn
  exact sm_int (by omega) (by omega)) (by rw [List.length_map, List.length_map]; exact h1)
theorem lots_shaped {ls : List (List Nat)} : SeqAt.shaped (.list (ls.map lotD)) = true := by
  have all : ∀ ls : List (List Nat), PyData.canLayAll0 (ls.map lotD) = true ∧ PyData.depthAll (ls.map lotD) ≤ 1 := fun ls => by
    induction ls with
    | nil => exact ⟨rfl, Nat.zero_le _⟩
    | cons s ls ih =>
      obtain ⟨a, b⟩ := KA.lay_is (s.map fun n : Nat => (n : Int))
      refine ⟨?_, ?_⟩
      · show ((lotD s).canLay0 && PyData.canLayAll0 (ls.map lotD)) = true
        rw [ih.1, Bool.and_true]
        show PyData.canLay0 (.tuple _) = true
        simp only [PyData.canLay0]
        exact a
      · rw [List.map_cons]
        have : (lotD s).depth ≤ 1 := by
          unfold lotD
          simp only [PyData.depth]
          rw [b]
          exact Nat.le_refl _
        simp only [PyData.depthAll]
        have := ih.2
        omega
  obtain ⟨a, b⟩ := all ls
  simp [SeqAt.shaped, PyData.canLay0, PyData.depth, a]
  omega
theorem eqv_lots_nil (ls : List (List Nat)) : PyData.eqv (.list (ls.map lotD)) (.list []) = ls.isEmpty := by
  cases ls <;> rfl
end K47
namespace K47
open PySem PySem.Spec PyProof.Rows L2 PySem.W LamX KA KW KU KL KT
open Evl (pss_cut tCut)
/-! ### the law's own best lots -/
def Due (H : Hp) (q : Addr) (rows : List (List Nat)) (g : List Int) : Prop := ∃ a b, H q = some (.tup [.int (topG rows g), .ref a, .ref b]) ∧ H a = some (.tup (NV (leastL rows g))) ∧ H b = some (.tup (NV (mostL rows g)))
theorem Due.keep {H H' : Hp} {q : Addr} {rows : List (List Nat)} {g : List Int} (h : Due H q rows g) (s : Same H H') : Due H' q rows g := by
  obtain ⟨a, b, e1, e2, e3⟩ := h
  exact ⟨a, b, s _ _ e1, s _ _ e2, s _ _ e3⟩
def spBestLots : Sp := fun vs H Q _ => ∃ (a b : Addr) (ws : List V) (rows : List (List Nat)) (g : List Int), vs = [.ref a, .ref b] ∧ H a = some (.lst ws) ∧ RL NV H ws rows ∧ rows.length ≤ 10 ∧ (∀ r ∈ rows, r.length ≤ 1000) ∧ H b = some (.lst (g.map V.int)) ∧ g.length = rows.length ∧
  ∀ q H', Same H H' → Due H' q rows g → Q (.ref q) H'
theorem all_filter {ls : List (List Nat)} (f : Nat) : (ls.filter fun s => !(inB s f)).isEmpty = ls.all fun s => inB s f := by
  rw [Bool.eq_iff_iff, List.isEmpty_iff, List.filter_eq_nil_iff, List.all_eq_true]
  constructor
  · intro h x hx
    have := h x hx
    cases c : inB x f with
    | true => rfl
    | false => rw [c] at this; exact absurd rfl this
  · intro h x hx
    rw [h x hx]
    exact Bool.false_ne_true
theorem any_filter {ls : List (List Nat)} (f : Nat) : (!(ls.filter fun s => inB s f).isEmpty) = ls.any fun s => inB s f := by
  rw [Bool.eq_iff_iff, List.any_eq_true, Bool.not_eq_true']
  constructor
  · intro h
    cases c : ls.filter fun s => inB s f with
    | nil => rw [c] at h; cases h
    | cons x l =>
      have m : x ∈ ls.filter fun s => inB s f := by rw [c]; exact List.mem_cons_self
      exact ⟨x, List.mem_filter.mp m⟩
  · rintro ⟨x, h1, h2⟩
    cases c : ls.filter fun s => inB s f with
    | nil =>
      have m : x ∈ ls.filter fun s => inB s f := List.mem_filter.mpr ⟨h1, h2⟩
      rw [c] at m
      cases m
    | cons x l => rfl
section
variable {P : Program} {w : World} {K : PySem.W.Frag} {mg : Str → Option Value} {base : Heap} (T : Top K mg)
theorem ok_best_lots : FnOk P w K mg base (L2.CX P w) 3 T._law_best_lots.a T._law_best_lots.d ["net", "several"] spBestLots := by
  refine T._law_best_lots.f.okX sc__law_best_lots (fun vs H Q E h => ?_) (fun cdv A outer s0 H vs Q E hr h => ?_)
  · obtain ⟨a, b, ws, rows, g, rfl, _⟩ := h
    rfl
  · obtain ⟨a, b, ws, rows, g, rfl, ha, rl, hl, l2, hb, gl, k⟩ := h
    have inL : ∀ (sI : Shared) (HI : Hp) (C : Addr) (cl : List (Str × Addr)) (fp : List Addr), PE ((cxOf (L2.CX P w) P w K mg base ["net", "several", "every", "best", "some", "least", "most", "lot", "own"] "_law_best_lots" (defScope s__law_best_lots) T._law_best_lots.a cdv A outer s0 H E).blk sI HI (lcOf (stAt s__law_best_lots 3)) (compEnvC (lcOf (stAt s__law_best_lots 3)) cl C (cxOf (L2.CX P w) P w K mg base ["net", "several", "every", "best", "some", "least", "most", "lot", "own"] "_law_best_lots" (defScope s__law_best_lots) T._law_best_lots.a cdv A outer s0 H E).env) fp) (lcIf (stAt s__law_best_lots 3)) (tLc (iList K (tVar 4)) (gName 7) (tTest (tOp (rIn K true) (tVar 8) (tVar 7))) (tVar 7) [7]) := by
      intro sI HI C cl fp
      refine pe_lc (own := [("lot", 7)]) (g := gName 7) rfl sc__law_best_lots.nd ?_ ?_ ?_ ?_ ?_
      · exact (pi_list (pv 4))
      · exact blkOk_by (N := ["net", "several", "every", "best", "some", "least", "most", "lot", "own"]) (sc := relS (lcOf (stAt s__law_best_lots 3)) (defScope s__law_best_lots)) (by decide +kernel)
      · exact fun _ _ _ _ _ => pg_name (i := 7) sc__law_best_lots.nd rfl (Or.inl rfl)
      · exact fun _ _ _ _ _ => pts_one (pt_cmpR (show OpR _ _ (rIn K true) from op_notIn_seq) (pv 8) (pv 7) (by rfl))
      · exact fun _ _ _ _ _ => (pv 7)
    have inM : ∀ (sI : Shared) (HI : Hp) (C : Addr) (cl : List (Str × Addr)) (fp : List Addr), PE ((cxOf (L2.CX P w) P w K mg base ["net", "several", "every", "best", "some", "least", "most", "lot", "own"] "_law_best_lots" (defScope s__law_best_lots) T._law_best_lots.a cdv A outer s0 H E).blk sI HI (lcOf (stAt s__law_best_lots 4)) (compEnvC (lcOf (stAt s__law_best_lots 4)) cl C (cxOf (L2.CX P w) P w K mg base ["net", "several", "every", "best", "some", "least", "most", "lot", "own"] "_law_best_lots" (defScope s__law_best_lots) T._law_best_lots.a cdv A outer s0 H E).env) fp) (lcIf (stAt s__law_best_lots 4)) (tLc (iList K (tVar 4)) (gName 7) (tTest (tOp (rIn K false) (tVar 8) (tVar 7))) (tVar 7) [7]) := by
      intro sI HI C cl fp
      refine pe_lc (own := [("lot", 7)]) (g := gName 7) rfl sc__law_best_lots.nd ?_ ?_ ?_ ?_ ?_
      · exact (pi_list (pv 4))
      · exact blkOk_by (N := ["net", "several", "every", "best", "some", "least", "most", "lot", "own"]) (sc := relS (lcOf (stAt s__law_best_lots 4)) (defScope s__law_best_lots)) (by decide +kernel)
      · exact fun _ _ _ _ _ => pg_name (i := 7) sc__law_best_lots.nd rfl (Or.inl rfl)
      · exact fun _ _ _ _ _ => pts_one (pt_cmpR (show OpR _ _ (rIn K false) from op_in_seq) (pv 8) (pv 7) (by rfl))
      · exact fun _ _ _ _ _ => (pv 7)
    refine ⟨_, (pss_cons (ps_set (i := 2) sc__law_best_lots.nd rfl (by first | exact .inl rfl | exact .inr rfl) (pe_call (ok_shut_lots T) (hr.mono (by decide)) (by rfl) T._law_shut_lots.m T._law_shut_lots.f.kp (bd__law_shut_lots T) .nil passE (pa_cons (pv 0) pa_nil)))
      (pss_cons (ps_set (i := 3) sc__law_best_lots.nd rfl (by first | exact .inl rfl | exact .inr rfl) (pe_callB (cr_max rfl) (by rfl) T.b_max (by decide +kernel) (pa_cons (pe_lc (own := [("lot", 7)]) (g := (gName 7)) (tt := tYes) rfl sc__law_best_lots.nd (pi_list (pv 2)) (blkOk_by (own := [("lot", 7)]) (N := ["net", "several", "every", "best", "some", "least", "most", "lot", "own"]) (sc := defScope s__law_best_lots) (by decide +kernel)) (fun _ _ _ _ _ => pg_name (i := 7) sc__law_best_lots.nd rfl (by first | exact .inl rfl | exact .inr rfl)) (fun _ _ _ _ _ => pts_nil) (fun _ _ _ _ _ => (pe_call (ok_lsum T) (hr.mono (by decide)) (by rfl) T._law_sum.m T._law_sum.f.kp (bd__law_sum T) .nil passE (pa_cons (pv 1) (pa_cons (pv 7) pa_nil))))) pa_nil)))
      (pss_cons (ps_set (i := 4) sc__law_best_lots.nd rfl (by first | exact .inl rfl | exact .inr rfl) (pe_lc (own := [("lot", 7)]) (g := (gName 7)) rfl sc__law_best_lots.nd (pi_list (pv 2)) (blkOk_by (own := [("lot", 7)]) (N := ["net", "several", "every", "best", "some", "least", "most", "lot", "own"]) (sc := defScope s__law_best_lots) (by decide +kernel)) (fun _ _ _ _ _ => pg_name (i := 7) sc__law_best_lots.nd rfl (by first | exact .inl rfl | exact .inr rfl)) (fun _ _ _ _ _ => pts_one (pt_cmpR op_eq (pe_call (ok_lsum T) (hr.mono (by decide)) (by rfl) T._law_sum.m T._law_sum.f.kp (bd__law_sum T) .nil passE (pa_cons (pv 1) (pa_cons (pv 7) pa_nil))) (pv 3) (nomark _))) (fun _ _ _ _ _ => (pv 7))))
      (pss_cons (ps_setLc (i := 5) (own := [("own", 8)]) (g := (gName 8)) rfl sc__law_best_lots.nd rfl rfl (sw_true rfl rfl rfl (by decide +kernel)) (pi_range1 (by rfl) T.b_range (pa_cons (pe_callB call_len_seq (by rfl) T.b_len PySem.boot_len (pa_cons (pv 0) pa_nil)) pa_nil)) (blkOk_by (own := [("own", 8)]) (N := ["net", "several", "every", "best", "some", "least", "most", "lot", "own"]) (sc := defScope s__law_best_lots) (by decide +kernel)) (fun _ _ _ _ _ => pg_name (i := 8) sc__law_best_lots.nd rfl (by first | exact .inl rfl | exact .inr rfl)) (fun _ _ _ _ _ => pts_one (pt_cmpR (show OpR _ _ (rEqD K) from op_eqD hr.units) (inL _ _ _ _ _) (pe_lst pa_nil) (nomark _))) (fun _ _ _ _ _ => (pv 8)))
      (pss_cons (ps_setLc (i := 6) (own := [("own", 8)]) (g := (gName 8)) rfl sc__law_best_lots.nd rfl rfl (sw_true rfl rfl rfl (by decide +kernel)) (pi_range1 (by rfl) T.b_range (pa_cons (pe_callB call_len_seq (by rfl) T.b_len PySem.boot_len (pa_cons (pv 0) pa_nil)) pa_nil)) (blkOk_by (own := [("own", 8)]) (N := ["net", "several", "every", "best", "some", "least", "most", "lot", "own"]) (sc := defScope s__law_best_lots) (by decide +kernel)) (fun _ _ _ _ _ => pg_name (i := 8) sc__law_best_lots.nd rfl (by first | exact .inl rfl | exact .inr rfl)) (fun _ _ _ _ _ => pts_one (pt_cmpR (show OpR _ _ (rNeD K) from op_neD hr.units) (inM _ _ _ _ _) (pe_lst pa_nil) (nomark _))) (fun _ _ _ _ _ => (pv 8)))
      (pss_one (ps_ret (pe_tup (pa_cons (pv 3) (pa_cons (pe_callTy call_tuple_of (by rfl) T.b_tuple (by decide +kernel) (pa_cons (pv 5) pa_nil)) (pa_cons (pe_callTy call_tuple_of (by rfl) T.b_tuple (by decide +kernel) (pa_cons (pv 6) pa_nil)) pa_nil))))))))))), ?_⟩
    have hlen := rl.1
    refine ⟨_, rfl, a, ws, rows, rfl, ha, rl, hl, l2, fun q us ls H1 s1 _ e1 r1 pm => ?_⟩
    have lsw : ∀ s ∈ ls, s ∈ wholes rows := fun s hs => pm.mem_iff.mp hs
    have lfew : ls.length ≤ 1024 := by
      rw [pm.length_eq]
      exact wholes_few hl
    have bd : ∀ s ∈ ls, s.length ≤ 1000 ∧ ∀ f ∈ s, f < g.length := fun s hs => by
      have ms := (mem_wholes.mp (lsw s hs)).1
      exact ⟨Nat.le_trans (sub_len ((mem_subs _ _).mpr ms)) (by omega), fun f hf => gl ▸ ms.2 f hf⟩
    refine ⟨_, rfl, q, rfl, ⟨_, SqL.of e1⟩, fun D hD => ?_⟩
    refine lcP (walk_list (K := K) (a := q) (xs := us)) ls (fun _ => true) (fun s => V.int (gain g s)) r1.1 hD (fun H' s' => SqL.of (s' _ _ e1)) (Nat.le_trans lfew (by decide)) yAt_same ?_ ?_
    · rintro i z s H3 H4 N R hs s3 ⟨rfl, hz⟩ ky kn
      obtain ⟨p, s', rfl, es, hp⟩ := r1.get hz
      rw [hs] at es
      cases es
      refine ⟨rfl, ?_⟩
      dsimp only [tYes]
      rw [if_pos rfl]
      obtain ⟨bd1, bd2⟩ := bd s (List.mem_of_getElem? hs)
      exact ⟨_, rfl, _, rfl, b, p, g, s, rfl, (s1.trans s3) _ _ hb, s3 _ _ hp, bd1, bd2, fun H5 s5 => ky rfl _ s5⟩
    intro H2 s2 e2
    rw [filter_yes] at e2
    have e2 : H2 D = some (.lst ((ls.map (gain g)).map V.int)) := by rw [e2, List.map_map]; rfl
    refine ⟨D, _, rfl, SqL.of e2, ?_, fun m hm hmax => ?_⟩
    · rw [List.length_map, pm.length_eq]
      exact List.length_pos_iff.mpr (wholes_ne rows)
    have em : m = topG rows g := by
      obtain ⟨⟨t, ht, et⟩, mx⟩ := topG_spec rows g
      obtain ⟨s, hs, es⟩ := List.mem_map.mp hm
      have h1 := mx s (lsw s hs)
      have h2 := hmax _ (List.mem_map_of_mem (f := gain g) (pm.mem_iff.mpr ht))
      omega
    subst em
    clear hm hmax
    have e1' := s2 _ _ e1
    have r2 := r1.same s2
    refine ⟨_, rfl, q, rfl, ⟨_, SqL.of e1'⟩, fun D2 hD2 => ?_⟩
    refine lcR (walk_list (K := K) (a := q) (xs := us)) NV ls (fun s => decide (gain g s = topG rows g)) id r2.1 hD2 (fun H' s' => SqL.of (s' _ _ e1')) (Nat.lt_of_le_of_lt lfew (by decide)) yAt_same ?_ ?_
    · rintro i z s H3 H4 N R hs s3 ⟨rfl, hz⟩ ky kn
      obtain ⟨p, s', rfl, es, hp⟩ := r2.get hz
      rw [hs] at es
      cases es
      refine ⟨rfl, ?_⟩
      obtain ⟨bd1, bd2⟩ := bd s (List.mem_of_getElem? hs)
      refine ⟨_, rfl, _, rfl, b, p, g, s, rfl, ((s1.trans s2).trans s3) _ _ hb, s3 _ _ hp, bd1, bd2, fun H5 s5 => ⟨_, rfl, ?_⟩⟩
      refine ⟨rfl, _, rfl, ?_⟩
      rw [dec_int]
      by_cases c : gain g s = topG rows g
      · rw [show (gain g s == topG rows g) = true from beq_iff_eq.mpr c]
        exact ⟨_, rfl, ky (decide_eq_true c) _ _ s5 ⟨p, rfl, s5 _ _ (s3 _ _ hp)⟩⟩
      · rw [show (gain g s == topG rows g) = false from beq_eq_false_iff_ne.mpr c]
        exact kn (decide_eq_false c) _ s5
    intro H3 vs3 s3 e3 r3
    rw [List.map_id] at r3
    generalize hsm : (ls.filter fun s => decide (gain g s = topG rows g)) = sm at r3
    have msm : ∀ s, s ∈ sm ↔ s ∈ bests rows g := fun s => by
      rw [← hsm, List.mem_filter, mem_bests, pm.mem_iff, decide_eq_true_eq]
    have sfew : sm.length ≤ 1024 := by
      rw [← hsm]
      exact Nat.le_trans (List.length_filter_le _ _) lfew
    have s03 := (s1.trans s2).trans s3
    have lots : ∀ f, f < rows.length → True := fun _ _ => trivial
    refine ⟨_, rfl, a, ws, rfl, .inl (SqL.of (s03 _ _ ha)), _, rfl, by omega, by omega, ?_⟩
    rw [Int.toNat_natCast]
    intro D4 hD4
    refine lcP (walk_rangeN (n := ws.length)) (List.range rows.length) (fun f => (bests rows g).all fun s => inB s f) (fun f => V.int ((f : Nat) : Int)) (by rw [List.length_range, hlen]) hD4 (fun _ _ => trivial) (by rw [List.length_range]; omega) yFn_same ?_ ?_
    · rintro i x f H4 H5 N R hf s4 ⟨rfl, rfl⟩ hy hn
      obtain ⟨rfl, hfl⟩ := range_at hf
      refine ⟨rfl, ?_⟩
      have e4 := s4 _ _ e3
      have r4 := r3.same s4
      refine ⟨_, rfl, D2, rfl, ⟨_, SqL.of e4⟩, fun D5 hD5 => ?_⟩
      refine lcR (walk_list (K := K) (a := D2) (xs := vs3)) NV sm (fun s => !(inB s f)) id r4.1 hD5 (fun H' s' => SqL.of (s' _ _ e4)) (by omega) yAt_same ?_ ?_
      · rintro j z s H6 H7 N2 R2 hs s6 ⟨rfl, hz⟩ ky kn
        obtain ⟨p, s', rfl, es, hp⟩ := r4.get hz
        rw [hs] at es
        cases es
        refine ⟨rfl, ?_⟩
        refine ⟨_, rfl, _, rfl, p, _, rfl, .inr (SqT.of (s6 _ _ hp)), rfl, NV_flat s, ?_⟩
        rw [if_pos rfl, inV_NV]
        cases c : inB s f with
        | true => exact ⟨_, rfl, kn (by rw [c]; rfl) _ fun _ _ e => e⟩
        | false => exact ⟨_, rfl, _, rfl, ky (by rw [c]; rfl) _ _ (fun _ _ e => e) ⟨p, rfl, s6 _ _ hp⟩⟩
      · intro H6 vs6 s6 e6 r6
        rw [List.map_id] at r6
        refine ⟨(by show 0 ≤ sizeLine; decide), fun z hz => ?_⟩
        have t7 := Same.new (o := .lst []) hz
        refine ⟨_, _, .lst (SqL.of (t7 _ _ e6)) (dp_rl dp_lot (r6.same t7)), dp_nil upd_same, lots_shaped, shaped_nil, _, rfl, ?_⟩
        rw [eqv_lots_nil, all_filter]
        have e : (sm.all fun s => inB s f) = (bests rows g).all fun s => inB s f := by
          rw [Bool.eq_iff_iff, List.all_eq_true, List.all_eq_true]
          exact ⟨fun h s hs => h s ((msm s).mpr hs), fun h s hs => h s ((msm s).mp hs)⟩
        rw [e]
        cases c : (bests rows g).all fun s => inB s f with
        | true => exact ⟨_, rfl, hy c _ (s6.trans t7)⟩
        | false => exact hn c _ (s6.trans t7)
    intro H4 s4 e4
    have e4 : H4 D4 = some (.lst (NV (leastL rows g))) := e4
    have s04 := s03.trans s4
    refine ⟨_, rfl, a, ws, rfl, .inl (SqL.of (s04 _ _ ha)), _, rfl, by omega, by omega, ?_⟩
    rw [Int.toNat_natCast]
    intro D6 hD6
    refine lcP (walk_rangeN (n := ws.length)) (List.range rows.length) (fun f => (bests rows g).any fun s => inB s f) (fun f => V.int ((f : Nat) : Int)) (by rw [List.length_range, hlen]) hD6 (fun _ _ => trivial) (by rw [List.length_range]; omega) yFn_same ?_ ?_
    · rintro i x f H5 H6 N R hf s5 ⟨rfl, rfl⟩ hy hn
      obtain ⟨rfl, hfl⟩ := range_at hf
      refine ⟨rfl, ?_⟩
      have e5 := (s4.trans s5) _ _ e3
      have r5 := r3.same (s4.trans s5)
      refine ⟨_, rfl, D2, rfl, ⟨_, SqL.of e5⟩, fun D5 hD5 => ?_⟩
      refine lcR (walk_list (K := K) (a := D2) (xs := vs3)) NV sm (fun s => inB s f) id r5.1 hD5 (fun H' s' => SqL.of (s' _ _ e5)) (by omega) yAt_same ?_ ?_
      · rintro j z s H6 H7 N2 R2 hs s6 ⟨rfl, hz⟩ ky kn
        obtain ⟨p, s', rfl, es, hp⟩ := r5.get hz
        rw [hs] at es
        cases es
        refine ⟨rfl, ?_⟩
        refine ⟨_, rfl, _, rfl, p, _, rfl, .inr (SqT.of (s6 _ _ hp)), rfl, NV_flat s, ?_⟩
        rw [if_neg Bool.false_ne_true, inV_NV]
        cases c : inB s f with
        | false => exact ⟨_, rfl, kn c _ fun _ _ e => e⟩
        | true => exact ⟨_, rfl, _, rfl, ky c _ _ (fun _ _ e => e) ⟨p, rfl, s6 _ _ hp⟩⟩
      · intro H6 vs6 s6 e6 r6
        rw [List.map_id] at r6
        refine ⟨(by show 0 ≤ sizeLine; decide), fun z hz => ?_⟩
        have t7 := Same.new (o := .lst []) hz
        refine ⟨_, _, .lst (SqL.of (t7 _ _ e6)) (dp_rl dp_lot (r6.same t7)), dp_nil upd_same, lots_shaped, shaped_nil, _, rfl, ?_⟩
        rw [eqv_lots_nil, any_filter]
        have e : (sm.any fun s => inB s f) = (bests rows g).any fun s => inB s f := by
          rw [Bool.eq_iff_iff, List.any_eq_true, List.any_eq_true]
          exact ⟨fun ⟨s, h1, h2⟩ => ⟨s, (msm s).mp h1, h2⟩, fun ⟨s, h1, h2⟩ => ⟨s, (msm s).mpr h1, h2⟩⟩
        rw [e]
        cases c : (bests rows g).any fun s => inB s f with
        | true => exact ⟨_, rfl, hy c _ (s6.trans t7)⟩
        | false => exact hn c _ (s6.trans t7)
    intro H5 s5 e5
    have e5 : H5 D6 = some (.lst (NV (mostL rows g))) := e5
    have s05 := s04.trans s5
    refine ⟨_, rfl, _, rfl, D4, _, rfl, .inl ⟨SqL.of (s5 _ _ e4), fun l1 h1 => ?_⟩⟩
    have t6 := Same.new (o := .tup (NV (leastL rows g))) h1
    refine ⟨_, rfl, D6, _, rfl, .inl ⟨SqL.of (t6 _ _ e5), fun l2' h2 => ?_⟩⟩
    have t7 := Same.new (o := .tup (NV (mostL rows g))) h2
    refine ⟨(by show 3 ≤ sizeLine; decide), fun p hp => ?_⟩
    have t8 := Same.new (o := .tup [V.int (topG rows g), .ref l1, .ref l2']) hp
    exact k p _ (((s05.trans t6).trans t7).trans t8) ⟨l1, l2', upd_same, t8 _ _ (t7 _ _ upd_same), t8 _ _ upd_same⟩
end
end K47
namespace K47
open PySem PySem.Spec PyProof.Rows L2 PySem.W LamX KA KW KU KL KT
open Evl (pss_cut tCut)
/-! ### the law draws a web -/
def spNet : Sp := fun vs H Q _ => ∃ (st lg cl : Addr) (m : Nat), vs = [.ref st, .int 5] ∧ m ≤ 800000 ∧ StAt H st lg cl m ∧
  ∀ (a : Addr) (ws : List V) (rows : List (List Nat)) (line : List Nat) (H' : Hp), StAt H' st lg cl (m + 100) → Kp st lg H H' → H a = none → H' a = some (.lst ws) → RL NV H' ws rows → 1 ≤ rows.length → rows.length ≤ 5 → Ord rows line → Q (.ref a) H'
/-- so far the frames ahead in the line have their rows, the others none -/
structure Sofar (rows : List (List Nat)) (line : List Nat) (n t : Nat) : Prop where
  len : rows.length = n
  asc : ∀ f, (row rows f).Pairwise (· < ·)
  lean : ∀ j f, j < t → line[j]? = some f → ∀ x ∈ row rows f, x ∈ line.take j
  rest : ∀ f, f ∉ line.take t → row rows f = []
theorem row_set {rows : List (List Nat)} {i f : Nat} {r : List Nat} (h : i < rows.length) : row (rows.set i r) f = if f = i then r else row rows f := by
  unfold row
  rw [List.getD_eq_getElem?_getD, List.getD_eq_getElem?_getD]
  by_cases c : f = i
  · subst c
    rw [if_pos rfl, List.getElem?_set_self h]
    rfl
  · rw [if_neg c, List.getElem?_set_ne (fun e => c e.symm)]
theorem Sofar.start {line : List Nat} {n : Nat} : Sofar (List.replicate n []) line n 0 := by
  have e : ∀ f, row (List.replicate n []) f = [] := fun f => by
    unfold row
    rw [List.getD_eq_getElem?_getD, List.getElem?_replicate]
    split <;> rfl
  exact ⟨List.length_replicate, fun f => by rw [e]; exact .nil, fun j f h => absurd h (Nat.not_lt_zero _), fun f _ => e f⟩
theorem Sofar.next {rows : List (List Nat)} {line r : List Nat} {n t own : Nat} (S : Sofar rows line n t) (nd : line.Nodup) (ho : line[t]? = some own) (hl : own < n) (ha : r.Pairwise (· < ·)) (hr : ∀ x ∈ r, x ∈ line.take t) : Sofar (rows.set own r) line n (t + 1) := by
  have hlo : own < rows.length := S.len.symm ▸ hl
  have tk : line.take (t + 1) = line.take t ++ [own] := by rw [List.take_add_one, ho]; rfl
  refine ⟨by rw [List.length_set]; exact S.len, fun f => ?_, fun j f hj hf x hx => ?_, fun f hf => ?_⟩
  · rw [row_set hlo]
    split
    · exact ha
    · exact S.asc f
  · rw [row_set hlo] at hx
    by_cases c : f = own
    · rw [if_pos c] at hx
      have : j = t := by
        subst c
        obtain ⟨l1, e1⟩ := List.getElem?_eq_some_iff.mp hf
        obtain ⟨l2, e2⟩ := List.getElem?_eq_some_iff.mp ho
        have np := List.pairwise_iff_getElem.mp (List.nodup_iff_pairwise_ne.mp nd)
        by_cases q : j < t
        · exact absurd (e1.trans e2.symm) (np j t l1 l2 q)
        · omega
      subst this
      exact hr x hx
    · rw [if_neg c] at hx
      by_cases q : j < t
      · exact S.lean j f q hf x hx
      · have : j = t := by omega
        subst this
        rw [ho] at hf
        exact absurd (Option.some.inj hf).symm c
  · rw [tk] at hf
    rw [row_set hlo, if_neg (fun e => hf (List.mem_append_right _ (List.mem_singleton.mpr e)))]
    exact S.rest f fun q => hf (List.mem_append_left _ q)
theorem Sofar.ord {rows : List (List Nat)} {line : List Nat} {n : Nat} (S : Sofar rows line n n) (pm : line.Perm (List.range n)) : Ord rows line := by
  have nd : line.Nodup := (pm.nodup_iff).mpr List.nodup_range
  have ln : line.length = n := by rw [pm.length_eq, List.length_range]
  exact ⟨nd, by rw [ln, S.len], fun x hx => by rw [S.len]; exact List.mem_range.mp (pm.mem_iff.mp hx), fun i _ => S.asc i, fun t f h x hx => S.lean t f (by
    have := (List.getElem?_eq_some_iff.mp h).1
    omega) h x hx⟩
/-- numbers that are naturals -/
theorem nat_list : ∀ ns : List Int, (∀ x ∈ ns, 0 ≤ x) → ∃ ms : List Nat, ns = ms.map fun m : Nat => (m : Int)
  | [], _ => ⟨[], rfl⟩
  | x :: ns, h => by
    obtain ⟨ms, e⟩ := nat_list ns fun y hy => h y (List.mem_cons_of_mem _ hy)
    have := h x List.mem_cons_self
    exact ⟨x.toNat :: ms, by rw [List.map_cons, ← e, Int.toNat_of_nonneg this]⟩
theorem ixN_nat {n j : Nat} (h : j < n) : ixN n (j : Int) = some j := by
  unfold ixN
  rw [if_pos (by omega), if_pos (by omega), Int.toNat_natCast]
theorem rl_set {α : Type} {f : α → List V} {H : Hp} {vs : List V} {as : List α} {i : Nat} {v : V} {a : α} (r : RL f H vs as) (hi : i < as.length) (t : TupAt H v (f a)) : RL f H (vs.set i v) (as.set i a) :=
  ⟨by rw [List.length_set, List.length_set, r.1], fun j u hu => by
    by_cases c : i = j
    · subst c
      rw [List.getElem?_set_self (by rw [r.1]; exact hi)] at hu
      cases hu
      exact ⟨a, List.getElem?_set_self hi, t⟩
    · rw [List.getElem?_set_ne c] at hu
      obtain ⟨b, e, q⟩ := r.2 j u hu
      exact ⟨b, by rw [List.getElem?_set_ne c]; exact e, q⟩⟩
theorem rep_flat {α : Type} (x : α) : ∀ n : Nat, (List.replicate n [x]).flatten = List.replicate n x
  | 0 => rfl
  | n + 1 => by rw [List.replicate_succ, List.flatten_cons, rep_flat x n, List.replicate_succ]; rfl
section
variable {P : Program} {w : World} {K : PySem.W.Frag} {mg : Str → Option Value} {base : Heap} (T : Top K mg)
theorem ok_net : FnOk P w K mg base (L2.CX P w) 3 T._law_net.a T._law_net.d ["state", "most"] spNet := by
  refine T._law_net.f.okX sc__law_net (fun vs H Q E h => ?_) (fun cdv A outer s0 H vs Q E hr h => ?_)
  · obtain ⟨st, lg, cl, m, rfl, _⟩ := h
    rfl
  · obtain ⟨st, lg, cl, m, rfl, hm, S, k⟩ := h
    refine ⟨_, (pss_cons (ps_par (i := 2) (j := 3) rfl sc__law_net.nd rfl rfl (by decide) rfl rfl (pa_cons (pe_op op_add pe_int (pe_call (ok_draw T) (hr.mono (by decide)) (by rfl) T._law_draw.m T._law_draw.f.kp (bd__law_draw T) .nil passE (pa_cons (pv 0) (pa_cons (pv 1) pa_nil)))) (pa_cons (pe_call (ok_pick T) (hr.mono (by decide)) (by rfl) T._law_pick.m T._law_pick.f.kp (bd__law_pick T) .nil passE (pa_cons (pv 0) (pa_cons (pe_lst (pa_cons pe_int (pa_cons pe_int (pa_cons pe_int (pa_cons pe_int pa_nil))))) pa_nil))) pa_nil)) (by rfl))
      (pss_cons (ps_par (i := 4) (j := 5) rfl sc__law_net.nd rfl rfl (by decide) rfl rfl (pa_cons (pe_call (ok_mixed T) (hr.mono (by decide)) (by rfl) T._law_mixed.m T._law_mixed.f.kp (bd__law_mixed T) .nil passE (pa_cons (pv 0) (pa_cons (pe_listRg rfl (by rfl) T.b_list (prg_1 (by rfl) T.b_range (pv 2))) pa_nil))) (pa_cons (pe_op op_rep (pe_lst (pa_cons (pe_tup pa_nil) pa_nil)) (pv 2)) pa_nil)) (by rfl))
      (pss_cons (ps_for (passes_of rfl) rfl (pi_enum (by rfl) T.b_enumerate (pa_cons (pv 4) pa_nil)) (pg_tup rfl (pgs_cons (pg_name (i := 6) sc__law_net.nd rfl (by first | exact .inl rfl | exact .inr rfl)) (pgs_cons (pg_name (i := 7) sc__law_net.nd rfl (by first | exact .inl rfl | exact .inr rfl)) pgs_nil)))
        (pss_cons (ps_set (i := 8) sc__law_net.nd rfl (by first | exact .inl rfl | exact .inr rfl) (pe_lst pa_nil))
      (pss_cons (ps_for (passes_of rfl) rfl (pi_range1 (by rfl) T.b_range (pa_cons (pe_ifExp (pt_cmpR op_gt (pv 6) pe_int (nomark _)) (pe_call (ok_draw T) (hr.mono (by decide)) (by rfl) T._law_draw.m T._law_draw.f.kp (bd__law_draw T) .nil passE (pa_cons (pv 0) (pa_cons (pe_op op_add (pv 3) pe_int) pa_nil))) pe_int) pa_nil)) (pg_name (i := 9) sc__law_net.nd rfl (by first | exact .inl rfl | exact .inr rfl))
        (pss_one (ps_expr (pe_bm PySem.F.plainAttrs_list PySem.F.slot_list_append PySem.F.type_list_append mt_append (pv 8) (pa_cons (pe_ix (show IxR _ (rIx K) from ix_seq) (pv 4) (pe_call (ok_draw T) (hr.mono (by decide)) (by rfl) T._law_draw.m T._law_draw.f.kp (bd__law_draw T) .nil passE (pa_cons (pv 0) (pa_cons (pv 6) pa_nil))) (fun _ _ => rfl)) pa_nil)))))
      (pss_one (ps_asg (pe_callTy call_tuple_of (by rfl) T.b_tuple (by decide +kernel) (pa_cons (pe_callB (cr_sortedSet rfl) (by rfl) T.b_sorted (by decide +kernel) (pa_cons (pe_callTy (show CallR _ _ (KSL.rSetL K w) from KSL.cr_setL rfl) (by rfl) T.b_set (by decide +kernel) (pa_cons (pv 8) pa_nil)) pa_nil)) pa_nil)) (pg_sub (pv 5) (pv 7) set_list))))))
      (pss_one (ps_ret (pv 5)))))), ?_⟩
    refine ⟨_, rfl, _, rfl, st, lg, cl, 5, m, rfl, by decide, by decide, by omega, S, fun r H1 hr1 S1 kp1 => ⟨_, _, rfl, rfl, ?_⟩⟩
    refine ⟨_, rfl, (by show 4 ≤ sizeLine; decide), fun pl hpl => ?_⟩
    have t1 := Same.new (o := .lst [V.int 1, .int 2, .int 2, .int 3]) hpl
    have S1' := S1.same t1
    refine ⟨st, lg, cl, pl, [V.int 1, .int 2, .int 2, .int 3], m + 1, rfl, upd_same, (S1.off hpl).2, by decide, by decide, by omega, S1', fun x H2 hx S2 kp2 => ?_⟩
    obtain ⟨rd, rfl, hrd⟩ : ∃ rd : Nat, x = .int ((rd : Nat) : Int) ∧ rd ≤ 3 := by
      simp only [List.mem_cons, List.not_mem_nil, or_false] at hx
      rcases hx with rfl | rfl | rfl | rfl
      · exact ⟨1, rfl, by decide⟩
      · exact ⟨2, rfl, by decide⟩
      · exact ⟨2, rfl, by decide⟩
      · exact ⟨3, rfl, by decide⟩
    refine ⟨_, _, rfl, ?_⟩
    have en : (1 : Int) + (r : Int) = (((1 + r : Nat)) : Int) := by omega
    dsimp only
    rw [en]
    generalize hn : 1 + r = n
    have n1 : 1 ≤ n := by omega
    have n5 : n ≤ 5 := by omega
    have kp02 : Kp st lg H H2 := (kp1.trans (.same t1)).trans kp2
    clear hn en hr1 hx
    refine ⟨_, rfl, _, rfl, ?_⟩
    refine ⟨_, rfl, RgOk.of_le (by decide) (by omega) (by decide) (by omega), fun ql hql => ?_⟩
    have t3 := Same.new (o := .lst (rgV 0 (n : Int))) hql
    have erg : rgV 0 (n : Int) = ((List.range n).map fun i : Nat => (i : Int)).map V.int := by
      unfold rgV
      rw [List.map_map, show ((n : Int) - 0).toNat = n by omega]
      exact List.map_congr_left fun i _ => by rw [Int.zero_add]; rfl
    refine ⟨st, lg, cl, ql, (List.range n).map (fun i : Nat => (i : Int)), m + 1 + 1, rfl, by rw [← erg]; exact SqL.of upd_same, by rw [List.length_map, List.length_range]; omega, by omega, S2.same t3, fun ln js H3 pm eln hln S3 kp3 => ?_⟩
    obtain ⟨line, rfl, pml⟩ : ∃ line : List Nat, js = line.map (fun i : Nat => (i : Int)) ∧ line.Perm (List.range n) := by
      obtain ⟨l', h1, h2⟩ := KSU.perm_of_map pm _ rfl
      exact ⟨l', h2, h1⟩
    have eln : H3 ln = some (.lst (NV line)) := by rw [eln, NV_ints]
    have kp03 : Kp st lg H H3 := (kp02.trans (.same t3)).trans kp3
    rw [List.length_map, List.length_range] at S3
    clear pm erg
    refine ⟨(by show 0 ≤ sizeLine; decide), fun e0 he0 => ⟨(by show 1 ≤ sizeLine; decide), fun q0 hq0 => ⟨_, rfl, q0, (n : Int), [.ref e0], rfl, rfl, upd_same, by omega, by omega, ?_, fun fd hfd => ⟨_, _, rfl, ?_⟩⟩⟩⟩
    · rw [Int.toNat_natCast, List.length_singleton, Nat.one_mul]
      exact Nat.le_trans (show n ≤ 1000 by omega) (by decide)
    have u1 := Same.new (o := .tup []) he0
    have u2 := Same.new (o := .lst [.ref e0]) hq0
    have hfdH : (upd (upd H3 e0 (.tup [])) q0 (.lst [.ref e0])) fd = none := hfd
    have u3 := Same.new (o := .lst (List.replicate (n : Int).toNat [V.ref e0]).flatten) hfd
    have u := (u1.trans u2).trans u3
    have ews : (List.replicate (n : Int).toNat [V.ref e0]).flatten = List.replicate n (V.ref e0) := by
      rw [Int.toNat_natCast, rep_flat]
    have efd : (upd (upd (upd H3 e0 (.tup [])) q0 (.lst [.ref e0])) fd (.lst (List.replicate (n : Int).toNat [V.ref e0]).flatten)) fd = some (.lst (List.replicate n (V.ref e0))) := by rw [upd_same, ews]
    have ee0 : (upd (upd (upd H3 e0 (.tup [])) q0 (.lst [.ref e0])) fd (.lst (List.replicate (n : Int).toNat [V.ref e0]).flatten)) e0 = some (.tup []) := u3 _ _ (u2 _ _ upd_same)
    have fdH3 : H3 fd = none := (u1.trans u2).free hfd
    have S4 := S3.same u
    have kp04 : Kp st lg H _ := kp03.trans (.same u)
    have eln4 := u _ _ eln
    have nfln : fd ≠ ln := fun z => by rw [z, eln] at fdH3; cases fdH3
    have nfst := S3.off fdH3
    have nfcl := offc S3 fdH3
    have nln := StAt.off S2 ((show Same _ _ from t3).free hln)
    have nlncl : ln ≠ cl := offc S2 ((show Same _ _ from t3).free hln)
    have hfH : H fd = none := by
      cases z : H fd with
      | none => rfl
      | some o =>
        have := kp03 fd o z nfst.1 nfst.2
        rw [fdH3] at this
        cases this
    generalize upd (upd (upd H3 e0 (.tup [])) q0 (.lst [.ref e0])) fd (.lst (List.replicate (n : Int).toNat [V.ref e0]).flatten) = H4 at efd ee0 S4 kp04 eln4
    clear u u1 u2 u3 he0 hq0 hfd ews hfdH fdH3 hln eln
    have rl4 : RL NV H4 (List.replicate n (V.ref e0)) (List.replicate n []) := ⟨by rw [List.length_replicate, List.length_replicate], fun i v hv => by
      rw [List.getElem?_replicate] at hv
      split at hv
      · rename_i hi
        cases hv
        exact ⟨[], by rw [List.getElem?_replicate, if_pos hi], e0, rfl, ee0⟩
      · cases hv⟩
    have lln : line.length = n := by rw [pml.length_eq, List.length_range]
    have ndl : line.Nodup := pml.nodup_iff.mpr List.nodup_range
    refine ⟨_, rfl, ln, NV line, rfl, SqL.of eln4, ?_⟩
    refine for_it (walk_enum (K := K) (a := ln) (xs := NV line)) (fun t σ H' => ∃ v6 v7 v8 v9, σ = [some (.ref st), some (.int 5), some (.int (n : Int)), some (.int (rd : Int)), some (.ref ln), some (.ref fd), v6, v7, v8, v9] ∧ ∃ ws rows, StAt H' st lg cl (m + 10 + 10 * t) ∧ Kp st lg H H' ∧ H' ln = some (.lst (NV line)) ∧ H' fd = some (.lst ws) ∧ RL NV H' ws rows ∧ Sofar rows line n t)
      ⟨none, none, none, none, rfl, _, _, S4.mono (by omega), kp04, eln4, efd, rl4, .start⟩ (fun t σ H' _ p => ?_) ?_ ?_
    · obtain ⟨_, _, _, _, _, _, _, _, _, e, _⟩ := p
      exact SqL.of e
    · rintro t x σ Hq Hr hi ⟨v6, v7, v8, v9, rfl, ws, rows, Sq, kq, eq, fq, rq, so⟩ ⟨T', x1, y1, rfl, hT, rfl, h1, h2⟩
      cases h1
      obtain ⟨own, eown, rfl⟩ := NV_at h2
      rw [NV_len] at hi
      have tT := Same.new (o := .tup [V.int ((t : Nat) : Int), .int (own : Int)]) hT
      refine ⟨T', _, rfl, SqT.of upd_same, rfl, _, _, rfl, _, _, rfl, rfl, ?_⟩
      refine ⟨(by show 0 ≤ sizeLine; decide), fun sm hsm => ?_⟩
      have t5 := Same.new (o := .lst []) hsm
      have tt := tT.trans t5
      have Sm := Sq.same tt
      have km := kq.trans (.same tt)
      have em := tt _ _ eq
      have fm := tt _ _ fq
      have rm := rq.same tt
      have nsm := Sq.off (tT.free hsm)
      have nsmc := offc Sq (tT.free hsm)
      have nsf : fd ≠ sm := fun z => by have := tT.free hsm; rw [← z, fq] at this; cases this
      have nsl : ln ≠ sm := fun z => by have := tT.free hsm; rw [← z, eq] at this; cases this
      have hsmH : H sm = none := by
        cases z : H sm with
        | none => rfl
        | some o =>
          have := kq sm o z nsm.1 nsm.2
          rw [tT.free hsm] at this
          cases this
      have esm : (upd (upd Hq T' (.tup [V.int ((t : Nat) : Int), .int (own : Int)])) sm (.lst [])) sm = some (.lst (NV [])) := upd_same
      generalize upd (upd Hq T' (.tup [V.int ((t : Nat) : Int), .int (own : Int)])) sm (.lst []) = H5 at Sm km em fm rm esm
      have ht0 : ∀ x : Nat, x = x := fun _ => rfl
      refine ⟨_, rfl, _, _, rfl, rfl, _, rfl, ?_⟩
      by_cases c0 : t = 0
      · subst c0
        refine iteF ⟨_, rfl, by decide, by decide, ?_⟩
        rw [show Int.toNat 0 = 0 from rfl]
        refine for_it (walk_rangeN (n := 0)) (fun j σ H' => ∃ v9, σ = [some (.ref st), some (.int 5), some (.int (n : Int)), some (.int (rd : Int)), some (.ref ln), some (.ref fd), some (.int ((0 : Nat) : Int)), some (.int (own : Int)), some (.ref sm), v9] ∧ ∃ xs, xs.length = j ∧ (∀ x ∈ xs, x ∈ line.take 0) ∧ StAt H' st lg cl (m + 12 + 10 * 0 + j) ∧ Kp st lg H H' ∧ H' ln = some (.lst (NV line)) ∧ H' fd = some (.lst ws) ∧ RL NV H' ws rows ∧ H' sm = some (.lst (NV xs))) ⟨_, rfl, [], rfl, fun x hx => absurd hx List.not_mem_nil, Sm.mono (by omega), km, em, fm, rm, esm⟩ (fun _ _ _ _ _ => trivial) ?_ ?_
        · exact fun j x σ H' H'' hj => absurd hj (Nat.not_lt_zero _)
        · rintro σ H' ⟨v9, rfl, xs, lxs, hxs, Sx, kx, ex, fx, rx, smx⟩
          refine ⟨_, rfl, sm, xs.map (fun i : Nat => (i : Int)), rfl, by rw [← NV_ints]; exact SqL.of smx, by rw [List.length_map]; omega, fun q c hc hq => ?_⟩
          have y1 := Same.new (o := SetO w q (fun j => decide (j ∈ xs.map (fun i : Nat => (i : Int)))) c) hq
          refine ⟨q, _, c, rfl, upd_same, by rw [List.length_map] at hc; omega, fun ns p hasc hmem hlen hp => ?_⟩
          have y2 := Same.new (o := .lst (ns.map V.int)) hp
          have mns : ∀ x : Int, x ∈ ns → ∃ y ∈ xs, x = (y : Int) := fun x hx => by
            have := of_decide_eq_true ((hmem x).mp hx)
            obtain ⟨y, hy, e⟩ := List.mem_map.mp this
            exact ⟨y, hy, e.symm⟩
          obtain ⟨ms, rfl⟩ := nat_list ns fun x hx => by
            obtain ⟨y, _, rfl⟩ := mns x hx
            omega
          have masc : ms.Pairwise (· < ·) := by
            have := List.pairwise_map.mp hasc
            exact this.imp fun h => by omega
          have mms : ∀ x ∈ ms, x ∈ line.take 0 := fun x hx => by
            obtain ⟨y, hy, e⟩ := mns (x : Int) (List.mem_map_of_mem hx)
            have : x = y := by omega
            exact this ▸ hxs y hy
          refine ⟨p, _, rfl, .inl ⟨SqL.of upd_same, fun l hl => ?_⟩⟩
          rw [← NV_ints] at y2 hl ⊢
          have y3 := Same.new (o := .tup (NV ms)) hl
          have yy := (y1.trans y2).trans y3
          have hownn : own < n := by
            have := pml.mem_iff.mp (List.mem_of_getElem? eown)
            exact List.mem_range.mp this
          have lws : ws.length = n := by rw [rx.1, so.len]
          have fy := yy _ _ fx
          refine ⟨_, rfl, _, rfl, fd, ws, (own : Int), own, rfl, rfl, fy, ?_, ?_⟩
          · exact ixN_nat (by omega)
          have put := Tp.put (o := .lst (ws.set own (.ref l))) fy
          refine ⟨_, _, _, _, rfl, ws.set own (.ref l), rows.set own ms, ?_, ?_, ?_, upd_same, ?_, ?_⟩
          · exact stAt_put ((Sx.mono (by omega)).same yy) nfst.1 nfst.2 nfcl
          · exact Kp.put3 (kx.trans (.same yy)) hfH
          · exact (upd_ne (Ne.symm nfln)).trans (yy _ _ ex)
          · exact rl_set ((rx.same yy).tp put) (by rw [so.len]; exact hownn) ⟨l, rfl, put _ _ upd_same⟩
          · exact so.next ndl eown hownn masc mms
      · rw [show decide ((0 : Int) < ((t : Nat) : Int)) = true from decide_eq_true (by omega)]
        refine iteT ⟨_, rfl, _, rfl, _, _, rfl, rfl, st, lg, cl, rd + 1, _, rfl, by omega, ?_, ?_, Sm, fun r6 H6 hr6 S6 kp6 => ?_⟩
        · exact Nat.lt_of_le_of_lt (show rd + 1 ≤ 4 by omega) (by decide)
        · omega
        have em6 := kp6 _ _ em nln.1 nln.2
        have fm6 := kp6 _ _ fm nfst.1 nfst.2
        have sm6 := kp6 _ _ esm nsm.1 nsm.2
        have rm6 := rm.tp (Tp.kp Sm kp6)
        refine ⟨_, rfl, by omega, by omega, ?_⟩
        rw [Int.toNat_natCast]
        refine for_it (walk_rangeN (n := r6)) (fun j σ H' => ∃ v9, σ = [some (.ref st), some (.int 5), some (.int (n : Int)), some (.int (rd : Int)), some (.ref ln), some (.ref fd), some (.int (t : Int)), some (.int (own : Int)), some (.ref sm), v9] ∧ ∃ xs, xs.length = j ∧ (∀ x ∈ xs, x ∈ line.take t) ∧ StAt H' st lg cl (m + 12 + 10 * t + j) ∧ Kp st lg H H' ∧ H' ln = some (.lst (NV line)) ∧ H' fd = some (.lst ws) ∧ RL NV H' ws rows ∧ H' sm = some (.lst (NV xs))) ⟨_, rfl, [], rfl, fun x hx => absurd hx List.not_mem_nil, S6.mono (by omega), km.trans kp6, em6, fm6, rm6, sm6⟩ (fun _ _ _ _ _ => trivial) ?_ ?_
        · rintro j x σ H7 H8 hj ⟨v9, rfl, xs, lxs, hxs, Sx, kx, ex, fx, rx, smx⟩ ⟨rfl, rfl⟩
          refine ⟨_, rfl, .inl ⟨rfl, _, SqL.of smx⟩, _, rfl, _, rfl, _, rfl, st, lg, cl, t, _, rfl, by omega, ?_, ?_, Sx, fun d H9 hd S9 kp9 => ?_⟩
          · exact Nat.lt_of_le_of_lt (show t ≤ 100 by omega) (by decide)
          · omega
          have hdl : d < line.length := by omega
          have edl : line[d]? = some line[d] := List.getElem?_eq_getElem hdl
          have sm9 := kp9 _ _ smx nsm.1 nsm.2
          refine ix_either (K := K) (.inl (kp9 _ _ ex nln.1 nln.2)) (NV_get edl) ⟨sm, NV xs, _, rfl, rfl, sm9, ?_, ?_⟩
          · rw [NV_len]
            exact Nat.lt_of_le_of_lt (show xs.length ≤ 100 by omega) (by decide)
          have put := Tp.put (o := .lst (NV xs ++ [V.int (line[d] : Int)])) sm9
          refine ⟨_, rfl, xs ++ [line[d]], ?_, fun x hx => ?_, ?_, ?_, ?_, ?_, ?_, ?_⟩
          · rw [List.length_append, lxs]
            rfl
          · rcases List.mem_append.mp hx with hx | hx
            · exact hxs x hx
            · rw [List.mem_singleton.mp hx]
              exact List.mem_of_getElem? (i := d) (by rw [List.getElem?_take, if_pos hd]; exact edl)
          · exact stAt_put (S9.mono (by omega)) nsm.1 nsm.2 nsmc
          · exact Kp.put3 (kx.trans kp9) hsmH
          · exact (upd_ne nsl).trans (kp9 _ _ ex nln.1 nln.2)
          · exact (upd_ne nsf).trans (kp9 _ _ fx nfst.1 nfst.2)
          · exact (rx.tp (Tp.kp Sx kp9)).tp put
          · rw [upd_same]
            unfold NV
            rw [List.map_append]
            rfl
        · rintro σ H' ⟨v9, rfl, xs, lxs, hxs, Sx, kx, ex, fx, rx, smx⟩
          refine ⟨_, rfl, sm, xs.map (fun i : Nat => (i : Int)), rfl, by rw [← NV_ints]; exact SqL.of smx, by rw [List.length_map]; omega, fun q c hc hq => ?_⟩
          have y1 := Same.new (o := SetO w q (fun j => decide (j ∈ xs.map (fun i : Nat => (i : Int)))) c) hq
          refine ⟨q, _, c, rfl, upd_same, by rw [List.length_map] at hc; omega, fun ns p hasc hmem hlen hp => ?_⟩
          have y2 := Same.new (o := .lst (ns.map V.int)) hp
          have mns : ∀ x : Int, x ∈ ns → ∃ y ∈ xs, x = (y : Int) := fun x hx => by
            have := of_decide_eq_true ((hmem x).mp hx)
            obtain ⟨y, hy, e⟩ := List.mem_map.mp this
            exact ⟨y, hy, e.symm⟩
          obtain ⟨ms, rfl⟩ := nat_list ns fun x hx => by
            obtain ⟨y, _, rfl⟩ := mns x hx
            omega
          have masc : ms.Pairwise (· < ·) := by
            have := List.pairwise_map.mp hasc
            exact this.imp fun h => by omega
          have mms : ∀ x ∈ ms, x ∈ line.take t := fun x hx => by
            obtain ⟨y, hy, e⟩ := mns (x : Int) (List.mem_map_of_mem hx)
            have : x = y := by omega
            exact this ▸ hxs y hy
          refine ⟨p, _, rfl, .inl ⟨SqL.of upd_same, fun l hl => ?_⟩⟩
          rw [← NV_ints] at y2 hl ⊢
          have y3 := Same.new (o := .tup (NV ms)) hl
          have yy := (y1.trans y2).trans y3
          have hownn : own < n := by
            have := pml.mem_iff.mp (List.mem_of_getElem? eown)
            exact List.mem_range.mp this
          have lws : ws.length = n := by rw [rx.1, so.len]
          have fy := yy _ _ fx
          refine ⟨_, rfl, _, rfl, fd, ws, (own : Int), own, rfl, rfl, fy, ?_, ?_⟩
          · exact ixN_nat (by omega)
          have put := Tp.put (o := .lst (ws.set own (.ref l))) fy
          refine ⟨_, _, _, _, rfl, ws.set own (.ref l), rows.set own ms, ?_, ?_, ?_, upd_same, ?_, ?_⟩
          · exact stAt_put ((Sx.mono (by omega)).same yy) nfst.1 nfst.2 nfcl
          · exact Kp.put3 (kx.trans (.same yy)) hfH
          · exact (upd_ne (Ne.symm nfln)).trans (yy _ _ ex)
          · exact rl_set ((rx.same yy).tp put) (by rw [so.len]; exact hownn) ⟨l, rfl, put _ _ upd_same⟩
          · exact so.next ndl eown hownn masc mms
    · rintro σ H' ⟨v6, v7, v8, v9, rfl, ws, rows, Sq, kq, eq, fq, rq, so⟩
      rw [NV_len, lln] at so Sq
      exact ⟨_, rfl, k fd ws rows line H' (Sq.mono (by omega)) kq hfH fq rq (by rw [so.len]; exact n1) (by rw [so.len]; exact n5) (so.ord pml)⟩
end
end K47
namespace K47
open PySem PySem.Spec PyProof.Rows L2 PySem.W LamX KA KW KU KL KT
open Evl (pss_cut tCut)
/-! ### the law draws gains -/
def spYields : Sp := fun vs H Q _ => ∃ (st lg cl a : Addr) (ws : List V) (m : Nat), vs = [.ref st, .ref a] ∧ H a = some (.lst ws) ∧ a ≠ lg ∧ ws.length ≤ 5 ∧ m ≤ 800000 ∧ StAt H st lg cl m ∧
  ∀ (q : Addr) (g : List Int) (H' : Hp), StAt H' st lg cl (m + 100) → Kp st lg H H' → H q = none → H' q = some (.lst (g.map V.int)) → g.length = ws.length → (∀ i ∈ g, -mostG ≤ i ∧ i ≤ mostG) → Q (.ref q) H'
def clamp (i : Int) : Int := if mostG < (if -mostG > i then -mostG else i) then mostG else (if -mostG > i then -mostG else i)
theorem clamp_in (i : Int) : -mostG ≤ clamp i ∧ clamp i ≤ mostG := by
  unfold clamp mostG
  constructor <;> (repeat' split) <;> omega
section
variable {P : Program} {w : World} {K : PySem.W.Frag} {mg : Str → Option Value} {base : Heap} (T : Top K mg)
theorem ok_yields : FnOk P w K mg base (L2.CX P w) 3 T._law_yields.a T._law_yields.d ["state", "net"] spYields := by
  refine T._law_yields.f.okX sc__law_yields (fun vs H Q E h => ?_) (fun cdv A outer s0 H vs Q E hr h => ?_)
  · obtain ⟨st, lg, cl, a, ws, m, rfl, _⟩ := h
    rfl
  · obtain ⟨st, lg, cl, a, ws, m, rfl, ha, hal, hl, hm, S, k⟩ := h
    have has : a ≠ st := by
      obtain ⟨_, _, _, _, S', _⟩ := S
      exact ne_of ha S'.d (by intro z; cases z)
    refine ⟨_, (pss_cons (ps_par (i := 2) (j := 3) rfl sc__law_yields.nd rfl rfl (by decide) rfl rfl (pa_cons (pe_call (ok_draw T) (hr.mono (by decide)) (by rfl) T._law_draw.m T._law_draw.f.kp (bd__law_draw T) .nil passE (pa_cons (pv 0) (pa_cons pe_int pa_nil))) (pa_cons (pe_lst pa_nil) pa_nil)) (by rfl))
      (pss_cons (ps_for (passes_of rfl) rfl (pi_list (pv 1)) (pg_name (i := 4) sc__law_yields.nd rfl (by first | exact .inl rfl | exact .inr rfl))
        (pss_one (ps_if (pt_cmpR op_eq (pv 2) pe_int (nomark _)) (pss_one (ps_expr (pe_bm PySem.F.plainAttrs_list PySem.F.slot_list_append PySem.F.type_list_append mt_append (pv 3) (pa_cons (pe_op op_sub (pe_call (ok_draw T) (hr.mono (by decide)) (by rfl) T._law_draw.m T._law_draw.f.kp (bd__law_draw T) .nil passE (pa_cons (pv 0) (pa_cons pe_int pa_nil))) pe_int) pa_nil)))) (pss_one (ps_if (pt_cmpR op_eq (pv 2) pe_int (nomark _)) (pss_one (ps_expr (pe_bm PySem.F.plainAttrs_list PySem.F.slot_list_append PySem.F.type_list_append mt_append (pv 3) (pa_cons (pe_call (ok_pick T) (hr.mono (by decide)) (by rfl) T._law_pick.m T._law_pick.f.kp (bd__law_pick T) .nil passE (pa_cons (pv 0) (pa_cons (pe_lst (pa_cons pe_int (pa_cons pe_int (pa_cons pe_int (pa_cons (pe_un un_neg pe_int) (pa_cons (pe_op op_sub (pe_call (ok_draw T) (hr.mono (by decide)) (by rfl) T._law_draw.m T._law_draw.f.kp (bd__law_draw T) .nil passE (pa_cons (pv 0) (pa_cons pe_int pa_nil))) pe_int) pa_nil)))))) pa_nil))) pa_nil)))) (pss_one (ps_if (pt_cmpR op_eq (pv 2) pe_int (nomark _)) (pss_one (ps_expr (pe_bm PySem.F.plainAttrs_list PySem.F.slot_list_append PySem.F.type_list_append mt_append (pv 3) (pa_cons (pe_call (ok_pick T) (hr.mono (by decide)) (by rfl) T._law_pick.m T._law_pick.f.kp (bd__law_pick T) .nil passE (pa_cons (pv 0) (pa_cons (pe_lst (pa_cons pe_int (pa_cons (pe_un un_neg pe_int) (pa_cons (pe_op op_sub (pe_call (ok_draw T) (hr.mono (by decide)) (by rfl) T._law_draw.m T._law_draw.f.kp (bd__law_draw T) .nil passE (pa_cons (pv 0) (pa_cons pe_int pa_nil))) pe_int) pa_nil)))) pa_nil))) pa_nil)))) (pss_one (ps_expr (pe_bm PySem.F.plainAttrs_list PySem.F.slot_list_append PySem.F.type_list_append mt_append (pv 3) (pa_cons (pe_call (ok_pick T) (hr.mono (by decide)) (by rfl) T._law_pick.m T._law_pick.f.kp (bd__law_pick T) .nil passE (pa_cons (pv 0) (pa_cons (pe_lst (pa_cons pe_int (pa_cons (pe_un un_neg pe_int) pa_nil))) pa_nil))) pa_nil)))))))))))
      (pss_one (ps_ret (pe_lc (own := [("item", 5)]) (g := (gName 5)) (tt := tYes) rfl sc__law_yields.nd (pi_list (pv 3)) (blkOk_by (own := [("item", 5)]) (N := ["state", "net", "fashion", "found", "own", "item"]) (sc := defScope s__law_yields) (by decide +kernel)) (fun _ _ _ _ _ => pg_name (i := 5) sc__law_yields.nd rfl (by first | exact .inl rfl | exact .inr rfl)) (fun _ _ _ _ _ => pts_nil) (fun _ _ _ _ _ => (pe_callB (call_min2 rfl) (by rfl) T.b_min PyProof.Rows.boot_min (pa_cons (pe_callB (call_max2 rfl) (by rfl) T.b_max PyProof.Rows.boot_max (pa_cons (pv 5) (pa_cons (pe_un un_neg pe_int) pa_nil))) (pa_cons pe_int pa_nil))))))))), ?_⟩
    refine ⟨_, rfl, st, lg, cl, 4, m, rfl, by decide, by decide, by omega, S, fun f H1 hf S1 kp1 => ⟨(by show 0 ≤ sizeLine; decide), fun fd hfd => ⟨_, _, rfl, ?_⟩⟩⟩
    have t1 := Same.new (o := .lst []) hfd
    have S2 := S1.same t1
    have kp2 := kp1.trans (.same t1)
    have nf := S1.off hfd
    have nfc := offc S1 hfd
    have hfH : H fd = none := by
      cases z : H fd with
      | none => rfl
      | some o =>
        have := kp1 fd o z nf.1 nf.2
        rw [hfd] at this
        cases this
    have e2 : (upd H1 fd (.lst [])) fd = some (.lst (([] : List Int).map V.int)) := upd_same
    generalize upd H1 fd (.lst []) = H2 at S2 kp2 e2
    refine ⟨_, rfl, a, rfl, ⟨_, SqL.of (kp2 _ _ ha has hal)⟩, ?_⟩
    refine for_it (walk_list (K := K) (a := a) (xs := ws)) (fun t σ H' => ∃ v4 v5, σ = [some (.ref st), some (.ref a), some (.int (f : Int)), some (.ref fd), v4, v5] ∧ ∃ is : List Int, is.length = t ∧ StAt H' st lg cl (m + 10 + 10 * t) ∧ Kp st lg H H' ∧ H' fd = some (.lst (is.map V.int))) ⟨none, none, rfl, [], rfl, S2.mono (by omega), kp2, e2⟩ (fun t σ H' _ p => ?_) ?_ ?_
    · obtain ⟨_, _, _, _, _, _, kp, _⟩ := p
      exact SqL.of (kp _ _ ha has hal)
    · rintro t x σ Hq Hr hi ⟨v4, v5, rfl, is, lis, Sq, kq, fq⟩ ⟨rfl, hx⟩
      refine ⟨_, rfl, rfl, _, rfl, ?_⟩
      rw [dec_int]
      by_cases c0 : f = 0
      · subst c0
        refine iteT ⟨_, rfl, .inl ⟨rfl, _, SqL.of fq⟩, _, rfl, st, lg, cl, 19, _, rfl, by decide, by decide, ?_, Sq, fun d H3 hd S3 kp3 => ⟨_, _, rfl, rfl, ?_⟩⟩
        · omega
        have f3 := kp3 _ _ fq nf.1 nf.2
        refine ⟨fd, is.map V.int, V.int ((d : Int) - 9), rfl, rfl, f3, ?_, _, _, rfl, is ++ [(d : Int) - 9], ?_, ?_, ?_, ?_⟩
        · rw [List.length_map]
          exact Nat.lt_of_le_of_lt (show is.length ≤ 1000 by omega) (by decide)
        · rw [List.length_append, lis]
          rfl
        · exact stAt_put (S3.mono (by omega)) nf.1 nf.2 nfc
        · exact Kp.put3 (kq.trans kp3) hfH
        · rw [upd_same, List.map_append]
          rfl
      rw [show ((f : Int) == 0) = false from beq_eq_false_iff_ne.mpr (by omega)]
      refine iteF ⟨_, rfl, rfl, _, rfl, ?_⟩
      rw [dec_int]
      by_cases c1 : f = 1
      · subst c1
        refine iteT ⟨_, rfl, .inl ⟨rfl, _, SqL.of fq⟩, _, rfl, _, rfl, _, rfl, st, lg, cl, 199, _, rfl, by decide, by decide, ?_, Sq, fun d H3 hd S3 kp3 => ⟨_, _, rfl, rfl, (by show 5 ≤ sizeLine; decide), fun pl hpl => ?_⟩⟩
        · omega
        have f3 := kp3 _ _ fq nf.1 nf.2
        have t4 := Same.new (o := .lst [V.int 0, .int 0, .int 1, .int (-1), .int ((d : Int) - 99)]) hpl
        refine ⟨st, lg, cl, pl, _, _, rfl, upd_same, (S3.off hpl).2, (by show 0 < 5; decide), (by show 5 ≤ 1000; decide), ?_, S3.same t4, fun y H5 hy S5 kp5 => ?_⟩
        · omega
        obtain ⟨yi, rfl⟩ : ∃ yi, y = V.int yi := by
          simp only [List.mem_cons, List.not_mem_nil, or_false] at hy
          rcases hy with rfl | rfl | rfl | rfl | rfl
          all_goals exact ⟨_, rfl⟩
        have k5 := (kq.trans kp3).trans (.same t4) |>.trans kp5
        have f5 := kp5 _ _ (t4 _ _ f3) nf.1 nf.2
        refine ⟨fd, is.map V.int, V.int (yi), rfl, rfl, f5, ?_, _, _, rfl, is ++ [yi], ?_, ?_, ?_, ?_⟩
        · rw [List.length_map]
          exact Nat.lt_of_le_of_lt (show is.length ≤ 1000 by omega) (by decide)
        · rw [List.length_append, lis]
          rfl
        · exact stAt_put (S5.mono (by omega)) nf.1 nf.2 nfc
        · exact Kp.put3 (k5) hfH
        · rw [upd_same, List.map_append]
          rfl
      rw [show ((f : Int) == 1) = false from beq_eq_false_iff_ne.mpr (by omega)]
      refine iteF ⟨_, rfl, rfl, _, rfl, ?_⟩
      rw [dec_int]
      by_cases c2 : f = 2
      · subst c2
        refine iteT ⟨_, rfl, .inl ⟨rfl, _, SqL.of fq⟩, _, rfl, _, rfl, _, rfl, st, lg, cl, 20000000000, _, rfl, by decide, by decide, ?_, Sq, fun d H3 hd S3 kp3 => ⟨_, _, rfl, rfl, (by show 3 ≤ sizeLine; decide), fun pl hpl => ?_⟩⟩
        · omega
        have f3 := kp3 _ _ fq nf.1 nf.2
        have t4 := Same.new (o := .lst [V.int 9999999999, .int (-9999999999), .int ((d : Int) - 9999999999)]) hpl
        refine ⟨st, lg, cl, pl, _, _, rfl, upd_same, (S3.off hpl).2, (by show 0 < 3; decide), (by show 3 ≤ 1000; decide), ?_, S3.same t4, fun y H5 hy S5 kp5 => ?_⟩
        · omega
        obtain ⟨yi, rfl⟩ : ∃ yi, y = V.int yi := by
          simp only [List.mem_cons, List.not_mem_nil, or_false] at hy
          rcases hy with rfl | rfl | rfl
          all_goals exact ⟨_, rfl⟩
        have k5 := (kq.trans kp3).trans (.same t4) |>.trans kp5
        have f5 := kp5 _ _ (t4 _ _ f3) nf.1 nf.2
        refine ⟨fd, is.map V.int, V.int (yi), rfl, rfl, f5, ?_, _, _, rfl, is ++ [yi], ?_, ?_, ?_, ?_⟩
        · rw [List.length_map]
          exact Nat.lt_of_le_of_lt (show is.length ≤ 1000 by omega) (by decide)
        · rw [List.length_append, lis]
          rfl
        · exact stAt_put (S5.mono (by omega)) nf.1 nf.2 nfc
        · exact Kp.put3 (k5) hfH
        · rw [upd_same, List.map_append]
          rfl
      rw [show ((f : Int) == 2) = false from beq_eq_false_iff_ne.mpr (by omega)]
      refine iteF ⟨_, rfl, .inl ⟨rfl, _, SqL.of fq⟩, _, rfl, _, rfl, (by show 2 ≤ sizeLine; decide), fun pl hpl => ?_⟩
      have t4 := Same.new (o := .lst [V.int 3, .int (-3)]) hpl
      refine ⟨st, lg, cl, pl, _, _, rfl, upd_same, (Sq.off hpl).2, (by show 0 < 2; decide), (by show 2 ≤ 1000; decide), ?_, Sq.same t4, fun y H5 hy S5 kp5 => ?_⟩
      · omega
      obtain ⟨yi, rfl⟩ : ∃ yi, y = V.int yi := by
        simp only [List.mem_cons, List.not_mem_nil, or_false] at hy
        rcases hy with rfl | rfl
        all_goals exact ⟨_, rfl⟩
      have k5 := (kq).trans (.same t4) |>.trans kp5
      have f5 := kp5 _ _ (t4 _ _ fq) nf.1 nf.2
      refine ⟨fd, is.map V.int, V.int (yi), rfl, rfl, f5, ?_, _, _, rfl, is ++ [yi], ?_, ?_, ?_, ?_⟩
      · rw [List.length_map]
        exact Nat.lt_of_le_of_lt (show is.length ≤ 1000 by omega) (by decide)
      · rw [List.length_append, lis]
        rfl
      · exact stAt_put (S5.mono (by omega)) nf.1 nf.2 nfc
      · exact Kp.put3 (k5) hfH
      · rw [upd_same, List.map_append]
        rfl
    · rintro σ H' ⟨v4, v5, rfl, is, lis, Sq, kq, fq⟩
      refine ⟨_, rfl, fd, rfl, ⟨_, SqL.of fq⟩, fun D hD => ?_⟩
      refine lcP (walk_list (K := K) (a := fd) (xs := is.map V.int)) is (fun _ => true) (fun i => V.int (clamp i)) (List.length_map _) hD (fun H' s' => SqL.of (s' _ _ fq)) (by omega) yAt_same ?_ ?_
      · rintro i z y H3 H4 N R hy s3 ⟨rfl, hz⟩ ky kn
        rw [List.getElem?_map, hy] at hz
        cases hz
        refine ⟨rfl, ?_⟩
        dsimp only [tYes]
        rw [if_pos rfl]
        exact ⟨_, rfl, _, rfl, _, _, rfl, _, _, rfl, ky rfl _ fun _ _ e => e⟩
      · intro H3 s3 e3
        rw [filter_yes] at e3
        have e3 : H3 D = some (.lst ((is.map clamp).map V.int)) := by rw [e3, List.map_map]; rfl
        have hDH : H D = none := by
          cases z : H D with
          | none => rfl
          | some o =>
            have nD := Sq.off hD
            have := kq D o z nD.1 nD.2
            rw [hD] at this
            cases this
        refine k D (is.map clamp) H3 ((Sq.mono (by omega)).same s3) (kq.trans (.same s3)) hDH e3 (by rw [List.length_map, lis]) fun i hi => ?_
        obtain ⟨j, _, rfl⟩ := List.mem_map.mp hi
        exact clamp_in j
end
end K47
namespace K47
open PySem PySem.Spec PyProof.Rows L2 PySem.W LamX KA KW KU KL KT
open Evl (pss_cut tCut)
/-! ### the law's frame behind the others -/
/-- a web and gains of the law's -/
structure WG (a b : Addr) (ws : List V) (rows : List (List Nat)) (line : List Nat) (g : List Int) (H : Hp) : Prop where
  ha : H a = some (.lst ws)
  rl : RL NV H ws rows
  n1 : 1 ≤ rows.length
  n5 : rows.length ≤ 5
  od : Ord rows line
  hb : H b = some (.lst (g.map V.int))
  gl : g.length = rows.length
  gb : ∀ i ∈ g, -mostG ≤ i ∧ i ≤ mostG
theorem WG.keep {a b : Addr} {ws : List V} {rows : List (List Nat)} {line : List Nat} {g : List Int} {H H' : Hp} (W : WG a b ws rows line g H) (s : Same H H') : WG a b ws rows line g H' := { W with ha := s _ _ W.ha, rl := W.rl.same s, hb := s _ _ W.hb }
theorem WG.kp {a b st lg cl : Addr} {m : Nat} {ws : List V} {rows : List (List Nat)} {line : List Nat} {g : List Int} {H H' : Hp} (W : WG a b ws rows line g H) (S : StAt H st lg cl m) (k : Kp st lg H H') (na : a ≠ lg) (nb : b ≠ lg) : WG a b ws rows line g H' := by
  obtain ⟨_, _, _, _, S', _⟩ := id S
  have h1 : a ≠ st := ne_of W.ha S'.d (by intro z; cases z)
  have h2 : b ≠ st := ne_of W.hb S'.d (by intro z; cases z)
  exact { W with ha := k _ _ W.ha h1 na, rl := W.rl.tp (Tp.kp S k), hb := k _ _ W.hb h2 nb }
theorem ord_few {rows : List (List Nat)} {line : List Nat} (o : Ord rows line) : ∀ r ∈ rows, r.length ≤ rows.length := fun r hr => by
  obtain ⟨i, hi⟩ := List.getElem?_of_mem hr
  have il := (List.getElem?_eq_some_iff.mp hi).1
  have er : row rows i = r := by
    unfold row
    rw [List.getD_eq_getElem?_getD, hi]
    rfl
  exact sub_len ((mem_subs rows.length r).mpr (er ▸ ⟨o.asc i il, fun x hx => o.lt' il hx⟩))
theorem WG.l2 {a b : Addr} {ws : List V} {rows : List (List Nat)} {line : List Nat} {g : List Int} {H : Hp} (W : WG a b ws rows line g H) : ∀ r ∈ rows, r.length ≤ 1000 := fun r hr => by
  have := ord_few W.od r hr
  have := W.n5
  omega
theorem wholes_few5 {rows : List (List Nat)} (h : rows.length ≤ 5) : (wholes rows).length ≤ 32 := by
  refine Nat.le_trans (List.length_filter_le _ _) ?_
  rw [subs_len]
  exact Nat.pow_le_pow_right (by decide) h
/-- a good pair is answered -/
theorem asked_good {K : PySem.W.Frag} {CB CG : Addr} {H : Hp} {x y : V} {E : XK} {rows : List (List Nat)} {line : List Nat} {g : List Int} {good : List (List Nat) → List Int → Prop} (hx : Wv H x rows) (o : Ord rows line) (h1 : 1 ≤ rows.length) (h2 : rows.length ≤ 10) (hy : Gv H y g)
    (gl : g.length = rows.length) (gb : ∀ i ∈ g, -mostG ≤ i ∧ i ≤ mostG) (k : good rows g) : Asked K CB CG H x y E good :=
  .inr (.inr ⟨rows, g, hx, fun r hr => by have := ord_few o r hr; omega, o.good h1 h2, hy, gl, gb, k⟩)
def twoD (s t : List Nat) : PyData := .tuple [lotD s, lotD t]
theorem least_few (rows : List (List Nat)) (g : List Int) (h : rows.length ≤ 10) : Sm 410 1 (lotD (leastL rows g)) ∧ Sm 410 1 (lotD (mostL rows g)) := by
  constructor
  · refine sm_lot (Nat.le_trans (sub_len (filter_subs rows.length _)) h) fun x hx => ?_
    have := (mem_leastL.mp hx).1
    omega
  · refine sm_lot (Nat.le_trans (sub_len (filter_subs rows.length _)) h) fun x hx => ?_
    have := (mem_mostL.mp hx).1
    omega
theorem two_data {K : PySem.W.Frag} {H : Hp} {v : V} {rows : List (List Nat)} {g : List Int} (h : rows.length ≤ 10) (t : Two H v (leastL rows g) (mostL rows g)) : (∃ p, v = .ref p) ∧ Sm 822 2 (twoD (leastL rows g) (mostL rows g)) ∧ Dp K H v (twoD (leastL rows g) (mostL rows g)) := by
  obtain ⟨p, a, b, rfl, hp, ha, hb⟩ := t
  refine ⟨⟨p, rfl⟩, sm_tuple (n := 410) (z := 1) (k := 2) (fun d hd => ?_) (by show 2 ≤ 2; decide), .tup (SqT.of hp) (.cons (dp_lot _ _ ha) (.cons (dp_lot _ _ hb) .nil))⟩
  simp only [List.mem_cons, List.not_mem_nil, or_false] at hd
  rcases hd with rfl | rfl
  · exact (least_few rows g h).1
  · exact (least_few rows g h).2
def spMore : Sp := fun vs H Q _ => ∃ (st lg cl a b d : Addr) (ws : List V) (rows : List (List Nat)) (line : List Nat) (g : List Int) (m : Nat), vs = [.ref st, .ref a, .ref b, .ref d] ∧ WG a b ws rows line g H ∧ a ≠ lg ∧ b ≠ lg ∧ Due H d rows g ∧ m ≤ 800000 ∧ StAt H st lg cl m ∧
  ∀ H', StAt H' st lg cl (m + 10) → Kp st lg H H' → Q (.bl true) H'
section
variable {P : Program} {w : World} {K : PySem.W.Frag} {mg : Str → Option Value} {base : Heap} (T : Top K mg) (BW : BadWebT P w K mg T.reel.C)
include BW in
theorem ok_more : FnG P w K mg base (L2.CX P w) 9 T._law_more_right.a T._law_more_right.d ["state", "net", "several", "due"] spMore := by
  refine fnG_of T._law_more_right.f sc__law_more_right (fun vs H Q E h => ?_) (fun cdv A outer s0 H vs Q E hr hg h => ?_)
  · obtain ⟨st, lg, cl, a, b, d, ws, rows, line, g, m, rfl, _⟩ := h
    rfl
  · obtain ⟨st, lg, cl, a, b, d, ws, rows, line, g, m, rfl, W, nal, nbl, du, hm, S, k⟩ := h
    refine ⟨_, (pss_cons (ps_asg (pe_tup (pa_cons (pe_call (ok_pick T) (hr.mono (by decide)) (by rfl) T._law_pick.m T._law_pick.f.kp (bd__law_pick T) .nil passE (pa_cons (pv 0) (pa_cons (pe_call (ok_shut_lots T) (hr.mono (by decide)) (by rfl) T._law_shut_lots.m T._law_shut_lots.f.kp (bd__law_shut_lots T) .nil passE (pa_cons (pv 1) pa_nil)) pa_nil))) (pa_cons (pe_callB call_len_seq (by rfl) T.b_len PySem.boot_len (pa_cons (pv 1) pa_nil)) pa_nil))) (pg_tup rfl (pgs_cons (pg_name (i := 4) sc__law_more_right.nd rfl (by first | exact .inl rfl | exact .inr rfl)) (pgs_cons (pg_name (i := 5) sc__law_more_right.nd rfl (by first | exact .inl rfl | exact .inr rfl)) pgs_nil))))
      (pss_cons (ps_set (i := 6) sc__law_more_right.nd rfl (by first | exact .inl rfl | exact .inr rfl) (pe_op op_cat (pe_callTy call_list_of (by rfl) T.b_list (by decide +kernel) (pa_cons (pv 1) pa_nil)) (pe_lst (pa_cons (pv 4) pa_nil))))
      (pss_cons (ps_set (i := 7) sc__law_more_right.nd rfl (by first | exact .inl rfl | exact .inr rfl) (pe_op op_sub pe_int (pe_callB (cr_sum rfl) (by rfl) T.b_sum (by decide +kernel) (pa_cons (pe_lc (own := [("item", 10)]) (g := (gName 10)) (tt := tYes) rfl sc__law_more_right.nd (pi_list (pv 2)) (blkOk_by (own := [("item", 10)]) (N := ["state", "net", "several", "due", "lot", "size_here", "longer", "cost", "found", "each", "item"]) (sc := defScope s__law_more_right) (by decide +kernel)) (fun _ _ _ _ _ => pg_name (i := 10) sc__law_more_right.nd rfl (by first | exact .inl rfl | exact .inr rfl)) (fun _ _ _ _ _ => pts_nil) (fun _ _ _ _ _ => (pe_callB (call_min2 rfl) (by rfl) T.b_min PyProof.Rows.boot_min (pa_cons (pv 10) (pa_cons pe_int pa_nil))))) pa_nil))))
      (pss_cons (ps_if (pt_cmpR op_gt (pv 7) pe_int (nomark _)) (pss_one (ps_ret pe_bl)) pss_nil)
      (pss_cons (ps_set (i := 8) sc__law_more_right.nd rfl (by first | exact .inl rfl | exact .inr rfl) (pe_call (ok_best_sets T BW) (hr.mono (by decide)) (by rfl) T.best_sets.m T.best_sets.f.kp (bd_best_sets T) .nil passE (pa_cons (pv 6) (pa_cons (pe_op op_cat (pv 2) (pe_lst (pa_cons (pe_op op_add (pv 7) pe_int) pa_nil))) pa_nil))))
      (pss_cons (ps_if (pt_cmpR (op_neD hr.units) (pe_lc (own := [("each", 9)]) (g := (gName 9)) rfl sc__law_more_right.nd (pi_tup (pv 8)) (blkOk_by (own := [("each", 9)]) (N := ["state", "net", "several", "due", "lot", "size_here", "longer", "cost", "found", "each", "item"]) (sc := defScope s__law_more_right) (by decide +kernel)) (fun _ _ _ _ _ => pg_name (i := 9) sc__law_more_right.nd rfl (by first | exact .inl rfl | exact .inr rfl)) (fun _ _ _ _ _ => pts_one (pt_cmpR (show OpR _ _ (rIn K true) from op_notIn_seq) (pv 5) (pv 9) (by rfl))) (fun _ _ _ _ _ => pe_int)) (pe_lst pa_nil) (nomark _)) (pss_one (ps_ret pe_bl)) pss_nil)
      (pss_cons (ps_if (pt_cmpR op_lt (pe_call (ok_greatest_gain T BW) (hr.mono (by decide)) (by rfl) T.greatest_gain.m T.greatest_gain.f.kp (bd_greatest_gain T) .nil passE (pa_cons (pv 6) (pa_cons (pe_op op_cat (pv 2) (pe_lst (pa_cons (pe_op op_add (pv 7) pe_int) pa_nil))) pa_nil))) (pe_ix (show IxR _ (rIx K) from ix_seq) (pv 3) pe_int (fun _ _ => rfl)) (nomark _)) (pss_one (ps_ret pe_bl)) pss_nil)
      (pss_one (ps_ret (pe_cmpR op_eq (pe_callB (show CallR _ _ (rRepr K) from call_repr hg hr) (by rfl) T.b_repr (by decide +kernel) (pa_cons (pe_call (ok_best_sets T BW) (hr.mono (by decide)) (by rfl) T.best_sets.m T.best_sets.f.kp (bd_best_sets T) .nil passE (pa_cons (pv 6) (pa_cons (pe_op op_cat (pv 2) (pe_lst (pa_cons (pe_un un_neg pe_int) pa_nil))) pa_nil))) pa_nil)) (pe_callB (show CallR _ _ (rRepr K) from call_repr hg hr) (by rfl) T.b_repr (by decide +kernel) (pa_cons (pe_tup (pa_cons (pe_ix (show IxR _ (rIx K) from ix_seq) (pv 3) pe_int (fun _ _ => rfl)) (pa_cons (pe_ix (show IxR _ (rIx K) from ix_seq) (pv 3) pe_int (fun _ _ => rfl)) pa_nil))) pa_nil)) (nomark _))))))))))), ?_⟩
    have hlen := W.rl.1
    have n5 := W.n5
    refine ⟨_, rfl, _, rfl, a, ws, rows, rfl, W.ha, W.rl, by omega, W.l2, fun q us ls H1 s1 nq e1 r1 pm => ?_⟩
    have W1 := W.keep s1
    have du1 := du.keep s1
    have S1 := S.same s1
    have lsl : ls.length ≤ 32 := by
      rw [pm.length_eq]
      exact wholes_few5 n5
    have lsp : 0 < ls.length := by
      rw [pm.length_eq]
      exact List.length_pos_iff.mpr (wholes_ne rows)
    refine ⟨st, lg, cl, q, us, m, rfl, e1, (S.off nq).2, by rw [r1.1]; exact lsp, by rw [r1.1]; omega, by omega, S1, fun x H2 hx S2 kp2 => ?_⟩
    obtain ⟨j, hj⟩ := List.getElem?_of_mem hx
    obtain ⟨p, lot, rfl, elot, hp1⟩ := r1.get hj
    have hlot : lot ∈ wholes rows := pm.mem_iff.mp (List.mem_of_getElem? elot)
    have hp2 := Tp.kp S1 kp2 _ _ hp1
    have W2 := W1.kp S1 kp2 nal nbl
    obtain ⟨da, db, d1, d2, d3⟩ := du1
    have du2 : Due H2 d rows g := ⟨da, db, Tp.kp S1 kp2 _ _ d1, Tp.kp S1 kp2 _ _ d2, Tp.kp S1 kp2 _ _ d3⟩
    clear hx hj elot hp1 d1 d2 d3
    refine ⟨_, rfl, a, ws, rfl, .inl (SqL.of W2.ha), (by show 2 ≤ sizeLine; decide), fun tp htp => ⟨tp, _, rfl, SqT.of upd_same, rfl, _, _, rfl, _, _, rfl, rfl, ?_⟩⟩
    have t3 := Same.new (o := .tup [V.ref p, .int ((ws.length : Nat) : Int)]) htp
    have kp03 : Kp st lg H _ := (Kp.same s1).trans (kp2.trans (.same t3))
    have W3 := W2.keep t3
    have du3 := du2.keep t3
    have S3 := S2.same t3
    have hp3 := t3 _ _ hp2
    generalize upd H2 tp (.tup [V.ref p, .int ((ws.length : Nat) : Int)]) = H3 at kp03 W3 du3 S3 hp3
    clear t3 htp W2 du2 S2 hp2 kp2 S1 W1 r1 e1 nq s1
    refine ⟨_, rfl, a, ws, rfl, .inl (SqL.of W3.ha), fun l1 hl1 => ?_⟩
    have t4 := Same.new (o := .lst ws) hl1
    refine ⟨_, rfl, (by show 1 ≤ sizeLine; decide), fun l2 hl2 => ?_⟩
    have t5 := Same.new (o := .lst [V.ref p]) hl2
    refine ⟨l1, l2, ws, [V.ref p], rfl, rfl, t5 _ _ upd_same, upd_same, ?_, fun lo hlo => ?_⟩
    · rw [hlen]
      exact Nat.le_trans (show rows.length + 1 ≤ 1000 by omega) (by decide)
    have t6 := Same.new (o := .lst (ws ++ [V.ref p])) hlo
    have tt := (t4.trans t5).trans t6
    have elo : (upd (upd (upd H3 l1 (.lst ws)) l2 (.lst [V.ref p])) lo (.lst (ws ++ [V.ref p]))) lo = some (.lst (ws ++ [V.ref p])) := upd_same
    have W4 := W3.keep tt
    have du4 := du3.keep tt
    have S4 := S3.same tt
    have hp4 := tt _ _ hp3
    have kp04 := kp03.trans (.same tt)
    generalize upd (upd (upd H3 l1 (.lst ws)) l2 (.lst [V.ref p])) lo (.lst (ws ++ [V.ref p])) = H4 at elo W4 du4 S4 hp4 kp04
    clear tt t4 t5 t6 hl1 hl2 hlo W3 du3 S3 hp3 kp03
    have rl4 : RL NV H4 (ws ++ [V.ref p]) (rows ++ [lot]) := W4.rl.append (.one ⟨p, rfl, hp4⟩)
    refine ⟨_, rfl, b, rfl, ⟨_, SqL.of W4.hb⟩, fun D hD => ?_⟩
    refine lcP (walk_list (K := K) (a := b) (xs := g.map V.int)) g (fun _ => true) (fun i => V.int (min i 0)) (List.length_map _) hD (fun H' s' => SqL.of (s' _ _ W4.hb)) (by have := W4.gl; omega) yAt_same ?_ ?_
    · rintro i z y H5 H6 N R hy s5 ⟨rfl, hz⟩ ky kn
      rw [List.getElem?_map, hy] at hz
      cases hz
      refine ⟨rfl, ?_⟩
      dsimp only [tYes]
      rw [if_pos rfl]
      refine ⟨_, rfl, _, _, rfl, ?_⟩
      have e : (if (0 : Int) < y then (0 : Int) else y) = min y 0 := by
        split <;> omega
      rw [e]
      exact ky rfl _ fun _ _ e => e
    intro H5 s5 e5
    rw [filter_yes] at e5
    have e5 : H5 D = some (.lst ((g.map fun i => min i 0).map V.int)) := by rw [e5, List.map_map]; rfl
    refine ⟨D, _, rfl, SqL.of e5, _, _, rfl, rfl, ?_⟩
    have W5 := W4.keep s5
    have du5 := du4.keep s5
    have S5 := S4.same s5
    have elo5 := s5 _ _ elo
    have rl5 := rl4.same s5
    have kp05 := kp04.trans (.same s5)
    clear W4 du4 S4 elo rl4 kp04 e5 hD s5 hp4
    refine ⟨_, rfl, _, _, rfl, rfl, _, rfl, ?_⟩
    have cz : least0 g ≤ 0 := by
      unfold least0
      have : ∀ l : List Int, (l.map fun x => min x 0).sum ≤ 0 := fun l => by
        induction l with
        | nil => exact Int.le_refl _
        | cons x l ih =>
          rw [List.map_cons, List.sum_cons]
          have : min x 0 ≤ 0 := Int.min_le_right _ _
          omega
      exact this g
    by_cases c : (9000000000 : Int) < 0 - least0 g
    · rw [show decide ((9000000000 : Int) < 0 - (g.map fun i => min i 0).sum) = true from decide_eq_true c]
      exact iteT (k _ (S5.mono (by omega)) kp05)
    rw [show decide ((9000000000 : Int) < 0 - (g.map fun i => min i 0).sum) = false from decide_eq_false c]
    refine iteF ?_
    have o' := W5.od.longer hlot
    have ln' : (rows ++ [lot]).length = rows.length + 1 := len_snoc
    have gl' : ∀ c : Int, (g ++ [c]).length = (rows ++ [lot]).length := fun c => by rw [List.length_append, ln', W5.gl]; rfl
    have gb' : ∀ c : Int, -mostG ≤ c → c ≤ mostG → ∀ i ∈ g ++ [c], -mostG ≤ i ∧ i ≤ mostG := fun c h1 h2 i hi => by
      rcases List.mem_append.mp hi with q | q
      · exact W5.gb i q
      · rw [List.mem_singleton.mp q]
        exact ⟨h1, h2⟩
    have cb1 : -mostG ≤ 0 - least0 g + 1 := by unfold mostG; omega
    have cb2 : 0 - least0 g + 1 ≤ mostG := by unfold mostG; omega
    refine ⟨_, rfl, _, rfl, _, rfl, _, _, rfl, rfl, (by show 1 ≤ sizeLine; decide), fun l5 hl5 => ?_⟩
    have t6 := Same.new (o := .lst [V.int (0 - least0 g + 1)]) hl5
    refine ⟨b, l5, g.map V.int, [V.int (0 - least0 g + 1)], rfl, rfl, t6 _ _ W5.hb, upd_same, ?_, fun g6 hg6 => ?_⟩
    · rw [List.length_map, W5.gl]
      exact Nat.le_trans (show rows.length + 1 ≤ 1000 by omega) (by decide)
    have t6' := Same.new (o := .lst (g.map V.int ++ [V.int (0 - least0 g + 1)])) hg6
    have t62 := t6.trans t6'
    have gvg6 : Gv (upd (upd H5 l5 (.lst [V.int (0 - least0 g + 1)])) g6 (.lst (g.map V.int ++ [V.int (0 - least0 g + 1)]))) (.ref g6) (g ++ [0 - least0 g + 1]) := ⟨g6, rfl, .inl (by rw [List.map_append]; exact upd_same)⟩
    refine ⟨.ref lo, .ref g6, rfl, asked_good (line := line ++ [rows.length]) ⟨lo, _, rfl, .inl (t62 _ _ elo5), rl5.same t62⟩ o' (by omega) (by omega) gvg6 (gl' _) (gb' _ cb1 cb2) fun v H7 s7 two => ?_⟩
    obtain ⟨f7, fa, fb, rfl, hf7, hfa, hfb⟩ := two
    have s57 := t62.trans s7
    have W7 := W5.keep s57
    have du7 := du5.keep s57
    have S7 := S5.same s57
    have elo7 := s57 _ _ elo5
    have rl7 := rl5.same s57
    have kp07 := kp05.trans (.same s57)
    clear W5 du5 S5 elo5 rl5 kp05 s57 s7 t62 t6 t6' hl5 hg6 gvg6
    refine ⟨_, rfl, f7, rfl, ⟨_, SqT.of hf7⟩, fun D8 hD8 => ?_⟩
    have inA : inB (leastL (rows ++ [lot]) (g ++ [0 - least0 g + 1])) rows.length = true := decide_eq_true (mem_leastL.mpr ⟨by omega, fun s hs => behind_all W7.od hlot W7.gl hs⟩)
    have inB' : inB (mostL (rows ++ [lot]) (g ++ [0 - least0 g + 1])) rows.length = true := by
      obtain ⟨s, hs⟩ := bests_ne (rows ++ [lot]) (g ++ [0 - least0 g + 1])
      exact decide_eq_true (mem_mostL.mpr ⟨by omega, s, hs, behind_all W7.od hlot W7.gl hs⟩)
    have rl2 : RL NV H7 [.ref fa, .ref fb] [leastL (rows ++ [lot]) (g ++ [0 - least0 g + 1]), mostL (rows ++ [lot]) (g ++ [0 - least0 g + 1])] := (RL.one ⟨fa, rfl, hfa⟩).append (.one ⟨fb, rfl, hfb⟩)
    refine lcP (walk_tup (K := K) (a := f7) (xs := [.ref fa, .ref fb])) [leastL (rows ++ [lot]) (g ++ [0 - least0 g + 1]), mostL (rows ++ [lot]) (g ++ [0 - least0 g + 1])] (fun s => !(inB s rows.length)) (fun _ => V.int 1) rfl hD8 (fun H' s' => SqT.of (s' _ _ hf7)) (by show 2 ≤ 100000; decide) yAt_same ?_ ?_
    · rintro i z y H5 H6 N R hy s5 ⟨rfl, hz⟩ ky kn
      obtain ⟨py, y', rfl, ey, hpy⟩ := rl2.get hz
      rw [hy] at ey
      cases ey
      refine ⟨rfl, ?_⟩
      refine ⟨_, rfl, _, rfl, py, _, rfl, .inr (SqT.of (s5 _ _ hpy)), rfl, NV_flat y, ?_⟩
      rw [if_pos rfl, hlen, inV_NV]
      cases c2 : inB y rows.length with
      | true => exact ⟨_, rfl, kn (by rw [c2]; rfl) _ fun _ _ e => e⟩
      | false => exact ⟨_, rfl, ky (by rw [c2]; rfl) _ fun _ _ e => e⟩
    intro H8 s8 e8
    have e8 : H8 D8 = some (.lst []) := by
      rw [e8, List.filter_cons_of_neg (by rw [inA]; exact Bool.false_ne_true), List.filter_cons_of_neg (by rw [inB']; exact Bool.false_ne_true)]
      rfl
    refine ⟨(by show 0 ≤ sizeLine; decide), fun z8 hz8 => ?_⟩
    have t8 := Same.new (o := .lst []) hz8
    refine ⟨_, _, dp_nil (t8 _ _ e8), dp_nil upd_same, shaped_nil, shaped_nil, _, rfl, ?_⟩
    have s78 := s8.trans t8
    refine iteF ?_
    have W9 := W7.keep s78
    have du9 := du7.keep s78
    have S9 := S7.same s78
    have elo9 := s78 _ _ elo7
    have rl9 := rl7.same s78
    have kp09 := kp07.trans (.same s78)
    generalize upd H8 z8 (.lst []) = H9 at W9 du9 S9 elo9 rl9 kp09
    clear W7 du7 S7 elo7 rl7 kp07 s78 t8 hz8 s8 e8 hD8 rl2 hf7 hfa hfb
    refine ⟨_, rfl, _, rfl, _, rfl, _, _, rfl, rfl, (by show 1 ≤ sizeLine; decide), fun l5 hl5 => ?_⟩
    have t6 := Same.new (o := .lst [V.int (0 - least0 g + 1)]) hl5
    refine ⟨b, l5, g.map V.int, [V.int (0 - least0 g + 1)], rfl, rfl, t6 _ _ W9.hb, upd_same, ?_, fun g6 hg6 => ?_⟩
    · rw [List.length_map, W9.gl]
      exact Nat.le_trans (show rows.length + 1 ≤ 1000 by omega) (by decide)
    have t6' := Same.new (o := .lst (g.map V.int ++ [V.int (0 - least0 g + 1)])) hg6
    have t62 := t6.trans t6'
    have gvg6 : Gv (upd (upd H9 l5 (.lst [V.int (0 - least0 g + 1)])) g6 (.lst (g.map V.int ++ [V.int (0 - least0 g + 1)]))) (.ref g6) (g ++ [0 - least0 g + 1]) := ⟨g6, rfl, .inl (by rw [List.map_append]; exact upd_same)⟩
    refine ⟨.ref lo, .ref g6, rfl, asked_good (line := line ++ [rows.length]) ⟨lo, _, rfl, .inl (t62 _ _ elo9), rl9.same t62⟩ o' (by omega) (by omega) gvg6 (gl' _) (gb' _ cb1 cb2) fun H7 s7 => ?_⟩
    have s97 := t62.trans s7
    have du10 := du9.keep s97
    obtain ⟨qa, qb, q1, q2, q3⟩ := id du10
    refine ⟨_, rfl, .inr (.inl ⟨d, _, 0, _, rfl, rfl, SqT.of q1, atI_nat (j := 0) rfl, ?_⟩)⟩
    refine ⟨_, _, rfl, rfl, _, rfl, ?_⟩
    rw [show decide (topG (rows ++ [lot]) (g ++ [0 - least0 g + 1]) < topG rows g) = false from decide_eq_false (by have := more_top (lot := lot) W9.gl (0 - least0 g + 1); omega)]
    refine iteF ?_
    have W10 := W9.keep s97
    have S10 := S9.same s97
    have elo10 := s97 _ _ elo9
    have rl10 := rl9.same s97
    have kp10 := kp09.trans (.same s97)
    clear W9 du9 S9 elo9 rl9 kp09 s97 s7 t62 t6 t6' hl5 hg6 gvg6 q1 q2 q3
    refine ⟨_, rfl, _, rfl, _, rfl, (by show 1 ≤ sizeLine; decide), fun l5 hl5 => ?_⟩
    have t6 := Same.new (o := .lst [V.int (-1)]) hl5
    refine ⟨b, l5, g.map V.int, [V.int (-1)], rfl, rfl, t6 _ _ W10.hb, upd_same, ?_, fun g6 hg6 => ?_⟩
    · rw [List.length_map, W10.gl]
      exact Nat.le_trans (show rows.length + 1 ≤ 1000 by omega) (by decide)
    have t6' := Same.new (o := .lst (g.map V.int ++ [V.int (-1)])) hg6
    have t62 := t6.trans t6'
    have gvg6 : Gv (upd (upd H7 l5 (.lst [V.int (-1)])) g6 (.lst (g.map V.int ++ [V.int (-1)]))) (.ref g6) (g ++ [-1]) := ⟨g6, rfl, .inl (by rw [List.map_append]; exact upd_same)⟩
    refine ⟨.ref lo, .ref g6, rfl, asked_good (line := line ++ [rows.length]) ⟨lo, _, rfl, .inl (t62 _ _ elo10), rl10.same t62⟩ o' (by omega) (by omega) gvg6 (gl' _) (gb' _ (by decide) (by decide)) fun v H8 s8 two => ?_⟩
    rw [least_less W10.od W10.gl, most_less W10.od W10.gl] at two
    obtain ⟨v8, sm8, d8⟩ := two_data (K := K) (show rows.length ≤ 10 by omega) two
    obtain ⟨f7, fa, fb, rfl, hf7, hfa, hfb⟩ := two
    obtain ⟨r1', r2', r3', r4'⟩ := sm8.repr (by decide) (by decide)
    refine ⟨f7, _, rfl, d8, r1', r2', r3', r4', ?_⟩
    have s78 := t62.trans s8
    obtain ⟨qa, qb, q1, q2, q3⟩ := du10.keep s78
    refine ⟨_, rfl, .inr (.inl ⟨d, _, ((1 : Nat) : Int), _, rfl, rfl, SqT.of q1, atI_nat (j := 1) rfl, _, rfl, .inr (.inl ⟨d, _, ((2 : Nat) : Int), _, rfl, rfl, SqT.of q1, atI_nat (j := 2) rfl, (by show 2 ≤ sizeLine; decide), fun t9 ht9 => ?_⟩)⟩)⟩
    have t10 := Same.new (o := .tup [V.ref qa, .ref qb]) ht9
    obtain ⟨v9, sm9, d9⟩ := two_data (K := K) (show rows.length ≤ 10 by omega) (show Two (upd H8 t9 (.tup [V.ref qa, .ref qb])) (.ref t9) (leastL rows g) (mostL rows g) from ⟨t9, qa, qb, rfl, upd_same, t10 _ _ q2, t10 _ _ q3⟩)
    refine ⟨t9, _, rfl, d9, r1', r2', r3', r4', rfl, ?_⟩
    rw [decide_eq_true rfl]
    have s10 := s78.trans t10
    exact k _ ((S10.mono (by omega)).same s10) (kp10.trans (.same s10))
end
end K47
namespace KRY
open PySem PySem.Spec PyProof.Rows L2 PySem.W KA KU
/-! ### repr of a value of some kind that an error may tell of -/
inductive YT (H : Hp) : V → Str → Prop where
  | non : YT H .non "None"
  | zero : YT H (.int 0) "0"
  | str (y : Str) (h : (reprText y).length ≤ sizeLine) : YT H (.str y) (reprText y)
  | tup {a : Addr} (y : Str) (e : H a = some (.tup [.str y])) (h : (PyData.tuple [.str y]).shown.length ≤ sizeLine) : YT H (.ref a) (PyData.tuple [.str y]).shown
  | lst {a : Addr} (y : Str) (e : H a = some (.lst [.str y])) (h : (PyData.list [.str y]).shown.length ≤ sizeLine) : YT H (.ref a) (PyData.list [.str y]).shown
  | dK {a : Addr} (e : H a = some (.dK [])) : YT H (.ref a) (PyData.dict []).shown
def rReprY : List V → Hp → VK → Prop := fun xs H Q => ∃ (x : V) (s : Str), xs = [x] ∧ YT H x s ∧ Q (.str s) H
theorem call_reprY {X : Cx} {k : Nat} (hg : X.A.guards = some []) (hr : Room k X.A) : CallR X (.builtin "repr") rReprY := by
  intro pins s σ H xs us Q I r h
  obtain ⟨x, t, rfl, y, q⟩ := h
  obtain ⟨u1, rfl, r1⟩ := vals1 r
  have hu := hr.un
  cases y with
  | non =>
    cases (show u1 = Value.none from r1)
    exact PySem.P.repr_of_none ⟨.str "None", H, I.tok _, ⟨_, rfl⟩, q⟩
  | zero =>
    obtain ⟨k, rfl⟩ := r1
    exact PySem.P.repr_of_int (by decide) ⟨.str "0", H, I.tok _, ⟨_, rfl⟩, q⟩
  | str y h =>
    obtain ⟨k, rfl⟩ := r1
    exact PySem.P.repr_of_str ⟨.str (reprText y), H, I.tok _, ⟨_, rfl⟩, q⟩ h
  | tup y e h =>
    cases (show u1 = Value.ref _ from r1)
    obtain ⟨as, rd⟩ := Dp.reads I (.tuple [.str y]) _ _ (.tup (SqT.of e) (.cons (.str y) .nil)) rfl
    refine repr_of_reads' rd rfl (fun z => by cases z) hg (by show X.A.units + ((PyData.tuple [.str y]).depth + 1) < cLine; simp [PyData.depth, PyData.depthAll]; omega) (fun _ _ e => e) (fun h' u tk hk => ?_) h
    exact ⟨.str _, H, I.kept (t' := tk) hk, ⟨_, rfl⟩, q⟩
  | lst y e h =>
    cases (show u1 = Value.ref _ from r1)
    obtain ⟨as, rd⟩ := Dp.reads I (.list [.str y]) _ _ (.lst (SqL.of e) (.cons (.str y) .nil)) rfl
    refine repr_of_reads' rd rfl (fun z => by cases z) hg (by show X.A.units + ((PyData.list [.str y]).depth + 1) < cLine; simp [PyData.depth, PyData.depthAll]; omega) (fun _ _ e => e) (fun h' u tk hk => ?_) h
    exact ⟨.str _, H, I.kept (t' := tk) hk, ⟨_, rfl⟩, q⟩
  | dK e =>
    cases (show u1 = Value.ref _ from r1)
    obtain ⟨_, hsys, vs, rv, o, es, ep, ho, ed, hdd, ko, pr, nd⟩ := I.hok _ _ e
    cases rv
    have ee : es = #[] := by
      obtain ⟨l⟩ := es
      have pr : Pairs _ l [] := pr
      cases pr
      rfl
    subst ee
    have rd : Reads s.heap (.ref _) (.dict []) _ := Reads.dict ho ed.1 hdd .nil .nil
    refine repr_of_reads' rd rfl (fun _ m => ?_) hg (by show X.A.units + ((PyData.dict []).depth + 1) < cLine; show X.A.units + ((0 + 1) + 1) < cLine; omega) (fun _ _ e => e) (fun h' u tk hk => ?_) (by decide +kernel)
    · simp at m
      subst m
      simp at hsys
    · exact ⟨.str _, H, I.kept (t' := tk) hk, ⟨_, rfl⟩, q⟩
end KRY
namespace KSM
open PySem PySem.Spec PyProof.Rows L2 PySem.W
/-! ### a text times an int: some text -/
def rMulS : R2 := fun x y H Q => ∃ (z : Str) (k : Int), x = .str z ∧ y = .int k ∧ 0 ≤ k ∧ k ≤ 1000 ∧ z.length ≤ 1000 ∧ ∀ t : Str, Q (.str t) H
theorem rep_size {α : Type} (a : Array α) : ∀ (n : Nat) (acc : Array α), ((List.replicate n a).foldl (· ++ ·) acc).size = acc.size + n * a.size
  | 0, acc => by simp
  | n + 1, acc => by
    rw [List.replicate_succ, List.foldl_cons, rep_size a n, Array.size_append, Nat.succ_mul]
    omega
theorem op_mulS {X : Cx} : OpR X (binaryOp .Mult) rMulS := by
  intro pins s σ H x y v u Q I rx ry h
  obtain ⟨z, k, rfl, rfl, h0, h1, hz, q⟩ := h
  obtain ⟨t, rfl⟩ := rx
  obtain ⟨t2, rfl⟩ := ry
  refine PySem.P.mul_str ?_ (fun c _ => ?_) (fun c _ => ?_) ?_
  · rw [Bool.or_eq_false_iff]
    exact ⟨decide_eq_false (by omega), decide_eq_false (by omega)⟩
  · have : (1000 : Int) ≤ (2 ^ 63 - 1) / k := Int.le_ediv_of_mul_le (by omega) (by omega)
    omega
  · have h2 : z.length * k.toNat ≤ 1000 * 1000 := Nat.mul_le_mul hz (by omega)
    have e : Builtin.Str.tooLong (z.length * k.toNat) = decide (z.length * k.toNat > sizeLine) := rfl
    rw [e]
    exact decide_eq_false (Nat.not_lt.mpr (Nat.le_trans h2 (by decide)))
  · split
    · exact ⟨by decide, .str _, H, I.tok _, ⟨_, rfl⟩, q _⟩
    · split
      · exact ⟨.str _, H, I, ⟨_, rfl⟩, q _⟩
      · refine ⟨?_, .str _, H, I.tok _, ⟨_, rfl⟩, q _⟩
        have e := rep_size z.cps k.toNat #[]
        have h2 : k.toNat * z.length ≤ 1000 * 1000 := Nat.mul_le_mul (by omega) hz
        show ((List.replicate k.toNat z.cps).foldl (· ++ ·) #[]).size ≤ sizeLine
        rw [e]
        have e3 : (#[] : Array Nat).size = 0 := rfl
        have e2 : z.cps.size = z.length := rfl
        rw [e2, e3, Nat.zero_add]
        exact Nat.le_trans h2 (by decide)
end KSM
namespace K47
open PySem PySem.Spec PyProof.Rows L2 PySem.W LamX KA KW KU KL
open Evl (pss_cut tCut)
/-- the code object of a def that makes lambdas, and its table -/
structure LamT (K : PySem.W.Frag) (x : Str) (st : Stmt) (a : Addr) (d : FuncData) (c P : Addr) : Prop where
  ex : ∃ (oc : Value) (od : Option Addr) (kV doc pm : Value) (an : Option Addr) (ct : Value) (osl : Array (Option Value)),
    d = PySem.W.fnOf x x (defArgs st) (defBody st) (defScope st) .none kV doc pm an (.ref c) ct ∧ K.lookup a = some ⟨oc, od, .func d, osl⟩ ∧ PySem.W.codeIn K (.ref c) x = true
/-- all but the state and the tables stands as it stood -/
def KpN (st lg : Addr) (H H' : Hp) : Prop := ∀ b o, H b = some o → b ≠ st → b ≠ lg → (∀ ps, o ≠ .tbl ps) → H' b = some o
theorem KpN.refl {st lg : Addr} {H : Hp} : KpN st lg H H := fun _ _ h _ _ _ => h
theorem KpN.trans {st lg : Addr} {H H1 H2 : Hp} (a : KpN st lg H H1) (b : KpN st lg H1 H2) : KpN st lg H H2 := fun c o h n1 n2 n3 => b c o (a c o h n1 n2 n3) n1 n2 n3
theorem KpN.kp {st lg : Addr} {H H1 : Hp} (a : Kp st lg H H1) : KpN st lg H H1 := fun c o h n1 n2 _ => a c o h n1 n2
theorem KpN.ext {st lg : Addr} {H H1 : Hp} (a : ExtN H H1) : KpN st lg H H1 := fun c o h _ _ n => a c o h n
theorem KpN.new {st lg p : Addr} {H : Hp} {o : HO} (h : H p = none) : KpN st lg H (upd H p o) := .kp (.same (Same.new h))
abbrev lamQ : Str := (envOfC "_law_refused_right" (defScope s__law_refused_right) 0 0 .none).qual ++ "<lambda>"
abbrev tabs (Pt : Addr) : List (Addr × Str) := [(Pt, lamQ)]
theorem tabs_kp {st lg cl : Addr} {n : Nat} {L : List (Addr × Str)} {H H' : Hp} (t : Tabs L H) (S : StAt H st lg cl n) (e : Kp st lg H H') : Tabs L H' := by
  obtain ⟨_, _, _, _, S', _⟩ := S
  intro p hp
  obtain ⟨ps, h1, h2, h3⟩ := t p hp
  refine ⟨ps, e _ _ h1 (ne_of h1 S'.d (by intro z; cases z)) (ne_of h1 S'.l (by intro z; cases z)), h2, fun pos cv hc => ?_⟩
  obtain ⟨c, e1, e2⟩ := h3 pos cv hc
  exact ⟨c, e1, e _ _ e2 (ne_of e2 S'.d (by intro z; unfold CodeO at z; cases z)) (ne_of e2 S'.l (by intro z; unfold CodeO at z; cases z))⟩
theorem stAt_ext {H H' : Hp} {st lg cl : Addr} {n : Nat} (S : StAt H st lg cl n) (e : ExtN H H') : StAt H' st lg cl n := by
  obtain ⟨a, b, c, d, s, h⟩ := S
  exact ⟨a, b, c, d, { s with d := e _ _ s.d (fun _ z => by cases z), l := e _ _ s.l (fun _ z => by cases z), c := e _ _ s.c (fun _ z => by cases z) }, h⟩
theorem exV_tbl {c : Value} {d : Option Addr} {a : Addr} (ps : Array Value) : ExV c d a ≠ .tbl ps := fun z => by
  unfold ExV at z
  cases z
theorem exV_lst {c : Value} {d : Option Addr} {a : Addr} (xs : List V) : ExV c d a ≠ .lst xs := fun z => by
  unfold ExV at z
  cases z
theorem kit_self {K : PySem.W.Frag} {C : Addr} : PySem.W.kitOne K (.ref C) (.ref C) = some true := by
  unfold PySem.W.kitOne
  rw [if_pos (by simp)]
/-- the law's code object, and its table: FnG of a def that makes lambdas -/
theorem fnG_ofC {CX : CXT} {P : Program} {w : World} {K : PySem.W.Frag} {mg : Str → Option Value} {base : Heap} {k : Nat} {f c Pt : Addr} {x : Str} {st : Stmt} {fd : FuncData} {N ps : List Str} {sp : Sp} (LT : LamT K x st f fd c Pt) (S : FnScope N ps (defScope st))
    (len : ∀ vs H Q E, sp vs H Q E → vs.length = ps.length)
    (hbody : ∀ (A : Around) (outer : List Env) (s : Shared) (H : Hp) (vs : List V) (Q : VK) (E : XK), Room k (A.deeper (envOfC x (defScope st) s.heap.objs.size f (.ref c))) → A.guards = some [] → sp vs H Q E →
      ∃ t, PSs (cxOf CX P w K mg base N x (defScope st) f (.ref c) A outer s H E) (defBody st) t ∧ t { nx := fun _ H' => Q .non H', rt := Q } (L2.start N vs) H) : FnG P w K mg base CX (k + 1) f fd ps sp := by
  obtain ⟨oc, od, kV, doc, pm, an, ct, osl, rfl, lk, hcd⟩ := LT.ex
  exact ⟨len, fun A outer s H args us vs Q E hr hg e0 hb r h => run_ofS lk hcd S hr e0 hb r (len _ _ _ _ h) fun hr' => hbody A outer s H vs Q E hr' hg h⟩
theorem KpN.tp {st lg cl : Addr} {m : Nat} {H H' : Hp} (S : StAt H st lg cl m) (k : KpN st lg H H') : Tp H H' := fun b xs e => by
  obtain ⟨_, _, _, _, S', _⟩ := S
  exact k b _ e (ne_of e S'.d (by intro z; cases z)) (ne_of e S'.l (by intro z; cases z)) (fun _ z => by cases z)
/-- the lambda in the call itself, beside all tables -/
theorem pe_caught1 {X : Cx} (T : Top X.K X.mg) {TT : List (Addr × Str)} {c Pt : Addr} {k : Nat} {params : Arguments} {body : Expr} {scope : Scope} {t : XK → TE} {p lpos pos : Pos} (TB : TabB X.base X.mg c Pt) (hcode : X.env.code = .ref c) (hr : Room (k + 2) X.A) (hg : Gl X "_law_caught")
    (mem : (Pt, X.env.qual ++ "<lambda>") ∈ TT) (one : ∀ q ∈ TT, q.1 = Pt → q.2 = X.env.qual ++ "<lambda>") (L : LamS X.env.scope scope)
    (hdef : defaultsOf params X.env = ([], [])) (hbind : ∀ (q : Str) (cl : List (Str × Addr)) (pm cv ctv : Value), bindArgs (PySem.W.kla_fn "<lambda>" q params body scope cl pm cv ctv) ⟨[], []⟩ = pure [])
    (hbody : ∀ (A : Around) (outer : List Env) (s : Shared) (H : Hp) (E : XK) (f c' : Addr), Room k (A.deeper (lamEnv X scope s.heap.objs.size f c')) → PE (lamCx X A outer s H E scope f c') body (t E)) :
    PE X (.Call (.Name "_law_caught" p) [.Lambda params body scope lpos] [] pos) (tLam TT (TCaught X.K T.reel.C) t) := by
  obtain ⟨oc, od, kV, doc, pm, an, cdv, ct, osl, ed, lk, hcd⟩ := T._law_caught.f.ex
  have hb := bd__law_caught T
  rw [ed] at lk hb
  exact pe_lamcall (T := TT) hg T._law_caught.m T._law_caught.f.kp lk hcd hb sc__law_caught rfl (.inl rfl)
    (caught_gives sc__law_caught rfl rfl rfl rfl T.reel.g (by decide) (by decide) (by decide) (by decide) (by decide)) TB hcode mem one hr L hdef hbind hbody
theorem caught_err1 {K : PySem.W.Frag} {mg : Str → Option Value} (T : Top K mg) {n : Str} (X : ExcT K mg n T.reel.C) {Pt st lg cl : Addr} {m m' : Nat} {t : XK → TE} {σ : L2.St} {H : Hp} {Q : VK} (hT : Tabs (tabs Pt) H) (S : StAt H st lg cl m)
    (A : ∀ (H1 : Hp) (E : XK) (Q1 : VK), ExtN H H1 → StAt H1 st lg cl m → (∀ H2, Kp st lg H1 H2 → StAt H2 st lg cl m' → E (.ref X.C) none H2) → t E σ H1 Q1)
    (k : ∀ a H', StAt H' st lg cl m' → Tabs (tabs Pt) H' → KpN st lg H H' → H' a = some (ExV (.ref X.C) none a) → a ≠ st → a ≠ lg → Q (.ref a) H') : tLam (tabs Pt) (TCaught K T.reel.C) t σ H Q := by
  refine ⟨hT, fun H1 e1 t1 Q1 hQ1 => A H1 _ Q1 e1 (stAt_ext S e1) fun H2 kp S2 => ⟨X.exm T.reel, fun a ha => ?_⟩⟩
  have t2 := tabs_kp t1 (stAt_ext S e1) kp
  exact k a _ (S2.same (Same.new ha)) (t2.ext (Same.new ha)) (((KpN.ext e1).trans (.kp kp)).trans (.new ha)) upd_same (S2.off ha).1 (S2.off ha).2
theorem one_q {Pt : Addr} : ∀ q ∈ tabs Pt, q.1 = Pt → q.2 = lamQ := fun q hq e => by
  rcases List.mem_singleton.mp hq with rfl
  rfl
theorem off_tup {H : Hp} {st lg cl p : Addr} {m : Nat} {xs : List V} (S : StAt H st lg cl m) (e : H p = some (.tup xs)) : p ≠ st ∧ p ≠ lg := by
  obtain ⟨_, _, _, _, S', _⟩ := S
  exact ⟨ne_of e S'.d (by intro z; cases z), ne_of e S'.l (by intro z; cases z)⟩
/-- an error of a web, kept -/
theorem caught_errU {P : Program} {w : World} {K : PySem.W.Frag} {mg : Str → Option Value} (T : Top K mg) (BW : BadWebT P w K mg T.reel.C) {Pt st lg cl : Addr} {m : Nat} {x : V} {t : XK → TE} {σ : L2.St} {H : Hp} {Q : VK} (hT : Tabs (tabs Pt) H) (S : StAt H st lg cl m)
    (A : ∀ (H1 : Hp) (E : XK) (Q1 : VK), ExtN H H1 → StAt H1 st lg cl m → (∀ H2 d, Same H1 H2 → H2 d = none → E (.ref BW.C) (some d) (upd H2 d (.xd [("at", x)]))) → t E σ H1 Q1)
    (k : ∀ a d H', StAt H' st lg cl m → Tabs (tabs Pt) H' → KpN st lg H H' → H' a = some (ExV (.ref BW.C) (some d) a) → H' d = some (.xd [("at", x)]) → a ≠ st → a ≠ lg → Q (.ref a) H') : tLam (tabs Pt) (TCaught K T.reel.C) t σ H Q := by
  refine ⟨hT, fun H1 e1 t1 Q1 hQ1 => A H1 _ Q1 e1 (stAt_ext S e1) fun H2 d s2 hd => ⟨bw_exm T.reel BW, fun a ha => ?_⟩⟩
  have S1 := stAt_ext S e1
  have n1 := Same.new (o := .xd [("at", x)]) hd
  have n2 := Same.new (o := ExV (.ref BW.C) (some d) a) ha
  have s12 := (s2.trans n1).trans n2
  exact k a d _ (S1.same s12) (t1.ext s12) ((KpN.ext e1).trans (.kp (.same s12))) upd_same (n2 _ _ upd_same) ((S1.same (s2.trans n1)).off ha).1 ((S1.same (s2.trans n1)).off ha).2
/-! ### repr of None and of numbers -/
inductive YN : V → Str → Prop where
  | non : YN .non "None"
  | int (i : Nat) (h : i ≤ 1000) : YN (.int (i : Int)) (Str.ofString (toString (i : Int)))
def rReprN : List V → Hp → VK → Prop := fun xs H Q => ∃ (x : V) (s : Str), xs = [x] ∧ YN x s ∧ Q (.str s) H
theorem call_reprN {X : Cx} : CallR X (.builtin "repr") rReprN := by
  intro pins s σ H xs us Q I r h
  obtain ⟨x, t, rfl, y, q⟩ := h
  obtain ⟨u1, rfl, r1⟩ := vals1 r
  cases y with
  | non =>
    cases (show u1 = Value.none from r1)
    exact PySem.P.repr_of_none ⟨.str "None", H, I.tok _, ⟨_, rfl⟩, q⟩
  | int i h =>
    obtain ⟨k, rfl⟩ := r1
    refine PySem.P.repr_of_int ?_ ⟨.str _, H, I.tok _, ⟨_, rfl⟩, q⟩
    have : ((i : Int).natAbs).log2 ≤ (i : Int).natAbs := Nat.log2_le_self _
    omega
end K47
namespace K47
open PySem PySem.Spec PyProof.Rows L2 PySem.W LamX KA KW KU KL
open Evl (pss_cut tCut)
/-! ### what is refused -/
theorem WG.kn {a b st lg cl : Addr} {m : Nat} {ws : List V} {rows : List (List Nat)} {line : List Nat} {g : List Int} {H H' : Hp} (W : WG a b ws rows line g H) (S : StAt H st lg cl m) (k : KpN st lg H H') (na : a ≠ lg) (nb : b ≠ lg) : WG a b ws rows line g H' := by
  obtain ⟨_, _, _, _, S', _⟩ := id S
  have h1 : a ≠ st := ne_of W.ha S'.d (by intro z; cases z)
  have h2 : b ≠ st := ne_of W.hb S'.d (by intro z; cases z)
  exact { W with ha := k _ _ W.ha h1 na (fun _ z => by cases z), rl := W.rl.tp (KpN.tp S k), hb := k _ _ W.hb h2 nb (fun _ z => by cases z) }
structure RB (Pt st lg cl a b : Addr) (ws : List V) (rows : List (List Nat)) (line : List Nat) (g : List Int) (m : Nat) (H : Hp) : Prop where
  S : StAt H st lg cl m
  Tb : Tabs (tabs Pt) H
  W : WG a b ws rows line g H
  na : a ≠ lg
  nb : b ≠ lg
section
variable {Pt st lg cl a b : Addr} {ws : List V} {rows : List (List Nat)} {line : List Nat} {g : List Int} {m m' : Nat} {H H' : Hp}
theorem RB.kn (B : RB Pt st lg cl a b ws rows line g m H) (k : KpN st lg H H') (S : StAt H' st lg cl m') (Tb : Tabs (tabs Pt) H') : RB Pt st lg cl a b ws rows line g m' H' := ⟨S, Tb, B.W.kn B.S k B.na B.nb, B.na, B.nb⟩
theorem RB.kp (B : RB Pt st lg cl a b ws rows line g m H) (k : Kp st lg H H') (S : StAt H' st lg cl m') : RB Pt st lg cl a b ws rows line g m' H' := B.kn (.kp k) S (tabs_kp B.Tb B.S k)
theorem RB.same (B : RB Pt st lg cl a b ws rows line g m H) (k : Same H H') : RB Pt st lg cl a b ws rows line g m H' := B.kp (.same k) (B.S.same k)
end
/-- an item that is no gain -/
def OI (H : Hp) (x : V) : Prop := (∃ i : Int, x = .int i ∧ within (.int i) (-mostG) mostG = false) ∨ x = .non ∨ x = .bl true ∨ x = .str "0" ∨ ∃ p xs, x = .ref p ∧ H p = some (.tup xs)
theorem OI.tp {H H' : Hp} {x : V} (h : OI H x) (t : Tp H H') : OI H' x := by
  rcases h with h | h | h | h | ⟨p, xs, h, e⟩
  · exact .inl h
  · exact .inr (.inl h)
  · exact .inr (.inr (.inl h))
  · exact .inr (.inr (.inr (.inl h)))
  · exact .inr (.inr (.inr (.inr ⟨p, xs, h, t _ _ e⟩)))
theorem OI.pl {K : PySem.W.Frag} {H : Hp} {x : V} (h : OI H x) : (∃ b, Pl K H x b) ∧ within x (-mostG) mostG = false := by
  rcases h with ⟨i, rfl, h⟩ | rfl | rfl | rfl | ⟨p, xs, rfl, e⟩
  · exact ⟨⟨_, .int i⟩, h⟩
  · exact ⟨⟨_, .non⟩, rfl⟩
  · exact ⟨⟨_, .bl _⟩, rfl⟩
  · exact ⟨⟨_, .str _⟩, rfl⟩
  · exact ⟨⟨_, .tup e⟩, rfl⟩
/-- no gains for n frames, and it stays so -/
def GO (K : PySem.W.Frag) (n : Nat) (st lg : Addr) (H : Hp) (x : V) : Prop := ∃ p, numsB n (-mostG) mostG p = false ∧ ∀ H', KpN st lg H H' → Gn K H' x p
theorem GO.kn {K : PySem.W.Frag} {n : Nat} {st lg : Addr} {H H' : Hp} {x : V} (h : GO K n st lg H x) (k : KpN st lg H H') : GO K n st lg H' x := by
  obtain ⟨p, e, q⟩ := h
  exact ⟨p, e, fun H2 k2 => q H2 (k.trans k2)⟩
theorem nums_len {n : Nat} {xs : List V} (h : xs.length ≠ n) : numsB n (-mostG) mostG (some xs) = false := by
  show (decide (xs.length = n) && _) = false
  rw [decide_eq_false h]
  rfl
theorem nums_item {n : Nat} {xs : List V} {i : Nat} {x : V} (hi : xs[i]? = some x) (hx : within x (-mostG) mostG = false) : numsB n (-mostG) mostG (some xs) = false := by
  show (_ && xs.all fun x => within x (-mostG) mostG) = false
  rw [Bool.and_eq_false_iff]
  refine .inr ?_
  rw [List.all_eq_false]
  exact ⟨x, List.mem_of_getElem? hi, by rw [hx]; exact Bool.false_ne_true⟩
theorem go_list {K : PySem.W.Frag} {n : Nat} {st lg cl p : Addr} {m : Nat} {xs : List V} {H : Hp} (S : StAt H st lg cl m) (e : H p = some (.lst xs)) (np : p ≠ lg) (h : numsB n (-mostG) mostG (some xs) = false) (l : xs.length ≤ 1000) (pl : ∀ H', KpN st lg H H' → ∀ x ∈ xs, ∃ b, Pl K H' x b) : GO K n st lg H (.ref p) := by
  obtain ⟨_, _, _, _, S', _⟩ := id S
  have h1 : p ≠ st := ne_of e S'.d (by intro z; cases z)
  exact ⟨some xs, h, fun H' k => .some (.inl (k _ _ e h1 np (fun _ z => by cases z))) (pl H' k) l⟩
theorem tabs_put {L : List (Addr × Str)} {H : Hp} {e : Addr} {xs ys : List V} (t : Tabs L H) (h : H e = some (.lst xs)) : Tabs L (upd H e (.lst ys)) := by
  intro p hp
  obtain ⟨ps, h1, h2, h3⟩ := t p hp
  refine ⟨ps, (upd_ne (fun z => by rw [z, h] at h1; cases h1)).trans h1, h2, fun pos cv hc => ?_⟩
  obtain ⟨c, e1, e2⟩ := h3 pos cv hc
  exact ⟨c, e1, (upd_ne (fun z => by rw [z, h] at e2; unfold CodeO at e2; cases e2)).trans e2⟩
theorem KpN.own {st lg D : Addr} {H H6 H8 : Hp} {o : HO} (k6 : KpN st lg H H6) (h : H6 D = none) (k8 : KpN st lg H H8) : KpN st lg H (upd H8 D o) := fun b u e n1 n2 n3 => by
  have := k6 b u e n1 n2 n3
  rw [upd_ne (fun z => by rw [z, h] at this; cases this)]
  exact k8 _ _ e n1 n2 n3
/-- no web, told so at v, and it stays so -/
def WO (st lg : Addr) (H : Hp) (u v : V) : Prop := ∃ o, webAns o ≠ .good ∧ v = webX (webAns o) ∧ ∀ H', KpN st lg H H' → Wb H' u o
theorem WO.kn {st lg : Addr} {H H' : Hp} {u v : V} (h : WO st lg H u v) (k : KpN st lg H H') : WO st lg H' u v := by
  obtain ⟨o, a, b, c⟩ := h
  exact ⟨o, a, b, fun H2 k2 => c H2 (k.trans k2)⟩
theorem wo_list {st lg cl l : Addr} {m : Nat} {vs : List V} {rows : List (List Nat)} {H : Hp} {v : V} (S : StAt H st lg cl m) (e : H l = some (.lst vs)) (nl : l ≠ lg) (r : RL NV H vs rows) (h : webAns (some rows) ≠ .good) (hv : v = webX (webAns (some rows))) (h1 : rows.length ≤ 1000) (h2 : ∀ r ∈ rows, r.length ≤ 1000) : WO st lg H (.ref l) v := by
  obtain ⟨_, _, _, _, S', _⟩ := id S
  have n1 : l ≠ st := ne_of e S'.d (by intro z; cases z)
  exact ⟨some rows, h, hv, fun H' k => .some ⟨l, vs, rfl, .inl (k _ _ e n1 nl (fun _ z => by cases z)), r.tp (KpN.tp S k)⟩ h1 h2⟩
theorem rl_two {H : Hp} {p q : Addr} {s t : List Nat} (h1 : H p = some (.tup (NV s))) (h2 : H q = some (.tup (NV t))) : RL NV H [.ref p, .ref q] [s, t] := (RL.one (f := NV) (a := s) ⟨p, rfl, h1⟩).append (.one ⟨q, rfl, h2⟩)
theorem find_lt {n i : Nat} {p : Nat → Bool} (h : (List.range n).find? p = some i) : i < n := List.mem_range.mp (List.mem_of_find?_eq_some h)
theorem webX_yn (o : Option (List (List Nat))) : ∃ s, YN (webX (webAns o)) s := by
  cases e : webAns o with
  | good => exact ⟨_, .non⟩
  | whole => exact ⟨_, .non⟩
  | frame i =>
    refine ⟨_, .int i ?_⟩
    cases o with
    | none => cases e
    | some rows =>
      have e : (if ¬ (1 ≤ rows.length ∧ rows.length ≤ 10) then At.whole else match (List.range rows.length).find? (badAt rows) with
        | some i => At.frame i
        | none => if runs rows rows.length [] = true then At.good else At.whole) = .frame i := e
      split at e
      · cases e
      · rename_i hn
        have hn := Decidable.of_not_not hn
        cases f : (List.range rows.length).find? (badAt rows) with
        | some j =>
          rw [f] at e
          cases e
          have := find_lt f
          omega
        | none =>
          rw [f] at e
          dsimp only at e
          split at e <;> cases e
def spRefused (Pt : Addr) : Sp := fun vs H Q _ => ∃ (st lg cl a b : Addr) (ws : List V) (rows : List (List Nat)) (line : List Nat) (g : List Int) (m : Nat), vs = [.ref st, .ref a, .ref b] ∧ m ≤ 800000 ∧ RB Pt st lg cl a b ws rows line g m H ∧
  ∀ H', StAt H' st lg cl (m + 10) → Tabs (tabs Pt) H' → KpN st lg H H' → Q (.bl true) H'
section
variable {P : Program} {w : World} {K : PySem.W.Frag} {mg : Str → Option Value} {base : Heap} (T : Top K mg) (BW : BadWebT P w K mg T.reel.C)
include BW in
theorem ok_refused {c Pt : Addr} (LT : LamT K "_law_refused_right" s__law_refused_right T._law_refused_right.a T._law_refused_right.d c Pt) (TB : TabB base mg c Pt) : FnG P w K mg base (L2.CX P w) 10 T._law_refused_right.a T._law_refused_right.d ["state", "net", "several"] (spRefused Pt) := by
  refine fnG_ofC (N := ["state", "net", "several", "spot_here", "bent", "some", "due", "odd", "error"]) LT sc__law_refused_right (fun vs H Q E h => ?_) (fun A outer s0 H vs Q E hr hg h => ?_)
  · obtain ⟨st, lg, cl, a, b, ws, rows, line, g, m, rfl, _⟩ := h
    rfl
  · obtain ⟨st, lg, cl, a, b, ws, rows, line, g, m, rfl, hm, B, k⟩ := h
    refine ⟨_, (pss_cons (ps_par (i := 3) (j := 4) rfl sc__law_refused_right.nd rfl rfl (by decide) rfl rfl (pa_cons (pe_call (ok_draw T) (hr.mono (by decide)) (by rfl) T._law_draw.m T._law_draw.f.kp (bd__law_draw T) .nil passE (pa_cons (pv 0) (pa_cons (pe_callB call_len_seq (by rfl) T.b_len PySem.boot_len (pa_cons (pv 1) pa_nil)) pa_nil))) (pa_cons (pe_callTy call_list_of (by rfl) T.b_list (by decide +kernel) (pa_cons (pv 2) pa_nil)) pa_nil)) (by rfl))
      (pss_cons (ps_asg (pe_call (ok_pick T) (hr.mono (by decide)) (by rfl) T._law_pick.m T._law_pick.f.kp (bd__law_pick T) .nil passE (pa_cons (pv 0) (pa_cons (pe_lst (pa_cons pe_int (pa_cons (pe_un un_neg pe_int) (pa_cons pe_non (pa_cons pe_bl (pa_cons pe_str (pa_cons (pe_tup (pa_cons pe_int pa_nil)) pa_nil))))))) pa_nil))) (pg_sub (pv 4) (pv 3) set_list))
      (pss_cons (ps_set (i := 7) sc__law_refused_right.nd rfl (by first | exact .inl rfl | exact .inr rfl) (pe_call (ok_pick T) (hr.mono (by decide)) (by rfl) T._law_pick.m T._law_pick.f.kp (bd__law_pick T) .nil passE (pa_cons (pv 0) (pa_cons (pe_lst (pa_cons (pv 4) (pa_cons (pv 4) (pa_cons (pe_op op_cat (pv 2) (pe_lst (pa_cons pe_int pa_nil))) (pa_cons (pe_slice sl_list (pv 2) (po_some pe_int) po_none) (pa_cons pe_non (pa_cons pe_dnewK (pa_cons pe_int (pa_cons (pe_op KSM.op_mulS pe_str (pe_callB call_len_seq (by rfl) T.b_len PySem.boot_len (pa_cons (pv 1) pa_nil))) pa_nil))))))))) pa_nil))))
      (pss_cons (ps_set (i := 5) sc__law_refused_right.nd rfl (by first | exact .inl rfl | exact .inr rfl) (pe_lst (pa_cons (pe_caught1 T TB rfl (show Room (7 + 2) _ from hr) (by rfl) List.mem_cons_self one_q (lamS_by (sc := defScope s__law_refused_right) (by decide +kernel)) rfl (fun _ _ _ _ _ => rfl) (fun A outer s H E f c h => (pe_call (ok_greatest_gain T BW) (h.mono (by decide)) (by rfl) T.greatest_gain.m T.greatest_gain.f.kp (bd_greatest_gain T) .nil (passX rfl rfl rfl rfl) (pa_cons (pv 1) (pa_cons (pv 7) pa_nil))))) pa_nil)))
      (pss_cons (ps_expr (pe_bm PySem.F.plainAttrs_list PySem.F.slot_list_append PySem.F.type_list_append mt_append (pv 5) (pa_cons (pe_caught1 T TB rfl (show Room (7 + 2) _ from hr) (by rfl) List.mem_cons_self one_q (lamS_by (sc := defScope s__law_refused_right) (by decide +kernel)) rfl (fun _ _ _ _ _ => rfl) (fun A outer s H E f c h => (pe_call (ok_best_sets T BW) (h.mono (by decide)) (by rfl) T.best_sets.m T.best_sets.f.kp (bd_best_sets T) .nil (passX rfl rfl rfl rfl) (pa_cons (pv 1) (pa_cons (pv 7) pa_nil))))) pa_nil)))
      (pss_cons (ps_if (pt_cmpR (op_neD hr.units) (pe_lc (own := [("error", 8)]) (g := (gName 8)) rfl sc__law_refused_right.nd (pi_list (pv 5)) (blkOk_by (own := [("error", 8)]) (N := ["state", "net", "several", "spot_here", "bent", "some", "due", "odd", "error"]) (sc := defScope s__law_refused_right) (by decide +kernel)) (fun _ _ _ _ _ => pg_name (i := 8) sc__law_refused_right.nd rfl (by first | exact .inl rfl | exact .inr rfl)) (fun _ _ _ _ _ => pts_one (pt_not (pt_val (pe_callB (show CallR _ _ (rIs2 K) from call_is2) (by rfl) T.b_isinstance PyProof.Rows.boot_isinstance (pa_cons (pv 8) (pa_cons (pe_glob (v := .ref T.BadGains.C) (by rfl) T.BadGains.g rfl) pa_nil)))))) (fun _ _ _ _ _ => pe_int)) (pe_lst pa_nil) (nomark _)) (pss_one (ps_ret pe_bl)) pss_nil)
      (pss_cons (ps_asg (pe_call (ok_pick T) (hr.mono (by decide)) (by rfl) T._law_pick.m T._law_pick.f.kp (bd__law_pick T) .nil passE (pa_cons (pv 0) (pa_cons (pe_lst (pa_cons (pe_tup (pa_cons pe_non (pa_cons pe_non pa_nil))) (pa_cons (pe_tup (pa_cons (pe_lst pa_nil) (pa_cons pe_non pa_nil))) (pa_cons (pe_tup (pa_cons (pe_lst (pa_cons (pe_tup (pa_cons pe_int pa_nil)) pa_nil)) (pa_cons pe_int pa_nil))) (pa_cons (pe_tup (pa_cons (pe_lst (pa_cons (pe_tup (pa_cons pe_int pa_nil)) (pa_cons (pe_tup (pa_cons pe_int pa_nil)) pa_nil))) (pa_cons pe_non pa_nil))) (pa_cons (pe_tup (pa_cons (pe_lst (pa_cons (pe_tup pa_nil) (pa_cons (pe_tup (pa_cons pe_int pa_nil)) pa_nil))) (pa_cons pe_int pa_nil))) pa_nil)))))) pa_nil))) (pg_tup rfl (pgs_cons (pg_name (i := 7) sc__law_refused_right.nd rfl (by first | exact .inl rfl | exact .inr rfl)) (pgs_cons (pg_name (i := 6) sc__law_refused_right.nd rfl (by first | exact .inl rfl | exact .inr rfl)) pgs_nil))))
      (pss_cons (ps_set (i := 5) sc__law_refused_right.nd rfl (by first | exact .inl rfl | exact .inr rfl) (pe_lst (pa_cons (pe_caught1 T TB rfl (show Room (7 + 2) _ from hr) (by rfl) List.mem_cons_self one_q (lamS_by (sc := defScope s__law_refused_right) (by decide +kernel)) rfl (fun _ _ _ _ _ => rfl) (fun A outer s H E f c h => (pe_call (ok_greatest_gain T BW) (h.mono (by decide)) (by rfl) T.greatest_gain.m T.greatest_gain.f.kp (bd_greatest_gain T) .nil (passX rfl rfl rfl rfl) (pa_cons (pv 7) (pa_cons pe_non pa_nil))))) pa_nil)))
      (pss_cons (ps_expr (pe_bm PySem.F.plainAttrs_list PySem.F.slot_list_append PySem.F.type_list_append mt_append (pv 5) (pa_cons (pe_caught1 T TB rfl (show Room (7 + 2) _ from hr) (by rfl) List.mem_cons_self one_q (lamS_by (sc := defScope s__law_refused_right) (by decide +kernel)) rfl (fun _ _ _ _ _ => rfl) (fun A outer s H E f c h => (pe_call (ok_best_sets T BW) (h.mono (by decide)) (by rfl) T.best_sets.m T.best_sets.f.kp (bd_best_sets T) .nil (passX rfl rfl rfl rfl) (pa_cons (pv 7) (pa_cons (pv 2) pa_nil))))) pa_nil)))
      (pss_one (ps_ret (pe_cmpR (op_eqD hr.units) (pe_lc (own := [("error", 8)]) (g := (gName 8)) rfl sc__law_refused_right.nd (pi_list (pv 5)) (blkOk_by (own := [("error", 8)]) (N := ["state", "net", "several", "spot_here", "bent", "some", "due", "odd", "error"]) (sc := defScope s__law_refused_right) (by decide +kernel)) (fun _ _ _ _ _ => pg_name (i := 8) sc__law_refused_right.nd rfl (by first | exact .inl rfl | exact .inr rfl)) (fun _ _ _ _ _ => pts_one (PW.pt (pw_or (pt_not (pt_val (pe_callB (show CallR _ _ (rIs3 K) from call_is3) (by rfl) T.b_isinstance PyProof.Rows.boot_isinstance (pa_cons (pv 8) (pa_cons (pe_glob (v := .ref BW.C) (by rfl) BW.g rfl) pa_nil))))) (pw_or1 (pt_cmpR op_ne (pe_callB (show CallR _ _ rReprN from call_reprN) (by rfl) T.b_repr (by decide +kernel) (pa_cons (pe_upGet BW.u (pv 8)) pa_nil)) (pe_callB (show CallR _ _ rReprN from call_reprN) (by rfl) T.b_repr (by decide +kernel) (pa_cons (pv 6) pa_nil)) (nomark _)))))) (fun _ _ _ _ _ => pe_int)) (pe_lst pa_nil) (nomark _))))))))))))), ?_⟩
    have hlen := B.W.rl.1
    have n1 := B.W.n1
    have n5 := B.W.n5
    have gl := B.W.gl
    refine ⟨_, rfl, _, rfl, a, ws, rfl, .inl (SqL.of B.W.ha), st, lg, cl, ws.length, m, rfl, by omega, ?_, by omega, B.S, fun spot H1 hsp S1 kp1 => ?_⟩
    · exact Nat.lt_of_le_of_lt (show ws.length ≤ 5 by omega) (by decide)
    have B1 := B.kp kp1 S1
    refine ⟨_, rfl, b, g.map V.int, rfl, .inl (SqL.of B1.W.hb), fun bt hbt => ⟨_, _, rfl, ?_⟩⟩
    have t2 := Same.new (o := .lst (g.map V.int)) hbt
    have nbt := B1.S.off hbt
    have nbc := offc B1.S hbt
    have B2 := B1.same t2
    have k2 : Kp st lg H _ := kp1.trans (.same t2)
    have eb2 : (upd H1 bt (.lst (g.map V.int))) bt = some (.lst (g.map V.int)) := upd_same
    have nba : bt ≠ a := fun z => by rw [z, B1.W.ha] at hbt; cases hbt
    have nbb : bt ≠ b := fun z => by rw [z, B1.W.hb] at hbt; cases hbt
    have hbtH : H bt = none := by
      cases z : H bt with
      | none => rfl
      | some o =>
        have := kp1 bt o z nbt.1 nbt.2
        rw [hbt] at this
        cases this
    generalize upd H1 bt (.lst (g.map V.int)) = H2 at B2 k2 eb2
    clear B1 S1 kp1 t2 hbt
    refine ⟨_, rfl, _, rfl, (by show 1 ≤ sizeLine; decide), fun p1 hp1 => ⟨(by show 6 ≤ sizeLine; decide), fun pl hpl => ?_⟩⟩
    have t3 := Same.new (o := .tup [V.int 1]) hp1
    have t4 := Same.new (o := .lst [V.int 10000000000, .int (-10000000000), .non, .bl true, .str "0", .ref p1]) hpl
    have t34 := t3.trans t4
    refine ⟨st, lg, cl, pl, _, _, rfl, upd_same, ((B2.S.same t3).off hpl).2, (by show 0 < 6; decide), (by show 6 ≤ 1000; decide), by omega, B2.S.same t34, fun x H3 hx S3 kp3 => ?_⟩
    have k34 : Kp st lg H2 H3 := (Kp.same t34).trans kp3
    have B3 := B2.kp k34 S3
    have eb3 := kp3 _ _ (t34 _ _ eb2) nbt.1 nbt.2
    have ox : OI H3 x := by
      have e1 := Tp.kp (B2.S.same t34) kp3 _ _ (t4 _ _ upd_same)
      simp only [List.mem_cons, List.not_mem_nil, or_false] at hx
      rcases hx with rfl | rfl | rfl | rfl | rfl | rfl
      · exact .inl ⟨_, rfl, by decide⟩
      · exact .inl ⟨_, rfl, by decide⟩
      · exact .inr (.inl rfl)
      · exact .inr (.inr (.inl rfl))
      · exact .inr (.inr (.inr (.inl rfl)))
      · exact .inr (.inr (.inr (.inr ⟨_, _, rfl, e1⟩)))
    clear hx t3 t4 t34 hp1 hpl
    have hspg : spot < g.length := by omega
    refine ⟨_, rfl, _, rfl, bt, g.map V.int, (spot : Int), spot, rfl, rfl, eb3, ixN_nat (by rw [List.length_map]; exact hspg), ?_⟩
    have eb4 : (upd H3 bt (.lst ((g.map V.int).set spot x))) bt = some (.lst ((g.map V.int).set spot x)) := upd_same
    have k4 : Kp st lg H (upd H3 bt (.lst ((g.map V.int).set spot x))) := Kp.put3 (k2.trans k34) hbtH
    have S4 := stAt_put (ys := (g.map V.int).set spot x) B3.S nbt.1 nbt.2 nbc
    have ox4 := ox.tp (Tp.put (o := .lst ((g.map V.int).set spot x)) eb3)
    have B4 : RB Pt st lg cl a b ws rows line g (m + 1 + 1) (upd H3 bt (.lst ((g.map V.int).set spot x))) := B.kp k4 S4
    generalize upd H3 bt (.lst ((g.map V.int).set spot x)) = H4 at eb4 k4 S4 ox4 B4
    clear ox B3 eb3 k34 kp3 S3 B2 k2 eb2
    -- what the gains may be instead
    refine ⟨_, rfl, _, rfl, _, rfl, _, rfl, (by show 1 ≤ sizeLine; decide), fun z1 hz1 => ?_⟩
    have u1 := Same.new (o := .lst [V.int 0]) hz1
    refine ⟨b, z1, g.map V.int, [V.int 0], rfl, rfl, u1 _ _ B4.W.hb, upd_same, ?_, fun z2 hz2 => ?_⟩
    · rw [List.length_map]
      exact Nat.le_trans (show g.length + 1 ≤ 1000 by omega) (by decide)
    have u2 := Same.new (o := .lst (g.map V.int ++ [V.int 0])) hz2
    have u12 := u1.trans u2
    refine ⟨_, rfl, _, rfl, ?_⟩
    dsimp only [tNoPart]
    refine ⟨b, g.map V.int, rfl, SqL.of (u12 _ _ B4.W.hb), fun z3 hz3 => ?_⟩
    have u3 := Same.new (o := .lst (cutV (g.map V.int) (some 1) none)) hz3
    refine fun z4 hz4 => ?_
    have u4 := Same.new (o := .dK []) hz4
    refine ⟨_, rfl, a, ws, rfl, .inl (SqL.of (((u12.trans u3).trans u4) _ _ B4.W.ha)), _, _, rfl, rfl, by omega, by omega, by decide, fun zt => ⟨(by show 8 ≤ sizeLine; decide), fun pl hpl => ?_⟩⟩
    have u5 := Same.new (o := .lst [V.ref bt, .ref bt, .ref z2, .ref z3, .non, .ref z4, .int 5, .str zt]) hpl
    have u15 := ((u12.trans u3).trans u4).trans u5
    refine ⟨st, lg, cl, pl, _, _, rfl, upd_same, ((B4.S.same ((u12.trans u3).trans u4)).off hpl).2, (by show 0 < 8; decide), (by show 8 ≤ 1000; decide), by omega, B4.S.same u15, fun x2 H5 hx S5 kp5 => ?_⟩
    have k45 : Kp st lg H4 H5 := (Kp.same u15).trans kp5
    have B5 := B4.kp k45 S5
    have S4 := B4.S
    have n2 := (S4.same u1).off hz2
    have n3 := (S4.same u12).off hz3
    have n4 := (S4.same (u12.trans u3)).off hz4
    have sx : HT.sIx (g.map V.int).length 0 (some 1) = 1 := by
      refine (HT.sIx_nat _ 0 1).trans ?_
      rw [List.length_map]
      omega
    have ecut : (cutV (g.map V.int) (some 1) none).length = g.length - 1 := by
      unfold cutV
      rw [sx, HT.sIx_none, List.length_take, List.length_drop, List.length_map]
      omega
    have pln : ∀ (l : List Int) (H' : Hp), ∀ x ∈ l.map V.int, ∃ b, Pl K H' x b := fun l H' x hx => by
      obtain ⟨i, _, rfl⟩ := List.mem_map.mp hx
      exact ⟨_, .int i⟩
    have go : GO K rows.length st lg H5 x2 := by
      have e1 := k45 _ _ eb4 nbt.1 nbt.2
      have e2 := kp5 _ _ (u5 _ _ (u4 _ _ (u3 _ _ upd_same))) n2.1 n2.2
      have e3 := kp5 _ _ (u5 _ _ (u4 _ _ upd_same)) n3.1 n3.2
      have e4 := kp5 _ _ (u5 _ _ upd_same) n4.1 n4.2
      have ox5 := ox4.tp (Tp.kp S4 k45)
      have gb : GO K rows.length st lg H5 (.ref bt) := by
        refine go_list S5 e1 nbt.2 (nums_item (i := spot) (x := x) (by rw [List.getElem?_set_self (by rw [List.length_map]; exact hspg)]) (ox5.pl (K := K)).2) (by rw [List.length_set, List.length_map]; omega) fun H' k' y hy => ?_
        rcases List.mem_or_eq_of_mem_set hy with q | rfl
        · exact pln g H' y q
        · exact ((ox5.tp (KpN.tp S5 k')).pl (K := K)).1
      simp only [List.mem_cons, List.not_mem_nil, or_false] at hx
      rcases hx with rfl | rfl | rfl | rfl | rfl | rfl | rfl | rfl
      · exact gb
      · exact gb
      · refine go_list S5 e2 n2.2 (nums_len ?_) ?_ fun H' k' y hy => ?_
        · rw [List.length_append, List.length_map, gl]
          show rows.length + 1 ≠ rows.length
          omega
        · rw [List.length_append, List.length_map]
          show g.length + 1 ≤ 1000
          omega
        · rcases List.mem_append.mp hy with q | q
          · exact pln g H' y q
          · rw [List.mem_singleton.mp q]
            exact ⟨_, .int 0⟩
      · refine go_list S5 e3 n3.2 (nums_len (by rw [ecut]; omega)) (by rw [ecut]; omega) fun H' k' y hy => ?_
        exact pln g H' y (List.mem_of_mem_drop (List.mem_of_mem_take hy))
      · exact ⟨none, rfl, fun H' _ => .no .non⟩
      · exact ⟨none, rfl, fun H' k' => .no (.dK (k' _ _ e4 n4.1 n4.2 fun _ z => by cases z))⟩
      · exact ⟨none, rfl, fun H' _ => .no (.int 5)⟩
      · exact ⟨none, rfl, fun H' _ => .no (.str zt)⟩
    have k5 := k4.trans k45
    clear hx u1 u2 u12 u3 u4 u5 u15 n2 n3 n4 hz1 hz2 hz3 hz4 hpl ox4 eb4 k45 kp5 S4 B4 k4
    have good : webAns (some rows) = .good := B.W.od.good n1 (by omega)
    have l2w := B.W.l2
    refine caught_err1 (m' := m + 1 + 1 + 1) T T.BadGains B5.Tb S5 (fun H6 E6 Q6 e6 S6 r6 => ?_) (fun x1 H6 S6 Tb6 kN6 hx1 na1 nb1 => ?_)
    · have kx : KpN st lg H5 H6 := .ext e6
      obtain ⟨p, np, gq⟩ := go
      exact ⟨_, rfl, _, rfl, _, _, rfl, .inr (.inl ⟨rows, p, ⟨a, ws, rfl, .inl (B5.W.kn S5 kx B5.na B5.nb).ha, (B5.W.kn S5 kx B5.na B5.nb).rl⟩, l2w, good, gq _ kx, np, fun H' s' => r6 H' (Kp.same s') (S6.same s')⟩)⟩
    have B6 := B5.kn kN6 S6 Tb6
    have go6 := go.kn kN6
    have k6 : KpN st lg H H6 := (KpN.kp k5).trans kN6
    clear B5 go k5 S5 kN6
    refine ⟨(by show 1 ≤ sizeLine; decide), fun so hso => ?_⟩
    have t7 := Same.new (o := .lst [V.ref x1]) hso
    have nso := S6.off hso
    have nsc := offc S6 hso
    have hso6 := hso
    have k6o := k6
    have B7 := B6.same t7
    have go7 := go6.kn (.kp (.same t7))
    have k7 := k6.trans (.kp (.same t7))
    have hx7 := t7 _ _ hx1
    have es7 : (upd H6 so (.lst [V.ref x1])) so = some (.lst [V.ref x1]) := upd_same
    have nx1 : x1 ≠ so := fun z => by rw [← z, hx1] at hso; cases hso
    generalize upd H6 so (.lst [V.ref x1]) = H7 at B7 go7 k7 hx7 es7
    clear B6 go6 k6 t7 hso hx1 S6 Tb6
    refine ⟨_, rfl, .inl ⟨rfl, _, SqL.of es7⟩, ?_⟩
    refine caught_err1 (m' := m + 1 + 1 + 1) T T.BadGains B7.Tb B7.S (fun H8 E8 Q8 e8 S8 r8 => ?_) (fun x2' H8 S8 Tb8 kN8 hx2 na2 nb2 => ?_)
    · have kx : KpN st lg H7 H8 := .ext e8
      obtain ⟨p, np, gq⟩ := go7
      exact ⟨_, rfl, _, rfl, _, _, rfl, .inr (.inl ⟨rows, p, ⟨a, ws, rfl, .inl (B7.W.kn B7.S kx B7.na B7.nb).ha, (B7.W.kn B7.S kx B7.na B7.nb).rl⟩, l2w, good, gq _ kx, np, fun H' s' => r8 H' (Kp.same s') (S8.same s')⟩)⟩
    have B8 := B7.kn kN8 S8 Tb8
    have k8 := k7.trans kN8
    have hx8 := kN8 _ _ hx7 na1 nb1 exV_tbl
    have es8 := kN8 _ _ es7 nso.1 nso.2 (fun _ z => by cases z)
    have hx2so : x2' ≠ so := fun z => by rw [z, es8] at hx2; exact exV_lst _ (Option.some.inj hx2).symm
    clear B7 go7 k7 hx7 es7 kN8
    refine ⟨so, _, _, rfl, rfl, es8, by show 1 < sizeLine; decide, ?_⟩
    have put := Tp.put (o := .lst ([V.ref x1] ++ [V.ref x2'])) es8
    have es9 : (upd H8 so (.lst ([V.ref x1] ++ [V.ref x2']))) so = some (.lst [V.ref x1, .ref x2']) := upd_same
    have hx19 : (upd H8 so (.lst ([V.ref x1] ++ [V.ref x2']))) x1 = some (ExV (.ref T.BadGains.C) none x1) := (upd_ne nx1).trans hx8
    have hx29 : (upd H8 so (.lst ([V.ref x1] ++ [V.ref x2']))) x2' = some (ExV (.ref T.BadGains.C) none x2') := (upd_ne hx2so).trans hx2
    have S9 := stAt_put (ys := [V.ref x1] ++ [V.ref x2']) S8 nso.1 nso.2 nsc
    have Tb9 := tabs_put (ys := [V.ref x1] ++ [V.ref x2']) Tb8 es8
    have k9 : KpN st lg H (upd H8 so (.lst ([V.ref x1] ++ [V.ref x2']))) := KpN.own k6o hso6 k8
    have B9 := B.kn k9 S9 Tb9
    generalize upd H8 so (.lst ([V.ref x1] ++ [V.ref x2'])) = H9 at es9 hx19 hx29 S9 Tb9 k9 B9
    clear B8 k8 hx8 es8 put hx2 S8 Tb8
    refine ⟨_, rfl, so, rfl, ⟨_, SqL.of es9⟩, fun D hD => ?_⟩
    refine lcP (walk_list (K := K) (a := so) (xs := [V.ref x1, .ref x2'])) [x1, x2'] (fun _ => false) (fun _ => V.int 1) rfl hD (fun H' s' => SqL.of (s' _ _ es9)) (by show 2 ≤ 100000; decide) yAt_same ?_ ?_
    · rintro i z e H10 H11 N R he s10 ⟨rfl, hz⟩ ky kn
      obtain ⟨rfl, hxe⟩ : z = V.ref e ∧ H11 e = some (ExV (.ref T.BadGains.C) none e) := by
        match i, he, hz with
        | 0, he, hz => cases he; cases hz; exact ⟨rfl, s10 _ _ hx19⟩
        | 1, he, hz => cases he; cases hz; exact ⟨rfl, s10 _ _ hx29⟩
        | i + 2, he, hz => cases he
      exact ⟨rfl, _, rfl, .inr ⟨e, T.BadGains.C, _, _, true, rfl, hxe, T.BadGains.e, .own _, kit_self, _, rfl, kn rfl _ fun _ _ e => e⟩⟩
    intro H10 s10 e10
    refine ⟨(by show 0 ≤ sizeLine; decide), fun z10 hz10 => ?_⟩
    have t10 := Same.new (o := .lst []) hz10
    refine ⟨_, _, dp_nil (t10 _ _ e10), dp_nil upd_same, shaped_nil, shaped_nil, _, rfl, iteF ?_⟩
    have s11 := s10.trans t10
    have B11 := B9.same s11
    have k11 := k9.trans (.kp (.same s11))
    generalize upd H10 z10 (.lst []) = H11 at B11 k11
    clear B9 k9 es9 hx19 hx29 S9 Tb9 s10 e10 hz10 t10 s11 hD
    refine ⟨_, rfl, ?_⟩
    refine ⟨(by show 2 ≤ sizeLine; decide), fun t1 ht1 => ?_⟩
    have sn := Same.new (o := .tup [V.non, .non]) ht1
    have et1 : (upd H11 t1 (.tup [V.non, .non])) t1 = some (.tup [V.non, .non]) := upd_same
    have BB0 := B11.same sn
    have kk0 := k11.trans (.kp (.same sn))
    generalize upd H11 t1 (.tup [V.non, .non]) = G0 at et1 BB0 kk0
    clear sn ht1 B11 k11
    refine ⟨(by show 0 ≤ sizeLine; decide), fun l2 hl2 => ?_⟩
    have sn := Same.new (o := .lst []) hl2
    have et1 := sn _ _ et1
    have nl2 := BB0.S.off hl2
    have el2 : (upd G0 l2 (.lst [])) l2 = some (.lst []) := upd_same
    have BB1 := BB0.same sn
    have kk1 := kk0.trans (.kp (.same sn))
    generalize upd G0 l2 (.lst []) = G1 at et1 el2 BB1 kk1
    clear sn hl2 BB0 kk0
    refine ⟨(by show 2 ≤ sizeLine; decide), fun t2 ht2 => ?_⟩
    have sn := Same.new (o := .tup [V.ref l2, .non]) ht2
    have et1 := sn _ _ et1
    have el2 := sn _ _ el2
    have et2 : (upd G1 t2 (.tup [V.ref l2, .non])) t2 = some (.tup [V.ref l2, .non]) := upd_same
    have BB2 := BB1.same sn
    have kk2 := kk1.trans (.kp (.same sn))
    generalize upd G1 t2 (.tup [V.ref l2, .non]) = G2 at et1 el2 et2 BB2 kk2
    clear sn ht2 BB1 kk1
    refine ⟨(by show 1 ≤ sizeLine; decide), fun a3 ha3 => ?_⟩
    have sn := Same.new (o := .tup [V.int 0]) ha3
    have et1 := sn _ _ et1
    have el2 := sn _ _ el2
    have et2 := sn _ _ et2
    have ea3 : (upd G2 a3 (.tup [V.int 0])) a3 = some (.tup [V.int 0]) := upd_same
    have BB3 := BB2.same sn
    have kk3 := kk2.trans (.kp (.same sn))
    generalize upd G2 a3 (.tup [V.int 0]) = G3 at et1 el2 et2 ea3 BB3 kk3
    clear sn ha3 BB2 kk2
    refine ⟨(by show 1 ≤ sizeLine; decide), fun l3 hl3 => ?_⟩
    have sn := Same.new (o := .lst [V.ref a3]) hl3
    have et1 := sn _ _ et1
    have el2 := sn _ _ el2
    have et2 := sn _ _ et2
    have ea3 := sn _ _ ea3
    have nl3 := BB3.S.off hl3
    have el3 : (upd G3 l3 (.lst [V.ref a3])) l3 = some (.lst [V.ref a3]) := upd_same
    have BB4 := BB3.same sn
    have kk4 := kk3.trans (.kp (.same sn))
    generalize upd G3 l3 (.lst [V.ref a3]) = G4 at et1 el2 et2 ea3 el3 BB4 kk4
    clear sn hl3 BB3 kk3
    refine ⟨(by show 2 ≤ sizeLine; decide), fun t3 ht3 => ?_⟩
    have sn := Same.new (o := .tup [V.ref l3, .int 0]) ht3
    have et1 := sn _ _ et1
    have el2 := sn _ _ el2
    have et2 := sn _ _ et2
    have ea3 := sn _ _ ea3
    have el3 := sn _ _ el3
    have et3 : (upd G4 t3 (.tup [V.ref l3, .int 0])) t3 = some (.tup [V.ref l3, .int 0]) := upd_same
    have BB5 := BB4.same sn
    have kk5 := kk4.trans (.kp (.same sn))
    generalize upd G4 t3 (.tup [V.ref l3, .int 0]) = G5 at et1 el2 et2 ea3 el3 et3 BB5 kk5
    clear sn ht3 BB4 kk4
    refine ⟨(by show 1 ≤ sizeLine; decide), fun a4 ha4 => ?_⟩
    have sn := Same.new (o := .tup [V.int 1]) ha4
    have et1 := sn _ _ et1
    have el2 := sn _ _ el2
    have et2 := sn _ _ et2
    have ea3 := sn _ _ ea3
    have el3 := sn _ _ el3
    have et3 := sn _ _ et3
    have ea4 : (upd G5 a4 (.tup [V.int 1])) a4 = some (.tup [V.int 1]) := upd_same
    have BB6 := BB5.same sn
    have kk6 := kk5.trans (.kp (.same sn))
    generalize upd G5 a4 (.tup [V.int 1]) = G6 at et1 el2 et2 ea3 el3 et3 ea4 BB6 kk6
    clear sn ha4 BB5 kk5
    refine ⟨(by show 1 ≤ sizeLine; decide), fun b4 hb4 => ?_⟩
    have sn := Same.new (o := .tup [V.int 0]) hb4
    have et1 := sn _ _ et1
    have el2 := sn _ _ el2
    have et2 := sn _ _ et2
    have ea3 := sn _ _ ea3
    have el3 := sn _ _ el3
    have et3 := sn _ _ et3
    have ea4 := sn _ _ ea4
    have eb4 : (upd G6 b4 (.tup [V.int 0])) b4 = some (.tup [V.int 0]) := upd_same
    have BB7 := BB6.same sn
    have kk7 := kk6.trans (.kp (.same sn))
    generalize upd G6 b4 (.tup [V.int 0]) = G7 at et1 el2 et2 ea3 el3 et3 ea4 eb4 BB7 kk7
    clear sn hb4 BB6 kk6
    refine ⟨(by show 2 ≤ sizeLine; decide), fun l4 hl4 => ?_⟩
    have sn := Same.new (o := .lst [V.ref a4, .ref b4]) hl4
    have et1 := sn _ _ et1
    have el2 := sn _ _ el2
    have et2 := sn _ _ et2
    have ea3 := sn _ _ ea3
    have el3 := sn _ _ el3
    have et3 := sn _ _ et3
    have ea4 := sn _ _ ea4
    have eb4 := sn _ _ eb4
    have nl4 := BB7.S.off hl4
    have el4 : (upd G7 l4 (.lst [V.ref a4, .ref b4])) l4 = some (.lst [V.ref a4, .ref b4]) := upd_same
    have BB8 := BB7.same sn
    have kk8 := kk7.trans (.kp (.same sn))
    generalize upd G7 l4 (.lst [V.ref a4, .ref b4]) = G8 at et1 el2 et2 ea3 el3 et3 ea4 eb4 el4 BB8 kk8
    clear sn hl4 BB7 kk7
    refine ⟨(by show 2 ≤ sizeLine; decide), fun t4 ht4 => ?_⟩
    have sn := Same.new (o := .tup [V.ref l4, .non]) ht4
    have et1 := sn _ _ et1
    have el2 := sn _ _ el2
    have et2 := sn _ _ et2
    have ea3 := sn _ _ ea3
    have el3 := sn _ _ el3
    have et3 := sn _ _ et3
    have ea4 := sn _ _ ea4
    have eb4 := sn _ _ eb4
    have el4 := sn _ _ el4
    have et4 : (upd G8 t4 (.tup [V.ref l4, .non])) t4 = some (.tup [V.ref l4, .non]) := upd_same
    have BB9 := BB8.same sn
    have kk9 := kk8.trans (.kp (.same sn))
    generalize upd G8 t4 (.tup [V.ref l4, .non]) = G9 at et1 el2 et2 ea3 el3 et3 ea4 eb4 el4 et4 BB9 kk9
    clear sn ht4 BB8 kk8
    refine ⟨(by show 0 ≤ sizeLine; decide), fun a5 ha5 => ?_⟩
    have sn := Same.new (o := .tup []) ha5
    have et1 := sn _ _ et1
    have el2 := sn _ _ el2
    have et2 := sn _ _ et2
    have ea3 := sn _ _ ea3
    have el3 := sn _ _ el3
    have et3 := sn _ _ et3
    have ea4 := sn _ _ ea4
    have eb4 := sn _ _ eb4
    have el4 := sn _ _ el4
    have et4 := sn _ _ et4
    have ea5 : (upd G9 a5 (.tup [])) a5 = some (.tup []) := upd_same
    have BB10 := BB9.same sn
    have kk10 := kk9.trans (.kp (.same sn))
    generalize upd G9 a5 (.tup []) = G10 at et1 el2 et2 ea3 el3 et3 ea4 eb4 el4 et4 ea5 BB10 kk10
    clear sn ha5 BB9 kk9
    refine ⟨(by show 1 ≤ sizeLine; decide), fun b5 hb5 => ?_⟩
    have sn := Same.new (o := .tup [V.int 2]) hb5
    have et1 := sn _ _ et1
    have el2 := sn _ _ el2
    have et2 := sn _ _ et2
    have ea3 := sn _ _ ea3
    have el3 := sn _ _ el3
    have et3 := sn _ _ et3
    have ea4 := sn _ _ ea4
    have eb4 := sn _ _ eb4
    have el4 := sn _ _ el4
    have et4 := sn _ _ et4
    have ea5 := sn _ _ ea5
    have eb5 : (upd G10 b5 (.tup [V.int 2])) b5 = some (.tup [V.int 2]) := upd_same
    have BB11 := BB10.same sn
    have kk11 := kk10.trans (.kp (.same sn))
    generalize upd G10 b5 (.tup [V.int 2]) = G11 at et1 el2 et2 ea3 el3 et3 ea4 eb4 el4 et4 ea5 eb5 BB11 kk11
    clear sn hb5 BB10 kk10
    refine ⟨(by show 2 ≤ sizeLine; decide), fun l5 hl5 => ?_⟩
    have sn := Same.new (o := .lst [V.ref a5, .ref b5]) hl5
    have et1 := sn _ _ et1
    have el2 := sn _ _ el2
    have et2 := sn _ _ et2
    have ea3 := sn _ _ ea3
    have el3 := sn _ _ el3
    have et3 := sn _ _ et3
    have ea4 := sn _ _ ea4
    have eb4 := sn _ _ eb4
    have el4 := sn _ _ el4
    have et4 := sn _ _ et4
    have ea5 := sn _ _ ea5
    have eb5 := sn _ _ eb5
    have nl5 := BB11.S.off hl5
    have el5 : (upd G11 l5 (.lst [V.ref a5, .ref b5])) l5 = some (.lst [V.ref a5, .ref b5]) := upd_same
    have BB12 := BB11.same sn
    have kk12 := kk11.trans (.kp (.same sn))
    generalize upd G11 l5 (.lst [V.ref a5, .ref b5]) = G12 at et1 el2 et2 ea3 el3 et3 ea4 eb4 el4 et4 ea5 eb5 el5 BB12 kk12
    clear sn hl5 BB11 kk11
    refine ⟨(by show 2 ≤ sizeLine; decide), fun t5 ht5 => ?_⟩
    have sn := Same.new (o := .tup [V.ref l5, .int 1]) ht5
    have et1 := sn _ _ et1
    have el2 := sn _ _ el2
    have et2 := sn _ _ et2
    have ea3 := sn _ _ ea3
    have el3 := sn _ _ el3
    have et3 := sn _ _ et3
    have ea4 := sn _ _ ea4
    have eb4 := sn _ _ eb4
    have el4 := sn _ _ el4
    have et4 := sn _ _ et4
    have ea5 := sn _ _ ea5
    have eb5 := sn _ _ eb5
    have el5 := sn _ _ el5
    have et5 : (upd G12 t5 (.tup [V.ref l5, .int 1])) t5 = some (.tup [V.ref l5, .int 1]) := upd_same
    have BB13 := BB12.same sn
    have kk13 := kk12.trans (.kp (.same sn))
    generalize upd G12 t5 (.tup [V.ref l5, .int 1]) = G13 at et1 el2 et2 ea3 el3 et3 ea4 eb4 el4 et4 ea5 eb5 el5 et5 BB13 kk13
    clear sn ht5 BB12 kk12
    refine ⟨(by show 5 ≤ sizeLine; decide), fun pl hpl => ?_⟩
    have sn := Same.new (o := .lst [V.ref t1, .ref t2, .ref t3, .ref t4, .ref t5]) hpl
    have et1 := sn _ _ et1
    have el2 := sn _ _ el2
    have et2 := sn _ _ et2
    have ea3 := sn _ _ ea3
    have el3 := sn _ _ el3
    have et3 := sn _ _ et3
    have ea4 := sn _ _ ea4
    have eb4 := sn _ _ eb4
    have el4 := sn _ _ el4
    have et4 := sn _ _ et4
    have ea5 := sn _ _ ea5
    have eb5 := sn _ _ eb5
    have el5 := sn _ _ el5
    have et5 := sn _ _ et5
    have npl := BB13.S.off hpl
    have epl : (upd G13 pl (.lst [V.ref t1, .ref t2, .ref t3, .ref t4, .ref t5])) pl = some (.lst [V.ref t1, .ref t2, .ref t3, .ref t4, .ref t5]) := upd_same
    have BB14 := BB13.same sn
    have kk14 := kk13.trans (.kp (.same sn))
    generalize upd G13 pl (.lst [V.ref t1, .ref t2, .ref t3, .ref t4, .ref t5]) = G14 at et1 el2 et2 ea3 el3 et3 ea4 eb4 el4 et4 ea5 eb5 el5 et5 epl BB14 kk14
    clear sn hpl BB13 kk13
    refine ⟨st, lg, cl, pl, _, _, rfl, epl, npl.2, (by show 0 < 5; decide), (by show 5 ≤ 1000; decide), by omega, BB14.S, fun x3 G hx3 S12 kp12 => ?_⟩
    have S14 := BB14.S
    have B12 := BB14.kp kp12 S12
    have k12 := kk14.trans (.kp kp12)
    obtain ⟨tp, u, v, rfl, etp, wo⟩ : ∃ tp u v, x3 = .ref tp ∧ G tp = some (.tup [u, v]) ∧ WO st lg G u v := by
      have c1 := Tp.kp S14 kp12 _ _ et1
      have c2 := Tp.kp S14 kp12 _ _ et2
      have c3 := Tp.kp S14 kp12 _ _ et3
      have c4 := Tp.kp S14 kp12 _ _ et4
      have c5 := Tp.kp S14 kp12 _ _ et5
      have d2 := kp12 _ _ el2 nl2.1 nl2.2
      have d3 := kp12 _ _ el3 nl3.1 nl3.2
      have d4 := kp12 _ _ el4 nl4.1 nl4.2
      have d5 := kp12 _ _ el5 nl5.1 nl5.2
      have a3' := Tp.kp S14 kp12 _ _ ea3
      have a4' := Tp.kp S14 kp12 _ _ ea4
      have b4' := Tp.kp S14 kp12 _ _ eb4
      have a5' := Tp.kp S14 kp12 _ _ ea5
      have b5' := Tp.kp S14 kp12 _ _ eb5
      simp only [List.mem_cons, List.not_mem_nil, or_false] at hx3
      rcases hx3 with rfl | rfl | rfl | rfl | rfl
      · exact ⟨_, _, _, rfl, c1, none, by decide, rfl, fun H' _ => .non⟩
      · exact ⟨_, _, _, rfl, c2, wo_list S12 d2 nl2.2 .nil (rows := []) (by decide) rfl (by decide) (by decide)⟩
      · exact ⟨_, _, _, rfl, c3, wo_list S12 d3 nl3.2 (.one (f := NV) (a := [0]) ⟨_, rfl, a3'⟩) (by decide) rfl (by decide) (by decide)⟩
      · exact ⟨_, _, _, rfl, c4, wo_list S12 d4 nl4.2 (rl_two (s := [1]) (t := [0]) a4' b4') (by decide) rfl (by decide) (by decide)⟩
      · exact ⟨_, _, _, rfl, c5, wo_list S12 d5 nl5.2 (rl_two (s := []) (t := [2]) a5' b5') (by decide) rfl (by decide) (by decide)⟩
    clear et1 el2 et2 ea3 el3 et3 ea4 eb4 el4 et4 ea5 eb5 el5 et5 epl BB14 kk14 kp12 S14 nl2 nl3 nl4 nl5 npl
    refine ⟨tp, _, rfl, SqT.of etp, rfl, _, _, rfl, _, _, rfl, rfl, ?_⟩
    clear etp
    obtain ⟨o, ng, hv, wq⟩ := wo
    refine caught_errU (x := webX (webAns o)) T BW B12.Tb S12 (fun H6 E6 Q6 e6 S6 r6 => ?_) (fun y1 d1 H6 S6 Tb6 kN6 hy1 hd1 na3 nb3 => ?_)
    · exact ⟨_, rfl, _, _, rfl, .inl ⟨o, wq _ (.ext e6), ng, fun H' d s' hd => r6 H' d s' hd⟩⟩
    have B6 := B12.kn kN6 S6 Tb6
    have wq6 : ∀ H', KpN st lg H6 H' → Wb H' u o := fun H' k' => wq H' (kN6.trans k')
    have k6 := k12.trans kN6
    clear B12 wq k12 S12 kN6
    refine ⟨(by show 1 ≤ sizeLine; decide), fun sp hsp' => ?_⟩
    have t7 := Same.new (o := .lst [V.ref y1]) hsp'
    have nsp := S6.off hsp'
    have nspc := offc S6 hsp'
    have hsp6 := hsp'
    have k6o := k6
    have B7 := B6.same t7
    have wq7 : ∀ H', KpN st lg (upd H6 sp (.lst [V.ref y1])) H' → Wb H' u o := fun H' k' => wq6 H' ((KpN.kp (.same t7)).trans k')
    have k7 := k6.trans (.kp (.same t7))
    have hy7 := t7 _ _ hy1
    have hd7 := t7 _ _ hd1
    have es7 : (upd H6 sp (.lst [V.ref y1])) sp = some (.lst [V.ref y1]) := upd_same
    have ny1 : y1 ≠ sp := fun z => by rw [← z, hy1] at hsp'; cases hsp'
    have nd1 : d1 ≠ sp := fun z => by rw [← z, hd1] at hsp'; cases hsp'
    have ndd1 : d1 ≠ st ∧ d1 ≠ lg := by
      obtain ⟨_, _, _, _, S', _⟩ := S6
      exact ⟨ne_of hd1 S'.d (by intro z; cases z), ne_of hd1 S'.l (by intro z; cases z)⟩
    generalize upd H6 sp (.lst [V.ref y1]) = H7 at B7 wq7 k7 hy7 hd7 es7
    clear B6 wq6 k6 t7 hsp' hy1 hd1 S6 Tb6
    refine ⟨_, rfl, .inl ⟨rfl, _, SqL.of es7⟩, ?_⟩
    refine caught_errU (x := webX (webAns o)) T BW B7.Tb B7.S (fun H8 E8 Q8 e8 S8 r8 => ?_) (fun y2 d2 H8 S8 Tb8 kN8 hy2 hd2 na4 nb4 => ?_)
    · exact ⟨_, rfl, _, rfl, _, _, rfl, .inl ⟨o, wq7 _ (.ext e8), ng, fun H' d s' hd => r8 H' d s' hd⟩⟩
    have k8 := k7.trans kN8
    have hy8 := kN8 _ _ hy7 na3 nb3 exV_tbl
    have hd8 := kN8 _ _ hd7 ndd1.1 ndd1.2 (fun _ z => by cases z)
    have es8 := kN8 _ _ es7 nsp.1 nsp.2 (fun _ z => by cases z)
    have hy2sp : y2 ≠ sp := fun z => by rw [z, es8] at hy2; exact exV_lst _ (Option.some.inj hy2).symm
    have hd2sp : d2 ≠ sp := fun z => by rw [z, es8] at hd2; cases hd2
    clear B7 wq7 k7 hy7 hd7 es7 kN8
    refine ⟨sp, _, _, rfl, rfl, es8, by show 1 < sizeLine; decide, ?_⟩
    have es9 : (upd H8 sp (.lst ([V.ref y1] ++ [V.ref y2]))) sp = some (.lst [V.ref y1, .ref y2]) := upd_same
    have hy19 : (upd H8 sp (.lst ([V.ref y1] ++ [V.ref y2]))) y1 = some (ExV (.ref BW.C) (some d1) y1) := (upd_ne ny1).trans hy8
    have hy29 : (upd H8 sp (.lst ([V.ref y1] ++ [V.ref y2]))) y2 = some (ExV (.ref BW.C) (some d2) y2) := (upd_ne hy2sp).trans hy2
    have hd19 : (upd H8 sp (.lst ([V.ref y1] ++ [V.ref y2]))) d1 = some (.xd [("at", webX (webAns o))]) := (upd_ne nd1).trans hd8
    have hd29 : (upd H8 sp (.lst ([V.ref y1] ++ [V.ref y2]))) d2 = some (.xd [("at", webX (webAns o))]) := (upd_ne hd2sp).trans hd2
    have S9 := stAt_put (ys := [V.ref y1] ++ [V.ref y2]) S8 nsp.1 nsp.2 nspc
    have Tb9 := tabs_put (ys := [V.ref y1] ++ [V.ref y2]) Tb8 es8
    have k9 : KpN st lg H (upd H8 sp (.lst ([V.ref y1] ++ [V.ref y2]))) := KpN.own k6o hsp6 k8
    generalize upd H8 sp (.lst ([V.ref y1] ++ [V.ref y2])) = H9 at es9 hy19 hy29 hd19 hd29 S9 Tb9 k9
    clear k8 hy8 hd8 es8 hy2 hd2 S8 Tb8
    refine ⟨_, rfl, sp, rfl, ⟨_, SqL.of es9⟩, fun D hD => ?_⟩
    refine lcP (walk_list (K := K) (a := sp) (xs := [V.ref y1, .ref y2])) [(y1, d1), (y2, d2)] (fun _ => false) (fun _ => V.int 1) rfl hD (fun H' s' => SqL.of (s' _ _ es9)) (by show 2 ≤ 100000; decide) yAt_same ?_ ?_
    · rintro i z ⟨e, d⟩ H10 H11 N R he s10 ⟨rfl, hz⟩ ky kn
      obtain ⟨rfl, hxe, hde⟩ : z = V.ref e ∧ H11 e = some (ExV (.ref BW.C) (some d) e) ∧ H11 d = some (.xd [("at", webX (webAns o))]) := by
        match i, he, hz with
        | 0, he, hz => cases he; cases hz; exact ⟨rfl, s10 _ _ hy19, s10 _ _ hd19⟩
        | 1, he, hz => cases he; cases hz; exact ⟨rfl, s10 _ _ hy29, s10 _ _ hd29⟩
        | i + 2, he, hz => cases he
      obtain ⟨sx, yn⟩ := webX_yn o
      refine ⟨rfl, ?_⟩
      refine ⟨_, rfl, .inr ⟨e, BW.C, d, _, _, _, true, rfl, hxe, hde, BW.x, .own _, kit_self, _, rfl, ?_⟩⟩
      refine iteF ⟨_, rfl, e, d, _, rfl, hxe, hde, _, sx, rfl, yn, _, rfl, _, sx, rfl, hv ▸ yn, rfl, _, rfl, ?_⟩
      rw [decide_eq_true rfl]
      exact kn rfl _ fun _ _ e => e
    intro H10 s10 e10
    refine ⟨(by show 0 ≤ sizeLine; decide), fun z10 hz10 => ?_⟩
    have t10 := Same.new (o := .lst []) hz10
    refine ⟨_, _, dp_nil (t10 _ _ e10), dp_nil upd_same, shaped_nil, shaped_nil, ?_⟩
    have s11 := s10.trans t10
    exact k _ ((S9.mono (by omega)).same s11) (Tb9.ext s11) (k9.trans (.kp (.same s11)))
end
end K47
namespace K47
open PySem PySem.Spec PyProof.Rows L2 PySem.W LamX KA KW KU KL
open Evl (pss_cut tCut)
/-! ### the law -/
theorem FnG.w {P : Program} {w : World} {K : PySem.W.Frag} {mg : Str → Option Value} {base : Heap} {CX : CXT} {k : Nat} {f : Addr} {fd : FuncData} {ps : List Str} {sp : Sp} {fs : List Addr} {H0 : Hp} {h0 : Heap} (F : FnG P w K mg base CX k f fd ps sp) : FnW P w K mg base fs H0 h0 CX k f fd ps sp :=
  ⟨F.len, fun A outer s H args us vs Q E hr hg e0 _ _ b r h => F.run A outer s H args us vs Q E hr hg e0 b r h⟩
theorem since_self {Z : Cx} (h : Z.ex = []) : Since Z Z.fs Z.H_0 Z.s_0.heap := ⟨Un.kept fun _ _ z => z, fun _ hb => .inl hb, h⟩
/-! ### what is shown, as data -/
def seenD (rows : List (List Nat)) (g : List Int) : PyData := .list [.list (rows.map lotD), .list (g.map PyData.int)]
theorem seen_sm {a b : Addr} {ws : List V} {rows : List (List Nat)} {line : List Nat} {g : List Int} {H : Hp} (W : WG a b ws rows line g H) : Sm 4112 3 (seenD rows g) := by
  have n5 := W.n5
  have gl := W.gl
  refine sm_list (n := 2055) (z := 2) (k := 2) (fun d hd => ?_) (by show 2 ≤ 2; decide)
  simp only [List.mem_cons, List.not_mem_nil, or_false] at hd
  rcases hd with rfl | rfl
  · refine sm_list (n := 410) (z := 1) (k := 5) (fun d hd => ?_) (by rw [List.length_map]; exact n5)
    obtain ⟨r, hr, rfl⟩ := List.mem_map.mp hd
    have l1 := ord_few W.od r hr
    refine sm_lot (by omega) fun x hx => ?_
    obtain ⟨i, hi⟩ := List.getElem?_of_mem hr
    have il := (List.getElem?_eq_some_iff.mp hi).1
    have er : row rows i = r := by
      unfold row
      rw [List.getD_eq_getElem?_getD, hi]
      rfl
    have := W.od.lt' il (er ▸ hx)
    omega
  · refine (sm_list (n := 40) (z := 0) (k := 5) (fun d hd => ?_) (by rw [List.length_map]; omega)).mono (by decide) (by decide)
    obtain ⟨i, hi, rfl⟩ := List.mem_map.mp hd
    have := W.gb i hi
    unfold mostG at this
    exact sm_int (by omega) (by omega)
theorem seen_dp {K : PySem.W.Frag} {a b q : Addr} {ws : List V} {rows : List (List Nat)} {line : List Nat} {g : List Int} {H : Hp} (W : WG a b ws rows line g H) (e : H q = some (.lst [.ref a, .ref b])) : Dp K H (.ref q) (seenD rows g) :=
  .lst (SqL.of e) (.cons (.lst (SqL.of W.ha) (dp_rl dp_lot W.rl)) (.cons (dp_int_list W.hb) .nil))
theorem sum_le {c : Int} : ∀ l : List Int, (∀ x ∈ l, x ≤ c) → l.sum ≤ (l.length : Int) * c
  | [], _ => by simp
  | x :: l, h => by
    have ih := sum_le l fun y hy => h y (List.mem_cons_of_mem _ hy)
    have := h x List.mem_cons_self
    rw [List.sum_cons, List.length_cons, Int.natCast_succ, Int.add_mul, Int.one_mul]
    omega
theorem top_in {a b : Addr} {ws : List V} {rows : List (List Nat)} {line : List Nat} {g : List Int} {H : Hp} (W : WG a b ws rows line g H) : 0 ≤ topG rows g ∧ topG rows g ≤ 50000000000 := by
  obtain ⟨⟨s, hs, e⟩, mx⟩ := topG_spec rows g
  have h0 := mx [] (nil_wholes rows)
  have e0 : gain g [] = 0 := rfl
  have ms := (mem_wholes.mp hs).1
  have ls := sub_len ((mem_subs _ _).mpr ms)
  have n5 := W.n5
  have b1 : gain g s ≤ ((s.map (gat g)).length : Int) * mostG := by
    refine sum_le _ fun x hx => ?_
    obtain ⟨i, hi, rfl⟩ := List.mem_map.mp hx
    have il : i < g.length := W.gl ▸ ms.2 i hi
    have e1 : gat g i = g[i] := by
      unfold gat
      rw [List.getD_eq_getElem?_getD, List.getElem?_eq_getElem il]
      rfl
    rw [e1]
    exact (W.gb _ (List.getElem_mem il)).2
  rw [List.length_map] at b1
  have b2 : (s.length : Int) * mostG ≤ 5 * mostG := Int.mul_le_mul_of_nonneg_right (by omega) (by decide)
  unfold mostG at b1 b2
  omega
def topD (t : Int) : PyData := .list [.int t, .int t]
theorem top_sm {t : Int} (h : 0 ≤ t ∧ t ≤ 50000000000) : Sm 82 1 (topD t) := sm_list (n := 40) (z := 0) (k := 2) (fun d hd => by
  simp only [List.mem_cons, List.not_mem_nil, or_false] at hd
  rcases hd with rfl | rfl <;> exact sm_int (by omega) (by omega)) (by show 2 ≤ 2; decide)
theorem top_dp {K : PySem.W.Frag} {H : Hp} {q : Addr} {t : Int} (e : H q = some (.lst [.int t, .int t])) : Dp K H (.ref q) (topD t) := .lst (SqL.of e) (.cons (.int t) (.cons (.int t) .nil))
theorem Two.keep {H H' : Hp} {v : V} {s t : List Nat} (h : Two H v s t) (k : Same H H') : Two H' v s t := by
  obtain ⟨p, a, b, e, e1, e2, e3⟩ := h
  exact ⟨p, a, b, e, k _ _ e1, k _ _ e2, k _ _ e3⟩
def twosD (rows : List (List Nat)) (g : List Int) : PyData := .list [twoD (leastL rows g) (mostL rows g), twoD (leastL rows g) (mostL rows g)]
theorem twos_data {K : PySem.W.Frag} {H : Hp} {q : Addr} {v1 v2 : V} {rows : List (List Nat)} {g : List Int} (h : rows.length ≤ 10) (e : H q = some (.lst [v1, v2])) (t1 : Two H v1 (leastL rows g) (mostL rows g)) (t2 : Two H v2 (leastL rows g) (mostL rows g)) : Sm 1646 3 (twosD rows g) ∧ Dp K H (.ref q) (twosD rows g) := by
  obtain ⟨_, s1, d1⟩ := two_data (K := K) h t1
  obtain ⟨_, s2, d2⟩ := two_data (K := K) h t2
  refine ⟨sm_list (n := 822) (z := 2) (k := 2) (fun d hd => ?_) (by show 2 ≤ 2; decide), .lst (SqL.of e) (.cons d1 (.cons d2 .nil))⟩
  simp only [List.mem_cons, List.not_mem_nil, or_false] at hd
  rcases hd with rfl | rfl <;> exact s1
theorem cut_due {t : Int} {a b : Addr} : cutV [V.int t, .ref a, .ref b] (some 1) none = [V.ref a, .ref b] := rfl
theorem not_all {t : Int} {a b : Addr} : ¬ (HT.sIx [V.int t, .ref a, .ref b].length 0 (some 1) = 0 ∧ HT.sIx [V.int t, .ref a, .ref b].length [V.int t, .ref a, .ref b].length none = [V.int t, .ref a, .ref b].length) := fun h => by
  have : HT.sIx 3 0 (some 1) = 0 := h.1
  exact absurd this (by decide)
def spLaw (K : PySem.W.Frag) (Pt : Addr) : Sp := fun vs H Q _ => ∃ (a : Addr) (ns : List Int), vs = [.ref a] ∧ SqL K H a (ns.map V.int) ∧ ns.length ≤ 63 ∧ Tabs (tabs Pt) H ∧ ∀ H', Q (.bl true) H'
section
variable {P : Program} {w : World} {K : PySem.W.Frag} {mg : Str → Option Value} {base : Heap} (T : Top K mg) (BW : BadWebT P w K mg T.reel.C)
include BW in
theorem ok_law {c Pt : Addr} (LT : LamT K "_law_refused_right" s__law_refused_right T._law_refused_right.a T._law_refused_right.d c Pt) (TB : TabB base mg c Pt) : FnG P w K mg base (L2.CX P w) 12 T.law.a T.law.d ["script"] (spLaw K Pt) := by
  refine fnG_of T.law.f sc_law (fun vs H Q E h => ?_) (fun cdv A outer s0 H vs Q E hr hg h => ?_)
  · obtain ⟨a, ns, rfl, _⟩ := h
    rfl
  · obtain ⟨a0, ns, rfl, hS, hl, Tb, k⟩ := h
    refine ⟨_, (pss_cons (ps_set (i := 1) sc_law.nd rfl (by first | exact .inl rfl | exact .inr rfl) (pe_call (ok_begun T) (hr.mono (by decide)) (by rfl) T._law_begun.m T._law_begun.f.kp (bd__law_begun T) .nil passE (pa_cons (pv 0) pa_nil)))
      (pss_cons (ps_for (passes_of rfl) rfl (pi_range1 (by rfl) T.b_range (pa_cons (pe_op op_add pe_int (pe_callB (call_min2 rfl) (by rfl) T.b_min PyProof.Rows.boot_min (pa_cons (pe_op op_fdiv (pe_callB call_len_seq (by rfl) T.b_len PySem.boot_len (pa_cons (pv 0) pa_nil)) pe_int) (pa_cons pe_int pa_nil)))) pa_nil)) (pg_name (i := 2) sc_law.nd rfl (by first | exact .inl rfl | exact .inr rfl))
        (pss_cons (ps_set (i := 3) sc_law.nd rfl (by first | exact .inl rfl | exact .inr rfl) (pe_call (ok_net T) (hr.mono (by decide)) (by rfl) T._law_net.m T._law_net.f.kp (bd__law_net T) .nil passE (pa_cons (pv 1) (pa_cons pe_int pa_nil))))
      (pss_cons (ps_set (i := 4) sc_law.nd rfl (by first | exact .inl rfl | exact .inr rfl) (pe_call (ok_yields T) (hr.mono (by decide)) (by rfl) T._law_yields.m T._law_yields.f.kp (bd__law_yields T) .nil passE (pa_cons (pv 1) (pa_cons (pv 3) pa_nil))))
      (pss_cons (ps_par (i := 5) (j := 6) rfl sc_law.nd rfl rfl (by decide) rfl rfl (pa_cons (pe_callB (show CallR _ _ (rRepr K) from call_repr hg hr) (by rfl) T.b_repr (by decide +kernel) (pa_cons (pe_lst (pa_cons (pv 3) (pa_cons (pv 4) pa_nil))) pa_nil)) (pa_cons (pe_call (ok_best_lots T) (hr.mono (by decide)) (by rfl) T._law_best_lots.m T._law_best_lots.f.kp (bd__law_best_lots T) .nil passE (pa_cons (pv 3) (pa_cons (pv 4) pa_nil))) pa_nil)) (by rfl))
      (pss_cons (ps_if (pt_cmpR op_ne (pe_callB (show CallR _ _ (rRepr K) from call_repr hg hr) (by rfl) T.b_repr (by decide +kernel) (pa_cons (pe_lst (pa_cons (pe_call (ok_greatest_gain T BW) (hr.mono (by decide)) (by rfl) T.greatest_gain.m T.greatest_gain.f.kp (bd_greatest_gain T) .nil passE (pa_cons (pv 3) (pa_cons (pv 4) pa_nil))) (pa_cons (pe_kw (ok_greatest_gain T BW) (hr.mono (by decide)) (by rfl) T.greatest_gain.m T.greatest_gain.f.kp (KA.Fun.kw2 T.greatest_gain.f fun _ _ _ _ _ _ _ _ => rfl) passE (pk_cons (pe_callTy call_tuple_of (by rfl) T.b_tuple (by decide +kernel) (pa_cons (pv 4) pa_nil)) (pk_cons (pv 3) pk_nil))) pa_nil))) pa_nil)) (pe_callB (show CallR _ _ (rRepr K) from call_repr hg hr) (by rfl) T.b_repr (by decide +kernel) (pa_cons (pe_lst (pa_cons (pe_ix (show IxR _ (rIx K) from ix_seq) (pv 6) pe_int (fun _ _ => rfl)) (pa_cons (pe_ix (show IxR _ (rIx K) from ix_seq) (pv 6) pe_int (fun _ _ => rfl)) pa_nil))) pa_nil)) (nomark _)) (pss_one (ps_ret pe_bl)) pss_nil)
      (pss_cons (ps_if (pt_cmpR op_ne (pe_callB (show CallR _ _ (rRepr K) from call_repr hg hr) (by rfl) T.b_repr (by decide +kernel) (pa_cons (pe_lst (pa_cons (pe_call (ok_best_sets T BW) (hr.mono (by decide)) (by rfl) T.best_sets.m T.best_sets.f.kp (bd_best_sets T) .nil passE (pa_cons (pv 3) (pa_cons (pv 4) pa_nil))) (pa_cons (pe_kw (ok_best_sets T BW) (hr.mono (by decide)) (by rfl) T.best_sets.m T.best_sets.f.kp (KA.Fun.kw2 T.best_sets.f fun _ _ _ _ _ _ _ _ => rfl) passE (pk_cons (pe_callTy call_tuple_of (by rfl) T.b_tuple (by decide +kernel) (pa_cons (pv 4) pa_nil)) (pk_cons (pe_callTy call_tuple_of (by rfl) T.b_tuple (by decide +kernel) (pa_cons (pv 3) pa_nil)) pk_nil))) pa_nil))) pa_nil)) (pe_callB (show CallR _ _ (rRepr K) from call_repr hg hr) (by rfl) T.b_repr (by decide +kernel) (pa_cons (pe_lst (pa_cons (pe_slice sl_tup (pv 6) (po_some pe_int) po_none) (pa_cons (pe_slice sl_tup (pv 6) (po_some pe_int) po_none) pa_nil))) pa_nil)) (nomark _)) (pss_one (ps_ret pe_bl)) pss_nil)
      (pss_cons (ps_for (passes_of rfl) rfl (pi_tup (pe_slice sl_tup (pv 6) (po_some pe_int) po_none)) (pg_name (i := 7) sc_law.nd rfl (by first | exact .inl rfl | exact .inr rfl))
        (pss_one (ps_if (PW.pt (pw_or (pt_not (pt_val (pe_call (ok_is_shut T) (hr.mono (by decide)) (by rfl) T._law_is_shut.m T._law_is_shut.f.kp (bd__law_is_shut T) .nil passE (pa_cons (pv 3) (pa_cons (pv 7) pa_nil))))) (pw_or1 (pt_cmpR op_ne (pe_call (ok_lsum T) (hr.mono (by decide)) (by rfl) T._law_sum.m T._law_sum.f.kp (bd__law_sum T) .nil passE (pa_cons (pv 4) (pa_cons (pv 7) pa_nil))) (pe_ix (show IxR _ (rIx K) from ix_seq) (pv 6) pe_int (fun _ _ => rfl)) (nomark _))))) (pss_one (ps_ret pe_bl)) pss_nil)))
      (pss_cons (ps_set (i := 8) sc_law.nd rfl (by first | exact .inl rfl | exact .inr rfl) (pe_tupRg rfl (by rfl) T.b_tuple (prg_1 (by rfl) T.b_range (pe_callB call_len_seq (by rfl) T.b_len PySem.boot_len (pa_cons (pv 3) pa_nil)))))
      (pss_cons (ps_if (pt_cmpR op_ne (pe_callB (show CallR _ _ (rRepr K) from call_repr hg hr) (by rfl) T.b_repr (by decide +kernel) (pa_cons (pe_call (ok_best_sets T BW) (hr.mono (by decide)) (by rfl) T.best_sets.m T.best_sets.f.kp (bd_best_sets T) .nil passE (pa_cons (pv 3) (pa_cons (pe_op op_rep (pe_lst (pa_cons pe_int pa_nil)) (pe_callB call_len_seq (by rfl) T.b_len PySem.boot_len (pa_cons (pv 3) pa_nil))) pa_nil))) pa_nil)) (pe_callB (show CallR _ _ (rRepr K) from call_repr hg hr) (by rfl) T.b_repr (by decide +kernel) (pa_cons (pe_tup (pa_cons (pe_tup pa_nil) (pa_cons (pv 8) pa_nil))) pa_nil)) (nomark _)) (pss_one (ps_ret pe_bl)) pss_nil)
      (pss_cons (ps_if (pt_cmpR op_ne (pe_callB (show CallR _ _ rReprN from call_reprN) (by rfl) T.b_repr (by decide +kernel) (pa_cons (pe_call (ok_greatest_gain T BW) (hr.mono (by decide)) (by rfl) T.greatest_gain.m T.greatest_gain.f.kp (bd_greatest_gain T) .nil passE (pa_cons (pv 3) (pa_cons (pe_op op_rep (pe_lst (pa_cons (pe_un un_neg pe_int) pa_nil)) (pe_callB call_len_seq (by rfl) T.b_len PySem.boot_len (pa_cons (pv 3) pa_nil))) pa_nil))) pa_nil)) pe_str (nomark _)) (pss_one (ps_ret pe_bl)) pss_nil)
      (pss_cons (ps_if (PW.pt (pw_or (pt_not (pt_val (pe_wcall (FnG.w (ok_more T BW)) (since_self rfl) (hr.mono (by decide)) hg (by rfl) T._law_more_right.m T._law_more_right.f.kp (bd__law_more_right T) passE (pa_cons (pv 1) (pa_cons (pv 3) (pa_cons (pv 4) (pa_cons (pv 6) pa_nil))))))) (pw_or1 (pt_not (pt_val (pe_wcall (FnG.w (ok_refused T BW LT TB)) (since_self rfl) (hr.mono (by decide)) hg (by rfl) T._law_refused_right.m T._law_refused_right.f.kp (bd__law_refused_right T) passE (pa_cons (pv 1) (pa_cons (pv 3) (pa_cons (pv 4) pa_nil))))))))) (pss_one (ps_ret pe_bl)) pss_nil)
      (pss_one (ps_if (pt_cmpR op_ne (pe_callB (show CallR _ _ (rRepr K) from call_repr hg hr) (by rfl) T.b_repr (by decide +kernel) (pa_cons (pe_lst (pa_cons (pv 3) (pa_cons (pv 4) pa_nil))) pa_nil)) (pv 5) (nomark _)) (pss_one (ps_ret pe_bl)) pss_nil)))))))))))))
      (pss_one (ps_ret pe_bl)))), ?_⟩
    refine ⟨_, rfl, a0, ns, rfl, hS, hl, fun st lg cl H1 S1 sm1 n1 n2 => ?_⟩
    have T1 := Tb.ext sm1
    clear Tb
    refine ⟨_, rfl, a0, _, rfl, .inl (sm1.seq hS), _, _, rfl, rfl, ⟨by decide, by decide⟩, _, _, rfl, _, _, rfl, rfl, _, rfl, ?_, ?_, for_range (n := _) (fun j σ H => StAt H st lg cl (300 * j) ∧ Tabs (tabs Pt) H ∧ ∃ v2 v3 v4 v5 v6 v7 v8, σ = [some (.ref a0), some (.ref st), v2, v3, v4, v5, v6, v7, v8]) ⟨S1, T1, _, _, _, _, _, _, _, rfl⟩ ?_ fun σ H _ => k H⟩
    · simp only [List.length_map]
      split <;> omega
    · simp only [List.length_map]
      split <;> omega
    clear S1 T1 sm1 hS n1 n2 H1
    rintro j σ H1 hj ⟨S1, Tb1, v2, v3, v4, v5, v6, v7, v8, rfl⟩
    have hj : j < 7 := by
      refine Nat.lt_of_lt_of_le hj ?_
      simp only [List.length_map]
      split <;> omega
    refine ⟨_, rfl, st, lg, cl, 300 * j, rfl, by omega, S1, fun a ws rows line H2 S2 kp2 na e2 r2 n1 n5 od => ?_⟩
    have nal := (S1.off na).2
    have Tb2 := tabs_kp Tb1 S1 kp2
    refine ⟨_, rfl, _, rfl, st, lg, cl, a, ws, 300 * j + 100, rfl, e2, nal, by rw [r2.1]; exact n5, by omega, S2, fun b g H3 S3 kp3 nb e3 gl gb => ?_⟩
    have nbl := (S2.off nb).2
    have Tb3 := tabs_kp Tb2 S2 kp3
    have has := (S1.off na).1
    have B3 : RB Pt st lg cl a b ws rows line g (300 * j + 100 + 100) H3 := ⟨S3, Tb3, ⟨kp3 _ _ e2 has nal, r2.tp (Tp.kp S2 kp3), n1, n5, od, e3, by rw [gl, r2.1], gb⟩, nal, nbl⟩
    clear S1 Tb1 kp2 na e2 r2 Tb2 S2 kp3 nb e3 gl gb S3 Tb3 has
    have gl := B3.W.gl
    have gb := B3.W.gb
    have l2w := B3.W.l2
    have hlen := B3.W.rl.1
    refine ⟨_, rfl, _, rfl, (by show 2 ≤ sizeLine; decide), fun q1 hq1 => ?_⟩
    have t4 := Same.new (o := .lst [V.ref a, .ref b]) hq1
    have B4 := B3.same t4
    obtain ⟨x1, x2, x3, x4⟩ := (seen_sm B4.W).repr (by decide) (by decide)
    refine ⟨q1, _, rfl, seen_dp B4.W upd_same, x1, x2, x3, x4, ?_⟩
    refine ⟨_, rfl, _, rfl, a, b, ws, rows, g, rfl, B4.W.ha, B4.W.rl, by omega, l2w, B4.W.hb, gl, fun d H5 s5 du5 => ⟨_, _, rfl, ?_⟩⟩
    have B5 := B4.same s5
    clear B3 B4 t4 hq1 s5
    have wvl : ∀ H', WG a b ws rows line g H' → Wv H' (.ref a) rows := fun H' W => ⟨a, ws, rfl, .inl W.ha, W.rl⟩
    have gvl : ∀ H', WG a b ws rows line g H' → Gv H' (.ref b) g := fun H' W => ⟨b, rfl, .inl W.hb⟩
    -- the greatest gain
    refine ⟨_, rfl, _, rfl, _, _, rfl, asked_good (line := line) (wvl _ B5.W) od n1 (by omega) (gvl _ B5.W) gl gb fun H6 s6 => ?_⟩
    have B6 := B5.same s6
    have du6 := du5.keep s6
    refine ⟨_, rfl, b, _, rfl, .inl ⟨SqL.of B6.W.hb, fun tg htg => ?_⟩⟩
    have t7 := Same.new (o := .tup (g.map V.int)) htg
    have B7 := B6.same t7
    have du7 := du6.keep t7
    have etg7 : (upd H6 tg (.tup (g.map V.int))) tg = some (.tup (g.map V.int)) := upd_same
    refine ⟨_, rfl, rfl, _, _, rfl, asked_good (line := line) (wvl _ B7.W) od n1 (by omega) ⟨tg, rfl, .inr etg7⟩ gl gb fun H8 s8 => ?_⟩
    have B8 := B7.same s8
    have du8 := du7.keep s8
    refine ⟨(by show 2 ≤ sizeLine; decide), fun q8 hq8 => ?_⟩
    have t9 := Same.new (o := .lst [V.int (topG rows g), .int (topG rows g)]) hq8
    have B9 := B8.same t9
    have du9 := du8.keep t9
    obtain ⟨y1, y2, y3, y4⟩ := (top_sm (top_in B9.W)).repr (by decide) (by decide)
    refine ⟨q8, _, rfl, top_dp upd_same, y1, y2, y3, y4, ?_⟩
    obtain ⟨da, db, d1, d2, d3⟩ := id du9
    refine ⟨_, rfl, .inr (.inl ⟨d, _, 0, _, rfl, rfl, SqT.of d1, atI_nat (j := 0) rfl, _, rfl, .inr (.inl ⟨d, _, 0, _, rfl, rfl, SqT.of d1, atI_nat (j := 0) rfl, (by show 2 ≤ sizeLine; decide), fun q9 hq9 => ?_⟩)⟩)⟩
    have t10 := Same.new (o := .lst [V.int (topG rows g), .int (topG rows g)]) hq9
    refine ⟨q9, _, rfl, top_dp upd_same, y1, y2, y3, y4, rfl, _, rfl, ?_⟩
    rw [decide_eq_true rfl]
    refine iteF ?_
    have B10 := B9.same t10
    have du10 := du9.keep t10
    generalize upd (upd H8 q8 (.lst [V.int (topG rows g), .int (topG rows g)])) q9 (.lst [V.int (topG rows g), .int (topG rows g)]) = H10 at B10 du10
    clear B5 du5 s6 B6 du6 t7 B7 du7 etg7 s8 B8 du8 t9 B9 du9 d1 d2 d3 da db t10 hq8 hq9 htg y1 y2 y3 y4
    -- the best sets
    refine ⟨_, rfl, _, rfl, _, _, rfl, asked_good (line := line) (wvl _ B10.W) od n1 (by omega) (gvl _ B10.W) gl gb fun v1 H6 s6 two1 => ?_⟩
    have B6 := B10.same s6
    have du6 := du10.keep s6
    refine ⟨_, rfl, b, _, rfl, .inl ⟨SqL.of B6.W.hb, fun tg htg => ?_⟩⟩
    have t7 := Same.new (o := .tup (g.map V.int)) htg
    have B7 := B6.same t7
    have du7 := du6.keep t7
    have two7 := two1.keep t7
    have etg7 : (upd H6 tg (.tup (g.map V.int))) tg = some (.tup (g.map V.int)) := upd_same
    refine ⟨_, rfl, a, _, rfl, .inl ⟨SqL.of B7.W.ha, fun tn htn => ?_⟩⟩
    have t8 := Same.new (o := .tup ws) htn
    have B8 := B7.same t8
    have du8 := du7.keep t8
    have two8 := two7.keep t8
    refine ⟨rfl, _, _, rfl, asked_good (line := line) ⟨tn, ws, rfl, .inr upd_same, B8.W.rl⟩ od n1 (by omega) ⟨tg, rfl, .inr (t8 _ _ etg7)⟩ gl gb fun v2 H9 s9 two2 => ?_⟩
    have B9 := B8.same s9
    have du9 := du8.keep s9
    have two9 := two8.keep s9
    refine ⟨(by show 2 ≤ sizeLine; decide), fun q9 hq9 => ?_⟩
    have t10 := Same.new (o := .lst [v1, v2]) hq9
    have B11 := B9.same t10
    have du11 := du9.keep t10
    obtain ⟨sm, dp⟩ := twos_data (K := K) (show rows.length ≤ 10 by omega) upd_same (two9.keep t10) (two2.keep t10)
    obtain ⟨y1, y2, y3, y4⟩ := sm.repr (by decide) (by decide)
    refine ⟨q9, _, rfl, dp, y1, y2, y3, y4, ?_⟩
    obtain ⟨da, db, d1, d2, d3⟩ := id du11
    refine ⟨_, rfl, _, rfl, d, _, rfl, SqT.of d1, not_all, fun c1 hc1 => ?_⟩
    rw [cut_due]
    have t12 := Same.new (o := .tup [V.ref da, .ref db]) hc1
    have twoA : Two _ (.ref c1) (leastL rows g) (mostL rows g) := ⟨c1, da, db, rfl, upd_same, t12 _ _ d2, t12 _ _ d3⟩
    refine ⟨_, rfl, _, rfl, d, _, rfl, SqT.of (t12 _ _ d1), not_all, fun c2 hc2 => ?_⟩
    rw [cut_due]
    have t13 := Same.new (o := .tup [V.ref da, .ref db]) hc2
    have twoB : Two _ (.ref c2) (leastL rows g) (mostL rows g) := ⟨c2, da, db, rfl, upd_same, t13 _ _ (t12 _ _ d2), t13 _ _ (t12 _ _ d3)⟩
    refine ⟨(by show 2 ≤ sizeLine; decide), fun q14 hq14 => ?_⟩
    have t14 := Same.new (o := .lst [V.ref c1, .ref c2]) hq14
    obtain ⟨_, dp2⟩ := twos_data (K := K) (show rows.length ≤ 10 by omega) upd_same ((twoA.keep t13).keep t14) (twoB.keep t14)
    refine ⟨q14, _, rfl, dp2, y1, y2, y3, y4, rfl, _, rfl, ?_⟩
    rw [decide_eq_true rfl]
    refine iteF ?_
    have tt := (t12.trans t13).trans t14
    have B15 := B11.same tt
    have du15 := du11.keep tt
    generalize upd (upd (upd (upd H9 q9 (.lst [v1, v2])) c1 (.tup [V.ref da, .ref db])) c2 (.tup [V.ref da, .ref db])) q14 (.lst [V.ref c1, .ref c2]) = G at B15 du15
    clear tt t12 t13 t14 twoA twoB hc1 hc2 hq14 dp2 d1 d2 d3 dp sm t10 hq9 two9 two2 two8 two7 two1 B11 du11 B9 du9 B8 du8 B7 du7 B6 du6 etg7 s9 s6 B10 du10 y1 y2 y3 y4
    clear t8 t7 htn htg
    -- each of the two is shut, and sums up to the greatest
    obtain ⟨da, db, d1, d2, d3⟩ := id du15
    refine ⟨_, rfl, _, rfl, d, _, rfl, SqT.of d1, not_all, fun cs hcs => ?_⟩
    rw [cut_due]
    have t16 := Same.new (o := .tup [V.ref da, .ref db]) hcs
    have B16 := B15.same t16
    have du16 := du15.keep t16
    have ecs : (upd G cs (.tup [V.ref da, .ref db])) cs = some (.tup [V.ref da, .ref db]) := upd_same
    have rl2 : RL NV (upd G cs (.tup [V.ref da, .ref db])) [.ref da, .ref db] [leastL rows g, mostL rows g] := rl_two (t16 _ _ d2) (t16 _ _ d3)
    have d16 := t16 _ _ d1
    generalize upd G cs (.tup [V.ref da, .ref db]) = G1 at B16 du16 ecs rl2 d16
    clear B15 du15 d1 d2 d3 t16 hcs
    refine ⟨cs, rfl, ⟨_, SqT.of ecs⟩, ?_⟩
    refine for_it (walk_tup (K := K) (a := cs) (xs := [V.ref da, .ref db])) (fun i σ H' => (∃ v7, σ = [some (.ref a0), some (.ref st), some (.int ((j : Nat) : Int)), some (.ref a), some (.ref b), some (.str (seenD rows g).shown), some (.ref d), v7, v8]) ∧ Same G1 H') ⟨⟨_, by rw [Int.zero_add]; rfl⟩, fun _ _ e => e⟩ (fun i σ H' _ p => SqT.of (p.2 _ _ ecs)) ?_ ?_
    · rintro i x σ H' H'' hi ⟨⟨v7', rfl⟩, sG⟩ ⟨rfl, hx⟩
      obtain ⟨e, s, rfl, es, he⟩ := (rl2.same sG).get hx
      have sb : s ∈ bests rows g := by
        match i, es with
        | 0, es => cases es; exact least_best
        | 1, es => cases es; exact most_best
        | i + 2, es => cases es
      obtain ⟨sw, sg⟩ := mem_bests.mp sb
      have ms := (mem_wholes.mp sw).1
      have ls := sub_len ((mem_subs _ _).mpr ms)
      have W' := B16.W.keep sG
      refine ⟨_, rfl, _, rfl, a, e, ws, rows, s, rfl, W'.ha, W'.rl, l2w, he, by omega, ms.2, fun H2 s2 => ⟨_, rfl, ?_⟩⟩
      rw [wholeB_iff.mpr (mem_wholes.mp sw).2]
      refine iteF ⟨_, rfl, _, rfl, b, e, g, s, rfl, s2 _ _ W'.hb, s2 _ _ he, by omega, fun f hf => gl ▸ ms.2 f hf, fun H3 s3 => ?_⟩
      have sG3 := (sG.trans s2).trans s3
      refine ⟨_, rfl, .inr (.inl ⟨d, _, 0, _, rfl, rfl, SqT.of (sG3 _ _ d16), atI_nat (j := 0) rfl, rfl, _, rfl, ?_⟩)⟩
      rw [sg, decide_eq_true rfl]
      exact iteF ⟨⟨_, rfl⟩, sG3⟩
    rintro σ G2 ⟨⟨v7', rfl⟩, sG⟩
    have B17 := B16.same sG
    have du17 := du16.keep sG
    clear B16 du16 ecs rl2 d16 sG
    refine ⟨_, rfl, a, ws, rfl, .inl (SqL.of B17.W.ha), _, rfl, RgOk.of_le (by decide) (by omega) (by decide) (by omega), fun ev hev => ?_⟩
    have t18 := Same.new (o := .tup (rgV 0 ((ws.length : Nat) : Int))) hev
    have erg : rgV 0 ((ws.length : Nat) : Int) = NV (List.range rows.length) := by
      unfold rgV NV
      rw [show (((ws.length : Nat) : Int) - 0).toNat = rows.length by omega]
      exact List.map_congr_left fun i _ => by rw [Int.zero_add]
    have eev : (upd G2 ev (.tup (rgV 0 ((ws.length : Nat) : Int)))) ev = some (.tup (NV (List.range rows.length))) := by rw [upd_same, erg]
    have B18 := B17.same t18
    have du18 := du17.keep t18
    generalize upd G2 ev (.tup (rgV 0 ((ws.length : Nat) : Int))) = G3 at B18 du18 eev
    clear B17 du17 t18 hev
    -- no gains at all
    refine ⟨_, rfl, (by show 1 ≤ sizeLine; decide), fun z1 hz1 => ⟨_, rfl, a, ws, rfl, .inl (SqL.of ((Same.new (o := .lst [V.int 0]) hz1) _ _ B18.W.ha)), z1, _, [V.int 0], rfl, rfl, upd_same, by omega, by omega, ?_, fun z2 hz2 => ?_⟩⟩
    · rw [Int.toNat_natCast, List.length_singleton, Nat.one_mul, hlen]
      exact Nat.le_trans (show rows.length ≤ 1000 by omega) (by decide)
    have t19 := Same.new (o := .lst [V.int 0]) hz1
    have t20 := Same.new (o := .lst (List.replicate ((ws.length : Nat) : Int).toNat [V.int 0]).flatten) hz2
    have t192 := t19.trans t20
    have eg0 : (List.replicate ((ws.length : Nat) : Int).toNat [V.int 0]).flatten = (List.replicate rows.length (0 : Int)).map V.int := by
      rw [Int.toNat_natCast, hlen, rep_flat, List.map_replicate]
    have ez2 : (upd (upd G3 z1 (.lst [V.int 0])) z2 (.lst (List.replicate ((ws.length : Nat) : Int).toNat [V.int 0]).flatten)) z2 = some (.lst ((List.replicate rows.length (0 : Int)).map V.int)) := by rw [upd_same, eg0]
    have B20 := B18.same t192
    have du20 := du18.keep t192
    have eev20 := t192 _ _ eev
    generalize upd (upd G3 z1 (.lst [V.int 0])) z2 (.lst (List.replicate ((ws.length : Nat) : Int).toNat [V.int 0]).flatten) = G4 at B20 du20 eev20 ez2
    clear B18 du18 eev t19 t20 t192 hz1 hz2
    refine ⟨_, _, rfl, asked_good (line := line) (wvl _ B20.W) od n1 (by omega) ⟨z2, rfl, .inl ez2⟩ List.length_replicate (fun i hi => by rw [List.eq_of_mem_replicate hi]; decide) fun v1 G5 s21 two1 => ?_⟩
    have B21 := B20.same s21
    have du21 := du20.keep s21
    have eev21 := s21 _ _ eev20
    obtain ⟨⟨p1, rfl⟩, sm1, dp1⟩ := two_data (K := K) (show rows.length ≤ 10 by omega) two1
    obtain ⟨y1, y2, y3, y4⟩ := sm1.repr (by decide) (by decide)
    refine ⟨p1, _, rfl, dp1, y1, y2, y3, y4, ?_⟩
    refine ⟨(by show 0 ≤ sizeLine; decide), fun e0 he0 => ⟨_, rfl, (by show 2 ≤ sizeLine; decide), fun tp htp => ?_⟩⟩
    have t22 := Same.new (o := .tup []) he0
    have t23 := Same.new (o := .tup [V.ref e0, .ref ev]) htp
    have twoR : Two (upd (upd G5 e0 (.tup [])) tp (.tup [V.ref e0, .ref ev])) (.ref tp) (leastL rows (List.replicate rows.length 0)) (mostL rows (List.replicate rows.length 0)) := by
      rw [least_zero, most_zero od]
      exact ⟨tp, e0, ev, rfl, upd_same, t23 _ _ upd_same, t23 _ _ (t22 _ _ eev21)⟩
    obtain ⟨_, _, dp2⟩ := two_data (K := K) (show rows.length ≤ 10 by omega) twoR
    refine ⟨tp, _, rfl, dp2, y1, y2, y3, y4, rfl, _, rfl, ?_⟩
    rw [decide_eq_true rfl]
    refine iteF ?_
    have B23 := B21.same (t22.trans t23)
    have du23 := du21.keep (t22.trans t23)
    generalize upd (upd G5 e0 (.tup [])) tp (.tup [V.ref e0, .ref ev]) = G6 at B23 du23
    clear B20 du20 eev20 ez2 B21 du21 eev21 sm1 dp1 dp2 two1 twoR y1 y2 y3 y4 s21 t22 t23 he0 htp
    -- losses alone
    refine ⟨_, rfl, _, rfl, (by show 1 ≤ sizeLine; decide), fun z1 hz1 => ⟨_, rfl, a, ws, rfl, .inl (SqL.of ((Same.new (o := .lst [V.int (-1)]) hz1) _ _ B23.W.ha)), z1, _, [V.int (-1)], rfl, rfl, upd_same, by omega, by omega, ?_, fun z2 hz2 => ?_⟩⟩
    · rw [Int.toNat_natCast, List.length_singleton, Nat.one_mul, hlen]
      exact Nat.le_trans (show rows.length ≤ 1000 by omega) (by decide)
    have t24 := Same.new (o := .lst [V.int (-1)]) hz1
    have t25 := Same.new (o := .lst (List.replicate ((ws.length : Nat) : Int).toNat [V.int (-1)]).flatten) hz2
    have t245 := t24.trans t25
    have eg1 : (List.replicate ((ws.length : Nat) : Int).toNat [V.int (-1)]).flatten = (List.replicate rows.length (-1 : Int)).map V.int := by
      rw [Int.toNat_natCast, hlen, rep_flat, List.map_replicate]
    have ez2 : (upd (upd G6 z1 (.lst [V.int (-1)])) z2 (.lst (List.replicate ((ws.length : Nat) : Int).toNat [V.int (-1)]).flatten)) z2 = some (.lst ((List.replicate rows.length (-1 : Int)).map V.int)) := by rw [upd_same, eg1]
    have B25 := B23.same t245
    have du25 := du23.keep t245
    generalize upd (upd G6 z1 (.lst [V.int (-1)])) z2 (.lst (List.replicate ((ws.length : Nat) : Int).toNat [V.int (-1)]).flatten) = G7 at B25 du25 ez2
    clear B23 du23 t24 t25 t245 hz1 hz2 eg1
    refine ⟨_, _, rfl, asked_good (line := line) (wvl _ B25.W) od n1 (by omega) ⟨z2, rfl, .inl ez2⟩ List.length_replicate (fun i hi => by rw [List.eq_of_mem_replicate hi]; decide) fun G8 s26 => ?_⟩
    have B26 := B25.same s26
    have du26 := du25.keep s26
    clear B25 du25 ez2 s26
    rw [top_loss]
    refine ⟨_, _, rfl, .int 0 (by decide), rfl, _, rfl, ?_⟩
    rw [decide_eq_true (by decide)]
    refine iteF ?_
    -- a frame behind, what is refused
    refine ⟨_, rfl, _, rfl, _, rfl, _, rfl, st, lg, cl, a, b, d, ws, rows, line, g, _, rfl, B26.W, nal, nbl, du26, by omega, B26.S, fun G9 S27 kp27 => ⟨_, rfl, iteF ?_⟩⟩
    have B27 := B26.kp kp27 S27
    clear B26 du26 S27 kp27
    refine ⟨_, rfl, _, rfl, _, rfl, st, lg, cl, a, b, ws, rows, line, g, _, rfl, by omega, B27, fun G10 S28 Tb28 kN28 => ⟨_, rfl, iteF ?_⟩⟩
    have B28 := B27.kn kN28 S28 Tb28
    clear B27 S28 Tb28 kN28
    refine ⟨_, rfl, _, rfl, (by show 2 ≤ sizeLine; decide), fun q29 hq29 => ?_⟩
    have t29 := Same.new (o := .lst [V.ref a, .ref b]) hq29
    have B29 := B28.same t29
    refine ⟨q29, _, rfl, seen_dp B29.W upd_same, x1, x2, x3, x4, _, rfl, rfl, _, rfl, ?_⟩
    rw [decide_eq_true rfl]
    exact iteF ⟨B29.S.mono (by omega), B29.Tb, _, _, _, _, _, _, _, rfl⟩
end
end K47
namespace K47
open PySem PySem.Spec PyProof.Rows L2 PySem.W LamX KA KW KU KL
/-! ### what the head's heap says, put together -/
section
variable {K : PySem.W.Frag} {mg : Str → Option Value} {h : Heap}
theorem defT_of {x : Str} {st : Stmt} {f : Addr} {od an : Option Addr} {sl : Array (Option Value)} {oc kV dc pm cd ct : Value} (X : K.In h) (G : h.Ns mainGlobals mg)
    (a : PySem.W.nsIn K mainGlobals x = some (some (.ref f))) (l : K.lookup f = some ⟨oc, od, .func (PySem.W.fnOf x x (defArgs st) (defBody st) (defScope st) .none kV dc pm an cd ct), sl⟩) (c : PySem.W.codeIn K cd x = true) (k : PySem.W.keepIn K (.ref f) = true) :
    Nonempty (DefT K mg x st) := ⟨⟨f, _, fun_mk l c k, PySem.W.mg_of X G a⟩⟩
theorem lamT_of {x : Str} {st : Stmt} {f c Pt : Addr} {od an : Option Addr} {sl : Array (Option Value)} {oc kV dc pm ct : Value} (X : K.In h) (G : h.Ns mainGlobals mg) (T : DefT K mg x st)
    (a : PySem.W.nsIn K mainGlobals x = some (some (.ref f))) (l : K.lookup f = some ⟨oc, od, .func (PySem.W.fnOf x x (defArgs st) (defBody st) (defScope st) .none kV dc pm an (.ref c) ct), sl⟩) (cc : PySem.W.codeIn K (.ref c) x = true) :
    LamT K x st T.a T.d c Pt := by
  have e := (PySem.W.mg_of X G a).symm.trans T.m
  have e : f = T.a := Value.ref.inj (Option.some.inj e)
  obtain ⟨oc', od', kV', dc', pm', an', cd', ct', sl', ed, lk, hcd⟩ := T.f.ex
  rw [e] at l
  have e2 := l.symm.trans lk
  have e3 := congrArg Obj.data (Option.some.inj e2)
  have e4 := Data.func.inj e3
  exact ⟨oc, od, kV, dc, pm, an, ct, sl, e4.symm, by rw [← e4]; exact l, cc⟩
theorem reelT_of {C : Addr} (X : K.In h) (G : h.Ns mainGlobals mg) (a : PySem.W.nsIn K mainGlobals "ReelError" = some (some (.ref C))) (b : PySem.W.subIn K (.ref C) (.type "BaseException") = some true)
    (t : PySem.W.typeIn K (.ref C) = some (.type "type")) (d : PySem.W.hasDictIn K C = true) : ∃ R : ReelT K mg, R.C = C := ⟨⟨C, PySem.W.mg_of X G a, b, t, d⟩, rfl⟩
theorem excT_of {x : Str} {C R : Addr} (X : K.In h) (G : h.Ns mainGlobals mg) (a : PySem.W.nsIn K mainGlobals x = some (some (.ref C))) (q : PySem.W.excIn K C veB "ValueError.__new__" = true) (k : PySem.W.keepIn K (.ref C) = true)
    (b : PySem.W.subIn K (.ref C) (.type "BaseException") = some true) (t : PySem.W.typeIn K (.ref C) = some (.type "type")) (r : PySem.W.subIn K (.ref C) (.ref R) = some true)
    (e1 : PySem.W.findIn K (.ref C) "__getattribute__" = some (some (.builtin "BaseException.__getattribute__"))) (e2 : PySem.W.findIn K (.ref C) "__getattr__" = some none) (e3 : PySem.W.hasDictIn K C = true)
    (e4 : PySem.W.findIn K (.ref C) "__class__" = some (some (.builtin "object.__class__"))) (e5 : PySem.W.specialIn K (.builtin "object.__class__") "__get__" = some (some (.builtin "getset_descriptor.__get__")))
    (e6 : PySem.W.takesIn K (.builtin "object.__class__") = some true) (e7 : PySem.W.mroIn K C (.type "object") = some true) : Nonempty (ExcT K mg x R) :=
  ⟨⟨C, PySem.W.mg_of X G a, q, k, b, t, r, ⟨e1, e2, b, e3, e4, e5, e6, e7⟩⟩⟩
theorem cstT_of {x : Str} {n : Int} {t : Tok} (X : K.In h) (G : h.Ns mainGlobals mg) (a : PySem.W.nsIn K mainGlobals x = some (some (.int n t))) : CstT mg x n := ⟨t, PySem.W.mg_of X G a⟩
/-- the law, at the head's heap -/
theorem law_at {l : PySem.W.OpenLaw} {w : World} {fa c Pt : Addr} (T : Top K mg) (BW : BadWebT l.prog w K mg T.reel.C) (name : mg "law" = some (.ref fa)) (LT : LamT K "_law_refused_right" s__law_refused_right T._law_refused_right.a T._law_refused_right.d c Pt)
    (ht : h.get? Pt = some { cls := .none, data := .fields #[] }) (hk : K.lookup Pt = none) (hc : PySem.W.CodeHd h c Pt) : LawAtG l w K (L2.CX l.prog w) 12 63 "script" mg fa h := by
  have e : fa = T.law.a := Value.ref.inj (Option.some.inj (name.symm.trans T.law.m))
  subst e
  have one : ∀ {A : Addr × Addr → Prop}, A (c, Pt) → ∀ p ∈ [(c, Pt)], A p := fun q p hp => by
    rw [List.mem_singleton.mp hp]
    exact q
  refine ⟨T.law.d, [(c, Pt)], spLaw K Pt, ⟨one ht, one hk, one hc⟩, fun s u => ?_, fun H a ns short t S => ?_, fun base _ _ tb => ok_law T BW LT (tb (c, Pt) (List.mem_singleton.mpr rfl))⟩
  · obtain ⟨oc, od, kV, doc, pm, an, cdv, ct, osl, ed, lk, hcd⟩ := T.law.f.ex
    rw [ed]
    exact .of_eq rfl
  · refine ⟨a, ns, rfl, S, short, fun p hp => ?_, fun _ => rfl⟩
    rw [List.mem_singleton.mp hp]
    exact TabS.nil (t (c, Pt) (List.mem_singleton.mpr rfl))
theorem calm_cx {P : Program} {w : World} {H : Hp} {s : Shared} {e : Value} {s' : Shared} (z : L2.CX P w [] H s (fun _ _ _ => False) e s') : False := by
  obtain ⟨_, _, _, _, _, _, _, _, _, _, _, _, f⟩ := z
  exact f
end
end K47
namespace K47
open PySem PySem.Spec PyProof.Rows L2 PySem.W LamX KA KW KU KL
section
variable {K : PySem.W.Frag} {mg : Str → Option Value} {h : Heap} {A : Prop}
theorem reel_use {C : Addr} (X : K.In h) (G : h.Ns mainGlobals mg) (a : PySem.W.nsIn K mainGlobals "ReelError" = some (some (.ref C))) (b : PySem.W.subIn K (.ref C) (.type "BaseException") = some true)
    (t : PySem.W.typeIn K (.ref C) = some (.type "type")) (d : PySem.W.hasDictIn K C = true) (n : ∀ R : ReelT K mg, R.C = C → A) : A := by
  obtain ⟨R, e⟩ := reelT_of X G a b t d
  exact n R e
theorem exc_use {x : Str} {C B : Addr} (X : K.In h) (G : h.Ns mainGlobals mg) (R : ReelT K mg) (eR : R.C = B) (a : PySem.W.nsIn K mainGlobals x = some (some (.ref C))) (q : PySem.W.excIn K C veB "ValueError.__new__" = true) (k : PySem.W.keepIn K (.ref C) = true)
    (b : PySem.W.subIn K (.ref C) (.type "BaseException") = some true) (t : PySem.W.typeIn K (.ref C) = some (.type "type")) (r : PySem.W.subIn K (.ref C) (.ref B) = some true)
    (e1 : PySem.W.findIn K (.ref C) "__getattribute__" = some (some (.builtin "BaseException.__getattribute__"))) (e2 : PySem.W.findIn K (.ref C) "__getattr__" = some none) (e3 : PySem.W.hasDictIn K C = true)
    (e4 : PySem.W.findIn K (.ref C) "__class__" = some (some (.builtin "object.__class__"))) (e5 : PySem.W.specialIn K (.builtin "object.__class__") "__get__" = some (some (.builtin "getset_descriptor.__get__")))
    (e6 : PySem.W.takesIn K (.builtin "object.__class__") = some true) (e7 : PySem.W.mroIn K C (.type "object") = some true) (n : ExcT K mg x R.C → A) : A := by
  rw [← eR] at r
  obtain ⟨D⟩ := excT_of X G a q k b t r e1 e2 e3 e4 e5 e6 e7
  exact n D
theorem def_use {x : Str} {st : Stmt} {f : Addr} {od an : Option Addr} {sl : Array (Option Value)} {oc kV dc pm cd ct : Value} (X : K.In h) (G : h.Ns mainGlobals mg)
    (a : PySem.W.nsIn K mainGlobals x = some (some (.ref f))) (l : K.lookup f = some ⟨oc, od, .func (PySem.W.fnOf x x (defArgs st) (defBody st) (defScope st) .none kV dc pm an cd ct), sl⟩) (c : PySem.W.codeIn K cd x = true) (k : PySem.W.keepIn K (.ref f) = true)
    (n : DefT K mg x st → A) : A := by
  obtain ⟨D⟩ := defT_of X G a l c k
  exact n D
theorem lam_use {x : Str} {st : Stmt} {f c Pt : Addr} {od an : Option Addr} {sl : Array (Option Value)} {oc kV dc pm ct : Value} (X : K.In h) (G : h.Ns mainGlobals mg) (T : DefT K mg x st) (t : h.get? Pt = some { cls := .none, data := .fields #[] })
    (a : PySem.W.nsIn K mainGlobals x = some (some (.ref f))) (l : K.lookup f = some ⟨oc, od, .func (PySem.W.fnOf x x (defArgs st) (defBody st) (defScope st) .none kV dc pm an (.ref c) ct), sl⟩) (cc : PySem.W.codeIn K (.ref c) x = true)
    (hk : K.lookup Pt = none) (hc : PySem.W.codeHdIn K c Pt = true) (n : LamT K x st T.a T.d c Pt → K.lookup Pt = none → PySem.W.CodeHd h c Pt → A) : A := n (lamT_of X G T a l cc) hk (PySem.W.codeHd_of_K X hc)
end
end K47
namespace K47
open PySem PySem.Spec PyProof.Rows L2 PySem.W LamX KA KW KU
open PySem.HandSPX (refsVE)
theorem say_none {P : Program} {w : World} {fI cda cc : Addr} {qual f z : Str} {j : Nat} {pc pn pf pj : Pos} (hd : f ≠ "__debug__") (h1 : z.length ≤ sizeLine) (h2 : (z ++ ("None" : Str)).length ≤ sizeLine) :
    Text P w fI cda cc qual f (.JoinedStr [.Constant (.str z) j pc, .FormattedValue (.Name f pn) (-1) none pf] pj) .none :=
  text_of hd (fun _ _ _ _ k => wpAny_formatField_none (k _ _)) h1 h2
theorem say_len {z : Str} {i : Int} (hz : z.length ≤ 1000) (hi : i.natAbs ≤ 1000000) : (z ++ (toString i : String)).length ≤ sizeLine := by
  have h : (PyData.shown (.int i)).length ≤ 13 := PyData.shown_int_le (Nat.lt_of_le_of_lt hi (by decide))
  have e : (z ++ ((toString i : String) : Str)).length = z.length + (Str.ofString (toString i)).length := Array.size_append
  have h2 : (Str.ofString (toString i)).length ≤ 13 := h
  rw [e]
  exact Nat.le_trans (show _ ≤ 1013 by omega) (by decide)
theorem say_log {i : Int} (hi : i.natAbs ≤ 1000000) : i.natAbs.log2 < 1920 := by
  rcases Nat.eq_zero_or_pos i.natAbs with z | z
  · rw [z]
    decide
  · exact Nat.lt_of_lt_of_le ((Nat.log2_lt (by omega)).mpr (Nat.lt_of_le_of_lt hi (by decide : 1000000 < 2 ^ 20))) (by decide)
section
variable {P : Program} {w : World} {K : PySem.W.Frag} {mg : Str → Option Value} {h : Heap} {A : Prop}
theorem badweb_use {C fI cda cc B : Addr} {e : Expr} (X : K.In h) (G : h.Ns mainGlobals mg) (R : ReelT K mg) (eR : R.C = B)
    (a : PySem.W.nsIn K mainGlobals "BadWeb" = some (some (.ref C))) (iC : PySem.W.findIn K (.ref C) "__init__" = some (some (.ref fI)))
    {oc : Value} {od : Option Addr} {doc pm : Value} {an : Option Addr} {ct : Value} {osl : Array (Option Value)} {r1 r2 p0 p1 p2 p3 pe q1 q2 q3 q4 : Pos}
    (lk : K.lookup fI = some ⟨oc, od, .func (ksFn "__init__" "BadWeb.__init__" (upArgs "at" r1 r2) (upBody "at" e p0 p1 p2 p3 pe q1 q2 q3 q4) (upScope "at") .none .none doc pm an (.ref cda) ct cc), osl⟩)
    (bd : ∀ a b : Value, bindArgs (ksFn "__init__" "BadWeb.__init__" (upArgs "at" r1 r2) (upBody "at" e p0 p1 p2 p3 pe q1 q2 q3 q4) (upScope "at") .none .none doc pm an (.ref cda) ct cc) ⟨[a, b], []⟩ = pure [(PySem.Str.ofString "self", a), (PySem.Str.ofString "at", b)])
    (sw : ∀ L : Addr, swapsWith (.Name "at" q3) (some (.Attribute (.Name "self" q1) "at" q2)) q4.line (ksEnv "BadWeb.__init__" (upScope "at") L fI (.ref cda) cc) = pure false)
    {pl : Sem Bool}
    (cl : ∀ L : Addr, eval (.Call (.Attribute (.Call (.Name "super" p0) [] [] p1) "__init__" p2) [e] [] p3) (ksEnv "BadWeb.__init__" (upScope "at") L fI (.ref cda) cc) = (do
        let o ← attributeBase (.Call (.Name "super" p0) [] [] p1) "__init__" (ksEnv "BadWeb.__init__" (upScope "at") L fI (.ref cda) cc) (eval (.Call (.Name "super" p0) [] [] p1) (ksEnv "BadWeb.__init__" (upScope "at") L fI (.ref cda) cc))
        standAt p2.atName
        let (g, first) ← holding [o] (getMethod o "__init__" pl)
        callWith p3 g first (backTo p3 (starEach [e] (ksEnv "BadWeb.__init__" (upScope "at") L fI (.ref cda) cc))) []))
    (star : ∀ env : Env, starEach [e] env = [(false, eval e env)])
    (sayN : Text P w fI cda cc "BadWeb.__init__" "at" e .none)
    (sayI : ∀ (i : Nat) (t : Tok), i ≤ 1000 → Text P w fI cda cc "BadWeb.__init__" "at" e (.int (i : Int) t))
    (code : PySem.W.codeIn K (.ref cda) "BadWeb.__init__" = true)
    {fcl : Value} {cdd : Option Addr} {vs : Array Value} {ccs : Array (Option Value)} {fl : Str} {tf : Tok}
    (f1 : K.lookup cda = some ⟨fcl, cdd, .fields vs, ccs⟩) (f2 : vs[2]? = some (.str fl tf)) (f3 : ((P.main.file : Str) == fl) = true)
    {ecl : Value} {cld : Option Addr} {csl : Array (Option Value)} (cell : K.lookup cc = some ⟨ecl, cld, .cell (some (.ref C)), csl⟩)
    {cd : ClassData} (c1 : PySem.W.clsIn K C = some cd) (c2 : refsVE cd.mro = true) (c3 : cd.hasDict = true)
    (self : PySem.W.mroIn K C (.ref C) = some true) (noSuper : PySem.W.nsIn K mainGlobals "super" = some none) (top : (P.main.scope.names.lookup ("super" : Str)).isSome = false) (third : PySem.W.nsIn K cStatics "thirdparty.any" = some none)
    (up : PySem.W.ks_superIn K C C "__init__" = some (some (.builtin "ValueError.__init__"))) (val : PySem.W.subIn K (.ref C) (.type "ValueError") = some true)
    (own : PySem.W.excInitIn K C [.type "ValueError", .type "Exception", .type "BaseException", .type "object"] "ValueError.__new__" = true)
    (set_ : PySem.W.findIn K (.ref C) "__setattr__" = some (some (.builtin "object.__setattr__"))) (noF : PySem.W.findIn K (.ref C) "at" = some none)
    {nm q : Str} {N : Addr} {bs bm : List Value} {sn : List Str} {sub : List Value} {ab : Bool} {col : Option Bool} {dd : Option Addr} {k0 k1 k2 k3 k5 : Option Value}
    (o1 : K.lookup C = some (excClassObj nm q C N bs bm true sn sub ab col dd k0 k1 k2 k3 k5 "ValueError.__new__")) (o2 : refsVE bm = true)
    (tC : PySem.W.typeIn K (.ref fI) = some (.type "function")) (ga : PySem.W.findIn K (.ref C) "__getattribute__" = some (some (.builtin "BaseException.__getattribute__"))) (gg : PySem.W.findIn K (.ref C) "__getattr__" = some none)
    (kC : PySem.W.keepIn K (.ref C) = true) (exC : PySem.W.subIn K (.ref C) (.type "BaseException") = some true) (tyC : PySem.W.typeIn K (.ref C) = some (.type "type")) (hdC : PySem.W.hasDictIn K C = true)
    (r : PySem.W.subIn K (.ref C) (.ref B) = some true)
    (e4 : PySem.W.findIn K (.ref C) "__class__" = some (some (.builtin "object.__class__"))) (e5 : PySem.W.specialIn K (.builtin "object.__class__") "__get__" = some (some (.builtin "getset_descriptor.__get__")))
    (e6 : PySem.W.takesIn K (.builtin "object.__class__") = some true) (e7 : PySem.W.mroIn K C (.type "object") = some true)
    (n : BadWebT P w K mg R.C → A) : A := by
  rw [← eR] at r
  exact n { C := C, fI := fI, cda := cda, cc := cc, e := e, g := PySem.W.mg_of X G a, u := { fn := ⟨oc, od, doc, pm, an, ct, osl, r1, r2, p0, p1, p2, p3, pe, q1, q2, q3, q4, lk, bd, sw, pl, cl⟩, star := star, code := code, file := ⟨fcl, cdd, vs, ccs, fl, tf, f1, f2, f3⟩, cell := ⟨ecl, cld, csl, cell⟩, cls := ⟨cd, c1, c2, c3⟩, self := self, noSuper := noSuper, top := top, third := third, up := up, val := val, own := own, «set» := set_, noF := noF, obj := ⟨nm, q, N, bs, bm, sn, sub, ab, col, dd, k0, k1, k2, k3, k5, o1, o2⟩, iC := iC, tC := tC, ga := ga, gg := gg, kC := kC, exC := exC, tyC := tyC, hdC := hdC, nf := by decide }, r := r, x := ⟨ga, gg, exC, hdC, e4, e5, e6, e7⟩, sayN := sayN, sayI := sayI }
end
end K47
open PySem PySem.W PyProof.Rows
set_option maxRecDepth 100000 in
set_option maxHeartbeats 0 in
theorem PySem.Challenge.cw_pricedreels_k47_gains_of_whole_sets_holds : PySem.Challenge.rw_pricedreels_k47_gains_of_whole_sets.Holds := by
  w_on; o_law; k_head; (case hw => w_witness2)
  k_fill
  refine KA.walk_ofG (l := PySem.Challenge.rw_pricedreels_k47_gains_of_whole_sets) (k := 12) (n := 63) (x := "script") (CX := fun w => L2.CX PySem.Challenge.rw_pricedreels_k47_gains_of_whole_sets.prog w) rfl (by decide) rfl ⟨rfl, by decide, by decide⟩ (fun w h Y => km_in_of Y) ?F (fun _ _ _ _ _ z => K47.calm_cx z)
  case F =>
    intro w mg fa h Y KX G hmg
    have tabs := km_tabs_of Y
    have one := tabs _ List.mem_cons_self
    refine' K47.reel_use KX G ?ya ?yb ?yt ?yd ?_
    (case ya => k_is); (case yb => k_is); (case yt => k_is); (case yd => k_is)
    intro R eR
    refine' K47.badweb_use (P := (PySem.Challenge.rw_pricedreels_k47_gains_of_whole_sets).prog) (w := w) KX G R eR ?ya ?yiC ?ylk ?ybd ?ysw ?ycl ?ystar ?ysayN ?ysayI ?ycode ?yf1 ?yf2 ?yf3 ?ycell ?yc1 ?yc2 ?yc3 ?yself ?ynoS ?ytop ?ythird ?yup ?yval ?yown ?yset ?ynoF ?yo1 ?yo2 ?ytC ?yga ?ygg ?ykC ?yexC ?ytyC ?yhdC ?yr ?ye4 ?ye5 ?ye6 ?ye7 ?_
    (case ya => k_is); (case yiC => k_is); (case ylk => k_is)
    (case ybd => intro a b; rfl)
    (case ysw => intro L; rfl)
    (case ycl => intro L; rfl)
    (case ystar => intro env; rfl)
    (case ysayN => exact K47.say_none (by decide) (by decide) (by decide))
    (case ysayI => intro i t hi; exact KU.text_int (by decide) (K47.say_log (by omega)) (by decide) (K47.say_len (by decide) (by omega)))
    (case ycode => k_is)
    (case yf1 => k_is); (case yf2 => rfl); (case yf3 => decide +kernel)
    (case ycell => k_is); (case yc1 => k_is); (case yc2 => decide +kernel); (case yc3 => rfl)
    (case yself => k_is); (case ynoS => k_is); (case ytop => kernel_rfl); (case ythird => k_is)
    (case yup => ks_is); (case yval => k_is); (case yown => kx_is); (case yset => k_is); (case ynoF => k_is)
    (case yo1 => k_is); (case yo2 => decide +kernel)
    (case ytC => k_is); (case yga => k_is); (case ygg => k_is); (case ykC => k_is); (case yexC => k_is); (case ytyC => k_is); (case yhdC => k_is); (case yr => k_is); (case ye4 => k_is); (case ye5 => k_is); (case ye6 => k_is); (case ye7 => k_is)
    intro BW
    refine' K47.exc_use (x := "BadGains") KX G R eR ?ya ?yq ?yk ?yb ?yt ?yr ?ye1 ?ye2 ?ye3 ?ye4 ?ye5 ?ye6 ?ye7 ?_
    (case ya => k_is); (case yq => k_exc); (case yk => k_is); (case yb => k_is); (case yt => k_is); (case yr => k_is); (case ye1 => k_is); (case ye2 => k_is); (case ye3 => k_is); (case ye4 => k_is); (case ye5 => k_is); (case ye6 => k_is); (case ye7 => k_is)
    intro BadGains
    refine' K47.def_use (x := "is_number") (st := K47.s_is_number) KX G ?ya ?yl ?yc ?yk ?_
    (case ya => k_is); (case yl => k_is); (case yc => k_is); (case yk => k_is)
    intro f_is_number
    refine' K47.def_use (x := "is_within") (st := K47.s_is_within) KX G ?ya ?yl ?yc ?yk ?_
    (case ya => k_is); (case yl => k_is); (case yc => k_is); (case yk => k_is)
    intro f_is_within
    refine' K47.def_use (x := "check_web") (st := K47.s_check_web) KX G ?ya ?yl ?yc ?yk ?_
    (case ya => k_is); (case yl => k_is); (case yc => k_is); (case yk => k_is)
    intro f_check_web
    refine' K47.def_use (x := "are_in") (st := K47.s_are_in) KX G ?ya ?yl ?yc ?yk ?_
    (case ya => k_is); (case yl => k_is); (case yc => k_is); (case yk => k_is)
    intro f_are_in
    refine' K47.def_use (x := "is_lot") (st := K47.s_is_lot) KX G ?ya ?yl ?yc ?yk ?_
    (case ya => k_is); (case yl => k_is); (case yc => k_is); (case yk => k_is)
    intro f_is_lot
    refine' K47.def_use (x := "is_whole") (st := K47.s_is_whole) KX G ?ya ?yl ?yc ?yk ?_
    (case ya => k_is); (case yl => k_is); (case yc => k_is); (case yk => k_is)
    intro f_is_whole
    refine' K47.def_use (x := "greatest_gain") (st := K47.s_greatest_gain) KX G ?ya ?yl ?yc ?yk ?_
    (case ya => k_is); (case yl => k_is); (case yc => k_is); (case yk => k_is)
    intro f_greatest_gain
    refine' K47.def_use (x := "best_sets") (st := K47.s_best_sets) KX G ?ya ?yl ?yc ?yk ?_
    (case ya => k_is); (case yl => k_is); (case yc => k_is); (case yk => k_is)
    intro f_best_sets
    refine' K47.def_use (x := "check_gains") (st := K47.s_check_gains) KX G ?ya ?yl ?yc ?yk ?_
    (case ya => k_is); (case yl => k_is); (case yc => k_is); (case yk => k_is)
    intro f_check_gains
    refine' K47.def_use (x := "are_numbers") (st := K47.s_are_numbers) KX G ?ya ?yl ?yc ?yk ?_
    (case ya => k_is); (case yl => k_is); (case yc => k_is); (case yk => k_is)
    intro f_are_numbers
    refine' K47.def_use (x := "whole_sets") (st := K47.s_whole_sets) KX G ?ya ?yl ?yc ?yk ?_
    (case ya => k_is); (case yl => k_is); (case yc => k_is); (case yk => k_is)
    intro f_whole_sets
    refine' K47.def_use (x := "gain_of") (st := K47.s_gain_of) KX G ?ya ?yl ?yc ?yk ?_
    (case ya => k_is); (case yl => k_is); (case yc => k_is); (case yk => k_is)
    intro f_gain_of
    refine' K47.def_use (x := "best_of") (st := K47.s_best_of) KX G ?ya ?yl ?yc ?yk ?_
    (case ya => k_is); (case yl => k_is); (case yc => k_is); (case yk => k_is)
    intro f_best_of
    refine' K47.def_use (x := "_law_begun") (st := K47.s__law_begun) KX G ?ya ?yl ?yc ?yk ?_
    (case ya => k_is); (case yl => k_is); (case yc => k_is); (case yk => k_is)
    intro f__law_begun
    refine' K47.def_use (x := "_law_draw") (st := K47.s__law_draw) KX G ?ya ?yl ?yc ?yk ?_
    (case ya => k_is); (case yl => k_is); (case yc => k_is); (case yk => k_is)
    intro f__law_draw
    refine' K47.def_use (x := "_law_pick") (st := K47.s__law_pick) KX G ?ya ?yl ?yc ?yk ?_
    (case ya => k_is); (case yl => k_is); (case yc => k_is); (case yk => k_is)
    intro f__law_pick
    refine' K47.def_use (x := "_law_mixed") (st := K47.s__law_mixed) KX G ?ya ?yl ?yc ?yk ?_
    (case ya => k_is); (case yl => k_is); (case yc => k_is); (case yk => k_is)
    intro f__law_mixed
    refine' K47.def_use (x := "_law_caught") (st := K47.s__law_caught) KX G ?ya ?yl ?yc ?yk ?_
    (case ya => k_is); (case yl => k_is); (case yc => k_is); (case yk => k_is)
    intro f__law_caught
    refine' K47.def_use (x := "_law_net") (st := K47.s__law_net) KX G ?ya ?yl ?yc ?yk ?_
    (case ya => k_is); (case yl => k_is); (case yc => k_is); (case yk => k_is)
    intro f__law_net
    refine' K47.def_use (x := "_law_is_shut") (st := K47.s__law_is_shut) KX G ?ya ?yl ?yc ?yk ?_
    (case ya => k_is); (case yl => k_is); (case yc => k_is); (case yk => k_is)
    intro f__law_is_shut
    refine' K47.def_use (x := "_law_shut_lots") (st := K47.s__law_shut_lots) KX G ?ya ?yl ?yc ?yk ?_
    (case ya => k_is); (case yl => k_is); (case yc => k_is); (case yk => k_is)
    intro f__law_shut_lots
    refine' K47.def_use (x := "_law_sum") (st := K47.s__law_sum) KX G ?ya ?yl ?yc ?yk ?_
    (case ya => k_is); (case yl => k_is); (case yc => k_is); (case yk => k_is)
    intro f__law_sum
    refine' K47.def_use (x := "_law_best_lots") (st := K47.s__law_best_lots) KX G ?ya ?yl ?yc ?yk ?_
    (case ya => k_is); (case yl => k_is); (case yc => k_is); (case yk => k_is)
    intro f__law_best_lots
    refine' K47.def_use (x := "_law_yields") (st := K47.s__law_yields) KX G ?ya ?yl ?yc ?yk ?_
    (case ya => k_is); (case yl => k_is); (case yc => k_is); (case yk => k_is)
    intro f__law_yields
    refine' K47.def_use (x := "_law_more_right") (st := K47.s__law_more_right) KX G ?ya ?yl ?yc ?yk ?_
    (case ya => k_is); (case yl => k_is); (case yc => k_is); (case yk => k_is)
    intro f__law_more_right
    refine' K47.def_use (x := "_law_refused_right") (st := K47.s__law_refused_right) KX G ?ya ?yl ?yc ?yk ?_
    (case ya => k_is); (case yl => k_is); (case yc => k_is); (case yk => k_is)
    intro f__law_refused_right
    refine' K47.def_use (x := "law") (st := K47.s_law) KX G ?ya ?yl ?yc ?yk ?_
    (case ya => k_is); (case yl => k_is); (case yc => k_is); (case yk => k_is)
    intro f_law
    refine' K47.lam_use KX G f__law_refused_right one ?ya ?yl ?yc ?yh ?yj ?_
    (case ya => k_is); (case yl => k_is); (case yc => k_is); (case yh => kernel_rfl); (case yj => kernel_rfl)
    intro LT noT hd
    have cMOST_FRAMES := K47.cstT_of (x := "MOST_FRAMES") (n := 10) KX G (by k_is)
    have cMOST_GAIN := K47.cstT_of (x := "MOST_GAIN") (n := 9999999999) KX G (by k_is)
    have b_isinstance := PySem.W.mg_none_of (n := "isinstance") KX G (by k_is)
    have b_int := PySem.W.mg_none_of (n := "int") KX G (by k_is)
    have b_bool := PySem.W.mg_none_of (n := "bool") KX G (by k_is)
    have b_len := PySem.W.mg_none_of (n := "len") KX G (by k_is)
    have b_abs := PySem.W.mg_none_of (n := "abs") KX G (by k_is)
    have b_range := PySem.W.mg_none_of (n := "range") KX G (by k_is)
    have b_min := PySem.W.mg_none_of (n := "min") KX G (by k_is)
    have b_max := PySem.W.mg_none_of (n := "max") KX G (by k_is)
    have b_repr := PySem.W.mg_none_of (n := "repr") KX G (by k_is)
    have b_list := PySem.W.mg_none_of (n := "list") KX G (by k_is)
    have b_tuple := PySem.W.mg_none_of (n := "tuple") KX G (by k_is)
    have b_sorted := PySem.W.mg_none_of (n := "sorted") KX G (by k_is)
    have b_set := PySem.W.mg_none_of (n := "set") KX G (by k_is)
    have b_sum := PySem.W.mg_none_of (n := "sum") KX G (by k_is)
    have b_zip := PySem.W.mg_none_of (n := "zip") KX G (by k_is)
    have b_all := PySem.W.mg_none_of (n := "all") KX G (by k_is)
    have b_enumerate := PySem.W.mg_none_of (n := "enumerate") KX G (by k_is)
    have b_ValueError := PySem.W.mg_none_of (n := "ValueError") KX G (by k_is)
    exact K47.law_at (Pt := _) { reel := R, BadGains := BadGains, is_number := f_is_number, is_within := f_is_within, check_web := f_check_web, are_in := f_are_in, is_lot := f_is_lot, is_whole := f_is_whole, greatest_gain := f_greatest_gain, best_sets := f_best_sets, check_gains := f_check_gains, are_numbers := f_are_numbers, whole_sets := f_whole_sets, gain_of := f_gain_of, best_of := f_best_of, _law_begun := f__law_begun, _law_draw := f__law_draw, _law_pick := f__law_pick, _law_mixed := f__law_mixed, _law_caught := f__law_caught, _law_net := f__law_net, _law_is_shut := f__law_is_shut, _law_shut_lots := f__law_shut_lots, _law_sum := f__law_sum, _law_best_lots := f__law_best_lots, _law_yields := f__law_yields, _law_more_right := f__law_more_right, _law_refused_right := f__law_refused_right, law := f_law, cMOST_FRAMES := cMOST_FRAMES, cMOST_GAIN := cMOST_GAIN, b_isinstance := b_isinstance, b_int := b_int, b_bool := b_bool, b_len := b_len, b_abs := b_abs, b_range := b_range, b_min := b_min, b_max := b_max, b_repr := b_repr, b_list := b_list, b_tuple := b_tuple, b_sorted := b_sorted, b_set := b_set, b_sum := b_sum, b_zip := b_zip, b_all := b_all, b_enumerate := b_enumerate, b_ValueError := b_ValueError } BW hmg LT one noT hd
