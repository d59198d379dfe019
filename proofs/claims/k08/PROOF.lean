import PyProof.Rows.All
import Wide.All
import OpenK.AllK
import Wide.FinOn
import PyProof.FString3
import PyProof.StrBlock2
import PyProof.ReprRoads
import KE.KxField
import HandS.ForMost
import HandS.EndTab
import HandS.WordsExc
import HandS.ExcOwn
import HandS.ExcValue
import HandS.ExcIs
import HandS.IsInst
import HandS.StrMore
import HandS.FStr
import HandS.Style
import HandS.Wide
import HandS.WideBits
import HandS.RaiseMore
import HandS.Small
import HandS.Evl
import HandS.Defaults
import KE.KExcSuper
import KE.KExcIs
import PySem.Challenge.RW_pricedreels_k08_books_and_heads
import KE.DataMinMax
import HandS.TupMul
import HandS.TupAny
import PyProof.InstEq
import HandS.OwnEq
import HandS.Zip
import HandS.Walk
import PyProof.Draws
import KE.SortData
import HandS.Sort
import HandS.List
import PyProof.ReprLen
import HandS.DictComp
import HandS.SortInts
import HandS.Conv
import HandS.IntHex
import HandS.RaiseFrom
import HandS.SuiteRaise
import KE.KUnpackStar
import HandS.Dict
import HandS.Finally
import KE.KDictDisplayH
import PyProof.DictTable
import PyProof.DictUpdate
import PyProof.ZipIter
import KE.KTurns
import HandS.Text
import KE.KRevSl
import PyProof.SliceStr2
import HandS.ListEq
import HandS.More
import PyProof.NeKinds
import PyProof.Rows.StrCut
import HandS.MakeKwOnly
import KE.RegKSuper
import KE.KExcLine
set_option Elab.async false
set_option linter.all false
set_option maxRecDepth 100000
set_option maxHeartbeats 4000000
namespace KA
open PySem PySem.Spec PyProof.Rows L2
section
variable {X : Cx}
/-- text * int -/
def rMulS : R2 := fun x y H Q => ∃ (a : Str) (n : Int), x = .str a ∧ y = .int n ∧ 0 ≤ n ∧ n ≤ 1000 ∧ a.length ≤ 1000 ∧ Q (.str (Txt.mul a n)) H
theorem op_mulS : OpR X (binaryOp .Mult) rMulS := by
  intro pins s σ H x y v u Q I rx ry h
  obtain ⟨a, n, rfl, rfl, h0, h1, h2, q⟩ := h
  obtain ⟨t, rfl⟩ := rx
  obtain ⟨t', rfl⟩ := ry
  refine SB.mul ⟨?_, fun hn hz => ?_, fun hn hz => ?_⟩ fun t' k => ⟨.str (Txt.mul a n), H, I.tok _, ⟨_, rfl⟩, q⟩
  · simp
    omega
  · have h3 : (1000 : Int) ≤ (2 ^ 63 - 1) / n := by
      refine Int.le_ediv_of_mul_le (by omega) ?_
      omega
    omega
  · have : a.length * n.toNat ≤ 1000 * 1000 := Nat.mul_le_mul h2 (by omega)
    unfold Builtin.Str.tooLong
    simp
    have e : sizeLine = 16777216 := by rfl
    omega
end
end KA
namespace KA
open PySem PySem.Spec PyProof.Rows L2 PySem.W
/-- the binary digits of a number from 0 on, as a text -/
def binText (n : Nat) : Str := ⟨((Nat.toDigits 2 n).map Char.toNat).toArray⟩
def specB : Str := ⟨#[98]⟩
theorem digits_some (n : Nat) : ∃ d ds, (Nat.toDigits 2 n).map Char.toNat = d :: ds := by
  cases e : (Nat.toDigits 2 n).map Char.toNat with
  | nil =>
    have h := congrArg List.length e
    simp at h
  | cons d ds => exact ⟨d, ds, rfl⟩
theorem meets_b {a : Int} {t : Tok} (h0 : 0 ≤ a) (hl : (binText a.natAbs).length ≤ sizeLine) (u : Tok) :
    Meets (Builtin.«int.__format__» ⟨[.int a t, .str specB u], []⟩) (fun _ R s => ∀ t' k, R (.ok (.ret (.str (binText a.natAbs) t'))) { s with toks := k }) := by
  apply KPc.meets_of
  intro _ _ _ _ _ _ _
  unfold Builtin.«int.__format__»
  refine wpAny_bind (wpAny_of_eq (a := (_, _)) rfl ?_)
  refine wpAny_bind (wpAny_of_eq (a := _) rfl ?_)
  kxf_if
  refine wpAny_bind (wpAny_typeNameOf (T := "str") (typeIs_str _ _ _) (by decide) fun _ => ?_)
  refine wpAny_bind (wpAny_of_eq (a := some _) rfl ?_)
  kxf_if
  kxf_if
  refine wpAny_bind (wpAny_typeNameOfCut_int ?_)
  have hneg : decide (a < 0) = false := decide_eq_false (by omega)
  (repeat kxf_if)
  refine KXf.ret_text (T := binText a.natAbs) ?_ ?_ ?_
  · rw [hneg]
    obtain ⟨d, ds, e⟩ := digits_some a.natAbs
    unfold binText
    rw [e]
    generalize hL : List.map _ _ = L
    have eL : L = d :: ds := hL.symm.trans e
    subst eL
    show ((⟨(List.replicate (((-1 : Int) - ((([] : List Nat).length : Nat) + (([] : List Nat).length : Nat) + (([] : List Nat).length : Nat)) - ((List.replicate ((0 : Int).toNat - (d :: ds).length) 48 ++ (d :: ds)).length : Nat)).toNat) 32 ++ ([] : List Nat) ++ [] ++ List.replicate 0 32 ++ (List.replicate ((0 : Int).toNat - (d :: ds).length) 48 ++ (d :: ds)) ++ [] ++ List.replicate 0 32).toArray⟩ : Str)) = _
    have z1 : (0 : Int).toNat - (d :: ds).length = 0 := by simp
    rw [z1]
    have z2 : ((-1 : Int) - ((([] : List Nat).length : Nat) + (([] : List Nat).length : Nat) + (([] : List Nat).length : Nat)) - ((List.replicate 0 48 ++ (d :: ds)).length : Nat)).toNat = 0 := by
      simp
      omega
    rw [z2]
    simp
  · rw [hneg]
    obtain ⟨d, ds, e⟩ := digits_some a.natAbs
    unfold binText at hl
    rw [e] at hl
    generalize hL : List.map _ _ = L
    have eL : L = d :: ds := hL.symm.trans e
    subst eL
    show (⟨(List.replicate (((-1 : Int) - ((([] : List Nat).length : Nat) + (([] : List Nat).length : Nat) + (([] : List Nat).length : Nat)) - ((List.replicate ((0 : Int).toNat - (d :: ds).length) 48 ++ (d :: ds)).length : Nat)).toNat) 32 ++ ([] : List Nat) ++ [] ++ List.replicate 0 32 ++ (List.replicate ((0 : Int).toNat - (d :: ds).length) 48 ++ (d :: ds)) ++ [] ++ List.replicate 0 32).toArray⟩ : Str).length ≤ _
    have z1 : (0 : Int).toNat - (d :: ds).length = 0 := by simp
    rw [z1]
    have z2 : ((-1 : Int) - ((([] : List Nat).length : Nat) + (([] : List Nat).length : Nat) + (([] : List Nat).length : Nat)) - ((List.replicate 0 48 ++ (d :: ds)).length : Nat)).toNat = 0 := by
      simp
      omega
    rw [z2]
    simpa using hl
  · assumption
end KA
namespace KA
open PySem PySem.Spec PyProof.Rows L2 PySem.W
section
variable {X : Cx}
/-- f'{e:b}', a number from 0 on -/
theorem pe_fmtB {e : Expr} {te : TE} {pos p1 p2 : Pos} {k : Nat} (he : PE X e te) :
    PE X (.FormattedValue e (-1) (some (.JoinedStr [.Constant (.str "b") k p1] p2)) pos) (fun σ H Q => te σ H fun x H1 => ∃ i : Int, x = .int i ∧ 0 ≤ i ∧ (binText i.natAbs).length ≤ sizeLine ∧ Q (.str (binText i.natAbs)) H1) := by
  refine ⟨fun pins s σ H Q I h => ?_⟩
  refine wpAny_FormattedValue_spec (thn (he.run pins s σ H _ I h) fun v s1 hv => ?_)
  obtain ⟨x, H1, I1, r1, i, rfl, h0, hz, q⟩ := hv
  obtain ⟨t, rfl⟩ := r1
  refine wpAny_JoinedStr_one ?_
  refine Calls.Constant_str ⟨("b" : Str), _, rfl, ?_⟩
  exact KXf.field_int (spec' := specB) (by decide +kernel) (by decide) (by decide) (fun u => meets_b h0 hz u) fun t' k => ⟨.str (binText i.natAbs), H1, (I1.tok _).tok _, ⟨_, rfl⟩, q⟩
end
end KA
namespace KA
open PySem PySem.Spec PyProof.Rows L2 PySem.W
/-! ### an exception that was caught, kept as a value -/
/-- an exception of the class cls with the own dict d stands at a -/
def ExV (cls : Value) (d : Option Addr) (a : Addr) : HO := .ext fun h => ∃ oe : Obj, h.get? a = some oe ∧ Zc cls d oe ∧ ∃ vs, oe.data = .fields vs
theorem exV_ok {P : Program} {w : World} {H : Hp} {h : Heap} {a : Addr} {cls : Value} {d : Option Addr} {oe : Obj} {vs : Array Value} (e : h.get? a = some oe) (z : Zc cls d oe) (f : oe.data = .fields vs) :
    ObjOk P w H h a (ExV cls d a) := ⟨⟨oe, e, z, vs, f⟩, ⟨oe, e⟩, fun _ _ ⟨o, q, r⟩ k => ⟨o, k o q, r⟩⟩
section
variable {X : Cx} {pins : List (Addr × Obj)} {σ : L2.St} {H : Hp} {s : Shared}
/-- what was pinned, and did not stand at the entry, is tracked from here on -/
theorem track {a : Addr} {oe : Obj} {φ : Heap → Prop} (J : Inv X ((a, oe) :: pins) σ H s) (ok : X.Ok) (n0 : X.s_0.heap.get? a = none) (np : ∀ p ∈ X.pn ++ pins, p.1 ≠ a)
    (new : ObjOk X.prog X.w (upd H a (.ext φ)) s.heap a (.ext φ)) : Inv X pins σ (upd H a (.ext φ)) s := by
  obtain ⟨ea, na, nL, notF, nc⟩ := J.pin (a, oe) (List.mem_append_right _ List.mem_cons_self)
  have nz : ∀ b u, H b = some u → b ≠ a := fun b u q => ne_of_none q na
  have cut : ∀ p, p ∈ X.pn ++ pins → p ∈ X.pn ++ (a, oe) :: pins := fun p hp => by
    rcases List.mem_append.mp hp with h | h
    · exact List.mem_append_left _ h
    · exact List.mem_append_right _ (List.mem_cons_of_mem _ h)
  have old : ∀ b o, X.s_0.heap.get? b = some o → b ≠ a := fun b o q z => by
    rw [z, n0] at q
    cases q
  have base : Un X.fs X.ex X.H_0 (upd H a (.ext φ)) X.s_0.heap s.heap :=
    { keep := J.base.keep, slot := J.base.slot, there := J.base.there
      free := fun b o q n hx => (upd_ne (old b o q)).trans (J.base.free b o q n hx)
      tups := fun b xs q => (upd_ne (nz b _ (J.base.tups b xs q))).trans (J.base.tups b xs q)
      frzs := fun b o u q => (upd_ne (nz b _ (J.base.frzs b o u q))).trans (J.base.frzs b o u q)
      tbls := fun b ps q => by
        obtain ⟨more, z⟩ := J.base.tbls b ps q
        exact ⟨more, (upd_ne (nz b _ z)).trans z⟩ }
  have apart : ∀ b, b ≠ a → H b = none → upd H a (.ext φ) b = none := fun b hb hn => (upd_ne hb).trans hn
  have ce : ∀ x c, X.env.cells.lookup x = some c → c ≠ a := fun x c q z => by
    obtain ⟨v, o, ho, hd⟩ := J.cell x c q
    rw [z, ea] at ho
    cases ho
    exact nc v hd
  have hk : HOk X.prog X.w (upd H a (.ext φ)) s.heap := fun b o q => by
    by_cases hb : b = a
    · subst hb
      rw [upd_same] at q
      cases q
      exact new
    · rw [upd_ne hb] at q
      exact (J.hok b o q).stay (fun c v _ r => r) (fun c r => (upd_ne (nz c _ r)).trans r) (fun c xs r => (upd_ne (nz c _ r)).trans r)
  have pk : ∀ p ∈ X.pn ++ pins, s.heap.get? p.1 = some p.2 ∧ upd H a (.ext φ) p.1 = none ∧ p.1 ≠ X.env.locals ∧ p.1 ∉ X.fs ∧ ∀ v, p.2.data ≠ .cell v := fun p hp => by
    obtain ⟨e1, e2, e3⟩ := J.pin p (cut p hp)
    exact ⟨e1, apart _ (np p hp) e2, e3⟩
  exact { ok := ok, os := J.os, bare := J.bare, base := base, loc := J.loc, cell := J.cell, free := apart _ (Ne.symm nL) J.free
          freeC := fun x c q => apart _ (ce x c q) (J.freeC x c q), pin := pk, hok := hk, len := J.len }
end
/-- what 'except x as n: m = n' wishes of an exception of the body: it is of the clause's class, and m holds it behind the try (slots: n in i, m in j) -/
def wKeep (K : PySem.W.Frag) (c : Value) (i j len : Nat) (D : Ends) : WX := fun cls d σ H =>
  PySem.W.exmOne K cls c = some true ∧ ∀ a, H a = none → σ.length = len → D.nx ((((σ.set i (some (.ref a))).set j (some (.ref a)))).set i none) (upd H a (ExV cls d a))
section
variable {X : Cx} {x n m : Str} {c : Value} {i j : Nat} {body : List Stmt} {np pm pr pa ph pt : Pos} {tb : WX → TS}
theorem ps_try_keep (hx : X.ex = []) (hs : X.stack = X.env :: X.outer) (hf : X.env.frame = some X.env.locals) (hN : X.N.Nodup) (hi : X.N[i]? = some n) (hj : X.N[j]? = some m) (hln : X.env.kindOf n = some .local) (hlm : X.env.kindOf m = some .local) (hc : Names X x c)
    (hd : (n == ("__debug__" : Str)) = false) (hcd : (n == ("__classdict__" : Str)) = false)
    (hb : ∀ (W : WX) (pn : List (Addr × Obj)) (xe : Value → Shared → Prop), Takes (X.tr pn xe) W → PassesOwn (model X.prog X.w) X.A X.env xe → PSs (X.tr pn xe) body (tb W)) :
    PS X (.Try body [.ExceptHandler (some (.Name x np)) (some n) [.Assign [.Name m pm] (.Name n pr) pa] ph] [] [] pt) (fun D σ H => tb (wKeep X.K c i j X.N.length D) D σ H) := by
  refine ⟨fun pins s σ H D I h => wpAny_Try_except ?_⟩
  have ok := I.ok
  have fr : X.A.frames = some (X.env :: X.outer) := ok.frames.trans (congrArg some hs)
  have ways : ∀ u s', XE (X.tr (X.pn ++ pins) (fun e s₁ => wpAny (model X.prog X.w) X.A (noteFrame e X.env)
      (fun _ s₂ => wpAny (model X.prog X.w) X.A (setFlight e none)
        (fun _ s₃ => wpAny (model X.prog X.w) X.A (handleBy e X.env [.ExceptHandler (some (.Name x np)) (some n) [.Assign [.Name m pm] (.Name n pr) pa] ph]) (SP X pins D) X.xe s₃) X.xe s₂) X.xe s₁)) (wKeep X.K c i j X.N.length D) u s' →
      wpAny (model X.prog X.w) X.A (noteFrame u X.env)
        (fun _ s₂ => wpAny (model X.prog X.w) X.A (setFlight u none)
          (fun _ s₃ => wpAny (model X.prog X.w) X.A (handleBy u X.env [.ExceptHandler (some (.Name x np)) (some n) [.Assign [.Name m pm] (.Name n pr) pa] ph]) (SP X pins D) X.xe s₃) X.xe s₂) X.xe s' := by
    rintro u s' ⟨a, B, sI, pins', σ', H', cls, d, rfl, Jt, nb, up, sky, na, os, ag, hyes, hgo⟩
    have J : Inv X pins σ' H' sI := Jt.ofTry ok
    have nb : ∀ b o, sI.heap.get? b = some o → b ∉ frs X.stack → B.get? b = some o := nb
    have sky : Sky B (X.env :: X.outer) a (Zc cls d) X.env.locals s'.heap := hs ▸ sky
    refine Sky.land Zc.steady fr hf sky fun h3 air3 grow3 => ?_
    have J3 : Inv X pins σ' H' { s' with heap := h3 } := J.landed nb air3.1 (up.trans grow3) os ag
    obtain ⟨o3, v3, e3, z3, f3⟩ := air3.there
    have away : a ∉ frs (X.env :: X.outer) := fun hm => by
      obtain ⟨_, o', e', hnf⟩ := air3.2.2.1.mem hm
      cases e3.symm.trans e'
      exact hnf _ f3
    have nL : a ≠ X.env.locals := fun z => away (List.mem_filterMap.mpr ⟨X.env, List.mem_cons_self, hf.trans (congrArg some z.symm)⟩)
    have notF : a ∉ X.fs := fun hm => by
      obtain ⟨e, inX, q⟩ := List.mem_filterMap.mp hm
      exact away (List.mem_filterMap.mpr ⟨e, List.mem_cons_of_mem _ inX, q⟩)
    have gone : sI.heap.get? a = none := by
      cases q : sI.heap.get? a with
      | none => rfl
      | some o =>
        have z := nb a o q (by rw [hs]; exact away)
        rw [air3.2.1] at z
        cases z
    have n0 : X.s_0.heap.get? a = none := by
      cases q : X.s_0.heap.get? a with
      | none => rfl
      | some o =>
        obtain ⟨o', z⟩ := J.base.there a o q (by rw [hx]; exact fun z => nomatch z)
        rw [gone] at z
        cases z
    have np' : ∀ p ∈ X.pn ++ pins, p.1 ≠ a := fun p hp z => by
      have q := (J.pin p hp).1
      rw [z, gone] at q
      cases q
    have S3 := J3.suite e3 f3 na nL notF
    refine wpAny_handleBy_cons (codeAny_handlers_test ?_) (by intro q; cases q)
    have LT : PySem.W.Looks (model X.prog X.w) h3 (typeOf (.ref a)) cls := fun A Q E s k q => wpAny_typeOf_ref (k _ _ e3) (z3.1.symm ▸ q)
    have LM := PySem.W.exm_one (M := model X.prog X.w) J3.kIn LT hyes
    have named : ∀ {Q E : Value → Shared → Prop}, Q c { s' with heap := h3 } →
        wpAny (model X.prog X.w) (X.A.mark (some (.ref a))) (eval (.Name x np) X.env) Q E { s' with heap := h3 } := fun {Q E} q => by
      obtain ⟨g, gd, gm | ⟨gm, gv, gn⟩⟩ := hc
      · exact ld_glob (X := X.suite a _) S3 g gm q gd
      · exact ld_blt (X := X.suite a _) S3 g gm gv q gn gd
    refine named (LM.here (codeAny_handlers_suite_as ?_))
    refine HandSPX.lands_againZ air3 fun h4 air4 grow4 => ?_
    have J4 : Inv X pins σ' H' { s' with heap := h4 } := J.landed nb air4.1 ((up.trans grow3).trans grow4) os ag
    obtain ⟨o4, v4, e4, z4, f4⟩ := air4.there
    refine store_ok (X := X.suite a ((a, o4) :: (X.pn ++ pins))) (v := .ref a) (J4.suite e4 f4 na nL notF) hN hi (.inl hln) rfl (fun s5 S5 => ?_) (.inr hln)
    have assign : PSs (X.suite a ((a, o4) :: (X.pn ++ pins))) [.Assign [.Name m pm] (.Name n pr) pa] (tAsg (tVar i) (gName j)) :=
      pss_one (ps_set (i := j) hN hj (.inl hlm) (pe_var hi (.inl hln) hd hcd) (hf := .inr hlm))
    have hlt : i < (σ'.set i (some (V.ref a))).length := by
      rw [List.length_set, J.len]
      exact (List.getElem?_eq_some_iff.mp hi).1
    refine wpAny_mono (assign.run [] s5 _ H' { D with nx := fun σ6 H6 => σ6 = (σ'.set i (some (.ref a))).set j (some (.ref a)) ∧ H6 = H', rt := fun _ _ => False, bk := fun _ _ => False, ct := fun _ _ => False } S5
      ⟨.ref a, by rw [List.getElem?_set_self (by simpa using hlt)], rfl, rfl⟩) (fun f s6 q6 => ?_) (fun _ _ z => z.elim)
    cases f with
    | next =>
      obtain ⟨σ6, H6, S6, eσ, eH⟩ := q6
      subst eσ
      subst eH
      have U : Inv X pins _ H6 s6 := S6.unsuite ok
      have P6 := S6.pin (a, o4) (List.mem_append_left _ List.mem_cons_self)
      have pin2 : ∀ p ∈ X.pn ++ (a, o4) :: pins, s6.heap.get? p.1 = some p.2 ∧ H6 p.1 = none ∧ p.1 ≠ X.env.locals ∧ p.1 ∉ X.fs ∧ ∀ v, p.2.data ≠ .cell v := fun p hp => by
        rcases List.mem_append.mp hp with h | h
        · exact U.pin p (List.mem_append_left _ h)
        · rcases List.mem_cons.mp h with e | h
          · rw [e]
            exact P6
          · exact U.pin p (List.mem_append_right _ h)
      have U2 : Inv X ((a, o4) :: pins) _ H6 s6 := { U with pin := pin2 }
      refine gone_ok U2 hN hi hln fun s7 J7 => ?_
      have P7 := (J7.pin (a, o4) (List.mem_append_right _ List.mem_cons_self)).1
      exact ⟨_, _, track J7 ok n0 np' (exV_ok P7 z4 f4), hgo a na J.len⟩
    | brk =>
      obtain ⟨_, _, _, z⟩ := q6
      exact z.elim
    | cont =>
      obtain ⟨_, _, _, z⟩ := q6
      exact z.elim
    | ret u =>
      obtain ⟨_, _, _, _, _, z⟩ := q6
      exact z.elim
  refine wpAny_mono ((hb (wKeep X.K c i j X.N.length D) (X.pn ++ pins) _ ways PassesOwn.looking).run [] s σ H D (I.toTry _) h) (fun f s1 q => ?_) fun _ _ z => z
  cases f with
  | next =>
    obtain ⟨σ1, H1, J1, q1⟩ := q
    exact wpAny_execs_nil ⟨σ1, H1, J1.ofTry ok, q1⟩
  | brk =>
    obtain ⟨σ1, H1, J1, q1⟩ := q
    exact ⟨σ1, H1, J1.ofTry ok, q1⟩
  | cont =>
    obtain ⟨σ1, H1, J1, q1⟩ := q
    exact ⟨σ1, H1, J1.ofTry ok, q1⟩
  | ret u =>
    obtain ⟨v, σ1, H1, J1, r, q1⟩ := q
    exact ⟨v, σ1, H1, J1.ofTry ok, r, q1⟩
end
end KA
namespace KA
open PySem PySem.Spec PyProof.Rows L2 PySem.W
/-- isinstance of an exception that is kept as a value, its class without fields of its own -/
def rIsV (K : PySem.W.Frag) : List V → Hp → VK → Prop := fun xs H Q => ∃ (a D : Addr) (c : V) (cv : Value) (b : Bool), xs = [.ref a, c] ∧ H a = some (ExV (.ref D) none a) ∧ ExcC K D ∧ ClsV c cv ∧ PySem.W.kitOne K (.ref D) cv = some b ∧ Q (.bl b) H
def rIs2 (K : PySem.W.Frag) : List V → Hp → VK → Prop := fun xs H Q => rIsi K xs H Q ∨ rIsV K xs H Q
section
variable {X : Cx}
theorem call_isV : CallR X (.builtin "isinstance") (rIsV X.K) := by
  intro pins s σ H xs us Q I r h
  obtain ⟨a, D, c, cv, b, rfl, ha, C, k, e, q⟩ := h
  obtain ⟨u1, u2, rfl, r1, r2⟩ := vals2 r
  cases k.eq r2
  cases (show u1 = Value.ref a from r1)
  obtain ⟨⟨oe, h1, ⟨z1, z2⟩, vs, z3⟩, _⟩ := I.hok a _ ha
  obtain ⟨oc, od, dt, sl⟩ := oe
  dsimp only at z1 z2 z3
  subst z1 z2 z3
  have J : PySem.W.InstAt s.heap a ⟨.ref D, none, .fields vs, sl⟩ D none := ⟨h1, rfl, rfl, trivial⟩
  exact PySem.W.kia_one (PySem.W.handS_kitx_exc C.hg C.hk C.hs C.hd C.ha C.hn C.ht C.hm) I.kIn J e (fun z => nomatch z) fun tk => ⟨.bl b, H, I.tok tk, rfl, q⟩
theorem call_is2 : CallR X (.builtin "isinstance") (rIs2 X.K) := by
  intro pins s σ H xs us Q I r h
  rcases h with h | h
  · exact call_isi pins s σ H xs us Q I r h
  · exact call_isV pins s σ H xs us Q I r h
/-- repr of data -/
def rRepr (K : PySem.W.Frag) : List V → Hp → VK → Prop := fun xs H Q => ∃ (x : Addr) (d : PyData), xs = [.ref x] ∧ Dp K H (.ref x) d ∧ d.showable = true ∧ d.hasDict = false ∧ d.depth ≤ 60 ∧ d.shown.length ≤ sizeLine ∧ Q (.str d.shown) H
theorem call_repr {k : Nat} (hg : X.A.guards = some []) (hr : Room k X.A) : CallR X (.builtin "repr") (rRepr X.K) := by
  intro pins s σ H xs us Q I r h
  obtain ⟨x, d, rfl, hd, hs, hn, hz, hl, q⟩ := h
  obtain ⟨u1, rfl, r1⟩ := vals1 r
  cases (show u1 = Value.ref x from r1)
  obtain ⟨as, rd⟩ := Dp.reads I d (.ref x) (.ref x) hd rfl
  have hu := hr.un
  refine repr_of_reads' rd hs (fun z => by rw [hn] at z; cases z) hg (by omega) (fun _ _ e => e) (fun h' u tk hk => ?_) hl
  exact ⟨.str d.shown, H, I.kept (t' := tk) hk, ⟨_, rfl⟩, q⟩
end
end KA
namespace KA
open PySem PySem.Spec PyProof.Rows L2 PySem.W LamX
section
variable {X : Cx}
/-- caught: what the lambda raises is kept and handed back, None if it raises nothing -/
def TCaught (K : PySem.W.Frag) (CS : Addr) : (XK → Hp → VK → Prop) → Hp → VK → Prop := fun tl H Q => ∀ Q1 : VK, (∀ v H', Q .non H' → Q1 v H') →
  tl (fun cls d H' => PySem.W.exmOne K cls (.ref CS) = some true ∧ ∀ a, H' a = none → Q (.ref a) (upd H' a (ExV cls d a))) H Q1
theorem caught_gives {a e n m q x : Str} {sg : Scope} {g CS : Addr} {cdg : Value} {j1 : Nat} {p1 p2 p3 p4 p5 p6 p7 p8 p9 pa pb pc pd pe : Pos} (S : FnScope [a, m, n] [a] sg)
    (la : sg.names.lookup a = some .local) (lm : sg.names.lookup m = some .local) (ln : sg.names.lookup n = some .local) (he : sg.names.lookup e = some .globalImplicit) (hme : X.mg e = some (.ref CS)) (hde : (e == ("__debug__" : Str)) = false)
    (d1 : (n == ("__debug__" : Str)) = false) (d2 : (n == ("__classdict__" : Str)) = false) (d3 : (m == ("__debug__" : Str)) = false) (d4 : (m == ("__classdict__" : Str)) = false) :
    GivesTo X [a, m, n] x sg g cdg
      [.Assign [.Name m p1] (.Constant .none j1 p2) p3,
       .Try [.Expr (.Call (.Name a p4) [] [] p5) p6] [.ExceptHandler (some (.Name e p7)) (some n) [.Assign [.Name m p8] (.Name n p9) pa] pb] [] [] pc,
       .Return (some (.Name m pd)) pe] a q (TCaught X.K CS) := by
  intro f c' s H Q tl act hc h
  have hgl : Gl (cxOf C8.CX0 X.prog X.w X.K X.mg X.base [a, m, n] x sg g cdg X.A X.stack s H C8.E0).nox e := he
  refine ⟨_, pss_cons (ps_set (i := 1) S.nd rfl (.inl lm) pe_non) (pss_cons (ps_try_keep (X := (cxOf C8.CX0 X.prog X.w X.K X.mg X.base [a, m, n] x sg g cdg X.A X.stack s H C8.E0).nox) (c := .ref CS) (i := 2) (j := 1)
      (tb := fun W D σ H => ∃ Eb : XK, (∀ cls d σ' H', Eb cls d H' → W cls d σ' H') ∧ σ[0]? = some (some (.ref f)) ∧ H c' = some (CodeO c' q) ∧ tl Eb H (fun _ H' => D.nx σ H'))
      rfl rfl rfl S.nd rfl rfl ln lm ⟨hgl, hde, .inl hme⟩ d1 d2 (fun W pn xe tk _ => ?_))
    (pss_one (ps_ret (pe_var (i := 1) rfl (.inl lm) d3 d4)))), ?_⟩
  · refine ⟨fun pins s' σ H' D I h' => ?_⟩
    obtain ⟨Eb, wish, h1, h2, h3⟩ := h'
    exact (pss_one (ps_expr (act W pn xe Eb p4 p5 tk wish))).run pins s' σ H' D I ⟨h1, h2, h3⟩
  · refine ⟨fun cls d H' => PySem.W.exmOne X.K cls (.ref CS) = some true ∧ ∀ a, H' a = none → Q (.ref a) (upd H' a (ExV cls d a)), fun cls d σ' H' ⟨e1, e2⟩ => ⟨e1, fun b hb hl => ?_⟩, rfl, hc, ?_⟩
    · match σ', hl with
      | [u, v, w], _ => exact ⟨_, rfl, e2 b hb⟩
    · exact h _ fun v H' z => ⟨_, rfl, z⟩
end
end KA
namespace KA
open PySem PySem.Spec PyProof.Rows L2 PySem.W LamX
/-! ### what the top has written, by name -/
/-- a def of the top -/
structure DefT (K : PySem.W.Frag) (mg : Str → Option Value) (x : Str) (st : Stmt) where
  a : Addr
  d : FuncData
  f : Fun K x x st a d
  m : mg x = some (.ref a)
abbrev veB : List Value := [.type "ValueError", .type "Exception", .type "BaseException", .type "object"]
/-- an exception class of the top over ReelError at R, without an __init__ of its own -/
structure ExcT (K : PySem.W.Frag) (mg : Str → Option Value) (x : Str) (R : Addr) where
  C : Addr
  g : mg x = some (.ref C)
  q : PySem.W.excIn K C veB "ValueError.__new__" = true
  k : PySem.W.keepIn K (.ref C) = true
  b : PySem.W.subIn K (.ref C) (.type "BaseException") = some true
  t : PySem.W.typeIn K (.ref C) = some (.type "type")
  r : PySem.W.subIn K (.ref C) (.ref R) = some true
  e : ExcC K C
/-- ReelError -/
structure ReelT (K : PySem.W.Frag) (mg : Str → Option Value) where
  C : Addr
  g : mg "ReelError" = some (.ref C)
  b : PySem.W.subIn K (.ref C) (.type "BaseException") = some true
  t : PySem.W.typeIn K (.ref C) = some (.type "type")
  d : PySem.W.hasDictIn K C = true
theorem ExcT.exm {K : PySem.W.Frag} {mg : Str → Option Value} {x : Str} (R : ReelT K mg) (T : ExcT K mg x R.C) : PySem.W.exmOne K (.ref T.C) (.ref R.C) = some true := PySem.W.exm_ref R.b R.d R.t T.r
/-- an int constant of the top -/
def CstT (mg : Str → Option Value) (x : Str) (n : Int) : Prop := ∃ t, mg x = some (.int n t)
abbrev C1 := L2.CX
theorem passE {X : Cx} : Passes (L2.CX X.prog X.w) X E0 := passL
section
variable {X : Cx} {E : XK}
/-- raise C('..') in a def that lets it out -/
theorem ps_raiseT {K : PySem.W.Frag} {mg : Str → Option Value} {x : Str} {R : Addr} {pos p1 p2 pc : Pos} {j : Nat} {m : Str} (hK : X.K = K) (hM : X.mg = mg) (T : ExcT K mg x R) (hg : Gl X x) (hc : X.calm = true) {W : WX} (tk : Takes X W)
    (hdb : (x == ("__debug__" : Str)) = false := by decide) :
    PS X (.Raise (some (.Call (.Name x p1) [.Constant (.str m) j pc] [] p2)) none pos) (fun _ σ H => W (.ref T.C) none σ H) := by
  subst hK
  subst hM
  exact ps_raise hc tk (pmk_own PySem.F.excBase_ValueError T.q T.g T.k (raises_own T.b T.t) hg hdb)
end
end KA
namespace KA
open PySem PySem.Spec PyProof.Rows L2 PySem.W LamX
/-! ### the law's own draws: their state -/
abbrev kLarge : Key := Sum.inr "large"
abbrev kCells : Key := Sum.inr "cells"
abbrev kLeft : Key := Sum.inr "left"
abbrev kTurn : Key := Sum.inr "turn"
def stKv (lg cl : Addr) (left turn : Int) : List (Key × V) := [(kLarge, .ref lg), (kCells, .ref cl), (kLeft, .int left), (kTurn, .int turn)]
section
variable {lg cl : Addr} {left turn : Int}
theorem k12 : ¬ kLarge = kCells := by decide +kernel
theorem k13 : ¬ kLarge = kLeft := by decide +kernel
theorem k14 : ¬ kLarge = kTurn := by decide +kernel
theorem k23 : ¬ kCells = kLeft := by decide +kernel
theorem k24 : ¬ kCells = kTurn := by decide +kernel
theorem k34 : ¬ kLeft = kTurn := by decide +kernel
theorem st_large : valV (stKv lg cl left turn) kLarge = some (.ref lg) := valV_pos rfl
theorem st_cells : valV (stKv lg cl left turn) kCells = some (.ref cl) := (valV_neg k12).trans (valV_pos rfl)
theorem st_left : valV (stKv lg cl left turn) kLeft = some (.int left) := (valV_neg k13).trans ((valV_neg k23).trans (valV_pos rfl))
theorem st_turn : valV (stKv lg cl left turn) kTurn = some (.int turn) := (valV_neg k14).trans ((valV_neg k24).trans ((valV_neg k34).trans (valV_pos rfl)))
theorem st_put_left (l : Int) : putK (stKv lg cl left turn) kLeft (.int l) = stKv lg cl l turn := by
  unfold putK
  rw [valV_any, st_left, Option.isSome_some, if_pos rfl]
  simp only [stKv, List.map_cons, List.map_nil, if_neg k13, if_neg k23, if_neg (Ne.symm k34), if_true]
theorem st_put_turn (t : Int) : putK (stKv lg cl left turn) kTurn (.int t) = stKv lg cl left t := by
  unfold putK
  rw [valV_any, st_turn, Option.isSome_some, if_pos rfl]
  simp only [stKv, List.map_cons, List.map_nil, if_neg k14, if_neg k24, if_neg k34, if_true]
end
/-- the state stands at st: the numbers that are left to draw from at lg, the script's at cl -/
structure StD (H : Hp) (st lg cl : Addr) (large cells : List Int) (left : Int) (turn : Nat) : Prop where
  d : H st = some (.dK (stKv lg cl left turn))
  l : H lg = some (.lst (large.map V.int))
  c : H cl = some (.lst (cells.map V.int))
  ne : lg ≠ cl
  pl : ∀ x ∈ large, 0 ≤ x
  p0 : 0 ≤ left
def StAt (H : Hp) (st lg cl : Addr) (n : Nat) : Prop := ∃ large cells left turn, StD H st lg cl large cells left turn ∧ turn ≤ n
/-- all but the state stands as it stood -/
def Kp (st lg : Addr) (H H' : Hp) : Prop := ∀ b o, H b = some o → b ≠ st → b ≠ lg → H' b = some o
theorem Kp.refl {st lg : Addr} {H : Hp} : Kp st lg H H := fun _ _ h _ _ => h
theorem Kp.trans {st lg : Addr} {H H1 H2 : Hp} (a : Kp st lg H H1) (b : Kp st lg H1 H2) : Kp st lg H H2 := fun c o h n1 n2 => b c o (a c o h n1 n2) n1 n2
theorem Kp.same {st lg : Addr} {H H1 : Hp} (a : Same H H1) : Kp st lg H H1 := fun c o h _ _ => a c o h
theorem Same.new {H : Hp} {p : Addr} {o : HO} (h : H p = none) : Same H (upd H p o) := fun b u e => by
  rw [upd_ne (ne_of_none e h)]
  exact e
theorem StD.same {H H' : Hp} {st lg cl : Addr} {large cells : List Int} {left : Int} {turn : Nat} (S : StD H st lg cl large cells left turn) (e : Same H H') : StD H' st lg cl large cells left turn :=
  { S with d := e _ _ S.d, l := e _ _ S.l, c := e _ _ S.c }
theorem StAt.same {H H' : Hp} {st lg cl : Addr} {n : Nat} (S : StAt H st lg cl n) (e : Same H H') : StAt H' st lg cl n := by
  obtain ⟨a, b, c, d, s, h⟩ := S
  exact ⟨a, b, c, d, s.same e, h⟩
theorem StAt.mono {H : Hp} {st lg cl : Addr} {n m : Nat} (S : StAt H st lg cl n) (h : n ≤ m) : StAt H st lg cl m := by
  obtain ⟨a, b, c, d, s, h'⟩ := S
  exact ⟨a, b, c, d, s, Nat.le_trans h' h⟩
theorem StD.st_lg {H : Hp} {st lg cl : Addr} {large cells : List Int} {left : Int} {turn : Nat} (S : StD H st lg cl large cells left turn) : st ≠ lg := ne_of S.d S.l (by intro z; cases z)
theorem StD.st_cl {H : Hp} {st lg cl : Addr} {large cells : List Int} {left : Int} {turn : Nat} (S : StD H st lg cl large cells left turn) : st ≠ cl := ne_of S.d S.c (by intro z; cases z)
/-- the state's dict is written -/
theorem StD.put {H : Hp} {st lg cl : Addr} {large cells : List Int} {left l : Int} {turn t : Nat} (S : StD H st lg cl large cells left turn) (h : 0 ≤ l) : StD (upd H st (.dK (stKv lg cl l t))) st lg cl large cells l t :=
  { d := upd_same, l := (upd_ne S.st_lg.symm).trans S.l, c := (upd_ne S.st_cl.symm).trans S.c, ne := S.ne, pl := S.pl, p0 := h }
theorem Kp.put {st lg : Addr} {H : Hp} {o : HO} : Kp st lg H (upd H st o) := fun b u e n _ => (upd_ne n).trans e
theorem Kp.put2 {st lg : Addr} {H : Hp} {o : HO} : Kp st lg H (upd H lg o) := fun b u e _ n => (upd_ne n).trans e
theorem dp_ints {K : PySem.W.Frag} {H : Hp} : ∀ ns : List Int, DpAll K H (ns.map V.int) (ns.map PyData.int)
  | [] => .nil
  | n :: r => .cons (.int n) (dp_ints r)
theorem dp_int_list {K : PySem.W.Frag} {H : Hp} {a : Addr} {ns : List Int} (h : H a = some (.lst (ns.map V.int))) : Dp K H (.ref a) (.list (ns.map PyData.int)) := .lst (SqL.of h) (dp_ints ns)
theorem dp_nil {K : PySem.W.Frag} {H : Hp} {a : Addr} (h : H a = some (.lst [])) : Dp K H (.ref a) (.list []) := .lst (SqL.of h) .nil
theorem lay_is : ∀ ns : List Int, PyData.canLayAll0 (ns.map PyData.int) = true ∧ PyData.depthAll (ns.map PyData.int) = 0
  | [] => ⟨rfl, rfl⟩
  | n :: r => by
    obtain ⟨h1, h2⟩ := lay_is r
    exact ⟨by simp [PyData.canLayAll0, PyData.canLay0, h1], by simp [PyData.depthAll, PyData.depth, h2]⟩
theorem shaped_is (ns : List Int) : SeqAt.shaped (.list (ns.map PyData.int)) = true := by
  obtain ⟨h1, h2⟩ := lay_is ns
  simp [SeqAt.shaped, PyData.canLay0, PyData.depth, h1, h2]
theorem shaped_nil : SeqAt.shaped (.list []) = true := shaped_is []
theorem eqv_ints_nil (ns : List Int) : PyData.eqv (.list (ns.map PyData.int)) (.list []) = ns.isEmpty := by
  cases ns <;> rfl
theorem st_merge (lg cl : Addr) (left turn : Int) : mergeK [] (stKv lg cl left turn) = stKv lg cl left turn := by
  unfold stKv mergeK
  simp only [List.foldl_cons, List.foldl_nil]
  rw [putK_new (kvs := []) _ valV_nil, List.nil_append]
  rw [putK_new (k := kCells) _ ((valV_neg (show ¬ kLarge = kCells from k12)).trans valV_nil), List.cons_append, List.nil_append]
  rw [putK_new (k := kLeft) _ ((valV_neg (show ¬ kLarge = kLeft from k13)).trans ((valV_neg (show ¬ kCells = kLeft from k23)).trans valV_nil)), List.cons_append, List.cons_append, List.nil_append]
  rw [putK_new (k := kTurn) _ ((valV_neg (show ¬ kLarge = kTurn from k14)).trans ((valV_neg (show ¬ kCells = kTurn from k24)).trans ((valV_neg (show ¬ kLeft = kTurn from k34)).trans valV_nil)))]
  rfl
theorem take_map_snoc {α β : Type} (f : α → β) (l : List α) (i : Nat) (x : α) (h : l[i]? = some x) : (l.take (i + 1)).map f = (l.take i).map f ++ [f x] := by
  rw [List.take_add_one, h]
  simp
theorem StAt.off {H : Hp} {st lg cl p : Addr} {n : Nat} (S : StAt H st lg cl n) (hp : H p = none) : p ≠ st ∧ p ≠ lg := by
  obtain ⟨_, _, _, _, S', _⟩ := S
  exact ⟨(ne_of_none S'.d hp).symm, (ne_of_none S'.l hp).symm⟩
end KA
namespace KA
open PySem PySem.Spec PyProof.Rows L2 PySem.W LamX
/-! ### calls by names alone; defs whose frame must know that no repr is running -/
section
variable {X : Cx} {CX : CXT} {k : Nat} {f : Addr} {fd : FuncData} {ps ks : List Str} {sp : Sp} {E : XK} {x : Str} {p pos : Pos} {kws : List Keyword} {tk : TA} {g : List Value → List Value → List Value} {gV : List V → List V → List V}
def tKw (m : Nat) (sp : Sp) (gV : List V → List V → List V) (E : XK) (tk : TA) : TE := fun σ H Q => tk σ H fun zs H2 => zs.length = m ∧ sp (gV [] zs) H2 Q E
/-- f(k = v, ..) -/
theorem pe_kw (F : FnOk X.prog X.w X.K X.mg X.base CX k f fd ps sp) (hr : Room k X.A) (hg : Gl X x) (hm : X.mg x = some (.ref f)) (hk : PySem.W.keepIn X.K (.ref f) = true) (hb : KBn X.K fd ps 0 ks g gV) (hx : Passes CX X E) (hkw : PK X kws tk)
    (named : (backToKw pos (keywordEach kws X.env)).all (·.1.isSome) = true := by rfl) (theirs : (backToKw pos (keywordEach kws X.env)).filterMap (·.1) = ks := by rfl) (hdb : (x == ("__debug__" : Str)) = false := by decide)
    (noStars : ((backTo pos (starEach [] X.env)).any (·.1) || (backToKw pos (keywordEach kws X.env)).any (·.1.isNone)) = false := by rfl) :
    PE X (.Call (.Name x p) [] kws pos) (tKw ks.length sp gV E tk) :=
  ⟨fun pins s σ H Q I h => wpAny_Call_Name_kw (ld_glob I hg hm (PySem.W.callWith_KW0 (h₀ := X.base) I.ok.mod.kin hk named (thn (hkw.run pos pins s σ H _ I h) fun ws s2 hw => by
    obtain ⟨zs, H2, I2, rz, l2, q2⟩ := hw
    refine ⟨I2.kIn, ?_⟩
    rw [theirs]
    exact run_fnN F hr hb hx I2 .nil rz rfl l2 q2) noStars) hdb)⟩
end
section
variable {K : PySem.W.Frag} {x qual : Str} {st : Stmt} {f : Addr} {fd : FuncData} {ps ks : List Str}
/-- one parameter, by its name -/
theorem Fun.kw1 {a : Str} (F : Fun K x qual st f fd) (h : ∀ (kV doc pm : Value) (an : Option Addr) (cdv ct u : Value), bindArgs (PySem.W.fnOf x qual (defArgs st) (defBody st) (defScope st) .none kV doc pm an cdv ct) ⟨[], [(a, u)]⟩ = pure [(a, u)]) :
    KBn K fd [a] 0 [a] (fun _ ws => ws) (fun _ zs => zs) := by
  obtain ⟨oc, od, kV, doc, pm, an, cdv, ct, osl, rfl, lk, hcd⟩ := F.ex
  refine ⟨fun s us ws X l1 l2 => ?_, fun _ r => r⟩
  match us, ws, l1, l2 with
  | [], [u], _, _ => exact .of_eq (h kV doc pm an cdv ct u)
/-- two parameters a, b, called as f(b = .., a = ..) -/
theorem Fun.kw2 {a b : Str} (F : Fun K x qual st f fd) (h : ∀ (kV doc pm : Value) (an : Option Addr) (cdv ct u v : Value), bindArgs (PySem.W.fnOf x qual (defArgs st) (defBody st) (defScope st) .none kV doc pm an cdv ct) ⟨[], [(b, u), (a, v)]⟩ = pure [(a, v), (b, u)]) :
    KBn K fd [a, b] 0 [b, a] (fun _ ws => ws.reverse) (fun _ zs => zs.reverse) := by
  obtain ⟨oc, od, kV, doc, pm, an, cdv, ct, osl, rfl, lk, hcd⟩ := F.ex
  refine ⟨fun s us ws X l1 l2 => ?_, fun {_ _ zs ws} _ r => ?_⟩
  · match us, ws, l1, l2 with
    | [], [u, v], _, _ => exact .of_eq (h kV doc pm an cdv ct u v)
  · clear h
    have rev : ∀ {zs : List V} {ws : List Value}, Vals zs ws → Vals zs.reverse ws.reverse := fun {zs ws} r => by
      induction r with
      | nil => exact .nil
      | cons h _ ih =>
        rw [List.reverse_cons, List.reverse_cons]
        exact ih.append (.cons h .nil)
    exact rev r
end
end KA
namespace KA
open PySem PySem.Spec PyProof.Rows L2 PySem.W LamX
/-- as FnOk, where no repr is running around the call -/
structure FnG (P : Program) (w : World) (K : PySem.W.Frag) (mg : Str → Option Value) (base : Heap) (CX : CXT) (k : Nat) (f : Addr) (fd : FuncData) (ps : List Str) (sp : Sp) : Prop where
  len : ∀ vs H Q E, sp vs H Q E → vs.length = ps.length
  run : ∀ (A : Around) (outer : List Env) (s : Shared) (H : Hp) (args : Args) (us : List Value) (vs : List V) (Q : VK) (E : XK), Room k A → A.guards = some [] →
    Env0 P w K mg base A outer s H → BindsTo s fd args (ps.zip us) → Vals vs us → sp vs H Q E → codeAny (model P w) A (.call (.ref f) args) (CR CX outer P w H s Q E) s
theorem fnG_of {CX : CXT} {P : Program} {w : World} {K : PySem.W.Frag} {mg : Str → Option Value} {base : Heap} {k : Nat} {f : Addr} {x qual : Str} {st : Stmt} {fd : FuncData} {N ps : List Str} {sp : Sp} (F : Fun K x qual st f fd) (S : FnScope N ps (defScope st))
    (len : ∀ vs H Q E, sp vs H Q E → vs.length = ps.length)
    (hbody : ∀ (cdv : Value) (A : Around) (outer : List Env) (s : Shared) (H : Hp) (vs : List V) (Q : VK) (E : XK), Room k (A.deeper (envOfC qual (defScope st) s.heap.objs.size f cdv)) → A.guards = some [] → sp vs H Q E →
      ∃ t, PSs (cxOf CX P w K mg base N qual (defScope st) f cdv A outer s H E) (defBody st) t ∧ t { nx := fun _ H' => Q .non H', rt := Q } (L2.start N vs) H) : FnG P w K mg base CX (k + 1) f fd ps sp := by
  obtain ⟨oc, od, kV, doc, pm, an, cdv, ct, osl, rfl, lk, hcd⟩ := F.ex
  exact ⟨len, fun A outer s H args us vs Q E hr hg e0 hb r h => run_ofS lk hcd S hr e0 hb r (len _ _ _ _ h) fun hr' => hbody cdv A outer s H vs Q E hr' hg h⟩
/-- what stands around the law's call: the script at a, the tables of cs (each a code object and its table) empty -/
structure Law (h : Heap) (mg mb : Str → Option Value) (K : PySem.W.Frag) (cs : List (Addr × Addr)) (a : Addr) (vs : List Value) (ns : List Int) : Prop where
  kx : K.In h
  nsM : h.Ns mainGlobals mg
  bn : h.Ns builtinsNs mb
  bb : ∀ x : Str, x ≠ "__name__" → mb x = bootBuiltins x
  lim : h.NoLimit
  tab : ∀ p ∈ cs, h.get? p.2 = some { cls := .none, data := .fields #[] }
  notab : ∀ p ∈ cs, K.lookup p.2 = none
  code : ∀ p ∈ cs, PySem.W.CodeHd h p.1 p.2
  bm : ∃ (bm : Addr) (ob : Obj), mg "__builtins__" = some (.ref bm) ∧ bm ≠ builtinsNs ∧ h.get? bm = some ob ∧ ob.cls = .type "module" ∧ ob.dict = some builtinsNs ∧ ob.data = .plain
  at_ : h.get? a = some { cls := .type "list", data := .seq vs.toArray }
  isI : IntsAre vs ns
  len : ns.length ≤ sizeLine
/-- the abstract heap at the law's call -/
def lawH (K : PySem.W.Frag) (cs : List (Addr × Addr)) (a : Addr) (vs : List Value) (ns : List Int) : Hp := fun b =>
  if b = a ∧ K.lookup a = none then some (.frz { cls := .type "list", data := .seq vs.toArray } (.lst (ns.map V.int)))
  else if b ∈ cs.map (·.2) then some (.tbl #[]) else none
section
variable {P : Program} {w : World} {K : PySem.W.Frag} {mg mb : Str → Option Value} {h : Heap} {cs : List (Addr × Addr)} {a : Addr} {vs : List Value} {ns : List Int}
theorem Law.tabAt (L : Law h mg mb K cs a vs ns) {b : Addr} (hb : b ∈ cs.map (·.2)) : h.get? b = some { cls := .none, data := .fields #[] } ∧ K.lookup b = none := by
  obtain ⟨p, hp, rfl⟩ := List.mem_map.mp hb
  exact ⟨L.tab p hp, L.notab p hp⟩
theorem Law.ne (L : Law h mg mb K cs a vs ns) {b : Addr} (hb : b ∈ cs.map (·.2)) : b ≠ a := fun z => by
  have q := (L.tabAt hb).1
  rw [z, L.at_] at q
  cases q
/-- what is tracked: the script, or a table -/
theorem Law.cases (L : Law h mg mb K cs a vs ns) {b : Addr} {u : HO} (e : lawH K cs a vs ns b = some u) :
    (b = a ∧ K.lookup a = none ∧ u = .frz { cls := .type "list", data := .seq vs.toArray } (.lst (ns.map V.int))) ∨ (b ∈ cs.map (·.2) ∧ u = .tbl #[]) := by
  unfold lawH at e
  split at e
  · rename_i c
    exact .inl ⟨c.1, c.2, (Option.some.inj e).symm⟩
  · split at e
    · rename_i c
      exact .inr ⟨c, (Option.some.inj e).symm⟩
    · cases e
theorem Law.tbl (L : Law h mg mb K cs a vs ns) {b : Addr} (hb : b ∈ cs.map (·.2)) : lawH K cs a vs ns b = some (.tbl #[]) := by
  unfold lawH
  rw [if_neg (fun z => L.ne hb z.1), if_pos hb]
theorem Law.seq (L : Law h mg mb K cs a vs ns) : SqL K (lawH K cs a vs ns) a (ns.map V.int) := by
  cases q : K.lookup a with
  | none => exact .inl (.inr ⟨_, by unfold lawH; rw [if_pos ⟨rfl, q⟩]⟩)
  | some o =>
    have e := L.kx a o q
    rw [L.at_] at e
    cases e
    exact .inr ⟨_, vs.toArray, _, q, rfl, rfl, rfl, by rw [List.size_toArray, L.isI.length]; exact L.len, by simpa using vals_ints L.isI⟩
theorem Law.hok (L : Law h mg mb K cs a vs ns) : HOk P w (lawH K cs a vs ns) h := fun b u e => by
  rcases L.cases e with ⟨rfl, _, rfl⟩ | ⟨hb, rfl⟩
  · exact ⟨L.at_, by rw [List.length_map]; exact L.len, vs, _, vals_ints L.isI, L.at_⟩
  · exact (L.tabAt hb).1
/-- an object that is neither a list nor an empty record is not tracked -/
theorem Law.free (L : Law h mg mb K cs a vs ns) {b : Addr} {o : Obj} (e : h.get? b = some o) (h1 : ∀ vs n, o.data ≠ .seq vs n) (h2 : o.data ≠ .fields #[]) : lawH K cs a vs ns b = none := by
  cases q : lawH K cs a vs ns b with
  | none => rfl
  | some u =>
    rcases L.cases q with ⟨rfl, _⟩ | ⟨hb, _⟩
    · rw [L.at_] at e
      cases e
      exact absurd rfl (h1 _ _)
    · rw [(L.tabAt hb).1] at e
      cases e
      exact absurd rfl h2
theorem Law.nsK (L : Law h mg mb K cs a vs ns) {b : Addr} {m : Str → Option Value} (x : h.Ns b m) : (hidT h (lawH K cs a vs ns)).Ns b m := by
  obtain ⟨o, es, ep, e, d, r⟩ := x
  refine ⟨o, es, ep, hidT_get e (L.free e (fun _ _ z => ?_) fun z => ?_), d, r⟩ <;> (rw [d] at z; cases z)
theorem Law.kin (L : Law h mg mb K cs a vs ns) : K.In (hidT h (lawH K cs a vs ns)) := fun b o e => hidT_get (L.kx b o e) (by
  cases q : lawH K cs a vs ns b with
  | none => rfl
  | some u =>
    rcases L.cases q with ⟨rfl, z, _⟩ | ⟨hb, _⟩
    · rw [z] at e
      cases e
    · rw [(L.tabAt hb).2] at e
      cases e)
theorem Law.mod (L : Law h mg mb K cs a vs ns) : L2.Mod K mg (hidT h (lawH K cs a vs ns)) := by
  obtain ⟨mc, h1, h2⟩ := L.lim
  exact ⟨L.kin, L.nsK L.nsM, ⟨mb, L.nsK L.bn, L.bb⟩, mc, L.nsK h1, h2⟩
theorem Law.main (L : Law h mg mb K cs a vs ns) {b : Addr} {o : Obj} (e : h.get? b = some o) (n : ∀ es ep, o.data ≠ .dict es ep) : b ≠ mainGlobals := fun z => by
  obtain ⟨o', es, ep, e', d, _⟩ := L.nsM
  rw [z, e'] at e
  cases e
  exact n _ _ d
theorem Law.tabs (L : Law h mg mb K cs a vs ns) : ∀ p ∈ cs, TabB (hidT h (lawH K cs a vs ns)) mg p.1 p.2 := fun p hp => by
  have hm : p.2 ∈ cs.map (·.2) := List.mem_map.mpr ⟨p, hp, rfl⟩
  have ht := (L.tabAt hm).1
  refine ⟨?_, ?_, fun z => L.main ht (fun _ _ q => by cases q) z.symm⟩
  · obtain ⟨o, us, file, tf, flags, tg, inF, text, tt, e1, r1, r2, r3, rest⟩ := L.code p hp
    refine ⟨o, us, file, tf, flags, tg, inF, text, tt, hidT_get e1 (L.free e1 (fun _ _ z => ?_) fun z => ?_), r1, r2, r3, rest⟩
    · rw [r2] at z
      cases z
    · rw [r2] at z
      cases z
      simp at r3
  · obtain ⟨bm, ob, b1, b2, b3, b4, b5, b6⟩ := L.bm
    refine ⟨bm, ob, b1, b2, L.main b3 (fun _ _ q => by rw [b6] at q; cases q), fun q => ?_, hidT_get b3 (L.free b3 (fun _ _ z => ?_) fun z => ?_), b4, b5, b6⟩
    · rw [q, ht] at b3
      cases b3
      cases b6
    · rw [b6] at z
      cases z
    · rw [b6] at z
      cases z
/-- an address of the heap at the call stands as it stood, or it is a table that has grown -/
theorem Law.stay (L : Law h mg mb K cs a vs ns) {s' : Shared} {H' : Hp} {b : Addr} {o : Obj} (un : Un [] [] (lawH K cs a vs ns) H' h s'.heap) (ok : HOk P w H' s'.heap) (e : h.get? b = some o) (nb : b ∉ cs.map (·.2)) : s'.heap.get? b = some o := by
  cases q : lawH K cs a vs ns b with
  | none => exact un.keep b o e q (by simp) (by simp)
  | some u =>
    rcases L.cases q with ⟨rfl, _, rfl⟩ | ⟨z, _⟩
    · have e2 := (ok b _ (un.frzs b _ _ q)).1
      rw [L.at_] at e
      rw [← e]
      exact e2
    · exact absurd z nb
theorem Law.grown (L : Law h mg mb K cs a vs ns) {s' : Shared} {H' : Hp} {b : Addr} (un : Un [] [] (lawH K cs a vs ns) H' h s'.heap) (ok : HOk P w H' s'.heap) (hb : b ∈ cs.map (·.2)) : ∃ more : Array Value, s'.heap.get? b = some { cls := .none, data := .fields more } := by
  obtain ⟨more, z⟩ := un.tbls b #[] (L.tbl hb)
  exact ⟨_, ok b _ z⟩
theorem Law.old (L : Law h mg mb K cs a vs ns) {s' : Shared} {H' : Hp} (un : Un [] [] (lawH K cs a vs ns) H' h s'.heap) (ok : HOk P w H' s'.heap) : OldK h s'.heap := by
  constructor
  · intro b o e
    by_cases hb : b ∈ cs.map (·.2)
    · obtain ⟨p, hp, rfl⟩ := List.mem_map.mp hb
      obtain ⟨more, hm⟩ := L.grown un ok hb
      have ht := L.tab p hp
      rw [ht] at e
      cases e
      refine .inr (.inl ⟨((L.code p hp).tab ht).isCodeTable, rfl, #[], more, rfl, ?_⟩)
      rw [Array.empty_append]
      exact hm
    · exact .inl (L.stay un ok e hb)
  · intro b o e
    by_cases hb : b ∈ cs.map (·.2)
    · obtain ⟨more, hm⟩ := L.grown un ok hb
      exact ⟨_, hm⟩
    · exact ⟨o, L.stay un ok e hb⟩
end
/-- the law, called with the script at a -/
theorem law_callG {P : Program} {w : World} {K : PySem.W.Frag} {mg mb : Str → Option Value} {CX : CXT} {k : Nat} {fa a : Addr} {cs : List (Addr × Addr)} {fd : FuncData} {x : Str} {sp : Sp} {s : Shared} {vs : List Value} {ns : List Int}
    (L : Law s.heap mg mb K cs a vs ns) (hg : s.gens = #[]) (hr : Room k callerA) (F : ∀ base : Heap, K.In base → base.Ns mainGlobals mg → (∀ p ∈ cs, TabB base mg p.1 p.2) → FnG P w K mg base CX k fa fd [x] sp)
    (hbind : ∀ (s : Shared) (u : Value), BindsTo s fd ⟨[u], []⟩ [(x, u)]) (hsp : ∀ H : Hp, (∀ p ∈ cs, H p.2 = some (.tbl #[])) → SqL K H a (ns.map V.int) → sp [.ref a] H (fun v _ => v = .bl true) fun _ _ _ => False)
    (hCX : ∀ H e s', CX [] H s (fun _ _ _ => False) e s' → False) :
    codeAny (model P w) callerA (.call (.ref fa) ⟨[.ref a], []⟩) (fun r s' => r = .ok (.ret (.bool true)) ∧ OldK s.heap s'.heap ∧ s'.os = s.os ∧ AllBare s'.gens) s := by
  have env : Env0 P w K mg (hidT s.heap (lawH K cs a vs ns)) callerA [] s (lawH K cs a vs ns) :=
    ⟨rfl, L.mod, fun _ _ => of_hidT, Nat.le_of_eq (hidT_size _ _), trivial, fun b hb => absurd (show b ∈ ([] : List Addr) from hb) List.not_mem_nil, L.hok, .of_eq hg⟩
  have pre := hsp (lawH K cs a vs ns) (fun p hp => L.tbl (List.mem_map.mpr ⟨p, hp, rfl⟩)) L.seq
  have run := (F _ L.kin (L.nsK L.nsM) L.tabs).run callerA [] s _ ⟨[.ref a], []⟩ [.ref a] [.ref a] _ _ hr rfl env (hbind s _) (.cons rfl .nil) pre
  refine codeAny_mono run fun r s' q => ?_
  match r, q with
  | .error e, q => exact (hCX _ e s' q).elim
  | .ok .next, q => exact False.elim q
  | .ok .brk, q => exact False.elim q
  | .ok .cont, q => exact False.elim q
  | .ok (.ret u), q =>
    obtain ⟨v, H', os, bare, un, ok, rv, e⟩ := q
    cases (show v = .bl true from e)
    cases (show u = Value.bool true from rv)
    exact ⟨rfl, L.old un ok, os, bare⟩
/-- what is known of the law at the head's heap h -/
def LawAtG (l : PySem.W.OpenLaw) (w : World) (K : PySem.W.Frag) (CX : CXT) (k n : Nat) (x : Str) (mg : Str → Option Value) (fa : Addr) (h : Heap) : Prop :=
  ∃ (fd : FuncData) (cs : List (Addr × Addr)) (sp : Sp), ((∀ p ∈ cs, h.get? p.2 = some { cls := .none, data := .fields #[] }) ∧ (∀ p ∈ cs, K.lookup p.2 = none) ∧ ∀ p ∈ cs, PySem.W.CodeHd h p.1 p.2) ∧
    (∀ (s : Shared) (u : Value), BindsTo s fd ⟨[u], []⟩ [(x, u)]) ∧
    (∀ (H : Hp) (a : Addr) (ns : List Int), ns.length ≤ n → (∀ p ∈ cs, H p.2 = some (.tbl #[])) → SqL K H a (ns.map V.int) → sp [.ref a] H (fun v _ => v = .bl true) fun _ _ _ => False) ∧
    ∀ base : Heap, K.In base → base.Ns mainGlobals mg → (∀ p ∈ cs, TabB base mg p.1 p.2) → FnG l.prog w K mg base CX k fa fd [x] sp
theorem walk_ofG {l : PySem.W.OpenLaw} {n k : Nat} {q : Program} {loose : List Str} {XP : (Str → Option Value) → Heap → Prop} {YP : World → Heap → Prop} {d : DefRec} {K : Params → PySem.W.Frag} {CX : World → CXT} {x : Str}
    (most : l.most = some n) (line : n ≤ sizeLine) (plain : d.params.defaults = []) (room : Room k callerA) (known : ∀ (w : World) (h : Heap), YP w h → (K w.params).In h)
    (at_ : ∀ (w : World) (mg : Str → Option Value) (fa : Addr) (h : Heap), YP w h → (K w.params).In h → h.Ns mainGlobals mg → mg d.name = some (.ref fa) → LawAtG l w (K w.params) (CX w) k n x mg fa h)
    (calm : ∀ (w : World) (H : Hp) (s : Shared) (e : Value) (s' : Shared), CX w [] H s (fun _ _ _ => False) e s' → False) : PySem.W.WalkO q loose XP YP l.row.toRowW d [] (fun f vs => PySem.call f vs) := by
  refine Att.attach_callB most plain fun w _ s mg mb fa _ _ _ _ a vs ns G Y _ _ _ name here isI short _ bare => ?_
  obtain ⟨fd, cs, sp, ⟨t1, t2, t3⟩, bind, pre, F⟩ := at_ w mg fa _ Y (known w _ Y) G.T.g name
  exact law_callG ⟨known w _ Y, G.T.g, G.T.b, G.T.builtins, G.T.nolimit, t1, t2, t3, G.T.bmain, here, isI, Nat.le_trans short line⟩ bare room F bind (fun H t S => pre H a ns short t S) fun H e s' => calm w H s e s'
end KA
namespace KU
open PySem PySem.W PySem.Calls PyProof.Rows PySem.HandSPX
/-! ### an own error whose __init__(self, f) says super().__init__(e) and self.f = f -/
abbrev upBody (f : Str) (e : Expr) (p0 p1 p2 p3 pe q1 q2 q3 q4 : Pos) : List Stmt :=
  [.Expr (.Call (.Attribute (.Call (.Name "super" p0) [] [] p1) "__init__" p2) [e] [] p3) pe, .Assign [.Attribute (.Name "self" q1) f q2] (.Name f q3) q4]
abbrev upArgs (f : Str) (r1 r2 : Pos) : Arguments := { posonlyargs := [], args := [{ arg := "self", annotation := none, pos := r1 }, { arg := f, annotation := none, pos := r2 }], vararg := none, kwonlyargs := [], kw_defaults := [], kwarg := none, defaults := [] }
abbrev upScope (f : Str) : Scope := { kind := .function, names := [(PySem.Str.ofString "self", .local), (f, .local), (PySem.Str.ofString "__class__", .free), (PySem.Str.ofString "super", .globalImplicit)], isGenerator := false, isCoroutine := false, more := [] }
/-- what the written part says of the class at C, of its __init__ at fI -/
structure UpTxt (P : Program) (K : Frag) (C fI cda cc : Addr) (qual f : Str) (e : Expr) : Prop where
  fn : ∃ (oc : Value) (od : Option Addr) (doc pm : Value) (an : Option Addr) (ct : Value) (osl : Array (Option Value)) (r1 r2 p0 p1 p2 p3 pe q1 q2 q3 q4 : Pos),
    K.lookup fI = some ⟨oc, od, .func (ksFn "__init__" qual (upArgs f r1 r2) (upBody f e p0 p1 p2 p3 pe q1 q2 q3 q4) (upScope f) .none .none doc pm an (.ref cda) ct cc), osl⟩ ∧
      (∀ a b : Value, bindArgs (ksFn "__init__" qual (upArgs f r1 r2) (upBody f e p0 p1 p2 p3 pe q1 q2 q3 q4) (upScope f) .none .none doc pm an (.ref cda) ct cc) ⟨[a, b], []⟩ = pure [(PySem.Str.ofString "self", a), (f, b)]) ∧
      (∀ L : Addr, swapsWith (.Name f q3) (some (.Attribute (.Name "self" q1) f q2)) q4.line (ksEnv qual (upScope f) L fI (.ref cda) cc) = pure false) ∧
      ∃ pl : Sem Bool, ∀ L : Addr, eval (.Call (.Attribute (.Call (.Name "super" p0) [] [] p1) "__init__" p2) [e] [] p3) (ksEnv qual (upScope f) L fI (.ref cda) cc) = (do
        let o ← attributeBase (.Call (.Name "super" p0) [] [] p1) "__init__" (ksEnv qual (upScope f) L fI (.ref cda) cc) (eval (.Call (.Name "super" p0) [] [] p1) (ksEnv qual (upScope f) L fI (.ref cda) cc))
        standAt p2.atName
        let (g, first) ← holding [o] (getMethod o "__init__" pl)
        callWith p3 g first (backTo p3 (starEach [e] (ksEnv qual (upScope f) L fI (.ref cda) cc))) [])
  star : ∀ env : Env, starEach [e] env = [(false, eval e env)]
  code : codeIn K (.ref cda) qual = true
  file : ∃ (cl : Value) (cdd : Option Addr) (vs : Array Value) (ccs : Array (Option Value)) (fl : Str) (tf : Tok), K.lookup cda = some ⟨cl, cdd, .fields vs, ccs⟩ ∧ vs[2]? = some (.str fl tf) ∧ ((P.main.file : Str) == fl) = true
  cell : ∃ (cl : Value) (cld : Option Addr) (csl : Array (Option Value)), K.lookup cc = some ⟨cl, cld, .cell (some (.ref C)), csl⟩
  cls : ∃ cd, clsIn K C = some cd ∧ refsVE cd.mro = true ∧ cd.hasDict = true
  self : mroIn K C (.ref C) = some true
  noSuper : nsIn K mainGlobals "super" = some none
  top : (P.main.scope.names.lookup ("super" : Str)).isSome = false
  third : nsIn K cStatics "thirdparty.any" = some none
  up : ks_superIn K C C "__init__" = some (some (.builtin "ValueError.__init__"))
  val : subIn K (.ref C) (.type "ValueError") = some true
  own : excInitIn K C [.type "ValueError", .type "Exception", .type "BaseException", .type "object"] "ValueError.__new__" = true
  set : findIn K (.ref C) "__setattr__" = some (some (.builtin "object.__setattr__"))
  noF : findIn K (.ref C) f = some none
  obj : ∃ (nm q : Str) (N : Addr) (bs bm : List Value) (sn : List Str) (sub : List Value) (ab : Bool) (col : Option Bool) (dd : Option Addr) (k0 k1 k2 k3 k5 : Option Value),
    K.lookup C = some (excClassObj nm q C N bs bm true sn sub ab col dd k0 k1 k2 k3 k5 "ValueError.__new__") ∧ refsVE bm = true
  iC : findIn K (.ref C) "__init__" = some (some (.ref fI))
  tC : typeIn K (.ref fI) = some (.type "function")
  ga : findIn K (.ref C) "__getattribute__" = some (some (.builtin "BaseException.__getattribute__"))
  gg : findIn K (.ref C) "__getattr__" = some none
  kC : keepIn K (.ref C) = true
  exC : subIn K (.ref C) (.type "BaseException") = some true
  tyC : typeIn K (.ref C) = some (.type "type")
  hdC : hasDictIn K C = true
  nf : f ≠ "self" ∧ f ≠ "__class__" ∧ f ≠ "super" ∧ f ≠ "__debug__"
/-- what it leaves of a fresh exception at x -/
structure UpEnd (h h' : Heap) (x C dx t1 : Addr) (f : Str) (v : Value) : Prop where
  keep : ∀ b o, b ≠ x → h.get? b = some o → h'.get? b = some o
  obj : h'.get? x = some { cls := .ref C, dict := some dx, data := .fields #[.ref t1, .none, .none, .none, .bool false, .none] }
  big : h.objs.size ≤ dx
  ne : dx ≠ x
  ns : h'.Ns1 dx (fun y => if y = f then some v else none)
section
variable {prog : Program} {w : World} {A : Around} {R : Result → Shared → Prop} {s : Shared} {K : Frag} {mg mb : Str → Option Value} {C fI cda cc : Addr} {qual f : Str} {e : Expr}
theorem up_init (T : UpTxt prog K C fI cda cc qual f e) {x t0 : Addr} {v : Value} (X : K.In s.heap) (hlim : s.heap.NoLimit) (hg : s.heap.Ns mainGlobals mg) (hb : s.heap.Ns builtinsNs mb) (hbb : ∀ y : Str, y ≠ "__name__" → mb y = bootBuiltins y)
    (hx : s.heap.get? x = some (excO C t0)) (hnx : K.lookup x = none) (hroom : A.depth < recursionLimit)
    (text : ∀ (A' : Around) (E : Value → Shared → Prop) (s' : Shared) (L : Addr) (m : Str → Option Value) (Q : Value → Shared → Prop), A'.units ≤ A.units + 4 → (∀ b o, s.heap.get? b = some o → s'.heap.get? b = some o) → s'.heap.Ns L m → m f = some v → (∀ (z : Str) (t : Tok) (h' : Heap) (t' : Tok), (∀ b o, s'.heap.get? b = some o → h'.get? b = some o) → Q (.str z t) { s' with heap := h', toks := t' }) → wpAny (model prog w) A' (eval e (ksEnv qual (upScope f) L fI (.ref cda) cc)) Q E s')
    (hq : ∀ h' tk dx t1, UpEnd s.heap h' x C dx t1 f v → R (.ok (.ret .none)) { s with heap := h', toks := tk }) :
    codeAny (model prog w) A (.call (.ref fI) ⟨[.ref x, v], []⟩) R s := by
  obtain ⟨hp, g, dr, tk, os⟩ := s
  dsimp only at X hlim hg hb hx
  obtain ⟨oc, od, doc, pm, an, ct, osl, r1, r2, p0, p1, p2, p3, pe, q1, q2, q3, q4, ho, hbd, hswap, pl, hcall⟩ := T.fn
  obtain ⟨n1, n2, n3, n4⟩ := T.nf
  have lf : (upScope f).names.lookup f = some .local := by
    show List.lookup f ((PySem.Str.ofString "self", NameKind.local) :: _) = _
    rw [List.lookup_cons]
    cases f == PySem.Str.ofString "self" with
    | true => rfl
    | false =>
      show List.lookup f ((f, NameKind.local) :: _) = _
      rw [List.lookup_cons, beq_self_eq_true]
  refine ks_codeAny_call_defAt (binds := [(PySem.Str.ofString "self", .ref x), (f, v)]) (body := upBody f e p0 p1 p2 p3 pe q1 q2 q3 q4) hroom (X _ _ ho) rfl hlim (codeRec_of X T.code) rfl ?bind ?cells ?locs (fun h₁ hns keep => ?_) rfl rfl rfl
  case bind => exact .of_eq (hbd _ _)
  case cells =>
    intro y hy
    simp only [List.mem_cons, List.not_mem_nil, or_false] at hy
    rcases hy with z | z | z | z <;> (subst z; exact fun q => by cases q)
  case locs =>
    intro y hy
    simp only [List.mem_cons, List.not_mem_nil, or_false] at hy
    rcases hy with z | z <;> subst z
    · rfl
    · exact lf
  have X1 : K.In h₁ := X.keeps keep
  have ms : (List.lookup (PySem.Str.ofString "self") [(PySem.Str.ofString "self", Value.ref x), (f, v)].reverse) = some (.ref x) := by
    show List.lookup (PySem.Str.ofString "self") [(f, v), (PySem.Str.ofString "self", Value.ref x)] = _
    rw [List.lookup_cons, beq_false_of_ne (Ne.symm n1)]
    rfl
  have mf : (List.lookup f [(PySem.Str.ofString "self", Value.ref x), (f, v)].reverse) = some v := by
    show List.lookup f [(f, v), (PySem.Str.ofString "self", Value.ref x)] = _
    rw [List.lookup_cons, beq_self_eq_true]
  obtain ⟨cd, hcd, hmro, hdict⟩ := T.cls
  obtain ⟨cl, cdd, vs, ccs, fl, tf, hcode, hvs, hfile⟩ := T.file
  obtain ⟨ccl, cld, csl, hcell⟩ := T.cell
  have hx1 := keep _ _ hx
  generalize hm : (fun y => List.lookup y [(PySem.Str.ofString "self", Value.ref x), (f, v)].reverse) = m at hns
  have ms' : m "self" = some (.ref x) := by rw [← hm]; exact ms
  have mf' : m f = some v := by rw [← hm]; exact mf
  clear ms mf hm
  show PySem.wpAt _ _ _ (execs (upBody f e p0 p1 p2 p3 pe q1 q2 q3 q4) (ksEnv qual (upScope f) hp.objs.size fI (.ref cda) cc)) _ _ _
  refine ks_wpAt_execs_cons (ks_wpAt_Expr_any (ks_wpAt_MethodCall (pl := pl) ?_ (hcall _)))
  obtain ⟨oC, hC1, hC2⟩ : ∃ oC, h₁.get? C = some oC ∧ oC.data = .cls cd := by
    unfold clsIn at hcd
    split at hcd
    · rename_i c d cd' sl z
      cases hcd
      exact ⟨_, X1 _ _ z, rfl⟩
    · cases hcd
  have k1 : (upScope f).names.lookup ("super" : Str) = some .globalImplicit := by
    show List.lookup (PySem.Str.ofString "super") ((f, NameKind.local) :: _) = _
    rw [List.lookup_cons, beq_false_of_ne (Ne.symm n3)]
    rfl
  have k2 : (upScope f).names.lookup ("__class__" : Str) = some .free := by
    show List.lookup (PySem.Str.ofString "__class__") ((f, NameKind.local) :: _) = _
    rw [List.lookup_cons, beq_false_of_ne (Ne.symm n2)]
    rfl
  refine ks_wpAt_super_base (env := ksEnv qual (upScope f) hp.objs.size fI (.ref cda) cc) k1 k2 rfl rfl (X1 _ _ ho) rfl rfl rfl (X1 _ _ hcode) rfl hvs hfile T.top ?_
  refine ks_loadName_global rfl k1 (loadGlobal_builtin (env := ksEnv qual (upScope f) hp.objs.size fI (.ref cda) cc) (hg.keeps keep) (mg_none_of X hg T.noSuper) (hb.keeps keep) ((hbb _ (by decide +kernel)).trans (show bootBuiltins "super" = some (.type "super") by kernel_rfl)) ⟨rfl, ?_⟩)
  refine wpAny_loadName_free rfl k2 rfl ⟨_, X1 _ _ hcell, rfl⟩ ?_
  refine wpAny_loadName_local rfl rfl hns ms' ?_
  refine ks_wpAny_isType_cls hC1 hC2 ⟨rfl, ?_⟩
  refine ks_wpAny_call_super hC1 hC2 hx1 rfl (fun c z => by cases z) (looks_mroIn X1 T.self) (fun h2 so keep2 => ?_)
  have X2 : K.In h2 := X1.keeps keep2
  have hx2 := keep2 _ _ hx1
  have I2 : InstAt h2 x (excO C t0) C none := ⟨hx2, rfl, rfl, trivial⟩
  have along : alongIn K "__init__" ((cd.mro.dropWhile (· != .ref C)).drop 1) = some (some (.builtin "ValueError.__init__")) := by
    have z := T.up
    unfold ks_superIn at z
    rw [hcd] at z
    exact z
  refine kxs_getMethod kxs_ValueError so (looks_opaque X2 T.third) (l₀ := cd.mro) (fun A Q E s k q => wpAny_bind ((looks_clsIn X2 hcd) A _ E s k (wpAny_pure q))) rfl X2 along (I2.type.andThen (looks_subIn X2 T.val)) (ks_ne X2 I2 hcd) rfl ?_
  have push3 : ∀ b o, h2.get? b = some o → (h2.push (kxs_mw "ValueError.__init__" x)).get? b = some o := fun b o z => Heap.get?_push_of_some _ z
  generalize hh3 : h2.push (kxs_mw "ValueError.__init__" x) = h3 at push3
  have hu : h3.get? h2.objs.size = some (kxs_mw "ValueError.__init__" x) := by
    rw [← hh3]
    exact Heap.get?_push_at rfl rfl
  generalize h2.objs.size = u at hu
  have X3 : K.In h3 := X2.keeps push3
  have hx3 := push3 _ _ hx2
  have hns3 : h3.Ns hp.objs.size m := (hns.keeps keep2).keeps push3
  rw [T.star]
  refine kxs_callWith (i := "ValueError.__init__") (x := x) (u := u) rfl (evalArgs_plain (spliced_cons ?_))
  refine text _ _ _ _ _ _ (by show A.units + 3 ≤ A.units + 4; omega) (fun b o z => push3 b o (keep2 b o (keep b o z))) hns3 mf' fun z zt h3' t' g3 => spliced_nil ⟨g3 _ _ hu, ?_⟩
  replace X3 := X3.keeps g3
  replace hx3 := g3 _ _ hx3
  replace hns3 := hns3.keeps g3
  replace hu := g3 _ _ hu
  replace push3 : ∀ b o, h2.get? b = some o → h3'.get? b = some o := fun b o z => g3 b o (push3 b o z)
  obtain ⟨nm, N', qn, bs, bm, hdct, sn, sub, ab, col, dd, kk0, kk1, kk2, kk3, kk5, hC, hT⟩ := excInit_of X3 T.own
  refine wpAny_call (codeAny_of_tree ?_)
  show wpAny _ (Around.in1 _) (callAny (.ref u) ⟨[.str z zt], []⟩) _ _ _
  simp only [callAny]
  refine wpAny_bind (wpAny_load hu ?_)
  simp only [kxs_mw, show (Value.type "method-wrapper" == Value.type "method" || Value.type "method-wrapper" == Value.type "builtin_function_or_method" || Value.type "method-wrapper" == Value.type "method-wrapper") = true by decide, if_true]
  have FB := F.excBase_ValueError
  refine KFB.if_so (by decide) (wpAny_bind (check_bound_init FB.toExcCallFacts hC hx3 rfl (wpAny_bind (wpAny_pure (wpAny_pure ⟨plainId_quiet FB.init.plain _, codeAny_builtin FB.initEntry ?_⟩)))))
  refine exc_init_tree (cls := .ref C) (t0 := t0) (dv := none) (c2 := .none) (c3 := .none) (b4 := .bool false) hx3 (by show 1 ≤ sizeLine; decide) fun h4 keep4 hx4 _ => ?_
  have X4 : K.In h4 := fun b o z => keep4 b o (fun q => by rw [q, hnx] at z; cases z) (X3 b o z)
  have hns4 : h4.Ns hp.objs.size m := by
    obtain ⟨oL, es, ep, hL, rest⟩ := hns3
    exact ⟨oL, es, ep, keep4 _ _ (Nat.ne_of_gt (Heap.lt_size hx)) hL, rest⟩
  refine wpAt_of_wpAny (wpAny_execs_cons (plainObj_wpAny_Assign_Attribute ?_ (hswap _)))
  have kf : (ksEnv qual (upScope f) hp.objs.size fI (.ref cda) cc).kindOf f = some .local := lf
  have ndb : (f == ("__debug__" : Str)) = false := beq_false_of_ne n4
  refine wpAny_Name (wpAny_loadName_local rfl kf hns4 mf' ?_) ndb
  refine wpAny_Name (wpAny_loadName_local rfl rfl hns4 ms' ?_) rfl
  refine set_plain X4 (ox := excO C h3'.objs.size) (od := none) ⟨hx4, rfl, rfl, trivial⟩ T.set ?_
  refine exc_osa X4 hx4 hcd hmro hdict T.noF fun h5 tk5 dx keep5 big ne5 hx5 hn5 => ?_
  refine wpAny_execs_nil (hq h5 tk5 dx h3'.objs.size ⟨fun b o hb z => keep5 b o hb (keep4 b o hb (push3 b o (keep2 b o (keep b o z)))), hx5, ?_, ne5, hn5⟩)
  exact Nat.le_of_lt (Nat.lt_of_lt_of_le hns4.lt big)
/-- a made one -/
structure UpMade (h h' : Heap) (e C d : Addr) (f : Str) (v : Value) : Prop where
  keep : ∀ b o, h.get? b = some o → h'.get? b = some o
  new : h.objs.size ≤ e
  obj : ∃ oe vs, h'.get? e = some oe ∧ oe.cls = .ref C ∧ oe.dict = some d ∧ oe.data = .fields vs ∧ vs[1]? = some .none
  big : h.objs.size ≤ d
  ne : d ≠ e
  ns : h'.Ns1 d (fun y => if y = f then some v else none)
theorem up_made (T : UpTxt prog K C fI cda cc qual f e) {v : Value} (X : K.In s.heap) (hlim : s.heap.NoLimit) (hg : s.heap.Ns mainGlobals mg) (hb : s.heap.Ns builtinsNs mb) (hbb : ∀ y : Str, y ≠ "__name__" → mb y = bootBuiltins y) (hroom : A.depth + 1 < recursionLimit)
    (text : ∀ (A' : Around) (E : Value → Shared → Prop) (s' : Shared) (L : Addr) (m : Str → Option Value) (Q : Value → Shared → Prop), A'.units ≤ A.units + 12 → (∀ b o, s.heap.get? b = some o → s'.heap.get? b = some o) → s'.heap.Ns L m → m f = some v → (∀ (z : Str) (t : Tok) (h' : Heap) (t' : Tok), (∀ b o, s'.heap.get? b = some o → h'.get? b = some o) → Q (.str z t) { s' with heap := h', toks := t' }) → wpAny (model prog w) A' (eval e (ksEnv qual (upScope f) L fI (.ref cda) cc)) Q E s')
    (hq : ∀ h' tk a d, UpMade s.heap h' a C d f v → R (.ok (.ret (.ref a))) { s with heap := h', toks := tk }) : codeAny (model prog w) A (.call (.ref C) ⟨[v], []⟩) R s := by
  obtain ⟨nm, q, N, bs, bm, sn, sub, ab, col, dd, k0, k1, k2, k3, k5, hC, hbm⟩ := T.obj
  obtain ⟨hp, g, dr, tk, os⟩ := s
  dsimp only at X hlim hg hb
  generalize hh : (hp.push (kdv_tup [v])).push (excO C hp.objs.size) = h1
  have k : ∀ b o, hp.get? b = some o → h1.get? b = some o := fun b o z => by
    rw [← hh]
    exact Heap.get?_push_of_some _ (Heap.get?_push_of_some _ z)
  have got : h1.get? (hp.objs.size + 1) = some (excO C hp.objs.size) := by
    rw [← hh]
    heap_get
  have fresh : K.lookup (hp.objs.size + 1) = none := by
    cases z : K.lookup (hp.objs.size + 1) with
    | none => rfl
    | some o => exact absurd (show hp.objs.size + 1 < hp.objs.size from Heap.lt_size (X _ _ z)) (Nat.not_lt.mpr (Nat.le_succ _))
  refine call_own F.excBase_ValueError (fun Y => refsVE_contains Y bm hbm) (X _ _ hC) (looks_findIn X T.iC) (fun self => bind_fn X self T.tC) (by show 1 ≤ sizeLine; decide) ?_
  rw [hh]
  refine up_init (s := ⟨h1, g, dr, tk, os⟩) T (X.keeps k) (hlim.keeps k) (hg.keeps k) (hb.keeps k) hbb got fresh hroom (fun A' E s' L m Q un kp => text A' E s' L m Q (Nat.le_trans un (by show A.units + 1 + 4 ≤ A.units + 12; omega)) fun b o z => kp b o (k b o z)) fun h' tk' dx t1 Z => ?_
  have size1 : hp.objs.size ≤ h1.objs.size := Nat.le_of_lt (Nat.lt_of_succ_lt (Heap.lt_size got))
  exact ⟨rfl, hq h' tk' (hp.objs.size + 1) dx ⟨fun b o z => Z.keep b o (Nat.ne_of_lt (Nat.lt_succ_of_lt (Heap.lt_size z))) (k b o z), Nat.le_succ _, ⟨_, _, Z.obj, rfl, rfl, rfl, rfl⟩, Nat.le_trans size1 Z.big, Z.ne, Z.ns⟩⟩
end
end KU
namespace KU
open PySem PySem.W PySem.Calls PyProof.Rows PySem.HandSPX
/-- what the error says of v can be told -/
abbrev Text (P : Program) (w : World) (fI cda cc : Addr) (qual f : Str) (e : Expr) (v : Value) : Prop :=
  ∀ (A' : Around) (E : Value → Shared → Prop) (s' : Shared) (L : Addr) (m : Str → Option Value) (Q : Value → Shared → Prop), s'.heap.Ns L m → m f = some v → (∀ (z : Str) (t t' : Tok), Q (.str z t) { s' with toks := t' }) →
    wpAny (model P w) A' (eval e (ksEnv qual (upScope f) L fI (.ref cda) cc)) Q E s'
theorem kind_f {f : Str} : (upScope f).names.lookup f = some .local := by
  show List.lookup f ((PySem.Str.ofString "self", NameKind.local) :: _) = _
  rw [List.lookup_cons]
  cases f == PySem.Str.ofString "self" with
  | true => rfl
  | false =>
    show List.lookup f ((f, NameKind.local) :: _) = _
    rw [List.lookup_cons, beq_self_eq_true]
/-- f'z{f}' of an int, of a text -/
theorem text_of {P : Program} {w : World} {fI cda cc : Addr} {qual f z : Str} {j : Nat} {pc pn pf pj : Pos} {v : Value} {y : Str} (hd : f ≠ "__debug__")
    (fld : ∀ (A' : Around) (E : Value → Shared → Prop) (s' : Shared) (Q : Value → Shared → Prop), (∀ (t t' : Tok), Q (.str y t) { s' with toks := t' }) → wpAny (model P w) A' (formatField v Str.empty) Q E s')
    (h1 : z.length ≤ sizeLine) (h2 : (z ++ y).length ≤ sizeLine) : Text P w fI cda cc qual f (.JoinedStr [.Constant (.str z) j pc, .FormattedValue (.Name f pn) (-1) none pf] pj) v := by
  intro A' E s' L m Q hn hm k
  refine wpAny_JoinedStr ?_
  have e0 : ∀ env : Env, evalEach [.Constant (.str z) j pc, .FormattedValue (.Name f pn) (-1) none pf] env = [eval (.Constant (.str z) j pc) env, eval (.FormattedValue (.Name f pn) (-1) none pf) env] := fun _ => by first | rfl | simp [evalEach]
  rw [e0]
  have e1 : Str.empty ++ z = z := by
    show (⟨#[] ++ z.cps⟩ : Str) = z
    rw [Array.empty_append]
  refine Calls.Constant_str ⟨z, _, rfl, by rw [e1]; exact h1, ?_⟩
  rw [e1]
  refine wpAny_FormattedValue_plain (wpAny_Name (wpAny_loadName_local rfl (show (ksEnv qual (upScope f) L fI (.ref cda) cc).kindOf f = some .local from kind_f) hn hm ?_) (beq_false_of_ne hd))
  exact fld _ _ _ _ fun t t' => ⟨y, t, rfl, h2, h2, k _ _ _⟩
theorem text_int {P : Program} {w : World} {fI cda cc : Addr} {qual f z : Str} {j : Nat} {pc pn pf pj : Pos} {i : Int} {t : Tok} (hd : f ≠ "__debug__") (hi : i.natAbs.log2 < 1920) (h1 : z.length ≤ sizeLine) (h2 : (z ++ (toString i : String)).length ≤ sizeLine) :
    Text P w fI cda cc qual f (.JoinedStr [.Constant (.str z) j pc, .FormattedValue (.Name f pn) (-1) none pf] pj) (.int i t) :=
  text_of hd (fun _ _ _ _ k => wpAny_formatField_int hi (k _ _)) h1 h2
theorem text_str {P : Program} {w : World} {fI cda cc : Addr} {qual f z y : Str} {j : Nat} {pc pn pf pj : Pos} {t : Tok} (hd : f ≠ "__debug__") (h1 : z.length ≤ sizeLine) (h2 : (z ++ y).length ≤ sizeLine) (h3 : y.length ≤ sizeLine) :
    Text P w fI cda cc qual f (.JoinedStr [.Constant (.str z) j pc, .FormattedValue (.Name f pn) (-1) none pf] pj) (.str y t) :=
  text_of hd (fun _ _ _ _ k => wpAny_formatField_str (k _ _) (k _ _) h3) h1 h2
end KU
namespace KU
open PySem PySem.Spec PyProof.Rows L2
theorem relO_up {v : V} {v' : Value} {n : Str} (r : RelV v v') (f : Str) : RelO (List.lookup f [(n, v)]) (if f = n then some v' else none) := by
  by_cases c : f = n
  · subst c
    rw [if_pos rfl, List.lookup_cons, beq_self_eq_true]
    exact r
  · rw [if_neg c, List.lookup_cons, beq_false_of_ne c]
    trivial
section
variable {X : Cx} {C fI cda cc : Addr} {qual f x : Str} {e : Expr}
/-- x(a), x the class's name -/
def tMkUp (T : Value → Prop) (C : Addr) (f : Str) (ta : TA) : L2.St → Hp → XK → Prop := fun σ H Q => ta σ H fun vs H1 => ∃ v, vs = [v] ∧ (∀ v', RelV v v' → T v') ∧ ∀ d, H1 d = none → Q (.ref C) (some d) (upd H1 d (.xd [(f, v)]))
theorem pmk_up {a : Expr} {ta : TA} {p pos : Pos} {k : Nat} (T : UpTxt X.prog X.K C fI cda cc qual f e) (gC : X.mg x = some (.ref C)) (hr : Room k X.A) (ha : PA X [a] ta) (hg : Gl X x) (hdb : (x == ("__debug__" : Str)) = false := by decide)
    (he : starEach (a :: []) X.env = (false, eval a X.env) :: starEach [] X.env := by rfl) (hpl : (backTo pos (starEach [] X.env)).any (·.1) = false := by rfl) :
    PMk X (.Call (.Name x p) [a] [] pos) (tMkUp (Text X.prog X.w fI cda cc qual f e) C f ta) := by
  intro pins s σ H Q I h
  refine wpAny_Call_Name_kw (ld_glob I hg gC ?_ hdb)
  refine PySem.W.callWith_K (h₀ := X.base) I.ok.mod.kin T.kC (thn (ha.run pos pins s σ H _ I h) fun us s1 hh => ?_) he hpl
  obtain ⟨vs, H1, I1, r1, v, rfl, ht, q1⟩ := hh
  refine ⟨I1.kIn, ?_⟩
  cases r1 with
  | cons rv rn =>
    rename_i v' us'
    cases rn
    show wpAny _ _ (call (.ref C) [v']) _ _ _
    obtain ⟨mb, b1, b2⟩ := I1.mod.blt
    have lim := I1.nolimit
    have glob := I1.mod.glob.keeps I1.bk
    have blt := b1.keeps I1.bk
    have dp := hr.dp
    obtain ⟨hp, g, dr, tk, os⟩ := s1
    refine wpAny_call (up_made T I1.kIn lim glob blt b2 (by omega) (fun A' E s' L m Q _ _ hn hm k => ht v' rv A' E s' L m Q hn hm fun z t t' => k z t s'.heap t' fun _ _ e => e) fun h' tk' a' d M => ?_)
    show MkP X pins σ Q (.ref a') ⟨h', g, dr, tk', os⟩
    obtain ⟨oe, fv, hoe, hc, hd, hdat, one⟩ := M.obj
    obtain ⟨G, in_, out⟩ := restrict h' fun b => decide (b ≠ a')
    have same : ∀ b, b ≠ a' → G.get? b = h'.get? b := fun b hb => in_ b (decide_eq_true hb)
    have gone : G.get? a' = none := out a' (by simp)
    have stay : ∀ b o, hp.get? b = some o → G.get? b = some o := fun b o z => (same b (Nat.ne_of_lt (Nat.lt_of_lt_of_le (Heap.lt_size z) M.new))).trans (M.keep b o z)
    have own : ObjOk X.prog X.w (upd H1 d (.xd [(f, v)])) G d (.xd [(f, v)]) := ⟨_, M.ns.at (fun o z => (same d M.ne).trans z), fun y => relO_up rv y⟩
    have J : Inv X pins σ (upd H1 d (.xd [(f, v)])) ⟨G, g, dr, tk', os⟩ := I1.laid (t' := tk') stay M.big own
    refine ⟨a', oe, fv, ⟨G, g, dr, tk', os⟩, _, .ref C, some d, rfl, J, fun b o z => ?_, gone, hoe, ⟨hc, hd⟩, hdat, one, ?_, rfl, I1.bare, raises_own T.exC T.tyC, q1 d (I1.hok.fresh M.big)⟩
    · have hb : b ≠ a' := fun y => by
        rw [y] at z
        exact absurd (gone.symm.trans z) (by simp)
      exact (same b hb).symm.trans z
    · rw [upd_ne (Ne.symm M.ne)]
      exact I1.hok.fresh M.new
/-- raise x(a) -/
theorem ps_raiseUp {a : Expr} {ta : TA} {W : WX} {p pos pos2 : Pos} {k : Nat} (hc : X.calm = true) (T : UpTxt X.prog X.K C fI cda cc qual f e) (gC : X.mg x = some (.ref C)) (hr : Room k X.A) (tk : Takes X W) (ha : PA X [a] ta) (hg : Gl X x) (hdb : (x == ("__debug__" : Str)) = false := by decide)
    (he : starEach (a :: []) X.env = (false, eval a X.env) :: starEach [] X.env := by rfl) (hpl : (backTo pos (starEach [] X.env)).any (·.1) = false := by rfl) :
    PS X (.Raise (some (.Call (.Name x p) [a] [] pos)) none pos2) (fun _ σ H => tMkUp (Text X.prog X.w fI cda cc qual f e) C f ta σ H fun cls d H' => W cls d σ H') := ps_raise hc tk (pmk_up T gC hr ha hg hdb he hpl)
/-- err.f, err an exception that is kept as a value -/
def tUpGet (C : Addr) (f : Str) (te : TE) : TE := fun σ H Q => te σ H fun x H1 => ∃ (a d : Addr) (v : V), x = .ref a ∧ H1 a = some (KA.ExV (.ref C) (some d) a) ∧ H1 d = some (.xd [(f, v)]) ∧ Q v H1
theorem pe_upGet {o : Expr} {te : TE} {pos : Pos} (T : UpTxt X.prog X.K C fI cda cc qual f e) (he : PE X o te) (hb : attributeBase o f X.env (eval o X.env) = eval o X.env := by rfl) :
    PE X (.Attribute o f pos) (tUpGet C f te) := by
  refine ⟨fun pins s σ H Q I h => ?_⟩
  refine attr_of hb (thn (he.run pins s σ H _ I h) fun u s1 hh => ?_)
  obtain ⟨x, H1, I1, rx, a, d, v, rfl, ha, hd, q⟩ := hh
  obtain rfl : u = Value.ref a := rx
  obtain ⟨⟨oe, got, z, vs, dat⟩, _⟩ := I1.hok a _ ha
  obtain ⟨mA, ns, rel⟩ := I1.hok d _ hd
  obtain ⟨od, at_, look⟩ := lookIn_ns ns
  have l : List.lookup f [(f, v)] = some v := by rw [List.lookup_cons, beq_self_eq_true]
  obtain ⟨u, hu, ru⟩ := RelO.some_of (v := v) (o := mA f) (by rw [← l]; exact rel f)
  have J : PySem.W.InstAt s1.heap a oe C (some od) := ⟨got, z.1, by unfold PySem.W.notCls; rw [dat] <;> rfl, by rw [z.2]; exact at_⟩
  exact HandSPX.exc_get I1.kIn J T.ga T.gg T.exC (PySem.W.findObj_own T.hdC T.noF rfl (by rw [look, hu])) (handed_of ru) ⟨v, H1, I1.tok _, ru, q⟩
end
end KU
namespace KW
open PySem PySem.Spec PyProof.Rows L2 PySem.W LamX
/-! ### a lambda without parameters that is handed on from def to def: it stands as it was made, whoever calls it -/
theorem un_comp {fs gs : List Addr} {H H1 H2 : Hp} {h h1 h2 : Heap} (a : Un fs [] H H1 h h1) (b : Un gs [] H1 H2 h1 h2) (sub : ∀ x ∈ gs, x ∈ fs ∨ h.get? x = none) : Un fs [] H H2 h h2 := by
  have no : ∀ {x : Addr} {o : Obj}, h.get? x = some o → x ∉ fs → x ∉ gs := fun e n z => by
    rcases sub _ z with q | q
    · exact n q
    · rw [q] at e
      cases e
  refine ⟨fun x o e n hx _ => ?_, fun x o e n hx _ => ?_, fun x o e n _ => ?_, fun x o e _ => ?_, fun x xs e => b.tups _ _ (a.tups _ _ e), fun x o u e => b.frzs _ _ _ (a.frzs _ _ _ e), fun x ps e => ?_⟩
  · exact b.keep x o (a.keep x o e n hx (by simp)) (a.free x o e n (by simp)) (no e hx) (by simp)
  · obtain ⟨sl, e1⟩ := a.slot x o e n hx (by simp)
    have n1 := a.free x o e n (by simp)
    by_cases hg : x ∈ gs
    · obtain ⟨sl2, e2⟩ := b.slot x _ e1 n1 hg (by simp)
      exact ⟨sl2, e2⟩
    · exact ⟨sl, b.keep x _ e1 n1 hg (by simp)⟩
  · obtain ⟨o1, e1⟩ := a.there x o e (by simp)
    exact b.free x o1 e1 (a.free x o e n (by simp)) (by simp)
  · obtain ⟨o1, e1⟩ := a.there x o e (by simp)
    exact b.there x o1 e1 (by simp)
  · obtain ⟨m1, e1⟩ := a.tbls x ps e
    obtain ⟨m2, e2⟩ := b.tbls x _ e1
    exact ⟨m1 ++ m2, by rw [e2, Array.append_assoc]⟩
/-- the lambda at f, its code object at c' of the name q, made where the heaps were H0, h0; fs: the frames that ran then; t: what it promises -/
structure Work (P : Program) (w : World) (K : PySem.W.Frag) (mg : Str → Option Value) (base : Heap) (k : Nat) (fs : List Addr) (H0 : Hp) (h0 : Heap) (f c' : Addr) (q : Str) (t : XK → Hp → VK → Prop) : Prop where
  obj : ∃ (params : Arguments) (body : Expr) (scope : Scope) (cl : List (Str × Addr)) (pm ctv : Value), h0.get? f = some (PySem.W.kla_obj "<lambda>" q params body scope cl pm c' ctv)
  free : H0 f = none
  out : f ∉ fs
  run : ∀ (A : Around) (outer : List Env) (s1 : Shared) (HZ : Hp) (Q : VK) (E : XK), Room (k + 1) A → Env0 P w K mg base A outer s1 HZ → Un fs [] H0 HZ h0 s1.heap → HZ c' = some (CodeO c' q) → t E HZ Q →
    codeAny (model P w) A (.call (.ref f) ⟨[], []⟩) (CR (L2.CX P w) outer P w HZ s1 Q E) s1
section
variable {X : Cx} {pins : List (Addr × Obj)} {σ : L2.St} {H : Hp} {s : Shared}
theorem work_of {k : Nat} {f c' : Addr} {pm ctv : Value} {params : Arguments} {body : Expr} {scope : Scope} {tb : XK → TE} (I : Inv X pins σ H s) (L : LamS X.env.scope scope)
    (hf : s.heap.get? f = some (PySem.W.kla_obj "<lambda>" (X.env.qual ++ "<lambda>") params body scope (cloFrom X.env.cells scope.names []) pm c' ctv)) (hfn : H f = none) (hfr : f ∉ frs X.stack)
    (hbind : bindArgs (PySem.W.kla_fn "<lambda>" (X.env.qual ++ "<lambda>") params body scope (cloFrom X.env.cells scope.names []) pm (.ref c') ctv) ⟨[], []⟩ = pure [])
    (hbody : ∀ (A : Around) (outer : List Env) (s1 : Shared) (HZ : Hp) (E : XK), Room k (A.deeper (lamEnv X scope s1.heap.objs.size f c')) → PE (lamCx X A outer s1 HZ E scope f c') body (tb E)) :
    Work X.prog X.w X.K X.mg X.base k (frs X.stack) H s.heap f c' (X.env.qual ++ "<lambda>") (fun E HZ Q => tb E σ HZ Q) := by
  refine ⟨⟨_, _, _, _, _, _, hf⟩, hfn, hfr, fun A outer s1 HZ Q E hr e0 un hc ht => ?_⟩
  have of1 := un.keep f _ hf hfn hfr (by simp)
  obtain ⟨⟨oc, vs, t, hoc, hdc, hvc⟩, _, _⟩ := e0.hok c' _ hc
  have lim : s1.heap.NoLimit := e0.mod.nolimit.keeps fun b o e => (e0.bs b o e).1
  refine PySem.W.kla_callFunE hr.depth of1 rfl L.co L.gen rfl ⟨c', oc, vs, t, rfl, hoc, hdc, hvc⟩ ?_
  rw [hbind]
  refine wpAny_pure (wpAny_newFunctionEnv (fun y hy => (L.own y hy).2) (fun y hy => absurd hy (by simp)) (fun h₁ hns hsb => ⟨lim.fresh _ hsb, ?_⟩) L.kind)
  show codeAny _ _ (.expr body (lamEnv X scope s1.heap.objs.size f c')) _ _
  have kp : ∀ b o, s1.heap.get? b = some o → h₁.get? b = some o := fun b o e => hsb.extBut b o (Nat.ne_of_lt (Heap.lt_size e)) (Heap.get?_push_of_some _ e)
  have J : Inv (lamCx X A outer s1 HZ E scope f c') [] σ HZ { s1 with heap := h₁, toks := s1.toks + ([] : List (Str × Value)).length } := lam_start2 I L e0 hr.hd un hns kp
  refine PySem.W.kla_codeExpr (wpAny_mono ((hbody A outer s1 HZ E (hr.deeper _)).run [] _ _ HZ Q J ht) (fun v s' hq => ?_) fun e s' hq => hq)
  obtain ⟨w', H', J', rv, q⟩ := hq
  exact ⟨w', H', J'.os, J'.bare, J'.base, J'.hok, rv, q⟩
end
section
variable {Z : Cx} {k : Nat} {fs : List Addr} {H0 : Hp} {h0 : Heap} {f c' : Addr} {q : Str} {t : XK → Hp → VK → Prop}
/-- where Z stands to the making -/
structure Since (Z : Cx) (fs : List Addr) (H0 : Hp) (h0 : Heap) : Prop where
  un : Un fs [] H0 Z.H_0 h0 Z.s_0.heap
  sub : ∀ b ∈ Z.fs, b ∈ fs ∨ h0.get? b = none
  ex : Z.ex = []
theorem Since.now {pins : List (Addr × Obj)} {σ : L2.St} {H : Hp} {s : Shared} (S : Since Z fs H0 h0) (I : Inv Z pins σ H s) : Un fs [] H0 H h0 s.heap := by
  have b := I.base
  rw [S.ex] at b
  exact un_comp S.un b S.sub
theorem Since.stk {pins : List (Addr × Obj)} {σ : L2.St} {H : Hp} {s : Shared} (S : Since Z fs H0 h0) (I : Inv Z pins σ H s) : ∀ b ∈ frs Z.stack, b ∈ fs ∨ h0.get? b = none := fun b hb => by
  rcases List.mem_cons.mp (I.stkSub b hb) with e | e
  · refine .inr ?_
    cases z : h0.get? b with
    | none => rfl
    | some o =>
      obtain ⟨o', z'⟩ := S.un.there b o z (by simp)
      have l := Heap.lt_size z'
      have a := I.ok.above
      rw [e] at l
      exact absurd l (Nat.not_lt.mpr a)
  · exact S.sub b e
/-- the slot's name is called: a work stands in it -/
theorem pe_work {i : Nat} {a : Str} {E : XK} {p1 p2 : Pos} (Wk : Work Z.prog Z.w Z.K Z.mg Z.base k fs H0 h0 f c' q t) (S : Since Z fs H0 h0) (hx : Passes (L2.CX Z.prog Z.w) Z E) (hr : Room (k + 1) Z.A) (hN : Z.N[i]? = some a) (hv : Vis Z.env.scope a)
    (hd : (a == ("__debug__" : Str)) = false := by decide) (hcd : (a == ("__classdict__" : Str)) = false := by decide) :
    PE Z (.Call (.Name a p1) [] [] p2) (fun σ H Q => σ[i]? = some (some (.ref f)) ∧ H c' = some (CodeO c' q) ∧ t E H Q) := by
  refine ⟨fun pins s σ H Q I h => ?_⟩
  obtain ⟨hs, hc, ht⟩ := h
  refine wpAny_Call_Name_kw (thn ((pe_var (pos := p1) (i := i) hN hv hd hcd).run pins s σ H (fun v H1 => v = .ref f ∧ H1 = H) I ⟨.ref f, hs, rfl, rfl⟩) fun u s1 ⟨v, H1, I1, r1, q1⟩ => ?_)
  obtain ⟨ev, eH⟩ := q1
  subst ev
  rw [eH] at I1
  obtain rfl : u = Value.ref f := r1
  obtain ⟨_, _, _, _, _, _, ob⟩ := Wk.obj
  have un := S.now I1
  have of1 := un.keep f _ ob Wk.free Wk.out (by simp)
  refine PySem.W.callWith_F0 ⟨_, _, _, _, of1⟩ ?_
  refine wpAny_call (codeAny_mono (Wk.run Z.A Z.stack s1 H Q E hr I1.env0 un hc ht) fun r s' hq => ?_)
  match r, hq with
  | .error e, hq => exact hx pins σ H s1 e s' I1 hq
  | .ok (.ret u), hq => exact I1.after hq
  | .ok .next, hq => exact False.elim hq
  | .ok .brk, hq => exact False.elim hq
  | .ok .cont, hq => exact False.elim hq
end
/-- the promise of a def that a work is handed to -/
structure FnW (P : Program) (w : World) (K : PySem.W.Frag) (mg : Str → Option Value) (base : Heap) (fs : List Addr) (H0 : Hp) (h0 : Heap) (CX : CXT) (k : Nat) (g : Addr) (fd : FuncData) (ps : List Str) (sp : Sp) : Prop where
  len : ∀ vs H Q E, sp vs H Q E → vs.length = ps.length
  run : ∀ (A : Around) (outer : List Env) (s : Shared) (H : Hp) (args : Args) (us : List Value) (vs : List V) (Q : VK) (E : XK), Room k A → A.guards = some [] → Env0 P w K mg base A outer s H → Un fs [] H0 H h0 s.heap → (∀ b ∈ frs outer, b ∈ fs ∨ h0.get? b = none) →
    BindsTo s fd args (ps.zip us) → Vals vs us → sp vs H Q E → codeAny (model P w) A (.call (.ref g) args) (CR CX outer P w H s Q E) s
theorem fnW_of {CX : CXT} {P : Program} {w : World} {K : PySem.W.Frag} {mg : Str → Option Value} {base : Heap} {fs : List Addr} {H0 : Hp} {h0 : Heap} {k : Nat} {f : Addr} {x qual : Str} {st : Stmt} {fd : FuncData} {N ps : List Str} {sp : Sp} (F : Fun K x qual st f fd) (S : FnScope N ps (defScope st))
    (len : ∀ vs H Q E, sp vs H Q E → vs.length = ps.length)
    (hbody : ∀ (cdv : Value) (A : Around) (outer : List Env) (s : Shared) (H : Hp) (vs : List V) (Q : VK) (E : XK), Room k (A.deeper (envOfC qual (defScope st) s.heap.objs.size f cdv)) → A.guards = some [] → Since (cxOf CX P w K mg base N qual (defScope st) f cdv A outer s H E) fs H0 h0 → sp vs H Q E →
      ∃ t, PSs (cxOf CX P w K mg base N qual (defScope st) f cdv A outer s H E) (defBody st) t ∧ t { nx := fun _ H' => Q .non H', rt := Q } (L2.start N vs) H) : FnW P w K mg base fs H0 h0 CX (k + 1) f fd ps sp := by
  obtain ⟨oc, od, kV, doc, pm, an, cdv, ct, osl, rfl, lk, hcd⟩ := F.ex
  exact ⟨len, fun A outer s H args us vs Q E hr hgd e0 un sub hb r h => run_ofS lk hcd S hr e0 hb r (len _ _ _ _ h) fun hr' => hbody cdv A outer s H vs Q E hr' hgd ⟨un, sub, rfl⟩ h⟩
section
variable {Z : Cx} {CX : CXT} {k : Nat} {fs : List Addr} {H0 : Hp} {h0 : Heap} {g : Addr} {fd : FuncData} {ps : List Str} {sp : Sp} {E : XK} {x : Str} {p pos : Pos} {e : Expr} {es : List Expr} {t : TA}
/-- x(a, ..) in a def that the work has been handed to, handed on -/
theorem pe_wcall (F : FnW Z.prog Z.w Z.K Z.mg Z.base fs H0 h0 CX k g fd ps sp) (S : Since Z fs H0 h0) (hr : Room k Z.A) (hgd : Z.A.guards = some []) (hg : Gl Z x) (hm : Z.mg x = some (.ref g)) (hk : PySem.W.keepIn Z.K (.ref g) = true) (hb : Binds Z.K fd ps []) (hx : Passes CX Z E) (ha : PA Z (e :: es) t)
    (hdb : (x == ("__debug__" : Str)) = false := by decide) (he : starEach (e :: es) Z.env = (false, eval e Z.env) :: starEach es Z.env := by rfl) (hpl : (backTo pos (starEach es Z.env)).any (·.1) = false := by rfl) :
    PE Z (.Call (.Name x p) (e :: es) [] pos) (tCall sp [] E t) := by
  refine ⟨fun pins s σ H Q I h => ?_⟩
  refine wpAny_Call_Name_kw (ld_glob I hg hm ?_ hdb)
  refine PySem.W.callWith_K (h₀ := Z.base) I.ok.mod.kin hk (thn (ha.run pos pins s σ H _ I h) fun us s1 ⟨vs, H1, I1, r, q⟩ => ⟨I1.kIn, ?_⟩) he hpl
  have q : sp (vs ++ []) H1 Q E := q
  rw [List.append_nil] at q
  have hl : us.length = ps.length := by rw [← r.length]; exact F.len _ _ _ _ q
  have bt := hb s1 us I1.kIn (by simpa using hl)
  rw [List.append_nil] at bt
  refine wpAny_call (codeAny_mono (F.run Z.A Z.stack s1 H1 ⟨us, []⟩ us vs Q E hr hgd I1.env0 (S.now I1) (S.stk I1) bt r q) fun rr s' hq => ?_)
  match rr, hq with
  | .error e, hq => exact hx pins σ H1 s1 e s' I1 hq
  | .ok (.ret u), hq => exact I1.after hq
  | .ok .next, hq => exact False.elim hq
  | .ok .brk, hq => exact False.elim hq
  | .ok .cont, hq => exact False.elim hq
end
section
variable {X : Cx} {T : List (Addr × Str)} {CX : CXT} {kb k : Nat} {g c P : Addr} {fd : FuncData} {ps : List Str} {E : XK} {x : Str} {params : Arguments} {body : Expr} {scope : Scope} {t : XK → TE} {p lpos pos : Pos} {es : List Expr} {ta : TA} {sp : Addr → Addr → (XK → Hp → VK → Prop) → Sp}
/-- x(lambda: body, ..), x a def that hands it on -/
theorem pe_lamW (FW : ∀ (H0 : Hp) (h0 : Heap) (f c' : Addr) (t' : XK → Hp → VK → Prop), Work X.prog X.w X.K X.mg X.base kb (frs X.stack) H0 h0 f c' (X.env.qual ++ "<lambda>") t' → FnW X.prog X.w X.K X.mg X.base (frs X.stack) H0 h0 CX k g fd ps (sp f c' t'))
    (hg : Gl X x) (hm : X.mg x = some (.ref g)) (hk : PySem.W.keepIn X.K (.ref g) = true) (hb : Binds X.K fd ps []) (hx : Passes CX X E) (hr : Room k X.A) (hgd : X.A.guards = some []) (TB : TabB X.base X.mg c P) (hcode : X.env.code = .ref c) (hmT : (P, X.env.qual ++ "<lambda>") ∈ T) (hu : ∀ p ∈ T, p.1 = P → p.2 = X.env.qual ++ "<lambda>")
    (L : LamS X.env.scope scope) (hdef : defaultsOf params X.env = ([], [])) (hbind : ∀ (q : Str) (cl : List (Str × Addr)) (pm cv ctv : Value), bindArgs (PySem.W.kla_fn "<lambda>" q params body scope cl pm cv ctv) ⟨[], []⟩ = pure [])
    (hbody : ∀ (A : Around) (outer : List Env) (s : Shared) (H : Hp) (E : XK) (f c' : Addr), Room kb (A.deeper (lamEnv X scope s.heap.objs.size f c')) → PE (lamCx X A outer s H E scope f c') body (t E)) (ha : PA X es ta)
    (hdb : (x == ("__debug__" : Str)) = false := by decide) (he : starEach (.Lambda params body scope lpos :: es) X.env = (false, eval (.Lambda params body scope lpos) X.env) :: starEach es X.env := by rfl) (hpl : (backTo pos (starEach es X.env)).any (·.1) = false := by rfl) :
    PE X (.Call (.Name x p) (.Lambda params body scope lpos :: es) [] pos) (fun σ H Q => Tabs T H ∧ ∀ H1, ExtN H H1 → Tabs T H1 → ∀ f c' : Addr, H1 c' = some (CodeO c' (X.env.qual ++ "<lambda>")) →
      ta σ H1 fun vs H2 => sp f c' (fun E H Q => t E σ H Q) (.ref f :: vs) H2 Q E) := by
  refine ⟨fun pins s σ H Q I h => ?_⟩
  obtain ⟨hT, h⟩ := h
  refine wpAny_Call_Name_kw (ld_glob I hg hm ?_ hdb)
  refine PySem.W.callWith_K (h₀ := X.base) I.ok.mod.kin hk ?_ he hpl
  rw [he]
  show wpAny _ _ (spliced ((false, eval (.Lambda params body scope lpos) X.env) :: backTo pos (starEach es X.env))) _ _ s
  refine Calls.spliced_cons (lam_make2 I TB hcode hmT hu hT hdef (L.has I.ok) fun f c' pm' ctv H1 s' I1 eN T1 hf hfn hfr hco => ?_)
  have fl : f ≠ X.env.locals := fun z => by
    obtain ⟨m, ⟨o, es', ep, e1, e2, _⟩, _⟩ := I1.loc
    rw [← z, hf] at e1
    cases e1
    cases e2
  have ff : f ∉ X.fs := fun z => hfr (by
    rcases I1.ok.stk with q | ⟨q, _⟩
    · rw [q]
      exact z
    · rw [q]
      obtain ⟨e, he', q'⟩ := List.mem_filterMap.mp z
      exact List.mem_filterMap.mpr ⟨e, List.mem_cons_of_mem _ he', q'⟩)
  have J1 : Inv X ((f, PySem.W.kla_obj "<lambda>" (X.env.qual ++ "<lambda>") params body scope (cloFrom X.env.cells scope.names []) pm' c' ctv) :: pins) σ H1 s' := I1.pins_of fun q hq => by
    rcases List.mem_cons.mp hq with z | z
    · rw [z]
      exact ⟨hf, hfn, fl, ff, fun v y => by cases y⟩
    · exact I1.pin q (List.mem_append_right _ z)
  refine thn (ha.run pos _ s' σ H1 _ J1 (h H1 eN T1 f c' hco)) fun us s2 ⟨vs, H2, J2, r, q⟩ => ⟨J2.kIn, ?_⟩
  have at2 := J2.pin (f, _) (List.mem_append_right _ List.mem_cons_self)
  have I2 : Inv X pins σ H2 s2 := J2.pins_of fun q hq => J2.pin q (List.mem_append_right _ (List.mem_cons_of_mem _ hq))
  have Wk := work_of (tb := t) I2 L at2.1 at2.2.1 hfr (hbind _ _ _ _ _) (fun A outer s1 HZ E hr2 => hbody A outer s1 HZ E f c' hr2)
  have F := FW H2 s2.heap f c' _ Wk
  have r2 : Vals (.ref f :: vs) (.ref f :: us) := .cons rfl r
  have hl : (Value.ref f :: us).length = ps.length := by rw [← r2.length]; exact F.len _ _ _ _ q
  have bt := hb s2 (.ref f :: us) I2.kIn (by simpa using hl)
  rw [List.append_nil] at bt
  refine wpAny_call (codeAny_mono (F.run X.A X.stack s2 H2 ⟨.ref f :: us, []⟩ (.ref f :: us) (.ref f :: vs) Q E hr hgd I2.env0 (Un.kept fun _ _ z => z) (fun b hb => .inl hb) bt r2 q) fun rr s3 hq => ?_)
  match rr, hq with
  | .error e, hq => exact hx pins σ H2 s2 e s3 I2 hq
  | .ok (.ret u), hq => exact I2.after hq
  | .ok .next, hq => exact False.elim hq
  | .ok .brk, hq => exact False.elim hq
  | .ok .cont, hq => exact False.elim hq
end
end KW
namespace KA
open PySem PySem.Spec PyProof.Rows L2 PySem.W LamX KW
/-- isinstance of an exception that is kept as a value, with fields of its own -/
def rIsD (K : PySem.W.Frag) : List V → Hp → VK → Prop := fun xs H Q => ∃ (a D d : Addr) (fs : List (Str × V)) (c : V) (cv : Value) (b : Bool), xs = [.ref a, c] ∧ H a = some (ExV (.ref D) (some d) a) ∧ H d = some (.xd fs) ∧ ExcC K D ∧ ClsV c cv ∧ PySem.W.kitOne K (.ref D) cv = some b ∧ Q (.bl b) H
def rIs3 (K : PySem.W.Frag) : List V → Hp → VK → Prop := fun xs H Q => rIs2 K xs H Q ∨ rIsD K xs H Q
section
variable {X : Cx}
theorem call_isD : CallR X (.builtin "isinstance") (rIsD X.K) := by
  intro pins s σ H xs us Q I r h
  obtain ⟨a, D, d, fs, c, cv, b, rfl, ha, hd, C, k, e, q⟩ := h
  obtain ⟨u1, u2, rfl, r1, r2⟩ := vals2 r
  cases k.eq r2
  obtain rfl : u1 = Value.ref a := r1
  obtain ⟨⟨oe, at1, z, vs, dat⟩, _⟩ := I.hok a _ ha
  obtain ⟨mA, ns, _⟩ := I.hok d _ hd
  obtain ⟨od, at2, _⟩ := lookIn_ns ns
  have J : PySem.W.InstAt s.heap a oe D (some od) := ⟨at1, z.1, by unfold PySem.W.notCls; rw [dat] <;> rfl, by rw [z.2]; exact at2⟩
  obtain ⟨cd, hc, _⟩ := any_some C.hd
  exact PySem.W.kia_one (kitx_exc (by rw [hc]; rfl) C.hg C.hk C.hs C.ha C.hn C.ht C.hm) I.kIn J e (fun z => nomatch z) fun tk => ⟨.bl b, H, I.tok tk, rfl, q⟩
theorem call_is3 : CallR X (.builtin "isinstance") (rIs3 X.K) := by
  intro pins s σ H xs us Q I r h
  rcases h with h | h
  · exact call_is2 pins s σ H xs us Q I r h
  · exact call_isD pins s σ H xs us Q I r h
end
/-- caught, of a work that was handed on: at f, its code object at c' -/
def spCaughtW (K : PySem.W.Frag) (CS : Addr) (f c' : Addr) (q : Str) (t : XK → Hp → VK → Prop) : Sp := fun vs H Q _ => vs = [.ref f] ∧ H c' = some (CodeO c' q) ∧ TCaught K CS t H Q
theorem caught_work {P : Program} {w : World} {K : PySem.W.Frag} {mg : Str → Option Value} {base : Heap} {fs : List Addr} {H0 : Hp} {h0 : Heap} {k : Nat} {f c' : Addr} {q : Str} {t : XK → Hp → VK → Prop} {g : Addr} {fd : FuncData} {x a e n m : Str} {st : Stmt} {CS : Addr} {j1 : Nat} {p1 p2 p3 p4 p5 p6 p7 p8 p9 pa pb pc pd pe : Pos}
    (Wk : Work P w K mg base k fs H0 h0 f c' q t) (F : Fun K x x st g fd) (S : FnScope [a, m, n] [a] (defScope st))
    (hb : defBody st = [.Assign [.Name m p1] (.Constant .none j1 p2) p3,
       .Try [.Expr (.Call (.Name a p4) [] [] p5) p6] [.ExceptHandler (some (.Name e p7)) (some n) [.Assign [.Name m p8] (.Name n p9) pa] pb] [] [] pc,
       .Return (some (.Name m pd)) pe])
    (la : (defScope st).names.lookup a = some .local) (lm : (defScope st).names.lookup m = some .local) (ln : (defScope st).names.lookup n = some .local) (he : (defScope st).names.lookup e = some .globalImplicit) (hme : mg e = some (.ref CS)) (hde : (e == ("__debug__" : Str)) = false)
    (d0 : (a == ("__debug__" : Str)) = false) (d00 : (a == ("__classdict__" : Str)) = false) (d1 : (n == ("__debug__" : Str)) = false) (d2 : (n == ("__classdict__" : Str)) = false) (d3 : (m == ("__debug__" : Str)) = false) (d4 : (m == ("__classdict__" : Str)) = false) :
    FnW P w K mg base fs H0 h0 (L2.CX P w) (k + 2) g fd [a] (spCaughtW K CS f c' q t) := by
  refine fnW_of F S (fun vs H Q E h => by rw [h.1]; rfl) (fun cdv A outer s H vs Q E hr _ Sn h => ?_)
  obtain ⟨rfl, hc, hT⟩ := h
  rw [hb]
  refine ⟨_, pss_cons (ps_set (i := 1) S.nd rfl (.inl lm) pe_non) (pss_cons (ps_try_keep (c := .ref CS) (i := 2) (j := 1)
      (tb := fun W D σ H => ∃ Eb : XK, (∀ cls d σ' H', Eb cls d H' → W cls d σ' H') ∧ σ[0]? = some (some (.ref f)) ∧ H c' = some (CodeO c' q) ∧ t Eb H (fun _ H' => D.nx σ H'))
      rfl rfl rfl S.nd rfl rfl ln lm ⟨he, hde, .inl hme⟩ d1 d2 (fun W pn xe tk _ => ?_))
    (pss_one (ps_ret (pe_var (i := 1) rfl (.inl lm) d3 d4)))), ?_⟩
  · refine ⟨fun pins s' σ H' D I h' => ?_⟩
    obtain ⟨Eb, wish, h1, h2, h3⟩ := h'
    exact (pss_one (ps_expr (pe_work (Z := (cxOf (L2.CX P w) P w K mg base [a, m, n] x (defScope st) g cdv A outer s H E).tr pn xe) (i := 0) Wk ⟨Sn.un, Sn.sub, Sn.ex⟩ (passes_call tk wish) hr rfl (.inl la) d0 d00))).run pins s' σ H' D I ⟨h1, h2, h3⟩
  · refine ⟨fun cls d H' => PySem.W.exmOne K cls (.ref CS) = some true ∧ ∀ b, H' b = none → Q (.ref b) (upd H' b (ExV cls d b)), fun cls d σ' H' ⟨e1, e2⟩ => ⟨e1, fun b hb hl => ?_⟩, rfl, hc, ?_⟩
    · match σ', hl with
      | [u, v, z], _ => exact ⟨_, rfl, e2 b hb⟩
    · exact hT _ fun v H' z => ⟨_, rfl, z⟩
end KA
namespace KL
open PySem PySem.Spec PyProof.Rows L2 PySem.W LamX KA KW
/-! ### a lambda without parameters as a value: kept in a list, a local name, and called later by a def it is handed to -/
/-- the lambda at f, its code object at c', as the def with the frame env made it -/
def LamO (env : Env) (params : Arguments) (body : Expr) (scope : Scope) (f c' : Addr) : HO :=
  .ext fun h => ∃ pm ctv : Value, h.get? f = some (PySem.W.kla_obj "<lambda>" (env.qual ++ "<lambda>") params body scope (cloFrom env.cells scope.names []) pm c' ctv)
theorem lamO_tbl {env : Env} {params : Arguments} {body : Expr} {scope : Scope} {f c' : Addr} (ps : Array Value) : LamO env params body scope f c' ≠ .tbl ps := fun z => by
  unfold LamO at z
  cases z
theorem lamO_lst {env : Env} {params : Arguments} {body : Expr} {scope : Scope} {f c' : Addr} (xs : List V) : LamO env params body scope f c' ≠ .lst xs := fun z => by
  unfold LamO at z
  cases z
section
variable {X : Cx} {pins : List (Addr × Obj)} {σ : L2.St} {H : Hp} {s : Shared}
theorem laidLam {env : Env} {params : Arguments} {body : Expr} {scope : Scope} {c' : Addr} {pm ctv : Value} {h' : Heap} {tk : Nat} (I : Inv X pins σ H { s with heap := h', toks := tk }) :
    Inv X pins σ (upd H h'.objs.size (LamO env params body scope h'.objs.size c')) { s with heap := h'.push (PySem.W.kla_obj "<lambda>" (env.qual ++ "<lambda>") params body scope (cloFrom env.cells scope.names []) pm c' ctv), toks := tk } :=
  I.laid (t' := tk) (fun b o e => Heap.get?_push_of_some _ e) (Nat.le_refl _) ⟨⟨pm, ctv, Heap.get?_push_size _ rfl⟩, ⟨_, Heap.get?_push_size _ rfl⟩, fun h1 h2 ⟨a, b, e⟩ st => ⟨a, b, st _ e⟩⟩
/-- it is made: a value of the heap -/
theorem lam_valF {T : List (Addr × Str)} {c P : Addr} {params : Arguments} {body : Expr} {scope : Scope} {pos : Pos} {E Q : Value → Shared → Prop} (I : Inv X pins σ H s) (TB : TabB X.base X.mg c P) (hcode : X.env.code = .ref c)
    (mem : (P, X.env.qual ++ "<lambda>") ∈ T) (one : ∀ p ∈ T, p.1 = P → p.2 = X.env.qual ++ "<lambda>") (hT : Tabs T H) (hdef : defaultsOf params X.env = ([], [])) (hfree : ∀ y ∈ scope.names, y.2 = .free → ∃ c, X.env.cells.lookup y.1 = some c)
    (k : ∀ (f c' : Addr) (H1 : Hp) (s' : Shared), ExtN H H1 → Tabs T H1 → H1 f = none → H1 c' = some (CodeO c' (X.env.qual ++ "<lambda>")) → Inv X pins σ (upd H1 f (LamO X.env params body scope f c')) s' → Q (.ref f) s') :
    wpAny (model X.prog X.w) X.A (eval (.Lambda params body scope pos) X.env) Q E s := by
  obtain ⟨tb, atP, tri, amg⟩ := hT _ mem
  have clo := closure_ok hfree
  have glob := I.mod.glob.keeps I.bk
  have code := TB.code.keeps I.bk
  have raw : s.heap.get? P = some { cls := .none, data := .fields tb } := I.hok P _ atP
  have bm := TB.bm.keeps I.bk
  refine PySem.W.kla_eval hdef ?_
  cases found : codeAmong pos tb.toList with
  | some cv =>
    obtain ⟨c', rfl, hco⟩ := amg pos cv found
    refine PySem.W.kla_makeFunctionHit clo I.ok.glob glob hcode code raw tri found bm ?_
    intro ctv h' tk hx hsz
    have J : Inv X pins σ H { s with heap := h', toks := tk } := I.kept fun b o e => hx b o e
    exact k _ c' H _ (ExtN.refl H) hT (I.hok.fresh hsz) hco (laidLam J)
  | none =>
    refine PySem.W.kla_makeFunction clo I.ok.glob glob hcode code raw tri found TB.gP bm ?_
    intro c' ctv h' tk hx hge hlt rec tbl
    obtain ⟨c2, oc, vs, t, ec, hoc, hd, hv⟩ := rec
    cases ec
    have free : H c' = none := I.hok.fresh hge
    have ne : P ≠ c' := ne_of_none atP free
    have J := inv_table (t' := tk) (more := #[rawInt pos.line, rawInt pos.col, .ref c']) (h' := h') I atP hx tbl hge ⟨oc, vs, t, hoc, hd, hv⟩
    generalize hH : upd (upd H P (.tbl (tb ++ #[rawInt pos.line, rawInt pos.col, .ref c']))) c' (CodeO c' (X.env.qual ++ "<lambda>")) = H1 at J
    have at1 : H1 c' = some (CodeO c' (X.env.qual ++ "<lambda>")) := by rw [← hH, upd_same]
    have at2 : H1 P = some (.tbl (tb ++ #[rawInt pos.line, rawInt pos.col, .ref c'])) := by rw [← hH, upd_ne ne, upd_same]
    have at3 : ∀ b, b ≠ P → b ≠ c' → H1 b = H b := fun b h1 h2 => by rw [← hH, upd_ne h2, upd_ne h1]
    have ext : ExtN H H1 := fun b o e n => by
      rw [at3 b (fun z => n tb (Option.some.inj (e.symm.trans (z ▸ atP)))) (ne_of_none e free)]
      exact e
    have eL : (tb ++ #[rawInt pos.line, rawInt pos.col, .ref c']).toList = tb.toList ++ [rawInt pos.line, rawInt pos.col, .ref c'] := by simp
    refine k _ c' H1 _ ext (fun p hp => ?_) (J.hok.fresh (Nat.le_refl _)) at1 (laidLam J)
    by_cases hb : p.1 = P
    · rw [one p hp hb, hb]
      refine ⟨_, at2, eL ▸ PySem.TriplesOk_snoc _ _ _ _ tri, fun p' cv hcv => ?_⟩
      rw [eL] at hcv
      cases among_app _ tri hcv with
      | inl z =>
        obtain ⟨c0, e1, e2⟩ := amg p' cv z
        exact ⟨c0, e1, ext _ _ e2 codeO_ne⟩
      | inr z => exact ⟨c', z, at1⟩
    · obtain ⟨ps', a1, a2, a3⟩ := hT p hp
      refine ⟨ps', (at3 p.1 hb (ne_of_none a1 free)).trans a1, a2, fun p' cv hcv => ?_⟩
      obtain ⟨c0, e1, e2⟩ := a3 p' cv hcv
      exact ⟨c0, e1, ext _ _ e2 codeO_ne⟩
end
def tLamV (T : List (Addr × Str)) (env : Env) (params : Arguments) (body : Expr) (scope : Scope) : TE := fun _ H Q => Tabs T H ∧ ∀ H1, ExtN H H1 → Tabs T H1 → ∀ f c' : Addr, H1 f = none → H1 c' = some (CodeO c' (env.qual ++ "<lambda>")) → Q (.ref f) (upd H1 f (LamO env params body scope f c'))
theorem pe_lamV {X : Cx} {T : List (Addr × Str)} {c P : Addr} {params : Arguments} {body : Expr} {scope : Scope} {pos : Pos} (TB : TabB X.base X.mg c P) (hcode : X.env.code = .ref c) (mem : (P, X.env.qual ++ "<lambda>") ∈ T) (one : ∀ p ∈ T, p.1 = P → p.2 = X.env.qual ++ "<lambda>")
    (L : LamS X.env.scope scope) (hdef : defaultsOf params X.env = ([], [])) : PE X (.Lambda params body scope pos) (tLamV T X.env params body scope) := by
  refine ⟨fun pins s σ H Q I h => ?_⟩
  obtain ⟨hT, h⟩ := h
  exact lam_valF I TB hcode mem one hT hdef (L.has I.ok) fun f c' H1 s' ext T1 fr co J => ⟨.ref f, _, J, rfl, h H1 ext T1 f c' fr co⟩
/-- the same, of a lambda with names of its own, which uses none of the def's -/
theorem pe_lamVF {X : Cx} {T : List (Addr × Str)} {c P : Addr} {params : Arguments} {body : Expr} {scope : Scope} {pos : Pos} (TB : TabB X.base X.mg c P) (hcode : X.env.code = .ref c) (mem : (P, X.env.qual ++ "<lambda>") ∈ T) (one : ∀ p ∈ T, p.1 = P → p.2 = X.env.qual ++ "<lambda>")
    (hn : ∀ y ∈ scope.names, y.2 ≠ .free) (hdef : defaultsOf params X.env = ([], [])) : PE X (.Lambda params body scope pos) (tLamV T X.env params body scope) := by
  refine ⟨fun pins s σ H Q I h => ?_⟩
  obtain ⟨hT, h⟩ := h
  exact lam_valF I TB hcode mem one hT hdef (fun y hy e => absurd e (hn y hy)) fun f c' H1 s' ext T1 fr co J => ⟨.ref f, _, J, rfl, h H1 ext T1 f c' fr co⟩
/-- what is known of a lambda that was handed on: pre tells that it stands, t what its call promises -/
structure WorkL (P : Program) (w : World) (K : PySem.W.Frag) (mg : Str → Option Value) (base : Heap) (k : Nat) (fs : List Addr) (H0 : Hp) (h0 : Heap) (f : Addr) (pre : Hp → Prop) (t : XK → Hp → VK → Prop) : Prop where
  fn : ∀ (HZ : Hp) (h1 : Heap), HOk P w HZ h1 → pre HZ → ∃ (qual : Str) (params : Arguments) (body : Expr) (scope : Scope) (cl : List (Str × Addr)) (pm : Value) (c' : Addr) (ctv : Value), h1.get? f = some (PySem.W.kla_obj "<lambda>" qual params body scope cl pm c' ctv)
  run : ∀ (A : Around) (outer : List Env) (s1 : Shared) (HZ : Hp) (Q : VK) (E : XK), Room (k + 1) A → Env0 P w K mg base A outer s1 HZ → Un fs [] H0 HZ h0 s1.heap → pre HZ → t E HZ Q →
    codeAny (model P w) A (.call (.ref f) ⟨[], []⟩) (CR (L2.CX P w) outer P w HZ s1 Q E) s1
section
variable {X : Cx} {pins : List (Addr × Obj)} {σ : L2.St} {H : Hp} {s : Shared}
theorem work_ofL {k : Nat} {f c' : Addr} {params : Arguments} {body : Expr} {scope : Scope} {tb : XK → TE} (I : Inv X pins σ H s) (L : LamS X.env.scope scope)
    (hbind : ∀ (q : Str) (cl : List (Str × Addr)) (pm cv ctv : Value), bindArgs (PySem.W.kla_fn "<lambda>" q params body scope cl pm cv ctv) ⟨[], []⟩ = pure [])
    (hbody : ∀ (A : Around) (outer : List Env) (s1 : Shared) (HZ : Hp) (E : XK), Room k (A.deeper (lamEnv X scope s1.heap.objs.size f c')) → PE (lamCx X A outer s1 HZ E scope f c') body (tb E)) :
    WorkL X.prog X.w X.K X.mg X.base k (frs X.stack) H s.heap f (fun HZ => HZ f = some (LamO X.env params body scope f c') ∧ HZ c' = some (CodeO c' (X.env.qual ++ "<lambda>"))) (fun E HZ Q => tb E σ HZ Q) := by
  refine ⟨fun HZ h1 ok pre => ?_, fun A outer s1 HZ Q E hr e0 un pre ht => ?_⟩
  · obtain ⟨⟨pm, ctv, e⟩, _⟩ := ok f _ pre.1
    exact ⟨_, _, _, _, _, _, _, _, e⟩
  · obtain ⟨pf, pc⟩ := pre
    obtain ⟨⟨pm, ctv, of1⟩, _⟩ := e0.hok f _ pf
    obtain ⟨⟨oc, vs, t, hoc, hdc, hvc⟩, _⟩ := e0.hok c' _ pc
    have lim : s1.heap.NoLimit := e0.mod.nolimit.keeps fun b o e => (e0.bs b o e).1
    refine PySem.W.kla_callFunE hr.depth of1 rfl L.co L.gen rfl ⟨c', oc, vs, t, rfl, hoc, hdc, hvc⟩ ?_
    rw [hbind]
    refine wpAny_pure (wpAny_newFunctionEnv (fun y hy => (L.own y hy).2) (fun y hy => absurd hy (by simp)) (fun h₁ hns hsb => ⟨lim.fresh _ hsb, ?_⟩) L.kind)
    show codeAny _ _ (.expr body (lamEnv X scope s1.heap.objs.size f c')) _ _
    have keep : ∀ b o, s1.heap.get? b = some o → h₁.get? b = some o := fun b o e => hsb.extBut b o (Nat.ne_of_lt (Heap.lt_size e)) (Heap.get?_push_of_some _ e)
    have J : Inv (lamCx X A outer s1 HZ E scope f c') [] σ HZ { s1 with heap := h₁, toks := s1.toks + ([] : List (Str × Value)).length } := lam_start2 I L e0 hr.hd un hns keep
    refine PySem.W.kla_codeExpr (wpAny_mono ((hbody A outer s1 HZ E (hr.deeper _)).run [] _ _ HZ Q J ht) (fun v s' hq => ?_) fun e s' hq => hq)
    obtain ⟨w', H', J', rv, q⟩ := hq
    exact ⟨w', H', J'.os, J'.bare, J'.base, J'.hok, rv, q⟩
end
section
variable {Z : Cx} {k : Nat} {fs : List Addr} {H0 : Hp} {h0 : Heap} {f : Addr} {pre : Hp → Prop} {t : XK → Hp → VK → Prop}
theorem pe_workL {i : Nat} {a : Str} {E : XK} {p1 p2 : Pos} (Wk : WorkL Z.prog Z.w Z.K Z.mg Z.base k fs H0 h0 f pre t) (S : Since Z fs H0 h0) (hx : Passes (L2.CX Z.prog Z.w) Z E) (hr : Room (k + 1) Z.A) (hN : Z.N[i]? = some a) (hv : Vis Z.env.scope a)
    (hd : (a == ("__debug__" : Str)) = false := by decide) (hcd : (a == ("__classdict__" : Str)) = false := by decide) :
    PE Z (.Call (.Name a p1) [] [] p2) (fun σ H Q => σ[i]? = some (some (.ref f)) ∧ pre H ∧ t E H Q) := by
  refine ⟨fun pins s σ H Q I h => ?_⟩
  obtain ⟨hs, hp, ht⟩ := h
  refine wpAny_Call_Name_kw (thn ((pe_var (pos := p1) (i := i) hN hv hd hcd).run pins s σ H (fun v H1 => v = .ref f ∧ H1 = H) I ⟨.ref f, hs, rfl, rfl⟩) fun u s1 ⟨v, H1, I1, r1, q1⟩ => ?_)
  obtain ⟨rfl, rfl⟩ := q1
  obtain rfl : u = Value.ref f := r1
  obtain ⟨_, _, _, _, _, _, _, _, ob⟩ := Wk.fn H1 s1.heap I1.hok hp
  refine PySem.W.callWith_F0 ⟨_, _, _, _, ob⟩ ?_
  refine wpAny_call (codeAny_mono (Wk.run Z.A Z.stack s1 H1 Q E hr I1.env0 (S.now I1) hp ht) fun r s' hq => ?_)
  match r, hq with
  | .error e, hq => exact hx pins σ H1 s1 e s' I1 hq
  | .ok (.ret u), hq => exact I1.after hq
  | .ok .next, hq => exact False.elim hq
  | .ok .brk, hq => exact False.elim hq
  | .ok .cont, hq => exact False.elim hq
end
/-- caught, of such a lambda -/
def spCaughtL (K : PySem.W.Frag) (CS : Addr) (f : Addr) (pre : Hp → Prop) (t : XK → Hp → VK → Prop) : Sp := fun vs H Q _ => vs = [.ref f] ∧ pre H ∧ TCaught K CS t H Q
theorem caught_workL {P : Program} {w : World} {K : PySem.W.Frag} {mg : Str → Option Value} {base : Heap} {fs : List Addr} {H0 : Hp} {h0 : Heap} {k : Nat} {f : Addr} {pre : Hp → Prop} {t : XK → Hp → VK → Prop} {g : Addr} {fd : FuncData} {x a e n m : Str} {st : Stmt} {CS : Addr} {j1 : Nat} {p1 p2 p3 p4 p5 p6 p7 p8 p9 pa pb pc pd pe : Pos}
    (Wk : WorkL P w K mg base k fs H0 h0 f pre t) (F : Fun K x x st g fd) (S : FnScope [a, m, n] [a] (defScope st))
    (hb : defBody st = [.Assign [.Name m p1] (.Constant .none j1 p2) p3,
       .Try [.Expr (.Call (.Name a p4) [] [] p5) p6] [.ExceptHandler (some (.Name e p7)) (some n) [.Assign [.Name m p8] (.Name n p9) pa] pb] [] [] pc,
       .Return (some (.Name m pd)) pe])
    (la : (defScope st).names.lookup a = some .local) (lm : (defScope st).names.lookup m = some .local) (ln : (defScope st).names.lookup n = some .local) (he : (defScope st).names.lookup e = some .globalImplicit) (hme : mg e = some (.ref CS)) (hde : (e == ("__debug__" : Str)) = false)
    (d0 : (a == ("__debug__" : Str)) = false) (d00 : (a == ("__classdict__" : Str)) = false) (d1 : (n == ("__debug__" : Str)) = false) (d2 : (n == ("__classdict__" : Str)) = false) (d3 : (m == ("__debug__" : Str)) = false) (d4 : (m == ("__classdict__" : Str)) = false) :
    FnW P w K mg base fs H0 h0 (L2.CX P w) (k + 2) g fd [a] (spCaughtL K CS f pre t) := by
  refine fnW_of F S (fun vs H Q E h => by rw [h.1]; rfl) (fun cdv A outer s H vs Q E hr _ Sn h => ?_)
  obtain ⟨rfl, hp, hT⟩ := h
  rw [hb]
  refine ⟨_, pss_cons (ps_set (i := 1) S.nd rfl (.inl lm) pe_non) (pss_cons (ps_try_keep (c := .ref CS) (i := 2) (j := 1)
      (tb := fun W D σ H => ∃ Eb : XK, (∀ cls d σ' H', Eb cls d H' → W cls d σ' H') ∧ σ[0]? = some (some (.ref f)) ∧ pre H ∧ t Eb H (fun _ H' => D.nx σ H'))
      rfl rfl rfl S.nd rfl rfl ln lm ⟨he, hde, .inl hme⟩ d1 d2 (fun W pn xe tk _ => ?_))
    (pss_one (ps_ret (pe_var (i := 1) rfl (.inl lm) d3 d4)))), ?_⟩
  · refine ⟨fun pins s' σ H' D I h' => ?_⟩
    obtain ⟨Eb, wish, h1, h2, h3⟩ := h'
    exact (pss_one (ps_expr (pe_workL (Z := (cxOf (L2.CX P w) P w K mg base [a, m, n] x (defScope st) g cdv A outer s H E).tr pn xe) (i := 0) Wk ⟨Sn.un, Sn.sub, Sn.ex⟩ (passes_call tk wish) hr rfl (.inl la) d0 d00))).run pins s' σ H' D I ⟨h1, h2, h3⟩
  · refine ⟨fun cls d H' => PySem.W.exmOne K cls (.ref CS) = some true ∧ ∀ b, H' b = none → Q (.ref b) (upd H' b (ExV cls d b)), fun cls d σ' H' ⟨e1, e2⟩ => ⟨e1, fun b hb hl => ?_⟩, rfl, hp, ?_⟩
    · match σ', hl with
      | [u, v, z], _ => exact ⟨_, rfl, e2 b hb⟩
    · exact hT _ fun v H' z => ⟨_, rfl, z⟩
/-- a lambda of a def, and what its body promises -/
structure LamD where
  params : Arguments
  body : Expr
  scope : Scope
  t : XK → TE
structure LamOk (X : Cx) (kb : Nat) (l : LamD) : Prop where
  L : LamS X.env.scope l.scope
  bind : ∀ (q : Str) (cl : List (Str × Addr)) (pm cv ctv : Value), bindArgs (PySem.W.kla_fn "<lambda>" q l.params l.body l.scope cl pm cv ctv) ⟨[], []⟩ = pure []
  run : ∀ (A : Around) (outer : List Env) (s : Shared) (H : Hp) (E : XK) (f c' : Addr), Room kb (A.deeper (lamEnv X l.scope s.heap.objs.size f c')) → PE (lamCx X A outer s H E l.scope f c') l.body (l.t E)
/-- x(work): work, a name of this def, stands for one of its lambdas -/
theorem pe_callL {X : Cx} {CX : CXT} {kb k i : Nat} {g : Addr} {fd : FuncData} {ps : List Str} {E : XK} {x a : Str} {p p' pos : Pos} {sp : Addr → (Hp → Prop) → (XK → Hp → VK → Prop) → Sp} (lams : List LamD) (ok : ∀ l ∈ lams, LamOk X kb l)
    (FW : ∀ (H0 : Hp) (h0 : Heap) (f : Addr) (pre : Hp → Prop) (t' : XK → Hp → VK → Prop), WorkL X.prog X.w X.K X.mg X.base kb (frs X.stack) H0 h0 f pre t' → FnW X.prog X.w X.K X.mg X.base (frs X.stack) H0 h0 CX k g fd ps (sp f pre t'))
    (hg : Gl X x) (hm : X.mg x = some (.ref g)) (hk : PySem.W.keepIn X.K (.ref g) = true) (hb : Binds X.K fd ps []) (hx : Passes CX X E) (hr : Room k X.A) (hgd : X.A.guards = some []) (hN : X.N[i]? = some a) (hv : Vis X.env.scope a)
    (hdb : (x == ("__debug__" : Str)) = false := by decide) (hd : (a == ("__debug__" : Str)) = false := by decide) (hcd : (a == ("__classdict__" : Str)) = false := by decide)
    (he : starEach [.Name a p'] X.env = (false, eval (.Name a p') X.env) :: starEach [] X.env := by rfl) (hpl : (backTo pos (starEach [] X.env)).any (·.1) = false := by rfl) :
    PE X (.Call (.Name x p) [.Name a p'] [] pos) (fun σ H Q => ∃ l ∈ lams, ∃ f c' : Addr, σ[i]? = some (some (.ref f)) ∧ H f = some (LamO X.env l.params l.body l.scope f c') ∧ H c' = some (CodeO c' (X.env.qual ++ "<lambda>")) ∧
      sp f (fun HZ => HZ f = some (LamO X.env l.params l.body l.scope f c') ∧ HZ c' = some (CodeO c' (X.env.qual ++ "<lambda>"))) (fun E H Q => l.t E σ H Q) [.ref f] H Q E) := by
  refine ⟨fun pins s σ H Q I h => ?_⟩
  obtain ⟨l, hl, f, c', hs, hf, hc, q⟩ := h
  have O := ok l hl
  refine wpAny_Call_Name_kw (ld_glob I hg hm ?_ hdb)
  refine PySem.W.callWith_K (h₀ := X.base) I.ok.mod.kin hk ?_ he hpl
  rw [he]
  refine Calls.spliced_cons (thn ((pe_var (pos := p') (i := i) hN hv hd hcd).run pins s σ H (fun v H1 => v = .ref f ∧ H1 = H) I ⟨.ref f, hs, rfl, rfl⟩) fun u s1 ⟨v, H1, I1, r1, q1⟩ => ?_)
  obtain ⟨rfl, rfl⟩ := q1
  obtain rfl : u = Value.ref f := r1
  refine Calls.spliced_nil ⟨I1.kIn, ?_⟩
  have Wk := work_ofL (tb := l.t) (f := f) (c' := c') I1 O.L O.bind (fun A outer s2 HZ E hr2 => O.run A outer s2 HZ E f c' hr2)
  have F := FW H1 s1.heap f _ _ Wk
  have hlen : [Value.ref f].length = ps.length := by
    have := F.len _ _ _ _ q
    exact this
  have bt := hb s1 [.ref f] I1.kIn (by simpa using hlen)
  rw [List.append_nil] at bt
  refine wpAny_call (codeAny_mono (F.run X.A X.stack s1 H1 ⟨[.ref f], []⟩ [.ref f] [.ref f] Q E hr hgd I1.env0 (Un.kept fun _ _ z => z) (fun b hb => .inl hb) bt (.cons rfl .nil) q) fun rr s3 hq => ?_)
  match rr, hq with
  | .error e, hq => exact hx pins σ H1 s1 e s3 I1 hq
  | .ok (.ret u), hq => exact I1.after hq
  | .ok .next, hq => exact False.elim hq
  | .ok .brk, hq => exact False.elim hq
  | .ok .cont, hq => exact False.elim hq
end KL
namespace K08
open PySem PySem.Spec PyProof.Rows L2 PySem.W LamX KA
def top (i : Nat) : Stmt := PySem.Challenge.pw_pricedreels_k08_books_and_heads.main.body.getD i (.Pass ⟨0, 0, 0, 0⟩)
abbrev s_is_number : Stmt := top 1
theorem sc_is_number : FnScope ["thing"] ["thing"] (defScope s_is_number) := ⟨rfl, rfl, rfl, by decide +kernel, rfl, by decide +kernel, by decide +kernel⟩
abbrev s_is_within : Stmt := top 2
theorem sc_is_within : FnScope ["thing", "low", "high"] ["thing", "low", "high"] (defScope s_is_within) := ⟨rfl, rfl, rfl, by decide +kernel, rfl, by decide +kernel, by decide +kernel⟩
abbrev s_is_tuple_of : Stmt := top 3
theorem sc_is_tuple_of : FnScope ["thing", "many"] ["thing", "many"] (defScope s_is_tuple_of) := ⟨rfl, rfl, rfl, by decide +kernel, rfl, by decide +kernel, by decide +kernel⟩
abbrev s_is_bits : Stmt := top 12
theorem sc_is_bits : FnScope ["thing"] ["thing"] (defScope s_is_bits) := ⟨rfl, rfl, rfl, by decide +kernel, rfl, by decide +kernel, by decide +kernel⟩
abbrev s_check_stream : Stmt := top 13
theorem sc_check_stream : FnScope ["bits", "at"] ["bits", "at"] (defScope s_check_stream) := ⟨rfl, rfl, rfl, by decide +kernel, rfl, by decide +kernel, by decide +kernel⟩
abbrev s_in_bits : Stmt := top 14
theorem sc_in_bits : FnScope ["number", "many"] ["number", "many"] (defScope s_in_bits) := ⟨rfl, rfl, rfl, by decide +kernel, rfl, by decide +kernel, by decide +kernel⟩
abbrev s_take_fixed : Stmt := top 15
theorem sc_take_fixed : FnScope ["bits", "at", "many", "end"] ["bits", "at", "many"] (defScope s_take_fixed) := ⟨rfl, rfl, rfl, by decide +kernel, rfl, by decide +kernel, by decide +kernel⟩
abbrev s_words_of : Stmt := top 23
theorem sc_words_of : FnScope ["book", "words", "code", "reached", "length", "number", "at", "many"] ["book"] (defScope s_words_of) := ⟨rfl, rfl, rfl, by decide +kernel, rfl, by decide +kernel, by decide +kernel⟩
abbrev s_head_bits : Stmt := top 24
theorem sc_head_bits : FnScope ["head", "parts", "part"] ["head"] (defScope s_head_bits) := ⟨rfl, rfl, rfl, by decide +kernel, rfl, by decide +kernel, by decide +kernel⟩
abbrev s_read_head : Stmt := top 25
theorem sc_read_head : FnScope ["bits", "at"] ["bits", "at"] (defScope s_read_head) := ⟨rfl, rfl, rfl, by decide +kernel, rfl, by decide +kernel, by decide +kernel⟩
abbrev s_check_head : Stmt := top 26
theorem sc_check_head : FnScope ["head"] ["head"] (defScope s_check_head) := ⟨rfl, rfl, rfl, by decide +kernel, rfl, by decide +kernel, by decide +kernel⟩
abbrev s_is_book : Stmt := top 27
theorem sc_is_book : FnScope ["kind", "thing", "flat", "_", "copied", "both", "still", "length", "part"] ["kind", "thing"] (defScope s_is_book) := ⟨rfl, rfl, rfl, by decide +kernel, rfl, by decide +kernel, by decide +kernel⟩
abbrev s_take_head : Stmt := top 28
theorem sc_take_head : FnScope ["bits", "at", "end", "kind", "start", "loss", "grade", "reach", "book", "k"] ["bits", "at"] (defScope s_take_head) := ⟨rfl, rfl, rfl, by decide +kernel, rfl, by decide +kernel, by decide +kernel⟩
abbrev s__law_begun : Stmt := top 30
theorem sc__law_begun : FnScope ["_law_script", "_law_cells_here", "_law_large", "_law_cell"] ["_law_script"] (defScope s__law_begun) := ⟨rfl, rfl, rfl, by decide +kernel, rfl, by decide +kernel, by decide +kernel⟩
abbrev s__law_draw : Stmt := top 31
theorem sc__law_draw : FnScope ["_law_state", "_law_size_here", "_law_found", "_law_turn", "_law_cell", "_law_mixed"] ["_law_state", "_law_size_here"] (defScope s__law_draw) := ⟨rfl, rfl, rfl, by decide +kernel, rfl, by decide +kernel, by decide +kernel⟩
abbrev s__law_pick : Stmt := top 32
theorem sc__law_pick : FnScope ["_law_state", "_law_several"] ["_law_state", "_law_several"] (defScope s__law_pick) := ⟨rfl, rfl, rfl, by decide +kernel, rfl, by decide +kernel, by decide +kernel⟩
abbrev s__law_caught : Stmt := top 33
theorem sc__law_caught : FnScope ["_law_work", "_law_caught_here", "error"] ["_law_work"] (defScope s__law_caught) := ⟨rfl, rfl, rfl, by decide +kernel, rfl, by decide +kernel, by decide +kernel⟩
abbrev s__law_is_whole : Stmt := top 34
theorem sc__law_is_whole : FnScope ["_law_item"] ["_law_item"] (defScope s__law_is_whole) := ⟨rfl, rfl, rfl, by decide +kernel, rfl, by decide +kernel, by decide +kernel⟩
abbrev s__law_fashions : Stmt := top 35
theorem sc__law_fashions : FnScope [] [] (defScope s__law_fashions) := ⟨rfl, rfl, rfl, by decide +kernel, rfl, by decide +kernel, by decide +kernel⟩
abbrev s__law_stands : Stmt := top 36
theorem sc__law_stands : FnScope ["_law_square", "_law_fashion", "_law_sort_here", "_law_top", "_law_left", "_law_found"] ["_law_square", "_law_fashion", "_law_sort_here"] (defScope s__law_stands) := ⟨rfl, rfl, rfl, by decide +kernel, rfl, by decide +kernel, by decide +kernel⟩
abbrev s__law_two : Stmt := top 37
theorem sc__law_two : FnScope ["_law_size_here", "_law_found", "_law_turn"] ["_law_size_here"] (defScope s__law_two) := ⟨rfl, rfl, rfl, by decide +kernel, rfl, by decide +kernel, by decide +kernel⟩
abbrev s__law_twos : Stmt := top 38
theorem sc__law_twos : FnScope ["_law_item", "_law_size_here", "_law_found", "_law_turn"] ["_law_item", "_law_size_here"] (defScope s__law_twos) := ⟨rfl, rfl, rfl, by decide +kernel, rfl, by decide +kernel, by decide +kernel⟩
abbrev s__law_words : Stmt := top 39
theorem sc__law_words : FnScope ["_law_lengths_here", "_law_fashions_here", "_law_spot", "_law_size_here", "_law_some", "_law_found", "_law_told", "_law_before"] ["_law_lengths_here"] (defScope s__law_words) := ⟨rfl, rfl, rfl, by decide +kernel, rfl, by decide +kernel, by decide +kernel⟩
abbrev s__law_lengths : Stmt := top 40
theorem sc__law_lengths : FnScope ["_law_state", "_law_sort_here", "_law_some", "_law_found", "_law_spot"] ["_law_state", "_law_sort_here"] (defScope s__law_lengths) := ⟨rfl, rfl, rfl, by decide +kernel, rfl, by decide +kernel, by decide +kernel⟩
abbrev s__law_crown : Stmt := top 41
theorem sc__law_crown : FnScope ["_law_state", "_law_sort_here", "_law_slack", "_law_found"] ["_law_state", "_law_sort_here", "_law_slack"] (defScope s__law_crown) := ⟨rfl, rfl, rfl, by decide +kernel, rfl, by decide +kernel, by decide +kernel⟩
abbrev s__law_head : Stmt := top 42
theorem sc__law_head : FnScope ["_law_crown_here"] ["_law_crown_here"] (defScope s__law_head) := ⟨rfl, rfl, rfl, by decide +kernel, rfl, by decide +kernel, by decide +kernel⟩
abbrev s__law_head_signs : Stmt := top 43
theorem sc__law_head_signs : FnScope ["_law_crown_here", "_law_found", "_law_item"] ["_law_crown_here"] (defScope s__law_head_signs) := ⟨rfl, rfl, rfl, by decide +kernel, rfl, by decide +kernel, by decide +kernel⟩
abbrev s__law_is_book : Stmt := top 44
theorem sc__law_is_book : FnScope ["_law_item", "_law_part"] ["_law_item"] (defScope s__law_is_book) := ⟨rfl, rfl, rfl, by decide +kernel, rfl, by decide +kernel, by decide +kernel⟩
abbrev s__law_due : Stmt := top 45
theorem sc__law_due : FnScope ["_law_five", "_law_words_here", "_law_word", "_law_item", "_law_most"] ["_law_five"] (defScope s__law_due) := ⟨rfl, rfl, rfl, by decide +kernel, rfl, by decide +kernel, by decide +kernel⟩
abbrev s__law_any_lengths : Stmt := top 46
theorem sc__law_any_lengths : FnScope ["_law_state", "_law_found", "_law_spot"] ["_law_state"] (defScope s__law_any_lengths) := ⟨rfl, rfl, rfl, by decide +kernel, rfl, by decide +kernel, by decide +kernel⟩
abbrev s__law_bent : Stmt := top 47
theorem sc__law_bent : FnScope ["_law_state", "_law_five", "_law_found", "_law_lap", "_law_spot", "_law_some"] ["_law_state", "_law_five"] (defScope s__law_bent) := ⟨rfl, rfl, rfl, by decide +kernel, rfl, by decide +kernel, by decide +kernel⟩
abbrev s__law_words_right : Stmt := top 48
theorem sc__law_words_right : FnScope ["_law_lengths_here", "_law_found", "_law_due_here", "_law_order", "_law_one", "_law_each", "_law_other"] ["_law_lengths_here"] (defScope s__law_words_right) := ⟨rfl, rfl, rfl, by decide +kernel, rfl, by decide +kernel, by decide +kernel⟩
abbrev s__law_read_right : Stmt := top 49
theorem sc__law_read_right : FnScope ["_law_state", "_law_signs", "_law_crown_here", "_law_spot", "_law_front", "_law_told", "_law_part", "_law_size_here", "_law_five", "_law_index", "_law_size_one", "_law_caught_here", "_law_whole", "_law_k", "_law_sign"] ["_law_state", "_law_signs", "_law_crown_here"] (defScope s__law_read_right) := ⟨rfl, rfl, rfl, by decide +kernel, rfl, by decide +kernel, by decide +kernel⟩
abbrev s_law : Stmt := top 50
theorem sc_law : FnScope ["_law_script", "_law_turn", "_law_crown_here", "_law_made", "_law_due_here", "_law_caught_here", "_law_bent_here", "_law_five", "_law_lengths_here", "_law_odd", "_law_signs", "_law_state"] ["_law_script"] (defScope s_law) := ⟨rfl, rfl, rfl, by decide +kernel, rfl, by decide +kernel, by decide +kernel⟩
/-- what stands in a class -/
def inClass (st : Stmt) (i : Nat) : Stmt := match st with
  | .ClassDef _ _ _ body _ _ _ _ _ _ _ => body.getD i (.Pass ⟨0, 0, 0, 0⟩)
  | _ => .Pass ⟨0, 0, 0, 0⟩
abbrev s_Head_init : Stmt := inClass (top 22) 0
abbrev s_Head_eq : Stmt := inClass (top 22) 1
theorem sc_Head_eq : FnScope ["self", "other"] ["self", "other"] (defScope s_Head_eq) := ⟨rfl, rfl, rfl, by decide +kernel, rfl, by decide +kernel, by decide +kernel⟩
theorem sc_Head_init : FnScope ["self", "kind", "loss", "grade", "reach", "book"] ["self", "kind", "loss", "grade", "reach", "book"] (defScope s_Head_init) := ⟨rfl, rfl, rfl, by decide +kernel, rfl, by decide +kernel, by decide +kernel⟩
/-- what the top has written -/
structure Top (K : PySem.W.Frag) (mg : Str → Option Value) where
  reel : ReelT K mg
  BadAt : ExcT K mg "BadAt" reel.C
  BadBits : ExcT K mg "BadBits" reel.C
  BadBook : ExcT K mg "BadBook" reel.C
  is_number : DefT K mg "is_number" s_is_number
  is_within : DefT K mg "is_within" s_is_within
  is_tuple_of : DefT K mg "is_tuple_of" s_is_tuple_of
  is_bits : DefT K mg "is_bits" s_is_bits
  check_stream : DefT K mg "check_stream" s_check_stream
  in_bits : DefT K mg "in_bits" s_in_bits
  take_fixed : DefT K mg "take_fixed" s_take_fixed
  words_of : DefT K mg "words_of" s_words_of
  head_bits : DefT K mg "head_bits" s_head_bits
  read_head : DefT K mg "read_head" s_read_head
  check_head : DefT K mg "check_head" s_check_head
  is_book : DefT K mg "is_book" s_is_book
  take_head : DefT K mg "take_head" s_take_head
  _law_begun : DefT K mg "_law_begun" s__law_begun
  _law_draw : DefT K mg "_law_draw" s__law_draw
  _law_pick : DefT K mg "_law_pick" s__law_pick
  _law_caught : DefT K mg "_law_caught" s__law_caught
  _law_is_whole : DefT K mg "_law_is_whole" s__law_is_whole
  _law_fashions : DefT K mg "_law_fashions" s__law_fashions
  _law_stands : DefT K mg "_law_stands" s__law_stands
  _law_two : DefT K mg "_law_two" s__law_two
  _law_twos : DefT K mg "_law_twos" s__law_twos
  _law_words : DefT K mg "_law_words" s__law_words
  _law_lengths : DefT K mg "_law_lengths" s__law_lengths
  _law_crown : DefT K mg "_law_crown" s__law_crown
  _law_head : DefT K mg "_law_head" s__law_head
  _law_head_signs : DefT K mg "_law_head_signs" s__law_head_signs
  _law_is_book : DefT K mg "_law_is_book" s__law_is_book
  _law_due : DefT K mg "_law_due" s__law_due
  _law_any_lengths : DefT K mg "_law_any_lengths" s__law_any_lengths
  _law_bent : DefT K mg "_law_bent" s__law_bent
  _law_words_right : DefT K mg "_law_words_right" s__law_words_right
  _law_read_right : DefT K mg "_law_read_right" s__law_read_right
  law : DefT K mg "law" s_law
  cLONGEST_WORD : CstT mg "LONGEST_WORD" (7)
  cBITS_OF_KIND : CstT mg "BITS_OF_KIND" (2)
  cBITS_OF_PART : CstT mg "BITS_OF_PART" (3)
  cBITS_OF_HEAD : CstT mg "BITS_OF_HEAD" (35)
  b_isinstance : mg "isinstance" = none
  b_int : mg "int" = none
  b_bool : mg "bool" = none
  b_str : mg "str" = none
  b_len : mg "len" = none
  b_abs : mg "abs" = none
  b_range : mg "range" = none
  b_min : mg "min" = none
  b_max : mg "max" = none
  b_repr : mg "repr" = none
  b_list : mg "list" = none
  b_tuple : mg "tuple" = none
  b_all : mg "all" = none
  b_sum : mg "sum" = none
  b_zip : mg "zip" = none
  b_sorted : mg "sorted" = none
  b_enumerate : mg "enumerate" = none
  b_ValueError : mg "ValueError" = none
section
variable {K : PySem.W.Frag} {mg : Str → Option Value}
theorem bd_is_number (T : Top K mg) : Binds K T.is_number.d ["thing"] [] := T.is_number.f.binds fun _ _ _ _ _ _ us hl => match us, hl with | [_], _ => rfl
theorem bd_is_within (T : Top K mg) : Binds K T.is_within.d ["thing", "low", "high"] [] := T.is_within.f.binds fun _ _ _ _ _ _ us hl => match us, hl with | [_, _, _], _ => rfl
theorem bd_is_tuple_of (T : Top K mg) : Binds K T.is_tuple_of.d ["thing", "many"] [] := T.is_tuple_of.f.binds fun _ _ _ _ _ _ us hl => match us, hl with | [_, _], _ => rfl
theorem bd_is_bits (T : Top K mg) : Binds K T.is_bits.d ["thing"] [] := T.is_bits.f.binds fun _ _ _ _ _ _ us hl => match us, hl with | [_], _ => rfl
theorem bd_check_stream (T : Top K mg) : Binds K T.check_stream.d ["bits", "at"] [] := T.check_stream.f.binds fun _ _ _ _ _ _ us hl => match us, hl with | [_, _], _ => rfl
theorem bd_in_bits (T : Top K mg) : Binds K T.in_bits.d ["number", "many"] [] := T.in_bits.f.binds fun _ _ _ _ _ _ us hl => match us, hl with | [_, _], _ => rfl
theorem bd_take_fixed (T : Top K mg) : Binds K T.take_fixed.d ["bits", "at", "many"] [] := T.take_fixed.f.binds fun _ _ _ _ _ _ us hl => match us, hl with | [_, _, _], _ => rfl
theorem bd_words_of (T : Top K mg) : Binds K T.words_of.d ["book"] [] := T.words_of.f.binds fun _ _ _ _ _ _ us hl => match us, hl with | [_], _ => rfl
theorem bd_head_bits (T : Top K mg) : Binds K T.head_bits.d ["head"] [] := T.head_bits.f.binds fun _ _ _ _ _ _ us hl => match us, hl with | [_], _ => rfl
theorem bd_read_head (T : Top K mg) : Binds K T.read_head.d ["bits", "at"] [] := T.read_head.f.binds fun _ _ _ _ _ _ us hl => match us, hl with | [_, _], _ => rfl
theorem bd_check_head (T : Top K mg) : Binds K T.check_head.d ["head"] [] := T.check_head.f.binds fun _ _ _ _ _ _ us hl => match us, hl with | [_], _ => rfl
theorem bd_is_book (T : Top K mg) : Binds K T.is_book.d ["kind", "thing"] [] := T.is_book.f.binds fun _ _ _ _ _ _ us hl => match us, hl with | [_, _], _ => rfl
theorem bd_take_head (T : Top K mg) : Binds K T.take_head.d ["bits", "at"] [] := T.take_head.f.binds fun _ _ _ _ _ _ us hl => match us, hl with | [_, _], _ => rfl
theorem bd__law_begun (T : Top K mg) : Binds K T._law_begun.d ["_law_script"] [] := T._law_begun.f.binds fun _ _ _ _ _ _ us hl => match us, hl with | [_], _ => rfl
theorem bd__law_draw (T : Top K mg) : Binds K T._law_draw.d ["_law_state", "_law_size_here"] [] := T._law_draw.f.binds fun _ _ _ _ _ _ us hl => match us, hl with | [_, _], _ => rfl
theorem bd__law_pick (T : Top K mg) : Binds K T._law_pick.d ["_law_state", "_law_several"] [] := T._law_pick.f.binds fun _ _ _ _ _ _ us hl => match us, hl with | [_, _], _ => rfl
theorem bd__law_caught (T : Top K mg) : Binds K T._law_caught.d ["_law_work"] [] := T._law_caught.f.binds fun _ _ _ _ _ _ us hl => match us, hl with | [_], _ => rfl
theorem bd__law_is_whole (T : Top K mg) : Binds K T._law_is_whole.d ["_law_item"] [] := T._law_is_whole.f.binds fun _ _ _ _ _ _ us hl => match us, hl with | [_], _ => rfl
theorem bd__law_fashions (T : Top K mg) : Binds K T._law_fashions.d [] [] := T._law_fashions.f.binds fun _ _ _ _ _ _ us hl => match us, hl with | [], _ => rfl
theorem bd__law_stands (T : Top K mg) : Binds K T._law_stands.d ["_law_square", "_law_fashion", "_law_sort_here"] [] := T._law_stands.f.binds fun _ _ _ _ _ _ us hl => match us, hl with | [_, _, _], _ => rfl
theorem bd__law_two (T : Top K mg) : Binds K T._law_two.d ["_law_size_here"] [] := T._law_two.f.binds fun _ _ _ _ _ _ us hl => match us, hl with | [_], _ => rfl
theorem bd__law_twos (T : Top K mg) : Binds K T._law_twos.d ["_law_item", "_law_size_here"] [] := T._law_twos.f.binds fun _ _ _ _ _ _ us hl => match us, hl with | [_, _], _ => rfl
theorem bd__law_words (T : Top K mg) : Binds K T._law_words.d ["_law_lengths_here"] [] := T._law_words.f.binds fun _ _ _ _ _ _ us hl => match us, hl with | [_], _ => rfl
theorem bd__law_lengths (T : Top K mg) : Binds K T._law_lengths.d ["_law_state", "_law_sort_here"] [] := T._law_lengths.f.binds fun _ _ _ _ _ _ us hl => match us, hl with | [_, _], _ => rfl
theorem bd__law_crown (T : Top K mg) : Binds K T._law_crown.d ["_law_state", "_law_sort_here", "_law_slack"] [] := T._law_crown.f.binds fun _ _ _ _ _ _ us hl => match us, hl with | [_, _, _], _ => rfl
theorem bd__law_head (T : Top K mg) : Binds K T._law_head.d ["_law_crown_here"] [] := T._law_head.f.binds fun _ _ _ _ _ _ us hl => match us, hl with | [_], _ => rfl
theorem bd__law_head_signs (T : Top K mg) : Binds K T._law_head_signs.d ["_law_crown_here"] [] := T._law_head_signs.f.binds fun _ _ _ _ _ _ us hl => match us, hl with | [_], _ => rfl
theorem bd__law_is_book (T : Top K mg) : Binds K T._law_is_book.d ["_law_item"] [] := T._law_is_book.f.binds fun _ _ _ _ _ _ us hl => match us, hl with | [_], _ => rfl
theorem bd__law_due (T : Top K mg) : Binds K T._law_due.d ["_law_five"] [] := T._law_due.f.binds fun _ _ _ _ _ _ us hl => match us, hl with | [_], _ => rfl
theorem bd__law_any_lengths (T : Top K mg) : Binds K T._law_any_lengths.d ["_law_state"] [] := T._law_any_lengths.f.binds fun _ _ _ _ _ _ us hl => match us, hl with | [_], _ => rfl
theorem bd__law_bent (T : Top K mg) : Binds K T._law_bent.d ["_law_state", "_law_five"] [] := T._law_bent.f.binds fun _ _ _ _ _ _ us hl => match us, hl with | [_, _], _ => rfl
theorem bd__law_words_right (T : Top K mg) : Binds K T._law_words_right.d ["_law_lengths_here"] [] := T._law_words_right.f.binds fun _ _ _ _ _ _ us hl => match us, hl with | [_], _ => rfl
theorem bd__law_read_right (T : Top K mg) : Binds K T._law_read_right.d ["_law_state", "_law_signs", "_law_crown_here"] [] := T._law_read_right.f.binds fun _ _ _ _ _ _ us hl => match us, hl with | [_, _, _], _ => rfl
theorem bd_law (T : Top K mg) : Binds K T.law.d ["_law_script"] [] := T.law.f.binds fun _ _ _ _ _ _ us hl => match us, hl with | [_], _ => rfl
end
end K08
namespace KA
open PySem
/-! ### numbers in bits: the mathematics -/
/-- n in k bits, as codes -/
def bitsL : Nat → Nat → List Nat
  | 0, _ => []
  | k + 1, n => bitsL k (n / 2) ++ [48 + n % 2]
theorem bitsL_len : ∀ k n, (bitsL k n).length = k
  | 0, _ => rfl
  | k + 1, n => by simp [bitsL, bitsL_len k]
def binL (n : Nat) : List Nat := (Nat.toDigits 2 n).map Char.toNat
theorem binL_lt {n : Nat} (h : n < 2) : binL n = [48 + n] := by
  unfold binL
  rw [Nat.toDigits_of_lt_base h]
  have : n = 0 ∨ n = 1 := by omega
  rcases this with rfl | rfl <;> rfl
theorem binL_ge {n : Nat} (h : 2 ≤ n) : binL n = binL (n / 2) ++ [48 + n % 2] := by
  unfold binL
  rw [Nat.toDigits_of_base_le (by decide) h, List.map_append]
  have : n % 2 = 0 ∨ n % 2 = 1 := by omega
  rcases this with e | e <;> rw [e] <;> rfl
/-- the digits behind the first one -/
def tailL (n : Nat) : List Nat := (binL n).drop 1
theorem binL_ne (n : Nat) : binL n ≠ [] := by
  unfold binL
  intro h
  exact Nat.toDigits_ne_nil (List.map_eq_nil_iff.mp h)
theorem tailL_lt {n : Nat} (h : n < 2) : tailL n = [] := by
  unfold tailL
  rw [binL_lt h]
  rfl
theorem tailL_ge {n : Nat} (h : 2 ≤ n) : tailL n = tailL (n / 2) ++ [48 + n % 2] := by
  unfold tailL
  rw [binL_ge h, List.drop_append_of_le_length]
  have := List.length_pos_iff.mpr (binL_ne (n / 2))
  omega
theorem binL_head : ∀ (n : Nat), 1 ≤ n → binL n = 49 :: tailL n := by
  intro n
  induction n using Nat.strongRecOn with
  | _ n ih =>
    intro h
    by_cases h2 : n < 2
    · have : n = 1 := by omega
      subst this
      rfl
    · rw [tailL_ge (by omega), binL_ge (by omega), ih (n / 2) (by omega) (by omega)]
      rfl
theorem binL_le : ∀ (k n : Nat), 0 < k → n < 2 ^ k → (binL n).length ≤ k
  | 0, _, h, _ => by omega
  | k + 1, n, _, h => by
    by_cases h2 : n < 2
    · rw [binL_lt h2]
      simp
    · rw [binL_ge (by omega), List.length_append]
      have hk : 0 < k := by
        rcases Nat.eq_zero_or_pos k with e | e
        · subst e
          simp at h
          omega
        · exact e
      have := binL_le k (n / 2) hk (by rw [Nat.pow_succ] at h; omega)
      simp
      omega
theorem bitsL_bin : ∀ (k n : Nat), 0 < k → n < 2 ^ k → List.replicate (k - (binL n).length) 48 ++ binL n = bitsL k n
  | 0, _, h, _ => by omega
  | k + 1, n, _, h => by
    rw [bitsL]
    by_cases h2 : n < 2
    · rw [binL_lt h2]
      have e : n / 2 = 0 := by omega
      have e2 : n % 2 = n := by omega
      rw [e, e2]
      have z : ∀ j, bitsL j 0 = List.replicate j 48 := fun j => by
        induction j with
        | zero => rfl
        | succ j ih => rw [bitsL, Nat.zero_div, ih, List.replicate_succ']
      rw [z]
      simp
    · have hk : 0 < k := by
        rcases Nat.eq_zero_or_pos k with e | e
        · subst e
          simp at h
          omega
        · exact e
      have hd : n / 2 < 2 ^ k := by
        rw [Nat.pow_succ] at h
        omega
      rw [← bitsL_bin k (n / 2) hk hd, binL_ge (by omega), List.length_append]
      have e : k + 1 - ((binL (n / 2)).length + [48 + n % 2].length) = k - (binL (n / 2)).length := by simp
      rw [e, List.append_assoc]
theorem binText_eq (n : Nat) : binText n = ⟨(binL n).toArray⟩ := rfl
theorem binText_len (n : Nat) : (binText n).length = (binL n).length := by simp [binText, binL, Str.length]
/-- n in m bits, as a text -/
def twosT (m n : Nat) : Str := ⟨(bitsL m n).toArray⟩
theorem zfill_bin {m n : Nat} (hm : 0 < m) (h : n < 2 ^ m) : Txt.zfill (binText n) (m : Int) = twosT m n := by
  have hl := binL_le m n hm h
  have hb := bitsL_bin m n hm h
  unfold Txt.zfill
  rw [binText_len]
  by_cases e : (m : Int) ≤ ((binL n).length : Nat)
  · rw [if_pos e]
    have : m - (binL n).length = 0 := by omega
    rw [this] at hb
    simp only [List.replicate_zero, List.nil_append] at hb
    rw [binText_eq, hb]
    rfl
  · rw [if_neg e]
    have h0 : (binText n).cps[0]? = some 48 ∨ (binText n).cps[0]? = some 49 := by
      rw [binText_eq]
      rcases Nat.eq_zero_or_pos n with z | z
      · subst z
        exact .inl rfl
      · rw [binL_head n z]
        exact .inr rfl
    have e2 : zfilled (binText n) ((m : Int).toNat - (binL n).length) = Builtin.Str.padded (binText n) ((m : Int).toNat - (binL n).length) 0 48 := by
      unfold zfilled
      rcases h0 with z | z
      · rw [z]
        rfl
      · rw [z]
        rfl
    rw [e2]
    unfold Builtin.Str.padded twosT
    rw [← hb, binText_eq]
    congr 1
    apply Array.toList_inj.mp
    simp
/-- n ones -/
def onesT (n : Nat) : Str := ⟨(List.replicate n 49).toArray⟩
theorem onesT_len (n : Nat) : (onesT n).length = n := by simp [onesT, Str.length]
theorem fold_ones (n : Nat) : ∀ acc : Array Nat, (List.replicate n (#[49] : Array Nat)).foldl (· ++ ·) acc = acc ++ (List.replicate n 49).toArray := by
  induction n with
  | zero => intro acc; simp
  | succ n ih =>
    intro acc
    rw [List.replicate_succ, List.foldl_cons, ih, List.replicate_succ]
    apply Array.toList_inj.mp
    simp
theorem mul_ones (n : Nat) : Txt.mul "1" (n : Int) = onesT n := by
  unfold Txt.mul
  by_cases h : (n : Int) < 1
  · rw [if_pos h]
    have : n = 0 := by omega
    subst this
    rfl
  · rw [if_neg h]
    by_cases h1 : n = 1
    · subst h1
      rfl
    · rw [if_neg (by
        have e : ((n : Int) == 1) = false := by
          rw [beq_eq_false_iff_ne]
          omega
        rw [e]
        decide)]
      show (⟨(List.replicate (n : Int).toNat (#[49] : Array Nat)).foldl (· ++ ·) #[]⟩ : Str) = _
      rw [Int.toNat_natCast, fold_ones]
      unfold onesT
      congr 1
      apply Array.toList_inj.mp
      simp
end KA
namespace K08
open PySem PySem.Spec PyProof.Rows L2 PySem.W LamX KA
/-! ### the promises -/
/-- a value whose type isinstance can tell; whether it is a number -/
inductive Pl (K : PySem.W.Frag) (H : Hp) : V → Bool → Prop where
  | int (i : Int) : Pl K H (.int i) true
  | bl (b : Bool) : Pl K H (.bl b) false
  | str (s : Str) : Pl K H (.str s) false
  | non : Pl K H .non false
  | tup {a : Addr} {xs : List V} (e : H a = some (.tup xs)) : Pl K H (.ref a) false
  | lst {a : Addr} {xs : List V} (e : H a = some (.lst xs)) : Pl K H (.ref a) false
  | dK {a : Addr} {kvs : List (Key × V)} (e : H a = some (.dK kvs)) : Pl K H (.ref a) false
theorem Pl.ty {K : PySem.W.Frag} {H : Hp} {x : V} {b : Bool} (h : Pl K H x b) : ∃ t : String, TyX K H x (.type t) ∧ kitB t "int" = some (b || (t == "bool")) ∧ kitB t "bool" = some (t == "bool") ∧ ((b || (t == "bool")) && !(t == "bool")) = b := by
  cases h with
  | int i => exact ⟨"int", .base (.int i), by decide +kernel, by decide +kernel, by decide⟩
  | bl i => exact ⟨"bool", .base (.bl i), by decide +kernel, by decide +kernel, by decide⟩
  | str i => exact ⟨"str", .base (.str i), by decide +kernel, by decide +kernel, by decide⟩
  | non => exact ⟨"NoneType", .base .non, by decide +kernel, by decide +kernel, by decide⟩
  | tup e => exact ⟨"tuple", .base (.tup e), by decide +kernel, by decide +kernel, by decide⟩
  | lst e => exact ⟨"list", .base (.lst e), by decide +kernel, by decide +kernel, by decide⟩
  | dK e => exact ⟨"dict", .base (.dK e), by decide +kernel, by decide +kernel, by decide⟩
def within (x : V) (lo hi : Int) : Bool := match x with
  | .int i => decide (lo ≤ i) && decide (i ≤ hi)
  | _ => false
def spNumber (K : PySem.W.Frag) : Sp := fun vs H Q _ => ∃ x b, vs = [x] ∧ Pl K H x b ∧ Q (.bl b) H
def spWithin (K : PySem.W.Frag) : Sp := fun vs H Q _ => ∃ x b lo hi, vs = [x, .int lo, .int hi] ∧ Pl K H x b ∧ Q (.bl (within x lo hi)) H
section
variable {P : Program} {w : World} {K : PySem.W.Frag} {mg : Str → Option Value} {base : Heap} (T : Top K mg)
abbrev pInt {X : Cx} {pos : Pos} (hg : Gl X "int") (hm : X.mg "int" = none) : PE X (.Name "int" pos) (tC (.ty "int")) := pe_bltn hg hm PyProof.Rows.boot_int rfl
theorem q_bl {Q : VK} {H : Hp} {a b : Bool} (k : Q (.bl b) H) (e : a = b) : Q (.bl a) H := e ▸ k
theorem q_int {Q : VK} {H : Hp} {a b : Int} (k : Q (.int b) H) (e : a = b) : Q (.int a) H := e ▸ k
theorem q_str {Q : VK} {H : Hp} {a b : Str} (k : Q (.str b) H) (e : a = b) : Q (.str a) H := e ▸ k
theorem ok_is_number : FnOk P w K mg base (L2.CX P w) 1 T.is_number.a T.is_number.d ["thing"] (spNumber K) := by
  refine T.is_number.f.okX sc_is_number (fun vs H Q E h => ?_) (fun cdv A outer s H vs Q E hr h => ?_)
  · obtain ⟨x, b, rfl, _⟩ := h
    rfl
  · obtain ⟨x, b, rfl, hp, k⟩ := h
    refine ⟨_, pss_one (ps_ret (pe_and
      (pe_callB call_isi (by rfl) T.b_isinstance PyProof.Rows.boot_isinstance (pa_cons (pv 0) (pa_cons (pe_bltn (v := .ty "int") (by rfl) T.b_int PyProof.Rows.boot_int rfl) pa_nil)))
      (pe_one (pe_not (pe_callB call_isi (by rfl) T.b_isinstance PyProof.Rows.boot_isinstance (pa_cons (pv 0) (pa_cons (pe_bltn (v := .ty "bool") (by rfl) T.b_bool (by decide +kernel) rfl) pa_nil))))))), ?_⟩
    obtain ⟨t, ht, h1, h2, h3⟩ := hp.ty
    refine ⟨_, rfl, x, _, _, _, _, rfl, .ty "int", ht, kit_ty h1, _, rfl, ?_⟩
    cases e : (b || (t == "bool"))
    · rw [e] at h3
      refine iteF ?_
      exact q_bl k h3
    · rw [e] at h3
      refine iteT ?_
      refine ⟨_, rfl, x, _, _, _, _, rfl, .ty "bool", ht, kit_ty h2, _, rfl, ?_⟩
      exact q_bl k (by simpa using h3)
theorem ok_is_within : FnOk P w K mg base (L2.CX P w) 2 T.is_within.a T.is_within.d ["thing", "low", "high"] (spWithin K) := by
  refine T.is_within.f.okX sc_is_within (fun vs H Q E h => ?_) (fun cdv A outer s H vs Q E hr h => ?_)
  · obtain ⟨x, b, lo, hi, rfl, _⟩ := h
    rfl
  · obtain ⟨x, b, lo, hi, rfl, hp, k⟩ := h
    refine ⟨_, pss_one (ps_ret (pe_and (pe_call (ok_is_number T) hr (by rfl) T.is_number.m T.is_number.f.kp (bd_is_number T) .nil passE (pa_cons (pv 0) pa_nil))
      (pe_one (pe_chain op_le op_le (pv 1) (pv 0) (pv 2))))), ?_⟩
    refine ⟨_, rfl, x, b, rfl, hp, b, rfl, ?_⟩
    cases hp with
    | int i =>
      refine iteT ⟨_, rfl, _, rfl, lo, i, rfl, rfl, _, rfl, ?_⟩
      by_cases h1 : lo ≤ i
      · rw [decide_eq_true h1]
        refine iteT ⟨_, rfl, i, hi, rfl, rfl, ?_⟩
        exact q_bl k (by simp [within, h1])
      · rw [decide_eq_false h1]
        refine iteF ?_
        exact q_bl k (by simp [within, h1])
    | _ => exact iteF k
def foldI (i : Int) : Int := if i > 0 then 2 * i - 1 else -2 * i
def spFold : Sp := fun vs H Q _ => ∃ i : Int, vs = [.int i] ∧ Q (.int (foldI i)) H
def unfoldI (n : Int) : Int := if Builtin.bitAnd n 1 != 0 then (n + 1) / 2 else -(n / 2)
def spUnfold : Sp := fun vs H Q _ => ∃ i : Int, vs = [.int i] ∧ Q (.int (unfoldI i)) H
/-- n in m bits, as the program writes it -/
theorem padOk {m : Int} (h0 : 0 ≤ m) (h1 : m ≤ 100) : PadOk m = true := by
  unfold PadOk fitsSsize Builtin.Str.tooLong
  have e : sizeLine = 16777216 := rfl
  rw [e]
  simp
  omega
def inBits (n m : Int) : Str := if m = 0 then "" else Txt.zfill (binText n.natAbs) m
def spInBits : Sp := fun vs H Q _ => ∃ n m : Int, vs = [.int n, .int m] ∧ 0 ≤ n ∧ (binText n.natAbs).length ≤ 100 ∧ 0 ≤ m ∧ m ≤ 100 ∧ Q (.str (inBits n m)) H
def spIsTold (K : PySem.W.Frag) : Sp := fun vs H Q _ => ∃ x b, vs = [x] ∧ Pl K H x b ∧ Q (.bl (within x (-32767) 32767)) H
/-- a check: nothing, or an error of the class at C -/
def spCheck (K : PySem.W.Frag) (lo hi : Int) (C : Addr) : Sp := fun vs H Q E => ∃ x b, vs = [x] ∧ Pl K H x b ∧ (within x lo hi = true → Q .non H) ∧ (within x lo hi = false → E (.ref C) none H)
theorem iteNot {A B : Prop} {b : Bool} (h1 : b = false → A) (h2 : b = true → B) : if (!b) = true then A else B := by
  cases b
  · exact h1 rfl
  · exact h2 rfl
theorem passX {X : Cx} {E : XK} (hs : X.stack = X.env :: X.outer) (hf : X.env.frame = some X.env.locals) (hex : X.ex = []) (hx : X.xe = fun e s' => wpAny (model X.prog X.w) X.A (leaving X.env e) (fun _ s'' => L2.CX X.prog X.w X.outer X.H_0 X.s_0 E e s'') (fun e' s'' => L2.CX X.prog X.w X.outer X.H_0 X.s_0 E e' s'') s') :
    Passes (L2.CX X.prog X.w) X E := passes_call (takes_of hs hf hex hx) fun _ _ _ _ h => h
theorem within_int {x : V} {lo hi : Int} (h : within x lo hi = true) : ∃ i, x = .int i ∧ lo ≤ i ∧ i ≤ hi := by
  cases x with
  | int i =>
    simp only [within, Bool.and_eq_true, decide_eq_true_eq] at h
    exact ⟨i, rfl, h⟩
  | _ => cases h
def spFolded (K : PySem.W.Frag) (C : Addr) : Sp := fun vs H Q E => ∃ x b, vs = [x] ∧ Pl K H x b ∧ (∀ i, x = .int i → -32767 ≤ i → i ≤ 32767 → Q (.int (foldI i)) H) ∧ (within x (-32767) 32767 = false → E (.ref C) none H)
def spUnfolded (K : PySem.W.Frag) (C : Addr) : Sp := fun vs H Q E => ∃ x b, vs = [x] ∧ Pl K H x b ∧ (∀ i, x = .int i → 0 ≤ i → i ≤ 65534 → Q (.int (unfoldI i)) H) ∧ (within x 0 65534 = false → E (.ref C) none H)
end
end K08
namespace K08
open PySem PySem.Spec PyProof.Rows L2 PySem.W LamX KA
section
variable {P : Program} {w : World} {K : PySem.W.Frag} {mg : Str → Option Value} {base : Heap} (T : Top K mg)
def isStr (x : V) : Bool := match x with
  | .str _ => true
  | _ => false
theorem Pl.str? {K : PySem.W.Frag} {H : Hp} {x : V} {b : Bool} (h : Pl K H x b) : ∃ t : String, TyX K H x (.type t) ∧ kitB t "str" = some (isStr x) := by
  cases h with
  | int i => exact ⟨"int", .base (.int i), (by decide +kernel : kitB "int" "str" = some false)⟩
  | bl i => exact ⟨"bool", .base (.bl i), (by decide +kernel : kitB "bool" "str" = some false)⟩
  | str i => exact ⟨"str", .base (.str i), (by decide +kernel : kitB "str" "str" = some true)⟩
  | non => exact ⟨"NoneType", .base .non, by decide +kernel⟩
  | tup e => exact ⟨"tuple", .base (.tup e), (by decide +kernel : kitB "tuple" "str" = some false)⟩
  | lst e => exact ⟨"list", .base (.lst e), (by decide +kernel : kitB "list" "str" = some false)⟩
  | dK e => exact ⟨"dict", .base (.dK e), (by decide +kernel : kitB "dict" "str" = some false)⟩
def isBits (x : V) : Bool := match x with
  | .str s => decide (V.str (Txt.stripChars s "01") = V.str "")
  | _ => false
def spIsBits (K : PySem.W.Frag) : Sp := fun vs H Q _ => ∃ x b, vs = [x] ∧ Pl K H x b ∧ (∀ s, x = .str s → s.length ≤ 1000) ∧ Q (.bl (isBits x)) H
theorem ok_is_bits : FnOk P w K mg base (L2.CX P w) 1 T.is_bits.a T.is_bits.d ["thing"] (spIsBits K) := by
  refine T.is_bits.f.okX sc_is_bits (fun vs H Q E h => ?_) (fun cdv A outer s H vs Q E hr h => ?_)
  · obtain ⟨x, b, rfl, _⟩ := h
    rfl
  · obtain ⟨x, b, rfl, hp, hl, k⟩ := h
    refine ⟨_, pss_one (ps_ret (pe_and
      (pe_callB call_isi (by rfl) T.b_isinstance PyProof.Rows.boot_isinstance (pa_cons (pv 0) (pa_cons (pe_bltn (v := .ty "str") (by rfl) T.b_str (by decide +kernel) rfl) pa_nil)))
      (pe_one (pe_cmpR op_eq (pe_bm PySem.F.plainAttrs_str PySem.F.slot_str_strip PySem.F.type_str_strip mt_stripChars (pv 0) (pa_cons pe_str pa_nil)) pe_str (nomark _))))), ?_⟩
    obtain ⟨t, ht, h1⟩ := hp.str?
    refine ⟨_, rfl, x, _, _, _, _, rfl, .ty "str", ht, kit_ty h1, _, rfl, ?_⟩
    cases x with
    | str z => exact iteT ⟨_, rfl, rfl, _, _, rfl, rfl, Nat.le_trans (hl z rfl) (by decide), rfl, k⟩
    | _ => exact iteF k
def spFixed (K : PySem.W.Frag) (CM CN : Addr) : Sp := fun vs H Q E => ∃ x bx y «by», vs = [x, y] ∧ Pl K H x bx ∧ Pl K H y «by» ∧ (within y 1 16 = false → E (.ref CM) none H) ∧
  ∀ m : Nat, y = .int m → 1 ≤ m → m ≤ 16 → (within x 0 (2 ^ m - 1) = false → E (.ref CN) none H) ∧ ∀ n : Nat, x = .int n → n < 2 ^ m → Q (.str (twosT m n)) H
theorem pow16 {m : Nat} (h : m ≤ 16) : 2 ^ m ≤ 65536 := by
  have := Nat.pow_le_pow_right (n := 2) (by decide) h
  exact this
theorem binText_small {n : Nat} (h : n < 65536) : (binText n).length ≤ 100 := by
  rw [binText_len]
  have := binL_le 16 n (by decide) h
  omega
theorem inBits_eq {m n : Nat} (hm : 0 < m) (h : n < 2 ^ m) : inBits (n : Int) (m : Int) = twosT m n := by
  unfold inBits
  rw [if_neg (by omega), Int.natAbs_natCast]
  exact zfill_bin hm h
theorem cut_one {z : Str} (h : 1 ≤ z.length) : cutS z (some 1) none = ⟨(z.cps.toList.drop 1).toArray⟩ := by
  have e1 : HT.sIx z.length 0 (some 1) = 1 := (HT.sIx_nat z.length 0 1).trans (by omega)
  unfold cutS
  rw [e1, HT.sIx_none, List.take_of_length_le]
  simp [Str.length]
theorem len_app (x y : Str) : (x ++ y).length = x.length + y.length := Array.size_append
def longT (f : Nat) : Str := onesT (tailL (f + 1)).length ++ "0" ++ ⟨(tailL (f + 1)).toArray⟩
theorem foldI_nat {i : Int} (h1 : -32767 ≤ i) (h2 : i ≤ 32767) : ∃ f : Nat, foldI i = f ∧ f < 65535 := by
  refine ⟨(foldI i).toNat, ?_, ?_⟩ <;> (unfold foldI; split <;> omega)
def spLong (K : PySem.W.Frag) (C : Addr) : Sp := fun vs H Q E => ∃ x b, vs = [x] ∧ Pl K H x b ∧ (∀ i (f : Nat), x = .int i → foldI i = f → f < 65535 → Q (.str (longT f)) H) ∧ (within x (-32767) 32767 = false → E (.ref C) none H)
def gradeT (f g : Nat) : Str := if 12 ≤ f / 2 ^ g then onesT 12 ++ twosT 16 f else onesT (f / 2 ^ g) ++ "0" ++ twosT g (f % 2 ^ g)
theorem twosT_len (m n : Nat) : (twosT m n).length = m := by
  show ((bitsL m n).toArray).size = m
  simp [bitsL_len]
def spGrade (K : PySem.W.Frag) (CN CG : Addr) : Sp := fun vs H Q E => ∃ x b y yb, vs = [x, y] ∧ Pl K H x b ∧ Pl K H y yb ∧ (within x (-32767) 32767 = false → E (.ref CN) none H) ∧
  ∀ i (f : Nat), x = .int i → foldI i = f → f < 65535 → (within y 0 7 = false → E (.ref CG) none H) ∧ ∀ g : Nat, y = .int g → g ≤ 7 → Q (.str (gradeT f g)) H
end
end K08
namespace K08
open PySem PySem.Spec PyProof.Rows L2 PySem.W LamX KA
section
variable {P : Program} {w : World} {K : PySem.W.Frag} {mg : Str → Option Value} {base : Heap} (T : Top K mg)
def spTwo : Sp := fun vs H Q _ => ∃ n : Nat, vs = [.int n] ∧ n ≤ 1000 ∧ Q (.int ((2 ^ n : Nat) : Int)) H
theorem ok_two : FnOk P w K mg base (L2.CX P w) 1 T._law_two.a T._law_two.d ["_law_size_here"] spTwo := by
  refine T._law_two.f.okX sc__law_two (fun vs H Q E h => ?_) (fun cdv A outer s H vs Q E hr h => ?_)
  · obtain ⟨n, rfl, _⟩ := h
    rfl
  · obtain ⟨n, rfl, hn, k⟩ := h
    refine ⟨_, pss_cons (ps_set (i := 1) sc__law_two.nd rfl (.inl rfl) pe_int)
      (pss_cons (ps_for (passes_of rfl) rfl (pi_range1 (by rfl) T.b_range (pa_cons (pv 0) pa_nil)) (pg_name (i := 2) sc__law_two.nd rfl (.inl rfl))
        (pss_one (ps_set (i := 1) sc__law_two.nd rfl (.inl rfl) (pe_op op_mul (pv 1) pe_int))))
      (pss_one (ps_ret (pv 1)))), ?_⟩
    refine ⟨_, rfl, _, rfl, by omega, by omega, for_range (n := (n : Int).toNat) (fun i σ H' => H' = H ∧ ∃ v, σ = [some (.int n), some (.int ((2 ^ i : Nat) : Int)), v]) ⟨rfl, none, rfl⟩ ?_ ?_⟩
    · rintro i σ H' hi ⟨rfl, v, rfl⟩
      refine ⟨_, rfl, _, _, rfl, rfl, .inr ⟨by decide, by decide⟩, rfl, some (.int (0 + i)), ?_⟩
      simp [Nat.pow_succ]
    · rintro σ H' ⟨rfl, v, rfl⟩
      exact ⟨_, rfl, q_int k (by rw [Int.toNat_natCast])⟩
theorem bitsL_front : ∀ (k n : Nat), bitsL (k + 1) n = (48 + (n / 2 ^ k) % 2) :: bitsL k n
  | 0, n => by simp [bitsL]
  | k + 1, n => by
    rw [bitsL, bitsL_front k (n / 2), Nat.div_div_eq_div_mul, ← Nat.pow_succ']
    simp [bitsL]
theorem bit_str (n : Nat) : (Str.ofString (toString ((n : Int) % 2)) : Str) = ⟨#[48 + n % 2]⟩ := by
  have h : (n : Int) % 2 = 0 ∧ n % 2 = 0 ∨ (n : Int) % 2 = 1 ∧ n % 2 = 1 := by omega
  rcases h with ⟨e1, e2⟩ | ⟨e1, e2⟩
  · rw [e1, e2]
    rfl
  · rw [e1, e2]
    rfl
theorem bit_log (n : Nat) : ((n : Int) % 2).natAbs.log2 < 1920 := by
  have h : (n : Int) % 2 = 0 ∨ (n : Int) % 2 = 1 := by omega
  rcases h with e | e <;> rw [e] <;> decide
theorem cons_str (d : Nat) (l : List Nat) : ((⟨#[d]⟩ : Str) ++ ⟨l.toArray⟩) = ⟨(d :: l).toArray⟩ := by
  show (⟨#[d] ++ l.toArray⟩ : Str) = _
  congr 1
  apply Array.toList_inj.mp
  simp
def spTwos : Sp := fun vs H Q _ => ∃ n m : Nat, vs = [.int n, .int m] ∧ m ≤ 100 ∧ Q (.str (twosT m n)) H
theorem ok_twos : FnOk P w K mg base (L2.CX P w) 1 T._law_twos.a T._law_twos.d ["_law_item", "_law_size_here"] spTwos := by
  refine T._law_twos.f.okX sc__law_twos (fun vs H Q E h => ?_) (fun cdv A outer s H vs Q E hr h => ?_)
  · obtain ⟨n, m, rfl, _⟩ := h
    rfl
  · obtain ⟨n, m, rfl, hm, k⟩ := h
    refine ⟨_, pss_cons (ps_set (i := 2) sc__law_twos.nd rfl (.inl rfl) pe_str)
      (pss_cons (ps_for (passes_of rfl) rfl (pi_range1 (by rfl) T.b_range (pa_cons (pv 1) pa_nil)) (pg_name (i := 3) sc__law_twos.nd rfl (.inl rfl))
        (pss_cons (ps_set (i := 2) sc__law_twos.nd rfl (.inl rfl) (pe_op op_add_str (pe_callTy call_str_int (by rfl) T.b_str (by decide +kernel) (pa_cons (pe_op op_mod (pe_callTy call_int1 (by rfl) T.b_int PyProof.Rows.boot_int (pa_cons (pv 0) pa_nil)) pe_int) pa_nil)) (pv 2)))
        (pss_one (ps_set (i := 0) sc__law_twos.nd rfl (.inl rfl) (pe_op op_fdiv (pv 0) pe_int)))))
      (pss_one (ps_ret (pv 2)))), ?_⟩
    refine ⟨_, rfl, _, rfl, by omega, by omega, for_range (n := (m : Int).toNat) (fun i σ H' => H' = H ∧ ∃ v, σ = [some (.int ((n / 2 ^ i : Nat) : Int)), some (.int m), some (.str ⟨(bitsL i n).toArray⟩), v]) ⟨rfl, none, by simp; rfl⟩ ?_ ?_⟩
    · rintro i σ H' hi ⟨rfl, v, rfl⟩
      rw [Int.toNat_natCast] at hi
      refine ⟨_, rfl, .inl ⟨_, rfl, _, _, rfl, rfl, (by show (0 : Int) < 2; decide), _, rfl, bit_log _, _, rfl, ?_⟩⟩
      rw [bit_str]
      refine ⟨_, _, rfl, rfl, ?_, _, rfl, _, _, rfl, rfl, ⟨by decide, by decide⟩, rfl, some (.int (0 + i)), ?_⟩
      · show 1 + (bitsL i n).toArray.size ≤ sizeLine
        rw [List.size_toArray, bitsL_len]
        exact Nat.le_trans (show 1 + i ≤ 200 by omega) (by decide)
      · rw [cons_str, ← bitsL_front]
        have e : (((n / 2 ^ i : Nat) : Int) / 2) = ((n / 2 ^ (i + 1) : Nat) : Int) := by
          rw [Nat.pow_succ, ← Nat.div_div_eq_div_mul]
          omega
        show [some (V.int (((n / 2 ^ i : Nat) : Int) / 2)), some (V.int m), some (V.str _), some _] = _
        rw [e]
    · rintro σ H' ⟨rfl, v, rfl⟩
      exact ⟨_, rfl, q_str k (by rw [Int.toNat_natCast]; rfl)⟩
def spLLong : Sp := fun vs H Q _ => ∃ (i : Int) (f : Nat), vs = [.int i] ∧ foldI i = f ∧ f < 65535 ∧ Q (.str (longT f)) H
theorem tail_small {f : Nat} (h : f < 65536) : (tailL f).length ≤ 16 := by
  rcases Nat.eq_zero_or_pos f with z | z
  · subst z
    decide
  · have := binL_le 16 f (by decide) h
    rw [binL_head f z] at this
    simp at this
    omega
def spLGraded : Sp := fun vs H Q _ => ∃ (i : Int) (f g : Nat), vs = [.int i, .int g] ∧ foldI i = f ∧ f < 65535 ∧ g ≤ 7 ∧ Q (.str (gradeT f g)) H
end
end K08
namespace K08
open PySem PySem.Spec PyProof.Rows L2 PySem.W LamX KA
open Evl (pss_cut tCut)
def spDraw : Sp := fun vs H Q _ => ∃ (st lg cl : Addr) (n m : Nat), vs = [.ref st, .int n] ∧ 0 < n ∧ n < 2 ^ 100 ∧ m ≤ 1000000 ∧ StAt H st lg cl m ∧
  ∀ (r : Nat) (H' : Hp), r < n → StAt H' st lg cl (m + 1) → Kp st lg H H' → Q (.int r) H'
section
variable {P : Program} {w : World} {K : PySem.W.Frag} {mg : Str → Option Value} {base : Heap} (T : Top K mg)
theorem draw_div {n : Nat} (h0 : 0 < n) (h : n < 2 ^ 100) {i : Int} : CDivW i (n : Int) := wide_div (b := 100) (by omega) (by simpa using h) (by decide) (by decide)
theorem ok_draw : FnOk P w K mg base (L2.CX P w) 1 T._law_draw.a T._law_draw.d ["_law_state", "_law_size_here"] spDraw := by
  refine T._law_draw.f.okX sc__law_draw (fun vs H Q E h => ?_) (fun cdv A outer s H vs Q E hr h => ?_)
  · obtain ⟨st, lg, cl, n, m, rfl, _⟩ := h
    rfl
  · obtain ⟨st, lg, cl, n, m, rfl, hn, hn2, hm, ⟨large, cells, left, turn, S, ht⟩, k⟩ := h
    have hu := hu_of hr
    refine ⟨_, pss_cut (ps_while (passes_of rfl) (PW.pt (pw_and (pt_cmpR op_eq (pe_dget hu (pv 0) pe_str (fun _ _ => rfl)) pe_int (nomark _)) (pw_and1 (pt_cmpR (op_neD hr.units) (pe_dget hu (pv 0) pe_str (fun _ _ => rfl)) (pe_lst pa_nil) (nomark _)))))
        (pss_one (ps_dput hu (pv 0) pe_str (pe_bm PySem.F.plainAttrs_list PySem.F.slot_list_pop PySem.F.type_list_pop mt_popAt (pe_dget hu (pv 0) pe_str (fun _ _ => rfl)) (pa_cons pe_int pa_nil)) rfl)))
      (pss_cons (ps_if (pt_cmpR op_gt (pe_dget hu (pv 0) pe_str (fun _ _ => rfl)) pe_int (nomark _))
        (pss_cons (ps_set (i := 2) sc__law_draw.nd rfl (.inl rfl) (pe_op op_mod (pe_callTy call_int1 (by rfl) T.b_int PyProof.Rows.boot_int (pa_cons (pe_dget hu (pv 0) pe_str (fun _ _ => rfl)) pa_nil)) (pv 1)))
        (pss_cons (ps_dput hu (pv 0) pe_str (pe_op op_fdivW (pe_dget hu (pv 0) pe_str (fun _ _ => rfl)) (pv 1)) rfl)
        (pss_one (ps_ret (pv 2))))) pss_nil)
      (pss_cons (ps_set (i := 3) sc__law_draw.nd rfl (.inl rfl) (pe_op op_add (pe_dget hu (pv 0) pe_str (fun _ _ => rfl)) pe_int))
      (pss_cons (ps_dput hu (pv 0) pe_str (pv 3) rfl)
      (pss_cut (ps_set (i := 4) sc__law_draw.nd rfl (.inl rfl) (pe_ifExp (pt_cmpR (op_neD hr.units) (pe_dget hu (pv 0) pe_str (fun _ _ => rfl)) (pe_lst pa_nil) (nomark _))
        (pe_ix ix_list (pe_dget hu (pv 0) pe_str (fun _ _ => rfl)) (pe_op op_mod (pe_callTy call_int1 (by rfl) T.b_int PyProof.Rows.boot_int (pa_cons (pv 3) pa_nil)) (pe_callB call_len_seq (by rfl) T.b_len PySem.boot_len (pa_cons (pe_dget hu (pv 0) pe_str (fun _ _ => rfl)) pa_nil))) (fun _ _ => rfl))
        pe_int))
      (pss_cons (ps_set (i := 5) sc__law_draw.nd rfl (.inl rfl) (pe_op op_mod (pe_callTy call_int1 (by rfl) T.b_int PyProof.Rows.boot_int (pa_cons (pe_op op_pow (pe_op op_add (pe_op op_add (pe_op op_mod (pe_callTy call_int1 (by rfl) T.b_int PyProof.Rows.boot_int (pa_cons (pv 4) pa_nil)) pe_int) (pe_op op_mul pe_int (pv 3))) pe_int) pe_int) pa_nil)) pe_int))
      (pss_one (ps_ret (pe_op op_mod (pe_callTy call_int1 (by rfl) T.b_int PyProof.Rows.boot_int (pa_cons (pe_op op_fdiv (pe_op op_mod (pe_callTy call_int1 (by rfl) T.b_int PyProof.Rows.boot_int (pa_cons (pe_op op_pow (pe_op op_add (pv 5) (pe_op op_mul pe_int (pv 3))) pe_int) pa_nil)) pe_int) pe_int) pa_nil)) (pv 1))))))))), ?_⟩
    -- the while
    refine ⟨fun σ' H' => σ' = [some (.ref st), some (.int n), none, none, none, none] ∧ ∃ large' left', StD H' st lg cl large' cells left' turn ∧ Kp st lg H H', ?_, ?_⟩
    · refine ⟨fun μ σ' H' => σ' = [some (.ref st), some (.int n), none, none, none, none] ∧ ∃ large' left', large'.length = μ ∧ StD H' st lg cl large' cells left' turn ∧ Kp st lg H H',
        ⟨large.length, rfl, large, left, rfl, S, Kp.refl⟩, ?_⟩
      rintro μ σ' H1 ⟨rfl, large', left', hμ, S1, kp1⟩
      refine ⟨_, rfl, st, _, rfl, (show DGet H1 st (kV kLeft) _ from st_left ▸ DGet.k S1.d), rfl, _, rfl, ?_⟩
      by_cases c1 : left' = 0
      · subst c1
        refine iteT ⟨_, rfl, st, _, rfl, (show DGet H1 st (kV kLarge) _ from st_large ▸ DGet.k S1.d), by decide, fun p hp => ?_⟩
        have S2 := S1.same (Same.new (o := .lst []) hp)
        have kp2 := kp1.trans (Kp.same (Same.new (o := .lst []) hp))
        refine ⟨_, _, dp_int_list S2.l, dp_nil upd_same, shaped_is _, shaped_nil, _, rfl, ?_⟩
        rw [eqv_ints_nil]
        cases large' with
        | nil => exact iteF ⟨rfl, [], 0, S2, kp2⟩
        | cons x rest =>
          refine iteT ⟨fun σ' H' => σ' = [some (.ref st), some (.int n), none, none, none, none] ∧ ∃ large' left', large'.length = rest.length ∧ StD H' st lg cl large' cells left' turn ∧ Kp st lg H H',
            fun σ' H' ⟨e, l', lf, e2, r⟩ => ⟨rest.length, by rw [← hμ]; exact Nat.lt_succ_self _, e, l', lf, e2, r⟩, ?_⟩
          refine ⟨_, rfl, st, .ref lg, rfl, (show DGet _ st (kV kLarge) _ from st_large ▸ DGet.k S2.d), .inl ⟨rfl, _, SqL.of S2.l⟩, lg, _, 0, 0, .int x, rfl, rfl, S2.l, by decide, by decide, by simp [seqIndex?], rfl, ?_⟩
          have S3 : StD (upd (upd H1 p (.lst [])) lg (.lst (rest.map V.int))) st lg cl rest cells 0 turn :=
            { d := (upd_ne S2.st_lg).trans S2.d, l := upd_same, c := (upd_ne S2.ne.symm).trans S2.c, ne := S2.ne, pl := fun y hy => S2.pl y (List.mem_cons_of_mem _ hy), p0 := S2.p0 }
          have hx : 0 ≤ x := S2.pl x List.mem_cons_self
          refine ⟨_, rfl, st, _, rfl, (show DPut _ st (kV kLeft) _ _ from DPut.k S3.d (by show 4 < sizeLine; decide)), ?_⟩
          rw [st_put_left]
          exact ⟨rfl, rest, x, rfl, S3.put hx, (kp2.trans Kp.put2).trans Kp.put⟩
      · rw [show decide (V.int left' = V.int 0) = false from decide_eq_false fun z => c1 (V.int.inj z)]
        exact iteF ⟨rfl, large', left', S1, kp1⟩
    · rintro σ' H1 ⟨rfl, large', left', S1, kp1⟩
      refine ⟨_, rfl, st, _, rfl, (show DGet H1 st (kV kLeft) _ from st_left ▸ DGet.k S1.d), _, _, rfl, rfl, _, rfl, ?_⟩
      by_cases c1 : 0 < left'
      · rw [show decide ((0 : Int) < left') = true from decide_eq_true c1]
        refine iteT ⟨_, rfl, st, _, rfl, (show DGet H1 st (kV kLeft) _ from st_left ▸ DGet.k S1.d), .inl ⟨_, rfl, _, rfl, _, _, rfl, rfl, (by show (0 : Int) < (n : Int); omega), ?_⟩⟩
        refine ⟨_, rfl, st, _, rfl, (show DGet H1 st (kV kLeft) _ from st_left ▸ DGet.k S1.d), _, rfl, _, _, rfl, rfl, draw_div hn hn2, _, rfl, st, _, rfl, (show DPut _ st (kV kLeft) _ _ from DPut.k S1.d (by show 4 < sizeLine; decide)), ?_⟩
        rw [st_put_left]
        have hr0 := Int.emod_nonneg left' (show (n : Int) ≠ 0 by omega)
        have hr1 := Int.emod_lt_of_pos left' (show (0 : Int) < n by omega)
        have S3 := S1.put (t := turn) (l := left' / (n : Int)) (Int.ediv_nonneg (by omega) (by omega))
        exact ⟨_, rfl, q_int (k (left' % (n : Int)).toNat _ (by omega) ⟨_, _, _, _, S3, by omega⟩ (kp1.trans Kp.put)) (by omega)⟩
      · rw [show decide ((0 : Int) < left') = false from decide_eq_false c1]
        refine iteF ⟨_, rfl, st, _, rfl, (show DGet H1 st (kV kTurn) _ from st_turn ▸ DGet.k S1.d), _, _, rfl, rfl, _, rfl, _, rfl, st, _, rfl, (show DPut _ st (kV kTurn) _ _ from DPut.k S1.d (by show 4 < sizeLine; decide)), ?_⟩
        rw [st_put_turn]
        have S2 : StD (upd H1 st (.dK (stKv lg cl left' ((turn + 1 : Nat) : Int)))) st lg cl large' cells left' (turn + 1) := S1.put S1.p0
        have kp2 : Kp st lg H (upd H1 st (.dK (stKv lg cl left' ((turn + 1 : Nat) : Int)))) := kp1.trans Kp.put
        have e1 : ((turn : Int) + 1) = ((turn + 1 : Nat) : Int) := by omega
        rw [e1]
        generalize upd H1 st (.dK (stKv lg cl left' ((turn + 1 : Nat) : Int))) = H2 at S2 kp2 ⊢
        refine ⟨fun σ' H' => ∃ c : Int, σ' = [some (.ref st), some (.int n), none, some (.int ((turn + 1 : Nat) : Int)), some (.int c), none] ∧ StD H' st lg cl large' cells left' (turn + 1) ∧ Kp st lg H H', ?_, ?_⟩
        · refine ⟨_, rfl, st, .ref cl, rfl, (show DGet H2 st (kV kCells) _ from st_cells ▸ DGet.k S2.d), by decide, fun p hp => ?_⟩
          have S3 := S2.same (Same.new (o := .lst []) hp)
          have kp3 := kp2.trans (Kp.same (Same.new (o := .lst []) hp))
          refine ⟨_, _, dp_int_list S3.c, dp_nil upd_same, shaped_is _, shaped_nil, _, rfl, ?_⟩
          rw [eqv_ints_nil]
          generalize upd H2 p (.lst []) = H3 at S3 kp3 ⊢
          cases cells with
          | nil => exact iteF ⟨0, rfl, S3, kp3⟩
          | cons y ys =>
            refine iteT ⟨_, rfl, st, .ref cl, rfl, (show DGet H3 st (kV kCells) _ from st_cells ▸ DGet.k S3.d), _, rfl, .inl ⟨_, rfl, _, rfl, st, .ref cl, rfl, (show DGet H3 st (kV kCells) _ from st_cells ▸ DGet.k S3.d), cl, _, rfl, .inl (SqL.of S3.c), _, _, rfl, rfl, ?_, ?_⟩⟩
            · show (0 : Int) < ((((y :: ys).map V.int).length : Nat) : Int)
              simp
            · have hlen : ((y :: ys).map V.int).length = (y :: ys).length := List.length_map _
              have hz : (turn + 1) % (y :: ys).length < (y :: ys).length := Nat.mod_lt _ (by simp)
              obtain ⟨c, hc⟩ : ∃ c, (y :: ys)[(turn + 1) % (y :: ys).length]? = some c := ⟨_, List.getElem?_eq_getElem hz⟩
              refine ⟨cl, _, _, .int c, rfl, rfl, SqL.of S3.c, ?_, c, rfl, S3, kp3⟩
              rw [hlen, show (((turn : Int) + 1) % (((y :: ys).length : Nat) : Int)) = (((turn + 1) % (y :: ys).length : Nat) : Int) from rfl]
              exact atI_nat (by rw [List.getElem?_map, hc]; rfl)
        · rintro σ' H3 ⟨c, rfl, S3, kp3⟩
          have h1 := Int.emod_nonneg c (show (2147483563 : Int) ≠ 0 by decide)
          have h2 := Int.emod_lt_of_pos c (show (0 : Int) < 2147483563 by decide)
          refine ⟨_, rfl, .inl ⟨_, rfl, _, _, rfl, rfl, (by show (0 : Int) < 2147483563; decide), _, rfl, _, _, rfl, rfl, .inl ⟨by decide, by decide⟩, _, _, rfl, rfl, _, _, rfl, rfl, _, _, rfl, rfl, ⟨by decide, by decide, ?_⟩, .inl ⟨_, rfl, _, _, rfl, rfl, (by show (0 : Int) < 2147483629; decide), ?_⟩⟩⟩
          · generalize c % 2147483563 = c' at h1 h2 ⊢
            omega
          generalize (c % 2147483563 + 40692 * ((turn + 1 : Nat) : Int) + 24681) ^ (3 : Int).toNat = z
          have h3 := Int.emod_nonneg z (show (2147483629 : Int) ≠ 0 by decide)
          have h4 := Int.emod_lt_of_pos z (show (0 : Int) < 2147483629 by decide)
          dsimp only
          generalize z % 2147483629 = y at h3 h4 ⊢
          refine ⟨_, rfl, _, rfl, _, _, rfl, rfl, .inl ⟨by decide, by decide⟩, _, _, rfl, rfl, _, _, rfl, rfl, ⟨by decide, by decide, by omega⟩, .inl ⟨_, rfl, _, _, rfl, rfl, (by show (0 : Int) < 2147483579; decide), _, _, rfl, rfl, ⟨by decide, by decide⟩, .inl ⟨_, rfl, _, rfl, _, _, rfl, rfl, (by show (0 : Int) < (n : Int); omega), ?_⟩⟩⟩
          generalize (y + 104917 * ((turn + 1 : Nat) : Int)) ^ (5 : Int).toNat % 2147483579 / 29 = x
          have h5 := Int.emod_nonneg x (show (n : Int) ≠ 0 by omega)
          have h6 := Int.emod_lt_of_pos x (show (0 : Int) < n by omega)
          exact q_int (k (x % (n : Int)).toNat _ (by omega) ⟨_, _, _, _, S3, by omega⟩ kp3) (by omega)
end
end K08
namespace K08
open PySem PySem.Spec PyProof.Rows L2 PySem.W LamX KA
open Evl (pss_cut tCut)
def spPick : Sp := fun vs H Q _ => ∃ (st lg cl a : Addr) (xs : List V) (m : Nat), vs = [.ref st, .ref a] ∧ H a = some (.lst xs) ∧ a ≠ lg ∧ 0 < xs.length ∧ xs.length ≤ 1000 ∧ m ≤ 1000000 ∧ StAt H st lg cl m ∧
  ∀ (x : V) (H' : Hp), x ∈ xs → StAt H' st lg cl (m + 1) → Kp st lg H H' → Q x H'
section
variable {P : Program} {w : World} {K : PySem.W.Frag} {mg : Str → Option Value} {base : Heap} (T : Top K mg)
theorem ok_pick : FnOk P w K mg base (L2.CX P w) 2 T._law_pick.a T._law_pick.d ["_law_state", "_law_several"] spPick := by
  refine T._law_pick.f.okX sc__law_pick (fun vs H Q E h => ?_) (fun cdv A outer s H vs Q E hr h => ?_)
  · obtain ⟨st, lg, cl, a, xs, m, rfl, _⟩ := h
    rfl
  · obtain ⟨st, lg, cl, a, xs, m, rfl, ha, hal, h0, h1, hm, S, k⟩ := h
    have has : a ≠ st := by
      obtain ⟨_, _, _, _, S', _⟩ := S
      exact ne_of ha S'.d (by intro z; cases z)
    refine ⟨_, pss_one (ps_ret (pe_ix ix_list (pv 1) (pe_call (ok_draw T) hr (by rfl) T._law_draw.m T._law_draw.f.kp (bd__law_draw T) .nil passE (pa_cons (pv 0) (pa_cons (pe_callB call_len_seq (by rfl) T.b_len PySem.boot_len (pa_cons (pv 1) pa_nil)) pa_nil))) (fun _ _ => rfl))), ?_⟩
    refine ⟨_, rfl, _, rfl, _, rfl, a, xs, rfl, .inl (SqL.of ha), st, lg, cl, xs.length, m, rfl, h0, ?_, hm, S, fun r H' hr' S' kp => ?_⟩
    · exact Nat.lt_of_le_of_lt h1 (by decide)
    · obtain ⟨x, hx⟩ : ∃ x, xs[r]? = some x := ⟨_, List.getElem?_eq_getElem hr'⟩
      exact ⟨a, xs, _, x, rfl, rfl, SqL.of (kp a _ ha has hal), atI_nat hx, k x H' (List.mem_of_getElem? hx) S' kp⟩
def spBegun (K : PySem.W.Frag) : Sp := fun vs H Q _ => ∃ (a : Addr) (ns : List Int), vs = [.ref a] ∧ SqL K H a (ns.map V.int) ∧ ns.length ≤ 63 ∧
  ∀ (st lg cl : Addr) (H' : Hp), StAt H' st lg cl 0 → Same H H' → H st = none → H lg = none → Q (.ref st) H'
theorem ok_begun : FnOk P w K mg base (L2.CX P w) 1 T._law_begun.a T._law_begun.d ["_law_script"] (spBegun K) := by
  refine T._law_begun.f.okX sc__law_begun (fun vs H Q E h => ?_) (fun cdv A outer s H vs Q E hr h => ?_)
  · obtain ⟨a, ns, rfl, _⟩ := h
    rfl
  · obtain ⟨a, ns, rfl, hS, hl, k⟩ := h
    refine ⟨_, pss_cons (ps_setLc (i := 1) (own := [("_law_cell", 3)]) (g := gName 3) (tt := tYes) rfl sc__law_begun.nd rfl rfl (sw_true rfl rfl rfl (by decide +kernel)) (pi_list (pv 0)) (blkOk_by (own := [("_law_cell", 3)]) (N := ["_law_script", "_law_cells_here", "_law_large", "_law_cell"]) (sc := defScope s__law_begun) (by decide +kernel))
        (fun _ _ _ _ _ => pg_name (i := 3) sc__law_begun.nd rfl (Or.inl rfl)) (fun _ _ _ _ _ => pts_nil) (fun _ _ _ _ _ => pe_callB call_abs (by rfl) T.b_abs (by decide +kernel) (pa_cons (pv 3) pa_nil)))
      (pss_cons (ps_setLc (i := 2) (own := [("_law_cell", 3)]) (g := gName 3) rfl sc__law_begun.nd rfl rfl (sw_true rfl rfl rfl (by decide +kernel)) (pi_list (pv 1)) (blkOk_by (own := [("_law_cell", 3)]) (N := ["_law_script", "_law_cells_here", "_law_large", "_law_cell"]) (sc := defScope s__law_begun) (by decide +kernel))
        (fun _ _ _ _ _ => pg_name (i := 3) sc__law_begun.nd rfl (Or.inl rfl)) (fun _ _ _ _ _ => pts_one (pt_cmpR op_ge (pv 3) (pe_op op_pow pe_int pe_int) (nomark _))) (fun _ _ _ _ _ => pe_op op_sub (pv 3) (pe_op op_pow pe_int pe_int)))
      (pss_one (ps_ret (pe_disp (pps_cons pe_str (pv 2) (pps_cons pe_str (pv 1) (pps_cons pe_str pe_int (pps_cons pe_str pe_int pps_nil)))) (by rfl) (by rfl) (fun z => by cases z) (by decide))))), ?_⟩
    refine ⟨_, rfl, a, rfl, ⟨_, hS⟩, fun cl hcl => lc_list (K := K) (a := a) (xs := ns.map V.int) (fun i H' => H' cl = some (.lst ((ns.take i).map fun n => V.int (if n < 0 then -n else n))) ∧ Same H H') ⟨upd_same, Same.new hcl⟩ (fun i H' _ h => h.2.seq hS) ?_ ?_⟩
    · rintro i x H' hx ⟨h1, h2⟩
      obtain ⟨n, hn, rfl⟩ : ∃ n, ns[i]? = some n ∧ x = V.int n := by
        rw [List.getElem?_map] at hx
        cases e : ns[i]? with
        | none => rw [e] at hx; cases hx
        | some n => rw [e] at hx; exact ⟨n, rfl, (Option.some.inj hx).symm⟩
      refine ⟨rfl, ?_⟩
      dsimp only [tYes]
      rw [if_pos rfl]
      refine ⟨_, rfl, n, rfl, _, h1, ?_, ?_, ?_⟩
      · rw [List.length_map, List.length_take]
        exact Nat.lt_of_le_of_lt (Nat.min_le_right _ _) (Nat.lt_of_le_of_lt hl (by decide))
      · rw [upd_same, take_map_snoc _ _ _ _ hn]
      · intro b o e
        rw [upd_ne (ne_of_none e hcl)]
        exact h2 b o e
    rintro H1 ⟨h1, h2⟩
    rw [List.length_map, List.take_length] at h1
    have h1 : H1 cl = some (.lst ((ns.map fun n => if n < 0 then -n else n).map V.int)) := by rw [h1, List.map_map]; rfl
    have hlc : (ns.map fun n => if n < 0 then -n else n).length ≤ 63 := by rw [List.length_map]; exact hl
    generalize (ns.map fun n => if n < 0 then -n else n) = cells at h1 hlc
    refine ⟨_, rfl, cl, rfl, ⟨_, SqL.of h1⟩, fun lg hlg => lc_list (K := K) (a := cl) (xs := cells.map V.int) (fun i H' => H' lg = some (.lst ((((cells.take i).filter fun c => decide ((1000000000000000000 : Int) ≤ c)).map fun c => c - 1000000000000000000).map V.int)) ∧ Same H1 H') ⟨upd_same, Same.new hlg⟩ (fun i H' _ h => h.2.seq (SqL.of h1)) ?_ ?_⟩
    · rintro i x H' hx ⟨h3, h4⟩
      obtain ⟨n, hn, rfl⟩ : ∃ n, cells[i]? = some n ∧ x = V.int n := by
        rw [List.getElem?_map] at hx
        cases e : cells[i]? with
        | none => rw [e] at hx; cases hx
        | some n => rw [e] at hx; exact ⟨n, rfl, (Option.some.inj hx).symm⟩
      have et : cells.take (i + 1) = cells.take i ++ [n] := by rw [List.take_add_one, hn]; rfl
      refine ⟨rfl, _, rfl, _, _, rfl, rfl, ⟨by decide, by decide, by decide⟩, _, _, rfl, rfl, _, rfl, ?_⟩
      rw [show ((10 : Int) ^ (18 : Int).toNat) = 1000000000000000000 by decide, et, List.filter_append]
      by_cases c : (1000000000000000000 : Int) ≤ n
      · rw [show decide ((1000000000000000000 : Int) ≤ n) = true from decide_eq_true c]
        dsimp only
        rw [if_pos rfl]
        refine ⟨_, rfl, _, _, rfl, rfl, ⟨by decide, by decide, by decide⟩, _, _, rfl, rfl, _, h3, ?_, ?_, ?_⟩
        · rw [List.length_map, List.length_map]
          refine Nat.lt_of_le_of_lt (Nat.le_trans (List.length_filter_le _ _) ?_) (show 63 < sizeLine by decide)
          rw [List.length_take]
          omega
        · rw [upd_same]
          simp [c]
        · intro b o e
          rw [upd_ne (ne_of_none e hlg)]
          exact h4 b o e
      · rw [show decide ((1000000000000000000 : Int) ≤ n) = false from decide_eq_false c]
        dsimp only
        rw [if_neg Bool.false_ne_true]
        refine ⟨?_, h4⟩
        simpa [c] using h3
    rintro H2 ⟨h3, h4⟩
    intro st hst
    refine ⟨_, rfl, _, rfl, upd_same, stKv lg cl 0 0, rfl, (by show 4 ≤ 15; decide), ?_⟩
    rw [st_merge]
    have hne : cl ≠ lg := ne_of_none h1 hlg
    have h5 := h4 cl _ h1
    rw [List.length_map, List.take_length] at h3
    have hp : ∀ x ∈ (cells.filter fun c => decide ((1000000000000000000 : Int) ≤ c)).map (fun c => c - 1000000000000000000), 0 ≤ x := by
      intro x hx
      obtain ⟨c, hc, rfl⟩ := List.mem_map.mp hx
      have := (List.mem_filter.mp hc).2
      simp at this
      omega
    generalize (cells.filter fun c => decide ((1000000000000000000 : Int) ≤ c)).map (fun c => c - 1000000000000000000) = large at h3 hp
    have n1 : lg ≠ st := ne_of_none h3 hst
    have n2 : cl ≠ st := ne_of_none h5 hst
    have same : Same H (upd (upd H2 st (.dK [])) st (.dK (stKv lg cl 0 0))) := fun b o e => by
      have e2 := h4 b o (h2 b o e)
      rw [upd_upd, upd_ne (ne_of_none e2 hst)]
      exact e2
    refine k st lg cl _ ⟨large, cells, 0, 0, ⟨upd_same, ?_, ?_, hne.symm, hp, Int.le_refl _⟩, Nat.le_refl _⟩ same ((h2.trans h4).free hst) (h2.free hlg)
    · rw [upd_upd, upd_ne n1]
      exact h3
    · rw [upd_upd, upd_ne n2]
      exact h5
end
end K08
namespace KT
open PySem PySem.Spec PyProof.Rows L2 PySem.W LamX KA KW
/-! ### min(t), max(t) of a tuple of ints; t[::-1]; t * n, n from 1 on -/
theorem alike_ints (ns : List Int) : AlikeAll (ns.map PyData.int) := by
  refine ⟨fun x hx y hy => ?_, fun x hx => ?_⟩
  · obtain ⟨i, _, rfl⟩ := List.mem_map.mp hx
    obtain ⟨j, _, rfl⟩ := List.mem_map.mp hy
    simp [alike]
  · obtain ⟨i, _, rfl⟩ := List.mem_map.mp hx
    exact fun z => by cases z
theorem dp_ints {K : PySem.W.Frag} {H : Hp} : ∀ ns : List Int, DpAll K H (ns.map V.int) (ns.map PyData.int)
  | [] => .nil
  | i :: ns => .cons (.int i) (dp_ints ns)
theorem depth_ints : ∀ ns : List Int, PyData.depthAll (ns.map PyData.int) ≤ 1
  | [] => by simp [PyData.depthAll]
  | i :: ns => by
    have := depth_ints ns
    simp only [List.map_cons, PyData.depthAll, PyData.depth]
    omega
theorem reads_int {h : Heap} {v : Value} {i : Int} {as : List Addr} (r : Reads h v (.int i) as) : ∃ t, v = .int i t := by
  cases r
  exact ⟨_, rfl⟩
theorem foldl_min_mem (n : Int) : ∀ ns : List Int, ns.foldl min n ∈ n :: ns := by
  intro ns
  induction ns generalizing n with
  | nil => simp
  | cons k r ih =>
    rw [List.foldl_cons]
    rcases List.mem_cons.mp (ih (min n k)) with e | e
    · rw [e]
      rcases Int.le_total n k with h | h
      · rw [Int.min_eq_left h]; exact List.mem_cons_self
      · rw [Int.min_eq_right h]; exact List.mem_cons_of_mem _ List.mem_cons_self
    · exact List.mem_cons_of_mem _ (List.mem_cons_of_mem _ e)
theorem foldl_min_le (n : Int) : ∀ (ns : List Int) (y : Int), y ∈ n :: ns → ns.foldl min n ≤ y := by
  intro ns
  induction ns generalizing n with
  | nil => intro y hy; simp at hy; subst hy; exact Int.le_refl _
  | cons k r ih =>
    intro y hy
    rw [List.foldl_cons]
    have h0 := ih (min n k) (min n k) List.mem_cons_self
    rcases List.mem_cons.mp hy with e | e
    · subst e; omega
    · rcases List.mem_cons.mp e with e | e
      · subst e; omega
      · exact ih (min n k) y (List.mem_cons_of_mem _ e)
theorem foldl_max_mem (n : Int) : ∀ ns : List Int, ns.foldl max n ∈ n :: ns := by
  intro ns
  induction ns generalizing n with
  | nil => simp
  | cons k r ih =>
    rw [List.foldl_cons]
    rcases List.mem_cons.mp (ih (max n k)) with e | e
    · rw [e]
      rcases Int.le_total n k with h | h
      · rw [Int.max_eq_right h]; exact List.mem_cons_of_mem _ List.mem_cons_self
      · rw [Int.max_eq_left h]; exact List.mem_cons_self
    · exact List.mem_cons_of_mem _ (List.mem_cons_of_mem _ e)
theorem foldl_max_ge (n : Int) : ∀ (ns : List Int) (y : Int), y ∈ n :: ns → y ≤ ns.foldl max n := by
  intro ns
  induction ns generalizing n with
  | nil => intro y hy; simp at hy; subst hy; exact Int.le_refl _
  | cons k r ih =>
    intro y hy
    rw [List.foldl_cons]
    have h0 := ih (max n k) (max n k) List.mem_cons_self
    rcases List.mem_cons.mp hy with e | e
    · subst e; omega
    · rcases List.mem_cons.mp e with e | e
      · subst e; omega
      · exact ih (max n k) y (List.mem_cons_of_mem _ e)
def rMinT (K : PySem.W.Frag) : List V → Hp → VK → Prop := fun vs H Q => ∃ (a : Addr) (ns : List Int), vs = [V.ref a] ∧ SqT K H a (ns.map V.int) ∧ 0 < ns.length ∧ ∀ m, m ∈ ns → (∀ y, y ∈ ns → m ≤ y) → Q (.int m) H
def rMaxT (K : PySem.W.Frag) : List V → Hp → VK → Prop := fun vs H Q => ∃ (a : Addr) (ns : List Int), vs = [V.ref a] ∧ SqT K H a (ns.map V.int) ∧ 0 < ns.length ∧ ∀ m, m ∈ ns → (∀ y, y ∈ ns → y ≤ m) → Q (.int m) H
section
variable {X : Cx}
theorem cr_minT (hc : X.calm = true) (hu : X.A.units + 2 < cLine) : CallR X (.builtin "min") (rMinT X.K) := by
  intro pins s σ H vs us Q I r h
  obtain ⟨a, ns, rfl, hs, hne, q⟩ := h
  obtain ⟨its, rv, hl, _⟩ := I.tuple hs
  rw [Vals.ref1 r]
  cases ns with
  | nil => cases hne
  | cons n ns =>
    obtain ⟨as, hr⟩ := Dp.readsAll I _ _ its (dp_ints (n :: ns)) rv
    refine min_tuple_data (x := .int n) (xs := ns.map .int) (I.ok.hd hc) hl hr (alike_ints (n :: ns)) ?_ fun i v h' tk bs _ rd hk => ?_
    · have := depth_ints (n :: ns)
      rw [List.map_cons] at this
      omega
    · rw [minD_ints] at rd
      obtain ⟨t, rfl⟩ := reads_int rd
      exact ⟨.int _, H, I.kept hk, ⟨_, rfl⟩, q _ (foldl_min_mem n ns) (foldl_min_le n ns)⟩
theorem cr_maxT (hc : X.calm = true) (hu : X.A.units + 2 < cLine) : CallR X (.builtin "max") (rMaxT X.K) := by
  intro pins s σ H vs us Q I r h
  obtain ⟨a, ns, rfl, hs, hne, q⟩ := h
  obtain ⟨its, rv, hl, _⟩ := I.tuple hs
  rw [Vals.ref1 r]
  cases ns with
  | nil => cases hne
  | cons n ns =>
    obtain ⟨as, hr⟩ := Dp.readsAll I _ _ its (dp_ints (n :: ns)) rv
    refine max_tuple_data (x := .int n) (xs := ns.map .int) (I.ok.hd hc) hl hr (alike_ints (n :: ns)) ?_ fun i v h' tk bs _ rd hk => ?_
    · have := depth_ints (n :: ns)
      rw [List.map_cons] at this
      omega
    · rw [maxD_ints] at rd
      obtain ⟨t, rfl⟩ := reads_int rd
      exact ⟨.int _, H, I.kept hk, ⟨_, rfl⟩, q _ (foldl_max_mem n ns) (foldl_max_ge n ns)⟩
/-- one call name, either a list or a tuple -/
def rOrC (r r' : List V → Hp → VK → Prop) : List V → Hp → VK → Prop := fun vs H Q => r vs H Q ∨ r' vs H Q
theorem cr_or {f : Value} {r r' : List V → Hp → VK → Prop} (h : CallR X f r) (h' : CallR X f r') : CallR X f (rOrC r r') := fun pins s σ H vs us Q I rv q => q.elim (h pins s σ H vs us Q I rv) (h' pins s σ H vs us Q I rv)
end
section
variable {prog : Program} {w : World} {A : Around} {E : Value → Shared → Prop} {s : Shared}
theorem adjust_rev (n : Nat) : Builtin.Slice.sliceAdjust none none (-1) (n : Int) = ((n : Int) - 1, -1) := rfl
theorem places_rev (n : Nat) : Builtin.Slice.slicePlaces ((n : Int) - 1) (-1) (-1) = n := by
  unfold Builtin.Slice.slicePlaces
  have h1 : ¬ ((-1 : Int) > 0) := by omega
  have h2 : (- -1 : Int) = 1 := by decide
  simp only [h1, if_false, h2, Int.ediv_one]
  split <;> omega
theorem sliceApplied_rev {sl : Addr} {vl vu vs : Value} {n : Nat} {Q : Int × Int × Nat → Shared → Prop} (hs : s.heap.IsSliceOf sl vl vu vs) (pl : IsPart vl none) (pu : IsPart vu none) (ps : IsPart vs (some (-1)))
    (h : Q ((n : Int) - 1, -1, n) s) : wpAny (model prog w) A (Builtin.Slice.sliceApplied (.ref sl) (pure (n : Int))) Q E s := by
  obtain ⟨os, hos, hcs, hds⟩ := id hs
  unfold Builtin.Slice.sliceApplied Builtin.Slice.sliceFields
  refine wpAny_bind (wpAny_bind (wpAny_field hos hds (x := vl) rfl (wpAny_bind (wpAny_field hos hds (x := vu) rfl (wpAny_bind (wpAny_field hos hds (x := vs) rfl (wpAny_pure ?_)))))))
  refine wpAny_bind (HT.slicePart_ ps ?_)
  show wpAny _ _ (if ((-1 : Int) == 0) = true then _ else _) _ _ s
  rw [if_neg (by decide)]
  refine wpAny_bind (HT.slicePart_ pl (wpAny_bind (HT.slicePart_ pu (wpAny_bind (wpAny_pure ?_)))))
  show wpAny _ _ (match Builtin.Slice.sliceAdjust none none (-1) (n : Int) with | (lo, hi) => pure (lo, (-1 : Int), Builtin.Slice.slicePlaces lo hi (-1))) _ _ s
  rw [adjust_rev n]
  show wpAny _ _ (pure ((n : Int) - 1, (-1 : Int), Builtin.Slice.slicePlaces ((n : Int) - 1) (-1) (-1))) _ _ s
  rw [places_rev]
  exact wpAny_pure h
theorem fm_congr {α β : Type} {f g : α → Option β} : ∀ {l : List α}, (∀ x, x ∈ l → f x = g x) → l.filterMap f = l.filterMap g
  | [], _ => rfl
  | x :: l, h => by
    have ih := fm_congr (l := l) fun y hy => h y (List.mem_cons_of_mem _ hy)
    rw [List.filterMap_cons, List.filterMap_cons, h x List.mem_cons_self, ih]
theorem pick_rev (xs : Array Value) : ((List.range xs.size).filterMap fun (m : Nat) => xs[(((xs.size : Int) - 1) + (m : Int) * (-1)).toNat]?).toArray = xs.toList.reverse.toArray := by
  have h := krv_pick xs
  unfold slicePick at h
  rw [krv_bounds] at h
  rw [← h]
  show _ = ((sliceRange ((xs.size : Int) - 1) (-1) (-1)).filterMap (xs[·]?)).toArray
  rw [krv_sliceRange, List.filterMap_map]
  congr 1
  apply fm_congr
  intro m hm
  have := List.mem_range.mp hm
  have e : (((xs.size : Int) - 1) + (m : Int) * (-1)).toNat = xs.size - 1 - m := by omega
  show xs[(((xs.size : Int) - 1) + (m : Int) * (-1)).toNat]? = xs[xs.size - 1 - m]?
  rw [e]
theorem getItem_tuple_rev {t sl : Addr} {items : Array Value} {vl vu vs : Value} {Q : Value → Shared → Prop} (ht : IsTup s.heap t items) (hs : s.heap.IsSliceOf sl vl vu vs) (pl : IsPart vl none) (pu : IsPart vu none) (ps : IsPart vs (some (-1)))
    (h : Q (.ref s.heap.objs.size) { s with heap := s.heap.push { cls := .type "tuple", data := .seq items.toList.reverse.toArray } })
    (hsz : items.size ≤ sizeLine) : wpAny (model prog w) A (getItem (.ref t) (.ref sl)) Q E s := by
  have htake : sizeOk (.seq items.toList.reverse.toArray) := by
    show items.toList.reverse.toArray.size ≤ sizeLine
    rw [List.size_toArray, List.length_reverse, Array.length_toList]
    exact hsz
  obtain ⟨os, hos, hcs, hds⟩ := id hs
  have hTs : s.TypeIs (.ref sl) "slice" := ⟨os, hos, hcs⟩
  unfold getItem
  try with_reducible refine wpAny_holding ?_
  first | refine wpAny_bind (wpAny_pure ?_) | skip
  refine wpAny_bind (wpAny_sequenceKey ht.typeIs (by decide) ?_)
  refine wpAny_bind (wpAny_callSpecial?_slot (name := Str.ofString "__getitem__") ht.typeIs PyProof.Rows.slot_tuple_getitem
    (wpAny_call_entry PyProof.Rows.slot_tuple_getitem ht.typeIs entry_tuple_getitem ?_ (args_tuple_getitem _ _)))
  show wpAny _ _ (Builtin.Tuple.tupleItemsOf (.ref t) >>= _) _ _ s
  refine wpAny_bind (tupleItemsOf_ ht ?_)
  refine wpAny_bind (wpAny_typeOf hTs ?_)
  rw [if_pos (by decide)]
  refine wpAny_bind (sliceApplied_rev hs pl pu ps ?_)
  have hno : ¬ ((((items.size : Int) - 1) == 0 && (-1 : Int) == 1 && items.size == items.size) = true) := by
    intro q
    rw [Bool.and_eq_true, Bool.and_eq_true] at q
    exact absurd q.1.2 (by decide)
  show wpAny _ _ (if (((items.size : Int) - 1) == 0 && (-1 : Int) == 1 && items.size == items.size) = true then _ else _) _ _ s
  rw [if_neg hno, pick_rev]
  first
    | exact wpAny_bind (m := Builtin.Tuple.tupleExact _) (wpAny_newObj_type (wpAny_pure ⟨_, rfl, wpAny_pure h⟩) htake)
    | exact wpAny_bind (m := Builtin.Tuple.tupleExact _) (wpAny_newObj_type (wpAny_bind (wpAny_pure (wpAny_pure ⟨_, rfl, wpAny_pure h⟩))) htake)
    | exact wpAny_bind (wpAny_bind (m := Builtin.Tuple.tupleExact _) (wpAny_newObj_type (wpAny_pure (wpAny_pure ⟨_, rfl, wpAny_pure h⟩)) htake))
    | exact wpAny_bind (wpAny_bind (m := Builtin.Tuple.tupleExact _) (wpAny_newObj_type (wpAny_pure ⟨_, rfl, wpAny_pure h⟩) htake))
end
section
variable {X : Cx}
def tRevT (K : PySem.W.Frag) (te : TE) : TE := fun σ H Q => te σ H fun x H1 => ∃ a xs, x = .ref a ∧ SqT K H1 a xs ∧ ∀ p, H1 p = none → Q (.ref p) (upd H1 p (.tup xs.reverse))
theorem pe_revT {e : Expr} {te : TE} {k : Nat} {p1 p2 p3 pos : Pos} (he : PE X e te) : PE X (.Subscript e (.Slice none none (some (.UnaryOp .USub (.Constant (.int 1) k p1) p2)) p3) pos) (tRevT X.K te) := by
  refine ⟨fun pins s σ H Q I h => ?_⟩
  refine Subscript_ (thn (he.run pins s σ H _ I h) fun v s1 ⟨x, H1, I1, r1, q1⟩ => ?_)
  obtain ⟨a, xs, ex, hx, q⟩ := q1
  subst ex
  cases r1
  have hst : PO X (some (.UnaryOp .USub (.Constant (.int 1) k p1) p2)) (tPart (tUn (rU fun i => .int (-i)) (tC (.int 1)))) := po_some (pe_un un_neg pe_int)
  refine wpAny_Slice (thn (po_none.run pins s1 σ H1 (fun o H2 => o = none ∧ H2 = H1) I1 ⟨rfl, rfl⟩) fun vl s2 ⟨l, H2, I2, pl, el, e2⟩ => ?_)
  subst el e2
  refine thn (po_none.run pins s2 σ H2 (fun o H3 => o = none ∧ H3 = H2) I2 ⟨rfl, rfl⟩) fun vu s3 ⟨u, H3, I3, pu, eu, e3⟩ => ?_
  subst eu e3
  refine thn (hst.run pins s3 σ H3 (fun o H4 => o = some (-1) ∧ H4 = H3) I3 ⟨1, rfl, -1, rfl, rfl, rfl⟩) fun vs s4 ⟨o, H4, I4, ps, eo, e4⟩ => ?_
  subst eo e4
  have I5 : Inv X pins σ H4 { s4 with heap := s4.heap.push { cls := .type "slice", data := .fields #[vl, vu, vs] } } := I4.kept (t' := s4.toks) fun b ob q => Heap.get?_push_of_some _ q
  obtain ⟨its, r, ht, hz⟩ := I5.tuple hx
  have hlen := r.length
  show wpAny (model X.prog X.w) X.A (subscriptTail e (.Slice none none (some (.UnaryOp .USub (.Constant (.int 1) k p1) p2)) p3) (.ref a) (.ref s4.heap.objs.size)) (EP X pins σ Q) X.xe { s4 with heap := s4.heap.push { cls := .type "slice", data := .fields #[vl, vu, vs] } }
  refine tail_any (ops := [.ref a, .ref s4.heap.objs.size]) ht.typeIs (PyProof.Rows.slot_tuple_getitem.lookup) ?_ (by with_unfolding_all rfl)
  refine getItem_tuple_rev ht (Heap.IsSliceOf.new _ vl vu vs) pl pu ps ?_ (by rw [List.size_toArray]; omega)
  refine ⟨.ref _, _, I5.laid (t' := s4.toks) (o := .tup xs.reverse) (fun b ob q => Heap.get?_push_of_some _ q) (Nat.le_refl _) ?_, rfl, q _ (I5.hok.fresh (Nat.le_refl _))⟩
  exact ⟨by rw [List.length_reverse]; exact hz, _, r.reverse, IsTup.new _ _⟩
end
section
theorem tuple_mul_one (l : Addr) (items : Array Value) (n : Nat) (dd : Option Addr) (sl : Array (Option Value)) (u : Tok) :
    Meets (Builtin.«tuple.__mul__» ⟨[.ref l, .int 1 u], []⟩) (fun _ R s => s.heap.get? l = some { cls := .type "tuple", dict := dd, data := .seq items n, slots := sl } ∧ R (.ok (.ret (Value.ref l))) s) :=
  .of_wp fun prog w A R s h => by
    obtain ⟨hp, g, d, tk, os⟩ := s
    obtain ⟨hl, h⟩ := h
    have f1 := AutoSeq1.idx_int
    have c0 : (decide ((1 : Int) < -(2 ^ 63)) || decide ((1 : Int) ≥ 2 ^ 63)) = false := by decide
    have c1 : (items.isEmpty || (1 : Int) == 1) = true := by
      cases items.isEmpty <;> rfl
    wp_walk using wpAny_loadPart' hl
    repeat (first
      | (refine wpAny_ite_false (decide_eq_false (by rw [c0]; exact Bool.false_ne_true)) ?_; wp_walk using wpAny_loadPart' hl)
      | (refine wpAny_ite_true (decide_eq_true c1) ?_; wp_walk using wpAny_loadPart' hl))
    exact ⟨_, rfl, h⟩
/-- t * k, k from 1 on: of 1 it is t itself -/
def rRepA (K : PySem.W.Frag) : R2 := fun x y H Q => ∃ l k xs, x = .ref l ∧ y = .int k ∧ SqT K H l xs ∧ xs ≠ [] ∧ 1 ≤ k ∧ k ≤ 1000 ∧ xs.length ≤ 1000 ∧ (k = 1 → Q (.ref l) H) ∧ (2 ≤ k → ∀ p, H p = none → Q (.ref p) (upd H p (.tup (List.replicate k.toNat xs).flatten)))
variable {X : Cx}
theorem op_repA : OpR X (binaryOp .Mult) (rRepA X.K) := by
  intro pins s σ H x y v u Q I rx ry h
  obtain ⟨l, k, xs, rfl, rfl, hT, hne, h1, h2, hz, q1, q2⟩ := h
  by_cases hk : k = 1
  · subst hk
    cases rx
    obtain ⟨t, rfl⟩ := ry
    obtain ⟨its, r, ⟨⟨cls, dd, data, sl⟩, ho, hc, n, hd⟩, hs⟩ := I.tuple hT
    simp only at hc hd
    subst hc hd
    refine wpAny_binaryOp_repeat_ref (T := "tuple") (U := "int") (by decide) ⟨_, ho, rfl⟩ (fun s' => typeIs_int s' 1 t) noFill_tuple_mul F.fills_int_mul F.slot_int_rmul repeat_tuple F.slot_int_index.lookup
      (call_meets F.slot_int_rmul (typeIs_int s 1 t) F.entry_int_rmul (F.args_int_rmul_2 _ _) (int_rmul_tuple 1 t l its.toArray n dd sl)
        ⟨ho, rfl, ⟨_, ho, rfl⟩, call_meets F.slot_tuple_mul ⟨_, ho, rfl⟩ F.entry_tuple_mul (F.args_tuple_mul_2 _ _) (tuple_mul_one l its.toArray n dd sl t) ⟨ho, ?_⟩⟩)
    exact ⟨.ref l, H, I, rfl, q1 rfl⟩
  · exact op_repT pins s σ H _ _ v u Q I rx ry ⟨l, k, xs, rfl, rfl, hT, hne, by omega, h2, hz, q2 (by omega)⟩
end
end KT
namespace KY
open PySem PySem.Spec PyProof.Rows L2 PySem.W LamX KA KW
/-! ### x == y, x != y, where x is an instance whose class writes __eq__ and no __ne__ -/
section
variable {X : Cx} {CX : CXT} {n : Nat} {C f : Addr} {fd : FuncData} {ps : List Str} {sp : Sp} {E : XK}
theorem own_call {A : Around} {pins : List (Addr × Obj)} {σ : L2.St} {H : Hp} {s : Shared} {x y : V} {v u : Value} {R : Bool → Hp → Prop} (sb : L2.Sub X n A) (F : FnOk X.prog X.w X.K X.mg X.base CX n f fd ps sp) (hb : Binds X.K fd ps []) (hx : Passes CX X E)
    (I : Inv X pins σ H s) (rx : RelV x v) (ry : RelV y u) (hsp : sp [x, y] H (fun v H' => ∃ b, v = .bl b ∧ R b H') E) :
    wpAny (model X.prog X.w) A (call (.ref f) [v, u]) (fun r s' => ∃ b, r = .bool b ∧ ∃ H', Inv X pins σ H' s' ∧ R b H') X.xe s := by
  have e0 : Env0 X.prog X.w X.K X.mg X.base A X.stack s H := by
    have e := I.env0
    exact ⟨by rw [sb.fr]; exact e.frames, e.mod, e.bs, e.bsz, e.funs, e.frf, e.hok, e.bare⟩
  have hl := F.len _ _ _ _ hsp
  have r2 : L2.Vals [x, y] [v, u] := .cons rx (.cons ry .nil)
  refine wpAny_call (codeAny_mono (F.run A X.stack s H ⟨[v, u], []⟩ [v, u] [x, y] _ E sb.room e0 (by
    have := hb s [v, u] I.kIn (by simpa using hl)
    simpa using this) r2 hsp) fun r s' hq => ?_)
  cases r with
  | error e => exact hx pins σ H s e s' I hq
  | ok fl =>
    cases fl with
    | ret w =>
      obtain ⟨z, H', I', rz, b, ez, ex⟩ := I.after hq
      subst ez
      cases rz
      exact ⟨b, rfl, H', I', ex⟩
    | next => exact False.elim hq
    | brk => exact False.elim hq
    | cont => exact False.elim hq
def rEqI (K : PySem.W.Frag) (C : Addr) (sp : Sp) (E : XK) (g : Bool → Bool) : R2 := fun x y H Q => ∃ a dx fs tb, x = .ref a ∧ H a = some (.ins C dx fs) ∧ TyX K H y tb ∧ PySem.W.notFirst K C tb = true ∧ sp [x, y] H (fun v H' => ∃ b, v = .bl b ∧ Q (.bl (g b)) H') E
theorem op_eqI (F : FnOk X.prog X.w X.K X.mg X.base CX n f fd ps sp) (hr : Room n X.A) (hs : PySem.W.findIn X.K (.ref C) "__eq__" = some (some (.ref f))) (hf : PySem.W.isFn X.K (.ref f) = true) (hb : Binds X.K fd ps []) (hx : Passes CX X E) :
    OpR X (compareOp .Eq) (rEqI X.K C sp E fun b => b) := by
  intro pins s σ H x y v u Q I rx ry h
  obtain ⟨a, dx, fs, tb, rfl, ha, ty, nf, hsp⟩ := h
  cases rx
  obtain ⟨mA, J, _⟩ := ins_get I.hok ha
  obtain ⟨od, J, _⟩ := J.look
  obtain ⟨Pk, Z, pk, _⟩ := kit_of I ry ty
  obtain ⟨m, hF⟩ := I.fr
  show wpAny (model X.prog X.w) X.A (richCompare .Eq (.ref a) u) (EP X pins σ Q) X.xe s
  refine PySem.W.cmp_K (op := .Eq) hr.units0 hF I.ok.mod.kin J (Z.ty _ _ I.kIn pk) nf hs hf ?_
  refine wpAny_mono (own_call ⟨hr, rfl⟩ F hb hx I (x := .ref a) (show L2.RelV (.ref a) (.ref a) from rfl) ry hsp) (fun r s' hq => ?_) fun _ _ e => e
  obtain ⟨b, rfl, H', I', q⟩ := hq
  exact ⟨.bl b, H', I', rfl, q⟩
section
variable {M : Model} {prog : Program} {w : World} {A : Around} {E' : Value → Shared → Prop} {s : Shared} {K : PySem.W.Frag} {x : Addr} {ox : Obj} {od : Option Obj}
theorem ifBound_objNe {args : List Value} {Q : Option Value → Shared → Prop} (X : K.In s.heap) (I : PySem.W.InstAt s.heap x ox C od) (hs : PySem.W.findIn K (.ref C) "__ne__" = some (some (.builtin "object.__ne__")))
    (h : wpAny M A (call (.builtin "object.__ne__") (.ref x :: args)) (fun v => Q (some v)) E' s) : wpAny M A (callSpecialIfBound? (.ref x) "__ne__" args) Q E' s := by
  simp only [callSpecialIfBound?, bindSpecialIfBound?]
  refine wpAny_holding (wpAny_bind (wpAny_bind (wpAny_bind (I.type.here ((PySem.W.looks_findIn X hs).here ?_)))))
  refine wpAny_bind (wpAny_askSetting (wpAny_ite ?_))
  have fin : wpAny M A (call (.builtin "object.__ne__") ([.ref x] ++ args) >>= fun v => pure (some v)) Q E' s := wpAny_bind (wpAny_mono h (fun v s' h' => wpAny_pure h') fun _ _ h' => h')
  split
  · exact wpAny_bind (wpAny_of_eq (F.cmp_object.ne.bind _) (wpAny_pure (by exact fin)))
  · exact wpAny_tryCatch (wpAny_bind (wpAny_of_eq (F.cmp_object.ne.bind _) (wpAny_pure (by exact fin))))
theorem entry_ne {y : Value} {Q : Fin → Shared → Prop} (hu : A.units < cLine) (X : K.In s.heap) (I : PySem.W.InstAt s.heap x ox C od) (hs : PySem.W.findIn K (.ref C) "__eq__" = some (some (.ref f))) (hf : PySem.W.isFn K (.ref f) = true)
    (hcall : wpAny (model prog w) A (call (.ref f) [.ref x, y]) (fun v s' => ∃ b, v = .bool b ∧ Q (.done (.ret (.bool (!b)))) s') E' s) :
    wpAny (model prog w) A (Builtin.«object.__ne__» ⟨[.ref x, y], []⟩) Q E' s := by
  unfold Builtin.«object.__ne__»
  repeat (first
    | with_reducible refine wpAny_cRoomFor hu ?_
    | (refine wpAny_bind (m := callSpecialIfBound? (.ref x) (Str.ofString "__eq__") [y])
        (PySem.W.ifBound_K X I hs hf (wpAny_mono hcall (fun r s' hr => by
          obtain ⟨b, rfl, hq⟩ := hr
          repeat (first | exact hq | exact wpAny_pure hq | exact wpAny_truthy_bool hq | (refine wpAny_bind (m := truthy (.bool _)) (wpAny_truthy_bool ?_)) | wp_step)) fun _ _ e => e)))
    | wp_step)
theorem ne_K {L : Addr} {h₀ : Heap} {m : Str → Option Value} {b tb : Value} {Q : Value → Shared → Prop} (hu : A.units + 1 < cLine) (hF : Fr h₀ L s.heap m) (X₀ : K.In h₀) (I : PySem.W.InstAt s.heap x ox C od) (hb : PySem.W.Looks (model prog w) s.heap (typeOf b) tb) (hn : PySem.W.notFirst K C tb = true)
    (hne : PySem.W.findIn K (.ref C) "__ne__" = some (some (.builtin "object.__ne__"))) (hm : PySem.W.mroIn K C (.type "object") = some true) (hs : PySem.W.findIn K (.ref C) "__eq__" = some (some (.ref f))) (hf : PySem.W.isFn K (.ref f) = true)
    (h : wpAny (model prog w) A.in1 (call (.ref f) [.ref x, b]) (fun v s' => ∃ c, v = .bool c ∧ Q (.bool (!c)) s') E' s) : wpAny (model prog w) A (richCompare .NotEq (.ref x) b) Q E' s := by
  have X := X₀.keeps hF.keep
  have one : wpAny (model prog w) A (tryCompare (.ref x) "__ne__" b) (fun r s' => ∃ v, r = some v ∧ Q v s') E' s := by
    unfold tryCompare
    refine wpAny_bind (ifBound_objNe X I hne ?_)
    refine wpAny_call (codeAny_call_builtin F.cmp_object.ne.plain F.cmpEntry_ne (PySem.W.check_slot F.cmpKind_ne F.cmpSplit_ne (I.type.andThen (PySem.W.looks_mroIn X hm)) (F.cmpArgs_ne _ _) (entry_ne (A := A.in1) (by show A.units + 1 < cLine; exact hu) X I hs hf (wpAny_mono h (fun r s' hr => ?_) fun _ _ e => e))))
    obtain ⟨c, rfl, q⟩ := hr
    refine ⟨c, rfl, ?_⟩
    first
      | exact wpAny_pure ⟨_, rfl, q⟩
      | exact ⟨_, rfl, q⟩
  unfold richCompare
  simp only [oneThing_ref]
  refine wpAny_holding (wpAny_bind (wpAny_cRoomFor (by omega) ?_))
  refine wpAny_bind (I.type.here (wpAny_bind (hb.here ?_)))
  split
  · rename_i q
    have e : subIn K tb (.ref C) = some false := by
      rcases Bool.or_eq_true_iff.mp hn with e | e
      · rw [beq_iff_eq.mp e] at q; simp at q
      · exact beq_iff_eq.mp e
    refine wpAny_bind ((looks_subIn X e).here ?_)
    simp only [Bool.false_eq_true, if_false]
    refine wpAny_bind (wpAny_mono one (fun r s' z => ?_) fun _ _ e => e)
    obtain ⟨v, rfl, hq⟩ := z
    exact wpAny_pure hq
  · refine wpAny_bind (wpAny_pure ?_)
    simp only [Bool.false_eq_true, if_false]
    refine wpAny_bind (wpAny_mono one (fun r s' z => ?_) fun _ _ e => e)
    obtain ⟨v, rfl, hq⟩ := z
    exact wpAny_pure hq
end
theorem op_neI (F : FnOk X.prog X.w X.K X.mg X.base CX n f fd ps sp) (hr : Room (n + 1) X.A) (hs : PySem.W.findIn X.K (.ref C) "__eq__" = some (some (.ref f))) (hne : PySem.W.findIn X.K (.ref C) "__ne__" = some (some (.builtin "object.__ne__"))) (hm : PySem.W.mroIn X.K C (.type "object") = some true)
    (hf : PySem.W.isFn X.K (.ref f) = true) (hb : Binds X.K fd ps []) (hx : Passes CX X E) :
    OpR X (compareOp .NotEq) (rEqI X.K C sp E fun b => !b) := by
  intro pins s σ H x y v u Q I rx ry h
  obtain ⟨a, dx, fs, tb, rfl, ha, ty, nf, hsp⟩ := h
  cases rx
  obtain ⟨mA, J, _⟩ := ins_get I.hok ha
  obtain ⟨od, J, _⟩ := J.look
  obtain ⟨Pk, Z, pk, _⟩ := kit_of I ry ty
  obtain ⟨m, hF⟩ := I.fr
  show wpAny (model X.prog X.w) X.A (richCompare .NotEq (.ref a) u) (EP X pins σ Q) X.xe s
  have hu : X.A.units + 1 < cLine := by
    have := hr.units
    omega
  refine ne_K hu hF I.ok.mod.kin J (Z.ty _ _ I.kIn pk) nf hne hm hs hf ?_
  refine wpAny_mono (own_call (L2.Sub.in1 ⟨hr, rfl⟩) F hb hx I (x := .ref a) (show L2.RelV (.ref a) (.ref a) from rfl) ry hsp) (fun r s' hq => ?_) fun _ _ e => e
  obtain ⟨b, rfl, H', I', q⟩ := hq
  exact ⟨b, rfl, .bl (!b), H', I', rfl, q⟩
end
end KY
namespace KEN
open PySem PySem.Spec PyProof.Rows L2 PySem.W PySem.AutoSeq1 RZ
/-! ### enumerate(t), t a tuple: the iterator's two cells, a turn of it -/
abbrev enO (it : Addr) : Obj := { cls := .type "enumerate", data := .fields #[.none, .bool false, .ref it, rawInt 0, .none, .none] }
abbrev tiO (l : Addr) : Obj := { cls := .type "tuple_iterator", data := .fields #[.ref l, .int 0 0] }
/-- what enumerate makes of a tuple: its iterator, and the counter behind it -/
theorem made_enum (l : Addr) (its : Array Value) : Meets (Builtin.«enumerate.__new__» ⟨[.type "enumerate", .ref l], []⟩)
    fun _ R s => s.heap.IsTuple l its ∧ R (.ok (.ret (.ref (s.heap.push (tiO l)).objs.size))) { s with heap := (s.heap.push (tiO l)).push (enO s.heap.objs.size) } :=
  .of_wp fun P w A R ⟨hp, g, d, tk, os⟩ ⟨tl, fin⟩ => by
    have up := sub_enumerate
    have it {A' : Around} {E Q : Value → Shared → Prop} (q : Q (.ref hp.objs.size) ⟨hp.push (tiO l), g, d, tk, os⟩) : wpAny (model P w) A' (pyIter (.ref l)) Q E ⟨hp, g, d, tk, os⟩ := wpAny_pyIter_tuple (s := ⟨hp, g, d, tk, os⟩) tl q
    wp_walk using it
    refine wpAny_stack_any fun _ => wpAny_pure ?_
    split
    all_goals first
      | (rename_i cl _ _ _ _ _; cases (cl == Value.type "enumerate") <;> (wp_walk using it; exact ⟨_, rfl, fin⟩))
      | (wp_walk using it; exact ⟨_, rfl, fin⟩)
/-- the state of such an iterator ahead of item i -/
structure EnSt (a e it : Addr) (i : Nat) (h : Heap) : Prop where
  en : ∃ old, IsEnum h e it (i : Int) old
  ti : h.IsTupleIter it a i
  ne : e ≠ it
section
variable {a e it : Addr} {i : Nat} {h h' : Heap}
theorem two {b x y : Addr} (m : b ∈ [x, y]) : b = x ∨ b = y := by simpa using m
theorem EnSt.keep (s : EnSt a e it i h) (k : ∀ b ∈ [e, it], ∀ o, h.get? b = some o → h'.get? b = some o) : EnSt a e it i h' :=
  ⟨s.en.imp fun _ q => k e List.mem_cons_self _ q, s.ti.at fun o q => k it (List.mem_cons_of_mem _ List.mem_cons_self) o q, s.ne⟩
theorem EnSt.cell (s : EnSt a e it i h) {b : Addr} (m : b ∈ [e, it]) : b < h.objs.size ∧ ∃ o, h.get? b = some o ∧ ∀ v, o.data ≠ .cell v := by
  rcases two m with rfl | rfl
  · obtain ⟨_, q⟩ := s.en
    exact ⟨Heap.lt_size q, _, q, fun _ z => nomatch z⟩
  · obtain ⟨o, q, _, dq⟩ := s.ti
    exact ⟨Heap.lt_size q, o, q, fun _ z => by rw [dq] at z; cases z⟩
theorem EnSt.off (s : EnSt a e it i h) {its : Array Value} (t : h.IsTuple a its) : a ≠ it ∧ a ≠ e := by
  obtain ⟨o, q, cq, _⟩ := t
  constructor <;> rintro rfl
  · obtain ⟨o2, q2, cq2, _⟩ := s.ti
    rw [q] at q2
    cases q2
    exact absurd (Value.type.inj (cq.symm.trans cq2)) (by decide)
  · obtain ⟨_, q2⟩ := s.en
    have same := q.symm.trans q2
    cases same
    exact absurd (Value.type.inj cq.symm) (by decide)
end
theorem seqT {K : PySem.W.Frag} {H H' : Hp} {a : Addr} {xs : List V} (e : Same H H') (h : SqT K H a xs) : SqT K H' a xs := h.imp (fun q => q.imp (e _ _) fun ⟨o, z⟩ => ⟨o, e _ _ z⟩) id
/-- the tuple's items in draws -/
theorem drawn {P : Program} {w : World} {A : Around} {it l : Addr} {its : Array Value} (calm : A.handled = none) (ne : l ≠ it) : Draws P w A it [it, l] its.size (fun j v => its[j]? = some v) fun j h => h.IsTupleIter it l j ∧ h.IsTuple l its := by
  constructor
  · exact fun _ _ st => st.1.imp fun _ q => q.1
  · rintro j h h' ⟨st, o, q, r⟩ k
    exact ⟨st.at fun _ z => k it List.mem_cons_self _ z, o, k l (List.mem_cons_of_mem _ List.mem_cons_self) _ q, r⟩
  · intro j s Q E lt st k
    have here : its[j]? = some its[j] := Array.getElem?_eq_getElem lt
    exact nextOf_tuple_item st.1 st.2 here fun h' st' sb => k _ h' s.toks here ⟨st', st.2.extBut sb.extBut ne⟩ sb
  · exact fun s Q E st k => nextOf_tuple_end calm st.1 st.2 (Array.getElem?_eq_none (Nat.le_refl _)) k
/-- each item of the tuple at a in a new pair behind its place -/
def ItE (K : PySem.W.Frag) (a : Addr) : It where
  go i H := ∃ xs x, SqT K H a xs ∧ xs[i]? = some x
  yld i H v H' := ∃ t x, v = .ref t ∧ H t = none ∧ H' = upd H t (.tup [.int (i : Nat), x]) ∧ ∀ xs, SqT K H a xs → xs[i]? = some x
  stop i H := ∃ xs : List V, SqT K H a xs ∧ xs.length = i
theorem turn_en {P : Program} {w : World} {K : PySem.W.Frag} {elts : List Expr} {kk : Nat} {tpos : Pos} (a e it : Addr) : Turn P w K (.Tuple elts kk tpos) (ItE K a) [e, it] e (EnSt a e it) := by
  constructor
  · exact List.mem_cons_self
  · exact fun i h st b m => (st.cell m).2
  · exact fun i h h' st k => st.keep k
  · intro X eP ew eK calm i pins s σ H E I free st ⟨xs, x, sq, at_⟩
    subst eP ew eK
    obtain ⟨vs, vals, tup, _⟩ := I.tuple sq
    have tup : s.heap.IsTuple a vs.toArray := tup
    obtain ⟨u, uat, urel⟩ := vals.get at_
    obtain ⟨o1, o2⟩ := st.off tup
    obtain ⟨old, en⟩ := st.en
    have lt : i < vs.toArray.size := by simpa using (List.getElem?_eq_some_iff.mp uat).1
    refine wpAny_pyNext_enum_itemD (drawn (its := vs.toArray) (A := X.A.in1) (I.ok.hd calm) o1) en ⟨st.ti, tup⟩ lt st.ne (fun m => (two m).elim st.ne o2.symm) fun y h1 tk yat out ti1 pair size keep => ?_
    have same : y = u := Option.some.inj (yat.symm.trans (by simpa using uat))
    subst same
    refine ⟨_, rfl, wpAny_letOwnedTupleGo_enum (s := { s with heap := h1, toks := tk + 1 }) out fun h2 en2 sb => ?_⟩
    have le := (st.cell (b := e) List.mem_cons_self).1
    have pair2 : h2.get? s.heap.objs.size = some { cls := .type "tuple", data := .seq #[.int i tk, y] } := (sb.2 _ (Nat.ne_of_gt le)).trans pair
    have obj : ObjOk X.prog X.w (upd H s.heap.objs.size (.tup [.int (i : Nat), x])) h2 s.heap.objs.size (.tup [.int (i : Nat), x]) :=
      ⟨by show 2 ≤ sizeLine; decide, _, .cons ⟨tk, rfl⟩ (.cons urel .nil), ⟨_, pair2, rfl, _, rfl⟩⟩
    refine ⟨.ref s.heap.objs.size, _, I.turnedNew (t' := tk + 1) (fun b o off q => ?_) free (Nat.le_refl _) obj, rfl, ⟨_, x, rfl, I.hok.fresh (Nat.le_refl _), rfl, fun ys sy => ?_⟩, ⟨⟨y, ?_⟩, ti1.1.at fun o q => (sb.2 it st.ne.symm).trans q, st.ne⟩, fun b m => ?_⟩
    · have ne1 : b ≠ e := fun z => off (z ▸ List.mem_cons_self)
      exact (sb.2 b ne1).trans (keep b o ne1 (fun z => off (z ▸ List.mem_cons_of_mem _ List.mem_cons_self)) q)
    · rw [I.tuple_inj sy sq]
      exact at_
    · rw [Int.natCast_succ]
      exact en2
    · rw [upd_ne (Nat.ne_of_lt (st.cell m).1)]
      exact (free b m).1
  · intro X eP ew eK calm i pins s σ H E I free st ⟨xs, sq, all⟩
    subst eP ew eK all
    obtain ⟨vs, vals, tup, _⟩ := I.tuple sq
    obtain ⟨old, en⟩ := st.en
    have tup : s.heap.IsTuple a vs.toArray := tup
    have size : vs.toArray.size = xs.length := by rw [List.size_toArray, vals.length]
    have own := free it (List.mem_cons_of_mem _ List.mem_cons_self)
    refine wpAny_pyNext_enum_endD (drawn (its := vs.toArray) (A := X.A.in1) (I.ok.hd calm) (st.off tup).1) en (by rw [size]; exact ⟨st.ti, tup⟩) fun h1 but => ⟨rfl, ?_⟩
    exact I.turned (t' := s.toks) (fun b o off q => but b o off q) own.1 own.2.1 own.2.2.2.1 own.2.2.2.2.1 own.2.2.2.2.2
  · exact fun A i s Q E st k => st.en.elim fun _ q => wpAny_pyIter_enum q k
theorem walk_en {K : PySem.W.Frag} {a : Addr} {xs : List V} : Walk (ItE K a) xs.length (fun H => SqT K H a xs) (YPair (fun i => some (.int (i : Nat))) fun i => xs[i]?) := by
  refine ⟨fun i H lt sq => ⟨xs, _, sq, List.getElem?_eq_getElem lt⟩, fun H sq => ⟨xs, sq, rfl⟩, ?_⟩
  rintro i H v H' lt sq ⟨t, x, ev, ft, eH, k⟩
  exact ⟨t, _, x, ev, ft, eH, rfl, k xs sq⟩
section
variable {X : Cx}
theorem fresh_fp {pins : List (Addr × Obj)} {σ : L2.St} {H : Hp} {s : Shared} (I : Inv X pins σ H s) {bs : List Addr} (h : ∀ b ∈ bs, s.heap.objs.size ≤ b) : ∀ b ∈ bs, FpOk X pins H b := fun b m => I.fpOk (h b m) (I.hok.fresh (h b m))
/-- for i, x in enumerate(l), l a list or a tuple -/
def iEnumS (K : PySem.W.Frag) (ta : TA) : TI := fun σ H R => ta σ H fun vs H1 => ∃ a xs, vs = [.ref a] ∧ (SqL K H1 a xs ∨ SqT K H1 a xs) ∧ ∀ (J : It) (G : Hp → Prop), Walk J xs.length G (YPair (fun i => some (.int (i : Nat))) (fun i => xs[i]?)) → (∀ H', Same H1 H' → G H') → R J H1
theorem pi_enumS {e : Expr} {ta : TA} {p pos tpos : Pos} {elts : List Expr} {kk : Nat} (hg : Gl X "enumerate") (hm : X.mg "enumerate" = none) (ha : PA X [e] ta) (hs : starEach [e] X.env = [(false, eval e X.env)] := by rfl) :
    PI X (.Tuple elts kk tpos) (.Call (.Name "enumerate" p) [e] [] pos) (iEnumS X.K ta) := by
  constructor
  intro pins s σ H R I h
  have args := thn (ha.run pos pins s σ H _ I h) (Q' := fun us s1 => wpAny (model X.prog X.w) X.A (call (.type "enumerate") us) (fun v s2 => wpAny (model X.prog X.w) X.A (pyIter v) (PIE X pins σ (.Tuple elts kk tpos) R) X.xe s2) X.xe s1) ?_
  · exact Call_ (ld_blt I hg hm boot_enumerate (PyProof.Rows.callWith_type1 args hs rfl))
  rintro us s1 ⟨vs, H1, J1, rel, a, xs, rfl, sq, k⟩
  obtain ⟨u, rfl, ru⟩ := vals1 rel
  cases ru
  have fp := fresh_fp J1 (bs := [s1.heap.objs.size + 1, s1.heap.objs.size]) fun b m => (two m).elim (fun z => Nat.le_of_lt (Nat.lt_of_lt_of_eq (Nat.lt_succ_self _) z.symm)) fun z => Nat.le_of_eq z.symm
  rcases sq with sq | sq
  · obtain ⟨vs, vals, lst, _⟩ := J1.list sq
    refine call_enumerate_list lst.isList fun h' en li size keep => wpAny_pyIter_enum en ?_
    exact ⟨_, _, _, _, H1, rfl, J1.kept (t' := s1.toks) keep, turn_enum a _ _, ⟨⟨_, en⟩, li, Nat.succ_ne_self _⟩, fp, k _ _ walk_enum fun H' s' => s'.seq sq⟩
  · obtain ⟨vs, vals, tup, _⟩ := J1.tuple sq
    refine callType_new F.called_enumerate (by decide) (F.typeCall_enumerate_1 _) (F.newCall_enumerate_1 _) (fun o => F.args_object_init_2 o _) F.entry_enumerate_new (made_enum a vs.toArray) ⟨tup, ?_⟩
    have size : (s1.heap.push (tiO a)).objs.size = s1.heap.objs.size + 1 := Heap.size_push _ _
    have en : IsEnum ((s1.heap.push (tiO a)).push (enO s1.heap.objs.size)) (s1.heap.objs.size + 1) s1.heap.objs.size 0 .none := size ▸ Heap.get?_push_size (s1.heap.push (tiO a)) (o := enO s1.heap.objs.size) rfl
    rw [size]
    refine ⟨⟨_, en, rfl⟩, wpAny_pyIter_enum en ?_⟩
    have keep : ∀ b o, s1.heap.get? b = some o → ((s1.heap.push (tiO a)).push (enO s1.heap.objs.size)).get? b = some o := fun b o q => Heap.get?_push_of_some _ (Heap.get?_push_of_some _ q)
    exact ⟨_, _, _, _, H1, rfl, J1.kept (t' := s1.toks) keep, turn_en a _ _, ⟨⟨_, en⟩, ⟨_, Heap.get?_push_of_some _ (Heap.get?_push_size _ rfl), rfl, rfl⟩, Nat.succ_ne_self _⟩, fp, k _ _ walk_en fun H' s' => seqT s' sq⟩
/-! ### for x in l, l a list or a tuple -/
def iSeqS (K : PySem.W.Frag) (tl : TE) : TI := fun σ H R => tl σ H fun x H1 => ∃ a xs, x = .ref a ∧ (SqL K H1 a xs ∨ SqT K H1 a xs) ∧ ∀ (J : It) (G : Hp → Prop), Walk J xs.length G (YAt xs) → (∀ H', Same H1 H' → G H') → R J H1
theorem pi_seqS {tg l : Expr} {tl : TE} (hl : PE X l tl) : PI X tg l (iSeqS X.K tl) := by
  constructor
  intro pins s σ H R I h
  refine thn (hl.run pins s σ H _ I h) ?_
  rintro v s1 ⟨x, H1, J1, rel, a, xs, rfl, sq, k⟩
  cases rel
  have fp := fresh_fp J1 (bs := [s1.heap.objs.size]) fun b m => Nat.le_of_eq (List.mem_singleton.mp m).symm
  have keep (o : Obj) := J1.kept (t' := s1.toks) fun b u (q : s1.heap.get? b = some u) => Heap.get?_push_of_some o q
  rcases sq with sq | sq
  · obtain ⟨vs, vals, lst, _⟩ := J1.list sq
    exact wpAny_pyIter_list lst.isList ⟨_, _, _, _, H1, rfl, keep _, turn_list a _, ⟨_, Heap.get?_push_size _ rfl, rfl, rfl⟩, fp, k _ _ walk_list fun H' s' => s'.seq sq⟩
  · obtain ⟨vs, vals, tup, _⟩ := J1.tuple sq
    have tup : s1.heap.IsTuple a vs.toArray := tup
    exact wpAny_pyIter_tuple tup ⟨_, _, _, _, H1, rfl, keep _, turn_tuple a _, ⟨_, Heap.get?_push_size _ rfl, rfl, rfl⟩, fp, k _ _ walk_tup fun H' s' => seqT s' sq⟩
end
end KEN
namespace K08
/-! ### frames that lean on others: the mathematics -/
def subs : Nat → List (List Nat)
  | 0 => [[]]
  | n + 1 => subs n ++ (subs n).map (· ++ [n])
theorem mem_subs : ∀ (n : Nat) (s : List Nat), s ∈ subs n ↔ s.Pairwise (· < ·) ∧ ∀ x ∈ s, x < n
  | 0, s => by
    constructor
    · intro h
      rw [List.mem_singleton.mp h]
      exact ⟨.nil, fun x hx => nomatch hx⟩
    · rintro ⟨_, h⟩
      cases s with
      | nil => exact List.mem_singleton.mpr rfl
      | cons x s => exact absurd (h x List.mem_cons_self) (Nat.not_lt_zero _)
  | n + 1, s => by
    have ih := mem_subs n
    show s ∈ subs n ++ (subs n).map (· ++ [n]) ↔ _
    rw [List.mem_append, List.mem_map]
    constructor
    · rintro (h | ⟨t, ht, rfl⟩)
      · obtain ⟨a, b⟩ := (ih s).mp h
        exact ⟨a, fun x hx => Nat.lt_succ_of_lt (b x hx)⟩
      · obtain ⟨a, b⟩ := (ih t).mp ht
        refine ⟨List.pairwise_append.mpr ⟨a, List.pairwise_singleton _ _, fun x hx y hy => ?_⟩, fun x hx => ?_⟩
        · rw [List.mem_singleton.mp hy]
          exact b x hx
        · rcases List.mem_append.mp hx with h | h
          · exact Nat.lt_succ_of_lt (b x h)
          · rw [List.mem_singleton.mp h]
            exact Nat.lt_succ_self _
    · rintro ⟨a, b⟩
      rcases List.eq_nil_or_concat s with rfl | ⟨t, y, rfl⟩
      · exact .inl ((ih []).mpr ⟨.nil, fun x hx => nomatch hx⟩)
      · simp only [List.concat_eq_append] at a b ⊢
        obtain ⟨a1, _, a3⟩ := List.pairwise_append.mp a
        have lt : ∀ x ∈ t, x < y := fun x hx => a3 x hx y (List.mem_singleton.mpr rfl)
        have hy := b y (List.mem_append_right _ (List.mem_singleton.mpr rfl))
        by_cases e : y = n
        · subst e
          exact .inr ⟨t, (ih t).mpr ⟨a1, lt⟩, rfl⟩
        · refine .inl ((ih _).mpr ⟨a, fun x hx => ?_⟩)
          rcases List.mem_append.mp hx with h | h
          · have := lt x h
            omega
          · rw [List.mem_singleton.mp h]
            omega
/-- ascending lists of the same items are one -/
theorem asc_ext : ∀ (a b : List Nat), a.Pairwise (· < ·) → b.Pairwise (· < ·) → (∀ x, x ∈ a ↔ x ∈ b) → a = b
  | [], [], _, _, _ => rfl
  | [], y :: b, _, _, h => by have := (h y).mpr List.mem_cons_self; cases this
  | x :: a, [], _, _, h => by have := (h x).mp List.mem_cons_self; cases this
  | x :: a, y :: b, ha, hb, h => by
    obtain ⟨a1, a2⟩ := List.pairwise_cons.mp ha
    obtain ⟨b1, b2⟩ := List.pairwise_cons.mp hb
    have e : x = y := by
      rcases List.mem_cons.mp ((h x).mp List.mem_cons_self) with z | z
      · exact z
      · rcases List.mem_cons.mp ((h y).mpr List.mem_cons_self) with z2 | z2
        · exact z2.symm
        · have := a1 y z2
          have := b1 x z
          omega
    subst e
    rw [asc_ext a b a2 b2 fun z => ?_]
    constructor
    · intro hz
      rcases List.mem_cons.mp ((h z).mp (List.mem_cons_of_mem _ hz)) with e | e
      · subst e
        exact absurd (a1 z hz) (Nat.lt_irrefl _)
      · exact e
    · intro hz
      rcases List.mem_cons.mp ((h z).mpr (List.mem_cons_of_mem _ hz)) with e | e
      · subst e
        exact absurd (b1 z hz) (Nat.lt_irrefl _)
      · exact e
theorem range_asc : ∀ n : Nat, (List.range n).Pairwise (· < ·) := fun n => List.pairwise_lt_range
theorem filter_asc (n : Nat) (p : Nat → Bool) : ((List.range n).filter p).Pairwise (· < ·) := (range_asc n).filter _
theorem filter_subs (n : Nat) (p : Nat → Bool) : (List.range n).filter p ∈ subs n :=
  (mem_subs n _).mpr ⟨filter_asc n p, fun x hx => List.mem_range.mp (List.mem_filter.mp hx).1⟩
theorem asc_filter {n : Nat} {s : List Nat} (h : s ∈ subs n) : s = (List.range n).filter fun x => decide (x ∈ s) := by
  obtain ⟨a, b⟩ := (mem_subs n s).mp h
  refine asc_ext _ _ a (filter_asc _ _) fun x => ?_
  rw [List.mem_filter, List.mem_range, decide_eq_true_eq]
  exact ⟨fun hx => ⟨b x hx, hx⟩, fun h => h.2⟩
/-! ### gains -/
def gat (g : List Int) (i : Nat) : Int := g.getD i 0
def gain (g : List Int) (s : List Nat) : Int := (s.map (gat g)).sum
def wsum (g : List Int) (p : Nat → Bool) : Nat → Int
  | 0 => 0
  | n + 1 => wsum g p n + if p n then gat g n else 0
theorem gain_filter (g : List Int) (p : Nat → Bool) : ∀ n, gain g ((List.range n).filter p) = wsum g p n
  | 0 => rfl
  | n + 1 => by
    have ih := gain_filter g p n
    unfold gain at ih ⊢
    rw [List.range_succ, List.filter_append, List.map_append, List.sum_append, ih]
    show _ = wsum g p n + _
    cases h : p n
    · simp [h]
    · simp [h]
theorem wsum_mod (g : List Int) (p q : Nat → Bool) : ∀ n, wsum g (fun x => p x && q x) n + wsum g (fun x => p x || q x) n = wsum g p n + wsum g q n
  | 0 => rfl
  | n + 1 => by
    have ih := wsum_mod g p q n
    simp only [wsum]
    generalize wsum g (fun x => p x && q x) n = z1 at ih ⊢
    generalize wsum g (fun x => p x || q x) n = z2 at ih ⊢
    generalize wsum g p n = z3 at ih ⊢
    generalize wsum g q n = z4 at ih ⊢
    have h : ∀ (x y : Bool) (v : Int), (if (x && y) = true then v else 0) + (if (x || y) = true then v else 0) = (if x = true then v else 0) + (if y = true then v else 0) := fun x y v => by
      cases x <;> cases y <;> simp
    have := h (p n) (q n) (gat g n)
    omega
theorem wsum_congr (g g' : List Int) (p q : Nat → Bool) : ∀ n, (∀ i, i < n → gat g i = gat g' i) → (∀ i, i < n → p i = q i) → wsum g p n = wsum g' q n
  | 0, _, _ => rfl
  | n + 1, h1, h2 => by
    simp only [wsum]
    rw [wsum_congr g g' p q n (fun i hi => h1 i (Nat.lt_succ_of_lt hi)) (fun i hi => h2 i (Nat.lt_succ_of_lt hi)), h1 n (Nat.lt_succ_self _), h2 n (Nat.lt_succ_self _)]
def row (rows : List (List Nat)) (f : Nat) : List Nat := rows.getD f []
def inB (s : List Nat) (x : Nat) : Bool := decide (x ∈ s)
def wholeB (rows : List (List Nat)) (s : List Nat) : Bool := s.all fun f => (row rows f).all (inB s)
theorem wholeB_iff {rows : List (List Nat)} {s : List Nat} : wholeB rows s = true ↔ ∀ f ∈ s, ∀ x ∈ row rows f, x ∈ s := by
  unfold wholeB inB
  simp only [List.all_eq_true, decide_eq_true_eq]
def wholes (rows : List (List Nat)) : List (List Nat) := (subs rows.length).filter (wholeB rows)
theorem mem_wholes {rows : List (List Nat)} {s : List Nat} : s ∈ wholes rows ↔ (s.Pairwise (· < ·) ∧ ∀ x ∈ s, x < rows.length) ∧ ∀ f ∈ s, ∀ x ∈ row rows f, x ∈ s := by
  unfold wholes
  rw [List.mem_filter, mem_subs, wholeB_iff]
def cap (n : Nat) (a b : List Nat) : List Nat := (List.range n).filter fun x => inB a x && inB b x
def cup (n : Nat) (a b : List Nat) : List Nat := (List.range n).filter fun x => inB a x || inB b x
theorem mem_cap {n : Nat} {a b : List Nat} {x : Nat} : x ∈ cap n a b ↔ x < n ∧ x ∈ a ∧ x ∈ b := by
  unfold cap inB
  simp [List.mem_filter]
theorem mem_cup {n : Nat} {a b : List Nat} {x : Nat} : x ∈ cup n a b ↔ x < n ∧ (x ∈ a ∨ x ∈ b) := by
  unfold cup inB
  simp [List.mem_filter]
section
variable {rows : List (List Nat)} {a b : List Nat}
theorem cap_wholes (ha : a ∈ wholes rows) (hb : b ∈ wholes rows) : cap rows.length a b ∈ wholes rows := by
  obtain ⟨⟨a1, a2⟩, a3⟩ := mem_wholes.mp ha
  obtain ⟨⟨b1, b2⟩, b3⟩ := mem_wholes.mp hb
  refine mem_wholes.mpr ⟨⟨filter_asc _ _, fun x hx => (mem_cap.mp hx).1⟩, fun f hf x hx => ?_⟩
  obtain ⟨h1, h2, h3⟩ := mem_cap.mp hf
  have q := a3 f h2 x hx
  exact mem_cap.mpr ⟨a2 x q, q, b3 f h3 x hx⟩
theorem cup_wholes (ha : a ∈ wholes rows) (hb : b ∈ wholes rows) : cup rows.length a b ∈ wholes rows := by
  obtain ⟨⟨a1, a2⟩, a3⟩ := mem_wholes.mp ha
  obtain ⟨⟨b1, b2⟩, b3⟩ := mem_wholes.mp hb
  refine mem_wholes.mpr ⟨⟨filter_asc _ _, fun x hx => (mem_cup.mp hx).1⟩, fun f hf x hx => ?_⟩
  obtain ⟨h1, h2⟩ := mem_cup.mp hf
  rcases h2 with h2 | h2
  · have q := a3 f h2 x hx
    exact mem_cup.mpr ⟨a2 x q, .inl q⟩
  · have q := b3 f h2 x hx
    exact mem_cup.mpr ⟨b2 x q, .inr q⟩
theorem gain_wsum (g : List Int) {n : Nat} {s : List Nat} (h : s ∈ subs n) : gain g s = wsum g (inB s) n := by
  have e := asc_filter h
  have q : gain g s = gain g ((List.range n).filter fun x => decide (x ∈ s)) := by rw [← e]
  rw [q, gain_filter]
  rfl
theorem wholes_subs (ha : a ∈ wholes rows) : a ∈ subs rows.length := (List.mem_filter.mp ha).1
theorem gain_mod (g : List Int) (ha : a ∈ wholes rows) (hb : b ∈ wholes rows) : gain g (cap rows.length a b) + gain g (cup rows.length a b) = gain g a + gain g b := by
  rw [gain_wsum g (wholes_subs ha), gain_wsum g (wholes_subs hb)]
  unfold cap cup
  rw [gain_filter, gain_filter]
  exact wsum_mod _ _ _ _
end
/-! ### the greatest, and the sets that reach it -/
def maxI : List Int → Int
  | [] => 0
  | [x] => x
  | x :: y :: l => max x (maxI (y :: l))
theorem maxI_spec : ∀ (l : List Int), l ≠ [] → maxI l ∈ l ∧ ∀ y ∈ l, y ≤ maxI l
  | [], h => absurd rfl h
  | [x], _ => ⟨List.mem_singleton.mpr rfl, fun y hy => by rw [List.mem_singleton.mp hy]; exact Int.le_refl _⟩
  | x :: y :: l, _ => by
    obtain ⟨a, b⟩ := maxI_spec (y :: l) (by simp)
    show max x (maxI (y :: l)) ∈ _ ∧ ∀ z ∈ _, z ≤ max x (maxI (y :: l))
    refine ⟨?_, fun z hz => ?_⟩
    · by_cases c : x ≤ maxI (y :: l)
      · rw [Int.max_eq_right c]
        exact List.mem_cons_of_mem _ a
      · rw [Int.max_eq_left (by omega)]
        exact List.mem_cons_self
    · rcases List.mem_cons.mp hz with rfl | hz
      · exact Int.le_max_left _ _
      · have := b z hz
        omega
theorem maxI_eq {l : List Int} {m : Int} (h1 : m ∈ l) (h2 : ∀ y ∈ l, y ≤ m) : m = maxI l := by
  obtain ⟨a, b⟩ := maxI_spec l (fun e => by rw [e] at h1; cases h1)
  have := b m h1
  have := h2 _ a
  omega
def topG (rows : List (List Nat)) (g : List Int) : Int := maxI ((wholes rows).map (gain g))
theorem nil_wholes (rows : List (List Nat)) : [] ∈ wholes rows := mem_wholes.mpr ⟨⟨.nil, fun x hx => nomatch hx⟩, fun x hx => nomatch hx⟩
theorem topG_spec (rows : List (List Nat)) (g : List Int) : (∃ s ∈ wholes rows, gain g s = topG rows g) ∧ ∀ s ∈ wholes rows, gain g s ≤ topG rows g := by
  obtain ⟨a, b⟩ := maxI_spec ((wholes rows).map (gain g)) (fun e => by
    have := List.mem_map_of_mem (f := gain g) (nil_wholes rows)
    rw [e] at this
    cases this)
  obtain ⟨s, hs, e⟩ := List.mem_map.mp a
  exact ⟨⟨s, hs, e⟩, fun s hs => b _ (List.mem_map_of_mem hs)⟩
def bests (rows : List (List Nat)) (g : List Int) : List (List Nat) := (wholes rows).filter fun s => decide (gain g s = topG rows g)
theorem mem_bests {rows : List (List Nat)} {g : List Int} {s : List Nat} : s ∈ bests rows g ↔ s ∈ wholes rows ∧ gain g s = topG rows g := by
  unfold bests
  rw [List.mem_filter, decide_eq_true_eq]
theorem bests_ne (rows : List (List Nat)) (g : List Int) : ∃ s, s ∈ bests rows g := by
  obtain ⟨⟨s, h1, h2⟩, _⟩ := topG_spec rows g
  exact ⟨s, mem_bests.mpr ⟨h1, h2⟩⟩
def leastL (rows : List (List Nat)) (g : List Int) : List Nat := (List.range rows.length).filter fun x => (bests rows g).all fun s => inB s x
def mostL (rows : List (List Nat)) (g : List Int) : List Nat := (List.range rows.length).filter fun x => (bests rows g).any fun s => inB s x
theorem mem_leastL {rows : List (List Nat)} {g : List Int} {x : Nat} : x ∈ leastL rows g ↔ x < rows.length ∧ ∀ s ∈ bests rows g, x ∈ s := by
  unfold leastL inB
  rw [List.mem_filter, List.mem_range, List.all_eq_true]
  simp only [decide_eq_true_eq]
theorem mem_mostL {rows : List (List Nat)} {g : List Int} {x : Nat} : x ∈ mostL rows g ↔ x < rows.length ∧ ∃ s ∈ bests rows g, x ∈ s := by
  unfold mostL inB
  rw [List.mem_filter, List.mem_range, List.any_eq_true]
  simp only [decide_eq_true_eq]
section
variable {rows : List (List Nat)} {g : List Int} {a b : List Nat}
theorem bests_cap (ha : a ∈ bests rows g) (hb : b ∈ bests rows g) : cap rows.length a b ∈ bests rows g ∧ cup rows.length a b ∈ bests rows g := by
  obtain ⟨a1, a2⟩ := mem_bests.mp ha
  obtain ⟨b1, b2⟩ := mem_bests.mp hb
  have c1 := cap_wholes a1 b1
  have c2 := cup_wholes a1 b1
  have m := gain_mod g a1 b1
  have t1 := (topG_spec rows g).2 _ c1
  have t2 := (topG_spec rows g).2 _ c2
  exact ⟨mem_bests.mpr ⟨c1, by omega⟩, mem_bests.mpr ⟨c2, by omega⟩⟩
theorem bests_asc (ha : a ∈ bests rows g) : a.Pairwise (· < ·) ∧ ∀ x ∈ a, x < rows.length := (mem_wholes.mp (mem_bests.mp ha).1).1
theorem least_of (ha : a ∈ bests rows g) (h : ∀ s ∈ bests rows g, a.length ≤ s.length) : a = leastL rows g := by
  refine asc_ext _ _ (bests_asc ha).1 (filter_asc _ _) fun x => ?_
  rw [mem_leastL]
  refine ⟨fun hx => ⟨(bests_asc ha).2 x hx, fun s hs => ?_⟩, fun hx => hx.2 a ha⟩
  have c := (bests_cap ha hs).1
  have e : cap rows.length a s = a.filter (inB s) := by
    refine asc_ext _ _ (bests_asc c).1 ((bests_asc ha).1.filter _) fun y => ?_
    rw [mem_cap, List.mem_filter]
    unfold inB
    rw [decide_eq_true_eq]
    exact ⟨fun h => h.2, fun h => ⟨(bests_asc ha).2 y h.1, h⟩⟩
  have l := h _ c
  rw [e] at l
  have := List.length_filter_eq_length_iff.mp (Nat.le_antisymm (List.length_filter_le _ _) l) x hx
  exact of_decide_eq_true this
theorem most_of (ha : a ∈ bests rows g) (h : ∀ s ∈ bests rows g, s.length ≤ a.length) : a = mostL rows g := by
  refine asc_ext _ _ (bests_asc ha).1 (filter_asc _ _) fun x => ?_
  rw [mem_mostL]
  refine ⟨fun hx => ⟨(bests_asc ha).2 x hx, a, ha, hx⟩, fun ⟨hx, s, hs, hxs⟩ => ?_⟩
  have c := (bests_cap ha hs).2
  have e : a = (cup rows.length a s).filter (inB a) := by
    refine asc_ext _ _ (bests_asc ha).1 ((bests_asc c).1.filter _) fun y => ?_
    rw [List.mem_filter, mem_cup]
    unfold inB
    rw [decide_eq_true_eq]
    exact ⟨fun h => ⟨⟨(bests_asc ha).2 y h, .inl h⟩, h⟩, fun h => h.2⟩
  have l := h _ c
  have l2 : ((cup rows.length a s).filter (inB a)).length = a.length := by rw [← e]
  have := List.length_filter_eq_length_iff.mp (Nat.le_antisymm (List.length_filter_le _ _) (l2 ▸ l)) x (mem_cup.mpr ⟨hx, .inr hxs⟩)
  exact of_decide_eq_true this
theorem least_best : leastL rows g ∈ bests rows g := by
  obtain ⟨a, ha, hm⟩ : ∃ a ∈ bests rows g, ∀ s ∈ bests rows g, a.length ≤ s.length := by
    have go : ∀ (k : Nat) (a : List Nat), a ∈ bests rows g → a.length ≤ k → ∃ a ∈ bests rows g, ∀ s ∈ bests rows g, a.length ≤ s.length := by
      intro k
      induction k with
      | zero => exact fun a ha hl => ⟨a, ha, fun s _ => by omega⟩
      | succ k ih =>
        intro a ha hl
        by_cases c : ∃ s ∈ bests rows g, s.length < a.length
        · obtain ⟨s, hs, hl2⟩ := c
          exact ih s hs (by omega)
        · exact ⟨a, ha, fun s hs => Nat.le_of_not_lt fun q => c ⟨s, hs, q⟩⟩
    obtain ⟨a, ha⟩ := bests_ne rows g
    exact go a.length a ha (Nat.le_refl _)
  rw [← least_of ha hm]
  exact ha
theorem most_best : mostL rows g ∈ bests rows g := by
  have bd : ∀ s ∈ bests rows g, s.length ≤ rows.length := fun s hs => by
    have e := asc_filter (wholes_subs (mem_bests.mp hs).1)
    rw [e]
    exact Nat.le_trans (List.length_filter_le _ _) (by rw [List.length_range]; exact Nat.le_refl _)
  obtain ⟨a, ha, hm⟩ : ∃ a ∈ bests rows g, ∀ s ∈ bests rows g, s.length ≤ a.length := by
    have go : ∀ (k : Nat) (a : List Nat), a ∈ bests rows g → rows.length ≤ a.length + k → ∃ a ∈ bests rows g, ∀ s ∈ bests rows g, s.length ≤ a.length := by
      intro k
      induction k with
      | zero => exact fun a ha hl => ⟨a, ha, fun s hs => by have := bd s hs; omega⟩
      | succ k ih =>
        intro a ha hl
        by_cases c : ∃ s ∈ bests rows g, a.length < s.length
        · obtain ⟨s, hs, hl2⟩ := c
          exact ih s hs (by omega)
        · exact ⟨a, ha, fun s hs => Nat.le_of_not_lt fun q => c ⟨s, hs, q⟩⟩
    obtain ⟨a, ha⟩ := bests_ne rows g
    exact go rows.length a ha (by omega)
  rw [← most_of ha hm]
  exact ha
end
end K08
namespace K08
/-! ### webs: checked, in an order, made longer -/
def ascB : List Nat → Bool
  | x :: y :: l => decide (x < y) && ascB (y :: l)
  | _ => true
theorem ascB_iff : ∀ l : List Nat, ascB l = true ↔ l.Pairwise (· < ·)
  | [] => by simp [ascB]
  | [x] => by simp [ascB]
  | x :: y :: l => by
    have ih := ascB_iff (y :: l)
    show (decide (x < y) && ascB (y :: l)) = true ↔ _
    rw [Bool.and_eq_true, decide_eq_true_eq, ih]
    constructor
    · rintro ⟨a, b⟩
      refine List.pairwise_cons.mpr ⟨fun z hz => ?_, b⟩
      rcases List.mem_cons.mp hz with rfl | hz
      · exact a
      · exact Nat.lt_trans a ((List.pairwise_cons.mp b).1 z hz)
    · intro h
      obtain ⟨a, b⟩ := List.pairwise_cons.mp h
      exact ⟨a y List.mem_cons_self, b⟩
def lotB (n : Nat) (s : List Nat) : Bool := s.all (fun x => decide (x < n)) && ascB s
theorem lotB_iff {n : Nat} {s : List Nat} : lotB n s = true ↔ s.Pairwise (· < ·) ∧ ∀ x ∈ s, x < n := by
  unfold lotB
  rw [Bool.and_eq_true, List.all_eq_true, ascB_iff]
  simp only [decide_eq_true_eq]
  exact ⟨fun ⟨a, b⟩ => ⟨b, a⟩, fun ⟨a, b⟩ => ⟨b, a⟩⟩
def badAt (rows : List (List Nat)) (i : Nat) : Bool := !(lotB rows.length (row rows i)) || inB (row rows i) i
def readyL (rows : List (List Nat)) (told : List Nat) : List Nat := (List.range rows.length).filter fun f => !(inB told f) && (row rows f).all (inB told)
def runs (rows : List (List Nat)) : Nat → List Nat → Bool
  | 0, _ => true
  | k + 1, told => if rows.length ≤ told.length then true else if readyL rows told = [] then false else runs rows k (told ++ readyL rows told)
theorem runs_done {rows : List (List Nat)} {told : List Nat} (h : rows.length ≤ told.length) : ∀ k, runs rows k told = true
  | 0 => rfl
  | k + 1 => by rw [runs, if_pos h]
/-- what a web is told: nothing, or the place -/
inductive At where
  | good
  | whole
  | frame (i : Nat)
  deriving DecidableEq
def webAns : Option (List (List Nat)) → At
  | none => .whole
  | some rows => if ¬ (1 ≤ rows.length ∧ rows.length ≤ 10) then .whole else match (List.range rows.length).find? (badAt rows) with
    | some i => .frame i
    | none => if runs rows rows.length [] = true then .good else .whole
/-- in the line's order each frame leans on those ahead alone -/
structure Ord (rows : List (List Nat)) (line : List Nat) : Prop where
  nd : line.Nodup
  len : line.length = rows.length
  lt : ∀ x ∈ line, x < rows.length
  asc : ∀ i, i < rows.length → (row rows i).Pairwise (· < ·)
  lean : ∀ t f, line[t]? = some f → ∀ x ∈ row rows f, x ∈ line.take t
theorem nodup_le : ∀ (a b : List Nat), a.Nodup → (∀ x ∈ a, x ∈ b) → a.length ≤ b.length
  | [], _, _, _ => Nat.zero_le _
  | x :: a, b, h, s => by
    obtain ⟨h1, h2⟩ := List.nodup_cons.mp h
    have hx := s x List.mem_cons_self
    have := nodup_le a (b.erase x) h2 fun y hy => (List.mem_erase_of_ne (fun e : y = x => h1 (by rw [← e]; exact hy))).mpr (s y (List.mem_cons_of_mem _ hy))
    rw [List.length_erase_of_mem hx] at this
    have : 0 < b.length := List.length_pos_of_mem hx
    rw [List.length_cons]
    omega
theorem range_nodup (n : Nat) : (List.range n).Nodup := List.nodup_range
section
variable {rows : List (List Nat)} {line : List Nat}
theorem Ord.all (o : Ord rows line) {x : Nat} (h : x < rows.length) : x ∈ line := by
  refine Decidable.byContradiction fun q => ?_
  have := nodup_le (x :: line) (List.range rows.length) (List.nodup_cons.mpr ⟨q, o.nd⟩) fun y hy => by
    rcases List.mem_cons.mp hy with rfl | hy
    · exact List.mem_range.mpr h
    · exact List.mem_range.mpr (o.lt y hy)
  rw [List.length_cons, List.length_range, o.len] at this
  omega
theorem Ord.lt' (o : Ord rows line) {f : Nat} (hf : f < rows.length) {x : Nat} (hx : x ∈ row rows f) : x < rows.length := by
  obtain ⟨t, ht⟩ := List.getElem?_of_mem (o.all hf)
  exact o.lt x (List.mem_of_mem_take (o.lean t f ht x hx))
theorem Ord.own (o : Ord rows line) {f : Nat} (hf : f < rows.length) : f ∉ row rows f := by
  intro h
  obtain ⟨t, ht⟩ := List.getElem?_of_mem (o.all hf)
  have m := o.lean t f ht f h
  obtain ⟨t2, h2⟩ := List.getElem?_of_mem m
  rw [List.getElem?_take] at h2
  by_cases c : t2 < t
  · rw [if_pos c] at h2
    obtain ⟨l1, e1⟩ := List.getElem?_eq_some_iff.mp ht
    obtain ⟨l2, e2⟩ := List.getElem?_eq_some_iff.mp h2
    have := (List.nodup_iff_pairwise_ne.mp o.nd)
    have := (List.pairwise_iff_getElem.mp this) t2 t l2 l1 c
    exact this (e2.trans e1.symm)
  · rw [if_neg c] at h2
    cases h2
theorem Ord.ready (o : Ord rows line) {told : List Nat} (h : told.length < rows.length) : readyL rows told ≠ [] := by
  obtain ⟨t, f, ht, hf, hb⟩ : ∃ t f, line[t]? = some f ∧ f ∉ told ∧ ∀ x ∈ line.take t, x ∈ told := by
    have go : ∀ (k : Nat), k ≤ line.length → (∀ x ∈ line.take k, x ∈ told) ∨ ∃ t f, line[t]? = some f ∧ f ∉ told ∧ ∀ x ∈ line.take t, x ∈ told := by
      intro k
      induction k with
      | zero => exact fun _ => .inl fun x hx => by rw [List.take_zero] at hx; cases hx
      | succ k ih =>
        intro hk
        rcases ih (by omega) with q | q
        · have e : line[k]? = some line[k] := List.getElem?_eq_getElem (by omega)
          by_cases c : line[k] ∈ told
          · refine .inl fun x hx => ?_
            rw [List.take_add_one, e] at hx
            rcases List.mem_append.mp hx with z | z
            · exact q x z
            · rw [List.mem_singleton.mp z]
              exact c
          · exact .inr ⟨k, _, e, c, q⟩
        · exact .inr q
    rcases go line.length (Nat.le_refl _) with q | q
    · rw [List.take_length] at q
      have := nodup_le line told o.nd q
      rw [o.len] at this
      omega
    · exact q
  have hfl := o.lt f (List.mem_of_getElem? ht)
  refine List.ne_nil_of_mem (a := f) ?_
  unfold readyL inB
  rw [List.mem_filter, List.mem_range]
  refine ⟨hfl, ?_⟩
  simp only [Bool.and_eq_true, Bool.not_eq_true', decide_eq_false_iff_not, List.all_eq_true, decide_eq_true_eq]
  exact ⟨hf, fun x hx => hb x (o.lean t f ht x hx)⟩
theorem Ord.runs (o : Ord rows line) : ∀ (k : Nat) (told : List Nat), rows.length ≤ told.length + k → K08.runs rows k told = true
  | 0, _, _ => rfl
  | k + 1, told, h => by
    rw [K08.runs]
    split
    · rfl
    · rename_i c
      rw [if_neg (o.ready (by omega))]
      refine o.runs k _ ?_
      have := List.length_pos_iff.mpr (o.ready (told := told) (by omega))
      rw [List.length_append]
      omega
theorem Ord.good (o : Ord rows line) (h1 : 1 ≤ rows.length) (h2 : rows.length ≤ 10) : webAns (some rows) = .good := by
  show (if ¬ (1 ≤ rows.length ∧ rows.length ≤ 10) then At.whole else match (List.range rows.length).find? (badAt rows) with
    | some i => At.frame i
    | none => if K08.runs rows rows.length [] = true then At.good else At.whole) = At.good
  rw [if_neg (fun q => q ⟨h1, h2⟩)]
  have e : (List.range rows.length).find? (badAt rows) = none := by
    refine List.find?_eq_none.mpr fun i hi => ?_
    have hi := List.mem_range.mp hi
    have l : lotB rows.length (row rows i) = true := lotB_iff.mpr ⟨o.asc i hi, fun x hx => o.lt' hi hx⟩
    unfold badAt inB
    simp [l, o.own hi]
  rw [e]
  show (if _ then _ else _) = _
  rw [if_pos (o.runs _ _ (by simp))]
theorem row_lt {rows : List (List Nat)} {r : List Nat} {i : Nat} (h : i < rows.length) : row (rows ++ [r]) i = row rows i := by
  unfold row
  rw [List.getD_eq_getElem?_getD, List.getD_eq_getElem?_getD, List.getElem?_append_left h]
theorem row_end {rows : List (List Nat)} {r : List Nat} : row (rows ++ [r]) rows.length = r := by
  unfold row
  rw [List.getD_eq_getElem?_getD, List.getElem?_append_right (Nat.le_refl _)]
  simp
theorem Ord.longer (o : Ord rows line) {lot : List Nat} (h : lot ∈ wholes rows) : Ord (rows ++ [lot]) (line ++ [rows.length]) := by
  obtain ⟨⟨l1, l2⟩, _⟩ := mem_wholes.mp h
  refine ⟨?_, ?_, ?_, ?_, ?_⟩
  · refine List.nodup_append.mpr ⟨o.nd, List.nodup_cons.mpr ⟨by simp, List.nodup_nil⟩, fun x hx y hy => ?_⟩
    rw [List.mem_singleton.mp hy]
    have := o.lt x hx
    omega
  · rw [List.length_append, List.length_append, o.len]
    rfl
  · intro x hx
    rw [List.length_append]
    rcases List.mem_append.mp hx with q | q
    · exact Nat.lt_succ_of_lt (o.lt x q)
    · rw [List.mem_singleton.mp q]
      exact Nat.lt_succ_self _
  · intro i hi
    rw [List.length_append] at hi
    by_cases c : i < rows.length
    · rw [row_lt c]
      exact o.asc i c
    · have e : i = rows.length := by simp at hi; omega
      rw [e, row_end]
      exact l1
  · intro t f ht x hx
    by_cases c : t < line.length
    · rw [List.getElem?_append_left c] at ht
      have fl := o.lt f (List.mem_of_getElem? ht)
      rw [row_lt fl] at hx
      rw [List.take_append_of_le_length (by omega)]
      exact o.lean t f ht x hx
    · rw [List.getElem?_append_right (by omega)] at ht
      have e : t = line.length := by
        rcases Nat.eq_zero_or_pos (t - line.length) with z | z
        · omega
        · rw [List.getElem?_eq_none (by simp; omega)] at ht
          cases ht
      subst e
      simp at ht
      subst ht
      rw [row_end] at hx
      rw [List.take_left']
      · exact o.all (l2 x hx)
      · rfl
end
/-! ### the frame behind the others -/
section
variable {rows : List (List Nat)} {lot : List Nat} {g : List Int}
theorem gat_lt {c : Int} {i : Nat} (h : i < g.length) : gat (g ++ [c]) i = gat g i := by
  unfold gat
  rw [List.getD_eq_getElem?_getD, List.getD_eq_getElem?_getD, List.getElem?_append_left h]
theorem gat_end {c : Int} : gat (g ++ [c]) g.length = c := by
  unfold gat
  rw [List.getD_eq_getElem?_getD, List.getElem?_append_right (Nat.le_refl _)]
  simp
def least0 (g : List Int) : Int := (g.map fun x => min x 0).sum
theorem wsum_le (g : List Int) (p : Nat → Bool) : ∀ n, n ≤ g.length → wsum g p n ≤ wsum g (fun _ => true) n - ((g.take n).map fun x => min x 0).sum
  | 0, _ => by simp [wsum]
  | n + 1, h => by
    have ih := wsum_le g p n (by omega)
    have e : g[n]? = some g[n] := List.getElem?_eq_getElem (by omega)
    have eg : gat g n = g[n] := by
      unfold gat
      rw [List.getD_eq_getElem?_getD, e]
      rfl
    rw [List.take_add_one, e, List.map_append, List.sum_append]
    simp only [wsum, eg]
    show _ ≤ _ + _ - (_ + (List.map _ [g[n]]).sum)
    simp only [List.map_cons, List.map_nil, List.sum_cons, List.sum_nil]
    have m1 : min g[n] 0 ≤ g[n] := Int.min_le_left _ _
    have m2 : min g[n] 0 ≤ 0 := Int.min_le_right _ _
    generalize ((g.take n).map fun x => min x 0).sum = z at ih ⊢
    generalize min g[n] 0 = y at m1 m2 ⊢
    generalize wsum g p n = z1 at ih ⊢
    generalize wsum g (fun _ => true) n = z2 at ih ⊢
    generalize g[n] = v at m1 ⊢
    rw [if_pos trivial]
    split <;> omega
theorem full_wholes {line : List Nat} (o : Ord rows line) : List.range rows.length ∈ wholes rows :=
  mem_wholes.mpr ⟨⟨range_asc _, fun x hx => List.mem_range.mp hx⟩, fun f hf x hx => List.mem_range.mpr (o.lt' (List.mem_range.mp hf) hx)⟩
theorem gain_full (g : List Int) (n : Nat) : gain g (List.range n) = wsum g (fun _ => true) n := by
  have := gain_filter g (fun _ => true) n
  rwa [List.filter_eq_self.mpr (fun _ _ => rfl)] at this
theorem len_snoc {lot : List Nat} : (rows ++ [lot]).length = rows.length + 1 := by rw [List.length_append]; rfl
theorem gain_snoc {c : Int} {s : List Nat} (h : ∀ x ∈ s, x < g.length) : gain (g ++ [c]) s = gain g s := by
  unfold gain
  congr 1
  refine List.map_congr_left fun x hx => gat_lt (h x hx)
/-- with what the frame behind gains, every best set holds it -/
theorem behind_in {line : List Nat} (o : Ord rows line) (hl : lot ∈ wholes rows) (hg : g.length = rows.length) {s : List Nat} (hs : s ∈ wholes (rows ++ [lot])) (hn : rows.length ∉ s) :
    gain (g ++ [0 - least0 g + 1]) s < gain (g ++ [0 - least0 g + 1]) (List.range (rows ++ [lot]).length) := by
  have ss := wholes_subs hs
  rw [len_snoc] at ss
  obtain ⟨s1, s2⟩ := (mem_subs _ s).mp ss
  have s3 : ∀ x ∈ s, x < rows.length := fun x hx => by
    have := s2 x hx
    have : x ≠ rows.length := fun e => hn (e ▸ hx)
    omega
  rw [gain_snoc (fun x hx => hg ▸ s3 x hx), gain_wsum g ((mem_subs rows.length s).mpr ⟨s1, s3⟩), len_snoc, gain_full]
  simp only [wsum, if_true]
  have e : gat (g ++ [0 - least0 g + 1]) rows.length = 0 - least0 g + 1 := by rw [← hg]; exact gat_end
  have q := wsum_le g (inB s) rows.length (by omega)
  have t : g.take rows.length = g := by rw [← hg, List.take_length]
  rw [t] at q
  have w : wsum (g ++ [0 - least0 g + 1]) (fun _ => true) rows.length = wsum g (fun _ => true) rows.length := wsum_congr _ _ _ _ _ (fun i hi => gat_lt (by omega)) (fun _ _ => rfl)
  rw [e, w]
  unfold least0 at *
  omega
theorem behind_all {line : List Nat} (o : Ord rows line) (hl : lot ∈ wholes rows) (hg : g.length = rows.length) {s : List Nat} (hs : s ∈ bests (rows ++ [lot]) (g ++ [0 - least0 g + 1])) : rows.length ∈ s := by
  obtain ⟨h1, h2⟩ := mem_bests.mp hs
  refine Decidable.byContradiction fun q => ?_
  have := behind_in (g := g) o hl hg h1 q
  have := (topG_spec (rows ++ [lot]) (g ++ [0 - least0 g + 1])).2 _ (full_wholes (o.longer hl))
  omega
theorem short_wholes {s : List Nat} (hs : s ∈ wholes rows) : s ∈ wholes (rows ++ [lot]) := by
  obtain ⟨⟨a, b⟩, c⟩ := mem_wholes.mp hs
  refine mem_wholes.mpr ⟨⟨a, fun x hx => by rw [len_snoc]; exact Nat.lt_succ_of_lt (b x hx)⟩, fun f hf x hx => ?_⟩
  rw [row_lt (b f hf)] at hx
  exact c f hf x hx
theorem more_top (hg : g.length = rows.length) (c : Int) : topG rows g ≤ topG (rows ++ [lot]) (g ++ [c]) := by
  obtain ⟨⟨s, hs, e⟩, _⟩ := topG_spec rows g
  have := (topG_spec (rows ++ [lot]) (g ++ [c])).2 s (short_wholes hs)
  rw [gain_snoc (fun x hx => hg ▸ (mem_wholes.mp hs).1.2 x hx)] at this
  omega
/-- a whole set that holds the frame behind is whole without it -/
theorem cut_wholes {s : List Nat} (hs : s ∈ wholes (rows ++ [lot])) (hlt : ∀ f, f < rows.length → ∀ x ∈ row rows f, x < rows.length) (hn : rows.length ∈ s) : ∃ t ∈ wholes rows, s = t ++ [rows.length] := by
  obtain ⟨⟨a, b⟩, c⟩ := mem_wholes.mp hs
  rw [len_snoc] at b
  have e : s = s.filter (fun x => decide (x < rows.length)) ++ [rows.length] := by
    refine asc_ext _ _ a (List.pairwise_append.mpr ⟨a.filter _, List.pairwise_singleton _ _, fun x hx y hy => ?_⟩) fun x => ?_
    · rw [List.mem_singleton.mp hy]
      exact of_decide_eq_true (List.mem_filter.mp hx).2
    · rw [List.mem_append, List.mem_filter, List.mem_singleton, decide_eq_true_eq]
      constructor
      · intro hx
        have := b x hx
        by_cases z : x < rows.length
        · exact .inl ⟨hx, z⟩
        · exact .inr (by omega)
      · rintro (⟨h, _⟩ | rfl)
        · exact h
        · exact hn
  refine ⟨_, mem_wholes.mpr ⟨⟨a.filter _, fun x hx => of_decide_eq_true (List.mem_filter.mp hx).2⟩, fun f hf x hx => ?_⟩, e⟩
  obtain ⟨h1, h2⟩ := List.mem_filter.mp hf
  have h2 := of_decide_eq_true h2
  have := c f h1 x (by rw [row_lt h2]; exact hx)
  exact List.mem_filter.mpr ⟨this, decide_eq_true (hlt f h2 x hx)⟩
theorem bests_less {line : List Nat} (o : Ord rows line) (hg : g.length = rows.length) (s : List Nat) : s ∈ bests (rows ++ [lot]) (g ++ [-1]) ↔ s ∈ bests rows g := by
  have ch : ∀ s ∈ wholes (rows ++ [lot]), (s ∈ wholes rows ∧ gain (g ++ [-1]) s = gain g s) ∨ gain (g ++ [-1]) s < topG rows g := fun s hs => by
    by_cases c : rows.length ∈ s
    · obtain ⟨t, ht, rfl⟩ := cut_wholes hs (fun f hf x hx => o.lt' hf hx) c
      refine .inr ?_
      have e : gain (g ++ [-1]) (t ++ [rows.length]) = gain g t - 1 := by
        have q : gain (g ++ [-1]) (t ++ [rows.length]) = gain (g ++ [-1]) t + gat (g ++ [-1]) rows.length := by
          unfold gain
          rw [List.map_append, List.sum_append]
          simp
        rw [q, gain_snoc (fun x hx => hg ▸ (mem_wholes.mp ht).1.2 x hx)]
        have : gat (g ++ [-1]) rows.length = -1 := by rw [← hg]; exact gat_end
        omega
      have := (topG_spec rows g).2 t ht
      omega
    · obtain ⟨⟨a, b⟩, d⟩ := mem_wholes.mp hs
      have b' : ∀ x ∈ s, x < rows.length := fun x hx => by
        have := b x hx
        rw [len_snoc] at this
        have : x ≠ rows.length := fun e => c (e ▸ hx)
        omega
      exact .inl ⟨mem_wholes.mpr ⟨⟨a, b'⟩, fun f hf x hx => d f hf x (by rw [row_lt (b' f hf)]; exact hx)⟩, gain_snoc (fun x hx => hg ▸ b' x hx)⟩
  have top : topG (rows ++ [lot]) (g ++ [-1]) = topG rows g := by
    have m := more_top (lot := lot) hg (-1)
    obtain ⟨⟨t, ht, e⟩, _⟩ := topG_spec (rows ++ [lot]) (g ++ [-1])
    rcases ch t ht with ⟨q1, q2⟩ | q
    · have := (topG_spec rows g).2 t q1
      omega
    · omega
  rw [mem_bests, mem_bests, top]
  constructor
  · rintro ⟨h1, h2⟩
    rcases ch s h1 with ⟨q1, q2⟩ | q
    · exact ⟨q1, q2 ▸ h2⟩
    · omega
  · rintro ⟨h1, h2⟩
    exact ⟨short_wholes h1, by rw [gain_snoc (fun x hx => hg ▸ (mem_wholes.mp h1).1.2 x hx)]; exact h2⟩
theorem least_less {line : List Nat} (o : Ord rows line) (hg : g.length = rows.length) : leastL (rows ++ [lot]) (g ++ [-1]) = leastL rows g := by
  refine asc_ext _ _ (filter_asc _ _) (filter_asc _ _) fun x => ?_
  rw [mem_leastL, mem_leastL]
  constructor
  · rintro ⟨_, h⟩
    obtain ⟨s, hs⟩ := bests_ne rows g
    exact ⟨(bests_asc hs).2 x (h s ((bests_less o hg s).mpr hs)), fun s hs => h s ((bests_less o hg s).mpr hs)⟩
  · rintro ⟨h1, h⟩
    exact ⟨by rw [len_snoc]; omega, fun s hs => h s ((bests_less o hg s).mp hs)⟩
theorem most_less {line : List Nat} (o : Ord rows line) (hg : g.length = rows.length) : mostL (rows ++ [lot]) (g ++ [-1]) = mostL rows g := by
  refine asc_ext _ _ (filter_asc _ _) (filter_asc _ _) fun x => ?_
  rw [mem_mostL, mem_mostL]
  constructor
  · rintro ⟨_, s, hs, hx⟩
    have hs := (bests_less o hg s).mp hs
    exact ⟨(bests_asc hs).2 x hx, s, hs, hx⟩
  · rintro ⟨h1, s, hs, hx⟩
    exact ⟨by rw [len_snoc]; omega, s, (bests_less o hg s).mpr hs, hx⟩
/-! ### no gains, and losses alone -/
theorem gain_rep (n : Nat) (c : Int) : ∀ s : List Nat, (∀ x ∈ s, x < n) → gain (List.replicate n c) s = c * (s.length : Int)
  | [], _ => by simp [gain]
  | x :: s, h => by
    have ih := gain_rep n c s fun y hy => h y (List.mem_cons_of_mem _ hy)
    have e : gat (List.replicate n c) x = c := by
      unfold gat
      rw [List.getD_eq_getElem?_getD, List.getElem?_replicate, if_pos (h x List.mem_cons_self)]
      rfl
    have q : gain (List.replicate n c) (x :: s) = gat (List.replicate n c) x + gain (List.replicate n c) s := by
      unfold gain
      rw [List.map_cons, List.sum_cons]
    rw [q, e, ih, List.length_cons, Int.natCast_succ, Int.mul_add, Int.mul_one, Int.add_comm]
theorem zero_best {s : List Nat} (hs : s ∈ wholes rows) : s ∈ bests rows (List.replicate rows.length 0) := by
  have z : ∀ s ∈ wholes rows, gain (List.replicate rows.length 0) s = 0 := fun s hs => by
    rw [gain_rep _ _ _ (mem_wholes.mp hs).1.2, Int.zero_mul]
  obtain ⟨⟨t, ht, e⟩, _⟩ := topG_spec rows (List.replicate rows.length 0)
  exact mem_bests.mpr ⟨hs, by rw [z s hs, ← e, z t ht]⟩
theorem least_zero : leastL rows (List.replicate rows.length 0) = [] := by
  refine List.eq_nil_iff_forall_not_mem.mpr fun x hx => ?_
  have := (mem_leastL.mp hx).2 [] (zero_best (nil_wholes rows))
  cases this
theorem most_zero {line : List Nat} (o : Ord rows line) : mostL rows (List.replicate rows.length 0) = List.range rows.length := by
  refine asc_ext _ _ (filter_asc _ _) (range_asc _) fun x => ?_
  rw [mem_mostL, List.mem_range]
  exact ⟨fun h => h.1, fun h => ⟨h, _, zero_best (full_wholes o), List.mem_range.mpr h⟩⟩
theorem top_loss : topG rows (List.replicate rows.length (-1)) = 0 := by
  obtain ⟨⟨t, ht, e⟩, m⟩ := topG_spec rows (List.replicate rows.length (-1))
  have := m [] (nil_wholes rows)
  rw [gain_rep _ _ _ (fun x hx => absurd hx List.not_mem_nil)] at this
  rw [gain_rep _ _ _ (mem_wholes.mp ht).1.2] at e
  simp at this
  omega
end
/-! ### what cannot be -/
theorem ans_none : webAns none = .whole := rfl
theorem ans_nil : webAns (some []) = .whole := rfl
theorem ans_own : webAns (some [[0]]) = .frame 0 := by decide
theorem ans_ring : webAns (some [[1], [0]]) = .whole := by decide
theorem ans_out : webAns (some [[], [2]]) = .frame 1 := by decide
end K08
namespace K08
open PySem PySem.Spec PyProof.Rows L2 PySem.W LamX KA KW KU KL KT
open Evl (pss_cut tCut)
theorem Same.put {H H' : Hp} {D : Addr} {o : HO} (s : Same H H') (h : H D = none) : Same H (upd H' D o) := fun b o e => by
  rw [upd_ne (ne_of_none e h)]
  exact s b o e
theorem Kp.put3 {st lg D : Addr} {H H' : Hp} {o : HO} (k : Kp st lg H H') (hD : H D = none) : Kp st lg H (upd H' D o) := fun b u e n1 n2 => by
  rw [upd_ne (fun z => by rw [z, hD] at e; cases e)]
  exact k _ _ e n1 n2
theorem offc {H : Hp} {st lg cl p : Addr} {n : Nat} (S : StAt H st lg cl n) (hp : H p = none) : p ≠ cl := by
  obtain ⟨_, _, _, _, S', _⟩ := S
  exact (ne_of_none S'.c hp).symm
theorem stAt_put {H : Hp} {st lg cl e : Addr} {n : Nat} {ys : List V} (S : StAt H st lg cl n) (h1 : e ≠ st) (h2 : e ≠ lg) (h3 : e ≠ cl) : StAt (upd H e (.lst ys)) st lg cl n := by
  obtain ⟨a, b, c, d, s, h'⟩ := S
  exact ⟨a, b, c, d, { s with d := (upd_ne h1.symm).trans s.d, l := (upd_ne h2.symm).trans s.l, c := (upd_ne h3.symm).trans s.c }, h'⟩
/-! ### lists of new tuples, loops within loops -/
/-- tuples stay -/
def Tp (H H' : Hp) : Prop := ∀ b xs, H b = some (.tup xs) → H' b = some (.tup xs)
theorem Tp.same {H H' : Hp} (s : Same H H') : Tp H H' := fun b xs e => s _ _ e
theorem Tp.trans {H H1 H2 : Hp} (a : Tp H H1) (b : Tp H1 H2) : Tp H H2 := fun c xs e => b _ _ (a _ _ e)
theorem Tp.put {H : Hp} {D : Addr} {xs : List V} {o : HO} (h : H D = some (.lst xs)) : Tp H (upd H D o) := fun b ys e => by
  rw [upd_ne (fun z => by rw [z, h] at e; cases e)]
  exact e
theorem Tp.kp {st lg cl : Addr} {m : Nat} {H H' : Hp} (S : StAt H st lg cl m) (k : Kp st lg H H') : Tp H H' := fun b xs e => by
  obtain ⟨_, _, _, _, s, _⟩ := S
  exact k _ _ e (ne_of e s.d (by intro z; cases z)) (ne_of e s.l (by intro z; cases z))
/-- v is the tuple of these values -/
def TupAt (H : Hp) (v : V) (xs : List V) : Prop := ∃ p, v = .ref p ∧ H p = some (.tup xs)
theorem TupAt.tp {H H' : Hp} {v : V} {xs : List V} (h : TupAt H v xs) (t : Tp H H') : TupAt H' v xs := by
  obtain ⟨p, e, q⟩ := h
  exact ⟨p, e, t _ _ q⟩
/-- these are tuples, as f tells -/
def RL {α : Type} (f : α → List V) (H : Hp) (vs : List V) (as : List α) : Prop := vs.length = as.length ∧ ∀ (i : Nat) (v : V), vs[i]? = some v → ∃ a, as[i]? = some a ∧ TupAt H v (f a)
section
variable {α : Type} {f : α → List V} {H H' : Hp} {vs us : List V} {as bs : List α}
theorem RL.nil : RL f H [] [] := ⟨rfl, fun i v h => by simp at h⟩
theorem RL.tp (r : RL f H vs as) (t : Tp H H') : RL f H' vs as := ⟨r.1, fun i v h => by
  obtain ⟨a, e, q⟩ := r.2 i v h
  exact ⟨a, e, q.tp t⟩⟩
theorem RL.same (r : RL f H vs as) (t : Same H H') : RL f H' vs as := r.tp (Tp.same t)
theorem RL.append (r : RL f H vs as) (q : RL f H us bs) : RL f H (vs ++ us) (as ++ bs) := ⟨by rw [List.length_append, List.length_append, r.1, q.1], fun i v h => by
  by_cases c : i < vs.length
  · rw [List.getElem?_append_left c] at h
    obtain ⟨a, e, z⟩ := r.2 i v h
    exact ⟨a, by rw [List.getElem?_append_left (by rw [← r.1]; exact c)]; exact e, z⟩
  · rw [List.getElem?_append_right (by omega)] at h
    obtain ⟨a, e, z⟩ := q.2 _ v h
    exact ⟨a, by rw [List.getElem?_append_right (by rw [← r.1]; omega), ← r.1]; exact e, z⟩⟩
theorem RL.one {v : V} {a : α} (h : TupAt H v (f a)) : RL f H [v] [a] := ⟨rfl, fun i u e => by
  match i, e with
  | 0, e => exact ⟨a, rfl, (Option.some.inj e) ▸ h⟩⟩
theorem RL.get (r : RL f H vs as) {i : Nat} {v : V} (h : vs[i]? = some v) : ∃ p a, v = .ref p ∧ as[i]? = some a ∧ H p = some (.tup (f a)) := by
  obtain ⟨a, e, p, q, z⟩ := r.2 i v h
  exact ⟨p, a, q, e, z⟩
theorem RL.at_ (r : RL f H vs as) {i : Nat} {a : α} (h : as[i]? = some a) : ∃ p, vs[i]? = some (.ref p) ∧ H p = some (.tup (f a)) := by
  have l := (List.getElem?_eq_some_iff.mp h).1
  obtain ⟨p, a', e1, e2, e3⟩ := r.get (List.getElem?_eq_getElem (l := vs) (i := i) (by rw [r.1]; exact l))
  rw [h] at e2
  cases e2
  exact ⟨p, by rw [List.getElem?_eq_getElem (by rw [r.1]; exact l), e1], e3⟩
end
/-- the list at D, made since H1 -/
def NI {α : Type} (f : α → List V) (H1 : Hp) (D : Addr) (as : List α) (H : Hp) : Prop := ∃ ws, H D = some (.lst ws) ∧ RL f H ws as ∧ Same H1 H
section
variable {α : Type} {f : α → List V} {H1 H H' : Hp} {D : Addr} {as bs : List α}
theorem NI.new (hD : H1 D = none) : NI f H1 D [] (upd H1 D (.lst [])) := ⟨[], upd_same, .nil, Same.new hD⟩
theorem NI.same (n : NI f H1 D as H) (s : Same H H') : NI f H1 D as H' := by
  obtain ⟨ws, a, b, c⟩ := n
  exact ⟨ws, s _ _ a, b.same s, c.trans s⟩
theorem NI.s (n : NI f H1 D as H) : Same H1 H := n.elim fun _ q => q.2.2
theorem NI.push {v : V} {a : α} (n : NI f H1 D as H) (hD : H1 D = none) (l : as.length < 100000) (q : TupAt H v (f a)) : ∃ acc, H D = some (.lst acc) ∧ acc.length < sizeLine ∧ NI f H1 D (as ++ [a]) (upd H D (.lst (acc ++ [v]))) := by
  obtain ⟨ws, e, r, s⟩ := n
  refine ⟨ws, e, Nat.lt_trans (by rw [r.1]; exact l) (by decide), ws ++ [v], upd_same, (r.append (.one q)).tp (Tp.put e), K08.Same.put s hD⟩
end
theorem walk_core {J : It} {n : Nat} {G : Hp → Prop} {Y : Nat → Hp → V → Hp → Prop} (w : Walk J n G Y) {H1 : Hp} {Stop : Hp → Prop} {Body : (Hp → Prop) → V → Hp → Prop} (Pv : Nat → Hp → Prop) (h0 : Pv 0 H1) (hG : ∀ i H, i ≤ n → Pv i H → G H)
    (hs : ∀ i x H H', i < n → Pv i H → Y i H x H' → Body (Pv (i + 1)) x H') (hd : ∀ H, Pv n H → Stop H) :
    ∃ W : Nat → Nat → Hp → Prop, (∃ m, W 0 m H1) ∧ ∀ i m H, W i m H → (J.stop i H ∧ Stop H) ∨ (J.go i H ∧ ∃ Nx : Hp → Prop, (∀ H', Nx H' → ∃ m', m' < m ∧ W (i + 1) m' H') ∧ ∀ x H', J.yld i H x H' → Body Nx x H') := by
  refine ⟨fun i m H => m = n - i ∧ i ≤ n ∧ Pv i H, ⟨n, by simp, Nat.zero_le _, h0⟩, ?_⟩
  rintro i m H ⟨rfl, hi, p⟩
  have q := hG i H hi p
  by_cases hlt : i < n
  · exact .inr ⟨w.goes i H hlt q, Pv (i + 1), fun H' p' => ⟨n - (i + 1), by omega, rfl, hlt, p'⟩, fun x H' y => hs i x H H' hlt p (w.yields i H x H' hlt q y)⟩
  · have e : i = n := by omega
    subst e
    exact .inl ⟨w.stops H q, hd H p⟩
/-- the inner loop of two, the list at D growing -/
theorem inn_it {J : It} {n : Nat} {G : Hp → Prop} {Y : Nat → Hp → V → Hp → Prop} (w : Walk J n G Y) {g : TG} {tt : TT} {te : TE} {vs : List Nat} {σ : L2.St} {H4 : Hp} {D : Addr} {Nx : Hp → Prop} (Pv : Nat → Hp → Prop) (h0 : Pv 0 H4) (hG : ∀ i H, i ≤ n → Pv i H → G H)
    (hs : ∀ i x H H', i < n → Pv i H → Y i H x H' → g x (wipe σ vs) H' fun σ3 H5 => wipe σ3 vs = wipe σ vs ∧ tt σ3 H5 fun b H6 => if b = true then te σ3 H6 fun y H7 => ∃ acc, H7 D = some (.lst acc) ∧ acc.length < sizeLine ∧ Pv (i + 1) (upd H7 D (.lst (acc ++ [y]))) else Pv (i + 1) H6)
    (hd : ∀ H, Pv n H → Nx H) :
    ∃ W1 : Nat → Nat → Hp → Prop, (∃ m, W1 0 m H4) ∧ ∀ j k H, W1 j k H → (J.stop j H ∧ Nx H) ∨ (J.go j H ∧ ∃ Nx1 : Hp → Prop, (∀ H', Nx1 H' → ∃ k', k' < k ∧ W1 (j + 1) k' H') ∧ ∀ x H', J.yld j H x H' → g x (wipe σ vs) H' fun σ3 H5 => wipe σ3 vs = wipe σ vs ∧ tt σ3 H5 fun b H6 =>
        if b = true then te σ3 H6 fun y H7 => ∃ acc, H7 D = some (.lst acc) ∧ acc.length < sizeLine ∧ Nx1 (upd H7 D (.lst (acc ++ [y]))) else Nx1 H6) :=
  walk_core w (Body := fun Nx1 x H' => g x (wipe σ vs) H' fun σ3 H5 => wipe σ3 vs = wipe σ vs ∧ tt σ3 H5 fun b H6 => if b = true then te σ3 H6 fun y H7 => ∃ acc, H7 D = some (.lst acc) ∧ acc.length < sizeLine ∧ Nx1 (upd H7 D (.lst (acc ++ [y]))) else Nx1 H6) Pv h0 hG hs hd
/-- the outer one -/
theorem out_it {J : It} {n : Nat} {G : Hp → Prop} {Y : Nat → Hp → V → Hp → Prop} (w : Walk J n G Y) {g : TG} {tt : TT} {wi1 : TI} {g1 : TG} {tt1 : TT} {te : TE} {vs vs1 : List Nat} {σ : L2.St} {H1 : Hp} {D : Addr} {Qd : Hp → Prop} (Pv : Nat → Hp → Prop) (h0 : Pv 0 (upd H1 D (.lst []))) (hG : ∀ i H, i ≤ n → Pv i H → G H)
    (hs : ∀ i x H H', i < n → Pv i H → Y i H x H' → g x (wipe σ vs) H' fun σ2 H2 => wipe σ2 vs = wipe σ vs ∧ tt σ2 H2 fun b H3 =>
      if b = true then wi1 σ2 H3 fun J1 H4 => ∃ W1 : Nat → Nat → Hp → Prop, (∃ m, W1 0 m H4) ∧ ∀ j k H, W1 j k H →
      (J1.stop j H ∧ Pv (i + 1) H) ∨ (J1.go j H ∧ ∃ Nx1 : Hp → Prop, (∀ H', Nx1 H' → ∃ k', k' < k ∧ W1 (j + 1) k' H') ∧ ∀ x H', J1.yld j H x H' → g1 x (wipe σ2 vs1) H' fun σ3 H5 => wipe σ3 vs1 = wipe σ2 vs1 ∧ tt1 σ3 H5 fun b H6 =>
        if b = true then te σ3 H6 fun y H7 => ∃ acc, H7 D = some (.lst acc) ∧ acc.length < sizeLine ∧ Nx1 (upd H7 D (.lst (acc ++ [y]))) else Nx1 H6) else Pv (i + 1) H3) (hd : ∀ H, Pv n H → Qd H) :
    ∃ W : Nat → Nat → Hp → Prop, (∃ m, W 0 m (upd H1 D (.lst []))) ∧ ∀ i m H, W i m H → (J.stop i H ∧ Qd H) ∨ (J.go i H ∧ ∃ Nx : Hp → Prop, (∀ H', Nx H' → ∃ m', m' < m ∧ W (i + 1) m' H') ∧ ∀ x H', J.yld i H x H' → g x (wipe σ vs) H' fun σ2 H2 => wipe σ2 vs = wipe σ vs ∧ tt σ2 H2 fun b H3 =>
      if b = true then wi1 σ2 H3 fun J1 H4 => ∃ W1 : Nat → Nat → Hp → Prop, (∃ m, W1 0 m H4) ∧ ∀ j k H, W1 j k H →
      (J1.stop j H ∧ Nx H) ∨ (J1.go j H ∧ ∃ Nx1 : Hp → Prop, (∀ H', Nx1 H' → ∃ k', k' < k ∧ W1 (j + 1) k' H') ∧ ∀ x H', J1.yld j H x H' → g1 x (wipe σ2 vs1) H' fun σ3 H5 => wipe σ3 vs1 = wipe σ2 vs1 ∧ tt1 σ3 H5 fun b H6 =>
        if b = true then te σ3 H6 fun y H7 => ∃ acc, H7 D = some (.lst acc) ∧ acc.length < sizeLine ∧ Nx1 (upd H7 D (.lst (acc ++ [y]))) else Nx1 H6) else Nx H3) :=
  walk_core w (Body := fun Nx x H' => g x (wipe σ vs) H' fun σ2 H2 => wipe σ2 vs = wipe σ vs ∧ tt σ2 H2 fun b H3 =>
      if b = true then wi1 σ2 H3 fun J1 H4 => ∃ W1 : Nat → Nat → Hp → Prop, (∃ m, W1 0 m H4) ∧ ∀ j k H, W1 j k H →
      (J1.stop j H ∧ Nx H) ∨ (J1.go j H ∧ ∃ Nx1 : Hp → Prop, (∀ H', Nx1 H' → ∃ k', k' < k ∧ W1 (j + 1) k' H') ∧ ∀ x H', J1.yld j H x H' → g1 x (wipe σ2 vs1) H' fun σ3 H5 => wipe σ3 vs1 = wipe σ2 vs1 ∧ tt1 σ3 H5 fun b H6 =>
        if b = true then te σ3 H6 fun y H7 => ∃ acc, H7 D = some (.lst acc) ∧ acc.length < sizeLine ∧ Nx1 (upd H7 D (.lst (acc ++ [y]))) else Nx1 H6) else Nx H3) Pv h0 hG hs hd
end K08
namespace K08
open PySem PySem.Spec PyProof.Rows L2 PySem.W LamX KA KW KU KL KT
open Evl (pss_cut tCut)
/-! ### the law's own mixing -/
theorem erase_map {α β : Type} (f : α → β) : ∀ (l : List α) (d : Nat), (l.map f).eraseIdx d = (l.eraseIdx d).map f
  | [], _ => rfl
  | x :: l, 0 => rfl
  | x :: l, d + 1 => by
    rw [List.map_cons, List.eraseIdx_cons_succ, List.eraseIdx_cons_succ, List.map_cons, erase_map f l d]
theorem erase_perm {α : Type} : ∀ (l : List α) (d : Nat) (y : α), l[d]? = some y → ([y] ++ l.eraseIdx d).Perm l
  | [], _, _, h => by simp at h
  | x :: l, 0, y, h => by
    have : x = y := by simpa using h
    subst this
    exact List.Perm.refl _
  | x :: l, d + 1, y, h => by
    have ih := erase_perm l d y (by simpa using h)
    rw [List.eraseIdx_cons_succ]
    exact (List.Perm.swap x y _).trans (ih.cons x)
section
variable {P : Program} {w : World} {K : PySem.W.Frag} {mg : Str → Option Value} {base : Heap} (T : Top K mg)
def spMixed (K : PySem.W.Frag) : Sp := fun vs H Q _ => ∃ (st lg cl a : Addr) (is : List Int) (m : Nat), vs = [.ref st, .ref a] ∧ SqL K H a (is.map V.int) ∧ is.length ≤ 1000 ∧ m ≤ 900000 ∧ StAt H st lg cl m ∧
  ∀ (p : Addr) (js : List Int) (H' : Hp), js.Perm is → H' p = some (.lst (js.map V.int)) → H p = none → StAt H' st lg cl (m + is.length) → Kp st lg H H' → Q (.ref p) H'
end
end K08
namespace K08
open PySem PySem.Spec PyProof.Rows L2 PySem.W LamX KA KW KU KL KT
/-! ### comprehensions: what they leave, said once -/
theorem take_filter_yes {α : Type} {as : List α} {p : α → Bool} {i : Nat} {a : α} (e : as[i]? = some a) (h : p a = true) : (as.take (i + 1)).filter p = (as.take i).filter p ++ [a] := by
  rw [List.take_add_one, e, List.filter_append]
  simp [h]
theorem take_filter_no {α : Type} {as : List α} {p : α → Bool} {i : Nat} {a : α} (e : as[i]? = some a) (h : p a = false) : (as.take (i + 1)).filter p = (as.take i).filter p := by
  rw [List.take_add_one, e, List.filter_append]
  simp [h]
/-- what is left are plain values -/
theorem lcP {J : It} {n : Nat} {G : Hp → Prop} {Yd : Nat → Hp → V → Hp → Prop} (w : Walk J n G Yd) {g : TG} {tt : TT} {te : TE} {vs : List Nat} {σ : L2.St} {H1 : Hp} {D : Addr} {Qd : Hp → Prop} {α : Type} (as : List α) (p : α → Bool) (h : α → V)
    (hn : n = as.length) (hD : H1 D = none) (hG : ∀ H', Same H1 H' → G H') (l : as.length ≤ 100000) (hY : ∀ i H x H', Yd i H x H' → Same H H')
    (hs : ∀ i x a H H' (N : Hp → Prop) (R : VK), as[i]? = some a → Same H1 H → Yd i H x H' → (p a = true → ∀ H4, Same H' H4 → R (h a) H4) → (p a = false → ∀ H4, Same H' H4 → N H4) → g x (wipe σ vs) H' fun σ2 H2 => wipe σ2 vs = wipe σ vs ∧ tt σ2 H2 fun b H3 => if b = true then te σ2 H3 R else N H3)
    (hd : ∀ H', Same H1 H' → H' D = some (.lst ((as.filter p).map h)) → Qd H') :
    ∃ W : Nat → Nat → Hp → Prop, (∃ m, W 0 m (upd H1 D (.lst []))) ∧ ∀ i m H, W i m H →
      (J.stop i H ∧ Qd H) ∨ (J.go i H ∧ ∃ Nx : Hp → Prop, (∀ H', Nx H' → ∃ m', m' < m ∧ W (i + 1) m' H') ∧ ∀ x H', J.yld i H x H' → g x (wipe σ vs) H' fun σ2 H2 => wipe σ2 vs = wipe σ vs ∧ tt σ2 H2 fun b H3 =>
        if b = true then te σ2 H3 fun y H4 => ∃ acc, H4 D = some (.lst acc) ∧ acc.length < sizeLine ∧ Nx (upd H4 D (.lst (acc ++ [y]))) else Nx H3) := by
  subst hn
  refine lc_it w (fun i H => H D = some (.lst (((as.take i).filter p).map h)) ∧ Same H1 H) ⟨upd_same, Same.new hD⟩ (fun i H _ q => hG H q.2) ?_ ?_
  · rintro i x H H' hi ⟨e, s⟩ y
    obtain ⟨a, ha⟩ : ∃ a, as[i]? = some a := ⟨_, List.getElem?_eq_getElem hi⟩
    have s' := hY i H x H' y
    refine hs i x a H H' _ _ ha s y (fun hp H4 s4 => ?_) (fun hp H4 s4 => ?_)
    · refine ⟨_, s4 _ _ (s' _ _ e), ?_, ?_, ?_⟩
      · refine Nat.lt_of_le_of_lt (Nat.le_trans (List.length_map (as := (as.take i).filter p) h ▸ List.length_filter_le p (as.take i)) (Nat.le_trans (by rw [List.length_take]; exact Nat.min_le_right _ _) l)) (by decide)
      · rw [upd_same, take_filter_yes ha hp, List.map_append]
        rfl
      · exact Same.put (s.trans (s'.trans s4)) hD
    · rw [take_filter_no ha hp]
      exact ⟨s4 _ _ (s' _ _ e), s.trans (s'.trans s4)⟩
  · rintro H' ⟨e, s⟩
    rw [List.take_length] at e
    exact hd H' s e
/-- what is left are tuples -/
theorem lcR {J : It} {n : Nat} {G : Hp → Prop} {Yd : Nat → Hp → V → Hp → Prop} (w : Walk J n G Yd) {g : TG} {tt : TT} {te : TE} {vs : List Nat} {σ : L2.St} {H1 : Hp} {D : Addr} {Qd : Hp → Prop} {α β : Type} (f : β → List V) (as : List α) (p : α → Bool) (h : α → β)
    (hn : n = as.length) (hD : H1 D = none) (hG : ∀ H', Same H1 H' → G H') (l : as.length < 100000) (hY : ∀ i H x H', Yd i H x H' → Same H H')
    (hs : ∀ i x a H H' (N : Hp → Prop) (R : VK), as[i]? = some a → Same H1 H → Yd i H x H' → (p a = true → ∀ v H4, Same H' H4 → TupAt H4 v (f (h a)) → R v H4) → (p a = false → ∀ H4, Same H' H4 → N H4) → g x (wipe σ vs) H' fun σ2 H2 => wipe σ2 vs = wipe σ vs ∧ tt σ2 H2 fun b H3 => if b = true then te σ2 H3 R else N H3)
    (hd : ∀ H' ws, Same H1 H' → H' D = some (.lst ws) → RL f H' ws ((as.filter p).map h) → Qd H') :
    ∃ W : Nat → Nat → Hp → Prop, (∃ m, W 0 m (upd H1 D (.lst []))) ∧ ∀ i m H, W i m H →
      (J.stop i H ∧ Qd H) ∨ (J.go i H ∧ ∃ Nx : Hp → Prop, (∀ H', Nx H' → ∃ m', m' < m ∧ W (i + 1) m' H') ∧ ∀ x H', J.yld i H x H' → g x (wipe σ vs) H' fun σ2 H2 => wipe σ2 vs = wipe σ vs ∧ tt σ2 H2 fun b H3 =>
        if b = true then te σ2 H3 fun y H4 => ∃ acc, H4 D = some (.lst acc) ∧ acc.length < sizeLine ∧ Nx (upd H4 D (.lst (acc ++ [y]))) else Nx H3) := by
  subst hn
  refine lc_it w (fun i H => NI f H1 D (((as.take i).filter p).map h) H) (NI.new hD) (fun i H _ q => hG H q.s) ?_ ?_
  · rintro i x H H' hi ni y
    obtain ⟨a, ha⟩ : ∃ a, as[i]? = some a := ⟨_, List.getElem?_eq_getElem hi⟩
    have s' := hY i H x H' y
    refine hs i x a H H' _ _ ha ni.s y (fun hp v H4 s4 tv => ?_) (fun hp H4 s4 => ?_)
    · rw [take_filter_yes ha hp, List.map_append]
      refine (ni.same (s'.trans s4)).push hD ?_ tv
      rw [List.length_map]
      refine Nat.lt_of_le_of_lt (List.length_filter_le p (as.take i)) ?_
      rw [List.length_take]
      omega
    · rw [take_filter_no ha hp]
      exact ni.same (s'.trans s4)
  · rintro H' ⟨ws, e, r, s⟩
    rw [List.take_length] at r
    exact hd H' ws s e r
theorem yAt_same {xs : List V} : ∀ (i : Nat) (H : Hp) (x : V) (H' : Hp), YAt xs i H x H' → Same H H' := fun i H x H' y => by
  obtain ⟨rfl, _⟩ := y
  exact fun _ _ e => e
theorem yFn_same {f : Nat → V} : ∀ (i : Nat) (H : Hp) (x : V) (H' : Hp), YFn f i H x H' → Same H H' := fun i H x H' y => by
  obtain ⟨rfl, _⟩ := y
  exact fun _ _ e => e
theorem yPair_same {f g : Nat → Option V} : ∀ (i : Nat) (H : Hp) (x : V) (H' : Hp), YPair f g i H x H' → Same H H' := fun i H x H' y => by
  obtain ⟨T, x, y, rfl, hT, rfl, h1, h2⟩ := y
  exact Same.new hT
theorem walk_zipT {K : PySem.W.Frag} {a b : Addr} {xs ys : List V} {n : Nat} (hn : n = min xs.length ys.length) : Walk (RZ.ItzT K a b) n (fun H => SqT K H a xs ∧ SqT K H b ys) (YPair (fun i => xs[i]?) (fun i => ys[i]?)) := by
  subst hn
  constructor
  · intro i H lt ⟨sx, sy⟩
    exact ⟨xs, ys, _, _, sx, sy, List.getElem?_eq_getElem (Nat.lt_of_lt_of_le lt (Nat.min_le_left _ _)), List.getElem?_eq_getElem (Nat.lt_of_lt_of_le lt (Nat.min_le_right _ _))⟩
  · exact fun H q => ⟨xs, ys, q.1, q.2, by omega⟩
  · rintro i H v H' _ ⟨sx, sy⟩ ⟨t, x, y, ev, ft, eH, kx, ky⟩
    exact ⟨t, x, y, ev, ft, eH, kx xs sx, ky ys sy⟩
theorem walk_rangeN {n : Nat} : Walk (Itr 0 n) n (fun _ => True) (YFn fun i : Nat => V.int (i : Int)) := by
  have e : (fun i : Nat => V.int (0 + (i : Int))) = fun i : Nat => V.int (i : Int) := funext fun i => by rw [Int.zero_add]
  rw [← e]
  exact walk_range
theorem range_at {n i a : Nat} (h : (List.range n)[i]? = some a) : a = i ∧ i < n := by
  obtain ⟨h1, h2⟩ := List.getElem?_eq_some_iff.mp h
  rw [List.getElem_range] at h2
  rw [List.length_range] at h1
  exact ⟨h2.symm, h1⟩
def rLen (K : PySem.W.Frag) : List V → Hp → VK → Prop := fun xs H Q => ∃ p ys, xs = [.ref p] ∧ (SqL K H p ys ∨ SqT K H p ys) ∧ Q (.int ((ys.length : Nat) : Int)) H
/-! ### natural numbers as values -/
def NV (ns : List Nat) : List V := ns.map fun n : Nat => V.int (n : Int)
theorem NV_len (ns : List Nat) : (NV ns).length = ns.length := List.length_map _
theorem NV_ints (ns : List Nat) : NV ns = (ns.map fun n : Nat => (n : Int)).map V.int := by
  unfold NV
  rw [List.map_map]
  rfl
theorem NV_at {ns : List Nat} {i : Nat} {x : V} (h : (NV ns)[i]? = some x) : ∃ n, ns[i]? = some n ∧ x = .int (n : Int) := by
  unfold NV at h
  rw [List.getElem?_map] at h
  cases e : ns[i]? with
  | none => rw [e] at h; cases h
  | some n => rw [e] at h; exact ⟨n, rfl, (Option.some.inj h).symm⟩
theorem NV_get {ns : List Nat} {i : Nat} {n : Nat} (h : ns[i]? = some n) : (NV ns)[i]? = some (.int (n : Int)) := by
  unfold NV
  rw [List.getElem?_map, h]
  rfl
theorem NV_flat (ns : List Nat) : (NV ns).all flatV = true := by
  rw [List.all_eq_true]
  intro x hx
  obtain ⟨n, _, rfl⟩ := List.mem_map.mp hx
  rfl
theorem inV_NV (n : Nat) (ns : List Nat) : inV (.int (n : Int)) (NV ns) = inB ns n := by
  rw [Bool.eq_iff_iff]
  unfold inV inB NV
  rw [List.any_eq_true, decide_eq_true_eq]
  constructor
  · rintro ⟨x, hx, e⟩
    obtain ⟨m, hm, rfl⟩ := List.mem_map.mp hx
    have e : ((m : Int) == (n : Int)) = true := e
    have : (m : Int) = (n : Int) := eq_of_beq e
    have : m = n := by omega
    exact this ▸ hm
  · intro h
    exact ⟨.int (n : Int), List.mem_map.mpr ⟨n, h, rfl⟩, beq_self_eq_true (n : Int)⟩
/-- a list or a tuple at x of the tuples of these rows -/
def Wv (H : Hp) (x : V) (rows : List (List Nat)) : Prop := ∃ (a : Addr) (vs : List V), x = .ref a ∧ (H a = some (.lst vs) ∨ H a = some (.tup vs)) ∧ RL NV H vs rows
theorem Wv.keep {H H' : Hp} {x : V} {rows : List (List Nat)} (h : Wv H x rows) (s : Same H H') : Wv H' x rows := by
  obtain ⟨a, vs, rfl, e, r⟩ := h
  exact ⟨a, vs, rfl, e.imp (s _ _) (s _ _), r.same s⟩
end K08
namespace K08
open PySem PySem.Spec PyProof.Rows L2 PySem.W LamX KA KW KU KL KT
open Evl (pss_cut tCut)
/-! ### lots and whole sets -/
/-- no tuple -/
inductive Nt (H : Hp) : V → Prop where
  | int (i : Int) : Nt H (.int i)
  | bl (b : Bool) : Nt H (.bl b)
  | str (s : Str) : Nt H (.str s)
  | non : Nt H .non
  | lst {a : Addr} {xs : List V} (e : H a = some (.lst xs)) : Nt H (.ref a)
  | dK {a : Addr} {kvs : List (Key × V)} (e : H a = some (.dK kvs)) : Nt H (.ref a)
theorem Nt.ty {K : PySem.W.Frag} {H : Hp} {x : V} (h : Nt H x) : ∃ t : String, TyX K H x (.type t) ∧ kitB t "tuple" = some false := by
  cases h with
  | int i => exact ⟨"int", .base (.int i), by decide +kernel⟩
  | bl i => exact ⟨"bool", .base (.bl i), by decide +kernel⟩
  | str i => exact ⟨"str", .base (.str i), by decide +kernel⟩
  | non => exact ⟨"NoneType", .base .non, by decide +kernel⟩
  | lst e => exact ⟨"list", .base (.lst e), by decide +kernel⟩
  | dK e => exact ⟨"dict", .base (.dK e), by decide +kernel⟩
theorem Nt.keep {H H' : Hp} {x : V} (h : Nt H x) (s : Same H H') : Nt H' x := by
  cases h with
  | int i => exact .int i
  | bl i => exact .bl i
  | str i => exact .str i
  | non => exact .non
  | lst e => exact .lst (s _ _ e)
  | dK e => exact .dK (s _ _ e)
theorem Pl.keep {K : PySem.W.Frag} {H H' : Hp} {x : V} {b : Bool} (h : Pl K H x b) (s : Same H H') : Pl K H' x b := by
  cases h with
  | int i => exact .int i
  | bl i => exact .bl i
  | str i => exact .str i
  | non => exact .non
  | tup e => exact .tup (s _ _ e)
  | lst e => exact .lst (s _ _ e)
  | dK e => exact .dK (s _ _ e)
/-- values that hold no others -/
inductive Fl : V → Prop where
  | int (i : Int) : Fl (.int i)
  | bl (b : Bool) : Fl (.bl b)
  | str (s : Str) (h : PyData.strOk s = true) : Fl (.str s)
  | non : Fl .non
theorem Fl.pl {K : PySem.W.Frag} {H : Hp} {x : V} (h : Fl x) : ∃ b, Pl K H x b := by
  cases h with
  | int i => exact ⟨_, .int i⟩
  | bl i => exact ⟨_, .bl i⟩
  | str i _ => exact ⟨_, .str i⟩
  | non => exact ⟨_, .non⟩
/-- a value as a set of frames -/
inductive Rv (K : PySem.W.Frag) (H : Hp) : V → Option (List V) → Prop where
  | no {x : V} (h : Nt H x) : Rv K H x none
  | tup {a : Addr} {xs : List V} (e : H a = some (.tup xs)) (p : ∀ x ∈ xs, Fl x) (l : xs.length ≤ 1000) : Rv K H (.ref a) (some xs)
theorem Rv.keep {K : PySem.W.Frag} {H H' : Hp} {x : V} {o : Option (List V)} (h : Rv K H x o) (s : Same H H') : Rv K H' x o := by
  cases h with
  | no h => exact .no (h.keep s)
  | tup e p l => exact .tup (s _ _ e) p l
theorem Rv.nv {K : PySem.W.Frag} {H : Hp} {a : Addr} {ns : List Nat} (e : H a = some (.tup (NV ns))) (l : ns.length ≤ 1000) : Rv K H (.ref a) (some (NV ns)) := .tup e (fun x hx => by
  obtain ⟨n, _, rfl⟩ := List.mem_map.mp hx
  exact .int n) (by rw [NV_len]; exact l)
def natOf : V → Nat
  | .int i => i.toNat
  | _ => 0
def nats (o : Option (List V)) : List Nat := (o.getD []).map natOf
def insideB (n : Nat) (xs : List V) : Bool := xs.all fun x => within x 0 ((n : Int) - 1)
def lotV (n : Nat) : Option (List V) → Bool
  | none => false
  | some xs => insideB n xs && ascB (xs.map natOf)
theorem nats_NV (ns : List Nat) : nats (some (NV ns)) = ns := by
  show (NV ns).map natOf = ns
  unfold NV
  rw [List.map_map]
  exact (List.map_congr_left (fun x _ => Int.toNat_natCast x)).trans (List.map_id _)
theorem inside_nv {n : Nat} : ∀ {xs : List V}, insideB n xs = true → xs = NV (xs.map natOf) ∧ ∀ x ∈ xs.map natOf, x < n
  | [], _ => ⟨rfl, fun x hx => nomatch hx⟩
  | x :: xs, h => by
    have h : (within x 0 ((n : Int) - 1) && insideB n xs) = true := h
    rw [Bool.and_eq_true] at h
    obtain ⟨e1, e2⟩ := inside_nv h.2
    obtain ⟨i, rfl, h1, h2⟩ : ∃ i, x = .int i ∧ 0 ≤ i ∧ i ≤ (n : Int) - 1 := within_int h.1
    have ei : ((natOf (.int i) : Nat) : Int) = i := Int.toNat_of_nonneg h1
    refine ⟨?_, fun y hy => ?_⟩
    · show V.int i :: xs = V.int (natOf (.int i) : Nat) :: NV (xs.map natOf)
      rw [ei, ← e1]
    · rcases List.mem_cons.mp hy with rfl | hy
      · have : ((natOf (.int i) : Nat) : Int) < n := by omega
        exact Int.ofNat_lt.mp this
      · exact e2 y hy
theorem inside_NV (n : Nat) (ns : List Nat) : insideB n (NV ns) = ns.all fun x => decide (x < n) := by
  unfold insideB NV
  rw [List.all_map]
  refine congrArg (fun f => ns.all f) (funext fun x => ?_)
  show (decide ((0 : Int) ≤ x) && decide ((x : Int) ≤ n - 1)) = _
  rw [Bool.eq_iff_iff, Bool.and_eq_true, decide_eq_true_eq, decide_eq_true_eq, decide_eq_true_eq]
  omega
theorem lotV_NV (n : Nat) (ns : List Nat) : lotV n (some (NV ns)) = lotB n ns := by
  show (insideB n (NV ns) && ascB (nats (some (NV ns)))) = _
  rw [inside_NV, nats_NV]
  rfl
theorem lotV_nv {n : Nat} {o : Option (List V)} (h : lotV n o = true) : ∃ ns, o = some (NV ns) ∧ nats o = ns ∧ lotB n ns = true := by
  cases o with
  | none => cases h
  | some xs =>
    have h' := h
    rw [lotV, Bool.and_eq_true] at h'
    have e := (inside_nv h'.1).1
    rw [e] at h ⊢
    exact ⟨_, rfl, nats_NV _, (lotV_NV n _).symm.trans h⟩
def spLot (K : PySem.W.Frag) : Sp := fun vs H Q _ => ∃ (x : V) (o : Option (List V)) (n : Nat), vs = [x, .int (n : Int)] ∧ Rv K H x o ∧ ∀ H', Same H H' → Q (.bl (lotV n o)) H'
def spAreIn (K : PySem.W.Frag) : Sp := fun vs H Q _ => ∃ (a b : Addr) (ns ms : List Nat), vs = [.ref a, .ref b] ∧ H a = some (.tup (NV ns)) ∧ ns.length ≤ 1000 ∧ (H b = some (.lst (NV ms)) ∨ H b = some (.tup (NV ms))) ∧ ∀ H', Same H H' → Q (.bl (ns.all (inB ms))) H'
def spWhole (K : PySem.W.Frag) : Sp := fun vs H Q _ => ∃ (x y : V) (rows : List (List Nat)) (o : Option (List V)), vs = [x, y] ∧ Wv H x rows ∧ rows.length ≤ 1000 ∧ (∀ r ∈ rows, r.length ≤ 1000) ∧ Rv K H y o ∧ ∀ H', Same H H' → Q (.bl (lotV rows.length o && wholeB rows (nats o))) H'
theorem within_nat (x n : Nat) : within (.int (x : Int)) 0 ((n : Int) - 1) = decide (x < n) := by
  show (decide ((0 : Int) ≤ x) && decide ((x : Int) ≤ n - 1)) = _
  rw [Bool.eq_iff_iff, Bool.and_eq_true, decide_eq_true_eq, decide_eq_true_eq, decide_eq_true_eq]
  omega
theorem ix_either {K : PySem.W.Frag} {a : Addr} {vs : List V} {H : Hp} {Q : VK} {i : Nat} {v : V} (ha : H a = some (.lst vs) ∨ H a = some (.tup vs)) (h : vs[i]? = some v) (q : Q v H) : rIx K (.ref a) (.int (i : Int)) H Q := by
  rcases ha with ha | ha
  · exact .inl ⟨a, vs, _, v, rfl, rfl, SqL.of ha, atI_nat h, q⟩
  · exact .inr (.inl ⟨a, vs, _, v, rfl, rfl, SqT.of ha, atI_nat h, q⟩)
/-- neighbours rise -/
def pairsUp (ns : List Nat) : List (Nat × Nat) := ns.zip ns.tail
theorem pairsUp_all : ∀ ns : List Nat, (pairsUp ns).all (fun p => decide (p.1 < p.2)) = ascB ns
  | [] => rfl
  | [x] => rfl
  | x :: y :: l => by
    have ih := pairsUp_all (y :: l)
    show (decide (x < y) && (pairsUp (y :: l)).all _) = (decide (x < y) && ascB (y :: l))
    rw [ih]
theorem all_map_bl {α : Type} (as : List α) (p : α → Bool) : (as.map fun a => V.bl (p a)) = (as.map p).map V.bl := by rw [List.map_map]; rfl
theorem all_id {α : Type} (as : List α) (p : α → Bool) : (as.map p).all id = as.all p := by rw [List.all_map]; rfl
theorem filter_yes {α : Type} (as : List α) : as.filter (fun _ => true) = as := List.filter_eq_self.mpr fun _ _ => rfl
theorem sl_tail {K : PySem.W.Frag} {a : Addr} {ns : List Nat} {H : Hp} {Q : VK} (e : H a = some (.tup (NV ns))) (k : ∀ q H', Same H H' → H' q = some (.tup (NV ns.tail)) → Q (.ref q) H') : rSlA K (.ref a) (some 1) none H Q := by
  have c1 : HT.sIx (NV ns).length 0 (some 1) = min 1 ns.length := (HT.sIx_nat _ 0 1).trans (by rw [NV_len])
  refine ⟨a, NV ns, rfl, SqT.of e, fun c => ?_, fun c p hp => ?_⟩
  · have : ns = [] := by
      rw [c1] at c
      exact List.eq_nil_of_length_eq_zero (by omega)
    subst this
    exact k a H (fun _ _ e => e) e
  · have : cutV (NV ns) (some 1) none = NV ns.tail := by
      unfold cutV
      rw [c1, HT.sIx_none, NV_len]
      cases ns with
      | nil => rfl
      | cons x l =>
        rw [show min 1 (x :: l).length = 1 by rw [List.length_cons]; omega, List.take_of_length_le (by rw [List.length_drop, NV_len]; exact Nat.le_refl _)]
        rfl
    rw [this]
    exact k p _ (Same.new hp) upd_same
section
variable {P : Program} {w : World} {K : PySem.W.Frag} {mg : Str → Option Value} {base : Heap} (T : Top K mg)
end
end K08
namespace KST
open PySem PySem.Spec PyProof.Rows L2 PySem.W
/-! ### sorted(xs), xs a list of pairs of ints: in their order -/
def pairLe (p q : Int × Int) : Prop := p.1 < q.1 ∨ (p.1 = q.1 ∧ p.2 ≤ q.2)
theorem each_refs : ∀ (bs : List (Addr × Int × Int)) {us : List Value}, Vals (bs.map fun b => V.ref b.1) us → EachIs (fun v (b : Addr × Int × Int) => v = Value.ref b.1) us bs
  | [], _, r => by cases r; exact .nil
  | b :: bs, _, r => by
    cases r with
    | cons r1 r2 => exact .cons r1 (each_refs bs r2)
theorem refs_each : ∀ {us : List Value} {bs : List (Addr × Int × Int)}, EachIs (fun v (b : Addr × Int × Int) => v = Value.ref b.1) us bs → Vals (bs.map fun b => V.ref b.1) us
  | _, _, .nil => .nil
  | _, _, .cons h t => .cons h (refs_each t)
def enc (b : Addr × Int × Int) : PyData := .tuple [.int b.2.1, .int b.2.2]
theorem pair_uniq : ∀ (xs ys : List (Int × Int)), xs.Perm ys → xs.Pairwise pairLe → ys.Pairwise pairLe → xs = ys
  | [], ys, p, _, _ => by rw [List.nil_perm.mp p]
  | x :: xs, ys, p, h1, h2 => by
    cases ys with
    | nil => exact absurd p.length_eq (by simp)
    | cons y ys =>
      have e : x = y := by
        have m1 : x ∈ y :: ys := p.mem_iff.mp List.mem_cons_self
        have m2 : y ∈ x :: xs := p.symm.mem_iff.mp List.mem_cons_self
        rcases List.mem_cons.mp m1 with z | z
        · exact z
        · rcases List.mem_cons.mp m2 with z2 | z2
          · exact z2.symm
          · have a := (List.pairwise_cons.mp h2).1 x z
            have b := (List.pairwise_cons.mp h1).1 y z2
            unfold pairLe at a b
            obtain ⟨x1, x2⟩ := x
            obtain ⟨y1, y2⟩ := y
            simp only [Prod.mk.injEq]
            dsimp only at a b
            omega
      subst e
      rw [pair_uniq xs ys (List.Perm.cons_inv p) (List.pairwise_cons.mp h1).2 (List.pairwise_cons.mp h2).2]
section
variable {X : Cx}
def rSortedT (K : PySem.W.Frag) : List V → Hp → VK → Prop := fun vs H Q => ∃ (a : Addr) (bs : List (Addr × Int × Int)), vs = [V.ref a] ∧ SqL K H a (bs.map fun b => V.ref b.1) ∧ (∀ b ∈ bs, H b.1 = some (.tup [.int b.2.1, .int b.2.2])) ∧
  ∀ (bs' : List (Addr × Int × Int)) (q : Addr), bs'.Perm bs → (bs'.map (·.2)).Pairwise pairLe → H q = none → Q (.ref q) (upd H q (.lst (bs'.map fun b => V.ref b.1)))
theorem cr_sortedT (hu : X.A.units + 4 < cLine) : CallR X (.builtin "sorted") (rSortedT X.K) := by
  intro pins s σ H vs us Q I r h
  obtain ⟨a, bs, rfl, hs, hx, q⟩ := h
  obtain ⟨its, rv, hl, hz⟩ := I.list hs
  rw [Vals.ref1 r]
  have e := each_refs bs rv
  have lb : its.length = bs.length := by
    have := rv.length
    rw [List.length_map] at this
    exact this.symm
  have er : EachIs (fun v b => ∃ as, Reads s.heap v (enc b) as) its bs := by
    have go : ∀ (cs : List (Addr × Int × Int)) (ws : List Value), (∀ b ∈ cs, b ∈ bs) → EachIs (fun v (b : Addr × Int × Int) => v = Value.ref b.1) ws cs → EachIs (fun v b => ∃ as, Reads s.heap v (enc b) as) ws cs := by
      intro cs ws hm e
      induction e with
      | nil => exact .nil
      | @cons v b vs bs' h1 t ih =>
        refine .cons ?_ (ih fun b hb => hm b (List.mem_cons_of_mem _ hb))
        exact Dp.reads I (enc b) (.ref b.1) v (.tup (SqT.of (hx b (hm b List.mem_cons_self))) (.cons (.int _) (.cons (.int _) .nil))) h1
    exact go bs its (fun _ h => h) e
  refine sorted_data (enc := enc) (R := fun v (b : Addr × Int × Int) => v = Value.ref b.1) hl.isList e er (AllAlike.of fun _ _ => by simp [alike, alikeAll, enc]) (Sortable.tuples fun _ => ⟨_, _, rfl⟩) (by rw [← lb, ← rv.length]; exact hz) (fun b _ => ?_) fun out lo eo => ?_
  · show X.A.units + 2 + (PyData.tuple [.int b.2.1, .int b.2.2]).depth < cLine
    have : (PyData.tuple [.int b.2.1, .int b.2.2]).depth ≤ 1 := by simp [PyData.depth, PyData.depthAll]
    omega
  · have en : dataLe false enc = fun p q : Addr × Int × Int => decide (p.2.1 < q.2.1 ∨ (p.2.1 = q.2.1 ∧ p.2.2 ≤ q.2.2)) := dataLe_ii (fun b : Addr × Int × Int => b.2.1) (fun b => b.2.2)
    obtain ⟨ep, he'⟩ := PyProof.Rows.sortedAll_at s.heap its out.toArray
    have pm := List.mergeSort_perm bs (dataLe false enc)
    have pw : ((bs.mergeSort (dataLe false enc)).map (·.2)).Pairwise pairLe := by
      rw [List.pairwise_map, en]
      refine (List.pairwise_mergeSort (fun a b c h1 h2 => ?_) (fun a b => ?_) bs).imp fun h => ?_
      · simp only [decide_eq_true_eq] at h1 h2 ⊢
        omega
      · simp only [Bool.or_eq_true, decide_eq_true_eq]
        omega
      · exact (decide_eq_true_eq (p := _ ∨ _)).mp h
    refine ⟨.ref _, upd H (s.heap.objs.size + 1) (.lst ((bs.mergeSort (dataLe false enc)).map fun b => V.ref b.1)), I.laid (t' := s.toks) (fun _ _ => PyProof.Rows.sortedAll_old) (Nat.le_succ _) ⟨?_, out, ep, refs_each eo, he'⟩, rfl, q _ _ pm pw (I.hok.fresh (Nat.le_succ _))⟩
    rw [List.length_map, pm.length_eq, ← lb, ← rv.length]
    exact hz
end
end KST
namespace K08
open PySem PySem.Spec PyProof.Rows L2 PySem.W LamX KA KW KU KL KT
/-! ### the words of a book: mathematics -/
/-- the lengths with their places -/
def prs (ns : List Nat) : List (Nat × Nat) := ((List.range ns.length).filter fun s => decide (0 < ns.getD s 0)).map fun s => (ns.getD s 0, s)
def share (q : Nat × Nat) : Nat := 2 ^ (7 - q.1)
def sumS (ps : List (Nat × Nat)) : Nat := (ps.map share).sum
abbrev RS := Nat × Nat × List (Nat × List Nat)
def stp (s : RS) (q : Nat × Nat) : RS := (s.1 * 2 ^ (q.1 - s.2.1) + 1, q.1, s.2.2 ++ [(q.2, bitsL q.1 (s.1 * 2 ^ (q.1 - s.2.1)))])
def run (ps : List (Nat × Nat)) : RS := ps.foldl stp (0, 0, [])
theorem run_snoc (ps : List (Nat × Nat)) (q : Nat × Nat) : run (ps ++ [q]) = stp (run ps) q := by
  unfold run
  rw [List.foldl_append]
  rfl
theorem sumS_snoc (ps : List (Nat × Nat)) (q : Nat × Nat) : sumS (ps ++ [q]) = sumS ps + share q := by
  unfold sumS
  rw [List.map_append, List.sum_append]
  simp
theorem sumS_perm {ps qs : List (Nat × Nat)} (h : ps.Perm qs) : sumS ps = sumS qs := (h.map share).sum_nat
theorem snoc_ind {α : Type} {P : List α → Prop} (h0 : P []) (h1 : ∀ l a, P l → P (l ++ [a])) : ∀ l, P l := by
  have go : ∀ r : List α, P r.reverse := fun r => by
    induction r with
    | nil => exact h0
    | cons a r ih => rw [List.reverse_cons]; exact h1 _ _ ih
  intro l
  have := go l.reverse
  rwa [List.reverse_reverse] at this
/-- lengths that never fall -/
def Up (ps : List (Nat × Nat)) : Prop := ps.Pairwise fun p q => p.1 ≤ q.1
/-- where the run stands -/
theorem run_at : ∀ (ps : List (Nat × Nat)), Up ps → (∀ q ∈ ps, 1 ≤ q.1 ∧ q.1 ≤ 7) → (run ps).1 * 2 ^ (7 - (run ps).2.1) = sumS ps ∧ (run ps).2.1 ≤ 7 ∧ (∀ l, (∀ q ∈ ps, q.1 ≤ l) → (run ps).2.1 ≤ l) ∧ (run ps).2.2.map (·.1) = ps.map (·.2) := by
  intro ps
  refine snoc_ind (P := fun ps => Up ps → (∀ q ∈ ps, 1 ≤ q.1 ∧ q.1 ≤ 7) → (run ps).1 * 2 ^ (7 - (run ps).2.1) = sumS ps ∧ (run ps).2.1 ≤ 7 ∧ (∀ l, (∀ q ∈ ps, q.1 ≤ l) → (run ps).2.1 ≤ l) ∧ (run ps).2.2.map (·.1) = ps.map (·.2)) ?_ ?_ ps
  · exact fun _ _ => ⟨by show 0 * _ = 0; omega, by show 0 ≤ 7; omega, fun l _ => Nat.zero_le l, rfl⟩
  · intro ps q ih up hl
    have up' := List.pairwise_append.mp up
    obtain ⟨e1, e2, e3, e4⟩ := ih up'.1 fun z hz => hl z (List.mem_append_left _ hz)
    have hq := hl q (List.mem_append_right _ List.mem_cons_self)
    have hr : (run ps).2.1 ≤ q.1 := e3 _ fun z hz => up'.2.2 z hz q List.mem_cons_self
    rw [run_snoc, sumS_snoc]
    refine ⟨?_, hq.2, fun l h => h q (List.mem_append_right _ List.mem_cons_self), ?_⟩
    · show ((run ps).1 * 2 ^ (q.1 - (run ps).2.1) + 1) * 2 ^ (7 - q.1) = _
      rw [← e1, Nat.add_mul, Nat.mul_assoc, ← Nat.pow_add, show q.1 - (run ps).2.1 + (7 - q.1) = 7 - (run ps).2.1 by omega, Nat.one_mul]
      rfl
    · show ((run ps).2.2 ++ [(q.2, bitsL q.1 ((run ps).1 * 2 ^ (q.1 - (run ps).2.1)))]).map (fun z => z.1) = _
      rw [List.map_append, e4, List.map_append]
      rfl
/-- the next word's number -/
theorem run_next {ps : List (Nat × Nat)} {q : Nat × Nat} (up : Up (ps ++ [q])) (hl : ∀ z ∈ ps ++ [q], 1 ≤ z.1 ∧ z.1 ≤ 7) (hs : sumS (ps ++ [q]) ≤ 128) :
    (run ps).2.1 ≤ q.1 ∧ (run ps).1 * 2 ^ (q.1 - (run ps).2.1) < 2 ^ q.1 ∧ (run ps).1 ≤ 128 ∧ (run ps).1 * 2 ^ (q.1 - (run ps).2.1) * 2 ^ (7 - q.1) = sumS ps := by
  have up' := List.pairwise_append.mp up
  obtain ⟨e1, e2, e3, e4⟩ := run_at ps up'.1 fun z hz => hl z (List.mem_append_left _ hz)
  have hq := hl q (List.mem_append_right _ List.mem_cons_self)
  have hr : (run ps).2.1 ≤ q.1 := e3 _ fun z hz => up'.2.2 z hz q List.mem_cons_self
  have e5 : (run ps).1 * 2 ^ (q.1 - (run ps).2.1) * 2 ^ (7 - q.1) = sumS ps := by
    rw [Nat.mul_assoc, ← Nat.pow_add, show q.1 - (run ps).2.1 + (7 - q.1) = 7 - (run ps).2.1 by omega, e1]
  rw [sumS_snoc] at hs
  have h2 : 2 ^ q.1 * 2 ^ (7 - q.1) = 128 := by
    rw [← Nat.pow_add, show q.1 + (7 - q.1) = 7 by omega]
  have hp : 0 < 2 ^ (7 - q.1) := Nat.pow_pos (by decide)
  have hsh : share q = 2 ^ (7 - q.1) := rfl
  refine ⟨hr, ?_, ?_, e5⟩
  · refine Nat.lt_of_mul_lt_mul_right (a := 2 ^ (7 - q.1)) ?_
    rw [e5, h2]
    omega
  · have : (run ps).1 * 1 ≤ (run ps).1 * 2 ^ (7 - (run ps).2.1) := Nat.mul_le_mul_left _ (Nat.pow_pos (by decide))
    omega
end K08
namespace KIN
open PySem PySem.Spec PyProof.Rows L2 PySem.W
/-! ### x is None, x is not None -/
theorem none_rel {x : V} {v : Value} (r : L2.RelV x v) : decide (x = V.non) = (v == Value.none) := by
  cases x with
  | non => cases r; rfl
  | bl b => cases r; rfl
  | ref a => cases r; rfl
  | _ => first
    | (obtain ⟨t, rfl⟩ := r; rfl)
    | (cases r; rfl)
def rIsN : R2 := fun x y H Q => y = V.non ∧ Q (V.bl (decide (x = V.non))) H
def rIsntN : R2 := fun x y H Q => y = V.non ∧ Q (V.bl (!decide (x = V.non))) H
theorem op_isntN {X : Cx} : OpR X (compareOp CmpOp.IsNot) rIsntN := by
  intro pins s σ H x y v u Q I rx ry h
  obtain ⟨rfl, q⟩ := h
  cases ry
  exact isnot_none_gen (fin_bl I q (congrArg (! ·) (none_rel rx)))
end KIN
namespace K08
open PySem PySem.Spec PyProof.Rows L2 PySem.W LamX KA KW KU KL KT
open Evl (pss_cut tCut)
/-! ### books -/
def tupOf (o : Option (List V)) (n : Nat) : Bool := match o with
  | none => false
  | some xs => decide (xs.length = n)
def spTupOf (K : PySem.W.Frag) : Sp := fun vs H Q _ => ∃ (x : V) (o : Option (List V)) (n : Nat), vs = [x, .int (n : Int)] ∧ Rv K H x o ∧ Q (.bl (tupOf o n)) H
def modeL : List Str := ["flat", "left", "up", "middle", "mean", "copy", "both", "still"]
structure ModesT (K : PySem.W.Frag) (mg : Str → Option Value) where
  a : Addr
  m : mg "MODES" = some (.ref a)
  q : ∀ H, SqT K H a (modeL.map V.str)
/-- what the words take of all that there is -/
def kraft (ns : List Nat) : Nat := ((ns.filter fun n => decide (0 < n)).map fun n => 2 ^ (7 - n)).sum
def leftB (kd : Int) (ns : List Nat) : Bool := decide (ns.getD 0 0 = 0) || (decide (kd < 1) && decide (0 < ns.getD 5 0 + ns.getD 7 0) || decide (kd < 2) && decide (0 < ns.getD 6 0))
def sevB (xs : List V) : Bool := xs.all fun x => within x 0 7
def bookB (kd : Int) : Option (List V) → Bool
  | none => false
  | some xs => decide (xs.length = 8) && sevB xs && (!leftB kd (xs.map natOf) && decide (kraft (xs.map natOf) ≤ 128))
def spBook (K : PySem.W.Frag) : Sp := fun vs H Q _ => ∃ (x : V) (o : Option (List V)) (kd : Int), vs = [.int kd, x] ∧ Rv K H x o ∧ ∀ H', Same H H' → Q (.bl (bookB kd o)) H'
theorem seven_nv {xs : List V} (h : sevB xs = true) : xs = NV (xs.map natOf) ∧ ∀ x ∈ xs.map natOf, x < 8 := inside_nv (n := 8) h
/-- a test that only tells -/
def Pu (t : TT) (σ : L2.St) (H : Hp) (b : Bool) : Prop := ∀ F : Bool → Hp → Prop, F b H → t σ H F
theorem Pu.and {A B : TT} {σ : L2.St} {H : Hp} {a b : Bool} (h : Pu A σ H a) (g : Pu B σ H b) : Pu (tAnd A B) σ H (a && b) := fun F f => h _ (by
  cases a with
  | true => exact iteT (g _ f)
  | false => exact iteF f)
theorem Pu.or {A B : TT} {σ : L2.St} {H : Hp} {a b : Bool} (h : Pu A σ H a) (g : Pu B σ H b) : Pu (tOr A B) σ H (a || b) := fun F f => h _ (by
  cases a with
  | true => exact iteT f
  | false => exact iteF (g _ f))
section
variable {P : Program} {w : World} {K : PySem.W.Frag} {mg : Str → Option Value} {base : Heap} (T : Top K mg) (MD : ModesT K mg)
theorem ok_is_tuple_of : FnOk P w K mg base (L2.CX P w) 1 T.is_tuple_of.a T.is_tuple_of.d ["thing", "many"] (spTupOf K) := by
  refine T.is_tuple_of.f.okX sc_is_tuple_of (fun vs H Q E h => ?_) (fun cdv A outer s H vs Q E hr h => ?_)
  · obtain ⟨x, o, n, rfl, _⟩ := h
    rfl
  · obtain ⟨x, o, n, rfl, hp, k⟩ := h
    refine ⟨_, (pss_one (ps_ret (pe_and (pe_callB call_isi (by rfl) T.b_isinstance PyProof.Rows.boot_isinstance (pa_cons (pv 0) (pa_cons (pe_bltn (v := .ty "tuple") (by rfl) T.b_tuple (by decide +kernel) rfl) pa_nil))) (pe_one (pe_cmpR op_eq (pe_callB call_len_seq (by rfl) T.b_len PySem.boot_len (pa_cons (pv 0) pa_nil)) (pv 1) (nomark _)))))), ?_⟩
    cases hp with
    | no hn =>
      obtain ⟨t, ht, h1⟩ := hn.ty (K := K)
      refine ⟨_, rfl, x, _, _, _, _, rfl, .ty "tuple", ht, kit_ty h1, _, rfl, ?_⟩
      exact iteF k
    | @tup a xs e p l =>
      refine ⟨_, rfl, _, _, _, _, true, rfl, .ty "tuple", .base (.tup e), kit_ty (by decide +kernel), _, rfl, iteT ⟨_, rfl, a, xs, rfl, .inr (SqT.of e), _, rfl, rfl, ?_⟩⟩
      refine q_bl k ?_
      show decide (V.int ((xs.length : Nat) : Int) = V.int ((n : Nat) : Int)) = decide (xs.length = n)
      exact decide_eq_decide.mpr ⟨fun z => by have := V.int.inj z; omega, fun z => by rw [z]⟩
theorem eight {α : Type} {xs : List α} (h : xs.length = 8) : ∃ a b c d e f g i, xs = [a, b, c, d, e, f, g, i] := by
  match xs, h with
  | [a, b, c, d, e, f, g, i], _ => exact ⟨a, b, c, d, e, f, g, i, rfl⟩
include MD in
theorem ok_is_book : FnOk P w K mg base (L2.CX P w) 3 T.is_book.a T.is_book.d ["kind", "thing"] (spBook K) := by
  refine T.is_book.f.okX sc_is_book (fun vs H Q E h => ?_) (fun cdv A outer s H vs Q E hr h => ?_)
  · obtain ⟨x, o, kd, rfl, _⟩ := h
    rfl
  · obtain ⟨x, o, kd, rfl, hp, k⟩ := h
    obtain ⟨tL, hcL⟩ := T.cLONGEST_WORD
    refine ⟨_, (pss_cons (ps_if (PW.pt (pw_or (pt_not (pt_val (pe_call (ok_is_tuple_of T) (hr.mono (by decide)) (by rfl) T.is_tuple_of.m T.is_tuple_of.f.kp (bd_is_tuple_of T) .nil passE (pa_cons (pv 1) (pa_cons (pe_callB call_len_seq (by rfl) T.b_len PySem.boot_len (pa_cons (pe_glob (v := .ref MD.a) (by rfl) MD.m rfl) pa_nil)) pa_nil))))) (pw_or1 (pt_not (pt_val (pe_callB (cr_all rfl) (by rfl) T.b_all (by decide +kernel) (pa_cons (pe_lc (own := [("part", 8)]) (g := (gName 8)) (tt := tYes) rfl sc_is_book.nd (pi_tup (pv 1)) (blkOk_by (own := [("part", 8)]) (N := ["kind", "thing", "flat", "_", "copied", "both", "still", "length", "part"]) (sc := defScope s_is_book) (by decide +kernel)) (fun _ _ _ _ _ => pg_name (i := 8) sc_is_book.nd rfl (by first | exact .inl rfl | exact .inr rfl)) (fun _ _ _ _ _ => pts_nil) (fun _ _ _ _ _ => (pe_call (ok_is_within T) (hr.mono (by decide)) (by rfl) T.is_within.m T.is_within.f.kp (bd_is_within T) .nil passE (pa_cons (pv 8) (pa_cons pe_int (pa_cons (pe_glob (v := .int 7) (by rfl) hcL ⟨_, rfl⟩) pa_nil)))))) pa_nil))))))) (pss_one (ps_ret pe_bl)) pss_nil)
      (pss_cons (ps_asg (pv 1) (pg_tup rfl (pgs_cons (pg_name (i := 2) sc_is_book.nd rfl (by first | exact .inl rfl | exact .inr rfl)) (pgs_cons (pg_name (i := 3) sc_is_book.nd rfl (by first | exact .inl rfl | exact .inr rfl)) (pgs_cons (pg_name (i := 3) sc_is_book.nd rfl (by first | exact .inl rfl | exact .inr rfl)) (pgs_cons (pg_name (i := 3) sc_is_book.nd rfl (by first | exact .inl rfl | exact .inr rfl)) (pgs_cons (pg_name (i := 3) sc_is_book.nd rfl (by first | exact .inl rfl | exact .inr rfl)) (pgs_cons (pg_name (i := 4) sc_is_book.nd rfl (by first | exact .inl rfl | exact .inr rfl)) (pgs_cons (pg_name (i := 5) sc_is_book.nd rfl (by first | exact .inl rfl | exact .inr rfl)) (pgs_cons (pg_name (i := 6) sc_is_book.nd rfl (by first | exact .inl rfl | exact .inr rfl)) pgs_nil))))))))))
      (pss_cons (ps_if (PW.pt (pw_or (pt_cmpR op_eq (pv 2) pe_int (nomark _)) (pw_or (PW.pt (pw_and (pt_cmpR op_lt (pv 0) pe_int (nomark _)) (pw_and1 (pt_cmpR op_gt (pe_op op_add (pv 4) (pv 6)) pe_int (nomark _))))) (pw_or1 (PW.pt (pw_and (pt_cmpR op_lt (pv 0) pe_int (nomark _)) (pw_and1 (pt_cmpR op_gt (pv 5) pe_int (nomark _))))))))) (pss_one (ps_ret pe_bl)) pss_nil)
      (pss_one (ps_ret (pe_cmpR op_le (pe_callB (cr_sum rfl) (by rfl) T.b_sum (by decide +kernel) (pa_cons (pe_lc (own := [("length", 7)]) (g := (gName 7)) rfl sc_is_book.nd (pi_tup (pv 1)) (blkOk_by (own := [("length", 7)]) (N := ["kind", "thing", "flat", "_", "copied", "both", "still", "length", "part"]) (sc := defScope s_is_book) (by decide +kernel)) (fun _ _ _ _ _ => pg_name (i := 7) sc_is_book.nd rfl (by first | exact .inl rfl | exact .inr rfl)) (fun _ _ _ _ _ => pts_one (pt_cmpR op_gt (pv 7) pe_int (nomark _))) (fun _ _ _ _ _ => (pe_op op_shl pe_int (pe_op op_sub (pe_glob (v := .int 7) (by rfl) hcL ⟨_, rfl⟩) (pv 7))))) pa_nil)) (pe_op op_shl pe_int (pe_glob (v := .int 7) (by rfl) hcL ⟨_, rfl⟩)) (nomark _))))))), ?_⟩
    refine ⟨_, rfl, MD.a, _, rfl, .inr (MD.q _), x, o, 8, rfl, hp, _, rfl, ?_⟩
    cases hp with
    | no hn => exact iteT (k H fun _ _ e => e)
    | @tup a xs e p l =>
    have e0 : bookB kd (some xs) = (decide (xs.length = 8) && sevB xs && (!leftB kd (xs.map natOf) && decide (kraft (xs.map natOf) ≤ 128))) := rfl
    by_cases c1 : xs.length = 8
    case neg =>
      rw [show tupOf (some xs) 8 = false from decide_eq_false c1]
      refine iteT (q_bl (k H fun _ _ e => e) ?_)
      rw [e0, decide_eq_false c1]
      rfl
    rw [show tupOf (some xs) 8 = true from decide_eq_true c1]
    rw [decide_eq_true c1, Bool.true_and] at e0
    refine iteF ⟨_, rfl, a, rfl, ⟨xs, SqT.of e⟩, fun D hD => ?_⟩
    refine lcP (walk_tup (xs := xs)) xs (fun _ => true) (fun x => V.bl (within x 0 7)) rfl hD (fun H' s => SqT.of (s _ _ e)) (Nat.le_trans l (by decide)) yAt_same ?_ ?_
    · rintro i x m H1 H2 N R hm s1 ⟨rfl, hx⟩ hy hn
      rw [hm] at hx
      cases hx
      refine ⟨rfl, ?_⟩
      dsimp only [tYes]
      rw [if_pos rfl]
      obtain ⟨b, hb⟩ := Fl.pl (K := K) (H := H2) (p _ (List.mem_of_getElem? hm))
      exact ⟨_, rfl, _, b, _, _, rfl, hb, hy rfl _ fun _ _ e => e⟩
    intro H1 s1 e1
    rw [filter_yes, all_map_bl] at e1
    refine ⟨D, _, rfl, SqL.of e1, _, rfl, ?_⟩
    rw [all_id]
    by_cases c2 : sevB xs = true
    case neg =>
      rw [show xs.all (fun x => within x 0 7) = false from Bool.eq_false_iff.mpr c2]
      refine iteT (q_bl (k _ s1) ?_)
      rw [e0, Bool.eq_false_iff.mpr c2]
      rfl
    rw [show xs.all (fun x => within x 0 7) = true from c2]
    refine iteF ?_
    rw [c2, Bool.true_and] at e0
    obtain ⟨en, el⟩ := seven_nv c2
    generalize xs.map natOf = ns at *
    subst en
    rw [NV_len] at c1
    obtain ⟨n1, n2, n3, n4, n5, n6, n7, n8, rfl⟩ := eight c1
    have e := s1 _ _ e
    refine ⟨_, rfl, a, _, rfl, SqT.of e, rfl, ?_⟩
    refine ⟨_, _, rfl, _, _, rfl, _, _, rfl, _, _, rfl, _, _, rfl, _, _, rfl, _, _, rfl, _, _, rfl, rfl, ?_⟩
    have sc : ∀ i j : Int, decide (V.int i = V.int j) = decide (i = j) := fun i j => decide_eq_decide.mpr ⟨fun z => V.int.inj z, fun z => by rw [z]⟩
    have lf : leftB kd [n1, n2, n3, n4, n5, n6, n7, n8] = (decide (V.int (n1 : Int) = V.int 0) || (decide (kd < 1) && decide ((0 : Int) < n6 + n8) || decide (kd < 2) && decide ((0 : Int) < n7))) := by
      show (decide (n1 = 0) || (decide (kd < 1) && decide (0 < n6 + n8) || decide (kd < 2) && decide (0 < n7))) = _
      rw [sc]
      congr 1
      · exact decide_eq_decide.mpr (by omega)
      · congr 2
        · exact decide_eq_decide.mpr (by omega)
        · exact decide_eq_decide.mpr (by omega)
    unfold tSeq tIfS
    dsimp only
    refine Pu.or (fun F h => ⟨_, rfl, rfl, _, rfl, h⟩) (Pu.or (Pu.and (fun F h => ⟨_, rfl, _, _, rfl, rfl, _, rfl, h⟩) (fun F h => ⟨_, rfl, _, rfl, _, _, rfl, rfl, _, _, rfl, rfl, _, rfl, h⟩)) (Pu.and (fun F h => ⟨_, rfl, _, _, rfl, rfl, _, rfl, h⟩) (fun F h => ⟨_, rfl, _, _, rfl, rfl, _, rfl, h⟩))) _ ?_
    rw [← lf]
    cases c3 : leftB kd [n1, n2, n3, n4, n5, n6, n7, n8] with
    | true =>
      refine iteT (q_bl (k _ s1) ?_)
      rw [e0, c3]
      rfl
    | false =>
    refine iteF ?_
    rw [c3, Bool.not_false, Bool.true_and] at e0
    clear lf c3
    generalize hns : [n1, n2, n3, n4, n5, n6, n7, n8] = ns at *
    refine ⟨_, rfl, a, rfl, ⟨_, SqT.of e⟩, fun D2 hD2 => ?_⟩
    refine lcP (walk_tup (xs := NV ns)) ns (fun n => decide (0 < n)) (fun n => V.int ((2 ^ (7 - n) : Nat) : Int)) (NV_len ns) hD2 (fun H' s => SqT.of (s _ _ e)) (by omega) yAt_same ?_ ?_
    · rintro i x m H2 H3 N R hm s2 ⟨rfl, hx⟩ hy hn
      rw [NV_get hm] at hx
      cases hx
      refine ⟨rfl, _, rfl, _, _, rfl, rfl, _, rfl, ?_⟩
      obtain ⟨j, hj⟩ := List.mem_iff_getElem?.mp (List.mem_of_getElem? hm)
      have lt : m < 8 := el m (List.mem_of_getElem? hm)
      by_cases c5 : 0 < m
      case neg =>
        rw [decide_eq_false (show ¬ (0 : Int) < ((m : Nat) : Int) by omega)]
        exact iteF (hn (decide_eq_false c5) _ fun _ _ e => e)
      rw [decide_eq_true (show (0 : Int) < ((m : Nat) : Int) by omega)]
      refine iteT ⟨_, rfl, _, _, rfl, rfl, _, _, rfl, rfl, ?_, ?_⟩
      · exact ⟨by show (0:Int) ≤ 7 - (m : Int); omega, by show (7:Int) - (m : Int) ≤ 1000000; omega, by decide⟩
      · have z := hy (decide_eq_true c5) _ fun _ _ e => e
        have ez : (1 : Int) * 2 ^ ((7 : Int) - (m : Int)).toNat = ((2 ^ (7 - m) : Nat) : Int) := by
          rw [show ((7 : Int) - (m : Int)).toNat = 7 - m by omega, Int.one_mul]
          exact (Int.natCast_pow 2 _).symm
        show R (.int ((1 : Int) * 2 ^ ((7 : Int) - (m : Int)).toNat)) H3
        rw [ez]
        exact z
    intro H2 s2 e2
    refine ⟨D2, (((ns.filter fun n => decide (0 < n)).map fun n => 2 ^ (7 - n)).map fun n : Nat => (n : Int)), rfl, ?_, ?_⟩
    · rw [List.map_map, List.map_map]
      exact SqL.of e2
    refine ⟨_, _, rfl, rfl, ?_, _, _, rfl, rfl, ?_⟩
    · exact ⟨by decide, by decide, by decide⟩
    refine q_bl (k _ (s1.trans s2)) ?_
    rw [e0]
    have es : ∀ l : List Nat, (l.map fun n : Nat => (n : Int)).sum = ((l.sum : Nat) : Int) := fun l => by
      induction l with
      | nil => rfl
      | cons x l ih => rw [List.map_cons, List.sum_cons, List.sum_cons, ih]; omega
    rw [es]
    exact decide_eq_decide.mpr (by show ((kraft ns : Nat) : Int) ≤ 1 * 2 ^ 7 ↔ _; omega)
end
end K08
namespace K08
open PySem PySem.Spec PyProof.Rows L2 PySem.W LamX KA KW KU KL KT
open Evl (pss_cut tCut)
/-! ### data small enough to be shown and compared; repr of any value -/
structure Sm (n z : Nat) (d : PyData) : Prop where
  l : d.leavesShort 13 = true
  w : d.weight ≤ n
  s : d.showable = true
  n : d.hasDict = false
  z : d.depth ≤ z
  c : d.canLay0 = true
theorem small_fits {d : PyData} (hl : d.leavesShort 13 = true) (hw : d.weight ≤ 2 ^ 20) : d.shown.length ≤ sizeLine := PyData.shown_fits (by decide) (by decide) hl hw
theorem int_small {i : Int} (h1 : -100000000000 ≤ i) (h2 : i ≤ 100000000000) : (PyData.int i).leavesShort 13 = true ∧ (PyData.int i).weight ≤ 40 ∧ (PyData.int i).showable = true := by
  have hn : i.natAbs < 2 ^ 40 := by omega
  have hl : i.natAbs.log2 ≤ 40 := by
    rcases Nat.eq_zero_or_pos i.natAbs with z | z
    · rw [z]
      decide
    · exact Nat.le_of_lt ((Nat.log2_lt (by omega)).mpr hn)
  have hl2 : i.natAbs.log2 < 40 ∨ i.natAbs = 0 := by
    rcases Nat.eq_zero_or_pos i.natAbs with z | z
    · exact .inr z
    · exact .inl ((Nat.log2_lt (by omega)).mpr hn)
  refine ⟨?_, ?_, ?_⟩
  · simp only [PyData.leavesShort, decide_eq_true_eq]
    exact PyData.shown_int_le (by omega)
  · simp only [PyData.weight]
    split
    · omega
    · rename_i c
      rcases hl2 with q | q
      · omega
      · exact absurd (by simpa using q) c
  · simp only [PyData.showable, decide_eq_true_eq]
    omega
theorem Sm.mono {n m z y : Nat} {d : PyData} (h : Sm n z d) (h1 : n ≤ m) (h2 : z ≤ y) : Sm m y d := ⟨h.l, Nat.le_trans h.w h1, h.s, h.n, Nat.le_trans h.z h2, h.c⟩
theorem sm_int {i : Int} (h1 : -100000000000 ≤ i) (h2 : i ≤ 100000000000) : Sm 40 0 (.int i) := by
  obtain ⟨a, b, c⟩ := int_small h1 h2
  exact ⟨a, b, c, rfl, Nat.le_refl _, rfl⟩
theorem sm_bool {b : Bool} : Sm 17 0 (.bool b) := ⟨rfl, Nat.zero_le _, rfl, rfl, Nat.le_refl _, rfl⟩
theorem sm_all {n z : Nat} : ∀ ds : List PyData, (∀ d ∈ ds, Sm n z d) → PyData.leavesShortAll 13 ds = true ∧ PyData.weightAll ds ≤ (n + 1) * ds.length ∧ PyData.showableAll ds = true ∧ PyData.hasDictAll ds = false ∧ PyData.depthAll ds ≤ z ∧ PyData.canLayAll0 ds = true
  | [], _ => ⟨rfl, Nat.zero_le _, rfl, rfl, Nat.zero_le _, rfl⟩
  | d :: r, h => by
    obtain ⟨a, b, c, e, f, g⟩ := sm_all r fun x hx => h x (List.mem_cons_of_mem _ hx)
    obtain ⟨a', b', c', e', f', g'⟩ := h d List.mem_cons_self
    refine ⟨by simp [PyData.leavesShortAll, a, a'], ?_, by simp [PyData.showableAll, c, c'], by simp [PyData.hasDictAll, e, e'], ?_, by simp [PyData.canLayAll0, g, g']⟩
    · simp only [PyData.weightAll, List.length_cons, Nat.mul_add, Nat.mul_one]
      omega
    · simp only [PyData.depthAll]
      omega
theorem sm_tuple {n z k : Nat} {ds : List PyData} (h : ∀ d ∈ ds, Sm n z d) (hl : ds.length ≤ k) : Sm ((n + 1) * k) (z + 1) (.tuple ds) := by
  obtain ⟨a, b, c, e, f, g⟩ := sm_all ds h
  have hk : (n + 1) * ds.length ≤ (n + 1) * k := Nat.mul_le_mul_left _ hl
  refine ⟨by simpa only [PyData.leavesShort] using a, ?_, by simpa only [PyData.showable] using c, by simpa only [PyData.hasDict] using e, ?_, by simpa only [PyData.canLay0] using g⟩
  · simp only [PyData.weight]
    omega
  · simp only [PyData.depth]
    omega
theorem sm_list {n z k : Nat} {ds : List PyData} (h : ∀ d ∈ ds, Sm n z d) (hl : ds.length ≤ k) : Sm ((n + 1) * k) (z + 1) (.list ds) := by
  obtain ⟨a, b, c, e, f, g⟩ := sm_all ds h
  have hk : (n + 1) * ds.length ≤ (n + 1) * k := Nat.mul_le_mul_left _ hl
  refine ⟨by simpa only [PyData.leavesShort] using a, ?_, by simpa only [PyData.showable] using c, by simpa only [PyData.hasDict] using e, ?_, by simpa only [PyData.canLay0] using g⟩
  · simp only [PyData.weight]
    omega
  · simp only [PyData.depth]
    omega
theorem Sm.repr {n z : Nat} {d : PyData} (h : Sm n z d) (h1 : n ≤ 2 ^ 20) (h2 : z ≤ 60) : d.showable = true ∧ d.hasDict = false ∧ d.depth ≤ 60 ∧ d.shown.length ≤ sizeLine := ⟨h.s, h.n, Nat.le_trans h.z h2, small_fits h.l (Nat.le_trans h.w h1)⟩
theorem Sm.shaped {n z : Nat} {d : PyData} (h : Sm n z d) (h2 : z ≤ 60) : SeqAt.shaped d = true := by
  unfold SeqAt.shaped
  rw [h.c, Bool.true_and, decide_eq_true_eq]
  exact Nat.le_trans h.z (Nat.le_trans h2 (by decide))
theorem dp_rl {α : Type} {K : PySem.W.Frag} {H : Hp} {f : α → List V} {g : α → PyData} (hfg : ∀ p a, H p = some (.tup (f a)) → Dp K H (.ref p) (g a)) : ∀ {us : List V} {as : List α}, RL f H us as → DpAll K H us (as.map g)
  | [], [], _ => .nil
  | [], _ :: _, r => by cases r.1
  | _ :: _, [], r => by cases r.1
  | u :: us, b :: bs, r => by
    obtain ⟨p, a, e1, e2, e3⟩ := r.get (i := 0) (v := u) rfl
    have : b = a := Option.some.inj e2
    subst this e1
    refine .cons (hfg _ _ e3) (dp_rl hfg ⟨by simpa using r.1, fun j v e => ?_⟩)
    exact r.2 (j + 1) v (by simpa using e)
/-- lots as data -/
def lotD (s : List Nat) : PyData := .tuple ((s.map fun n : Nat => (n : Int)).map PyData.int)
theorem dp_lot {K : PySem.W.Frag} {H : Hp} (p : Addr) (s : List Nat) (e : H p = some (.tup (NV s))) : Dp K H (.ref p) (lotD s) := .tup (SqT.of e) (by rw [NV_ints]; exact KA.dp_ints _)
theorem sm_lot {s : List Nat} (h1 : s.length ≤ 10) (h2 : ∀ x ∈ s, x ≤ 1000) : Sm 410 1 (lotD s) := sm_tuple (n := 40) (z := 0) (k := 10) (fun d hd => by
  obtain ⟨i, hi, rfl⟩ := List.mem_map.mp hd
  obtain ⟨n, hn, rfl⟩ := List.mem_map.mp hi
  have := h2 n hn
  exact sm_int (by omega) (by omega)) (by rw [List.length_map, List.length_map]; exact h1)
theorem lots_shaped {ls : List (List Nat)} : SeqAt.shaped (.list (ls.map lotD)) = true := by
  have all : ∀ ls : List (List Nat), PyData.canLayAll0 (ls.map lotD) = true ∧ PyData.depthAll (ls.map lotD) ≤ 1 := fun ls => by
    induction ls with
    | nil => exact ⟨rfl, Nat.zero_le _⟩
    | cons s ls ih =>
      obtain ⟨a, b⟩ := KA.lay_is (s.map fun n : Nat => (n : Int))
      refine ⟨?_, ?_⟩
      · show ((lotD s).canLay0 && PyData.canLayAll0 (ls.map lotD)) = true
        rw [ih.1, Bool.and_true]
        show PyData.canLay0 (.tuple _) = true
        simp only [PyData.canLay0]
        exact a
      · rw [List.map_cons]
        have : (lotD s).depth ≤ 1 := by
          unfold lotD
          simp only [PyData.depth]
          rw [b]
          exact Nat.le_refl _
        simp only [PyData.depthAll]
        have := ih.2
        omega
  obtain ⟨a, b⟩ := all ls
  simp [SeqAt.shaped, PyData.canLay0, PyData.depth, a]
  omega
theorem eqv_lots_nil (ls : List (List Nat)) : PyData.eqv (.list (ls.map lotD)) (.list []) = ls.isEmpty := by
  cases ls <;> rfl
end K08
namespace K08
open PySem PySem.Spec PyProof.Rows L2 PySem.W LamX KA KW KU
/-- BadStream, the error that carries the index -/
structure StreamT (P : Program) (w : World) (K : PySem.W.Frag) (mg : Str → Option Value) (R : Addr) where
  C : Addr
  fI : Addr
  cda : Addr
  cc : Addr
  e : Expr
  g : mg "BadStream" = some (.ref C)
  u : UpTxt P K C fI cda cc "BadStream.__init__" "at" e
  r : PySem.W.subIn K (.ref C) (.ref R) = some true
  x : ExcC K C
  say : ∀ (i : Int) (t : Tok), i.natAbs ≤ 1000000 → Text P w fI cda cc "BadStream.__init__" "at" e (.int i t)
theorem exd_exm {P : Program} {w : World} {K : PySem.W.Frag} {mg : Str → Option Value} (R : ReelT K mg) (S : StreamT P w K mg R.C) : PySem.W.exmOne K (.ref S.C) (.ref R.C) = some true := PySem.W.exm_ref R.b R.d R.t S.r
theorem kit_own {K : PySem.W.Frag} {C : Addr} : PySem.W.kitOne K (.ref C) (.ref C) = some true := by
  unfold PySem.W.kitOne
  rw [if_pos (by simp)]
section
variable {P : Program} {w : World} {K : PySem.W.Frag} {mg : Str → Option Value} {base : Heap} (T : Top K mg)
variable {fs : List Addr} {H0 : Hp} {h0 : Heap} {k : Nat} {f c' : Addr} {q : Str} {t : XK → Hp → VK → Prop}
def Told (K : PySem.W.Frag) (CB c' : Addr) (q : Str) (t : XK → Hp → VK → Prop) (due : V) (i : Int) (Q : VK) : VK := fun cv H1 =>
  (due = .non ∧ ∃ a d, cv = .ref a ∧ H1 a = some (ExV (.ref CB) (some d) a) ∧ H1 d = some (.xd [("at", .int i)]) ∧ Q (.bl true) H1) ∨
  (∃ (p : Addr) (x : PyData), due = .ref p ∧ cv = .non ∧ H1 c' = some (CodeO c' q) ∧ x.showable = true ∧ x.hasDict = false ∧ x.depth ≤ 60 ∧ x.shown.length ≤ sizeLine ∧
    ∀ G : VK, (∀ p2 H2, Dp K H2 (.ref p) x → Dp K H2 (.ref p2) x → Q (.bl true) H2 → G (.ref p2) H2) → t E0 H1 G)
def spDue (K : PySem.W.Frag) (CS CB f c' : Addr) (q : Str) (t : XK → Hp → VK → Prop) : Sp := fun vs H Q _ => ∃ (due : V) (i : Int), vs = [.ref f, due, .int i] ∧ H c' = some (CodeO c' q) ∧ ∀ G : VK, (∀ cv H1, Told K CB c' q t due i Q cv H1 → G cv H1) → TCaught K CS t H G
end
end K08
namespace K08
open PySem PySem.Spec PyProof.Rows L2 PySem.W LamX KA KW KU KL KT
open Evl (pss_cut tCut)
/-! ### the class of heads, its error -/
structure BadHeadT (P : Program) (w : World) (K : PySem.W.Frag) (mg : Str → Option Value) (R : Addr) where
  C : Addr
  fI : Addr
  cda : Addr
  cc : Addr
  e : Expr
  g : mg "BadHead" = some (.ref C)
  u : UpTxt P K C fI cda cc "BadHead.__init__" "part" e
  r : PySem.W.subIn K (.ref C) (.ref R) = some true
  o : PySem.W.subIn K (.ref C) (.ref C) = some true
  x : ExcC K C
  sayN : Text P w fI cda cc "BadHead.__init__" "part" e .none
  sayS : ∀ (y : Str) (t : Tok), y.length ≤ 1000 → Text P w fI cda cc "BadHead.__init__" "part" e (.str y t)
structure HeadT (K : PySem.W.Frag) (mg : Str → Option Value) where
  C : Addr
  f : Addr
  d : FuncData
  F : Fun K "__init__" "Head.__init__" s_Head_init f d
  M : Mk K C f
  g : mg "Head" = some (.ref C)
  i : C8.InsC K C
  n1 : NoAttr K C "kind"
  n2 : NoAttr K C "loss"
  n3 : NoAttr K C "grade"
  n4 : NoAttr K C "reach"
  n5 : NoAttr K C "book"
  kI : PySem.W.kitOne K (.type "int") (.ref C) = some false
  kS : PySem.W.kitOne K (.type "str") (.ref C) = some false
  kN : PySem.W.kitOne K (.type "NoneType") (.ref C) = some false
  kT : PySem.W.kitOne K (.type "tuple") (.ref C) = some false
def headFs (kd lo gr re : Int) (b : Addr) : List (Str × V) := [("kind", .int kd), ("loss", .int lo), ("grade", .int gr), ("reach", .int re), ("book", .ref b)]
/-- a head as it stands -/
structure Hdv where
  kd : Int
  lo : Int
  gr : Int
  re : Int
  ns : List Nat
deriving DecidableEq
/-- x is a head with these parts -/
def Hd (C : Addr) (H : Hp) (x : V) (h : Hdv) : Prop := ∃ (a dx b : Addr), x = .ref a ∧ H a = some (.ins C dx (headFs h.kd h.lo h.gr h.re b)) ∧ H b = some (.tup (NV h.ns)) ∧ h.ns.length ≤ 1000
theorem Hd.keep {C : Addr} {H H' : Hp} {x : V} {h : Hdv} (p : Hd C H x h) (s : Same H H') : Hd C H' x h := by
  obtain ⟨a, dx, b, rfl, e1, e2, l⟩ := p
  exact ⟨a, dx, b, rfl, s _ _ e1, s _ _ e2, l⟩
/-- no head, and of a kind that isinstance tells -/
inductive OddH (H : Hp) : V → Prop where
  | int (i : Int) : OddH H (.int i)
  | str (s : Str) : OddH H (.str s)
  | non : OddH H .non
  | tup {a : Addr} {xs : List V} (e : H a = some (.tup xs)) : OddH H (.ref a)
theorem OddH.ty {K : PySem.W.Frag} {mg : Str → Option Value} {H : Hp} {x : V} (S : HeadT K mg) (h : OddH H x) : ∃ t, TyX K H x t ∧ PySem.W.kitOne K t (.ref S.C) = some false := by
  cases h with
  | int i => exact ⟨_, .base (.int i), S.kI⟩
  | str i => exact ⟨_, .base (.str i), S.kS⟩
  | non => exact ⟨_, .base .non, S.kN⟩
  | tup e => exact ⟨_, .base (.tup e), S.kT⟩
theorem Hd.ty {K : PySem.W.Frag} {mg : Str → Option Value} {H : Hp} {x : V} {h : Hdv} (S : HeadT K mg) (p : Hd S.C H x h) : TyX K H x (.ref S.C) := by
  obtain ⟨a, dx, b, rfl, h1, _⟩ := p
  exact .base (.ins h1 S.i.cl S.i.ha S.i.hn S.i.htk S.i.hm)
def partErr (CB : Addr) (H : Hp) (E : XK) (p : V) : Prop := ∀ d, H d = none → E (.ref CB) (some d) (upd H d (.xd [("part", p)]))
def spCheckH (C CB : Addr) : Sp := fun vs H Q E => ∃ x, vs = [x] ∧ ((∃ h, Hd C H x h ∧ Q .non H) ∨ (OddH H x ∧ partErr CB H E .non))
def spInit (K : PySem.W.Frag) (C CB : Addr) : Sp := fun vs H Q E => ∃ (a dx : Addr) (x1 x2 x3 x4 x5 : V) (b1 b2 b3 b4 : Bool) (o : Option (List V)), vs = [.ref a, x1, x2, x3, x4, x5] ∧ Pl K H x1 b1 ∧ Pl K H x2 b2 ∧ Pl K H x3 b3 ∧ Pl K H x4 b4 ∧ Rv K H x5 o ∧ H a = some (.ins C dx []) ∧
  (within x1 0 2 = false → partErr CB H E (.str "kind")) ∧ ∀ kd, x1 = .int kd → 0 ≤ kd → kd ≤ 2 →
  (within x2 0 7 = false → partErr CB H E (.str "loss")) ∧ ∀ lo, x2 = .int lo → 0 ≤ lo → lo ≤ 7 →
  (within x3 0 7 = false → partErr CB H E (.str "grade")) ∧ ∀ gr, x3 = .int gr → 0 ≤ gr → gr ≤ 7 →
  (within x4 0 4 = false → partErr CB H E (.str "reach")) ∧ ∀ re, x4 = .int re → 0 ≤ re → re ≤ 4 →
  ∀ H1, Same H H1 → (bookB kd o = false → partErr CB H1 E (.str "book")) ∧ ∀ b ns, x5 = .ref b → o = some (NV ns) → bookB kd o = true → H1 b = some (.tup (NV ns)) →
  ∀ H', H' a = some (.ins C dx (headFs kd lo gr re b)) → (∀ c, c ≠ a → H' c = H1 c) → Q .non H'
/-- what a head is held against -/
inductive Ag (C : Addr) (H : Hp) (h : Hdv) : V → Bool → Prop where
  | hd {y : V} {g : Hdv} (p : Hd C H y g) : Ag C H h y (decide (h = g))
  | tup {a : Addr} {xs : List V} (e : H a = some (.tup xs)) : Ag C H h (.ref a) false
def spEqH (C : Addr) : Sp := fun vs H Q _ => ∃ x y b h, vs = [x, y] ∧ Hd C H x h ∧ Ag C H h y b ∧ Q (.bl b) H
structure HeadQ (K : PySem.W.Frag) (mg : Str → Option Value) (S : HeadT K mg) where
  f : Addr
  d : FuncData
  F : Fun K "__eq__" "Head.__eq__" s_Head_eq f d
  s : PySem.W.findIn K (.ref S.C) "__eq__" = some (some (.ref f))
  i : PySem.W.isFn K (.ref f) = true
  n : PySem.W.findIn K (.ref S.C) "__ne__" = some (some (.builtin "object.__ne__"))
  o : PySem.W.mroIn K S.C (.type "object") = some true
  sT : PySem.W.subIn K (.type "tuple") (.ref S.C) = some false
theorem book_nv {kd : Int} {o : Option (List V)} (h : bookB kd o = true) : ∃ ns, o = some (NV ns) ∧ ns.length = 8 ∧ (∀ n ∈ ns, n < 8) ∧ leftB kd ns = false ∧ kraft ns ≤ 128 := by
  cases o with
  | none => cases h
  | some xs =>
    have h : (decide (xs.length = 8) && sevB xs && (!leftB kd (xs.map natOf) && decide (kraft (xs.map natOf) ≤ 128))) = true := h
    rw [Bool.and_eq_true, Bool.and_eq_true, Bool.and_eq_true, decide_eq_true_eq, decide_eq_true_eq] at h
    obtain ⟨⟨h1, h2⟩, h3, h4⟩ := h
    obtain ⟨e1, e2⟩ := seven_nv h2
    refine ⟨xs.map natOf, congrArg some e1, by rw [List.length_map]; exact h1, e2, ?_, h4⟩
    cases c : leftB kd (xs.map natOf) with
    | false => rfl
    | true => rw [c] at h3; cases h3
section
variable {P : Program} {w : World} {K : PySem.W.Frag} {mg : Str → Option Value} {base : Heap} (T : Top K mg) (MD : ModesT K mg) (HD : HeadT K mg) (BH : BadHeadT P w K mg T.reel.C) (HQ : HeadQ K mg HD)
theorem ok_check_head : FnOk P w K mg base (L2.CX P w) 4 T.check_head.a T.check_head.d ["head"] (spCheckH HD.C BH.C) := by
  refine T.check_head.f.okX sc_check_head (fun vs H Q E h => ?_) (fun cdv A outer s H vs Q E hr h => ?_)
  · obtain ⟨x, rfl, _⟩ := h
    rfl
  · obtain ⟨x, rfl, h⟩ := h
    refine ⟨_, (pss_one (ps_if (pt_not (pt_val (pe_callB call_isi (by rfl) T.b_isinstance PyProof.Rows.boot_isinstance (pa_cons (pv 0) (pa_cons (pe_glob (v := .ref HD.C) (by rfl) HD.g rfl) pa_nil))))) (pss_one (ps_raiseUp rfl BH.u BH.g hr (takes_of rfl rfl rfl rfl) (pa_cons pe_non pa_nil) (by rfl))) pss_nil)), ?_⟩
    rcases h with ⟨hv, hs, k⟩ | ⟨ho, k⟩
    · exact ⟨_, rfl, x, _, _, _, true, rfl, .own _, hs.ty HD, HD.i.me, _, rfl, iteF k⟩
    · obtain ⟨t, ht, hk⟩ := ho.ty (H := H) HD
      refine ⟨_, rfl, x, _, _, _, false, rfl, .own _, ht, hk, _, rfl, iteT ⟨_, rfl, fun v' r => ?_, k⟩⟩
      cases r
      exact BH.sayN
include T BH MD in
theorem ok_init : FnOk P w K mg base (L2.CX P w) 5 HD.f HD.d ["self", "kind", "loss", "grade", "reach", "book"] (spInit K HD.C BH.C) := by
  refine HD.F.okX sc_Head_init (fun vs H Q E h => ?_) (fun cdv A outer s H vs Q E hr h => ?_)
  · obtain ⟨a, dx, x1, x2, x3, x4, x5, _, _, _, _, _, rfl, _⟩ := h
    rfl
  · obtain ⟨a, dx, x1, x2, x3, x4, x5, b1, b2, b3, b4, o, rfl, p1, p2, p3, p4, p5, ha, e1, k1⟩ := h
    refine ⟨_, (pss_cons (ps_if (pt_not (pt_val (pe_call (ok_is_within T) (hr.mono (by decide)) (by rfl) T.is_within.m T.is_within.f.kp (bd_is_within T) .nil passE (pa_cons (pv 1) (pa_cons pe_int (pa_cons pe_int pa_nil)))))) (pss_one (ps_raiseUp rfl BH.u BH.g hr (takes_of rfl rfl rfl rfl) (pa_cons pe_str pa_nil) (by rfl))) pss_nil)
      (pss_cons (ps_if (pt_not (pt_val (pe_call (ok_is_within T) (hr.mono (by decide)) (by rfl) T.is_within.m T.is_within.f.kp (bd_is_within T) .nil passE (pa_cons (pv 2) (pa_cons pe_int (pa_cons pe_int pa_nil)))))) (pss_one (ps_raiseUp rfl BH.u BH.g hr (takes_of rfl rfl rfl rfl) (pa_cons pe_str pa_nil) (by rfl))) pss_nil)
      (pss_cons (ps_if (pt_not (pt_val (pe_call (ok_is_within T) (hr.mono (by decide)) (by rfl) T.is_within.m T.is_within.f.kp (bd_is_within T) .nil passE (pa_cons (pv 3) (pa_cons pe_int (pa_cons pe_int pa_nil)))))) (pss_one (ps_raiseUp rfl BH.u BH.g hr (takes_of rfl rfl rfl rfl) (pa_cons pe_str pa_nil) (by rfl))) pss_nil)
      (pss_cons (ps_if (pt_not (pt_val (pe_call (ok_is_within T) (hr.mono (by decide)) (by rfl) T.is_within.m T.is_within.f.kp (bd_is_within T) .nil passE (pa_cons (pv 4) (pa_cons pe_int (pa_cons pe_int pa_nil)))))) (pss_one (ps_raiseUp rfl BH.u BH.g hr (takes_of rfl rfl rfl rfl) (pa_cons pe_str pa_nil) (by rfl))) pss_nil)
      (pss_cons (ps_if (pt_not (pt_val (pe_call (ok_is_book T MD) (hr.mono (by decide)) (by rfl) T.is_book.m T.is_book.f.kp (bd_is_book T) .nil passE (pa_cons (pv 1) (pa_cons (pv 5) pa_nil))))) (pss_one (ps_raiseUp rfl BH.u BH.g hr (takes_of rfl rfl rfl rfl) (pa_cons pe_str pa_nil) (by rfl))) pss_nil)
      (pss_cons (ps_fld (pv 0) (pv 1) rfl)
      (pss_cons (ps_fld (pv 0) (pv 2) rfl)
      (pss_cons (ps_fld (pv 0) (pv 3) rfl)
      (pss_cons (ps_fld (pv 0) (pv 4) rfl)
      (pss_one (ps_fld (pv 0) (pv 5) rfl))))))))))), ?_⟩
    refine ⟨_, rfl, _, b1, _, _, rfl, p1, _, rfl, iteNot (fun q => ?_) fun q => ?_⟩
    · refine ⟨_, rfl, fun v' r => ?_, e1 q⟩
      obtain ⟨t, rfl⟩ := r
      exact BH.sayS _ t (by decide)
    obtain ⟨kd, rfl, h1, h2⟩ := within_int q
    obtain ⟨e2, k2⟩ := k1 kd rfl h1 h2
    refine ⟨_, rfl, _, b2, _, _, rfl, p2, _, rfl, iteNot (fun q => ?_) fun q => ?_⟩
    · refine ⟨_, rfl, fun v' r => ?_, e2 q⟩
      obtain ⟨t, rfl⟩ := r
      exact BH.sayS _ t (by decide)
    obtain ⟨lo, rfl, h3, h4⟩ := within_int q
    obtain ⟨e3, k3⟩ := k2 lo rfl h3 h4
    refine ⟨_, rfl, _, b3, _, _, rfl, p3, _, rfl, iteNot (fun q => ?_) fun q => ?_⟩
    · refine ⟨_, rfl, fun v' r => ?_, e3 q⟩
      obtain ⟨t, rfl⟩ := r
      exact BH.sayS _ t (by decide)
    obtain ⟨gr, rfl, h5, h6⟩ := within_int q
    obtain ⟨e4, k4⟩ := k3 gr rfl h5 h6
    refine ⟨_, rfl, _, b4, _, _, rfl, p4, _, rfl, iteNot (fun q => ?_) fun q => ?_⟩
    · refine ⟨_, rfl, fun v' r => ?_, e4 q⟩
      obtain ⟨t, rfl⟩ := r
      exact BH.sayS _ t (by decide)
    obtain ⟨re, rfl, h7, h8⟩ := within_int q
    have k5 := k4 re rfl h7 h8
    refine ⟨_, rfl, _, rfl, x5, o, kd, rfl, p5, fun H1 s1 => ⟨_, rfl, iteNot (fun q => ?_) fun q => ?_⟩⟩
    · refine ⟨_, rfl, fun v' r => ?_, (k5 H1 s1).1 q⟩
      obtain ⟨t, rfl⟩ := r
      exact BH.sayS _ t (by decide)
    have k6 := (k5 H1 s1).2
    obtain ⟨ns, rfl, l8, _⟩ := book_nv q
    cases p5 with
    | @tup b xs eb pb lb =>
    have k7 := k6 b ns rfl rfl q (s1 _ _ eb)
    refine ⟨_, rfl, _, rfl, a, HD.C, dx, [], rfl, s1 _ _ ha, HD.i.cl, HD.n1, by decide, _, rfl, _, rfl, a, HD.C, dx, _, rfl, upd_same, HD.i.cl, HD.n2, (by show 1 < 1000; decide), _, rfl, _, rfl, a, HD.C, dx, _, rfl, upd_same, HD.i.cl, HD.n3, (by show 2 < 1000; decide),
      _, rfl, _, rfl, a, HD.C, dx, _, rfl, upd_same, HD.i.cl, HD.n4, (by show 3 < 1000; decide), _, rfl, _, rfl, a, HD.C, dx, _, rfl, upd_same, HD.i.cl, HD.n5, (by show 4 < 1000; decide), ?_⟩
    refine k7 _ upd_same fun b hb => ?_
    rw [upd_ne hb, upd_ne hb, upd_ne hb, upd_ne hb, upd_ne hb]
theorem eqvAll_ints : ∀ a b : List Int, PyData.eqvAll (a.map PyData.int) (b.map PyData.int) = decide (a = b)
  | [], [] => rfl
  | [], _ :: _ => rfl
  | _ :: _, [] => rfl
  | x :: a, y :: b => by
    rw [List.map_cons, List.map_cons]
    have ih := eqvAll_ints a b
    simp only [PyData.eqvAll, ih]
    show ((x == y) && decide (a = b)) = _
    rw [Bool.eq_iff_iff, Bool.and_eq_true, beq_iff_eq, decide_eq_true_eq, decide_eq_true_eq, List.cons.injEq]
theorem nats_inj : ∀ {a b : List Nat}, (a.map fun n : Nat => (n : Int)) = b.map (fun n : Nat => (n : Int)) → a = b
  | [], [], _ => rfl
  | [], _ :: _, h => nomatch h
  | _ :: _, [], h => nomatch h
  | x :: a, y :: b, h => by
    rw [List.map_cons, List.map_cons, List.cons.injEq] at h
    rw [nats_inj h.2, Int.ofNat_inj.mp h.1]
theorem eqv_lotD (a b : List Nat) : PyData.eqv (lotD a) (lotD b) = decide (a = b) := by
  unfold lotD
  simp only [PyData.eqv, eqvAll_ints]
  exact decide_eq_decide.mpr ⟨nats_inj, fun e => by rw [e]⟩
theorem lot_shaped (s : List Nat) : SeqAt.shaped (lotD s) = true := by
  obtain ⟨a, b⟩ := KA.lay_is (s.map fun n : Nat => (n : Int))
  have h1 : (lotD s).canLay0 = true := by
    show PyData.canLay0 (.tuple _) = true
    simp only [PyData.canLay0]
    exact a
  have h2 : (lotD s).depth ≤ 1 := by
    unfold lotD
    simp only [PyData.depth]
    rw [b]
    exact Nat.le_refl _
  simp [SeqAt.shaped, h1]
  omega
include T in
theorem ok_eq : FnOk P w K mg base (L2.CX P w) 1 HQ.f HQ.d ["self", "other"] (spEqH HD.C) := by
  refine HQ.F.okX sc_Head_eq (fun vs H Q E h => ?_) (fun cdv A outer s H vs Q E hr h => ?_)
  · obtain ⟨x, y, _, _, rfl, _⟩ := h
    rfl
  · obtain ⟨x, y, b, ⟨k1, k2, k3, k4, ns⟩, rfl, ⟨a, dx, c, rfl, ha, hc, lc⟩, ag, k⟩ := h
    refine ⟨_, (pss_one (ps_ret (pe_and (pe_callB call_isi (by rfl) T.b_isinstance PyProof.Rows.boot_isinstance (pa_cons (pv 1) (pa_cons (pe_glob (v := .ref HD.C) (by rfl) HD.g rfl) pa_nil))) (pe_and (pe_cmpR op_eq (pe_fld (pv 0) rfl) (pe_fld (pv 1) rfl) (nomark _)) (pe_and (pe_cmpR op_eq (pe_fld (pv 0) rfl) (pe_fld (pv 1) rfl) (nomark _)) (pe_and (pe_cmpR op_eq (pe_fld (pv 0) rfl) (pe_fld (pv 1) rfl) (nomark _)) (pe_and (pe_cmpR op_eq (pe_fld (pv 0) rfl) (pe_fld (pv 1) rfl) (nomark _)) (pe_one (pe_cmpR (op_eqD hr.units) (pe_fld (pv 0) rfl) (pe_fld (pv 1) rfl) (nomark _)))))))))), ?_⟩
    cases ag with
    | tup e => exact ⟨_, rfl, _, _, _, _, false, rfl, .own _, .base (.tup e), HD.kT, _, rfl, iteF k⟩
    | hd p =>
      rename_i g
      obtain ⟨g1, g2, g3, g4, ms⟩ := g
      obtain ⟨b, dy, e, rfl, hb, he, le⟩ := p
      refine ⟨_, rfl, _, _, _, _, true, rfl, .own _, .base (.ins hb HD.i.cl HD.i.ha HD.i.hn HD.i.htk HD.i.hm), HD.i.me, _, rfl, iteT ?_⟩
      have sc : ∀ i j : Int, decide (V.int i = V.int j) = decide (i = j) := fun i j => decide_eq_decide.mpr ⟨fun z => V.int.inj z, fun z => by rw [z]⟩
      refine ⟨_, rfl, a, HD.C, dx, _, _, rfl, ha, HD.i.cl, HD.n1, rfl, _, rfl, b, HD.C, dy, _, _, rfl, hb, HD.i.cl, HD.n1, rfl, rfl, _, rfl, ?_⟩
      rw [sc]
      by_cases c1 : k1 = g1
      case neg => rw [decide_eq_false c1]; exact iteF (q_bl k (by simp [c1]))
      rw [decide_eq_true c1]
      refine iteT ⟨_, rfl, a, HD.C, dx, _, _, rfl, ha, HD.i.cl, HD.n2, rfl, _, rfl, b, HD.C, dy, _, _, rfl, hb, HD.i.cl, HD.n2, rfl, rfl, _, rfl, ?_⟩
      rw [sc]
      by_cases c2 : k2 = g2
      case neg => rw [decide_eq_false c2]; exact iteF (q_bl k (by simp [c2]))
      rw [decide_eq_true c2]
      refine iteT ⟨_, rfl, a, HD.C, dx, _, _, rfl, ha, HD.i.cl, HD.n3, rfl, _, rfl, b, HD.C, dy, _, _, rfl, hb, HD.i.cl, HD.n3, rfl, rfl, _, rfl, ?_⟩
      rw [sc]
      by_cases c3 : k3 = g3
      case neg => rw [decide_eq_false c3]; exact iteF (q_bl k (by simp [c3]))
      rw [decide_eq_true c3]
      refine iteT ⟨_, rfl, a, HD.C, dx, _, _, rfl, ha, HD.i.cl, HD.n4, rfl, _, rfl, b, HD.C, dy, _, _, rfl, hb, HD.i.cl, HD.n4, rfl, rfl, _, rfl, ?_⟩
      rw [sc]
      by_cases c4 : k4 = g4
      case neg => rw [decide_eq_false c4]; exact iteF (q_bl k (by simp [c4]))
      rw [decide_eq_true c4]
      refine iteT ⟨_, rfl, a, HD.C, dx, _, _, rfl, ha, HD.i.cl, HD.n5, rfl, _, rfl, b, HD.C, dy, _, _, rfl, hb, HD.i.cl, HD.n5, rfl, _, _, dp_lot c ns hc, dp_lot e ms he, lot_shaped _, lot_shaped _, ?_⟩
      rw [eqv_lotD]
      exact q_bl k (by simp [c1, c2, c3, c4])
end
end K08
namespace K08
open PySem PySem.Spec PyProof.Rows L2 PySem.W LamX KA KW KU KL KT
open Evl (pss_cut tCut)
/-! ### the bits of a head -/
def txt (l : List Nat) : Str := ⟨l.toArray⟩
theorem txt_app (a b : List Nat) : txt a ++ txt b = txt (a ++ b) := by
  show (⟨_⟩ : Str) = ⟨_⟩
  simp [txt]
theorem txt_len (a : List Nat) : (txt a).length = a.length := by simp [txt, Str.length]
theorem twosT_txt (m n : Nat) : twosT m n = txt (bitsL m n) := rfl
def headL (h : Hdv) : List Nat := bitsL 2 h.kd.toNat ++ ((h.lo.toNat :: h.gr.toNat :: h.re.toNat :: h.ns).flatMap (bitsL 3))
structure Hok (h : Hdv) : Prop where
  k0 : 0 ≤ h.kd
  k1 : h.kd ≤ 2
  l0 : 0 ≤ h.lo
  l1 : h.lo ≤ 7
  g0 : 0 ≤ h.gr
  g1 : h.gr ≤ 7
  r0 : 0 ≤ h.re
  r1 : h.re ≤ 4
  b : bookB h.kd (some (NV h.ns)) = true
theorem nv_inj : ∀ {a b : List Nat}, NV a = NV b → a = b
  | [], [], _ => rfl
  | [], _ :: _, h => nomatch h
  | _ :: _, [], h => nomatch h
  | x :: a, y :: b, h => by
    have h : V.int (x : Int) :: NV a = V.int (y : Int) :: NV b := h
    rw [List.cons.injEq] at h
    rw [nv_inj h.2, Int.ofNat_inj.mp (V.int.inj h.1)]
theorem Hok.eight {h : Hdv} (o : Hok h) : h.ns.length = 8 ∧ (∀ n ∈ h.ns, n < 8) ∧ leftB h.kd h.ns = false ∧ kraft h.ns ≤ 128 := by
  obtain ⟨ns, e, l, q⟩ := book_nv o.b
  have e := nv_inj (Option.some.inj e)
  subst e
  exact ⟨l, q⟩
theorem headL_len {h : Hdv} (o : Hok h) : (headL h).length = 35 := by
  have e : ∀ l : List Nat, (l.flatMap (bitsL 3)).length = 3 * l.length := fun l => by
    induction l with
    | nil => rfl
    | cons x l ih => rw [List.flatMap_cons, List.length_append, ih, bitsL_len, List.length_cons]; omega
  unfold headL
  rw [List.length_append, bitsL_len, e]
  have := o.eight.1
  simp only [List.length_cons]
  omega
theorem join_txt : ∀ ls : List (List Nat), Txt.join "" (ls.map txt) = txt ls.flatten := by
  intro ls
  have key : ∀ (l : List (List Nat)) (acc : List Nat), ((l.map txt).foldl (fun acc p => acc ++ ("" : Str).cps ++ p.cps) acc.toArray) = (acc ++ l.flatten).toArray := by
    intro l
    induction l with
    | nil => intro acc; rw [List.flatten_nil, List.append_nil]; rfl
    | cons y r ih =>
      intro acc
      rw [List.map_cons, List.foldl_cons]
      have e : acc.toArray ++ ("" : Str).cps ++ (txt y).cps = (acc ++ y).toArray := by
        have e0 : ("" : Str).cps = #[] := rfl
        rw [e0, Array.append_empty]
        show acc.toArray ++ y.toArray = _
        simp
      rw [e, ih, List.flatten_cons, List.append_assoc]
  unfold Txt.join Builtin.Str.glued
  cases ls with
  | nil => exact congrArg Str.mk (key [] [])
  | cons y r => exact congrArg Str.mk (key r y)
theorem sum_len : ∀ ms : List Nat, ((ms.map fun n => txt (bitsL 3 n)).map (·.length)).sum = 3 * ms.length
  | [] => rfl
  | m :: ms => by
    rw [List.map_cons, List.map_cons, List.sum_cons, sum_len ms, txt_len, bitsL_len, List.length_cons]
    omega
theorem join_bits (ms : List Nat) : Txt.join "" (ms.map fun n => txt (bitsL 3 n)) = txt (ms.flatMap (bitsL 3)) := by
  rw [show (ms.map fun n => txt (bitsL 3 n)) = (ms.map (bitsL 3)).map txt by rw [List.map_map]; rfl, join_txt, ← List.flatMap_def]
def spHeadBits (C CB : Addr) : Sp := fun vs H Q E => ∃ x, vs = [x] ∧ ((∃ h, Hd C H x h ∧ Hok h ∧ ∀ H', Same H H' → Q (.str (txt (headL h))) H') ∨ (OddH H x ∧ partErr CB H E .non))
theorem inB_txt {m n : Nat} (hm : 0 < m) (h : n < 2 ^ m) : inBits (n : Int) (m : Int) = txt (bitsL m n) := by
  unfold inBits
  rw [if_neg (by omega)]
  exact zfill_bin hm h
theorem bin_short {n : Nat} (h : n < 2 ^ 7) : (binText n).length ≤ 100 := by
  rw [binText_len]
  exact Nat.le_trans (binL_le 7 n (by decide) h) (by decide)
section
variable {P : Program} {w : World} {K : PySem.W.Frag} {mg : Str → Option Value} {base : Heap} (T : Top K mg) (MD : ModesT K mg) (HD : HeadT K mg) (BH : BadHeadT P w K mg T.reel.C) (HQ : HeadQ K mg HD)
theorem ok_in_bits : FnOk P w K mg base (L2.CX P w) 1 T.in_bits.a T.in_bits.d ["number", "many"] spInBits := by
  refine T.in_bits.f.okX sc_in_bits (fun vs H Q E h => ?_) (fun cdv A outer s H vs Q E hr h => ?_)
  · obtain ⟨n, m, rfl, _⟩ := h
    rfl
  · obtain ⟨n, m, rfl, h0, hl, hm0, hm, k⟩ := h
    refine ⟨_, pss_one (ps_ret (pe_ifExp (pt_truth (pv 1) (by intro _; rfl))
      (pe_bm PySem.F.plainAttrs_str PySem.F.slot_str_zfill PySem.F.type_str_zfill mt_zfill (pe_joined1 (pe_fmtB (pv 0))) (pa_cons (pv 1) pa_nil)) pe_str)), ?_⟩
    refine ⟨_, rfl, _, rfl, ?_⟩
    cases h : (m != 0)
    · refine iteF ?_
      exact q_str k (by simp only [bne_eq_false_iff_eq] at h; simp [inBits, h])
    · refine iteT ⟨_, rfl, n, rfl, h0, Nat.le_trans hl (by decide), ?_⟩
      have h : m ≠ 0 := by simpa using h
      refine ⟨rfl, _, rfl, _, _, rfl, rfl, padOk hm0 hm, ?_⟩
      exact q_str k (by simp [inBits, h])
theorem ok_head_bits : FnOk P w K mg base (L2.CX P w) 5 T.head_bits.a T.head_bits.d ["head"] (spHeadBits HD.C BH.C) := by
  refine T.head_bits.f.okX sc_head_bits (fun vs H Q E h => ?_) (fun cdv A outer s H vs Q E hr h => ?_)
  · obtain ⟨x, rfl, _⟩ := h
    rfl
  · obtain ⟨x, rfl, h⟩ := h
    obtain ⟨tK, hcK⟩ := T.cBITS_OF_KIND
    obtain ⟨tP, hcP⟩ := T.cBITS_OF_PART
    refine ⟨_, (pss_cons (ps_expr (pe_call (ok_check_head T HD BH) (hr.mono (by decide)) (by rfl) T.check_head.m T.check_head.f.kp (bd_check_head T) .nil (passX rfl rfl rfl rfl) (pa_cons (pv 0) pa_nil)))
      (pss_cons (ps_set (i := 1) sc_head_bits.nd rfl (by first | exact .inl rfl | exact .inr rfl) (pe_op op_cat (pe_lst (pa_cons (pe_fld (pv 0) rfl) (pa_cons (pe_fld (pv 0) rfl) (pa_cons (pe_fld (pv 0) rfl) pa_nil)))) (pe_callTy call_list_of (by rfl) T.b_list (by decide +kernel) (pa_cons (pe_fld (pv 0) rfl) pa_nil))))
      (pss_one (ps_ret (pe_op op_add_str (pe_call (ok_in_bits T) (hr.mono (by decide)) (by rfl) T.in_bits.m T.in_bits.f.kp (bd_in_bits T) .nil passE (pa_cons (pe_fld (pv 0) rfl) (pa_cons (pe_glob (v := .int 2) (by rfl) hcK ⟨_, rfl⟩) pa_nil))) (pe_join pe_str (pe_lc (own := [("part", 2)]) (g := (gName 2)) (tt := tYes) rfl sc_head_bits.nd (pi_list (pv 1)) (blkOk_by (own := [("part", 2)]) (N := ["head", "parts", "part"]) (sc := defScope s_head_bits) (by decide +kernel)) (fun _ _ _ _ _ => pg_name (i := 2) sc_head_bits.nd rfl (by first | exact .inl rfl | exact .inr rfl)) (fun _ _ _ _ _ => pts_nil) (fun _ _ _ _ _ => (pe_call (ok_in_bits T) (hr.mono (by decide)) (by rfl) T.in_bits.m T.in_bits.f.kp (bd_in_bits T) .nil passE (pa_cons (pv 2) (pa_cons (pe_glob (v := .int 3) (by rfl) hcP ⟨_, rfl⟩) pa_nil))))))))))), ?_⟩
    rcases h with ⟨hv, hs, ho, k⟩ | ⟨ho, k⟩
    case inr => exact ⟨_, rfl, x, rfl, .inr ⟨ho, k⟩⟩
    refine ⟨_, rfl, x, rfl, .inl ⟨hv, hs, ?_⟩⟩
    obtain ⟨l8, s8, _⟩ := ho.eight
    obtain ⟨a, dx, b, rfl, ha, hb, hl⟩ := hs
    refine ⟨_, rfl, a, HD.C, dx, _, _, rfl, ha, HD.i.cl, HD.n2, rfl, _, rfl, a, HD.C, dx, _, _, rfl, ha, HD.i.cl, HD.n3, rfl, _, rfl, a, HD.C, dx, _, _, rfl, ha, HD.i.cl, HD.n4, rfl, (by show 3 ≤ sizeLine; decide), fun l hl => ?_⟩
    have tl := Same.new (o := .lst [V.int hv.lo, .int hv.gr, .int hv.re]) hl
    refine ⟨_, rfl, a, HD.C, dx, _, _, rfl, tl _ _ ha, HD.i.cl, HD.n5, rfl, b, _, rfl, .inr (SqT.of (tl _ _ hb)), fun l2 hl2 => ?_⟩
    have t2 := Same.new (o := .lst (NV hv.ns)) hl2
    refine ⟨l, l2, _, _, rfl, rfl, t2 _ _ upd_same, upd_same, (by show 3 + (NV hv.ns).length ≤ sizeLine; rw [NV_len, l8]; decide), fun p hp => ?_⟩
    have ts := (tl.trans t2).trans (Same.new (o := .lst ([V.int hv.lo, .int hv.gr, .int hv.re] ++ NV hv.ns)) hp)
    have ep : [V.int hv.lo, .int hv.gr, .int hv.re] ++ NV hv.ns = NV (hv.lo.toNat :: hv.gr.toNat :: hv.re.toNat :: hv.ns) := by
      show V.int hv.lo :: V.int hv.gr :: V.int hv.re :: NV hv.ns = V.int (hv.lo.toNat : Int) :: V.int (hv.gr.toNat : Int) :: V.int (hv.re.toNat : Int) :: NV hv.ns
      rw [Int.toNat_of_nonneg ho.l0, Int.toNat_of_nonneg ho.g0, Int.toNat_of_nonneg ho.r0]
    have e3 : (upd (upd (upd H l (.lst [V.int hv.lo, .int hv.gr, .int hv.re])) l2 (.lst (NV hv.ns))) p (.lst ([V.int hv.lo, .int hv.gr, .int hv.re] ++ NV hv.ns))) p = some (.lst (NV (hv.lo.toNat :: hv.gr.toNat :: hv.re.toNat :: hv.ns))) := by rw [upd_same, ep]
    have s9 : ∀ n ∈ hv.lo.toNat :: hv.gr.toNat :: hv.re.toNat :: hv.ns, n < 8 := fun n hn => by
      obtain ⟨_, _, l0, l1, g0, g1, r0, r1, _⟩ := ho
      rcases List.mem_cons.mp hn with rfl | hn
      · omega
      rcases List.mem_cons.mp hn with rfl | hn
      · omega
      rcases List.mem_cons.mp hn with rfl | hn
      · omega
      exact s8 n hn
    have l11 : (hv.lo.toNat :: hv.gr.toNat :: hv.re.toNat :: hv.ns).length = 11 := by simp only [List.length_cons, l8]
    have eh : headL hv = bitsL 2 hv.kd.toNat ++ (hv.lo.toNat :: hv.gr.toNat :: hv.re.toNat :: hv.ns).flatMap (bitsL 3) := rfl
    generalize hv.lo.toNat :: hv.gr.toNat :: hv.re.toNat :: hv.ns = ms at e3 s9 l11 eh
    clear ep
    generalize upd (upd (upd H l (.lst [V.int hv.lo, .int hv.gr, .int hv.re])) l2 (.lst (NV hv.ns))) p (.lst ([V.int hv.lo, .int hv.gr, .int hv.re] ++ NV hv.ns)) = H3 at e3 ts
    have ek : (hv.kd.toNat : Int) = hv.kd := Int.toNat_of_nonneg ho.k0
    have k3 : hv.kd.toNat < 2 ^ 2 := by have := ho.k0; have := ho.k1; omega
    refine ⟨_, rfl, a, HD.C, dx, _, _, rfl, ts _ _ ha, HD.i.cl, HD.n1, rfl, hv.kd, 2, rfl, ho.k0, ?_, by decide, by decide, ?_⟩
    · exact bin_short (by have := ho.k0; have := ho.k1; omega)
    refine ⟨⟨_, rfl⟩, _, rfl, p, rfl, ⟨_, SqL.of e3⟩, fun D hD => ?_⟩
    refine lcP (walk_list (xs := NV ms)) ms (fun _ => true) (fun n => V.str (txt (bitsL 3 n))) (NV_len ms) hD (fun H' s => SqL.of (s _ _ e3)) (by omega) yAt_same ?_ ?_
    · rintro i x m H2 H4 N R hm s2 ⟨rfl, hx⟩ hy hn
      rw [NV_get hm] at hx
      cases hx
      have lt := s9 m (List.mem_of_getElem? hm)
      refine ⟨rfl, ?_⟩
      dsimp only [tYes]
      rw [if_pos rfl]
      refine ⟨_, rfl, _, 3, rfl, by omega, ?_, by decide, by decide, ?_⟩
      · exact bin_short (by omega)
      · have z := hy rfl _ fun _ _ e => e
        rw [← inB_txt (m := 3) (by decide) lt] at z
        exact z
    intro H4 s4 e4
    rw [filter_yes] at e4
    refine ⟨"", D, ms.map fun n => txt (bitsL 3 n), rfl, rfl, .inl ?_, ?_, _, _, rfl, rfl, ?_, ?_⟩
    · rw [List.map_map]
      exact SqL.of e4
    · rw [sum_len, l11, List.length_map, l11]; decide
    · rw [join_bits, ← ek, show (2 : Int) = ((2 : Nat) : Int) from rfl, inB_txt (by decide) k3, txt_len, txt_len, bitsL_len]
      have e : ∀ l : List Nat, (l.flatMap (bitsL 3)).length = 3 * l.length := fun l => by
        induction l with
        | nil => rfl
        | cons x l ih => rw [List.flatMap_cons, List.length_append, ih, bitsL_len, List.length_cons]; omega
      rw [e, l11]
      decide
    refine q_str (k _ (ts.trans s4)) ?_
    rw [join_bits, ← ek, show (2 : Int) = ((2 : Nat) : Int) from rfl, inB_txt (by decide) k3, txt_app, eh]
end
end K08
namespace KDC
open PySem PySem.Spec PyProof.Rows L2 PySem.W
/-! ### a dict comprehension over a walk, by an invariant -/
theorem dc_it {J : It} {n : Nat} {G : Hp → Prop} {Y : Nat → Hp → V → Hp → Prop} (w : L2.Walk J n G Y) {g : TG} {tt : TT} {tk tv : TE} {vs : List Nat} {σ : L2.St} {H1 : Hp} {D : Addr} {Qd : Hp → Prop} (Pv : Nat → Hp → Prop)
    (h0 : Pv 0 (upd H1 D (.dK []))) (hG : ∀ i H, i ≤ n → Pv i H → G H)
    (hs : ∀ i x H H', i < n → Pv i H → Y i H x H' → g x (wipe σ vs) H' fun σ2 H2 => wipe σ2 vs = wipe σ vs ∧ tt σ2 H2 fun b H3 => if b = true then tk σ2 H3 fun y H4 => tv σ2 H4 fun z H5 => ∃ kvs k, y = kV k ∧ H5 D = some (.dK kvs) ∧ kvs.length < sizeLine ∧ Pv (i + 1) (upd H5 D (.dK (putK kvs k z))) else Pv (i + 1) H3)
    (hd : ∀ H, Pv n H → Qd H) :
    ∃ Wm : Nat → Nat → Hp → Prop, (∃ m, Wm 0 m (upd H1 D (.dK []))) ∧ ∀ i m H, Wm i m H →
      (J.stop i H ∧ Qd H) ∨ (J.go i H ∧ ∃ Nx : Hp → Prop, (∀ H', Nx H' → ∃ m', m' < m ∧ Wm (i + 1) m' H') ∧ ∀ x H', J.yld i H x H' → g x (wipe σ vs) H' fun σ2 H2 => wipe σ2 vs = wipe σ vs ∧ tt σ2 H2 fun b H3 =>
        if b = true then tk σ2 H3 fun y H4 => tv σ2 H4 fun z H5 => ∃ ps k, y = kV k ∧ H5 D = some (.dK ps) ∧ ps.length < sizeLine ∧ Nx (upd H5 D (.dK (putK ps k z))) else Nx H3) := by
  refine ⟨fun i m H => m = n - i ∧ i ≤ n ∧ Pv i H, ⟨n, by omega, by omega, h0⟩, ?_⟩
  rintro i m H ⟨rfl, hi, p⟩
  have gq := hG i H hi p
  by_cases hlt : i < n
  · exact .inr ⟨w.goes i H hlt gq, Pv (i + 1), fun H' p' => ⟨n - (i + 1), by omega, rfl, hlt, p'⟩, fun x H' y => hs i x H H' hlt p (w.yields i H x H' hlt gq y)⟩
  · have e : i = n := by omega
    subst e
    exact .inl ⟨w.stops H gq, hd H p⟩
/-- the keys all new: the pairs in their order -/
theorem put_new {K : Type} [DecidableEq K] {kvs : List (K × L2.V)} {k : K} {v : L2.V} (h : ∀ e ∈ kvs, e.1 ≠ k) : putK kvs k v = kvs ++ [(k, v)] := by
  unfold putK
  rw [if_neg]
  intro c
  rw [List.any_eq_true] at c
  obtain ⟨e, he, z⟩ := c
  exact h e he (of_decide_eq_true z)
end KDC
namespace K08
open PySem PySem.Spec PyProof.Rows L2 PySem.W LamX KA KW KU KL KT
/-! ### the words of a book: sorted, looked up -/
def ci (d : Nat × Nat) : Int × Int := ((d.1 : Int), (d.2 : Int))
def pairV (d : Nat × Nat) : List V := [.int (d.1 : Int), .int (d.2 : Int)]
theorem rl_pairs {H : Hp} : ∀ {us : List V} {ds : List (Nat × Nat)}, RL pairV H us ds → ∃ bs : List (Addr × Int × Int), us = bs.map (fun b => V.ref b.1) ∧ bs.map (·.2) = ds.map ci ∧ ∀ b ∈ bs, H b.1 = some (.tup [.int b.2.1, .int b.2.2])
  | [], ds, r => by
    have e : ds = [] := List.eq_nil_of_length_eq_zero (by rw [← r.1]; rfl)
    subst e
    exact ⟨[], rfl, rfl, fun b hb => by cases hb⟩
  | u :: us, [], r => by
    have := r.1
    cases this
  | u :: us, d :: ds, r => by
    obtain ⟨p, d', e1, e2, e3⟩ := r.get (i := 0) rfl
    have e2 : d = d' := Option.some.inj e2
    subst e2
    have r' : RL pairV H us ds := ⟨Nat.succ.inj r.1, fun i v h => r.2 (i + 1) v h⟩
    obtain ⟨bs, f1, f2, f3⟩ := rl_pairs r'
    refine ⟨(p, ci d) :: bs, by rw [e1, f1]; rfl, by rw [List.map_cons, List.map_cons, f2], fun b hb => ?_⟩
    rcases List.mem_cons.mp hb with z | z
    · subst z
      exact e3
    · exact f3 b z
/-- the pairs in their order -/
structure Orp (ns : List Nat) (ps : List (Nat × Nat)) : Prop where
  p : ps.Perm (prs ns)
  o : (ps.map ci).Pairwise KST.pairLe
theorem ci_inj {a b : Nat × Nat} (h : ci a = ci b) : a = b := by
  obtain ⟨a1, a2⟩ := a
  obtain ⟨b1, b2⟩ := b
  unfold ci at h
  simp only [Prod.mk.injEq] at h ⊢
  omega
theorem ci_map_inj : ∀ {a b : List (Nat × Nat)}, a.map ci = b.map ci → a = b
  | [], [], _ => rfl
  | [], _ :: _, h => nomatch h
  | _ :: _, [], h => nomatch h
  | x :: a, y :: b, h => by
    rw [List.map_cons, List.map_cons, List.cons.injEq] at h
    rw [ci_map_inj h.2, ci_inj h.1]
theorem Orp.uniq {ns : List Nat} {ps qs : List (Nat × Nat)} (h : Orp ns ps) (g : Orp ns qs) : ps = qs :=
  ci_map_inj (KST.pair_uniq _ _ ((h.p.trans g.p.symm).map ci) h.o g.o)
/-- what sorted gives is such an order -/
theorem ord_of {ns : List Nat} {qs : List (Int × Int)} (h : qs.Perm ((prs ns).map ci)) (o : qs.Pairwise KST.pairLe) : ∃ ps, qs = ps.map ci ∧ Orp ns ps := by
  refine ⟨qs.map fun q => (q.1.toNat, q.2.toNat), ?_, ?_⟩
  · rw [List.map_map]
    refine ((List.map_congr_left fun q hq => ?_).trans (List.map_id qs)).symm
    obtain ⟨d, hd, rfl⟩ := List.mem_map.mp (h.mem_iff.mp hq)
    rfl
  · have e : qs = (qs.map fun q => (q.1.toNat, q.2.toNat)).map ci := by
      rw [List.map_map]
      refine ((List.map_congr_left fun q hq => ?_).trans (List.map_id qs)).symm
      obtain ⟨d, hd, rfl⟩ := List.mem_map.mp (h.mem_iff.mp hq)
      rfl
    refine ⟨?_, e ▸ o⟩
    have := h.map fun q : Int × Int => (q.1.toNat, q.2.toNat)
    rw [List.map_map] at this
    refine this.trans (List.Perm.of_eq ?_)
    exact (List.map_congr_left fun q _ => rfl).trans (List.map_id _)
theorem Orp.up {ns : List Nat} {ps : List (Nat × Nat)} (h : Orp ns ps) : Up ps := by
  have := List.pairwise_map.mp h.o
  refine this.imp fun {a b} q => ?_
  unfold KST.pairLe ci at q
  dsimp only at q
  omega
/-- the places of the words, from the first -/
def ats (ns : List Nat) : List Nat := (List.range ns.length).filter fun s => decide (0 < ns.getD s 0)
theorem prs_snd (ns : List Nat) : (prs ns).map (·.2) = ats ns := by
  unfold prs
  rw [List.map_map]
  exact List.map_id _
theorem prs_mem {ns : List Nat} (h8 : ∀ n ∈ ns, n < 8) : ∀ q ∈ prs ns, 1 ≤ q.1 ∧ q.1 ≤ 7 ∧ q.2 < ns.length ∧ q.1 = ns.getD q.2 0 := by
  intro q hq
  obtain ⟨s, hs, rfl⟩ := List.mem_map.mp hq
  obtain ⟨h1, h2⟩ := List.mem_filter.mp hs
  have h1 := List.mem_range.mp h1
  have h2 := of_decide_eq_true h2
  have : ns.getD s 0 < 8 := by
    rw [List.getD_eq_getElem?_getD, List.getElem?_eq_getElem h1]
    exact h8 _ (List.getElem_mem h1)
  exact ⟨h2, by show ns.getD s 0 ≤ 7; omega, h1, rfl⟩
theorem Orp.mem {ns : List Nat} {ps : List (Nat × Nat)} (h : Orp ns ps) (h8 : ∀ n ∈ ns, n < 8) : ∀ q ∈ ps, 1 ≤ q.1 ∧ q.1 ≤ 7 ∧ q.2 < ns.length ∧ q.1 = ns.getD q.2 0 := fun q hq => prs_mem h8 q (h.p.mem_iff.mp hq)
theorem ats_lt (ns : List Nat) : (ats ns).Pairwise (· < ·) := List.pairwise_lt_range.filter _
theorem Orp.nodup {ns : List Nat} {ps : List (Nat × Nat)} (h : Orp ns ps) : (ps.map (·.2)).Nodup := by
  have := h.p.map fun q : Nat × Nat => q.2
  rw [prs_snd] at this
  exact this.nodup_iff.mpr ((ats_lt ns).imp fun {a b} q => Nat.ne_of_lt q)
theorem range_getD (ns : List Nat) : (List.range ns.length).map (fun s => ns.getD s 0) = ns := by
  refine List.ext_getElem (by simp) fun i h1 h2 => ?_
  rw [List.getElem_map, List.getElem_range, List.getD_eq_getElem?_getD, List.getElem?_eq_getElem h2]
  rfl
theorem sumS_prs (ns : List Nat) : sumS (prs ns) = kraft ns := by
  unfold sumS prs kraft
  rw [List.map_map]
  conv => rhs; rw [← range_getD ns]
  rw [List.filter_map, List.map_map]
  rfl
/-- the words as a dict of the run -/
def dOf (es : List (Nat × List Nat)) : List (L2.Key × V) := es.map fun e => (.inl (e.1 : Int), .str (txt e.2))
def wordAt (ps : List (Nat × Nat)) (a : Nat) : List Nat := (((run ps).2.2.find? fun e => decide (e.1 = a)).map (·.2)).getD []
theorem val_at {ps : List (Nat × Nat)} {a : Nat} (h : a ∈ (run ps).2.2.map (·.1)) : valV (dOf (run ps).2.2) (.inl (a : Int)) = some (.str (txt (wordAt ps a))) := by
  have key : ∀ es : List (Nat × List Nat), a ∈ es.map (·.1) → valV (dOf es) (.inl (a : Int)) = some (.str (txt (((es.find? fun e => decide (e.1 = a)).map (·.2)).getD []))) := by
    intro es
    induction es with
    | nil => exact fun z => nomatch z
    | cons e es ih =>
      intro m
      unfold valV dOf at ih ⊢
      rw [List.map_cons, List.find?_cons, List.find?_cons]
      by_cases c : e.1 = a
      · rw [c]
        simp
      · have c' : ¬ ((Sum.inl (e.1 : Int) : L2.Key) = Sum.inl (a : Int)) := fun z => c (Int.ofNat_inj.mp (Sum.inl.inj z))
        rw [decide_eq_false c, decide_eq_false c']
        refine ih ?_
        rcases List.mem_cons.mp m with z | z
        · exact absurd z.symm c
        · exact z
  exact key _ h
/-- the dict of the words, by the modes -/
def wordsD (ns : List Nat) (ps : List (Nat × Nat)) : List (L2.Key × V) := (ats ns).map fun a => (.inr (modeL.getD a ""), .str (txt (wordAt ps a)))
end K08
namespace K08
open PySem PySem.Spec PyProof.Rows L2 PySem.W LamX KA KW KU KL KT
open Evl (pss_cut tCut)
/-! ### the words of a book -/
theorem hu65 {k : Nat} {A : Around} (r : Room k A) : A.units + 65 < cLine := by have := r.un; omega
/-- all but one object stay -/
def But (d : Addr) (H H' : Hp) : Prop := ∀ a o, a ≠ d → H a = some o → H' a = some o
theorem But.refl {d : Addr} {H : Hp} : But d H H := fun _ _ _ e => e
theorem But.upd {d : Addr} {H H' : Hp} {o : HO} (b : But d H H') : But d H (upd H' d o) := fun a o' ne e => by
  rw [upd_ne ne]
  exact b a o' ne e
theorem But.same {d : Addr} {H H' H2 : Hp} (b : But d H H') (s : Same H' H2) : But d H H2 := fun a o ne e => s _ _ (b a o ne e)
/-- the pairs of a book, by enumerate -/
theorem lc_pairs {ns : List Nat} {J : It} {G : Hp → Prop} (wk : Walk J (NV ns).length G (YPair (fun i => some (.int (i : Nat))) (fun i => (NV ns)[i]?))) {tt : TT} {σ : L2.St} {H1 : Hp} {D : Addr} {Qd : Hp → Prop}
    (hl : ns.length ≤ 1000) (hD : H1 D = none) (hG : ∀ H', Same H1 H' → G H') {u v : Nat} {g : TG} {te : TE}
    (hs : ∀ (i : Nat) (T : Addr) (H' : Hp) (R : VK) (N : Hp → Prop), i < ns.length → H' T = some (.tup [.int (i : Int), .int (ns.getD i 0 : Nat)]) → (decide (0 < ns.getD i 0) = true → ∀ v H4, Same H' H4 → TupAt H4 v (pairV (ns.getD i 0, i)) → R v H4) → (decide (0 < ns.getD i 0) = false → N H') → g (.ref T) (wipe σ [u, v]) H' fun σ2 H2 => wipe σ2 [u, v] = wipe σ [u, v] ∧ tt σ2 H2 fun b H3 => if b = true then te σ2 H3 R else N H3)
    (hd : ∀ H' ws, Same H1 H' → H' D = some (.lst ws) → RL pairV H' ws (prs ns) → Qd H') :
    ∃ Wm : Nat → Nat → Hp → Prop, (∃ m, Wm 0 m (upd H1 D (.lst []))) ∧ ∀ i m H, Wm i m H →
      (J.stop i H ∧ Qd H) ∨ (J.go i H ∧ ∃ Nx : Hp → Prop, (∀ H', Nx H' → ∃ m', m' < m ∧ Wm (i + 1) m' H') ∧ ∀ x H', J.yld i H x H' → g x (wipe σ [u, v]) H' fun σ2 H2 => wipe σ2 [u, v] = wipe σ [u, v] ∧ tt σ2 H2 fun b H3 =>
        if b = true then te σ2 H3 fun y H4 => ∃ ac, H4 D = some (.lst ac) ∧ ac.length < sizeLine ∧ Nx (upd H4 D (.lst (ac ++ [y]))) else Nx H3) := by
  refine lcR wk pairV (List.range ns.length) (fun s => decide (0 < ns.getD s 0)) (fun s => (ns.getD s 0, s)) (by rw [NV_len, List.length_range]) hD hG (by rw [List.length_range]; omega) yPair_same ?_ hd
  rintro i x m H2 H3 N R hm s1 ⟨T', x1, y1, rfl, hT, rfl, h1, h2⟩ hy hn
  obtain ⟨rfl, hi⟩ := range_at hm
  cases h1
  obtain ⟨n, hn1, rfl⟩ := NV_at h2
  have en : ns.getD m 0 = n := by rw [List.getD_eq_getElem?_getD, hn1]; rfl
  refine hs m T' _ R N hi (by rw [en]; exact upd_same) (fun c => ?_) fun c => hn c _ fun _ _ e => e
  exact hy c
theorem le_uniq : ∀ (xs ys : List Int), xs.Perm ys → xs.Pairwise (· ≤ ·) → ys.Pairwise (· ≤ ·) → xs = ys
  | [], ys, p, _, _ => by rw [List.nil_perm.mp p]
  | x :: xs, ys, p, h1, h2 => by
    cases ys with
    | nil => exact absurd p.length_eq (by simp)
    | cons y ys =>
      have e : x = y := by
        have m1 : x ∈ y :: ys := p.mem_iff.mp List.mem_cons_self
        have m2 : y ∈ x :: xs := p.symm.mem_iff.mp List.mem_cons_self
        rcases List.mem_cons.mp m1 with z | z
        · exact z
        · rcases List.mem_cons.mp m2 with z2 | z2
          · exact z2.symm
          · have a := (List.pairwise_cons.mp h2).1 x z
            have b := (List.pairwise_cons.mp h1).1 y z2
            omega
      subst e
      rw [le_uniq xs ys (List.Perm.cons_inv p) (List.pairwise_cons.mp h1).2 (List.pairwise_cons.mp h2).2]
theorem mode_inj : ∀ a, a < 8 → ∀ b, b < 8 → modeL.getD a "" = modeL.getD b "" → a = b := by decide +kernel
theorem mode_at {p : Nat} (h : p < 8) : (modeL.map V.str)[p]? = some (.str (modeL.getD p "")) := by
  rw [List.getElem?_map, List.getD_eq_getElem?_getD]
  have h : p < modeL.length := h
  rw [List.getElem?_eq_getElem h]
  rfl
def spWords (K : PySem.W.Frag) (CB : Addr) : Sp := fun vs H Q E => ∃ x o, vs = [x] ∧ Rv K H x o ∧ (bookB 2 o = false → ∀ H', Same H H' → E (.ref CB) none H') ∧
  (bookB 2 o = true → ∀ ns, o = some (NV ns) → ∀ ps (d : Addr) H', Orp ns ps → Same H H' → H d = none → H' d = some (.dK (wordsD ns ps)) → Q (.ref d) H')
section
variable {P : Program} {w : World} {K : PySem.W.Frag} {mg : Str → Option Value} {base : Heap} (T : Top K mg) (MD : ModesT K mg)
include MD in
theorem ok_words_of : FnOk P w K mg base (L2.CX P w) 4 T.words_of.a T.words_of.d ["book"] (spWords K T.BadBook.C) := by
  refine T.words_of.f.okX sc_words_of (fun vs H Q E h => ?_) (fun cdv A outer s H vs Q E hr h => ?_)
  · obtain ⟨x, o, rfl, _⟩ := h
    rfl
  · obtain ⟨x, o, rfl, hp, k1, k2⟩ := h
    refine ⟨_, (pss_cons (ps_if (pt_not (pt_val (pe_call (ok_is_book T MD) (hr.mono (by decide)) (by rfl) T.is_book.m T.is_book.f.kp (bd_is_book T) .nil passE (pa_cons pe_int (pa_cons (pv 0) pa_nil))))) (pss_one (ps_raiseT rfl rfl T.BadBook (by rfl) rfl (takes_of rfl rfl rfl rfl))) pss_nil)
      (pss_cons (ps_set (i := 1) sc_words_of.nd rfl (by first | exact .inl rfl | exact .inr rfl) pe_dnewK)
      (pss_cons (ps_set (i := 2) sc_words_of.nd rfl (by first | exact .inl rfl | exact .inr rfl) pe_int)
      (pss_cons (ps_set (i := 3) sc_words_of.nd rfl (by first | exact .inl rfl | exact .inr rfl) pe_int)
      (pss_cons (ps_for (passes_of rfl) rfl (pi_list (pe_callB (show CallR _ _ (KST.rSortedT K) from KST.cr_sortedT (show (A.deeper _).units + 4 < cLine by have := hu65 hr; omega)) (by rfl) T.b_sorted (by decide +kernel) (pa_cons (pe_lc (own := [("at", 6), ("many", 7)]) (g := (gTup K 2 (gCons (gName 6) (gCons (gName 7) gNil)))) rfl sc_words_of.nd (KEN.pi_enumS (by rfl) T.b_enumerate (pa_cons (pv 0) pa_nil)) (blkOk_by (own := [("at", 6), ("many", 7)]) (N := ["book", "words", "code", "reached", "length", "number", "at", "many"]) (sc := defScope s_words_of) (by decide +kernel)) (fun _ _ _ _ _ => pg_tup rfl (pgs_cons (pg_name (i := 6) sc_words_of.nd rfl (by first | exact .inl rfl | exact .inr rfl)) (pgs_cons (pg_name (i := 7) sc_words_of.nd rfl (by first | exact .inl rfl | exact .inr rfl)) pgs_nil))) (fun _ _ _ _ _ => pts_one (pt_cmpR op_gt (pv 7) pe_int (nomark _))) (fun _ _ _ _ _ => (pe_tup (pa_cons (pv 7) (pa_cons (pv 6) pa_nil))))) pa_nil))) (pg_tup rfl (pgs_cons (pg_name (i := 4) sc_words_of.nd rfl (by first | exact .inl rfl | exact .inr rfl)) (pgs_cons (pg_name (i := 5) sc_words_of.nd rfl (by first | exact .inl rfl | exact .inr rfl)) pgs_nil)))
        (pss_cons (ps_set (i := 2) sc_words_of.nd rfl (by first | exact .inl rfl | exact .inr rfl) (pe_op op_shl (pv 2) (pe_op op_sub (pv 4) (pv 3))))
      (pss_cons (ps_asg (pe_call (ok_in_bits T) (hr.mono (by decide)) (by rfl) T.in_bits.m T.in_bits.f.kp (bd_in_bits T) .nil passE (pa_cons (pv 2) (pa_cons (pv 4) pa_nil))) (pg_sub (pv 1) (pv 5) (L2.set_dict (hu_of hr))))
      (pss_cons (ps_aug (i := 2) sc_words_of.nd rfl (by first | exact .inl rfl | exact .inr rfl) pe_int ip_add)
      (pss_one (ps_set (i := 3) sc_words_of.nd rfl (by first | exact .inl rfl | exact .inr rfl) (pv 4)))))))
      (pss_one (ps_ret (pe_dc (own := [("at", 6)]) (g := (gName 6)) (tt := tYes) rfl sc_words_of.nd (pi_list (pe_callB cr_sortedI (by rfl) T.b_sorted (by decide +kernel) (pa_cons (pe_callTy (call_list_dK rfl) (by rfl) T.b_list (by decide +kernel) (pa_cons (pv 1) pa_nil)) pa_nil))) (blkOk_by (own := [("at", 6)]) (N := ["book", "words", "code", "reached", "length", "number", "at", "many"]) (sc := defScope s_words_of) (by decide +kernel)) (fun _ _ _ _ _ => pg_name (i := 6) sc_words_of.nd rfl (by first | exact .inl rfl | exact .inr rfl)) (fun _ _ _ _ _ => pts_nil) (fun _ _ _ _ _ => (pe_ix (show IxR _ (rIx K) from ix_seq) (pe_glob (v := .ref MD.a) (by rfl) MD.m rfl) (pv 6) (fun _ _ => rfl))) (fun _ _ _ _ _ => (pe_dget (hu_of hr) (pv 1) (pv 6) (fun _ _ => rfl))))))))))), ?_⟩
    refine ⟨_, rfl, x, o, 2, rfl, hp, fun H1 s1 => ⟨_, rfl, iteNot (fun q => ?_) fun q => ?_⟩⟩
    · exact k1 q H1 s1
    obtain ⟨ns, rfl, l8, s8, _, kr⟩ := book_nv q
    have k2 := k2 q ns rfl
    clear k1
    cases hp with
    | @tup a xs ea pa la =>
    intro d hd
    have ed : (upd H1 d (.dK [])) d = some (.dK []) := upd_same
    have s2 := Same.new (o := .dK []) hd
    have hd0 := s1.free hd
    generalize upd H1 d (.dK []) = H2 at ed s2 ⊢
    have s2' := s1.trans s2
    refine ⟨_, rfl, a, _, rfl, .inr (SqT.of (s2' _ _ ea)), fun J G wk hG => fun D hD => ?_⟩
    refine lc_pairs wk (by omega) hD hG ?_ ?_
    · intro i T' H' R N hi eT hy hn
      refine ⟨T', _, rfl, SqT.of eT, rfl, _, _, rfl, _, _, rfl, rfl, rfl, ?_⟩
      refine ⟨_, rfl, _, _, rfl, rfl, _, rfl, ?_⟩
      rw [show decide ((0 : Int) < ((ns.getD i 0 : Nat) : Int)) = decide (0 < ns.getD i 0) from decide_eq_decide.mpr (by omega)]
      cases c : decide (0 < ns.getD i 0) with
      | true =>
        refine iteT ⟨_, rfl, _, rfl, (by show 2 ≤ sizeLine; decide), fun z hz => ?_⟩
        exact hy c _ _ (Same.new hz) ⟨z, rfl, upd_same⟩
      | false => exact iteF (hn c)
    intro H3 ws s3 e3 rl
    obtain ⟨bs, rfl, eb, hb⟩ := rl_pairs rl
    refine ⟨D, bs, rfl, SqL.of e3, hb, fun bs' q pm pw hq => ?_⟩
    obtain ⟨ps, eps, op⟩ := ord_of (ns := ns) (qs := bs'.map (·.2)) (by rw [← eb]; exact pm.map _) pw
    have t4 := Same.new (o := .lst (bs'.map fun b => V.ref b.1)) hq
    have e4 : (upd H3 q (.lst (bs'.map fun b => V.ref b.1))) q = some (.lst (bs'.map fun b => V.ref b.1)) := upd_same
    generalize upd H3 q (.lst (bs'.map fun b => V.ref b.1)) = H4 at t4 e4 ⊢
    have hb4 : ∀ b ∈ bs', H4 b.1 = some (.tup [.int b.2.1, .int b.2.2]) := fun b m => t4 _ _ (hb b (pm.mem_iff.mp m))
    have ed4 : H4 d = some (.dK []) := t4 _ _ (s3 _ _ ed)
    have sH : Same H H4 := s2'.trans (s3.trans t4)
    have nq : q ≠ d := ne_of e4 ed4 (by intro z; cases z)
    have lb : bs'.length = ps.length := by
      have := congrArg List.length eps
      rwa [List.length_map, List.length_map] at this
    have up := op.up
    have mem := op.mem s8
    have sm : sumS ps ≤ 128 := by rw [sumS_perm op.p, sumS_prs]; exact kr
    have l1000 : ps.length ≤ 1000 := by
      rw [op.p.length_eq]
      unfold prs
      rw [List.length_map]
      exact Nat.le_trans (List.length_filter_le _ _) (by rw [List.length_range]; omega)
    clear rl hb eb wk hG ed s3 t4 e3 hq pm pw s2 hd
    refine ⟨q, rfl, ⟨_, SqL.of e4⟩, for_it (walk_list (xs := bs'.map fun b => V.ref b.1)) (fun n σ H' => ∃ v4 v5, σ = [some (.ref a), some (.ref d), some (.int ((run (ps.take n)).1 : Nat)), some (.int ((run (ps.take n)).2.1 : Nat)), v4, v5, none, none] ∧ But d H4 H' ∧ H' d = some (.dK (dOf (run (ps.take n)).2.2))) ⟨_, _, rfl, .refl, ed4⟩ (fun _ σ H' _ ⟨_, _, _, bt, _⟩ => SqL.of (bt _ _ nq e4)) ?_ ?_⟩
    · rintro i x σ H' H'' hi ⟨v4, v5, rfl, bt, ed'⟩ ⟨rfl, hx⟩
      rw [List.length_map] at hi
      obtain ⟨b, hbi⟩ : ∃ b, bs'[i]? = some b := ⟨_, List.getElem?_eq_getElem hi⟩
      rw [List.getElem?_map, hbi] at hx
      cases hx
      have hmem := List.mem_of_getElem? hbi
      obtain ⟨⟨l, p⟩, hpi⟩ : ∃ z, ps[i]? = some z := ⟨_, List.getElem?_eq_getElem (by omega)⟩
      have eb2 : b.2 = ci (l, p) := by
        have := congrArg (fun l => l[i]?) eps
        rw [List.getElem?_map, List.getElem?_map, hbi, hpi] at this
        exact Option.some.inj this
      have eb := hb4 b hmem
      rw [eb2] at eb
      have nb : b.1 ≠ d := ne_of eb ed4 (by intro z; cases z)
      have e5 := bt _ _ nb eb
      have tk : ps.take (i + 1) = ps.take i ++ [(l, p)] := by rw [List.take_add_one, hpi]; rfl
      have sub : ∀ z ∈ ps.take i ++ [(l, p)], z ∈ ps := fun z hz => by rw [← tk] at hz; exact List.mem_of_mem_take hz
      obtain ⟨r1, r2, r3, _⟩ := run_next (ps := ps.take i) (q := (l, p)) (by rw [← tk]; exact up.sublist (List.take_sublist _ _)) (fun z hz => ⟨(mem z (sub z hz)).1, (mem z (sub z hz)).2.1⟩) (by
        rw [← tk]
        refine Nat.le_trans ?_ sm
        conv => rhs; rw [← List.take_append_drop (i + 1) ps]
        unfold sumS
        rw [List.map_append, List.sum_append]
        omega)
      obtain ⟨_, _, _, r5⟩ := run_at (ps.take i) (up.sublist (List.take_sublist _ _)) fun z hz => ⟨(mem z (List.mem_of_mem_take hz)).1, (mem z (List.mem_of_mem_take hz)).2.1⟩
      have hq := mem (l, p) (List.mem_of_getElem? hpi)
      dsimp only at hq r1 r2
      have e7 : run (ps.take (i + 1)) = stp (run (ps.take i)) (l, p) := by rw [tk, run_snoc]
      generalize hR : run (ps.take i) = R at ed' r1 r2 r3 e7 r5
      obtain ⟨c, r, es⟩ := R
      dsimp only at ed' r1 r2 r3 r5
      have ecode : (c : Int) * 2 ^ ((l : Int) - (r : Int)).toNat = ((c * 2 ^ (l - r) : Nat) : Int) := by
        rw [show ((l : Int) - (r : Int)).toNat = l - r by omega, Int.natCast_mul, Int.natCast_pow]
        rfl
      refine ⟨b.1, _, rfl, SqT.of e5, rfl, _, _, rfl, _, _, rfl, rfl, ?_⟩
      refine ⟨_, rfl, _, rfl, _, rfl, _, _, rfl, rfl, _, _, rfl, rfl, ?_, ?_⟩
      · exact ⟨by show (0 : Int) ≤ (l : Int) - (r : Int); omega, by show (l : Int) - (r : Int) ≤ 1000000; omega, by show ((c : Int)).natAbs < 2 ^ 64; rw [Int.natAbs_natCast]; exact Nat.lt_of_le_of_lt r3 (by decide)⟩
      refine ⟨_, rfl, _, rfl, _, (l : Int), rfl, ?_, ?_, by omega, by omega, ?_⟩
      · show (0 : Int) ≤ (c : Int) * 2 ^ ((l : Int) - (r : Int)).toNat
        rw [ecode]
        omega
      · show (binText ((c : Int) * 2 ^ ((l : Int) - (r : Int)).toNat).natAbs).length ≤ 100
        rw [ecode, Int.natAbs_natCast]
        exact bin_short (Nat.lt_of_lt_of_le r2 (Nat.pow_le_pow_right (by decide) hq.2.1))
      have les : es.length = i := by
        have := congrArg List.length r5
        rw [List.length_map, List.length_map, List.length_take] at this
        omega
      refine ⟨_, rfl, _, rfl, d, _, rfl, .inl ⟨_, .inl (p : Int), ed', rfl, ?_, rfl⟩, ?_⟩
      · unfold dOf
        rw [List.length_map, les]
        exact Nat.lt_of_lt_of_le hi (by rw [lb]; exact Nat.le_trans l1000 (by decide))
      have new : ∀ e ∈ dOf es, e.1 ≠ (.inl (p : Int) : L2.Key) := by
        intro e he z
        obtain ⟨e', he', rfl⟩ := List.mem_map.mp he
        have z : e'.1 = p := Int.ofNat_inj.mp (Sum.inl.inj z)
        have m1 : p ∈ (ps.take i).map (·.2) := by
          rw [← r5]
          exact List.mem_map.mpr ⟨e', he', z⟩
        have nd := (op.nodup.sublist ((List.take_sublist (i + 1) ps).map (·.2)))
        rw [tk, List.map_append, List.nodup_append] at nd
        exact nd.2.2 p m1 p (List.mem_singleton.mpr rfl) rfl
      refine ⟨_, rfl, _, _, rfl, rfl, _, rfl, some (.int (l : Int)), some (.int (p : Int)), ?_, bt.upd, ?_⟩
      · show [some (V.ref a), some (.ref d), some (V.int ((c : Int) * 2 ^ ((l : Int) - (r : Int)).toNat + 1)), some (V.int (l : Int)), some (.int (l : Int)), some (.int (p : Int)), none, none] = _
        rw [e7, ecode]
        rfl
      · rw [upd_same, e7, KDC.put_new new]
        have ew : inBits ((c : Int) * 2 ^ ((l : Int) - (r : Int)).toNat) (l : Int) = txt (bitsL l (c * 2 ^ (l - r))) := by
          rw [ecode]
          exact inB_txt (by omega) r2
        show some (HO.dK (dOf es ++ [((Sum.inl (p : Int) : L2.Key), V.str (inBits ((c : Int) * 2 ^ ((l : Int) - (r : Int)).toNat) (l : Int)))])) = some (HO.dK (dOf (es ++ [(p, bitsL l (c * 2 ^ (l - r)))])))
        rw [ew]
        unfold dOf
        rw [List.map_append]
        rfl
    rintro σ H' ⟨v4, v5, rfl, bt, ed'⟩
    rw [List.length_map, lb, List.take_length] at ed'
    obtain ⟨_, _, _, r5⟩ := run_at ps up fun z hz => ⟨(mem z hz).1, (mem z hz).2.1⟩
    have ek : (dOf (run ps).2.2).map (fun kv => kV kv.1) = ((ps.map (·.2)).map fun n : Nat => (n : Int)).map V.int := by
      rw [← r5]
      unfold dOf
      rw [List.map_map, List.map_map, List.map_map]
      rfl
    have sH' : Same H H' := fun b o e => bt b o (fun z => by subst z; rw [hd0] at e; cases e) (sH _ _ e)
    refine ⟨_, rfl, d, _, rfl, ed', fun l1 hl1 => ?_⟩
    rw [ek]
    have u1 := Same.new (o := .lst (((ps.map (·.2)).map fun n : Nat => (n : Int)).map V.int)) hl1
    have f1 : (upd H' l1 (.lst (((ps.map (·.2)).map fun n : Nat => (n : Int)).map V.int))) l1 = some (.lst (((ps.map (·.2)).map fun n : Nat => (n : Int)).map V.int)) := upd_same
    generalize upd H' l1 (.lst (((ps.map (·.2)).map fun n : Nat => (n : Int)).map V.int)) = H5 at u1 f1 ⊢
    refine ⟨l1, _, rfl, SqL.of f1, fun zs q2 pm2 pw2 hq2 => ?_⟩
    have ez : zs.map V.int = NV (ats ns) := by
      rw [NV_ints, ← prs_snd]
      refine congrArg (fun l => List.map V.int l) (le_uniq _ _ (pm2.trans ((op.p.map _).map _)) pw2 ?_)
      rw [prs_snd, List.pairwise_map]
      exact (ats_lt ns).imp fun {a b} q => by omega
    rw [ez]
    have u2 := Same.new (o := .lst (NV (ats ns))) hq2
    have f2 : (upd H5 q2 (.lst (NV (ats ns)))) q2 = some (.lst (NV (ats ns))) := upd_same
    generalize upd H5 q2 (.lst (NV (ats ns))) = H6 at u2 f2 ⊢
    have s6 := sH'.trans (u1.trans u2)
    have ed6 := (u1.trans u2) _ _ ed'
    have lat : (ats ns).length ≤ 8 := Nat.le_trans (List.length_filter_le _ _) (by rw [List.length_range]; omega)
    refine ⟨q2, rfl, ⟨_, SqL.of f2⟩, fun D2 hD2 => ?_⟩
    refine KDC.dc_it (walk_list (xs := NV (ats ns))) (fun i H' => H' D2 = some (.dK (((ats ns).take i).map fun a => (.inr (modeL.getD a ""), .str (txt (wordAt ps a))))) ∧ Same H6 H') ⟨upd_same, Same.new hD2⟩ (fun i H' _ q => SqL.of (q.2 _ _ f2)) ?_ ?_
    · rintro i x H7 H8 hi ⟨e7, s7⟩ ⟨rfl, hx⟩
      obtain ⟨p, hp, rfl⟩ := NV_at hx
      have hmem := List.mem_of_getElem? hp
      refine ⟨rfl, ?_⟩
      dsimp only [tYes]
      rw [if_pos rfl]
      have p8 : p < ns.length := List.mem_range.mp (List.mem_filter.mp hmem).1
      have hm : (modeL.map V.str)[p]? = some (.str (modeL.getD p "")) := mode_at (by omega)
      have pin : p ∈ (run ps).2.2.map (·.1) := by
        rw [r5]
        have := (op.p.map fun q : Nat × Nat => q.2).mem_iff (a := p)
        rw [prs_snd] at this
        exact this.mpr hmem
      have en : ∀ e ∈ ((ats ns).take i).map (fun a => ((.inr (modeL.getD a ""), .str (txt (wordAt ps a))) : L2.Key × V)), e.1 ≠ (.inr (modeL.getD p "") : L2.Key) := by
        intro e he z
        obtain ⟨a', ha', rfl⟩ := List.mem_map.mp he
        have z : modeL.getD a' "" = modeL.getD p "" := Sum.inr.inj z
        have a8 : a' < ns.length := List.mem_range.mp (List.mem_filter.mp (List.mem_of_mem_take ha')).1
        have := mode_inj a' (by omega) p (by omega) z
        subst this
        have nd := (ats_lt ns).sublist (List.take_sublist (i + 1) (ats ns))
        rw [List.take_add_one, hp, List.pairwise_append] at nd
        exact Nat.lt_irrefl _ (nd.2.2 a' ha' a' (List.mem_singleton.mpr rfl))
      have s8 : Same H6 (upd H8 D2 (.dK (((ats ns).take i).map (fun a => ((.inr (modeL.getD a ""), .str (txt (wordAt ps a))) : L2.Key × V)) ++ [(.inr (modeL.getD p ""), .str (txt (wordAt ps p)))]))) := fun b o e => by
        rw [upd_ne (fun z => by subst z; rw [hD2] at e; cases e)]
        exact s7 _ _ e
      refine ⟨_, rfl, .inr (.inl ⟨MD.a, _, (p : Int), _, rfl, rfl, MD.q _, atI_nat hm, ?_⟩)⟩
      refine ⟨_, rfl, _, rfl, d, _, rfl, .inl ⟨_, .inl (p : Int), .inl (s7 _ _ ed6), rfl, (val_at pin).symm⟩, ?_⟩
      refine ⟨_, .inr (modeL.getD p ""), rfl, e7, ?_, ?_⟩
      · rw [List.length_map, List.length_take]
        exact Nat.lt_of_le_of_lt (Nat.min_le_right _ _) (Nat.lt_of_le_of_lt lat (by decide))
      rw [KDC.put_new en]
      refine ⟨?_, s8⟩
      rw [upd_same, List.take_add_one, hp, List.map_append]
      rfl
    rintro H7 ⟨e7, s7⟩
    rw [NV_len, List.take_length] at e7
    exact k2 ps D2 H7 op (s6.trans s7) (s6.free hD2) e7
end
end K08
namespace K08
open PySem PySem.Spec PyProof.Rows L2 PySem.W LamX KA KW KU
open Evl (pss_cut tCut)
/-! ### the law's own words on bits -/
/-- the number that bits write, the first one the greatest -/
def valL (l : List Nat) : Nat := l.foldl (fun a c => 2 * a + (if c = 49 then 1 else 0)) 0
theorem cut_nat (z : Str) (a b : Nat) : cutS z (some (a : Int)) (some (b : Int)) = ⟨((z.cps.toList.drop a).take (b - a)).toArray⟩ := by
  have sz : z.length = z.cps.toList.length := by simp [Str.length]
  unfold cutS
  rw [HT.sIx_nat, HT.sIx_nat, sz]
  congr 1
  congr 1
  generalize z.cps.toList = l
  by_cases h : a ≤ l.length
  · rw [Nat.min_eq_left h]
    by_cases h2 : b ≤ l.length
    · rw [Nat.min_eq_left h2]
    · rw [Nat.min_eq_right (by omega), List.take_of_length_le (by rw [List.length_drop]; exact Nat.le_refl _), List.take_of_length_le (by rw [List.length_drop]; omega)]
  · have ea : min a l.length = l.length := Nat.min_eq_right (by omega)
    rw [ea, List.drop_of_length_le (Nat.le_refl _), List.drop_of_length_le (show l.length ≤ a by omega)]
    simp
theorem valL_app (l r : List Nat) : valL (l ++ r) = r.foldl (fun a c => 2 * a + (if c = 49 then 1 else 0)) (valL l) := List.foldl_append
theorem valL_snoc (l : List Nat) (c : Nat) : valL (l ++ [c]) = 2 * valL l + (if c = 49 then 1 else 0) := by rw [valL_app]; rfl
theorem valL_lt : ∀ l : List Nat, valL l < 2 ^ l.length := by
  intro l
  suffices h : ∀ (r l : List Nat), valL l < 2 ^ l.length → valL (l ++ r) < 2 ^ (l ++ r).length by simpa using h l [] (by decide)
  intro r
  induction r with
  | nil => intro l h; simpa using h
  | cons c r ih =>
    intro l h
    have e : l ++ c :: r = (l ++ [c]) ++ r := by simp
    rw [e]
    refine ih _ ?_
    rw [valL_snoc, List.length_append, List.length_singleton, Nat.pow_succ]
    split <;> omega
/-- how many ones stand ahead -/
def onesL (l : List Nat) : Nat := (l.takeWhile (· == 49)).length
/-- over the signs of a text -/
theorem for_signs {x : Str} {g : TG} {tb : TS} {D : Ends} {σ : L2.St} {H : Hp} (Pv : Nat → L2.St → Hp → Prop) (h0 : Pv 0 σ H)
    (hs : ∀ i c σ H, x.cps.toList[i]? = some c → Pv i σ H → g (.str ⟨#[c]⟩) σ H fun σ2 H2 => tb { D with nx := Pv (i + 1), ct := Pv (i + 1), bk := D.nx } σ2 H2) (hd : ∀ σ H, Pv x.cps.toList.length σ H → D.nx σ H) :
    ∃ W : Nat → Nat → L2.St → Hp → Prop, (∃ m, W 0 m σ H) ∧ ∀ i m σ H, W i m σ H →
      ((Its x).stop i H ∧ D.nx σ H) ∨ ((Its x).go i H ∧ ∃ N : L2.St → Hp → Prop, (∀ σ' H', N σ' H' → ∃ m', m' < m ∧ W (i + 1) m' σ' H') ∧ ∀ y H', (Its x).yld i H y H' → g y σ H' fun σ2 H2 => tb { D with nx := N, ct := N, bk := D.nx } σ2 H2) := by
  have sz : x.cps.toList.length = x.cps.size := Array.length_toList
  refine ⟨fun i m σ H => m = x.cps.size - i ∧ i ≤ x.cps.size ∧ Pv i σ H, ⟨x.cps.size, rfl, Nat.zero_le _, h0⟩, ?_⟩
  rintro i m σ H ⟨rfl, hi, p⟩
  by_cases hlt : i < x.cps.size
  · refine .inr ⟨hlt, Pv (i + 1), fun σ' H' p' => ⟨x.cps.size - (i + 1), by omega, rfl, hlt, p'⟩, fun y H' e => ?_⟩
    obtain ⟨rfl, c, hc, rfl⟩ := e
    exact hs i c σ H' (by rw [Array.getElem?_toList]; exact hc) p
  · have e : i = x.cps.size := by omega
    subst e
    exact .inl ⟨Nat.le_refl _, hd σ H (by rw [sz]; exact p)⟩
section
variable {P : Program} {w : World} {K : PySem.W.Frag} {mg : Str → Option Value} {base : Heap} (T : Top K mg)
def spLUnf : Sp := fun vs H Q _ => ∃ i : Int, vs = [.int i] ∧ 0 ≤ i ∧ Q (.int (unfoldI i)) H
def spValue : Sp := fun vs H Q _ => ∃ s : Str, vs = [.str s] ∧ s.length ≤ 100000 ∧ Q (.int (valL s.cps.toList)) H
end
end K08
namespace KI
open PySem PySem.Spec PyProof.Rows L2 L2.Hx
open PySem.NumText PySem.Calls
/-! ### int(t, 2), t of 0 and 1 -/
def Bit (c : Nat) : Prop := c = 48 ∨ c = 49
def binNum (l : List Nat) : Nat := l.foldl (fun a c => a * 2 + hv c) 0
theorem Bit.hex {c : Nat} (h : Bit c) : IsHex c := by
  rcases h with h | h <;> subst h <;> exact .inl ⟨by decide, by decide⟩
theorem Bit.small {c : Nat} (h : Bit c) : hv c < 2 := by
  rcases h with h | h <;> subst h <;> decide
theorem step_bit {ds : Array Nat} {b : Bool} {c : Nat} (h : Bit c) : PySem.NumText.step 2 (ds, b) c = some (ds.push (hv c), true) := by
  have n95 : ¬ (c == 95) = true := by
    rcases h with h | h <;> subst h <;> decide
  unfold PySem.NumText.step
  rw [if_neg n95, digit_hex h.hex]
  exact if_pos h.small
theorem steps_bits : ∀ (cs : List Nat) (ds : Array Nat), (∀ c ∈ cs, Bit c) → cs.foldlM (PySem.NumText.step 2) (ds, true) = some (cs.foldl (fun acc c => acc.push (hv c)) ds, true)
  | [], _, _ => rfl
  | c :: r, ds, h => by
    rw [List.foldlM_cons, step_bit (h c List.mem_cons_self)]
    exact steps_bits r (ds.push (hv c)) fun d hd => h d (List.mem_cons_of_mem _ hd)
theorem digits_bits {cs : List Nat} (h : ∀ c ∈ cs, Bit c) (ne : cs ≠ []) : digits? 2 cs = some (cs.foldl (fun acc c => acc.push (hv c)) #[]) := by
  match cs, ne with
  | c :: r, _ =>
    unfold digits?
    rw [List.foldlM_cons, step_bit (h c List.mem_cons_self)]
    show (r.foldlM (PySem.NumText.step 2) ((#[] : Array Nat).push (hv c), true)).bind _ = _
    rw [steps_bits r _ fun d hd => h d (List.mem_cons_of_mem _ hd)]
    rfl
theorem pushed : ∀ (cs : List Nat) (ds : Array Nat), (cs.foldl (fun acc c => acc.push (hv c)) ds).foldl (fun acc d => acc * 2 + d) 0 = cs.foldl (fun a c => a * 2 + hv c) (ds.foldl (fun acc d => acc * 2 + d) 0)
  | [], _ => rfl
  | c :: r, ds => by
    rw [List.foldl_cons, pushed r (ds.push (hv c)), List.foldl_cons]
    congr 1
    simp
theorem based_two {cs : List Nat} (h : ∀ c ∈ cs, Bit c) : based 2 cs = (2, false, cs) := by
  match cs, h with
  | [], _ => rfl
  | [a], h =>
    rcases h a List.mem_cons_self with e | e <;> subst e <;> rfl
  | a :: c :: r, h =>
    rcases h a List.mem_cons_self with e | e <;> subst e
    · rcases h c (List.mem_cons_of_mem _ List.mem_cons_self) with e | e <;> subst e <;> rfl
    · rfl
theorem read_bits {cs : List Nat} (h : ∀ c ∈ cs, Bit c) (ne : cs ≠ []) : (int_private% "readNumeral") 0 2 cs = (int_private% "Numeral.value") ((binNum cs : Nat) : Int) := by
  have hx : ∀ c ∈ cs, IsHex c := fun c hc => (h c hc).hex
  have hr : ∀ c ∈ cs.reverse, IsHex c := fun c hc => hx c (List.mem_reverse.mp hc)
  refine (readNumeral_eq 0 2 cs).trans ?_
  rw [dropB hx, signH hx]
  show judge 0 false (based 2 cs).1 (based 2 cs).2.1 (digits? (based 2 cs).1 (((based 2 cs).2.2.reverse.dropWhile blank).reverse)) = _
  rw [based_two h]
  show judge 0 false 2 false (digits? 2 ((cs.reverse.dropWhile blank).reverse)) = _
  rw [dropB hr, List.reverse_reverse, digits_bits h ne]
  show (int_private% "Numeral.value") (((cs.foldl (fun acc c => acc.push (hv c)) (#[] : Array Nat)).foldl (fun acc d => acc * 2 + d) 0 : Nat) : Int) = _
  have z : (#[] : Array Nat).foldl (fun acc d => acc * 2 + d) 0 = 0 := by simp
  rw [pushed, z] <;> rfl
theorem gives_bits {x : PySem.Str} {u t : Tok} (hl : x.length ≤ 640) (h : ∀ c ∈ x.cps.toList, Bit c) (ne : x.cps.toList ≠ []) :
    Gives (Builtin.«int.__new__» ⟨[.type "int", .str x u, .int 2 t], []⟩) (.int ((binNum x.cps.toList : Nat) : Int)) :=
  .of_wp fun M A E s Q hQ => by
    obtain ⟨hp, g, d, tk, os⟩ := s
    have m1 := F.conv_sub_int
    have m2 := F.madeHere_int
    have m3 : typeOf (.str x u) = pure (.type "str") := rfl
    obtain ⟨e1, e2⟩ := seen_hex (fun c hc => (h c hc).hex)
    have seen : Hid ((numSeenOf x).length ≤ 640 ∧ (int_private% "readNumeral") 0 2 (numSeenOf x) = (int_private% "Numeral.value") ((binNum x.cps.toList : Nat) : Int) ∧ ((numSeenOf x).length == (numTextOf x).length) = true) :=
      ⟨by rw [e2, Array.length_toList]; exact hl, by rw [e2]; exact read_bits h ne, by rw [e1, e2]; exact beq_self_eq_true _⟩
    clear e1 e2 hl ne h
    repeat (any_goals (first
      | assumption
      | ((with_reducible show wpAny _ _ ((int_private% "intFromText") _ _ _) _ _ _); refine wp_textB seen.out.1 seen.out.2.1 seen.out.2.2 ?_)
      | wp_step))
    all_goals first | exact ⟨_, rfl, hQ⟩ | skip
/-- int(t, 2) -/
def rIntBits : List V → Hp → VK → Prop := fun xs H Q => ∃ x : Str, xs = [.str x, .int 2] ∧ x.cps.toList ≠ [] ∧ x.length ≤ 640 ∧ (∀ c ∈ x.cps.toList, Bit c) ∧ Q (.int ((binNum x.cps.toList : Nat) : Int)) H
theorem call_int_bits {X : Cx} : CallR X (.type "int") rIntBits := by
  intro pins s σ H xs us Q I r h
  obtain ⟨x, rfl, ne, hl, hb, q⟩ := h
  obtain ⟨u, w', rfl, r1, r2⟩ := vals2 r
  obtain ⟨t1, rfl⟩ := r1
  obtain ⟨t2, rfl⟩ := r2
  exact callType_new F.called_int F.newNe_int (typeCall_int_2 _ _) (newCall_int_2 _ _) (fun obj => F.initArgs_range_2 obj _ _) F.entry_int_new (gives_bits hl hb ne).meets (show (Made.int ((binNum x.cps.toList : Nat) : Int)).post _ s from ⟨rfl, .int _, H, I.tok _, ⟨_, rfl⟩, q⟩)
end KI
namespace K08
open PySem PySem.Spec PyProof.Rows L2 PySem.W LamX KA KW KU
open Evl (pss_cut tCut)
/-! ### the program: bits read -/
def Ones (s : Str) : Prop := ∀ c ∈ s.cps.toList, c = 48 ∨ c = 49
theorem bin_val : ∀ l : List Nat, (∀ c ∈ l, c = 48 ∨ c = 49) → KI.binNum l = valL l := by
  intro l h
  unfold KI.binNum valL
  suffices g : ∀ (l : List Nat) (a : Nat), (∀ c ∈ l, c = 48 ∨ c = 49) → l.foldl (fun a c => a * 2 + Hx.hv c) a = l.foldl (fun a c => 2 * a + (if c = 49 then 1 else 0)) a from g l 0 h
  intro l
  induction l with
  | nil => intro a _; rfl
  | cons c r ih =>
    intro a h
    rw [List.foldl_cons, List.foldl_cons]
    have e : a * 2 + Hx.hv c = 2 * a + (if c = 49 then 1 else 0) := by
      rcases h c List.mem_cons_self with q | q <;> subst q <;> simp [Hx.hv] <;> omega
    rw [e]
    exact ih _ fun d hd => h d (List.mem_cons_of_mem _ hd)
theorem valL_zero (l : List Nat) : valL (48 :: l) = valL l := rfl
section
variable {P : Program} {w : World} {K : PySem.W.Frag} {mg : Str → Option Value} {base : Heap} (T : Top K mg)
def spTakeF (CB : Addr) : Sp := fun vs H Q E => ∃ (z : Str) (a m : Nat), vs = [.str z, .int a, .int m] ∧ Ones z ∧ z.length ≤ 1000 ∧ a ≤ 1000 ∧ m ≤ 100 ∧
  (z.length < a + m → ∀ d, H d = none → E (.ref CB) (some d) (upd H d (.xd [("at", .int a)]))) ∧
  (a + m ≤ z.length → ∀ p, H p = none → Q (.ref p) (upd H p (.tup [.int ((valL ((z.cps.toList.drop a).take m) : Nat) : Int), .int ((a + m : Nat) : Int)])))
theorem ok_take_fixed (BS : StreamT P w K mg T.reel.C) : FnOk P w K mg base (L2.CX P w) 2 T.take_fixed.a T.take_fixed.d ["bits", "at", "many"] (spTakeF BS.C) := by
  refine T.take_fixed.f.okX sc_take_fixed (fun vs H Q E h => ?_) (fun cdv A outer s H vs Q E hr h => ?_)
  · obtain ⟨z, a, m, rfl, _⟩ := h
    rfl
  · obtain ⟨z, a, m, rfl, ho, hl, ha, hm, k1, k2⟩ := h
    refine ⟨_, pss_cons (ps_set (i := 3) sc_take_fixed.nd rfl (.inl rfl) (pe_op op_add (pv 1) (pv 2)))
      (pss_cons (ps_if (pt_cmpR op_gt (pv 3) (pe_callB call_len_str (by rfl) T.b_len PySem.boot_len (pa_cons (pv 0) pa_nil)) (nomark _)) (pss_one (ps_raiseUp rfl BS.u BS.g hr (takes_of rfl rfl rfl rfl) (pa_cons (pv 1) pa_nil) (by rfl))) pss_nil)
      (pss_one (ps_ret (pe_tup (pa_cons (pe_callTy KI.call_int_bits (by rfl) T.b_int PyProof.Rows.boot_int (pa_cons (pe_op op_add_str pe_str (pe_slice sl_str (pv 0) (po_some (pv 1)) (po_some (pv 3)))) (pa_cons pe_int pa_nil))) (pa_cons (pv 3) pa_nil)))))), ?_⟩
    refine ⟨_, rfl, _, rfl, _, _, rfl, rfl, _, rfl, _, rfl, z, rfl, Nat.le_trans hl (by decide), ?_⟩
    by_cases d : z.length < a + m
    · refine ⟨_, _, rfl, rfl, true, congrArg V.bl (decide_eq_true (by omega)), ?_⟩
      refine iteT ⟨_, rfl, _, rfl, fun v' r => ?_, k1 d⟩
      obtain ⟨t, rfl⟩ := r
      exact BS.say _ t (by omega)
    · refine ⟨_, _, rfl, rfl, false, congrArg V.bl (decide_eq_false (by omega)), ?_⟩
      have cut : cutS z (some (a : Int)) (some ((a : Int) + m)) = ⟨((z.cps.toList.drop a).take m).toArray⟩ := by
        have e := cut_nat z a (a + m)
        rw [show a + m - a = m by omega] at e
        exact e
      refine iteF ⟨_, rfl, _, rfl, _, rfl, _, rfl, _, rfl, z, rfl, Nat.le_trans hl (by decide), ?_⟩
      rw [cut]
      have hb : ∀ c ∈ (z.cps.toList.drop a).take m, c = 48 ∨ c = 49 := fun c hc => ho c (List.mem_of_mem_drop (List.mem_of_mem_take hc))
      have hm2 : ((z.cps.toList.drop a).take m).length ≤ m := by
        rw [List.length_take]
        exact Nat.min_le_left _ _
      have q := k2 (by omega)
      generalize (z.cps.toList.drop a).take m = l at hb hm2 q
      have e0 : (("0" : Str) ++ ⟨l.toArray⟩) = ⟨(48 :: l).toArray⟩ := cons_str 48 l
      refine ⟨_, _, rfl, rfl, ?_, ?_⟩
      · show 1 + l.toArray.size ≤ sizeLine
        rw [List.size_toArray]
        exact Nat.le_trans (show 1 + l.length ≤ 200 by omega) (by decide)
      rw [e0]
      refine ⟨_, rfl, (by simp), ?_, ?_, ?_⟩
      · show (48 :: l).toArray.size ≤ 640
        rw [List.size_toArray, List.length_cons]
        omega
      · intro c hc
        have hc : c ∈ 48 :: l := by simpa using hc
        rcases List.mem_cons.mp hc with e | e
        · exact .inl e
        · exact hb c e
      have e1 : KI.binNum (48 :: l).toArray.toList = valL l := by
        show KI.binNum (48 :: l) = valL l
        rw [bin_val _ fun c hc => ?_, valL_zero]
        rcases List.mem_cons.mp hc with e | e
        · exact .inl e
        · exact hb c e
      rw [e1]
      exact ⟨_, rfl, (by show 2 ≤ sizeLine; decide), fun p hp => q p hp⟩
end
end K08
namespace K08
open PySem PySem.Spec PyProof.Rows L2 PySem.W LamX KA KW KU
open Evl (pss_cut tCut)
section
variable {P : Program} {w : World} {K : PySem.W.Frag} {mg : Str → Option Value} {base : Heap} (T : Top K mg)
def spCheckS (K : PySem.W.Frag) (CB CA : Addr) : Sp := fun vs H Q E => ∃ x b y yb, vs = [x, y] ∧ Pl K H x b ∧ Pl K H y yb ∧ (∀ z, x = .str z → z.length ≤ 1000) ∧ (isBits x = false → E (.ref CB) none H) ∧
  (∀ z, x = .str z → isBits x = true → (within y 0 z.length = false → E (.ref CA) none H) ∧ (within y 0 z.length = true → Q .non H))
theorem isBits_str {x : V} (h : isBits x = true) : ∃ z, x = .str z := by
  cases x with
  | str z => exact ⟨z, rfl⟩
  | _ => cases h
theorem ok_check_stream : FnOk P w K mg base (L2.CX P w) 3 T.check_stream.a T.check_stream.d ["bits", "at"] (spCheckS K T.BadBits.C T.BadAt.C) := by
  refine T.check_stream.f.okX sc_check_stream (fun vs H Q E h => ?_) (fun cdv A outer s H vs Q E hr h => ?_)
  · obtain ⟨x, _, y, _, rfl, _⟩ := h
    rfl
  · obtain ⟨x, b, y, yb, rfl, hx, hy, hl, k1, k2⟩ := h
    refine ⟨_, pss_cons (ps_if (pt_not (pt_val (pe_call (ok_is_bits T) (hr.mono (by decide)) (by rfl) T.is_bits.m T.is_bits.f.kp (bd_is_bits T) .nil passE (pa_cons (pv 0) pa_nil))))
        (pss_one (ps_raiseT rfl rfl T.BadBits (by rfl) rfl (takes_of rfl rfl rfl rfl))) pss_nil)
      (pss_one (ps_if (pt_not (pt_val (pe_call (ok_is_within T) hr (by rfl) T.is_within.m T.is_within.f.kp (bd_is_within T) .nil passE (pa_cons (pv 1) (pa_cons pe_int (pa_cons (pe_callB call_len_str (by rfl) T.b_len PySem.boot_len (pa_cons (pv 0) pa_nil)) pa_nil))))))
        (pss_one (ps_raiseT rfl rfl T.BadAt (by rfl) rfl (takes_of rfl rfl rfl rfl))) pss_nil)), ?_⟩
    refine ⟨_, rfl, x, b, rfl, hx, hl, _, rfl, ?_⟩
    refine iteNot k1 fun e => ?_
    obtain ⟨z, rfl⟩ := isBits_str e
    obtain ⟨k3, k4⟩ := k2 z rfl e
    refine ⟨_, rfl, _, rfl, z, rfl, Nat.le_trans (hl z rfl) (by decide), y, yb, 0, _, rfl, hy, _, rfl, ?_⟩
    exact iteNot k3 k4
/-- as check_stream, and then as the promise sp tells -/
def spRead (K : PySem.W.Frag) (CB CA : Addr) (sp : Str → Nat → Hp → VK → XK → Prop) : V → V → Hp → VK → XK → Prop := fun x y H Q E => ∃ b yb, Pl K H x b ∧ Pl K H y yb ∧ (∀ z, x = .str z → z.length ≤ 1000) ∧ (isBits x = false → E (.ref CB) none H) ∧
  (∀ z, x = .str z → isBits x = true → (within y 0 z.length = false → E (.ref CA) none H) ∧ (∀ a : Nat, y = .int a → a ≤ z.length → sp z a H Q E))
end
end K08
namespace KU
open PySem PySem.W PySem.Calls PyProof.Rows PySem.HandSPX
/-! ### an own error raised where its context is told: within a try, and in an except suite from None -/
section
variable {prog : Program} {w : World} {A : Around} {R : Result → Shared → Prop} {s : Shared} {K : Frag} {mg mb : Str → Option Value} {C fI cda cc : Addr} {qual f : Str} {e : Expr}
structure UpMade6 (h h' : Heap) (e C d : Addr) (f : Str) (v : Value) : Prop where
  keep : ∀ a z, h.get? a = some z → h'.get? a = some z
  new : h.objs.size ≤ e
  obj : ∃ oe vs, h'.get? e = some oe ∧ oe.cls = .ref C ∧ oe.dict = some d ∧ oe.data = .fields vs ∧ vs[1]? = some .none ∧ vs[2]? = some .none ∧ 4 < vs.size
  big : h.objs.size ≤ d
  ne : d ≠ e
  ns : h'.Ns1 d (fun y => if y = f then some v else none)
theorem up_made6 (T : UpTxt prog K C fI cda cc qual f e) {v : Value} (X : K.In s.heap) (hlim : s.heap.NoLimit) (hg : s.heap.Ns mainGlobals mg) (hb : s.heap.Ns builtinsNs mb) (hbb : ∀ y : Str, y ≠ "__name__" → mb y = bootBuiltins y) (hroom : A.depth + 1 < recursionLimit)
    (text : ∀ (A' : Around) (E : Value → Shared → Prop) (s' : Shared) (L : Addr) (m : Str → Option Value) (Q : Value → Shared → Prop), A'.units ≤ A.units + 12 → (∀ b o, s.heap.get? b = some o → s'.heap.get? b = some o) → s'.heap.Ns L m → m f = some v → (∀ (z : Str) (t : Tok) (h' : Heap) (t' : Tok), (∀ b o, s'.heap.get? b = some o → h'.get? b = some o) → Q (.str z t) { s' with heap := h', toks := t' }) → wpAny (model prog w) A' (eval e (ksEnv qual (upScope f) L fI (.ref cda) cc)) Q E s')
    (hq : ∀ h' tk a d, UpMade6 s.heap h' a C d f v → R (.ok (.ret (.ref a))) { s with heap := h', toks := tk }) : codeAny (model prog w) A (.call (.ref C) ⟨[v], []⟩) R s := by
  obtain ⟨nm, q, N, bs, bm, sn, sub, ab, col, dd, k0, k1, k2, k3, k5, hC, hbm⟩ := T.obj
  obtain ⟨hp, g, dw, tk, os⟩ := s
  dsimp only at X hlim hg hb
  generalize hh : (hp.push (kdv_tup [v])).push (excO C hp.objs.size) = h1
  have k : ∀ b o, hp.get? b = some o → h1.get? b = some o := fun b o z => by
    rw [← hh]
    exact Heap.get?_push_of_some _ (Heap.get?_push_of_some _ z)
  have got : h1.get? (hp.objs.size + 1) = some (excO C hp.objs.size) := by
    rw [← hh]
    heap_get
  have fresh : K.lookup (hp.objs.size + 1) = none := by
    cases z : K.lookup (hp.objs.size + 1) with
    | none => rfl
    | some o => exact absurd (show hp.objs.size + 1 < hp.objs.size from Heap.lt_size (X _ _ z)) (Nat.not_lt.mpr (Nat.le_succ _))
  refine call_own F.excBase_ValueError (fun Y => refsVE_contains Y bm hbm) (X _ _ hC) (looks_findIn X T.iC) (fun self => bind_fn X self T.tC) (by show 1 ≤ sizeLine; decide) ?_
  rw [hh]
  refine up_init (s := ⟨h1, g, dw, tk, os⟩) T (X.keeps k) (hlim.keeps k) (hg.keeps k) (hb.keeps k) hbb got fresh hroom (fun A' E s' L m Q un kp => text A' E s' L m Q (Nat.le_trans un (by show A.units + 1 + 4 ≤ A.units + 12; omega)) fun b o z => kp b o (k b o z)) fun h' tk' dx t1 Z => ?_
  have size1 : hp.objs.size ≤ h1.objs.size := Nat.le_of_lt (Nat.lt_of_succ_lt (Heap.lt_size got))
  exact ⟨rfl, hq h' tk' (hp.objs.size + 1) dx ⟨fun b o z => Z.keep b o (Nat.ne_of_lt (Nat.lt_succ_of_lt (Heap.lt_size z))) (k b o z), Nat.le_succ _, ⟨_, _, Z.obj, rfl, rfl, rfl, rfl, rfl, by show 4 < 6; decide⟩, Nat.le_trans size1 Z.big, Z.ne, Z.ns⟩⟩
end
end KU
namespace KU
open PySem PySem.Spec PyProof.Rows L2
section
variable {X : Cx} {C fI cda cc : Addr} {qual f x : Str} {e : Expr}
theorem pmk_upN {a : Expr} {ta : TA} {p pos : Pos} {k : Nat} (T : UpTxt X.prog X.K C fI cda cc qual f e) (gC : X.mg x = some (.ref C)) (hr : Room k X.A) (ha : PA X [a] ta) (hg : Gl X x) (hdb : (x == ("__debug__" : Str)) = false := by decide) (he : starEach (a :: []) X.env = (false, eval a X.env) :: starEach [] X.env := by rfl) (hpl : (backTo pos (starEach [] X.env)).any (·.1) = false := by rfl) :
    L2N.PMk X (.Call (.Name x p) [a] [] pos) (tMkUp (Text X.prog X.w fI cda cc qual f e) C f ta) := by
  intro pins s σ H Q I h
  refine wpAny_Call_Name_kw (ld_glob I hg gC (PySem.W.callWith_K (h₀ := X.base) I.ok.mod.kin T.kC (thn (ha.run pos pins s σ H _ I h) fun us s1 hh => ?_) he hpl) hdb)
  obtain ⟨vs, H1, I1, r1, v, rfl, ht, q1⟩ := hh
  refine ⟨I1.kIn, ?_⟩
  cases r1 with
  | cons rv rn =>
    rename_i v' us'
    cases rn
    change wpAny _ _ (call (.ref C) [v']) _ _ _
    obtain ⟨mb, b1, b2⟩ := I1.mod.blt
    have lim := I1.nolimit
    have glob := I1.mod.glob.keeps I1.bk
    have blt := b1.keeps I1.bk
    have dp := hr.dp
    obtain ⟨hp, g, dw, tk, os⟩ := s1
    refine wpAny_call (up_made6 T I1.kIn lim glob blt b2 (by omega) (fun A' E s' L m Q _ _ hn hm k => ht v' rv A' E s' L m Q hn hm fun z t t' => k z t s'.heap t' fun _ _ e => e) fun h' tk' a' d M => ?_)
    show L2N.MkP X pins σ Q (.ref a') ⟨h', g, dw, tk', os⟩
    obtain ⟨oe, fv, hoe, hc, hd, hdat, one, two, six⟩ := M.obj
    obtain ⟨G, in_, out⟩ := restrict h' fun b => decide (b ≠ a')
    have same : ∀ b, b ≠ a' → G.get? b = h'.get? b := fun b hb => in_ b (decide_eq_true hb)
    have gone : G.get? a' = none := out a' (by simp)
    have stay : ∀ b o, hp.get? b = some o → G.get? b = some o := fun b o z => (same b (Nat.ne_of_lt (Nat.lt_of_lt_of_le (Heap.lt_size z) M.new))).trans (M.keep b o z)
    have own : ObjOk X.prog X.w (upd H1 d (.xd [(f, v)])) G d (.xd [(f, v)]) := ⟨_, M.ns.at (fun o z => (same d M.ne).trans z), fun y => relO_up rv y⟩
    have J : Inv X pins σ (upd H1 d (.xd [(f, v)])) ⟨G, g, dw, tk', os⟩ := I1.laid (t' := tk') stay M.big own
    refine ⟨a', oe, fv, ⟨G, g, dw, tk', os⟩, _, .ref C, some d, rfl, J, fun b o z => ?_, gone, hoe, ⟨hc, hd, fun ws z => by rw [hdat] at z; cases z; exact two⟩, hdat, one, ?_, rfl, I1.bare, raises_own T.exC T.tyC, q1 d (I1.hok.fresh M.big)⟩
    · have hb : b ≠ a' := fun y => by
        rw [y] at z
        exact absurd (gone.symm.trans z) (by simp)
      exact (same b hb).symm.trans z
    · rw [upd_ne (Ne.symm M.ne)]
      exact I1.hok.fresh M.new
theorem pmk5_up {a : Expr} {ta : TA} {p pos : Pos} (T : UpTxt X.prog X.K C fI cda cc qual f e) (gC : X.mg x = some (.ref C)) (hr : X.A.depth + 1 < recursionLimit) (ha : PA X [a] ta) (hg : Gl X x) (hdb : (x == ("__debug__" : Str)) = false := by decide) (he : starEach (a :: []) X.env = (false, eval a X.env) :: starEach [] X.env := by rfl) (hpl : (backTo pos (starEach [] X.env)).any (·.1) = false := by rfl) :
    L2H.PMk5 X (.Call (.Name x p) [a] [] pos) (tMkUp (Text X.prog X.w fI cda cc qual f e) C f ta) := by
  intro pins s σ H Q I h
  refine wpAny_Call_Name_kw (ld_glob I hg gC (PySem.W.callWith_K (h₀ := X.base) I.ok.mod.kin T.kC (thn (ha.run pos pins s σ H _ I h) fun us s1 hh => ?_) he hpl) hdb)
  obtain ⟨vs, H1, I1, r1, v, rfl, ht, q1⟩ := hh
  refine ⟨I1.kIn, ?_⟩
  cases r1 with
  | cons rv rn =>
    rename_i v' us'
    cases rn
    change wpAny _ _ (call (.ref C) [v']) _ _ _
    obtain ⟨mb, b1, b2⟩ := I1.mod.blt
    have lim := I1.nolimit
    have glob := I1.mod.glob.keeps I1.bk
    have blt := b1.keeps I1.bk
    have dp := hr
    obtain ⟨hp, g, dw, tk, os⟩ := s1
    refine wpAny_call (up_made6 T I1.kIn lim glob blt b2 (by omega) (fun A' E s' L m Q _ _ hn hm k => ht v' rv A' E s' L m Q hn hm fun z t t' => k z t s'.heap t' fun _ _ e => e) fun h' tk' a' d M => ?_)
    show L2N.MkP X pins σ Q (.ref a') ⟨h', g, dw, tk', os⟩ ∧ L2H.Six (.ref a') ⟨h', g, dw, tk', os⟩
    obtain ⟨oe, fv, hoe, hc, hd, hdat, one, two, six⟩ := M.obj
    obtain ⟨G, in_, out⟩ := restrict h' fun b => decide (b ≠ a')
    have same : ∀ b, b ≠ a' → G.get? b = h'.get? b := fun b hb => in_ b (decide_eq_true hb)
    have gone : G.get? a' = none := out a' (by simp)
    have stay : ∀ b o, hp.get? b = some o → G.get? b = some o := fun b o z => (same b (Nat.ne_of_lt (Nat.lt_of_lt_of_le (Heap.lt_size z) M.new))).trans (M.keep b o z)
    have own : ObjOk X.prog X.w (upd H1 d (.xd [(f, v)])) G d (.xd [(f, v)]) := ⟨_, M.ns.at (fun o z => (same d M.ne).trans z), fun y => relO_up rv y⟩
    have J : Inv X pins σ (upd H1 d (.xd [(f, v)])) ⟨G, g, dw, tk', os⟩ := I1.laid (t' := tk') stay M.big own
    refine ⟨?_, fun a2 oe2 vs2 z1 z2 z3 => by cases z1; rw [show Shared.heap ⟨h', g, dw, tk', os⟩ = h' from rfl, hoe] at z2; cases z2; rw [hdat] at z3; cases z3; exact six⟩
    refine ⟨a', oe, fv, ⟨G, g, dw, tk', os⟩, _, .ref C, some d, rfl, J, fun b o z => ?_, gone, hoe, ⟨hc, hd, fun ws z => by rw [hdat] at z; cases z; exact two⟩, hdat, one, ?_, rfl, I1.bare, raises_own T.exC T.tyC, q1 d (I1.hok.fresh M.big)⟩
    · have hb : b ≠ a' := fun y => by
        rw [y] at z
        exact absurd (gone.symm.trans z) (by simp)
      exact (same b hb).symm.trans z
    · rw [upd_ne (Ne.symm M.ne)]
      exact I1.hok.fresh M.new
/-- raise x(a), the context told -/
theorem ps_raiseUpN {a : Expr} {ta : TA} {W : WX} {p pos pos2 : Pos} {k : Nat} (hc : X.calm = true) (T : UpTxt X.prog X.K C fI cda cc qual f e) (gC : X.mg x = some (.ref C)) (hr : Room k X.A) (tk : L2N.Takes X W) (ha : PA X [a] ta) (hg : Gl X x) (hdb : (x == ("__debug__" : Str)) = false := by decide) (he : starEach (a :: []) X.env = (false, eval a X.env) :: starEach [] X.env := by rfl) (hpl : (backTo pos (starEach [] X.env)).any (·.1) = false := by rfl) :
    PS X (.Raise (some (.Call (.Name x p) [a] [] pos)) none pos2) (fun _ σ H => tMkUp (Text X.prog X.w fI cda cc qual f e) C f ta σ H fun cls d H' => W cls d σ H') := L2N.ps_raise hc tk (pmk_upN T gC hr ha hg hdb he hpl)
/-- raise x(a) from None, in an except suite -/
theorem ps_raiseUpHN {P : Program} {w : World} {a : Expr} {ta : TA} {W : WX} {p pos pos2 cpos : Pos} {j : Nat} (hP : X.prog = P) (hw : X.w = w) (hc : L2H.HotC X) (T : UpTxt X.prog X.K C fI cda cc qual f e) (gC : X.mg x = some (.ref C)) (hr : X.A.depth + 1 < recursionLimit) (tk : Takes X W) (ha : PA X [a] ta) (hg : Gl X x) (hdb : (x == ("__debug__" : Str)) = false := by decide) (he : starEach (a :: []) X.env = (false, eval a X.env) :: starEach [] X.env := by rfl) (hpl : (backTo pos (starEach [] X.env)).any (·.1) = false := by rfl) :
    PS X (.Raise (some (.Call (.Name x p) [a] [] pos)) (some (.Constant .none j cpos)) pos2) (fun _ σ H => tMkUp (Text P w fI cda cc qual f e) C f ta σ H fun cls d H' => W cls d σ H') := by
  subst hP hw
  exact L2H.ps_raiseHN hc tk (pmk5_up T gC hr ha hg hdb he hpl)
/-- a def whose errors tell their context -/
theorem Fun.okXN {P : Program} {w : World} {K : PySem.W.Frag} {mg : Str → Option Value} {base : Heap} {x qual : Str} {st : Stmt} {f : Addr} {fd : FuncData} {N ps : List Str} {k : Nat} {sp : Sp} (F : Fun K x qual st f fd) (S : FnScope N ps (defScope st)) (len : ∀ vs H Q E, sp vs H Q E → vs.length = ps.length)
    (hbody : ∀ cdv A outer s H vs Q E, Room k (A.deeper (envOfC qual (defScope st) s.heap.objs.size f cdv)) → sp vs H Q E → ∃ t, PSs (cxOf (L2N.CX P w) P w K mg base N qual (defScope st) f cdv A outer s H E) (defBody st) t ∧ t { nx := fun _ H' => Q .non H', rt := Q } (L2.start N vs) H) :
    FnOk P w K mg base (L2N.CX P w) (k + 1) f fd ps sp := by
  obtain ⟨_, _, _, _, _, _, cdv, _, _, rfl, lk, hcd⟩ := F.ex
  exact fn_of lk hcd S len (hbody cdv)
end
end KU
namespace KMKS
open PySem PySem.Spec PyProof.Rows L2 PySem.W PySem.Calls
/-! ### x(e, ..) of an own class within a try: what is raised may look at the names -/
theorem run_makeS {X : Cx} {CX : CXT} {k : Nat} {f C : Addr} {fd : FuncData} {ps : List Str} {sp : Sp} {E : XK} {pins : List (Addr × Obj)} {σ : L2.St} {H : Hp} {s : Shared} {Q : VK} {us : List Value} {vs : List V}
    (M : Mk X.K C f) (F : FnOk X.prog X.w X.K X.mg X.base CX k f fd ps sp) (hr : Room (k + 1) X.A) (hb : L2.Binds X.K fd ps []) (hx : PassesAt CX X σ E) (I : L2.Inv X pins σ H s) (r : Vals vs us)
    (h : ∀ x dx : Addr, H x = none → H dx = none → dx ≠ x → sp (V.ref x :: vs) (upd (upd H dx (HO.own x)) x (HO.ins C dx [])) (fun v H2 => v = V.non ∧ Q (V.ref x) H2) E) :
    wpAny (model X.prog X.w) X.A (call (Value.ref C) us) (EP X pins σ Q) X.xe s := by
  have hq := h (s.heap.objs.size + 1) s.heap.objs.size (HOk.fresh I.hok (Nat.le_succ s.heap.objs.size)) (HOk.fresh I.hok (Nat.le_refl s.heap.objs.size)) (Nat.ne_of_lt (Nat.lt_succ_self s.heap.objs.size))
  have J2 := Inv.made (C := C) I
  have r2 : Vals (V.ref (s.heap.objs.size + 1) :: vs) (Value.ref (s.heap.objs.size + 1) :: us) := Paired.cons rfl r
  have hl : (Value.ref (s.heap.objs.size + 1) :: us).length = ps.length := by
    rw [← Vals.length r2]
    exact F.len _ _ _ _ hq
  refine wpAny_call (make_map (Inv.kIn I) M.makes M.init (beq_iff_eq.mp M.fn) (codeAny_mono (F.run (X.A.under (Code.builtin "type.__call__" { pos := Value.ref C :: us })) X.stack { heap := (s.heap.push emptyDict).push (instObj C s.heap.objs.size), gens := s.gens, drawn := s.drawn, toks := s.toks, os := s.os }
    (upd (upd H s.heap.objs.size (HO.own (s.heap.objs.size + 1))) (s.heap.objs.size + 1) (HO.ins C s.heap.objs.size [])) { pos := Value.ref (s.heap.objs.size + 1) :: us } (Value.ref (s.heap.objs.size + 1) :: us) (V.ref (s.heap.objs.size + 1) :: vs) (fun v H2 => v = V.non ∧ Q (V.ref (s.heap.objs.size + 1)) H2) E
    (Room.make hr C us []) (Env0.make (Inv.env0 J2) C us []) ?_ r2 hq) fun r' s' hq' => ?_))
  · have := hb { heap := (s.heap.push emptyDict).push (instObj C s.heap.objs.size), gens := s.gens, drawn := s.drawn, toks := s.toks, os := s.os } (Value.ref (s.heap.objs.size + 1) :: us) (Inv.kIn J2) (by rw [List.append_nil]; exact hl)
    rw [List.append_nil] at this
    exact this
  · cases r' with
    | error e => exact hx pins _ _ e s' J2 hq'
    | ok fl =>
      cases fl with
      | ret u =>
        obtain ⟨v, H', I3, rv, ev, q3⟩ := Inv.after J2 hq'
        subst ev
        exact ⟨rv, V.ref (s.heap.objs.size + 1), H', I3, rfl, q3⟩
      | _ => exact False.elim hq'
/-- x(e, ..), the def's errors going to a wish that looks at the names -/
def tMakeS (C : Addr) (sp : Sp) (E : L2.St → XK) (t : TA) : TE := fun σ H Q => t σ H fun vs H1 => ∀ x dx, H1 x = none → H1 dx = none → dx ≠ x → sp (.ref x :: vs) (upd (upd H1 dx (.own x)) x (.ins C dx [])) (fun v H2 => v = .non ∧ Q (.ref x) H2) (E σ)
theorem pe_makeS {X : Cx} {CX : CXT} {k : Nat} {f C : Addr} {fd : FuncData} {ps : List Str} {sp : Sp} {E : L2.St → XK} {x : Str} {p pos : Pos} {e : Expr} {es : List Expr} {t : TA}
    (M : Mk X.K C f) (F : FnOk X.prog X.w X.K X.mg X.base CX k f fd ps sp) (hr : Room (k + 1) X.A) (hg : Gl X x) (hm : X.mg x = some (Value.ref C)) (hb : L2.Binds X.K fd ps []) (hx : ∀ σ, PassesAt CX X σ (E σ)) (ha : PA X (e :: es) t) (hdb : (x == ("__debug__" : Str)) = false := by decide) (he : starEach (e :: es) X.env = (false, eval e X.env) :: starEach es X.env := by rfl) (hpl : (backTo pos (starEach es X.env)).any (·.1) = false := by rfl) :
    PE X (.Call (.Name x p) (e :: es) [] pos) (tMakeS C sp E t) := by
  refine ⟨fun pins s σ H Q I hall => ?_⟩
  refine wpAny_Call_Name_kw (ld_glob I hg hm (callWith_K I.ok.mod.kin M.kp (thn (ha.run pos pins s σ H _ I hall) fun us s1 hh => ?_) he hpl) hdb)
  obtain ⟨vs, H1, I1, r, q⟩ := hh
  exact ⟨Inv.kIn I1, run_makeS M F hr hb (hx σ) I1 r q⟩
end KMKS
namespace KSTAR
open PySem PySem.Spec PyProof.Rows L2 PySem.W PySem.Calls
/-! ### a, b, *c = [..]: a starred name last (or amid), of a list -/
theorem star_list {prog : Program} {w : World} {A : Around} {E : Value → Shared → Prop} {s : Shared} {l : Addr} {items : Array Value} {n i : Nat} {Q : List Value → Shared → Prop}
    (hl : s.heap.IsList l items) (hh : A.handled = none) (hi : i < n) (hn : n ≤ items.size + 1) (hz : items.size ≤ sizeLine)
    (h : ∀ (h₂ : Heap) (tk : Nat), (∀ b o, s.heap.get? b = some o → h₂.get? b = some o) →
      Q (List.take i items.toList ++ [Value.ref h₂.objs.size] ++ List.drop (items.size + 1 - n) (List.drop i items.toList)) { heap := h₂.push { cls := Value.type "list", data := Data.seq (List.take (items.size + 1 - n) (List.drop i items.toList)).toArray }, gens := s.gens, drawn := s.drawn, toks := tk, os := s.os }) :
    wpAny (model prog w) A (unpackItems (.ref l) n (some i)) Q E s := by
  obtain ⟨o, ho, hr⟩ := id hl
  have hlt : l ≠ s.heap.objs.size := Nat.ne_of_lt (Heap.lt_size ho)
  have hll : l < s.heap.objs.size := Heap.lt_size ho
  unfold unpackItems
  refine wpAny_bind ?_
  show wpAny _ _ (specialOf _ _ >>= _) _ _ _
  refine wpAny_bind (wpAny_specialOf hl.typeIs F.slot_list_iter.lookup (wpAny_pure ?_))
  simp only [if_false, Bool.false_eq_true, Option.isNone_some]
  refine wpAny_bind <| wpAny_holding <| wpAny_pyIter_list hl ?_
  refine wpAny_bind (wpAny_holding (kun_draw hlt i 0 _ _ ⟨_, Heap.get?_push_size s.heap rfl, rfl, rfl⟩ (hl.push _) (by omega) fun h₁ hit₁ hs₁ => ?_))
  have hl₁ := (hl.push { cls := Value.type "list_iterator", data := Data.fields #[Value.ref l, Value.int 0 0] }).extBut hs₁.extBut hlt
  have hit₁ : h₁.IsListIter s.heap.objs.size l i := (Nat.zero_add i) ▸ hit₁
  obtain ⟨oi, hoi, _⟩ := id hit₁
  obtain ⟨ol, hol, _⟩ := id hl₁
  rw [List.drop_zero]
  have hfl : (List.take i items.toList).length = i := by
    rw [List.length_take, Array.length_toList]
    omega
  rw [if_neg (by rw [hfl]; omega)]
  refine wpAny_bind (wpAny_holding (kun_collect (k := i) (Or.inr (Or.inr (Or.inl rfl))) (Walks.list (A := A.in1) hh s.heap.objs.size l hlt items) (fun j u st => st.1.typeIs) (by omega) ⟨hit₁, hl₁⟩ (Heap.lt_size hoi) (Heap.lt_size hol) (fun h₂ tk hk => ?_) hz))
  have hrl : (List.drop i items.toList).length = items.size - i := by rw [List.length_drop, Array.length_toList]
  rw [if_neg fun c => by rw [hrl] at c; omega]
  refine wpAny_bind (wpAny_newList ?_ (by rw [List.length_take, hrl]; omega))
  refine wpAny_pure ?_
  have keep : ∀ b o, s.heap.get? b = some o → h₂.get? b = some o := fun b o e => by
    have nb : b ≠ s.heap.objs.size := Nat.ne_of_lt (Heap.lt_size e)
    exact hk b o nb (hs₁.extBut b o nb (Heap.get?_push_of_some _ e))
  rw [show (List.drop i items.toList).length - (n - 1 - i) = items.size + 1 - n from by rw [hrl]; clear hfl; omega]
  exact h h₂ tk keep
theorem vals_take : ∀ (i : Nat) {xs : List V} {us : List Value}, Vals xs us → Vals (xs.take i) (us.take i)
  | 0, _, _, _ => .nil
  | i + 1, _, _, .nil => .nil
  | i + 1, _, _, .cons h t => .cons h (vals_take i t)
theorem vals_drop : ∀ (i : Nat) {xs : List V} {us : List Value}, Vals xs us → Vals (xs.drop i) (us.drop i)
  | 0, _, _, r => r
  | i + 1, _, _, .nil => .nil
  | i + 1, _, _, .cons h t => vals_drop i t
theorem vals_app : ∀ {xs ys : List V} {us vs : List Value}, Vals xs us → Vals ys vs → Vals (xs ++ ys) (us ++ vs)
  | _, _, _, _, .nil, r => r
  | _, _, _, _, .cons h t, r => .cons h (vals_app t r)
section
variable {X : Cx}
theorem pgs_star {e : Expr} {es : List Expr} {p : Pos} {t : TG} {u : TGs} (h1 : PG X e t) (h2 : PGs X es u)
    (hs : (assignEach (.Starred e p :: es) X.env).map (·.2) = assign e X.env :: (assignEach es X.env).map (·.2) := by rfl) : PGs X (.Starred e p :: es) (gCons t u) := by
  refine ⟨fun pins s σ H vs us Q I r hall => ?_⟩
  obtain ⟨v, vr, rfl, h⟩ := hall
  cases r with
  | cons r rr =>
  rw [hs]
  refine assignInOrder_cons (thn (h1.run pins s σ H v _ (fun σ' H' => u vr σ' H' Q) I r h) fun x s1 hx => ?_)
  obtain ⟨σ1, H1, I1, q1⟩ := hx
  exact h2.run pins s1 σ1 H1 vr _ Q I1 rr q1
/-- the targets take the first i, then a new list, then the last ones -/
def gStar (K : Frag) (n i : Nat) (t : TGs) : TG := fun v σ H Q => ∃ a xs, v = V.ref a ∧ SqL K H a xs ∧ n ≤ xs.length + 1 ∧ ∀ d, H d = none → t (xs.take i ++ [V.ref d] ++ (xs.drop i).drop (xs.length + 1 - n)) σ (upd H d (.lst ((xs.drop i).take (xs.length + 1 - n)))) Q
theorem pg_star {pos : Pos} {es : List Expr} {k n i : Nat} {t : TGs} (hc : X.calm = true) (h : PGs X es t) (hi : i < n) (hn : (assignEach es X.env).length = n := by rfl) (hst : List.findIdx? (fun x => x.1) (assignEach es X.env) = some i := by rfl) : PG X (.Tuple es k pos) (gStar X.K n i t) := by
  refine ⟨fun pins s σ H v u Q I r hall => ?_⟩
  obtain ⟨a, xs, rfl, hq, hl, hw⟩ := hall
  obtain rfl : u = Value.ref a := r
  obtain ⟨its, rv, ht, hz⟩ := I.list hq
  have lx := rv.length
  rw [assign_Tuple]
  refine wpAny_bind <| wpAny_standAt ?_
  unfold unpack
  rw [hn, hst]
  refine wpAny_bind (wpAny_holding (star_list ht.isList (I.ok.hd hc) hi (by rw [List.size_toArray]; omega) (by rw [List.size_toArray]; omega) fun h₂ tk hk => ?_))
  have I1 := I.kept (t' := tk) hk
  have I2 := I1.lnew (t' := tk) (ys := (xs.drop i).take (xs.length + 1 - n)) (vals_take _ (vals_drop i rv)) (Nat.le_trans (List.length_take_le _ _) (Nat.le_trans (by omega) hz))
  have fr : H h₂.objs.size = none := I1.hok.fresh (Nat.le_refl _)
  have e : its.toArray.size + 1 - n = xs.length + 1 - n := by rw [List.size_toArray, lx]
  rw [e]
  exact h.run pins _ σ _ _ _ Q I2 (vals_app (vals_app (vals_take i rv) (Paired.cons (show RelV (V.ref h₂.objs.size) (Value.ref h₂.objs.size) from rfl) .nil)) (vals_drop _ (vals_drop i rv))) (hw _ fr)
end
end KSTAR
namespace K08
open PySem PySem.Spec PyProof.Rows L2 PySem.W LamX KA KW KU KL KT
open Evl (pss_cut tCut)
/-! ### a head is read -/
section
variable {P : Program} {w : World} {K : PySem.W.Frag} {mg : Str → Option Value} {base : Heap} (T : Top K mg) (MD : ModesT K mg) (HD : HeadT K mg) (BH : BadHeadT P w K mg T.reel.C) (HQ : HeadQ K mg HD) (ST : StreamT P w K mg T.reel.C)
include T BH MD in
theorem ok_initN : FnOk P w K mg base (L2N.CX P w) 5 HD.f HD.d ["self", "kind", "loss", "grade", "reach", "book"] (spInit K HD.C BH.C) := by
  refine KU.Fun.okXN HD.F sc_Head_init (fun vs H Q E h => ?_) (fun cdv A outer s H vs Q E hr h => ?_)
  · obtain ⟨a, dx, x1, x2, x3, x4, x5, _, _, _, _, _, rfl, _⟩ := h
    rfl
  · obtain ⟨a, dx, x1, x2, x3, x4, x5, b1, b2, b3, b4, o, rfl, p1, p2, p3, p4, p5, ha, e1, k1⟩ := h
    refine ⟨_, (pss_cons (ps_if (pt_not (pt_val (pe_call (ok_is_within T) (hr.mono (by decide)) (by rfl) T.is_within.m T.is_within.f.kp (bd_is_within T) .nil passE (pa_cons (pv 1) (pa_cons pe_int (pa_cons pe_int pa_nil)))))) (pss_one (ps_raiseUpN rfl BH.u BH.g hr (L2N.takes_of rfl rfl rfl rfl) (pa_cons pe_str pa_nil) (by rfl))) pss_nil)
      (pss_cons (ps_if (pt_not (pt_val (pe_call (ok_is_within T) (hr.mono (by decide)) (by rfl) T.is_within.m T.is_within.f.kp (bd_is_within T) .nil passE (pa_cons (pv 2) (pa_cons pe_int (pa_cons pe_int pa_nil)))))) (pss_one (ps_raiseUpN rfl BH.u BH.g hr (L2N.takes_of rfl rfl rfl rfl) (pa_cons pe_str pa_nil) (by rfl))) pss_nil)
      (pss_cons (ps_if (pt_not (pt_val (pe_call (ok_is_within T) (hr.mono (by decide)) (by rfl) T.is_within.m T.is_within.f.kp (bd_is_within T) .nil passE (pa_cons (pv 3) (pa_cons pe_int (pa_cons pe_int pa_nil)))))) (pss_one (ps_raiseUpN rfl BH.u BH.g hr (L2N.takes_of rfl rfl rfl rfl) (pa_cons pe_str pa_nil) (by rfl))) pss_nil)
      (pss_cons (ps_if (pt_not (pt_val (pe_call (ok_is_within T) (hr.mono (by decide)) (by rfl) T.is_within.m T.is_within.f.kp (bd_is_within T) .nil passE (pa_cons (pv 4) (pa_cons pe_int (pa_cons pe_int pa_nil)))))) (pss_one (ps_raiseUpN rfl BH.u BH.g hr (L2N.takes_of rfl rfl rfl rfl) (pa_cons pe_str pa_nil) (by rfl))) pss_nil)
      (pss_cons (ps_if (pt_not (pt_val (pe_call (ok_is_book T MD) (hr.mono (by decide)) (by rfl) T.is_book.m T.is_book.f.kp (bd_is_book T) .nil passE (pa_cons (pv 1) (pa_cons (pv 5) pa_nil))))) (pss_one (ps_raiseUpN rfl BH.u BH.g hr (L2N.takes_of rfl rfl rfl rfl) (pa_cons pe_str pa_nil) (by rfl))) pss_nil)
      (pss_cons (ps_fld (pv 0) (pv 1) rfl)
      (pss_cons (ps_fld (pv 0) (pv 2) rfl)
      (pss_cons (ps_fld (pv 0) (pv 3) rfl)
      (pss_cons (ps_fld (pv 0) (pv 4) rfl)
      (pss_one (ps_fld (pv 0) (pv 5) rfl))))))))))), ?_⟩
    refine ⟨_, rfl, _, b1, _, _, rfl, p1, _, rfl, iteNot (fun q => ?_) fun q => ?_⟩
    · refine ⟨_, rfl, fun v' r => ?_, e1 q⟩
      obtain ⟨t, rfl⟩ := r
      exact BH.sayS _ t (by decide)
    obtain ⟨kd, rfl, h1, h2⟩ := within_int q
    obtain ⟨e2, k2⟩ := k1 kd rfl h1 h2
    refine ⟨_, rfl, _, b2, _, _, rfl, p2, _, rfl, iteNot (fun q => ?_) fun q => ?_⟩
    · refine ⟨_, rfl, fun v' r => ?_, e2 q⟩
      obtain ⟨t, rfl⟩ := r
      exact BH.sayS _ t (by decide)
    obtain ⟨lo, rfl, h3, h4⟩ := within_int q
    obtain ⟨e3, k3⟩ := k2 lo rfl h3 h4
    refine ⟨_, rfl, _, b3, _, _, rfl, p3, _, rfl, iteNot (fun q => ?_) fun q => ?_⟩
    · refine ⟨_, rfl, fun v' r => ?_, e3 q⟩
      obtain ⟨t, rfl⟩ := r
      exact BH.sayS _ t (by decide)
    obtain ⟨gr, rfl, h5, h6⟩ := within_int q
    obtain ⟨e4, k4⟩ := k3 gr rfl h5 h6
    refine ⟨_, rfl, _, b4, _, _, rfl, p4, _, rfl, iteNot (fun q => ?_) fun q => ?_⟩
    · refine ⟨_, rfl, fun v' r => ?_, e4 q⟩
      obtain ⟨t, rfl⟩ := r
      exact BH.sayS _ t (by decide)
    obtain ⟨re, rfl, h7, h8⟩ := within_int q
    have k5 := k4 re rfl h7 h8
    refine ⟨_, rfl, _, rfl, x5, o, kd, rfl, p5, fun H1 s1 => ⟨_, rfl, iteNot (fun q => ?_) fun q => ?_⟩⟩
    · refine ⟨_, rfl, fun v' r => ?_, (k5 H1 s1).1 q⟩
      obtain ⟨t, rfl⟩ := r
      exact BH.sayS _ t (by decide)
    have k6 := (k5 H1 s1).2
    obtain ⟨ns, rfl, l8, _⟩ := book_nv q
    cases p5 with
    | @tup b xs eb pb lb =>
    have k7 := k6 b ns rfl rfl q (s1 _ _ eb)
    refine ⟨_, rfl, _, rfl, a, HD.C, dx, [], rfl, s1 _ _ ha, HD.i.cl, HD.n1, by decide, _, rfl, _, rfl, a, HD.C, dx, _, rfl, upd_same, HD.i.cl, HD.n2, (by show 1 < 1000; decide), _, rfl, _, rfl, a, HD.C, dx, _, rfl, upd_same, HD.i.cl, HD.n3, (by show 2 < 1000; decide),
      _, rfl, _, rfl, a, HD.C, dx, _, rfl, upd_same, HD.i.cl, HD.n4, (by show 3 < 1000; decide), _, rfl, _, rfl, a, HD.C, dx, _, rfl, upd_same, HD.i.cl, HD.n5, (by show 4 < 1000; decide), ?_⟩
    refine k7 _ upd_same fun b hb => ?_
    rw [upd_ne hb, upd_ne hb, upd_ne hb, upd_ne hb, upd_ne hb]
def rTupK (K : PySem.W.Frag) : List V → Hp → VK → Prop := fun xs H Q => ∃ p ys, xs = [.ref p] ∧ ((SqL K H p ys ∧ ∀ l, H l = none → Q (.ref l) (upd H l (.tup ys))) ∨ (SqT K H p ys ∧ Q (.ref p) H))
theorem depth1 {k : Nat} {A : Around} (r : Room k A) : A.depth + 1 < recursionLimit := by have := r.dp; omega
/-- the j-th of the eleven parts behind the kind -/
def partN (l : List Nat) (a j : Nat) : Nat := valL ((l.drop (a + 2 + 3 * j)).take 3)
def rawH (l : List Nat) (a : Nat) : Hdv := ⟨(valL ((l.drop a).take 2) : Nat), (partN l a 0 : Nat), (partN l a 1 : Nat), (partN l a 2 : Nat), (List.range 8).map fun j => partN l a (j + 3)⟩
def fitsH (h : Hdv) : Bool := decide (h.kd ≤ 2) && decide (h.re ≤ 4) && bookB h.kd (some (NV h.ns))
def readO (z : Str) (a : Nat) : Option Hdv := if z.length < a + 35 then none else if fitsH (rawH z.cps.toList a) = true then some (rawH z.cps.toList a) else none
theorem partN_lt (l : List Nat) (a j : Nat) : partN l a j < 8 := by
  unfold partN
  refine Nat.lt_of_lt_of_le (valL_lt _) ?_
  show _ ≤ 2 ^ 3
  exact Nat.pow_le_pow_right (by decide) (List.length_take_le _ _)
theorem rng_at (s : Nat) (h : s ≤ 1100) : RgC (s : Int) ((s : Int) + 33) 3 11 := by
  have e : Builtin.Range.rangeSize (s : Int) ((s : Int) + 33) 3 = ((11 : Nat) : Int) := by
    unfold Builtin.Range.rangeSize
    simp
    omega
  refine ⟨by decide, by decide, ?_, e⟩
  unfold Builtin.Range.small
  rw [e]
  unfold Builtin.Range.rangeFitsLong
  simp
  omega
def spTake (CB C : Addr) : Sp := fun vs H Q E => ∃ (z : Str) (a : Nat), vs = [.str z, .int (a : Int)] ∧ Ones z ∧ z.length ≤ 900 ∧ a ≤ z.length ∧
  (readO z a = none → ∀ H', Same H H' → ∀ d, H' d = none → E (.ref CB) (some d) (upd H' d (.xd [("at", .int (a : Int))]))) ∧
  (∀ h, readO z a = some h → ∀ H' x t, Same H H' → Hd C H' x h → H' t = some (.tup [x, .int ((a + 35 : Nat) : Int)]) → Q (.ref t) H')
include MD HD BH in
theorem ok_take_head : FnOk P w K mg base (L2.CX P w) 7 T.take_head.a T.take_head.d ["bits", "at"] (spTake ST.C HD.C) := by
  refine T.take_head.f.okX sc_take_head (fun vs H Q E h => ?_) (fun cdv A outer s H vs Q E hr h => ?_)
  · obtain ⟨z, a, rfl, _⟩ := h
    rfl
  · obtain ⟨z, a, rfl, oz, lz, la, k1, k2⟩ := h
    obtain ⟨tK, hcK⟩ := T.cBITS_OF_KIND
    obtain ⟨tP, hcP⟩ := T.cBITS_OF_PART
    obtain ⟨tH, hcH⟩ := T.cBITS_OF_HEAD
    have dp1 := depth1 hr
    refine ⟨_, (pss_cons (ps_set (i := 2) sc_take_head.nd rfl (by first | exact .inl rfl | exact .inr rfl) (pe_op op_add (pv 1) (pe_glob (v := .int 35) (by rfl) hcH ⟨_, rfl⟩)))
      (pss_cons (ps_if (pt_cmpR op_gt (pv 2) (pe_callB call_len_str (by rfl) T.b_len PySem.boot_len (pa_cons (pv 0) pa_nil)) (nomark _)) (pss_one (ps_raiseUp rfl ST.u ST.g hr (takes_of rfl rfl rfl rfl) (pa_cons (pv 1) pa_nil) (by rfl))) pss_nil)
      (pss_cons (ps_asg (pe_call (ok_take_fixed T ST) (hr.mono (by decide)) (by rfl) T.take_fixed.m T.take_fixed.f.kp (bd_take_fixed T) .nil passE (pa_cons (pv 0) (pa_cons (pv 1) (pa_cons (pe_glob (v := .int 2) (by rfl) hcK ⟨_, rfl⟩) pa_nil)))) (pg_tup rfl (pgs_cons (pg_name (i := 3) sc_take_head.nd rfl (by first | exact .inl rfl | exact .inr rfl)) (pgs_cons (pg_name (i := 4) sc_take_head.nd rfl (by first | exact .inl rfl | exact .inr rfl)) pgs_nil))))
      (pss_cons (ps_asg (pe_lc (own := [("k", 9)]) (g := (gName 9)) (tt := tYes) rfl sc_take_head.nd (pi_range3 (by rfl) T.b_range (pa_cons (pv 4) (pa_cons (pv 2) (pa_cons (pe_glob (v := .int 3) (by rfl) hcP ⟨_, rfl⟩) pa_nil)))) (blkOk_by (own := [("k", 9)]) (N := ["bits", "at", "end", "kind", "start", "loss", "grade", "reach", "book", "k"]) (sc := defScope s_take_head) (by decide +kernel)) (fun _ _ _ _ _ => pg_name (i := 9) sc_take_head.nd rfl (by first | exact .inl rfl | exact .inr rfl)) (fun _ _ _ _ _ => pts_nil) (fun _ _ _ _ _ => (pe_ix (show IxR _ (rIx K) from ix_seq) (pe_call (ok_take_fixed T ST) (hr.mono (by decide)) (by rfl) T.take_fixed.m T.take_fixed.f.kp (bd_take_fixed T) .nil passE (pa_cons (pv 0) (pa_cons (pv 9) (pa_cons (pe_glob (v := .int 3) (by rfl) hcP ⟨_, rfl⟩) pa_nil)))) pe_int (fun _ _ => rfl)))) (KSTAR.pg_star (n := 4) (i := 3) rfl (pgs_cons (pg_name (i := 5) sc_take_head.nd rfl (by first | exact .inl rfl | exact .inr rfl)) (pgs_cons (pg_name (i := 6) sc_take_head.nd rfl (by first | exact .inl rfl | exact .inr rfl)) (pgs_cons (pg_name (i := 7) sc_take_head.nd rfl (by first | exact .inl rfl | exact .inr rfl)) (KSTAR.pgs_star (pg_name (i := 8) sc_take_head.nd rfl (by first | exact .inl rfl | exact .inr rfl)) pgs_nil)))) (by decide)))
      (pss_one (L2H.ps_try_onlyX rfl rfl ⟨rfl, by decide, .inl BH.g⟩ (L2H.passesAt_of rfl) (takes_of rfl rfl rfl rfl) (fun W pn xe tkN tk2 po => pss_one (ps_ret (pe_tup (pa_cons (KMKS.pe_makeS HD.M (ok_initN T MD HD BH) (hr.mono (by decide)) (by rfl) HD.g (HD.F.binds fun _ _ _ _ _ _ us hl => match us, hl with | [_, _, _, _, _, _], _ => rfl) (fun σ => L2N.passAt tkN σ) (pa_cons (pv 3) (pa_cons (pv 5) (pa_cons (pv 6) (pa_cons (pv 7) (pa_cons (pe_callTy (show CallR _ (.type "tuple") (rTupK K) from call_tuple_of) (by rfl) T.b_tuple (by decide +kernel) (pa_cons (pv 8) pa_nil)) pa_nil)))))) (pa_cons (pv 2) pa_nil))))) (fun a oe cls d pn hz hf tk hot => pss_one (KU.ps_raiseUpHN (P := P) (w := w) rfl rfl hot ST.u ST.g dp1 tk (pa_cons (pv 1) pa_nil) (by rfl))))))))), ?_⟩
    refine ⟨_, rfl, _, _, rfl, rfl, ?_⟩
    refine ⟨_, rfl, _, rfl, z, rfl, Nat.le_trans lz (by decide), _, _, rfl, rfl, _, rfl, ?_⟩
    by_cases c : z.length < a + 35
    · rw [decide_eq_true (show ((z.length : Nat) : Int) < (a : Int) + 35 by omega)]
      refine iteT ⟨_, rfl, _, rfl, fun v' r => ?_, k1 (by unfold readO; rw [if_pos c]) H fun _ _ e => e⟩
      obtain ⟨t, rfl⟩ := r
      exact ST.say _ t (by omega)
    rw [decide_eq_false (show ¬ ((z.length : Nat) : Int) < (a : Int) + 35 by omega)]
    refine iteF ?_
    refine ⟨_, rfl, _, rfl, z, a, 2, rfl, oz, by omega, by omega, by decide, fun c' => absurd c' (by omega), fun _ p hp => ?_⟩
    have t1 := Same.new (o := .tup [V.int ((valL ((z.cps.toList.drop a).take 2) : Nat) : Int), .int ((a + 2 : Nat) : Int)]) hp
    refine ⟨p, _, rfl, SqT.of upd_same, rfl, _, _, rfl, _, _, rfl, rfl, ?_⟩
    generalize upd H p (.tup [V.int ((valL ((z.cps.toList.drop a).take 2) : Nat) : Int), .int ((a + 2 : Nat) : Int)]) = H1 at t1 ⊢
    refine ⟨_, rfl, _, rfl, _, _, _, 11, rfl, ?_, fun D hD => ?_⟩
    · have := rng_at (a + 2) (by omega)
      rw [show (((a + 2 : Nat) : Int) + 33) = (a : Int) + 35 by omega] at this
      exact this
    refine lcP walk_rangeC (List.range 11) (fun _ => true) (fun j => V.int ((partN z.cps.toList a j : Nat) : Int)) (by rw [List.length_range]) hD (fun _ _ => trivial) (by decide) yFn_same ?_ ?_
    · rintro i x m H2 H3 N R hm s1 ⟨rfl, rfl⟩ hy hn
      obtain ⟨rfl, hi⟩ := range_at hm
      refine ⟨rfl, ?_⟩
      dsimp only [tYes]
      rw [if_pos rfl]
      refine ⟨_, rfl, _, rfl, z, a + 2 + 3 * m, 3, ?_, oz, by omega, by omega, by decide, fun c' => absurd c' (by omega), fun _ p2 hp2 => ?_⟩
      · show [V.str z, V.int (((a + 2 : Nat) : Int) + (m : Nat) * 3), V.int 3] = [V.str z, V.int ((a + 2 + 3 * m : Nat) : Int), V.int ((3 : Nat) : Int)]
        rw [show (((a + 2 : Nat) : Int) + (m : Nat) * 3) = ((a + 2 + 3 * m : Nat) : Int) by omega]
        rfl
      · exact .inr (.inl ⟨p2, _, 0, _, rfl, rfl, SqT.of upd_same, atI_nat (j := 0) rfl, hy rfl _ (Same.new hp2)⟩)
    intro H2 s2 e2
    rw [filter_yes] at e2
    have e2 : H2 D = some (.lst (NV ((List.range 11).map fun j => partN z.cps.toList a j))) := by
      rw [e2]
      unfold NV
      rw [List.map_map]
      rfl
    have s02 := t1.trans s2
    refine ⟨D, _, rfl, SqL.of e2, by rw [NV_len, List.length_map, List.length_range]; decide, fun d hd => ?_⟩
    have eL : List.take ((NV ((List.range 11).map fun j => partN z.cps.toList a j)).length + 1 - 4) (List.drop 3 (NV ((List.range 11).map fun j => partN z.cps.toList a j))) = NV ((List.range 8).map fun j => partN z.cps.toList a (j + 3)) := rfl
    have t3 := Same.new (o := .lst (NV ((List.range 8).map fun j => partN z.cps.toList a (j + 3)))) hd
    have ed3 : (upd H2 d (.lst (NV ((List.range 8).map fun j => partN z.cps.toList a (j + 3))))) d = some (.lst (NV ((List.range 8).map fun j => partN z.cps.toList a (j + 3)))) := upd_same
    have s03 := s02.trans t3
    rw [eL]
    generalize upd H2 d (.lst (NV ((List.range 8).map fun j => partN z.cps.toList a (j + 3)))) = H3 at t3 ed3 s03 ⊢
    refine ⟨V.int ((partN z.cps.toList a 0 : Nat) : Int), _, rfl, V.int ((partN z.cps.toList a 1 : Nat) : Int), _, rfl, V.int ((partN z.cps.toList a 2 : Nat) : Int), _, rfl, V.ref d, _, rfl, rfl, ?_⟩
    refine ⟨_, rfl, _, rfl, _, rfl, _, rfl, _, rfl, d, _, rfl, .inl ⟨SqL.of ed3, fun t ht => ?_⟩⟩
    have t4 := Same.new (o := .tup (NV ((List.range 8).map fun j => partN z.cps.toList a (j + 3)))) ht
    have et4 : (upd H3 t (.tup (NV ((List.range 8).map fun j => partN z.cps.toList a (j + 3))))) t = some (.tup (NV ((List.range 8).map fun j => partN z.cps.toList a (j + 3)))) := upd_same
    have s04 := s03.trans t4
    generalize upd H3 t (.tup (NV ((List.range 8).map fun j => partN z.cps.toList a (j + 3)))) = H4 at t4 et4 s04 ⊢
    intro x dx hx hdx ne
    have t5 : Same H4 (upd (upd H4 dx (.own x)) x (.ins HD.C dx [])) := (Same.new hdx).trans (Same.new (by rw [upd_ne (Ne.symm ne)]; exact hx))
    have ex : (upd (upd H4 dx (.own x)) x (.ins HD.C dx [])) x = some (.ins HD.C dx []) := upd_same
    have s05 := s04.trans t5
    have et5 := t5 _ _ et4
    generalize upd (upd H4 dx (.own x)) x (.ins HD.C dx []) = H5 at t5 ex s05 et5 ⊢
    have bad : readO z a = none → ∀ (H' : Hp) (v : V), Same H H' → ∀ d, H' d = none → (WE (wOnly K (.ref BH.C) (fun a' cls d x σ H => tMkUp (Text P w ST.fI ST.cda ST.cc "BadStream.__init__" "at" ST.e) ST.C "at" (tCons (tVar 1) tNil) σ H fun cls d H' => E cls d H') (fun cls d x H => E cls d H) { nx := fun x H' => Q V.non H', rt := Q }) ([some (.str z), some (.int a), some (.int ((a : Int) + 35)), some (.int ((valL ((z.cps.toList.drop a).take 2) : Nat) : Int)), some (.int ((a + 2 : Nat) : Int)), some (.int ((partN z.cps.toList a 0 : Nat) : Int)), some (.int ((partN z.cps.toList a 1 : Nat) : Int)), some (.int ((partN z.cps.toList a 2 : Nat) : Int)), some (.ref d), none] : L2.St)) (.ref BH.C) (some d) (upd H' d (.xd [("part", v)])) := by
      intro hr0 H' v s' d' hd'
      refine ⟨true, PySem.W.exm_ref BH.u.exC BH.u.hdC BH.u.tyC BH.o, fun _ a' ha' => ⟨_, rfl, _, rfl, fun v' r => ?_, fun d2 hd2 => k1 hr0 _ (s'.trans (Same.new hd')) d2 hd2⟩, fun z => nomatch z⟩
      obtain ⟨t, rfl⟩ := r
      exact ST.say _ t (by omega)
    have nf : fitsH (rawH z.cps.toList a) = false → readO z a = none := fun h => by
      unfold readO
      rw [if_neg c, if_neg (by rw [h]; exact Bool.false_ne_true)]
    have p0 := partN_lt z.cps.toList a 0
    have p1 := partN_lt z.cps.toList a 1
    have fr : H x = none := s04.free hx
    refine ⟨x, dx, _, _, _, _, _, _, _, _, _, _, rfl, .int _, .int _, .int _, .int _, Rv.nv et5 (by rw [List.length_map, List.length_range]; decide), ex, fun q => ?_, fun kd ekd kd0 kd2 => ⟨fun q => ?_, fun lo elo lo0 lo7 => ⟨fun q => ?_, fun gr egr gr0 gr7 => ⟨fun q => ?_, fun re ere re0 re4 => fun H6 s6 => ⟨fun q => ?_, fun b ns eb ens q eb6 H7 e7 o7 => ?_⟩⟩⟩⟩⟩
    · refine fun d' hd' => bad (nf ?_) H5 _ s05 d' hd'
      have q : (decide ((0 : Int) ≤ ((valL ((z.cps.toList.drop a).take 2) : Nat) : Int)) && decide (((valL ((z.cps.toList.drop a).take 2) : Nat) : Int) ≤ 2)) = false := q
      rw [decide_eq_true (by omega), Bool.true_and] at q
      show (decide (((valL ((z.cps.toList.drop a).take 2) : Nat) : Int) ≤ 2) && _ && _) = false
      rw [q]
      rfl
    · exfalso
      have q : (decide ((0 : Int) ≤ ((partN z.cps.toList a 0 : Nat) : Int)) && decide (((partN z.cps.toList a 0 : Nat) : Int) ≤ 7)) = false := q
      rw [decide_eq_true (by omega), decide_eq_true (by omega)] at q
      cases q
    · exfalso
      have q : (decide ((0 : Int) ≤ ((partN z.cps.toList a 1 : Nat) : Int)) && decide (((partN z.cps.toList a 1 : Nat) : Int) ≤ 7)) = false := q
      rw [decide_eq_true (by omega), decide_eq_true (by omega)] at q
      cases q
    · refine fun d' hd' => bad (nf ?_) H5 _ s05 d' hd'
      have q : (decide ((0 : Int) ≤ ((partN z.cps.toList a 2 : Nat) : Int)) && decide (((partN z.cps.toList a 2 : Nat) : Int) ≤ 4)) = false := q
      rw [decide_eq_true (by omega), Bool.true_and] at q
      show (_ && decide (((partN z.cps.toList a 2 : Nat) : Int) ≤ 4) && _) = false
      rw [q, Bool.and_false]
      rfl
    · refine fun d' hd' => bad (nf ?_) H6 _ (s05.trans s6) d' hd'
      cases ekd
      show (_ && _ && bookB _ (some (NV _))) = false
      rw [show bookB (rawH z.cps.toList a).kd (some (NV (rawH z.cps.toList a).ns)) = false from q, Bool.and_false]
    · cases ekd
      cases elo
      cases egr
      cases ere
      cases eb
      have es : (List.range 8).map (fun j => partN z.cps.toList a (j + 3)) = ns := nv_inj (Option.some.inj ens)
      subst es
      have ok : readO z a = some (rawH z.cps.toList a) := by
        unfold readO
        rw [if_neg c, if_pos]
        show (decide (_ ≤ _) && decide (_ ≤ _) && _) = true
        rw [show bookB (rawH z.cps.toList a).kd (some (NV (rawH z.cps.toList a).ns)) = true from q, show decide ((rawH z.cps.toList a).kd ≤ 2) = true from decide_eq_true kd2, show decide ((rawH z.cps.toList a).re ≤ 4) = true from decide_eq_true re4]
        rfl
      have s7 : Same H H7 := fun b' o' e => by
        have nb : b' ≠ x := fun z => by subst z; rw [fr] at e; cases e
        rw [o7 b' nb]
        exact (s05.trans s6) _ _ e
      have nt : t ≠ x := fun z => by subst z; rw [et5] at ex; cases ex
      refine ⟨rfl, _, rfl, (by show 2 ≤ sizeLine; decide), fun t2 ht2 => ?_⟩
      have s8 := Same.new (o := .tup [V.ref x, V.int ((a : Int) + 35)]) ht2
      exact k2 _ ok _ (.ref x) t2 (s7.trans s8) (Hd.keep ⟨x, dx, t, rfl, e7, by rw [o7 t nt]; exact eb6, by show (List.map _ _).length ≤ 1000; rw [List.length_map, List.length_range]; decide⟩ s8) upd_same
end
end K08
namespace K08
open PySem PySem.Spec PyProof.Rows L2 PySem.W LamX KA KW KU KL KT
open Evl (pss_cut tCut)
/-! ### read_head -/
def spReadH (K : PySem.W.Frag) (CB CA CS C : Addr) : Sp := fun vs H Q E => ∃ x b y yb, vs = [x, y] ∧ Pl K H x b ∧ Pl K H y yb ∧ (∀ z, x = .str z → z.length ≤ 900) ∧ (isBits x = false → E (.ref CB) none H) ∧
  (∀ z, x = .str z → isBits x = true → Ones z ∧ (within y 0 z.length = false → E (.ref CA) none H) ∧ ∀ a : Nat, y = .int (a : Int) → a ≤ z.length →
    (readO z a = none → ∀ H', Same H H' → ∀ d, H' d = none → E (.ref CS) (some d) (upd H' d (.xd [("at", .int (a : Int))]))) ∧
    (∀ h, readO z a = some h → ∀ H' x t, Same H H' → Hd C H' x h → H' t = some (.tup [x, .int ((a + 35 : Nat) : Int)]) → Q (.ref t) H'))
section
variable {P : Program} {w : World} {K : PySem.W.Frag} {mg : Str → Option Value} {base : Heap} (T : Top K mg) (MD : ModesT K mg) (HD : HeadT K mg) (BH : BadHeadT P w K mg T.reel.C) (ST : StreamT P w K mg T.reel.C)
include MD HD BH in
theorem ok_read_head : FnOk P w K mg base (L2.CX P w) 8 T.read_head.a T.read_head.d ["bits", "at"] (spReadH K T.BadBits.C T.BadAt.C ST.C HD.C) := by
  refine T.read_head.f.okX sc_read_head (fun vs H Q E h => ?_) (fun cdv A outer s H vs Q E hr h => ?_)
  · obtain ⟨x, b, y, yb, rfl, _⟩ := h
    rfl
  · obtain ⟨x, b, y, yb, rfl, hx, hy, hl, k1, k2⟩ := h
    refine ⟨_, (pss_cons (ps_expr (pe_call (ok_check_stream T) (hr.mono (by decide)) (by rfl) T.check_stream.m T.check_stream.f.kp (bd_check_stream T) .nil (passX rfl rfl rfl rfl) (pa_cons (pv 0) (pa_cons (pv 1) pa_nil))))
      (pss_one (ps_ret (pe_call (ok_take_head T MD HD BH ST) (hr.mono (by decide)) (by rfl) T.take_head.m T.take_head.f.kp (bd_take_head T) .nil (passX rfl rfl rfl rfl) (pa_cons (pv 0) (pa_cons (pv 1) pa_nil)))))), ?_⟩
    refine ⟨_, rfl, _, rfl, x, b, y, yb, rfl, hx, hy, fun z e => Nat.le_trans (hl z e) (by decide), k1, fun z e ib => ⟨(k2 z e ib).2.1, fun wi => ?_⟩⟩
    obtain ⟨oz, _, k3⟩ := k2 z e ib
    obtain ⟨i, rfl, i0, il⟩ := within_int wi
    obtain ⟨a, rfl⟩ := Int.eq_ofNat_of_zero_le i0
    subst e
    have k4 := k3 a rfl (by omega)
    exact ⟨_, rfl, _, rfl, z, a, rfl, oz, hl z rfl, by omega, k4.1, k4.2⟩
end
end K08
namespace K08
open PySem PySem.Spec PyProof.Rows L2 PySem.W LamX KA KW KU KL KT
open Evl (pss_cut tCut)
/-! ### the law's words: whole numbers, the modes -/
def spFash : Sp := fun vs H Q _ => vs = [] ∧ ∀ q H', Same H H' → H q = none → H' q = some (.lst (modeL.map V.str)) → Q (.ref q) H'
section
variable {P : Program} {w : World} {K : PySem.W.Frag} {mg : Str → Option Value} {base : Heap} (T : Top K mg)
theorem ok_whole : FnOk P w K mg base (L2.CX P w) 1 T._law_is_whole.a T._law_is_whole.d ["_law_item"] (spNumber K) := by
  refine T._law_is_whole.f.okX sc__law_is_whole (fun vs H Q E h => ?_) (fun cdv A outer s H vs Q E hr h => ?_)
  · obtain ⟨x, b, rfl, _⟩ := h
    rfl
  · obtain ⟨x, b, rfl, hp, k⟩ := h
    refine ⟨_, pss_one (ps_ret (pe_and
      (pe_callB call_isi (by rfl) T.b_isinstance PyProof.Rows.boot_isinstance (pa_cons (pv 0) (pa_cons (pe_bltn (v := .ty "int") (by rfl) T.b_int PyProof.Rows.boot_int rfl) pa_nil)))
      (pe_one (pe_not (pe_callB call_isi (by rfl) T.b_isinstance PyProof.Rows.boot_isinstance (pa_cons (pv 0) (pa_cons (pe_bltn (v := .ty "bool") (by rfl) T.b_bool (by decide +kernel) rfl) pa_nil))))))), ?_⟩
    obtain ⟨t, ht, h1, h2, h3⟩ := hp.ty
    refine ⟨_, rfl, x, _, _, _, _, rfl, .ty "int", ht, kit_ty h1, _, rfl, ?_⟩
    cases e : (b || (t == "bool"))
    · rw [e] at h3
      refine iteF ?_
      exact q_bl k h3
    · rw [e] at h3
      refine iteT ?_
      refine ⟨_, rfl, x, _, _, _, _, rfl, .ty "bool", ht, kit_ty h2, _, rfl, ?_⟩
      exact q_bl k (by simpa using h3)
theorem ok_fash : FnOk P w K mg base (L2.CX P w) 1 T._law_fashions.a T._law_fashions.d [] spFash := by
  refine T._law_fashions.f.okX sc__law_fashions (fun vs H Q E h => ?_) (fun cdv A outer s H vs Q E hr h => ?_)
  · obtain ⟨rfl, _⟩ := h
    rfl
  · obtain ⟨rfl, k⟩ := h
    refine ⟨_, (pss_one (ps_ret (pe_lst (pa_cons pe_str (pa_cons pe_str (pa_cons pe_str (pa_cons pe_str (pa_cons pe_str (pa_cons pe_str (pa_cons pe_str (pa_cons pe_str pa_nil))))))))))), ?_⟩
    exact ⟨(by show 8 ≤ sizeLine; decide), fun q hq => k q _ (Same.new hq) hq upd_same⟩
end
end K08
namespace K08
open PySem PySem.Spec PyProof.Rows L2 PySem.W LamX KA KW KU KL KT
open Evl (pss_cut tCut)
/-! ### the law's words of a book -/
def lwE (es : List (Nat × List Nat)) : List (L2.Key × V) := es.map fun e => (.inr (modeL.getD e.1 ""), .str (txt e.2))
def lwD (ps : List (Nat × Nat)) : List (L2.Key × V) := lwE (run ps).2.2
def spLWords (K : PySem.W.Frag) : Sp := fun vs H Q _ => ∃ (a : Addr) (ns : List Nat), vs = [.ref a] ∧ H a = some (.tup (NV ns)) ∧ ns.length = 8 ∧ (∀ n ∈ ns, n < 8) ∧ prs ns ≠ [] ∧
  ∀ ps (d : Addr) H', Orp ns ps → Same H H' → H d = none → H' d = some (.dK (lwD ps)) → Q (.ref d) H'
section
variable {P : Program} {w : World} {K : PySem.W.Frag} {mg : Str → Option Value} {base : Heap} (T : Top K mg)
theorem ok_lwords : FnOk P w K mg base (L2.CX P w) 2 T._law_words.a T._law_words.d ["_law_lengths_here"] (spLWords K) := by
  refine T._law_words.f.okX sc__law_words (fun vs H Q E h => ?_) (fun cdv A outer s H vs Q E hr h => ?_)
  · obtain ⟨a, ns, rfl, _⟩ := h
    rfl
  · obtain ⟨a, ns, rfl, ha, l8, s8, np, k⟩ := h
    refine ⟨_, (pss_cons (ps_set (i := 1) sc__law_words.nd rfl (by first | exact .inl rfl | exact .inr rfl) (pe_call0 (ok_fash T) (hr.mono (by decide)) (by rfl) T._law_fashions.m T._law_fashions.f.kp (bd__law_fashions T) .nil passE))
      (pss_cons (ps_set (i := 4) sc__law_words.nd rfl (by first | exact .inl rfl | exact .inr rfl) (pe_callB (show CallR _ _ (KST.rSortedT K) from KST.cr_sortedT (show (A.deeper _).units + 4 < cLine by have := hu65 hr; omega)) (by rfl) T.b_sorted (by decide +kernel) (pa_cons (pe_lc (own := [("_law_spot", 2), ("_law_size_here", 3)]) (g := (gTup K 2 (gCons (gName 2) (gCons (gName 3) gNil)))) rfl sc__law_words.nd (KEN.pi_enumS (by rfl) T.b_enumerate (pa_cons (pv 0) pa_nil)) (blkOk_by (own := [("_law_spot", 2), ("_law_size_here", 3)]) (N := ["_law_lengths_here", "_law_fashions_here", "_law_spot", "_law_size_here", "_law_some", "_law_found", "_law_told", "_law_before"]) (sc := defScope s__law_words) (by decide +kernel)) (fun _ _ _ _ _ => pg_tup rfl (pgs_cons (pg_name (i := 2) sc__law_words.nd rfl (by first | exact .inl rfl | exact .inr rfl)) (pgs_cons (pg_name (i := 3) sc__law_words.nd rfl (by first | exact .inl rfl | exact .inr rfl)) pgs_nil))) (fun _ _ _ _ _ => pts_one (pt_cmpR op_gt (pv 3) pe_int (nomark _))) (fun _ _ _ _ _ => (pe_tup (pa_cons (pv 3) (pa_cons (pv 2) pa_nil))))) pa_nil)))
      (pss_cons (ps_par3 (i := 5) (j := 6) (l := 7) rfl sc__law_words.nd rfl rfl rfl (by decide) (by decide) (by decide) rfl rfl rfl (pa_cons pe_dnewK (pa_cons (pe_un un_neg pe_int) (pa_cons (pe_ix (show IxR _ (rIx K) from ix_seq) (pe_ix (show IxR _ (rIx K) from ix_seq) (pv 4) pe_int (fun _ _ => rfl)) pe_int (fun _ _ => rfl)) pa_nil))) (by rfl))
      (pss_cons (ps_for (passes_of rfl) rfl (pi_list (pv 4)) (pg_tup rfl (pgs_cons (pg_name (i := 3) sc__law_words.nd rfl (by first | exact .inl rfl | exact .inr rfl)) (pgs_cons (pg_name (i := 2) sc__law_words.nd rfl (by first | exact .inl rfl | exact .inr rfl)) pgs_nil)))
        (pss_cons (ps_par (i := 6) (j := 7) rfl sc__law_words.nd rfl rfl (by decide) rfl rfl (pa_cons (pe_op op_mul (pe_op op_add (pv 6) pe_int) (pe_call (ok_two T) (hr.mono (by decide)) (by rfl) T._law_two.m T._law_two.f.kp (bd__law_two T) .nil passE (pa_cons (pe_op op_sub (pv 3) (pv 7)) pa_nil))) (pa_cons (pv 3) pa_nil)) (by rfl))
      (pss_one (ps_asg (pe_call (ok_twos T) (hr.mono (by decide)) (by rfl) T._law_twos.m T._law_twos.f.kp (bd__law_twos T) .nil passE (pa_cons (pv 6) (pa_cons (pv 3) pa_nil))) (pg_sub (pv 5) (pe_ix (show IxR _ (rIx K) from ix_seq) (pv 1) (pv 2) (fun _ _ => rfl)) (L2.set_dict (hu_of hr)))))))
      (pss_one (ps_ret (pv 5))))))), ?_⟩
    refine ⟨rfl, fun fa H1 s1 hf ef => ?_⟩
    refine ⟨_, rfl, a, _, rfl, .inr (SqT.of (s1 _ _ ha)), fun J G wk hG => fun D hD => ?_⟩
    refine lc_pairs wk (by omega) hD hG ?_ ?_
    · intro i T' H' R N hi eT hy hn
      refine ⟨T', _, rfl, SqT.of eT, rfl, _, _, rfl, _, _, rfl, rfl, rfl, ?_⟩
      refine ⟨_, rfl, _, _, rfl, rfl, _, rfl, ?_⟩
      rw [show decide ((0 : Int) < ((ns.getD i 0 : Nat) : Int)) = decide (0 < ns.getD i 0) from decide_eq_decide.mpr (by omega)]
      cases c : decide (0 < ns.getD i 0) with
      | true =>
        refine iteT ⟨_, rfl, _, rfl, (by show 2 ≤ sizeLine; decide), fun z hz => ?_⟩
        exact hy c _ _ (Same.new hz) ⟨z, rfl, upd_same⟩
      | false => exact iteF (hn c)
    intro H3 ws s3 e3 rl
    obtain ⟨bs, rfl, eb, hb⟩ := rl_pairs rl
    refine ⟨D, bs, rfl, SqL.of e3, hb, fun bs' q pm pw hq => ?_⟩
    obtain ⟨ps, eps, op⟩ := ord_of (ns := ns) (qs := bs'.map (·.2)) (by rw [← eb]; exact pm.map _) pw
    have t4 := Same.new (o := .lst (bs'.map fun b => V.ref b.1)) hq
    have e4 : (upd H3 q (.lst (bs'.map fun b => V.ref b.1))) q = some (.lst (bs'.map fun b => V.ref b.1)) := upd_same
    generalize upd H3 q (.lst (bs'.map fun b => V.ref b.1)) = H4 at t4 e4 ⊢
    have hb4 : ∀ b ∈ bs', H4 b.1 = some (.tup [.int b.2.1, .int b.2.2]) := fun b m => t4 _ _ (hb b (pm.mem_iff.mp m))
    have sH : Same H H4 := s1.trans (s3.trans t4)
    have ef4 : H4 fa = some (.lst (modeL.map V.str)) := t4 _ _ (s3 _ _ ef)
    have lb : bs'.length = ps.length := by
      have := congrArg List.length eps
      rwa [List.length_map, List.length_map] at this
    have up := op.up
    have mem := op.mem s8
    have l1000 : ps.length ≤ 1000 := by
      rw [op.p.length_eq]
      unfold prs
      rw [List.length_map]
      exact Nat.le_trans (List.length_filter_le _ _) (by rw [List.length_range]; omega)
    have pos : 0 < ps.length := by
      rw [op.p.length_eq]
      exact List.length_pos_iff.mpr np
    have at_ : ∀ (i : Nat) (b : Addr × Int × Int), bs'[i]? = some b → ∃ z : Nat × Nat, ps[i]? = some z ∧ H4 b.1 = some (.tup [.int (z.1 : Int), .int (z.2 : Int)]) := by
      intro i b hbi
      have hi : i < ps.length := by
        have := (List.getElem?_eq_some_iff.mp hbi).1
        omega
      refine ⟨_, List.getElem?_eq_getElem hi, ?_⟩
      have := congrArg (fun l => l[i]?) eps
      rw [List.getElem?_map, List.getElem?_map, hbi, List.getElem?_eq_getElem hi] at this
      have e2 : b.2 = ci _ := Option.some.inj this
      have := hb4 b (List.mem_of_getElem? hbi)
      rw [e2] at this
      exact this
    clear rl hb eb wk hG s3 t4 e3 hq pm pw
    obtain ⟨b0, hb0⟩ : ∃ b, bs'[0]? = some b := ⟨_, List.getElem?_eq_getElem (by omega)⟩
    obtain ⟨z0, hz0, ez0⟩ := at_ 0 b0 hb0
    intro d hd
    have s5 := Same.new (o := .dK []) hd
    have ed : (upd H4 d (.dK [])) d = some (.dK []) := upd_same
    have hd0 := sH.free hd
    refine ⟨_, rfl, _, rfl, .inl ⟨q, _, 0, V.ref b0.1, rfl, rfl, SqL.of (s5 _ _ e4), atI_nat (j := 0) (by rw [List.getElem?_map, hb0]; rfl), .inr (.inl ⟨b0.1, _, 0, _, rfl, rfl, SqT.of (s5 _ _ ez0), atI_nat (j := 0) rfl, ?_⟩)⟩⟩
    generalize upd H4 d (.dK []) = H5 at s5 ed ⊢
    have e5 := s5 _ _ e4
    have ef5 := s5 _ _ ef4
    have nq : q ≠ d := ne_of e5 ed (by intro z; cases z)
    have nf : fa ≠ d := ne_of ef5 ed (by intro z; cases z)
    refine ⟨_, _, _, rfl, ?_⟩
    refine ⟨_, rfl, q, rfl, ⟨_, SqL.of e5⟩, for_it (walk_list (xs := bs'.map fun b => V.ref b.1)) (fun n σ H' => ∃ v2 v3 r', σ = [some (.ref a), some (.ref fa), v2, v3, some (.ref q), some (.ref d), some (.int (((run (ps.take n)).1 : Nat) - 1 : Int)), some (.int r')] ∧ (n = 0 → r' = (z0.1 : Int)) ∧ (0 < n → r' = (((run (ps.take n)).2.1 : Nat) : Int)) ∧ But d H5 H' ∧ H' d = some (.dK (lwE (run (ps.take n)).2.2))) ⟨_, _, _, rfl, fun _ => rfl, fun z => absurd z (Nat.lt_irrefl 0), .refl, ed⟩ (fun _ σ H' _ ⟨_, _, _, _, _, _, bt, _⟩ => SqL.of (bt _ _ nq e5)) ?_ ?_⟩
    · rintro i x σ H' H'' hi ⟨v2, v3, r', rfl, c0, c1, bt, ed'⟩ ⟨rfl, hx⟩
      rw [List.length_map] at hi
      obtain ⟨b, hbi⟩ : ∃ b, bs'[i]? = some b := ⟨_, List.getElem?_eq_getElem hi⟩
      rw [List.getElem?_map, hbi] at hx
      cases hx
      obtain ⟨⟨l, p⟩, hpi, eb⟩ := at_ i b hbi
      have eb := s5 _ _ eb
      have nb : b.1 ≠ d := ne_of eb ed (by intro z; cases z)
      have e6 := bt _ _ nb eb
      have tk : ps.take (i + 1) = ps.take i ++ [(l, p)] := by rw [List.take_add_one, hpi]; rfl
      obtain ⟨_, _, r4, r5⟩ := run_at (ps.take i) (up.sublist (List.take_sublist _ _)) fun z hz => ⟨(mem z (List.mem_of_mem_take hz)).1, (mem z (List.mem_of_mem_take hz)).2.1⟩
      have hq := mem (l, p) (List.mem_of_getElem? hpi)
      have e7 : run (ps.take (i + 1)) = stp (run (ps.take i)) (l, p) := by rw [tk, run_snoc]
      have r4 := r4 l fun z hz => by
        have := up.sublist (List.take_sublist (i + 1) ps)
        rw [tk] at this
        exact (List.pairwise_append.mp this).2.2 z hz (l, p) (List.mem_singleton.mpr rfl)
      obtain ⟨m, em, ml, mc⟩ : ∃ m : Nat, r' = (m : Int) ∧ m ≤ l ∧ (run (ps.take i)).1 * 2 ^ (l - m) = (run (ps.take i)).1 * 2 ^ (l - (run (ps.take i)).2.1) := by
        by_cases z : i = 0
        · subst z
          rw [hz0] at hpi
          have hpi := Option.some.inj hpi
          subst hpi
          exact ⟨l, c0 rfl, Nat.le_refl _, by show 0 * _ = 0 * _; rw [Nat.zero_mul, Nat.zero_mul]⟩
        · exact ⟨_, c1 (by omega), r4, rfl⟩
      subst em
      clear c0 c1
      have les : (run (ps.take i)).2.2.length = i := by
        have := congrArg List.length r5
        rw [List.length_map, List.length_map, List.length_take] at this
        omega
      generalize hR : run (ps.take i) = R at ed' r4 e7 r5 mc les
      obtain ⟨c, r, es⟩ := R
      have r5 : es.map (·.1) = (ps.take i).map (·.2) := r5
      have les : es.length = i := les
      have mc : c * 2 ^ (l - m) = c * 2 ^ (l - r) := mc
      have q2 : p < 8 := by have := hq.2.2.1; dsimp only at this; omega
      have ql : l ≤ 7 := hq.2.1
      have ecode : ((c : Int) - 1 + 1) * (((2 ^ (l - m) : Nat)) : Int) = ((c * 2 ^ (l - r) : Nat) : Int) := by
        rw [← mc, Int.natCast_mul, Int.sub_add_cancel]
      have new : ∀ e ∈ lwE es, e.1 ≠ (.inr (modeL.getD p "") : L2.Key) := by
        intro e he z
        obtain ⟨e', he', rfl⟩ := List.mem_map.mp he
        have z : modeL.getD e'.1 "" = modeL.getD p "" := Sum.inr.inj z
        have m0 : e'.1 ∈ (ps.take i).map (·.2) := by
          rw [← r5]
          exact List.mem_map.mpr ⟨e', he', rfl⟩
        have e8 : e'.1 < 8 := by
          obtain ⟨w', hw, ew⟩ := List.mem_map.mp m0
          have := (mem w' (List.mem_of_mem_take hw)).2.2.1
          rw [← ew]
          omega
        have z := mode_inj _ e8 _ q2 z
        rw [z] at m0
        have nd := (op.nodup.sublist ((List.take_sublist (i + 1) ps).map (·.2)))
        rw [tk, List.map_append, List.nodup_append] at nd
        exact nd.2.2 p m0 p (List.mem_singleton.mpr rfl) rfl
      refine ⟨b.1, _, rfl, SqT.of e6, rfl, _, _, rfl, _, _, rfl, rfl, ?_⟩
      refine ⟨_, rfl, _, _, rfl, rfl, _, rfl, _, rfl, _, _, rfl, rfl, l - m, ?_, by omega, _, _, rfl, rfl, ?_, _, rfl, _, _, rfl, ?_⟩
      · show [V.int ((l : Int) - (m : Int))] = [V.int ((l - m : Nat) : Int)]
        rw [show (l : Int) - (m : Int) = ((l - m : Nat) : Int) by omega]
      · have h : 2 ^ (l - m) < 2 ^ 64 := Nat.pow_lt_pow_right (by decide) (by omega)
        generalize 2 ^ (l - m) = y at h
        exact .inr ⟨by show (-2 ^ 64 : Int) < ((y : Nat) : Int); omega, by show ((y : Nat) : Int) < 2 ^ 64; omega⟩
      refine ⟨_, rfl, _, rfl, c * 2 ^ (l - r), l, ?_, by omega, ?_⟩
      · show [V.int (((c : Int) - 1 + 1) * (((2 ^ (l - m) : Nat)) : Int)), V.int (l : Int)] = _
        rw [ecode]
      refine ⟨_, rfl, _, rfl, _, rfl, .inl ⟨fa, _, (p : Int), _, rfl, rfl, SqL.of (bt _ _ nf ef5), atI_nat (mode_at q2), d, _, rfl, .inl ⟨_, .inr (modeL.getD p ""), ed', rfl, ?_, rfl⟩, ?_⟩⟩
      · unfold lwE
        rw [List.length_map, les]
        exact Nat.lt_of_lt_of_le hi (by rw [lb]; exact Nat.le_trans l1000 (by decide))
      refine ⟨some (.int (p : Int)), some (.int (l : Int)), (l : Int), ?_, fun z => absurd z (Nat.succ_ne_zero i), fun _ => by rw [e7]; rfl, bt.upd, ?_⟩
      · show [some (V.ref a), some (.ref fa), some (.int (p : Int)), some (.int (l : Int)), some (.ref q), some (.ref d), some (V.int (((c : Int) - 1 + 1) * (((2 ^ (l - m) : Nat)) : Int))), some (.int (l : Int))] = _
        rw [e7, ecode]
        show _ = [some (V.ref a), some (.ref fa), some (.int (p : Int)), some (.int (l : Int)), some (.ref q), some (.ref d), some (V.int (((c * 2 ^ (l - r) + 1 : Nat) : Int) - 1)), some (.int (l : Int))]
        rw [show (((c * 2 ^ (l - r) + 1 : Nat) : Int) - 1) = ((c * 2 ^ (l - r) : Nat) : Int) by omega]
      · rw [upd_same, e7, KDC.put_new new]
        show some (HO.dK (lwE es ++ [((Sum.inr (modeL.getD p "") : L2.Key), V.str (twosT l (c * 2 ^ (l - r))))])) = some (HO.dK (lwE (es ++ [(p, bitsL l (c * 2 ^ (l - r)))])))
        unfold lwE
        rw [List.map_append]
        rfl
    rintro σ H' ⟨v2, v3, r', rfl, c0, c1, bt, ed'⟩
    rw [List.length_map, lb, List.take_length] at ed'
    have sH' : Same H H' := fun b o e => bt b o (fun z => by subst z; rw [hd0] at e; cases e) (s5 _ _ (sH _ _ e))
    exact ⟨_, rfl, k ps d H' op sH' hd0 ed'⟩
end
end K08
namespace KDU
open PySem PySem.Spec PyProof.Rows L2
/-! d.update(other): both dicts of ints and texts -/
def rUpdate : V → List V → Hp → VK → Prop := fun x xs H Q => ∃ (a o : Addr) (kvs more : List (L2.Key × V)), x = .ref a ∧ xs = [.ref o] ∧ H a = some (.dK kvs) ∧ H o = some (.dK more) ∧ a ≠ o ∧ kvs.length + more.length ≤ sizeLine ∧ Q .non (upd H a (.dK (mergeK kvs more)))
theorem mt_update {X : Cx} : MtR X "dict.update" rUpdate := by
  intro pins s σ H x xs v us Q I rx rxs h
  obtain ⟨a, o, kvs, more, rfl, rfl, ha, ho, hne, hz, q⟩ := h
  cases rx
  obtain ⟨u, rfl, ru⟩ := rxs.one
  cases ru
  obtain ⟨z, hd, vs, rel, dd⟩ := dk_of I.hok ha
  obtain ⟨z2, hd2, vs2, rel2, dd2⟩ := dk_of I.hok ho
  refine call_meetsIn PySem.F.slot_dict_update dd.typeIs PySem.F.entry_dict_update (PySem.F.args_dict_update_2 _ _) (meets_dict_update (mixKind X.prog X.w) a o hne hd2)
    ⟨vs, vs2, dd, dd2, by rw [← rel.length, ← rel2.length]; exact hz, fun h' dd' _ hs => ?_⟩
  have he : ∃ q, h'.get? a = some q := let ⟨q, _, _, hq, _⟩ := dd'; ⟨q, hq⟩
  refine ⟨.non, _, d_write (t' := s.toks) I (by rw [ha]; exact True.intro) hs he (dk_new (Nat.le_trans (length_mergeK more kvs) hz) hd (KV.merge rel2 rel) dd'), rfl, q⟩
end KDU
namespace K08
open PySem PySem.Spec PyProof.Rows L2 PySem.W LamX KA KW KU KL KT
open Evl (pss_cut tCut)
/-! ### what stands -/
structure Bk where
  t : Nat
  l : Nat
  s : Nat
def bkV (b : Bk) : List V := [.int (b.t : Int), .int (b.l : Int), .int (b.s : Int)]
theorem putN {H H' : Hp} {D : Addr} {o : HO} (s : Same H H') (h : H D = none) : Same H (upd H' D o) := K08.Same.put s h
def kS (s : Str) : Key := Sum.inr s
def stands1 (b : Bk) : List (Key × V) := [(kS "flat", .bl true), (kS "left", .bl (decide (0 < b.l))), (kS "up", .bl (decide (0 < b.t))), (kS "middle", .bl (decide (0 < b.l) && decide (0 < b.t)))]
def stands2 (b : Bk) (k : Nat) : List (Key × V) := [(kS "mean", .bl (decide (0 < b.l) || decide (0 < b.t))), (kS "copy", .bl (decide (0 < k)))]
def stands3 (k : Nat) : List (Key × V) := [(kS "both", .bl (decide (k = 2))), (kS "still", .bl (decide (0 < k)))]
def standsD (b : Bk) (k : Nat) : List (Key × V) := stands1 b ++ stands2 b k ++ stands3 k
theorem valV_notin {kvs : List (Key × V)} {k : Key} (h : ¬ k ∈ kvs.map (·.1)) : valV kvs k = none := by
  cases e : valV kvs k with
  | none => rfl
  | some v => exact absurd (valV_in e) h
theorem merge_new : ∀ (more kvs : List (Key × V)), (kvs.map (·.1) ++ more.map (·.1)).Nodup → mergeK kvs more = kvs ++ more
  | [], kvs, _ => (List.append_nil _).symm
  | p :: r, kvs, h => by
    have n : ¬ p.1 ∈ kvs.map (·.1) := fun m => by
      have := (List.nodup_append.mp h).2.2 p.1 m p.1 (by rw [List.map_cons]; exact List.mem_cons_self)
      exact this rfl
    show mergeK (putK kvs p.1 p.2) r = _
    rw [putK_new _ (valV_notin n), merge_new r (kvs ++ [(p.1, p.2)])]
    · rw [List.append_assoc]
      rfl
    · rw [List.map_append, List.append_assoc]
      exact h
theorem stands_m1 {b : Bk} : mergeK [] (stands1 b) = stands1 b := merge_new _ _ (by show ([] ++ [kS "flat", kS "left", kS "up", kS "middle"] : List Key).Nodup; decide +kernel)
theorem stands_m2 {b : Bk} {k : Nat} : mergeK [] (stands2 b k) = stands2 b k := merge_new _ _ (by show ([] ++ [kS "mean", kS "copy"] : List Key).Nodup; decide +kernel)
theorem stands_m3 {k : Nat} : mergeK [] (stands3 k) = stands3 k := merge_new _ _ (by show ([] ++ [kS "both", kS "still"] : List Key).Nodup; decide +kernel)
theorem stands_m12 {b : Bk} {k : Nat} : mergeK (stands1 b) (stands2 b k) = stands1 b ++ stands2 b k := merge_new _ _ (by show ([kS "flat", kS "left", kS "up", kS "middle"] ++ [kS "mean", kS "copy"] : List Key).Nodup; decide +kernel)
theorem stands_m123 {b : Bk} {k : Nat} : mergeK (stands1 b ++ stands2 b k) (stands3 k) = standsD b k := merge_new _ _ (by show ([kS "flat", kS "left", kS "up", kS "middle", kS "mean", kS "copy"] ++ [kS "both", kS "still"] : List Key).Nodup; decide +kernel)
theorem and_pure {tb : TE} {σ : L2.St} {H : Hp} {Q : VK} {c d : Bool} (hb : ∀ Q : VK, Q (.bl d) H → tb σ H Q) (h : Q (.bl (c && d)) H) : ∃ c', V.bl c = .bl c' ∧ if c' = true then tb σ H Q else Q (.bl false) H := by
  refine ⟨c, rfl, ?_⟩
  cases c
  · exact iteF h
  · exact iteT (hb Q (by rw [Bool.true_and] at h; exact h))
theorem or_pure {tb : TE} {σ : L2.St} {H : Hp} {Q : VK} {c d : Bool} (hb : ∀ Q : VK, Q (.bl d) H → tb σ H Q) (h : Q (.bl (c || d)) H) : ∃ c', V.bl c = .bl c' ∧ if c' = true then Q (.bl true) H else tb σ H Q := by
  refine ⟨c, rfl, ?_⟩
  cases c
  · exact iteF (hb Q (by rw [Bool.false_or] at h; exact h))
  · exact iteT h
def spStands : Sp := fun vs H Q _ => ∃ (p : Addr) (b : Bk) (f : Str) (k : Nat) (r : Bool), vs = [.ref p, .str f, .int (k : Int)] ∧ H p = some (.tup (bkV b)) ∧ valV (standsD b k) (kS f) = some (.bl r) ∧ ∀ H', Same H H' → Q (.bl r) H'
section
variable {P : Program} {w : World} {K : PySem.W.Frag} {mg : Str → Option Value} {base : Heap} (T : Top K mg)
theorem ok_stands : FnOk P w K mg base (L2.CX P w) 1 T._law_stands.a T._law_stands.d ["_law_square", "_law_fashion", "_law_sort_here"] spStands := by
  refine T._law_stands.f.okX sc__law_stands (fun vs H Q E h => ?_) (fun cdv A outer s H vs Q E hr h => ?_)
  · obtain ⟨p, b, f, k, r, rfl, _⟩ := h
    rfl
  · obtain ⟨p, b, f, kn, r, rfl, hp, hv, k⟩ := h
    have hu := hu_of hr
    refine ⟨_, (pss_cons (ps_par (i := 3) (j := 4) rfl sc__law_stands.nd rfl rfl (by decide) rfl rfl (pa_cons (pe_ix (show IxR _ (rIxT K) from ix_tup) (pv 0) pe_int (fun _ _ => rfl)) (pa_cons (pe_ix (show IxR _ (rIxT K) from ix_tup) (pv 0) pe_int (fun _ _ => rfl)) pa_nil)) (by rfl))
      (pss_cons (ps_set (i := 5) sc__law_stands.nd rfl (by first | exact .inl rfl | exact .inr rfl) (pe_disp (pps_cons pe_str pe_bl (pps_cons pe_str (pe_cmpR op_gt (pv 4) pe_int (nomark _)) (pps_cons pe_str (pe_cmpR op_gt (pv 3) pe_int (nomark _)) (pps_cons pe_str (pe_and (pe_cmpR op_gt (pv 4) pe_int (nomark _)) (pe_one (pe_cmpR op_gt (pv 3) pe_int (nomark _)))) pps_nil)))) (by rfl) (by rfl) (fun z => by cases z) (by decide)))
      (pss_cons (ps_expr (pe_bm PySem.F.plainAttrs_dict PySem.F.slot_dict_update PySem.F.type_dict_update KDU.mt_update (pv 5) (pa_cons (pe_disp (pps_cons pe_str (pe_or (pe_cmpR op_gt (pv 4) pe_int (nomark _)) (pe_one (pe_cmpR op_gt (pv 3) pe_int (nomark _)))) (pps_cons pe_str (pe_cmpR op_gt (pv 2) pe_int (nomark _)) pps_nil)) (by rfl) (by rfl) (fun z => by cases z) (by decide)) pa_nil)))
      (pss_cons (ps_expr (pe_bm PySem.F.plainAttrs_dict PySem.F.slot_dict_update PySem.F.type_dict_update KDU.mt_update (pv 5) (pa_cons (pe_disp (pps_cons pe_str (pe_cmpR op_eq (pv 2) pe_int (nomark _)) (pps_cons pe_str (pe_cmpR op_gt (pv 2) pe_int (nomark _)) pps_nil)) (by rfl) (by rfl) (fun z => by cases z) (by decide)) pa_nil)))
      (pss_one (ps_ret (pe_dget hu (pv 5) (pv 1) (fun _ _ => rfl)))))))), ?_⟩
    have gl : decide ((0 : Int) < (b.l : Int)) = decide (0 < b.l) := by simp
    have gt : decide ((0 : Int) < (b.t : Int)) = decide (0 < b.t) := by simp
    have gk : decide ((0 : Int) < (kn : Int)) = decide (0 < kn) := by simp
    have g2 : decide (V.int (kn : Int) = V.int 2) = decide (kn = 2) := by
      by_cases c : kn = 2
      · subst c
        rfl
      · rw [decide_eq_false c, decide_eq_false (fun z => c (by injection z; omega))]
    refine ⟨_, rfl, p, _, 0, _, rfl, rfl, SqT.of hp, atI_nat (j := 0) rfl, _, rfl, p, _, 1, _, rfl, rfl, SqT.of hp, atI_nat (j := 1) rfl, ?_⟩
    refine ⟨_, _, rfl, fun dt hdt => ?_⟩
    have e0 : (upd H dt (.dK [])) dt = some (.dK []) := upd_same
    refine ⟨_, rfl, _, _, rfl, rfl, _, rfl, _, _, rfl, rfl, _, rfl, _, _, rfl, rfl, and_pure (d := decide (0 < b.t)) (fun Q h => ⟨_, rfl, _, _, rfl, rfl, by dsimp only; rw [gt]; exact h⟩) ?_⟩
    dsimp only
    rw [gl, gt]
    refine ⟨e0, stands1 b, rfl, (by show 4 ≤ 15; decide), ?_⟩
    rw [stands_m1]
    have e1 : (upd (upd H dt (.dK [])) dt (.dK (stands1 b))) dt = some (.dK (stands1 b)) := upd_same
    have s1 : Same H (upd (upd H dt (.dK [])) dt (.dK (stands1 b))) := putN (Same.new hdt) hdt
    generalize upd (upd H dt (.dK [])) dt (.dK (stands1 b)) = H1 at e1 s1 ⊢
    refine ⟨_, rfl, .inr (.inr (.inl ⟨rfl, .inl ⟨_, e1⟩⟩)), fun d2 hd2 => ?_⟩
    have e0 : (upd H1 d2 (.dK [])) d2 = some (.dK []) := upd_same
    refine ⟨_, rfl, _, _, rfl, rfl, or_pure (d := decide (0 < b.t)) (fun Q h => ⟨_, rfl, _, _, rfl, rfl, by dsimp only; rw [gt]; exact h⟩) ?_⟩
    dsimp only
    rw [gl]
    refine ⟨_, rfl, _, _, rfl, rfl, ?_⟩
    dsimp only
    rw [gk]
    refine ⟨e0, stands2 b kn, rfl, (by show 2 ≤ 15; decide), ?_⟩
    rw [stands_m2]
    have nd : dt ≠ d2 := ne_of_none e1 hd2
    have e2 : (upd (upd H1 d2 (.dK [])) d2 (.dK (stands2 b kn))) d2 = some (.dK (stands2 b kn)) := upd_same
    have e3 : (upd (upd H1 d2 (.dK [])) d2 (.dK (stands2 b kn))) dt = some (.dK (stands1 b)) := by rw [upd_ne nd, upd_ne nd]; exact e1
    have s2 : Same H (upd (upd H1 d2 (.dK [])) d2 (.dK (stands2 b kn))) := s1.trans (putN (Same.new hd2) hd2)
    generalize upd (upd H1 d2 (.dK [])) d2 (.dK (stands2 b kn)) = H2 at e2 e3 s2 ⊢
    refine ⟨dt, d2, _, _, rfl, rfl, e3, e2, nd, (by show 4 + 2 ≤ sizeLine; decide), ?_⟩
    rw [stands_m12]
    have s1 := putN (o := .dK (stands1 b ++ stands2 b kn)) s2 hdt
    have e1 : (upd H2 dt (.dK (stands1 b ++ stands2 b kn))) dt = some (.dK (stands1 b ++ stands2 b kn)) := upd_same
    generalize upd H2 dt (.dK (stands1 b ++ stands2 b kn)) = H1 at e1 s1 ⊢
    refine ⟨_, rfl, .inr (.inr (.inl ⟨rfl, .inl ⟨_, e1⟩⟩)), fun d3 hd3 => ?_⟩
    have e0 : (upd H1 d3 (.dK [])) d3 = some (.dK []) := upd_same
    refine ⟨_, rfl, rfl, ?_⟩
    rw [g2]
    refine ⟨_, rfl, _, _, rfl, rfl, ?_⟩
    dsimp only
    rw [gk]
    refine ⟨e0, stands3 kn, rfl, (by show 2 ≤ 15; decide), ?_⟩
    rw [stands_m3]
    have nd : dt ≠ d3 := ne_of_none e1 hd3
    have e2 : (upd (upd H1 d3 (.dK [])) d3 (.dK (stands3 kn))) d3 = some (.dK (stands3 kn)) := upd_same
    have e3 : (upd (upd H1 d3 (.dK [])) d3 (.dK (stands3 kn))) dt = some (.dK (stands1 b ++ stands2 b kn)) := by rw [upd_ne nd, upd_ne nd]; exact e1
    have s2 : Same H (upd (upd H1 d3 (.dK [])) d3 (.dK (stands3 kn))) := s1.trans (putN (Same.new hd3) hd3)
    generalize upd (upd H1 d3 (.dK [])) d3 (.dK (stands3 kn)) = H2 at e2 e3 s2 ⊢
    refine ⟨dt, d3, _, _, rfl, rfl, e3, e2, nd, (by show 6 + 2 ≤ sizeLine; decide), ?_⟩
    rw [show mergeK (stands1 b ++ stands2 b kn) (stands3 kn) = stands1 b ++ stands2 b kn ++ stands3 kn from stands_m123]
    have s1 := putN (o := .dK (stands1 b ++ stands2 b kn ++ stands3 kn)) s2 hdt
    have e1 : (upd H2 dt (.dK (stands1 b ++ stands2 b kn ++ stands3 kn))) dt = some (.dK (stands1 b ++ stands2 b kn ++ stands3 kn)) := upd_same
    generalize upd H2 dt (.dK (stands1 b ++ stands2 b kn ++ stands3 kn)) = H1 at e1 s1 ⊢
    exact ⟨_, rfl, _, rfl, dt, _, rfl, (show DGet H1 dt (kV (kS f)) _ from hv ▸ DGet.k e1), k H1 s1⟩
end
/-- whether the mode of this place stands at the middle block -/
def standsF (k i : Nat) : Bool := if i = 5 then decide (0 < k) else if i = 6 then decide (k = 2) else if i = 7 then decide (0 < k) else true
theorem stands_at (k : Nat) : ∀ i, i < 8 → valV (standsD ⟨2, 2, 2⟩ k) (kS (modeL.getD i "")) = some (.bl (standsF k i)) := by
  intro i hi
  match i, hi with
  | 0, _ => rfl
  | 1, _ => rfl
  | 2, _ => rfl
  | 3, _ => rfl
  | 4, _ => rfl
  | 5, _ => rfl
  | 6, _ => rfl
  | 7, _ => rfl
end K08
namespace K08
open PySem PySem.Spec PyProof.Rows L2 PySem.W LamX KA KW KU KL KT
open Evl (pss_cut tCut)
/-! ### the law's lengths -/
theorem Kp.free {st lg cl q : Addr} {n : Nat} {H H' : Hp} (k : Kp st lg H H') (S : StAt H' st lg cl n) (h : H' q = none) : H q = none := by
  cases e : H q with
  | none => rfl
  | some o =>
    obtain ⟨n1, n2⟩ := S.off h
    have := k _ _ e n1 n2
    rw [h] at this
    cases this
theorem ixN_nat {n i : Nat} (h : i < n) : ixN n (i : Int) = some i := by
  unfold ixN
  have e : ¬ ((i : Int) < 0) := by omega
  simp [h]
theorem ix_T {K : PySem.W.Frag} {a : Addr} {vs : List V} {H : Hp} {Q : VK} {i : Nat} {v : V} (ha : H a = some (.tup vs)) (h : vs[i]? = some v) (q : Q v H) : rIx K (.ref a) (.int (i : Int)) H Q := .inr (.inl ⟨a, vs, _, v, rfl, rfl, SqT.of ha, atI_nat h, q⟩)
theorem ix_L {K : PySem.W.Frag} {a : Addr} {vs : List V} {H : Hp} {Q : VK} {i : Nat} {v : V} (ha : H a = some (.lst vs)) (h : vs[i]? = some v) (q : Q v H) : rIx K (.ref a) (.int (i : Int)) H Q := .inl ⟨a, vs, _, v, rfl, rfl, SqL.of ha, atI_nat h, q⟩
theorem stAt_putO {H : Hp} {st lg cl f : Addr} {n : Nat} {o : HO} (S : StAt H st lg cl n) (h1 : f ≠ st) (h2 : f ≠ lg) (h3 : f ≠ cl) : StAt (upd H f o) st lg cl n := by
  obtain ⟨large, cells, left, turn, D, ht⟩ := S
  exact ⟨large, cells, left, turn, { d := (upd_ne (Ne.symm h1)).trans D.d, l := (upd_ne (Ne.symm h2)).trans D.l, c := (upd_ne (Ne.symm h3)).trans D.c, ne := D.ne, pl := D.pl, p0 := D.p0 }, ht⟩
def lenBs : List (List Nat) := [[1, 4, 4, 4, 5, 3, 5, 4], [3, 3, 3, 3, 3, 3, 3, 3], [3, 4, 4, 4, 4, 2, 3, 2], [7, 7, 7, 7, 7, 7, 7, 7]]
structure Len (b : List Nat) (k i : Nat) (ns : List Nat) : Prop where
  l : ns.length = 8
  at_ : ∀ j, j < 8 → ns.getD j 0 = b.getD j 0 ∨ (0 < j ∧ ns.getD j 0 = 0)
  off : ∀ j, 0 < j → j ≤ i → standsF k j = false → ns.getD j 0 = 0
theorem nat_nv (ns : List Nat) : (NV ns).map natOf = ns := by
  induction ns with
  | nil => rfl
  | cons n ns ih =>
    show natOf (.int (n : Int)) :: (NV ns).map natOf = _
    rw [ih]
    rfl
def kf (n : Nat) : Nat := if 0 < n then 2 ^ (7 - n) else 0
theorem kraft_kf (ns : List Nat) : kraft ns = (ns.map kf).sum := by
  unfold kraft
  induction ns with
  | nil => rfl
  | cons n ns ih =>
    rw [List.filter_cons, List.map_cons, List.sum_cons, ← ih]
    unfold kf
    by_cases c : 0 < n
    · rw [if_pos (decide_eq_true c), if_pos c, List.map_cons, List.sum_cons]
    · rw [if_neg (by simpa using c), if_neg c, Nat.zero_add]
theorem getD_set {ns : List Nat} {i j v : Nat} (h : i < ns.length) : (ns.set i v).getD j 0 = if i = j then v else ns.getD j 0 := by
  rw [List.getD_eq_getElem?_getD, List.getD_eq_getElem?_getD, List.getElem?_set]
  by_cases c : i = j
  · subst c
    rw [if_pos rfl, if_pos rfl, if_pos h]
    rfl
  · rw [if_neg c, if_neg c]
theorem Len.put {b : List Nat} {k i : Nat} {ns : List Nat} (h : Len b k i ns) (hi : i + 1 < 8) : Len b k (i + 1) (ns.set (i + 1) 0) := by
  have hl := h.l
  refine ⟨by rw [List.length_set]; exact hl, fun j hj => ?_, fun j h0 hj hs => ?_⟩
  · rw [getD_set (by omega)]
    split
    · exact .inr ⟨by omega, rfl⟩
    · exact h.at_ j hj
  · rw [getD_set (by omega)]
    split
    · rfl
    · exact h.off j h0 (by omega) hs
theorem Len.go {b : List Nat} {k i : Nat} {ns : List Nat} (h : Len b k i ns) (hs : standsF k (i + 1) = true) : Len b k (i + 1) ns := by
  refine ⟨h.l, h.at_, fun j h0 hj hs' => ?_⟩
  by_cases c : j = i + 1
  · rw [c] at hs'
    rw [hs] at hs'
    cases hs'
  · exact h.off j h0 (by omega) hs'
theorem len_ok {b : List Nat} (hb : b ∈ lenBs) {k : Nat} {ns : List Nat} (h : Len b k 7 ns) : bookB (k : Int) (some (NV ns)) = true := by
  obtain ⟨l, at_, off⟩ := h
  obtain ⟨n1, n2, n3, n4, n5, n6, n7, n8, rfl⟩ := eight l
  have a0 := at_ 0 (by decide)
  have a1 := at_ 1 (by decide)
  have a2 := at_ 2 (by decide)
  have a3 := at_ 3 (by decide)
  have a4 := at_ 4 (by decide)
  have a5 := at_ 5 (by decide)
  have a6 := at_ 6 (by decide)
  have a7 := at_ 7 (by decide)
  have o5 := off 5 (by decide) (by decide)
  have o6 := off 6 (by decide) (by decide)
  have o7 := off 7 (by decide) (by decide)
  simp only [List.getD_cons_zero, List.getD_cons_succ, standsF] at a0 a1 a2 a3 a4 a5 a6 a7 o5 o6 o7
  have key : n1 ≠ 0 ∧ n1 < 8 ∧ n2 < 8 ∧ n3 < 8 ∧ n4 < 8 ∧ n5 < 8 ∧ n6 < 8 ∧ n7 < 8 ∧ n8 < 8 ∧ kraft [n1, n2, n3, n4, n5, n6, n7, n8] ≤ 128 := by
    have kz : ∀ {n m : Nat}, (n = m ∨ 0 < 1 ∧ n = 0) → kf n ≤ kf m := fun {n m} e => by
      rcases e with e | ⟨_, e⟩
      · rw [e]; exact Nat.le_refl _
      · rw [e]; exact Nat.zero_le _
    have up : ∀ {n m i : Nat}, (n = m ∨ 0 < i ∧ n = 0) → kf n ≤ kf m ∧ n ≤ m := fun {n m i} e => by
      rcases e with e | ⟨_, e⟩
      · rw [e]; exact ⟨Nat.le_refl _, Nat.le_refl _⟩
      · rw [e]; exact ⟨Nat.zero_le _, Nat.zero_le _⟩
    have e1 : n1 = b.getD 0 0 := by
      rcases a0 with e | ⟨e, _⟩
      · exact e
      · exact absurd e (Nat.lt_irrefl _)
    have u2 := up a1
    have u3 := up a2
    have u4 := up a3
    have u5 := up a4
    have u6 := up a5
    have u7 := up a6
    have u8 := up a7
    rw [kraft_kf]
    simp only [List.map_cons, List.map_nil, List.sum_cons, List.sum_nil]
    unfold lenBs at hb
    simp only [List.mem_cons, List.not_mem_nil, or_false] at hb
    rcases hb with h | h | h | h <;> subst h <;> simp only [List.getD_cons_zero, List.getD_cons_succ] at e1 u2 u3 u4 u5 u6 u7 u8 <;> subst e1 <;> simp only [show kf 1 = 64 from rfl, show kf 2 = 32 from rfl, show kf 3 = 16 from rfl, show kf 4 = 8 from rfl, show kf 5 = 4 from rfl, show kf 7 = 1 from rfl] at u2 u3 u4 u5 u6 u7 u8 ⊢ <;> omega
  obtain ⟨k1, k2, k3, k4, k5, k6, k7, k8, k9, kk⟩ := key
  have wi : ∀ n : Nat, n < 8 → within (.int (n : Int)) 0 7 = true := fun n h => by
    show (decide ((0 : Int) ≤ (n : Int)) && decide ((n : Int) ≤ 7)) = true
    rw [decide_eq_true (by omega), decide_eq_true (by omega)]
    rfl
  show (decide ((NV [n1, n2, n3, n4, n5, n6, n7, n8]).length = 8) && sevB (NV [n1, n2, n3, n4, n5, n6, n7, n8]) && (!leftB k ((NV [n1, n2, n3, n4, n5, n6, n7, n8]).map natOf) && decide (kraft ((NV [n1, n2, n3, n4, n5, n6, n7, n8]).map natOf) ≤ 128))) = true
  rw [nat_nv, decide_eq_true kk]
  have s8 : sevB (NV [n1, n2, n3, n4, n5, n6, n7, n8]) = true := by
    show (within _ 0 7 && (within _ 0 7 && (within _ 0 7 && (within _ 0 7 && (within _ 0 7 && (within _ 0 7 && (within _ 0 7 && (within _ 0 7 && true)))))))) = true
    rw [wi n1 k2, wi n2 k3, wi n3 k4, wi n4 k5, wi n5 k6, wi n6 k7, wi n7 k8, wi n8 k9]
    rfl
  rw [s8]
  have lf : leftB k [n1, n2, n3, n4, n5, n6, n7, n8] = false := by
    show (decide (n1 = 0) || (decide ((k : Int) < 1) && decide (0 < n6 + n8) || decide ((k : Int) < 2) && decide (0 < n7))) = false
    rw [decide_eq_false k1]
    simp only [Bool.false_or, Bool.or_eq_false_iff, Bool.and_eq_false_iff, decide_eq_false_iff_not]
    refine ⟨?_, ?_⟩
    · by_cases c : (k : Int) < 1
      · have z : k = 0 := by omega
        subst z
        have q5 := o5 rfl
        have q7 := o7 rfl
        exact .inr (by omega)
      · exact .inl c
    · by_cases c : (k : Int) < 2
      · have q6 := o6 (by simp; omega)
        exact .inr (by omega)
      · exact .inl c
  rw [lf]
  rfl
def spLens : Sp := fun vs H Q _ => ∃ (st lg cl : Addr) (k m : Nat), vs = [.ref st, .int (k : Int)] ∧ k ≤ 2 ∧ m ≤ 900000 ∧ StAt H st lg cl m ∧
  ∀ (t : Addr) (ns : List Nat) (H' : Hp), bookB (k : Int) (some (NV ns)) = true → H t = none → H' t = some (.tup (NV ns)) → StAt H' st lg cl (m + 8) → Kp st lg H H' → Q (.ref t) H'
section
variable {P : Program} {w : World} {K : PySem.W.Frag} {mg : Str → Option Value} {base : Heap} (T : Top K mg)
theorem ok_lens : FnOk P w K mg base (L2.CX P w) 3 T._law_lengths.a T._law_lengths.d ["_law_state", "_law_sort_here"] spLens := by
  refine T._law_lengths.f.okX sc__law_lengths (fun vs H Q E h => ?_) (fun cdv A outer s H vs Q E hr h => ?_)
  · obtain ⟨st, lg, cl, k, m, rfl, _⟩ := h
    rfl
  · obtain ⟨st, lg, cl, kd, m, rfl, hk, hm, S, k⟩ := h
    refine ⟨_, (pss_cons (ps_set (i := 2) sc__law_lengths.nd rfl (by first | exact .inl rfl | exact .inr rfl) (pe_lst (pa_cons (pe_tup (pa_cons pe_int (pa_cons pe_int (pa_cons pe_int (pa_cons pe_int (pa_cons pe_int (pa_cons pe_int (pa_cons pe_int (pa_cons pe_int pa_nil))))))))) (pa_cons (pe_op op_repA (pe_tup (pa_cons pe_int pa_nil)) pe_int) (pa_cons (pe_tup (pa_cons pe_int (pa_cons pe_int (pa_cons pe_int (pa_cons pe_int (pa_cons pe_int (pa_cons pe_int (pa_cons pe_int (pa_cons pe_int pa_nil))))))))) (pa_cons (pe_op op_repA (pe_tup (pa_cons pe_int pa_nil)) pe_int) pa_nil))))))
      (pss_cons (ps_set (i := 3) sc__law_lengths.nd rfl (by first | exact .inl rfl | exact .inr rfl) (pe_callTy call_list_of (by rfl) T.b_list (by decide +kernel) (pa_cons (pe_call (ok_pick T) (hr.mono (by decide)) (by rfl) T._law_pick.m T._law_pick.f.kp (bd__law_pick T) .nil passE (pa_cons (pv 0) (pa_cons (pv 2) pa_nil))) pa_nil)))
      (pss_cons (ps_for (passes_of rfl) rfl (pi_range2 (by rfl) T.b_range (pa_cons pe_int (pa_cons pe_int pa_nil))) (pg_name (i := 4) sc__law_lengths.nd rfl (by first | exact .inl rfl | exact .inr rfl))
        (pss_one (ps_if (PW.pt (pw_or (pt_cmpR op_eq (pe_call (ok_draw T) (hr.mono (by decide)) (by rfl) T._law_draw.m T._law_draw.f.kp (bd__law_draw T) .nil passE (pa_cons (pv 0) (pa_cons pe_int pa_nil))) pe_int (nomark _)) (pw_or1 (pt_not (pt_val (pe_call (ok_stands T) (hr.mono (by decide)) (by rfl) T._law_stands.m T._law_stands.f.kp (bd__law_stands T) .nil passE (pa_cons (pe_tup (pa_cons pe_int (pa_cons pe_int (pa_cons pe_int pa_nil)))) (pa_cons (pe_ix (show IxR _ (rIx K) from ix_seq) (pe_call0 (ok_fash T) (hr.mono (by decide)) (by rfl) T._law_fashions.m T._law_fashions.f.kp (bd__law_fashions T) .nil passE) (pv 4) (fun _ _ => rfl)) (pa_cons (pv 1) pa_nil))))))))) (pss_one (ps_asg pe_int (pg_sub (pv 3) (pv 4) set_list))) pss_nil)))
      (pss_one (ps_ret (pe_callTy call_tuple_of (by rfl) T.b_tuple (by decide +kernel) (pa_cons (pv 3) pa_nil))))))), ?_⟩
    refine ⟨(by show 8 ≤ sizeLine; decide), fun t1 h1 => ⟨(by show 1 ≤ sizeLine; decide), fun u1 hu1 => ⟨u1, 8, _, rfl, rfl, SqT.of upd_same, by simp, by decide, by decide, by show 1 ≤ 1000; decide, fun z => absurd z (by decide), fun _ t2 h2 => ?_⟩⟩⟩
    refine ⟨(by show 8 ≤ sizeLine; decide), fun t3 h3 => ⟨(by show 1 ≤ sizeLine; decide), fun u2 hu2 => ⟨u2, 8, _, rfl, rfl, SqT.of upd_same, by simp, by decide, by decide, by show 1 ≤ 1000; decide, fun z => absurd z (by decide), fun _ t4 h4 => ?_⟩⟩⟩
    have w1 := Same.new (o := .tup (NV [1, 4, 4, 4, 5, 3, 5, 4])) h1
    have w2 := Same.new (o := .tup [V.int 3]) hu1
    have w3 := Same.new (o := .tup (NV [3, 3, 3, 3, 3, 3, 3, 3])) h2
    have w4 := Same.new (o := .tup (NV [3, 4, 4, 4, 4, 2, 3, 2])) h3
    have w5 := Same.new (o := .tup [V.int 7]) hu2
    have w6 := Same.new (o := .tup (NV [7, 7, 7, 7, 7, 7, 7, 7])) h4
    have f1 : (upd (upd (upd (upd (upd (upd H t1 (.tup (NV [1, 4, 4, 4, 5, 3, 5, 4]))) u1 (.tup [V.int 3])) t2 (.tup (NV [3, 3, 3, 3, 3, 3, 3, 3]))) t3 (.tup (NV [3, 4, 4, 4, 4, 2, 3, 2]))) u2 (.tup [V.int 7])) t4 (.tup (NV [7, 7, 7, 7, 7, 7, 7, 7]))) t1 = _ := ((w2.trans w3).trans ((w4.trans w5).trans w6)) _ _ (upd_same (H := H) (a := t1) (o := .tup (NV [1, 4, 4, 4, 5, 3, 5, 4])))
    have f2 : (upd (upd (upd (upd (upd (upd H t1 (.tup (NV [1, 4, 4, 4, 5, 3, 5, 4]))) u1 (.tup [V.int 3])) t2 (.tup (NV [3, 3, 3, 3, 3, 3, 3, 3]))) t3 (.tup (NV [3, 4, 4, 4, 4, 2, 3, 2]))) u2 (.tup [V.int 7])) t4 (.tup (NV [7, 7, 7, 7, 7, 7, 7, 7]))) t2 = _ := ((w4.trans w5).trans w6) _ _ (upd_same (a := t2) (o := .tup (NV [3, 3, 3, 3, 3, 3, 3, 3])))
    have f3 : (upd (upd (upd (upd (upd (upd H t1 (.tup (NV [1, 4, 4, 4, 5, 3, 5, 4]))) u1 (.tup [V.int 3])) t2 (.tup (NV [3, 3, 3, 3, 3, 3, 3, 3]))) t3 (.tup (NV [3, 4, 4, 4, 4, 2, 3, 2]))) u2 (.tup [V.int 7])) t4 (.tup (NV [7, 7, 7, 7, 7, 7, 7, 7]))) t3 = _ := (w5.trans w6) _ _ (upd_same (a := t3) (o := .tup (NV [3, 4, 4, 4, 4, 2, 3, 2])))
    have f4 : (upd (upd (upd (upd (upd (upd H t1 (.tup (NV [1, 4, 4, 4, 5, 3, 5, 4]))) u1 (.tup [V.int 3])) t2 (.tup (NV [3, 3, 3, 3, 3, 3, 3, 3]))) t3 (.tup (NV [3, 4, 4, 4, 4, 2, 3, 2]))) u2 (.tup [V.int 7])) t4 (.tup (NV [7, 7, 7, 7, 7, 7, 7, 7]))) t4 = some (.tup (NV [7, 7, 7, 7, 7, 7, 7, 7])) := upd_same
    have s0 : Same H (upd (upd (upd (upd (upd (upd H t1 (.tup (NV [1, 4, 4, 4, 5, 3, 5, 4]))) u1 (.tup [V.int 3])) t2 (.tup (NV [3, 3, 3, 3, 3, 3, 3, 3]))) t3 (.tup (NV [3, 4, 4, 4, 4, 2, 3, 2]))) u2 (.tup [V.int 7])) t4 (.tup (NV [7, 7, 7, 7, 7, 7, 7, 7]))) := (((w1.trans w2).trans w3).trans w4).trans (w5.trans w6)
    have S0 : StAt (upd (upd (upd (upd (upd (upd H t1 (.tup (NV [1, 4, 4, 4, 5, 3, 5, 4]))) u1 (.tup [V.int 3])) t2 (.tup (NV [3, 3, 3, 3, 3, 3, 3, 3]))) t3 (.tup (NV [3, 4, 4, 4, 4, 2, 3, 2]))) u2 (.tup [V.int 7])) t4 (.tup (NV [7, 7, 7, 7, 7, 7, 7, 7]))) st lg cl m := S.same s0
    have n1 := S.off h1
    have n2 := ((S.same w1).same w2).off h2
    have n3 := (((S.same w1).same w2).same w3).off h3
    have n4 := (((((S.same w1).same w2).same w3).same w4).same w5).off h4
    refine ⟨(by show 4 ≤ sizeLine; decide), fun l hl => ?_⟩
    change upd (upd (upd (upd (upd (upd H t1 (.tup (NV [1, 4, 4, 4, 5, 3, 5, 4]))) u1 (.tup [V.int 3])) t2 (.tup (NV [3, 3, 3, 3, 3, 3, 3, 3]))) t3 (.tup (NV [3, 4, 4, 4, 4, 2, 3, 2]))) u2 (.tup [V.int 7])) t4 (.tup (NV [7, 7, 7, 7, 7, 7, 7, 7])) l = none at hl
    show tSeq _ _ _ _ (upd (upd (upd (upd (upd (upd (upd H t1 (.tup (NV [1, 4, 4, 4, 5, 3, 5, 4]))) u1 (.tup [V.int 3])) t2 (.tup (NV [3, 3, 3, 3, 3, 3, 3, 3]))) t3 (.tup (NV [3, 4, 4, 4, 4, 2, 3, 2]))) u2 (.tup [V.int 7])) t4 (.tup (NV [7, 7, 7, 7, 7, 7, 7, 7]))) l (.lst [V.ref t1, .ref t2, .ref t3, .ref t4]))
    generalize upd (upd (upd (upd (upd (upd H t1 (.tup (NV [1, 4, 4, 4, 5, 3, 5, 4]))) u1 (.tup [V.int 3])) t2 (.tup (NV [3, 3, 3, 3, 3, 3, 3, 3]))) t3 (.tup (NV [3, 4, 4, 4, 4, 2, 3, 2]))) u2 (.tup [V.int 7])) t4 (.tup (NV [7, 7, 7, 7, 7, 7, 7, 7])) = H0 at f1 f2 f3 f4 s0 S0 hl ⊢
    have tl := Same.new (o := .lst [V.ref t1, .ref t2, .ref t3, .ref t4]) hl
    have nl := S0.off hl
    have f1 := tl _ _ f1
    have f2 := tl _ _ f2
    have f3 := tl _ _ f3
    have f4 := tl _ _ f4
    refine ⟨_, rfl, _, rfl, st, lg, cl, l, _, m, rfl, upd_same, nl.2, (by show 0 < 4; decide), (by show 4 ≤ 1000; decide), by omega, S0.same tl, fun x H1 hx S1 k1 => ?_⟩
    obtain ⟨a, b, hb, rfl, ea⟩ : ∃ a b, b ∈ lenBs ∧ x = .ref a ∧ H1 a = some (.tup (NV b)) := by
      simp only [List.mem_cons, List.not_mem_nil, or_false] at hx
      rcases hx with h | h | h | h <;> subst h
      · exact ⟨_, [1, 4, 4, 4, 5, 3, 5, 4], by decide, rfl, k1 _ _ f1 n1.1 n1.2⟩
      · exact ⟨_, [3, 3, 3, 3, 3, 3, 3, 3], by decide, rfl, k1 _ _ f2 n2.1 n2.2⟩
      · exact ⟨_, [3, 4, 4, 4, 4, 2, 3, 2], by decide, rfl, k1 _ _ f3 n3.1 n3.2⟩
      · exact ⟨_, [7, 7, 7, 7, 7, 7, 7, 7], by decide, rfl, k1 _ _ f4 n4.1 n4.2⟩
    have b8 : b.length = 8 := by
      unfold lenBs at hb
      simp only [List.mem_cons, List.not_mem_nil, or_false] at hb
      rcases hb with h | h | h | h <;> subst h <;> rfl
    have kH := (Kp.same (st := st) (lg := lg) (s0.trans tl)).trans k1
    clear k1 f1 f2 f3 f4 n1 n2 n3 n4 nl tl s0 w1 w2 w3 w4 w5 w6 hx S0
    refine ⟨a, _, rfl, .inr (SqT.of ea), fun f hf => ?_⟩
    have tf := Same.new (o := .lst (NV b)) hf
    have nf := S1.off hf
    have ncl := offc S1 hf
    have hfH := Kp.free kH S1 hf
    have ef : (upd H1 f (.lst (NV b))) f = some (.lst (NV b)) := upd_same
    have S2 := S1.same tf
    have k2 := kH.trans (Kp.same tf)
    generalize upd H1 f (.lst (NV b)) = H2 at tf ef S2 k2 ⊢
    refine ⟨_, _, rfl, ⟨by decide, by decide, by decide, by decide⟩, ?_⟩
    refine for_range (n := 7) (fun j σ H' => ∃ ns v4, σ = [some (.ref st), some (.int (kd : Int)), some (.ref l), some (.ref f), v4] ∧ Len b kd j ns ∧ H' f = some (.lst (NV ns)) ∧ StAt H' st lg cl (m + 1 + j) ∧ Kp st lg H H') ⟨b, none, rfl, ⟨b8, fun j _ => .inl rfl, fun j h0 h1 => absurd h0 (by omega)⟩, ef, S2, k2⟩ ?_ ?_
    · rintro i σ H3 hi ⟨ns, v4, rfl, ln, ef, S3, k3⟩
      rw [show (1 : Int) + (i : Int) = ((i + 1 : Nat) : Int) by omega]
      refine ⟨_, rfl, st, lg, cl, 5, m + 1 + i, rfl, by decide, by decide, by omega, S3, fun r H4 hr S4 k4 => ?_⟩
      have ef4 := k4 _ _ ef nf.1 nf.2
      have k34 := k3.trans k4
      have put : ∀ H5, H5 f = some (.lst (NV ns)) → StAt H5 st lg cl (m + 1 + i + 1) → Kp st lg H H5 → ∃ ns' v4', [some (V.ref st), some (.int (kd : Int)), some (.ref l), some (.ref f), some (.int ((i + 1 : Nat) : Int))] = [some (V.ref st), some (.int (kd : Int)), some (.ref l), some (.ref f), v4'] ∧ Len b kd (i + 1) ns' ∧ (upd H5 f (.lst ((NV ns).set (i + 1) (.int 0)))) f = some (.lst (NV ns')) ∧ StAt (upd H5 f (.lst ((NV ns).set (i + 1) (.int 0)))) st lg cl (m + 1 + (i + 1)) ∧ Kp st lg H (upd H5 f (.lst ((NV ns).set (i + 1) (.int 0)))) := fun H5 e5 S5 k5 => by
        refine ⟨ns.set (i + 1) 0, _, rfl, ln.put (by omega), ?_, stAt_put S5 nf.1 nf.2 ncl, Kp.put3 k5 hfH⟩
        rw [upd_same]
        unfold NV
        rw [List.map_set]
        rfl
      refine ⟨rfl, _, rfl, ?_⟩
      by_cases c : r = 0
      · subst c
        refine iteT ⟨_, rfl, _, rfl, f, NV ns, ((i + 1 : Nat) : Int), i + 1, rfl, rfl, ef4, ixN_nat (by rw [NV_len, ln.l]; omega), put _ ef4 S4 k34⟩
      rw [show decide (V.int (r : Int) = V.int 0) = false from decide_eq_false fun z => c (by injection z; omega)]
      refine iteF ⟨(by show 3 ≤ sizeLine; decide), fun p hp => ?_⟩
      have tp := Same.new (o := .tup (bkV ⟨2, 2, 2⟩)) hp
      have ep : (upd H4 p (.tup (bkV ⟨2, 2, 2⟩))) p = some (.tup (bkV ⟨2, 2, 2⟩)) := upd_same
      show tCons _ _ _ (upd H4 p (.tup (bkV ⟨2, 2, 2⟩))) _
      generalize upd H4 p (.tup (bkV ⟨2, 2, 2⟩)) = H5 at tp ep ⊢
      refine ⟨rfl, fun q H6 s6 hq eq => ⟨_, rfl, ix_L (K := K) eq (mode_at (p := i + 1) (by omega)) ⟨_, rfl, p, ⟨2, 2, 2⟩, _, kd, _, rfl, s6 _ _ ep, stands_at kd (i + 1) (by omega), fun H7 s7 => ⟨_, rfl, ?_⟩⟩⟩⟩
      have s47 := tp.trans (s6.trans s7)
      have e7 := s47 _ _ ef4
      have S7 := S4.same s47
      have k7 := k34.trans (Kp.same s47)
      refine iteNot (fun z => ?_) fun z => ?_
      · exact ⟨_, rfl, _, rfl, f, NV ns, ((i + 1 : Nat) : Int), i + 1, rfl, rfl, e7, ixN_nat (by rw [NV_len, ln.l]; omega), put _ e7 S7 k7⟩
      · exact ⟨ns, _, rfl, ln.go z, e7, S7.mono (by omega), k7⟩
    · rintro σ H3 ⟨ns, v4, rfl, ln, ef, S3, k3⟩
      refine ⟨_, rfl, f, _, rfl, .inl ⟨SqL.of ef, fun t ht => ?_⟩⟩
      have tt := Same.new (o := .tup (NV ns)) ht
      exact k t ns _ (len_ok hb ln) (Kp.free k3 S3 ht) upd_same ((S3.same tt).mono (by omega)) (k3.trans (Kp.same tt))
end
end K08
namespace K08
open PySem PySem.Spec PyProof.Rows L2 PySem.W LamX KA KW KU KL KT
open Evl (pss_cut tCut)
/-! ### the law's crown, its head, its signs -/
def crown1 (k l r : Int) : List (Key × V) := [(kS "sort", .int k), (kS "slack", .int l), (kS "rung", .int r)]
def crown2 (r : Int) (b : Addr) : List (Key × V) := [(kS "range", .int r), (kS "lengths", .ref b)]
def crD (h : Hdv) (b : Addr) : List (Key × V) := crown1 h.kd h.lo h.gr ++ crown2 h.re b
theorem crown_m1 {k l r : Int} : mergeK [] (crown1 k l r) = crown1 k l r := merge_new _ _ (by show ([] ++ [kS "sort", kS "slack", kS "rung"] : List Key).Nodup; decide +kernel)
theorem crown_m2 {r : Int} {b : Addr} : mergeK [] (crown2 r b) = crown2 r b := merge_new _ _ (by show ([] ++ [kS "range", kS "lengths"] : List Key).Nodup; decide +kernel)
theorem crown_m3 {k l r : Int} {s : Int} {b : Addr} : mergeK (crown1 k l r) (crown2 s b) = crown1 k l r ++ crown2 s b := merge_new _ _ (by show ([kS "sort", kS "slack", kS "rung"] ++ [kS "range", kS "lengths"] : List Key).Nodup; decide +kernel)
/-- a crown at d, its lengths at b -/
structure Cr (H : Hp) (d b : Addr) (h : Hdv) : Prop where
  d : H d = some (.dK (crD h b))
  b : H b = some (.tup (NV h.ns))
theorem Cr.keep {H H' : Hp} {d b : Addr} {h : Hdv} (c : Cr H d b h) (s : Same H H') : Cr H' d b h := ⟨s _ _ c.d, s _ _ c.b⟩
section
variable {H : Hp} {d b : Addr} {h : Hdv}
theorem Cr.g1 (c : Cr H d b h) : DGet H d (kV (kS "sort")) (some (.int h.kd)) := (show valV (crD h b) (kS "sort") = some (.int h.kd) from rfl) ▸ DGet.k c.d
theorem Cr.g2 (c : Cr H d b h) : DGet H d (kV (kS "slack")) (some (.int h.lo)) := (show valV (crD h b) (kS "slack") = some (.int h.lo) from rfl) ▸ DGet.k c.d
theorem Cr.g3 (c : Cr H d b h) : DGet H d (kV (kS "rung")) (some (.int h.gr)) := (show valV (crD h b) (kS "rung") = some (.int h.gr) from rfl) ▸ DGet.k c.d
theorem Cr.g4 (c : Cr H d b h) : DGet H d (kV (kS "range")) (some (.int h.re)) := (show valV (crD h b) (kS "range") = some (.int h.re) from rfl) ▸ DGet.k c.d
theorem Cr.g5 (c : Cr H d b h) : DGet H d (kV (kS "lengths")) (some (.ref b)) := (show valV (crD h b) (kS "lengths") = some (.ref b) from rfl) ▸ DGet.k c.d
end
def spCrown : Sp := fun vs H Q _ => ∃ (st lg cl : Addr) (k l m : Nat), vs = [.ref st, .int (k : Int), .int (l : Int)] ∧ k ≤ 2 ∧ l ≤ 7 ∧ m ≤ 800000 ∧ StAt H st lg cl m ∧
  ∀ (d b : Addr) (h : Hdv) (H' : Hp), Hok h → h.kd = k → h.lo = l → H d = none → H b = none → Cr H' d b h → StAt H' st lg cl (m + 10) → Kp st lg H H' → Q (.ref d) H'
/-- a head of good parts is made -/
theorem init_good {K : PySem.W.Frag} {C CB : Addr} {H : Hp} {x dx b : Addr} {h : Hdv} {Q : VK} {E : XK} (o : Hok h) (hb : H b = some (.tup (NV h.ns))) (ex : H x = some (.ins C dx []))
    (k : ∀ H1 H', Same H H1 → H' x = some (.ins C dx (headFs h.kd h.lo h.gr h.re b)) → (∀ c, c ≠ x → H' c = H1 c) → Q .non H') :
    spInit K C CB [.ref x, .int h.kd, .int h.lo, .int h.gr, .int h.re, .ref b] H Q E := by
  have l8 := o.eight.1
  refine ⟨x, dx, _, _, _, _, _, _, _, _, _, _, rfl, .int _, .int _, .int _, .int _, Rv.nv hb (by rw [l8]; decide), ex, fun q => ?_, fun kd ekd _ _ => ⟨fun q => ?_, fun lo elo _ _ => ⟨fun q => ?_, fun gr egr _ _ => ⟨fun q => ?_, fun re ere _ _ => fun H1 s1 => ⟨fun q => ?_, fun b' ns eb ens q eb6 H7 e7 o7 => ?_⟩⟩⟩⟩⟩
  · have q : (decide (0 ≤ h.kd) && decide (h.kd ≤ 2)) = false := q
    rw [decide_eq_true o.k0, decide_eq_true o.k1] at q
    cases q
  · have q : (decide (0 ≤ h.lo) && decide (h.lo ≤ 7)) = false := q
    rw [decide_eq_true o.l0, decide_eq_true o.l1] at q
    cases q
  · have q : (decide (0 ≤ h.gr) && decide (h.gr ≤ 7)) = false := q
    rw [decide_eq_true o.g0, decide_eq_true o.g1] at q
    cases q
  · have q : (decide (0 ≤ h.re) && decide (h.re ≤ 4)) = false := q
    rw [decide_eq_true o.r0, decide_eq_true o.r1] at q
    cases q
  · cases ekd
    rw [o.b] at q
    cases q
  · cases ekd
    cases elo
    cases egr
    cases ere
    cases eb
    exact k H1 H7 s1 e7 o7
theorem flat3_len : ∀ l : List Nat, (l.flatMap (bitsL 3)).length = 3 * l.length := fun l => by
  induction l with
  | nil => rfl
  | cons x l ih => rw [List.flatMap_cons, List.length_append, ih, bitsL_len, List.length_cons]; omega
def spLHead (C : Addr) : Sp := fun vs H Q _ => ∃ (d b : Addr) (h : Hdv), vs = [.ref d] ∧ Cr H d b h ∧ Hok h ∧ ∀ (x : Addr) H', Same H H' → H x = none → Hd C H' (.ref x) h → Q (.ref x) H'
def spSigns : Sp := fun vs H Q _ => ∃ (d b : Addr) (h : Hdv), vs = [.ref d] ∧ Cr H d b h ∧ Hok h ∧ ∀ H', Same H H' → Q (.str (txt (headL h))) H'
theorem made_same {H H1 H' : Hp} {x dx C : Addr} (hx : H x = none) (hdx : H dx = none) (s : Same (upd (upd H dx (.own x)) x (.ins C dx [])) H1) (o : ∀ c, c ≠ x → H' c = H1 c) : Same H H' := fun c u e => by
  have n1 : c ≠ x := ne_of_none e hx
  have n2 : c ≠ dx := ne_of_none e hdx
  rw [o c n1]
  exact s _ _ (by rw [upd_ne n1, upd_ne n2]; exact e)
section
variable {P : Program} {w : World} {K : PySem.W.Frag} {mg : Str → Option Value} {base : Heap} (T : Top K mg) (MD : ModesT K mg) (HD : HeadT K mg) (BH : BadHeadT P w K mg T.reel.C)
theorem ok_crown : FnOk P w K mg base (L2.CX P w) 4 T._law_crown.a T._law_crown.d ["_law_state", "_law_sort_here", "_law_slack"] spCrown := by
  refine T._law_crown.f.okX sc__law_crown (fun vs H Q E h => ?_) (fun cdv A outer s H vs Q E hr h => ?_)
  · obtain ⟨st, lg, cl, k, l, m, rfl, _⟩ := h
    rfl
  · obtain ⟨st, lg, cl, kd, lo, m, rfl, hk, hl, hm, S, k⟩ := h
    refine ⟨_, (pss_cons (ps_set (i := 3) sc__law_crown.nd rfl (by first | exact .inl rfl | exact .inr rfl) (pe_disp (pps_cons pe_str (pv 1) (pps_cons pe_str (pv 2) (pps_cons pe_str (pe_call (ok_pick T) (hr.mono (by decide)) (by rfl) T._law_pick.m T._law_pick.f.kp (bd__law_pick T) .nil passE (pa_cons (pv 0) (pa_cons (pe_lst (pa_cons pe_int (pa_cons pe_int (pa_cons pe_int (pa_cons pe_int (pa_cons pe_int (pa_cons pe_int pa_nil))))))) pa_nil))) pps_nil))) (by rfl) (by rfl) (fun z => by cases z) (by decide)))
      (pss_cons (ps_expr (pe_bm PySem.F.plainAttrs_dict PySem.F.slot_dict_update PySem.F.type_dict_update KDU.mt_update (pv 3) (pa_cons (pe_disp (pps_cons pe_str (pe_call (ok_pick T) (hr.mono (by decide)) (by rfl) T._law_pick.m T._law_pick.f.kp (bd__law_pick T) .nil passE (pa_cons (pv 0) (pa_cons (pe_lst (pa_cons pe_int (pa_cons pe_int (pa_cons pe_int (pa_cons pe_int (pa_cons pe_int pa_nil)))))) pa_nil))) (pps_cons pe_str (pe_call (ok_lens T) (hr.mono (by decide)) (by rfl) T._law_lengths.m T._law_lengths.f.kp (bd__law_lengths T) .nil passE (pa_cons (pv 0) (pa_cons (pv 1) pa_nil))) pps_nil)) (by rfl) (by rfl) (fun z => by cases z) (by decide)) pa_nil)))
      (pss_one (ps_ret (pv 3))))), ?_⟩
    intro d hd
    have td := Same.new (o := .dK []) hd
    have S1 := S.same td
    have nd := S.off hd
    have ncl := offc S hd
    have ed : (upd H d (.dK [])) d = some (.dK []) := upd_same
    generalize upd H d (.dK []) = H1 at td S1 ed ⊢
    refine ⟨_, rfl, _, rfl, _, rfl, (by show 6 ≤ sizeLine; decide), fun q hq => ?_⟩
    have tq := Same.new (o := .lst [V.int 0, .int 0, .int 1, .int 2, .int 5, .int 7]) hq
    refine ⟨st, lg, cl, q, _, m, rfl, upd_same, (S1.off hq).2, (by show 0 < 6; decide), (by show 6 ≤ 1000; decide), by omega, S1.same tq, fun x H2 hx S2 k2 => ?_⟩
    obtain ⟨gr, rfl, g7⟩ : ∃ n : Nat, x = .int (n : Int) ∧ n ≤ 7 := by
      simp only [List.mem_cons, List.not_mem_nil, or_false] at hx
      rcases hx with h | h | h | h | h | h <;> subst h
      · exact ⟨0, rfl, by decide⟩
      · exact ⟨0, rfl, by decide⟩
      · exact ⟨1, rfl, by decide⟩
      · exact ⟨2, rfl, by decide⟩
      · exact ⟨5, rfl, by decide⟩
      · exact ⟨7, rfl, by decide⟩
    have k12 := (Kp.same (st := st) (lg := lg) tq).trans k2
    have ed2 := k12 _ _ ed nd.1 nd.2
    refine ⟨ed2, crown1 kd lo gr, rfl, (by show 3 ≤ 15; decide), ?_⟩
    rw [crown_m1]
    have kH : Kp st lg H (upd H2 d (.dK (crown1 kd lo gr))) := Kp.put3 ((Kp.same td).trans k12) hd
    have S3 : StAt (upd H2 d (.dK (crown1 kd lo gr))) st lg cl (m + 1) := stAt_putO S2 nd.1 nd.2 ncl
    have ed3 : (upd H2 d (.dK (crown1 kd lo gr))) d = some (.dK (crown1 kd lo gr)) := upd_same
    clear hx tq k12 k2 ed2 S2
    generalize upd H2 d (.dK (crown1 kd lo gr)) = H3 at kH S3 ed3 ⊢
    refine ⟨_, rfl, .inr (.inr (.inl ⟨rfl, .inl ⟨_, ed3⟩⟩)), fun d2 hd2 => ?_⟩
    have td2 := Same.new (o := .dK []) hd2
    have nd2 := S3.off hd2
    have ncl2 := offc S3 hd2
    have S4 := S3.same td2
    have e2 : (upd H3 d2 (.dK [])) d2 = some (.dK []) := upd_same
    have ed4 := td2 _ _ ed3
    have k4 := kH.trans (Kp.same td2)
    have ne : d ≠ d2 := ne_of_none ed3 hd2
    have hd2H := Kp.free kH S3 hd2
    generalize upd H3 d2 (.dK []) = H4 at S4 e2 ed4 k4 ⊢
    refine ⟨_, rfl, (by show 5 ≤ sizeLine; decide), fun q hq => ?_⟩
    have tq := Same.new (o := .lst [V.int 0, .int 1, .int 1, .int 2, .int 4]) hq
    refine ⟨st, lg, cl, q, _, m + 1, rfl, upd_same, (S4.off hq).2, (by show 0 < 5; decide), (by show 5 ≤ 1000; decide), by omega, S4.same tq, fun x H5 hx S5 k5 => ?_⟩
    obtain ⟨re, rfl, r4⟩ : ∃ n : Nat, x = .int (n : Int) ∧ n ≤ 4 := by
      simp only [List.mem_cons, List.not_mem_nil, or_false] at hx
      rcases hx with h | h | h | h | h <;> subst h
      · exact ⟨0, rfl, by decide⟩
      · exact ⟨1, rfl, by decide⟩
      · exact ⟨1, rfl, by decide⟩
      · exact ⟨2, rfl, by decide⟩
      · exact ⟨4, rfl, by decide⟩
    have k45 := (Kp.same (st := st) (lg := lg) tq).trans k5
    refine ⟨_, rfl, _, rfl, st, lg, cl, kd, m + 1 + 1, rfl, hk, by omega, S5, fun t ns H6 bk ht et S6 k6 => ?_⟩
    have k46 := k45.trans k6
    have e6 := k46 _ _ e2 nd2.1 nd2.2
    have ed6 := k46 _ _ ed4 nd.1 nd.2
    have kH5 := k4.trans k45
    have htH := Kp.free kH5 S5 ht
    have kH6 := kH5.trans k6
    refine ⟨e6, crown2 re t, rfl, (by show 2 ≤ 15; decide), ?_⟩
    rw [crown_m2]
    refine ⟨d, d2, _, _, rfl, rfl, (by rw [upd_ne ne]; exact ed6), upd_same, ne, (by show 3 + 2 ≤ sizeLine; decide), ?_⟩
    rw [crown_m3]
    have nt : t ≠ d := fun z => by subst z; rw [et] at ed6; cases ed6
    have nt2 : t ≠ d2 := fun z => by subst z; rw [et] at e6; cases e6
    refine ⟨_, rfl, k d t ⟨kd, lo, gr, re, ns⟩ _ ⟨?_, ?_, ?_, ?_, ?_, ?_, ?_, ?_, bk⟩ rfl rfl hd htH ⟨upd_same, ?_⟩ ((stAt_putO (stAt_putO S6 nd2.1 nd2.2 ncl2) nd.1 nd.2 ncl).mono (by omega)) (Kp.put3 (Kp.put3 kH6 hd2H) hd)⟩
    · show (0 : Int) ≤ (kd : Int); omega
    · show (kd : Int) ≤ 2; omega
    · show (0 : Int) ≤ (lo : Int); omega
    · show (lo : Int) ≤ 7; omega
    · show (0 : Int) ≤ (gr : Int); omega
    · show (gr : Int) ≤ 7; omega
    · show (0 : Int) ≤ (re : Int); omega
    · show (re : Int) ≤ 4; omega
    · rw [upd_ne nt, upd_ne nt2]
      exact et
include T MD HD BH in
theorem ok_lhead : FnOk P w K mg base (L2.CX P w) 7 T._law_head.a T._law_head.d ["_law_crown_here"] (spLHead HD.C) := by
  refine T._law_head.f.okX sc__law_head (fun vs H Q E h => ?_) (fun cdv A outer s H vs Q E hr h => ?_)
  · obtain ⟨d, b, h, rfl, _⟩ := h
    rfl
  · obtain ⟨d, b, h, rfl, c, o, k⟩ := h
    refine ⟨_, (pss_one (ps_ret (pe_make HD.M (ok_init T MD HD BH) (hr.mono (by decide)) (by rfl) HD.g (HD.F.binds fun _ _ _ _ _ _ us hl => match us, hl with | [_, _, _, _, _, _], _ => rfl) .nil passE (pa_cons (pe_dget (hu_of hr) (pv 0) pe_str (fun _ _ => rfl)) (pa_cons (pe_dget (hu_of hr) (pv 0) pe_str (fun _ _ => rfl)) (pa_cons (pe_dget (hu_of hr) (pv 0) pe_str (fun _ _ => rfl)) (pa_cons (pe_dget (hu_of hr) (pv 0) pe_str (fun _ _ => rfl)) (pa_cons (pe_dget (hu_of hr) (pv 0) pe_str (fun _ _ => rfl)) pa_nil)))))))), ?_⟩
    refine ⟨_, rfl, d, _, rfl, c.g1, _, rfl, d, _, rfl, c.g2, _, rfl, d, _, rfl, c.g3, _, rfl, d, _, rfl, c.g4, _, rfl, d, _, rfl, c.g5, fun x dx hx hdx ne => ?_⟩
    refine init_good o (by rw [upd_ne (ne_of_none c.b hx), upd_ne (ne_of_none c.b hdx)]; exact c.b) upd_same fun H1 H' s1 e1 o1 => ?_
    have sH := made_same hx hdx s1 o1
    exact ⟨rfl, k x H' sH hx ⟨x, dx, b, rfl, e1, sH _ _ c.b, by rw [o.eight.1]; decide⟩⟩
theorem ok_signs : FnOk P w K mg base (L2.CX P w) 2 T._law_head_signs.a T._law_head_signs.d ["_law_crown_here"] spSigns := by
  refine T._law_head_signs.f.okX sc__law_head_signs (fun vs H Q E h => ?_) (fun cdv A outer s H vs Q E hr h => ?_)
  · obtain ⟨d, b, h, rfl, _⟩ := h
    rfl
  · obtain ⟨d, b, h, rfl, c, o, k⟩ := h
    refine ⟨_, (pss_cons (ps_set (i := 1) sc__law_head_signs.nd rfl (by first | exact .inl rfl | exact .inr rfl) (pe_op op_add_str (pe_op op_add_str (pe_call (ok_twos T) (hr.mono (by decide)) (by rfl) T._law_twos.m T._law_twos.f.kp (bd__law_twos T) .nil passE (pa_cons (pe_dget (hu_of hr) (pv 0) pe_str (fun _ _ => rfl)) (pa_cons pe_int pa_nil))) (pe_call (ok_twos T) (hr.mono (by decide)) (by rfl) T._law_twos.m T._law_twos.f.kp (bd__law_twos T) .nil passE (pa_cons (pe_dget (hu_of hr) (pv 0) pe_str (fun _ _ => rfl)) (pa_cons pe_int pa_nil)))) (pe_call (ok_twos T) (hr.mono (by decide)) (by rfl) T._law_twos.m T._law_twos.f.kp (bd__law_twos T) .nil passE (pa_cons (pe_dget (hu_of hr) (pv 0) pe_str (fun _ _ => rfl)) (pa_cons pe_int pa_nil)))))
      (pss_one (ps_ret (pe_op op_add_str (pe_op op_add_str (pv 1) (pe_call (ok_twos T) (hr.mono (by decide)) (by rfl) T._law_twos.m T._law_twos.f.kp (bd__law_twos T) .nil passE (pa_cons (pe_dget (hu_of hr) (pv 0) pe_str (fun _ _ => rfl)) (pa_cons pe_int pa_nil)))) (pe_join pe_str (pe_lc (own := [("_law_item", 2)]) (g := (gName 2)) (tt := tYes) rfl sc__law_head_signs.nd (pi_tup (pe_dget (hu_of hr) (pv 0) pe_str (fun _ _ => rfl))) (blkOk_by (own := [("_law_item", 2)]) (N := ["_law_crown_here", "_law_found", "_law_item"]) (sc := defScope s__law_head_signs) (by decide +kernel)) (fun _ _ _ _ _ => pg_name (i := 2) sc__law_head_signs.nd rfl (by first | exact .inl rfl | exact .inr rfl)) (fun _ _ _ _ _ => pts_nil) (fun _ _ _ _ _ => (pe_call (ok_twos T) (hr.mono (by decide)) (by rfl) T._law_twos.m T._law_twos.f.kp (bd__law_twos T) .nil passE (pa_cons (pv 2) (pa_cons pe_int pa_nil)))))))))), ?_⟩
    obtain ⟨l8, s8, _⟩ := o.eight
    have ek : V.int h.kd = .int (h.kd.toNat : Int) := by rw [Int.toNat_of_nonneg o.k0]
    have el : V.int h.lo = .int (h.lo.toNat : Int) := by rw [Int.toNat_of_nonneg o.l0]
    have eg : V.int h.gr = .int (h.gr.toNat : Int) := by rw [Int.toNat_of_nonneg o.g0]
    have er : V.int h.re = .int (h.re.toNat : Int) := by rw [Int.toNat_of_nonneg o.r0]
    have sz : ∀ n, n ≤ 1000 → n ≤ sizeLine := fun n hn => Nat.le_trans hn (by decide)
    have tl : ∀ m n : Nat, (twosT m n).length = m := fun m n => by rw [twosT_txt, txt_len, bitsL_len]
    refine ⟨_, rfl, d, _, rfl, c.g1, _, 2, by rw [ek]; rfl, by decide, _, rfl, d, _, rfl, c.g2, _, 3, by rw [el]; rfl, by decide, _, _, rfl, rfl, sz _ (by rw [tl, tl]; decide), _, rfl, d, _, rfl, c.g3, _, 3, by rw [eg]; rfl, by decide, _, _, rfl, rfl, sz _ ?_, ?_⟩
    · rw [twosT_txt, twosT_txt, twosT_txt, txt_app, txt_len, txt_len, List.length_append, bitsL_len, bitsL_len, bitsL_len]; decide
    refine ⟨_, rfl, _, rfl, d, _, rfl, c.g4, _, 3, by rw [er]; rfl, by decide, _, _, rfl, rfl, sz _ ?_, ⟨_, rfl⟩, _, rfl, d, _, rfl, c.g5, b, rfl, ⟨_, SqT.of c.b⟩, fun D hD => ?_⟩
    · rw [twosT_txt, twosT_txt, twosT_txt, twosT_txt, txt_app, txt_app, txt_len, txt_len, List.length_append, List.length_append, bitsL_len, bitsL_len, bitsL_len, bitsL_len]; decide
    refine lcP (walk_tup (xs := NV h.ns)) h.ns (fun _ => true) (fun n => V.str (txt (bitsL 3 n))) (NV_len h.ns) hD (fun H' s => SqT.of (s _ _ c.b)) (by omega) yAt_same ?_ ?_
    · rintro i x m H2 H4 N R hm s2 ⟨rfl, hx⟩ hy hn
      rw [NV_get hm] at hx
      cases hx
      refine ⟨rfl, ?_⟩
      dsimp only [tYes]
      rw [if_pos rfl]
      exact ⟨_, rfl, _, 3, rfl, by decide, hy rfl _ fun _ _ e => e⟩
    intro H4 s4 e4
    rw [filter_yes] at e4
    refine ⟨"", D, h.ns.map fun n => txt (bitsL 3 n), rfl, rfl, .inl ?_, ?_, _, _, rfl, rfl, ?_, ?_⟩
    · rw [List.map_map]
      exact SqL.of e4
    · rw [sum_len, l8, List.length_map, l8]; decide
    · rw [join_bits, twosT_txt, twosT_txt, twosT_txt, twosT_txt, txt_app, txt_app, txt_app, txt_len, txt_len, List.length_append, List.length_append, List.length_append, bitsL_len, bitsL_len, bitsL_len, bitsL_len, flat3_len, l8]
      decide
    refine q_str (k _ s4) ?_
    rw [join_bits, twosT_txt, twosT_txt, twosT_txt, twosT_txt, txt_app, txt_app, txt_app, txt_app]
    unfold headL
    simp only [List.flatMap_cons, List.append_assoc]
end
end K08
namespace KZ3
open PySem PySem.Spec PyProof.Rows L2
open Sem (wp)
/-! ### zip of three lists -/
theorem typeCall3 (a b c : Value) : checkTypeCall "zip" ⟨[a, b, c], []⟩ = pure () := by kernel_rfl
theorem newCall3 (a b c : Value) : checkBuiltinCall "zip.__new__" ⟨[.type "zip", a, b, c], []⟩ = pure () := by kernel_rfl
theorem args_init4 (a b c d : Value) : argsOk "object.__init__" ⟨[a, b, c, d], []⟩ := by
  unfold argsOk; rw [signature?_of (id := "object.__init__") (n := ['_', '_', 't', 'i', 'n', 'i', '_', '_']) (o := ['t', 'c', 'e', 'j', 'b', 'o']) (by kernel_rfl) F.owner_object]; kernel_rfl
abbrev IsTrip (h : Heap) (T : Addr) (a b c : Value) : Prop := h.get? T = some { cls := .type "tuple", data := .seq #[a, b, c] }
structure Ap3 (z TI TO i1 i2 i3 l1 l2 l3 : Nat) : Prop where
  o1 : l1 < i1
  o2 : l2 < i1
  o3 : l3 < i1
  o4 : i1 < i2
  o5 : i2 < i3
  o6 : i3 < TI
  o7 : TI < TO
  o8 : TO < z
theorem neA {a b : Nat} (h : ¬ a = b) : (show Addr from a) ≠ (show Addr from b) := h
section
variable {prog : Program} {w : World} {A : Around} {E : Value → Shared → Prop} {s : Shared}
theorem wpAny_updateSeq_trip {T : Addr} {a b c x : Value} {k : Nat} {Q : Unit → Shared → Prop} (hT : IsTrip s.heap T a b c)
    (h : ∀ h', h'.get? T = some { cls := .type "tuple", data := .seq ((#[a, b, c] : Array Value).setIfInBounds k x) } → Heap.SameBut T s.heap h' → Q () { s with heap := h' }) :
    wpAny (model prog w) A (updateSeq T (·.setIfInBounds k x)) Q E s := by
  refine wpAny_updateSeq hT rfl (h _ ?_ (Heap.SameBut.update ..))
  rw [Heap.get?_update_self _ hT rfl]
  simp [Obj.mapSeq]
theorem zip3_next_item {z TI TO i1 i2 i3 l1 l2 l3 : Addr} {k1 k2 k3 : Nat} {xs ys zs : Array Value} {x y u a b c : Value} {Q : Value → Shared → Prop} (D : Ap3 z TI TO i1 i2 i3 l1 l2 l3)
    (hz : IsZip s.heap z TI TO .none) (hTI : IsTrip s.heap TI (.ref i1) (.ref i2) (.ref i3)) (hTO : IsTrip s.heap TO a b c)
    (h1 : s.heap.IsListIter i1 l1 k1) (h2 : s.heap.IsListIter i2 l2 k2) (h3 : s.heap.IsListIter i3 l3 k3) (hl1 : s.heap.IsList l1 xs) (hl2 : s.heap.IsList l2 ys) (hl3 : s.heap.IsList l3 zs) (hx : xs[k1]? = some x) (hy : ys[k2]? = some y) (hu : zs[k3]? = some u)
    (hQ : ∀ h', IsZip h' z TI TO (rawInt s.heap.objs.size) → IsTrip h' TO x y u → h'.IsListIter i1 l1 (k1 + 1) → h'.IsListIter i2 l2 (k2 + 1) → h'.IsListIter i3 l3 (k3 + 1) → IsTrip h' s.heap.objs.size x y u → h'.objs.size = s.heap.objs.size + 1 →
      (∀ c o, c ≠ z → c ≠ TO → c ≠ i1 → c ≠ i2 → c ≠ i3 → s.heap.get? c = some o → h'.get? c = some o) → Q (.ref s.heap.objs.size) { s with heap := h' }) :
    wpAny (model prog w) A (Builtin.«zip.__next__» ⟨[.ref z], []⟩) (fun fin s' => ∃ v, fin = .done (.ret v) ∧ Q v s') E s := by
  obtain ⟨o1, o2, o3, o4, o5, o6, o7, o8⟩ := D
  have n1 : i1 ≠ z := neA (by omega)
  have n2 : i2 ≠ z := neA (by omega)
  have n3 : i3 ≠ z := neA (by omega)
  have n4 : TO ≠ z := neA (by omega)
  have n5 : TO ≠ i1 := neA (by omega)
  have n6 : TO ≠ i2 := neA (by omega)
  have n7 : TO ≠ i3 := neA (by omega)
  have n8 : i1 ≠ i2 := neA (by omega)
  have n9 : i1 ≠ i3 := neA (by omega)
  have n10 : i2 ≠ i3 := neA (by omega)
  have m1 : l1 ≠ z := neA (by omega)
  have m2 : l2 ≠ z := neA (by omega)
  have m3 : l2 ≠ i1 := neA (by omega)
  have m4 : l2 ≠ TO := neA (by omega)
  have m5 : l3 ≠ z := neA (by omega)
  have m6 : l3 ≠ i1 := neA (by omega)
  have m7 : l3 ≠ TO := neA (by omega)
  have m8 : l3 ≠ i2 := neA (by omega)
  show wpAny _ _ (field (.ref z) 2 >>= _) _ _ _
  refine wpAny_bind (wpAny_field hz rfl (x := .bool false) rfl ?_)
  show wpAny _ _ (field (.ref z) 3 >>= _) _ _ _
  refine wpAny_bind (wpAny_field hz rfl (x := .ref TI) rfl ?_)
  refine wpAny_bind (wpAny_seqItems hTI rfl ?_)
  show wpAny _ _ (Builtin.SmallTypes.ownedTupleIsFree (.ref z) >>= _) _ _ _
  refine wpAny_bind ?_
  unfold Builtin.SmallTypes.ownedTupleIsFree
  refine wpAny_bind (wpAny_field hz rfl (x := .none) rfl (wpAny_pure ?_))
  simp only [if_true]
  refine wpAny_bind (wpAny_rule ?_)
  refine wpAny_bind (wpAny_field hz rfl (x := .ref TO) rfl ?_)
  refine wpAny_bind (wpAny_setField_rec hz (by simp) fun h₁ hz₁ hs₁ => ?_)
  replace hz₁ : IsZip h₁ z TI TO .ellipsis := hz₁
  refine wpAny_bind ?_
  simp only [List.zipIdx_cons, List.zipIdx_nil, List.forIn_cons, List.forIn_nil]
  refine wpAny_bind (wpAny_bind (wpAny_onRaise ?_))
  show wpAny _ _ (Builtin.SmallTypes.nextOf (.ref i1) >>= _) _ _ _
  refine wpAny_bind (wpAny_nextOf_list_item (h1.extBut hs₁.extBut n1) (hl1.extBut hs₁.extBut m1) hx fun h₂ h1₂ hs₂ => wpAny_pure ?_)
  have hTO₂ : IsTrip h₂ TO a b c := hs₂.extBut _ _ n5 (hs₁.extBut _ _ n4 hTO)
  refine wpAny_bind (wpAny_seqItems hTO₂ rfl ?_)
  refine wpAny_bind (wpAny_updateSeq_trip hTO₂ fun h₃ hTO₃ hs₃ => ?_)
  replace hTO₃ : IsTrip h₃ TO x b c := hTO₃
  refine wpAny_bind (wpAny_letGo (wpAny_pure ?_))
  refine wpAny_bind (wpAny_bind (wpAny_onRaise ?_))
  show wpAny _ _ (Builtin.SmallTypes.nextOf (.ref i2) >>= _) _ _ _
  refine wpAny_bind (wpAny_nextOf_list_item (((h2.extBut hs₁.extBut n2).extBut hs₂.extBut n8.symm).extBut hs₃.extBut n6.symm)
    (((hl2.extBut hs₁.extBut m2).extBut hs₂.extBut m3).extBut hs₃.extBut m4) hy fun h₄ h2₄ hs₄ => wpAny_pure ?_)
  have hTO₄ : IsTrip h₄ TO x b c := hs₄.extBut _ _ n6 hTO₃
  refine wpAny_bind (wpAny_seqItems hTO₄ rfl ?_)
  refine wpAny_bind (wpAny_updateSeq_trip hTO₄ fun h₅ hTO₅ hs₅ => ?_)
  replace hTO₅ : IsTrip h₅ TO x y c := hTO₅
  refine wpAny_bind (wpAny_letGo (wpAny_pure ?_))
  refine wpAny_bind (wpAny_bind (wpAny_onRaise ?_))
  show wpAny _ _ (Builtin.SmallTypes.nextOf (.ref i3) >>= _) _ _ _
  refine wpAny_bind (wpAny_nextOf_list_item (((((h3.extBut hs₁.extBut n3).extBut hs₂.extBut n9.symm).extBut hs₃.extBut n7.symm).extBut hs₄.extBut n10.symm).extBut hs₅.extBut n7.symm)
    (((((hl3.extBut hs₁.extBut m5).extBut hs₂.extBut m6).extBut hs₃.extBut m7).extBut hs₄.extBut m8).extBut hs₅.extBut m7) hu fun h₆ h3₆ hs₆ => wpAny_pure ?_)
  have hTO₆ : IsTrip h₆ TO x y c := hs₆.extBut _ _ n7 hTO₅
  refine wpAny_bind (wpAny_seqItems hTO₆ rfl ?_)
  refine wpAny_bind (wpAny_updateSeq_trip hTO₆ fun h₇ hTO₇ hs₇ => ?_)
  replace hTO₇ : IsTrip h₇ TO x y u := hTO₇
  refine wpAny_bind (wpAny_letGo (wpAny_pure (wpAny_pure ?_)))
  refine wpAny_bind (wpAny_seqItems hTO₇ rfl ?_)
  refine wpAny_bind (wpAny_newTuple ?_)
  have hsz : h₇.objs.size = s.heap.objs.size := by rw [hs₇.1, hs₆.1, hs₅.1, hs₄.1, hs₃.1, hs₂.1, hs₁.1]
  have hk₇ : ∀ c o, c ≠ z → c ≠ TO → c ≠ i1 → c ≠ i2 → c ≠ i3 → s.heap.get? c = some o → h₇.get? c = some o := fun c o c1 c2 c3 c4 c5 e =>
    hs₇.extBut _ _ c2 (hs₆.extBut _ _ c5 (hs₅.extBut _ _ c2 (hs₄.extBut _ _ c4 (hs₃.extBut _ _ c2 (hs₂.extBut _ _ c3 (hs₁.extBut _ _ c1 e))))))
  have hz₇ : IsZip h₇ z TI TO .ellipsis := hs₇.extBut _ _ n4.symm (hs₆.extBut _ _ n3.symm (hs₅.extBut _ _ n4.symm (hs₄.extBut _ _ n2.symm (hs₃.extBut _ _ n4.symm (hs₂.extBut _ _ n1.symm hz₁)))))
  have h1₇ : h₇.IsListIter i1 l1 (k1 + 1) := ((((h1₂.extBut hs₃.extBut n5.symm).extBut hs₄.extBut n8).extBut hs₅.extBut n5.symm).extBut hs₆.extBut n9).extBut hs₇.extBut n5.symm
  have h2₇ : h₇.IsListIter i2 l2 (k2 + 1) := ((h2₄.extBut hs₅.extBut n6.symm).extBut hs₆.extBut n10).extBut hs₇.extBut n6.symm
  have h3₇ : h₇.IsListIter i3 l3 (k3 + 1) := h3₆.extBut hs₇.extBut n7.symm
  have hzlt : z < h₇.objs.size := Heap.lt_size hz₇
  show wpAny _ _ (Builtin.SmallTypes.ownedTupleHandOut (.ref z) (.ref h₇.objs.size) >>= _) _ _ _
  refine wpAny_bind ?_
  unfold Builtin.SmallTypes.ownedTupleHandOut
  have hz₈ : IsZip (h₇.push { cls := .type "tuple", data := .seq #[x, y, u] }) z TI TO .ellipsis := Heap.get?_push_of_some _ hz₇
  refine wpAny_bind (wpAny_setField_rec hz₈ (by simp) fun h₉ hz₉ hs₉ => ?_)
  replace hz₉ : IsZip h₉ z TI TO (rawInt h₇.objs.size) := hz₉
  refine wpAny_setField_rec hz₉ (by simp) fun h₁₀ hz₁₀ hs₁₀ => ?_
  replace hz₁₀ : IsZip h₁₀ z TI TO (rawInt h₇.objs.size) := hz₁₀
  have up : ∀ c o, c ≠ z → h₇.get? c = some o → h₁₀.get? c = some o := fun c o c1 e => hs₁₀.extBut _ _ c1 (hs₉.extBut _ _ c1 (Heap.get?_push_of_some _ e))
  have hT : IsTrip h₁₀ h₇.objs.size x y u := hs₁₀.extBut _ _ (Nat.ne_of_gt hzlt) (hs₉.extBut _ _ (Nat.ne_of_gt hzlt) (Heap.get?_push_size _ rfl))
  have hz8 : h₁₀.objs.size = h₇.objs.size + 1 := by rw [hs₁₀.1, hs₉.1, Heap.size_push]
  rw [hsz] at hz₁₀ hT hz8
  refine wpAny_pure ⟨_, rfl, ?_⟩
  show Q (.ref h₇.objs.size) _
  rw [hsz]
  exact hQ h₁₀ hz₁₀ (up _ _ n4 hTO₇) (h1₇.at fun o e => up _ o n1 e) (h2₇.at fun o e => up _ o n2 e) (h3₇.at fun o e => up _ o n3 e) hT hz8 fun c o c1 c2 c3 c4 c5 e => up c o c1 (hk₇ c o c1 c2 c3 c4 c5 e)
theorem zip3_next_end {z TI TO i1 i2 i3 l1 l2 l3 : Addr} {k1 k2 k3 : Nat} {xs ys zs : Array Value} {a b c : Value} {Q : Fin → Shared → Prop} (hh : A.handled = none) (D : Ap3 z TI TO i1 i2 i3 l1 l2 l3)
    (hz : IsZip s.heap z TI TO .none) (hTI : IsTrip s.heap TI (.ref i1) (.ref i2) (.ref i3)) (hTO : IsTrip s.heap TO a b c)
    (h1 : s.heap.IsListIter i1 l1 k1) (h2 : s.heap.IsListIter i2 l2 k2) (h3 : s.heap.IsListIter i3 l3 k3) (hl1 : s.heap.IsList l1 xs) (hl2 : s.heap.IsList l2 ys) (hl3 : s.heap.IsList l3 zs) (hx : xs[k1]? = none)
    (hE : ∀ h' e, (∀ c o, c ≠ z → c ≠ TO → c ≠ i1 → c ≠ i2 → c ≠ i3 → s.heap.get? c = some o → h'.get? c = some o) → (∃ o, h'.get? e = some o ∧ o.cls = .type "StopIteration") → E (.ref e) { s with heap := h' }) :
    wpAny (model prog w) A (Builtin.«zip.__next__» ⟨[.ref z], []⟩) Q E s := by
  obtain ⟨o1, o2, o3, o4, o5, o6, o7, o8⟩ := D
  have n1 : i1 ≠ z := neA (by omega)
  have m1 : l1 ≠ z := neA (by omega)
  show wpAny _ _ (field (.ref z) 2 >>= _) _ _ _
  refine wpAny_bind (wpAny_field hz rfl (x := .bool false) rfl ?_)
  show wpAny _ _ (field (.ref z) 3 >>= _) _ _ _
  refine wpAny_bind (wpAny_field hz rfl (x := .ref TI) rfl ?_)
  refine wpAny_bind (wpAny_seqItems hTI rfl ?_)
  show wpAny _ _ (Builtin.SmallTypes.ownedTupleIsFree (.ref z) >>= _) _ _ _
  refine wpAny_bind ?_
  unfold Builtin.SmallTypes.ownedTupleIsFree
  refine wpAny_bind (wpAny_field hz rfl (x := .none) rfl (wpAny_pure ?_))
  simp only [if_true]
  refine wpAny_bind (wpAny_rule ?_)
  refine wpAny_bind (wpAny_field hz rfl (x := .ref TO) rfl ?_)
  refine wpAny_bind (wpAny_setField_rec hz (by simp) fun h₁ hz₁ hs₁ => ?_)
  replace hz₁ : IsZip h₁ z TI TO .ellipsis := hz₁
  refine wpAny_bind ?_
  simp only [List.zipIdx_cons, List.zipIdx_nil, List.forIn_cons, List.forIn_nil]
  refine wpAny_bind (wpAny_bind (wpAny_onRaise ?_))
  show wpAny _ _ (Builtin.SmallTypes.nextOf (.ref i1) >>= _) _ _ _
  refine wpAny_bind (wpAny_nextOf_list_end hh (h1.extBut hs₁.extBut n1) (hl1.extBut hs₁.extBut m1) hx fun h₂ e hs₂ he => ?_)
  obtain ⟨oe, hoe, hce⟩ := he
  have hz₂ : IsZip h₂ z TI TO .ellipsis := hs₂ _ _ n1.symm hz₁
  have hez : e ≠ z := fun x => by subst x; rw [hz₂] at hoe; cases hoe; simp at hce
  refine wpAny_setField_rec hz₂ (by simp) fun h₃ _ hs₃ => hE h₃ e (fun c o c1 _ c3 _ _ x => hs₃.extBut _ _ c1 (hs₂ _ _ c3 (hs₁.extBut _ _ c1 x))) ⟨oe, hs₃.extBut _ _ hez hoe, hce⟩
theorem pyNext_zip3_item {z TI TO i1 i2 i3 l1 l2 l3 : Addr} {k1 k2 k3 : Nat} {xs ys zs : Array Value} {x y u a b c : Value} {Q : Option Value → Shared → Prop} (D : Ap3 z TI TO i1 i2 i3 l1 l2 l3)
    (hz : IsZip s.heap z TI TO .none) (hTI : IsTrip s.heap TI (.ref i1) (.ref i2) (.ref i3)) (hTO : IsTrip s.heap TO a b c)
    (h1 : s.heap.IsListIter i1 l1 k1) (h2 : s.heap.IsListIter i2 l2 k2) (h3 : s.heap.IsListIter i3 l3 k3) (hl1 : s.heap.IsList l1 xs) (hl2 : s.heap.IsList l2 ys) (hl3 : s.heap.IsList l3 zs) (hx : xs[k1]? = some x) (hy : ys[k2]? = some y) (hu : zs[k3]? = some u)
    (hQ : ∀ h', IsZip h' z TI TO (rawInt s.heap.objs.size) → IsTrip h' TO x y u → h'.IsListIter i1 l1 (k1 + 1) → h'.IsListIter i2 l2 (k2 + 1) → h'.IsListIter i3 l3 (k3 + 1) → IsTrip h' s.heap.objs.size x y u → h'.objs.size = s.heap.objs.size + 1 →
      (∀ c o, c ≠ z → c ≠ TO → c ≠ i1 → c ≠ i2 → c ≠ i3 → s.heap.get? c = some o → h'.get? c = some o) → Q (some (.ref s.heap.objs.size)) { s with heap := h' }) :
    wpAny (model prog w) A (pyNext (.ref z)) Q E s := by
  have hT : s.TypeIs (.ref z) "zip" := ⟨_, hz, rfl⟩
  unfold pyNext
  exact wpAny_bind (wpAny_attempt (wpAny_callSpecial?_slot (name := Str.ofString "__next__") hT F.slot_zip_next
    (wpAny_call_entry F.slot_zip_next hT F.entry_zip_next
      (zip3_next_item D hz hTI hTO h1 h2 h3 hl1 hl2 hl3 hx hy hu fun h' a1 a2 a3 a4 a5 a6 a7 a8 => wpAny_pure (hQ h' a1 a2 a3 a4 a5 a6 a7 a8)) (F.args_zip_next_1 _))))
theorem pyNext_zip3_end {z TI TO i1 i2 i3 l1 l2 l3 : Addr} {k1 k2 k3 : Nat} {xs ys zs : Array Value} {a b c : Value} {Q : Option Value → Shared → Prop} (hh : A.handled = none) (D : Ap3 z TI TO i1 i2 i3 l1 l2 l3)
    (hz : IsZip s.heap z TI TO .none) (hTI : IsTrip s.heap TI (.ref i1) (.ref i2) (.ref i3)) (hTO : IsTrip s.heap TO a b c)
    (h1 : s.heap.IsListIter i1 l1 k1) (h2 : s.heap.IsListIter i2 l2 k2) (h3 : s.heap.IsListIter i3 l3 k3) (hl1 : s.heap.IsList l1 xs) (hl2 : s.heap.IsList l2 ys) (hl3 : s.heap.IsList l3 zs) (hx : xs[k1]? = none)
    (hQ : ∀ h', (∀ c o, c ≠ z → c ≠ TO → c ≠ i1 → c ≠ i2 → c ≠ i3 → s.heap.get? c = some o → h'.get? c = some o) → Q none { s with heap := h' }) : wpAny (model prog w) A (pyNext (.ref z)) Q E s := by
  have hT : s.TypeIs (.ref z) "zip" := ⟨_, hz, rfl⟩
  unfold pyNext
  refine wpAny_bind (wpAny_attempt (wpAny_callSpecial?_slot (name := Str.ofString "__next__") hT F.slot_zip_next
    (wpAny_call_entry F.slot_zip_next hT F.entry_zip_next (zip3_next_end hh D hz hTI hTO h1 h2 h3 hl1 hl2 hl3 hx fun h' e hk he => ?_) (F.args_zip_next_1 _))))
  obtain ⟨o, ho, hc⟩ := he
  refine wpAny_bind (wpAny_isInstance (T := "StopIteration") (b := true) ⟨o, ho, hc⟩ isSubtype_stop ?_)
  exact wpAny_pure (hQ _ hk)
end
abbrev zH1 (h : Heap) (l1 : Addr) : Heap := h.push { cls := .type "list_iterator", data := .fields #[.ref l1, .int 0 0] }
abbrev zH2 (h : Heap) (l1 l2 : Addr) : Heap := (zH1 h l1).push { cls := .type "list_iterator", data := .fields #[.ref l2, .int 0 0] }
abbrev zH3 (h : Heap) (l1 l2 l3 : Addr) : Heap := (zH2 h l1 l2).push { cls := .type "list_iterator", data := .fields #[.ref l3, .int 0 0] }
abbrev zH4 (h : Heap) (l1 l2 l3 : Addr) : Heap := (zH3 h l1 l2 l3).push { cls := .type "tuple", data := .seq #[.ref h.objs.size, .ref (zH1 h l1).objs.size, .ref (zH2 h l1 l2).objs.size] }
abbrev zH5 (h : Heap) (l1 l2 l3 : Addr) : Heap := (zH4 h l1 l2 l3).push { cls := .type "tuple", data := .seq #[.none, .none, .none] }
abbrev zH6 (h : Heap) (l1 l2 l3 : Addr) : Heap := (zH5 h l1 l2 l3).push { cls := .type "zip", data := .fields #[.none, .bool false, .bool false, .ref (zH3 h l1 l2 l3).objs.size, .ref (zH4 h l1 l2 l3).objs.size] }
theorem meets_zip3_new (l1 l2 l3 : Addr) (xs ys zs : Array Value) :
    Meets (Builtin.«zip.__new__» ⟨[.type "zip", .ref l1, .ref l2, .ref l3], []⟩) (fun _ R s => s.heap.IsList l1 xs ∧ s.heap.IsList l2 ys ∧ s.heap.IsList l3 zs ∧
      R (.ok (.ret (.ref (zH5 s.heap l1 l2 l3).objs.size))) { s with heap := zH6 s.heap l1 l2 l3 }) :=
  .of_wp fun prog w A R s h => by
    obtain ⟨hp, g, d, tk, os⟩ := s; obtain ⟨hl1, hl2, hl3, h⟩ := h
    have hsub := sub_zip
    have hL1 : Heap.IsList (Shared.heap ⟨hp, g, d, tk, os⟩) l1 xs := hl1
    have hL2 : Heap.IsList (Shared.heap ⟨zH1 hp l1, g, d, tk, os⟩) l2 ys := Heap.IsList.push hl2 _
    have hL3 : Heap.IsList (Shared.heap ⟨zH2 hp l1 l2, g, d, tk, os⟩) l3 zs := Heap.IsList.push (Heap.IsList.push hl3 _) _
    wp_walk using wpAny_pyIter_list hL1, wpAny_pyIter_list hL2, wpAny_pyIter_list hL3
    exact ⟨_, rfl, h⟩
section
variable {prog : Program} {w : World} {A : Around} {E : Value → Shared → Prop} {s : Shared}
theorem call_zip_3 {l1 l2 l3 : Addr} {xs ys zs : Array Value} {Q : Value → Shared → Prop} (hl1 : s.heap.IsList l1 xs) (hl2 : s.heap.IsList l2 ys) (hl3 : s.heap.IsList l3 zs)
    (h : ∀ h', IsZip h' (s.heap.objs.size + 5) (s.heap.objs.size + 3) (s.heap.objs.size + 4) .none → IsTrip h' (s.heap.objs.size + 3) (.ref s.heap.objs.size) (.ref (s.heap.objs.size + 1)) (.ref (s.heap.objs.size + 2)) →
      IsTrip h' (s.heap.objs.size + 4) .none .none .none → h'.IsListIter s.heap.objs.size l1 0 → h'.IsListIter (s.heap.objs.size + 1) l2 0 → h'.IsListIter (s.heap.objs.size + 2) l3 0 →
      (∀ c o, s.heap.get? c = some o → h'.get? c = some o) → Q (.ref (s.heap.objs.size + 5)) { s with heap := h' }) :
    wpAny (model prog w) A (call (.type "zip") [.ref l1, .ref l2, .ref l3]) Q E s := by
  refine callType_new F.called_zip (by decide) (typeCall3 _ _ _) (newCall3 _ _ _) (fun obj => args_init4 obj _ _ _) F.entry_zip_new
    (meets_zip3_new l1 l2 l3 xs ys zs) ⟨hl1, hl2, hl3, ?_⟩
  have z1 : (zH1 s.heap l1).objs.size = s.heap.objs.size + 1 := Heap.size_push ..
  have z2 : (zH2 s.heap l1 l2).objs.size = s.heap.objs.size + 2 := by rw [Heap.size_push, z1]
  have z3 : (zH3 s.heap l1 l2 l3).objs.size = s.heap.objs.size + 3 := by rw [Heap.size_push, z2]
  have z4 : (zH4 s.heap l1 l2 l3).objs.size = s.heap.objs.size + 4 := by rw [Heap.size_push, z3]
  have z5 : (zH5 s.heap l1 l2 l3).objs.size = s.heap.objs.size + 5 := by rw [Heap.size_push, z4]
  have g6 : (zH6 s.heap l1 l2 l3).get? (zH5 s.heap l1 l2 l3).objs.size = some _ := Heap.get?_push_size _ rfl
  have g5 : (zH6 s.heap l1 l2 l3).get? (zH4 s.heap l1 l2 l3).objs.size = some _ := Heap.get?_push_of_some _ (Heap.get?_push_size _ rfl)
  have g4 : (zH6 s.heap l1 l2 l3).get? (zH3 s.heap l1 l2 l3).objs.size = some _ := Heap.get?_push_of_some _ (Heap.get?_push_of_some _ (Heap.get?_push_size _ rfl))
  have g3 : (zH6 s.heap l1 l2 l3).get? (zH2 s.heap l1 l2).objs.size = some _ := Heap.get?_push_of_some _ (Heap.get?_push_of_some _ (Heap.get?_push_of_some _ (Heap.get?_push_size _ rfl)))
  have g2 : (zH6 s.heap l1 l2 l3).get? (zH1 s.heap l1).objs.size = some _ := Heap.get?_push_of_some _ (Heap.get?_push_of_some _ (Heap.get?_push_of_some _ (Heap.get?_push_of_some _ (Heap.get?_push_size _ rfl))))
  have g1 : (zH6 s.heap l1 l2 l3).get? s.heap.objs.size = some _ := Heap.get?_push_of_some _ (Heap.get?_push_of_some _ (Heap.get?_push_of_some _ (Heap.get?_push_of_some _ (Heap.get?_push_of_some _ (Heap.get?_push_size _ rfl)))))
  show _ ∧ _
  rw [z3, z4, z5] at g6
  rw [z1, z2, z3] at g4
  rw [z4] at g5
  rw [z2] at g3
  rw [z1] at g2
  rw [z5]
  exact ⟨⟨_, g6, rfl⟩, h _ g6 g4 g5 ⟨_, g1, rfl, rfl⟩ ⟨_, g2, rfl, rfl⟩ ⟨_, g3, rfl, rfl⟩ fun c o x =>
    Heap.get?_push_of_some _ (Heap.get?_push_of_some _ (Heap.get?_push_of_some _ (Heap.get?_push_of_some _ (Heap.get?_push_of_some _ (Heap.get?_push_of_some _ x)))))⟩
end
/-- the lists at a, b and c as they stand at each turn, the items in new triples -/
def It3 (K : PySem.W.Frag) (a b c : Addr) : It :=
  ⟨fun i H => ∃ (xs ys zs : List V) (x y z : V), SqL K H a xs ∧ SqL K H b ys ∧ SqL K H c zs ∧ xs[i]? = some x ∧ ys[i]? = some y ∧ zs[i]? = some z,
    fun i H v H' => ∃ T x y z, v = .ref T ∧ H T = none ∧ H' = upd H T (.tup [x, y, z]) ∧ (∀ xs, SqL K H a xs → xs[i]? = some x) ∧ (∀ ys, SqL K H b ys → ys[i]? = some y) ∧ ∀ zs, SqL K H c zs → zs[i]? = some z,
    fun i H => ∃ xs ys zs : List V, SqL K H a xs ∧ SqL K H b ys ∧ SqL K H c zs ∧ xs.length ≤ i⟩
theorem turn_zip3 {P : Program} {w : World} {K : PySem.W.Frag} {elts : List Expr} {kk : Nat} {tpos : Pos} {a b c z TI TO i1 i2 i3 : Addr} (D : Ap3 z TI TO i1 i2 i3 a b c) :
    Turn P w K (.Tuple elts kk tpos) (It3 K a b c) [z, TI, TO, i1, i2, i3] z (fun i h => IsZip h z TI TO .none ∧ IsTrip h TI (.ref i1) (.ref i2) (.ref i3) ∧ (∃ x y v, IsTrip h TO x y v) ∧ h.IsListIter i1 a i ∧ h.IsListIter i2 b i ∧ h.IsListIter i3 c i) where
  mem := by simp
  obj := fun i h st d hd => by
    obtain ⟨hz, hTI, ⟨x, y, v, hTO⟩, ⟨o1, e1, _, d1⟩, ⟨o2, e2, _, d2⟩, ⟨o3, e3, _, d3⟩⟩ := st
    have e' : d = z ∨ d = TI ∨ d = TO ∨ d = i1 ∨ d = i2 ∨ d = i3 := by simpa using hd
    rcases e' with q | q | q | q | q | q
    · rw [q]; exact ⟨_, hz, fun v q => nomatch q⟩
    · rw [q]; exact ⟨_, hTI, fun v q => nomatch q⟩
    · rw [q]; exact ⟨_, hTO, fun v q => nomatch q⟩
    · rw [q]; exact ⟨o1, e1, fun v q => by rw [d1] at q; cases q⟩
    · rw [q]; exact ⟨o2, e2, fun v q => by rw [d2] at q; cases q⟩
    · rw [q]; exact ⟨o3, e3, fun v q => by rw [d3] at q; cases q⟩
  keep := fun i h h' st k => by
    obtain ⟨hz, hTI, ⟨x, y, v, hTO⟩, h1, h2, h3⟩ := st
    exact ⟨k z (by simp) _ hz, k TI (by simp) _ hTI, ⟨x, y, v, k TO (by simp) _ hTO⟩, h1.at fun o q => k i1 (by simp) o q, h2.at fun o q => k i2 (by simp) o q, h3.at fun o q => k i3 (by simp) o q⟩
  item := by
    intro X hP hw hK hc i pins s σ H E I hf st hg
    subst hP hw hK
    obtain ⟨hz, hTI, ⟨x0, y0, v0, hTO⟩, h1, h2, h3⟩ := st
    obtain ⟨xs, ys, zs, x, y, v, hqx, hqy, hqz, hx, hy, hv⟩ := hg
    obtain ⟨its, rv, p, _⟩ := I.list hqx
    obtain ⟨its2, rv2, p2, _⟩ := I.list hqy
    obtain ⟨its3, rv3, p3, _⟩ := I.list hqz
    obtain ⟨u, hu, ru⟩ := rv.get hx
    obtain ⟨u2, hu2, ru2⟩ := rv2.get hy
    obtain ⟨u3, hu3, ru3⟩ := rv3.get hv
    have hzl : z < s.heap.objs.size := Heap.lt_size hz
    have nTIz : TI ≠ z := neA (by have := D.o7; have := D.o8; omega)
    have nTOz : TO ≠ z := neA (by have := D.o8; omega)
    have n1 : i1 ≠ z := neA (by have := D.o4; have := D.o5; have := D.o6; have := D.o7; have := D.o8; omega)
    have n2 : i2 ≠ z := neA (by have := D.o5; have := D.o6; have := D.o7; have := D.o8; omega)
    have n3 : i3 ≠ z := neA (by have := D.o6; have := D.o7; have := D.o8; omega)
    have t1 : TI ≠ TO := neA (by have := D.o7; omega)
    have t2 : TI ≠ i1 := neA (by have := D.o4; have := D.o5; have := D.o6; omega)
    have t3 : TI ≠ i2 := neA (by have := D.o5; have := D.o6; omega)
    have t4 : TI ≠ i3 := neA (by have := D.o6; omega)
    refine pyNext_zip3_item D hz hTI hTO h1 h2 h3 p.isList p2.isList p3.isList (x := u) (y := u2) (u := u3) (by simpa using hu) (by simpa using hu2) (by simpa using hu3) fun h' z' TO' h1' h2' h3' hT hsz hk => ?_
    refine ⟨_, rfl, wpAny_letOwnedTupleGo_zip (s := { s with heap := h' }) z' fun h'' z'' sb => ?_⟩
    have hT2 : h''.get? s.heap.objs.size = some { cls := .type "tuple", data := .seq #[u, u2, u3] } := (sb.2 _ (Nat.ne_of_gt hzl)).trans hT
    have new : ObjOk X.prog X.w (upd H s.heap.objs.size (.tup [x, y, v])) h'' s.heap.objs.size (.tup [x, y, v]) :=
      ⟨by show 3 ≤ sizeLine; decide, [u, u2, u3], .cons ru (.cons ru2 (.cons ru3 .nil)), ⟨_, hT2, rfl, _, rfl⟩⟩
    have I1 : Inv X pins σ (upd H s.heap.objs.size (.tup [x, y, v])) { s with heap := h'' } :=
      I.turnedNew (t' := s.toks) (ch := [z, TI, TO, i1, i2, i3]) (fun c o hb q => (sb.2 c (fun q' => hb (by simp [q']))).trans (hk c o (fun q' => hb (by simp [q'])) (fun q' => hb (by simp [q'])) (fun q' => hb (by simp [q'])) (fun q' => hb (by simp [q'])) (fun q' => hb (by simp [q'])) q)) hf (Nat.le_refl _) new
    refine ⟨.ref s.heap.objs.size, _, I1, rfl, ⟨_, x, y, v, rfl, I.hok.fresh (Nat.le_refl _), rfl, fun l hl => by rw [I.list_inj hl hqx]; exact hx, fun l hl => by rw [I.list_inj hl hqy]; exact hy, fun l hl => by rw [I.list_inj hl hqz]; exact hv⟩, ⟨z'', ?_, ⟨u, u2, u3, ?_⟩, ?_, ?_, ?_⟩, fun c hcm => ?_⟩
    · exact (sb.2 _ nTIz).trans (hk _ _ nTIz t1 t2 t3 t4 hTI)
    · exact (sb.2 _ nTOz).trans TO'
    · exact h1'.at fun o q => (sb.2 _ n1).trans q
    · exact h2'.at fun o q => (sb.2 _ n2).trans q
    · exact h3'.at fun o q => (sb.2 _ n3).trans q
    · have hlt : c < s.heap.objs.size := by
        have e' : c = z ∨ c = TI ∨ c = TO ∨ c = i1 ∨ c = i2 ∨ c = i3 := by simpa using hcm
        rcases e' with q | q | q | q | q | q
        · rw [q]; exact hzl
        · rw [q]; exact Heap.lt_size hTI
        · rw [q]; exact Heap.lt_size hTO
        · rw [q]; obtain ⟨_, e1, _⟩ := h1; exact Heap.lt_size e1
        · rw [q]; obtain ⟨_, e2, _⟩ := h2; exact Heap.lt_size e2
        · rw [q]; obtain ⟨_, e3, _⟩ := h3; exact Heap.lt_size e3
      rw [upd_ne (Nat.ne_of_lt hlt)]
      exact (hf c hcm).1
  done := by
    intro X hP hw hK hc i pins s σ H E I hf st hg
    subst hP hw hK
    obtain ⟨hz, hTI, ⟨x0, y0, v0, hTO⟩, h1, h2, h3⟩ := st
    obtain ⟨xs, ys, zs, hqx, hqy, hqz, hend⟩ := hg
    obtain ⟨its, rv, p, _⟩ := I.list hqx
    obtain ⟨its2, rv2, p2, _⟩ := I.list hqy
    obtain ⟨its3, rv3, p3, _⟩ := I.list hqz
    have l1 := rv.length
    have he : its.toArray[i]? = none := by simp; omega
    exact pyNext_zip3_end (I.ok.hd hc) D hz hTI hTO h1 h2 h3 p.isList p2.isList p3.isList he fun h' hk => ⟨rfl, I.turnedL (t' := s.toks) (ch := [z, TI, TO, i1, i2, i3]) (fun c o hb q =>
      hk c o (fun q' => hb (by simp [q'])) (fun q' => hb (by simp [q'])) (fun q' => hb (by simp [q'])) (fun q' => hb (by simp [q'])) (fun q' => hb (by simp [q'])) q) hf⟩
  self := fun A i s Q E st h => wpAny_pyIter_zip st.1 h
def iZip3 (K : PySem.W.Frag) (ta : TA) : TI := fun σ H R => ta σ H fun vs H1 => ∃ a b c xs ys zs, vs = [.ref a, .ref b, .ref c] ∧ SqL K H1 a xs ∧ SqL K H1 b ys ∧ SqL K H1 c zs ∧ R (It3 K a b c) H1
theorem pi_zip3 {X : Cx} {e e2 e3 : Expr} {ta : TA} {p pos tpos : Pos} {elts : List Expr} {kk : Nat} (hg : Gl X "zip") (hm : X.mg "zip" = none) (ha : PA X [e, e2, e3] ta)
    (hs : starEach [e, e2, e3] X.env = (false, eval e X.env) :: starEach [e2, e3] X.env := by rfl) (hpl : (backTo pos (starEach [e2, e3] X.env)).any (·.1) = false := by rfl) :
    PI X (.Tuple elts kk tpos) (.Call (.Name "zip" p) [e, e2, e3] [] pos) (iZip3 X.K ta) := by
  refine ⟨fun pins s σ H R I h => ?_⟩
  refine Call_ (ld_blt I hg hm PyProof.Rows.boot_zip (PyProof.Rows.callWith_type1 (thn (ha.run pos pins s σ H _ I h) fun us s1 ⟨vs, H1, I1, r1, q1⟩ => ?_) hs hpl))
  obtain ⟨a, b, c, xs, ys, zs, ex, hqx, hqy, hqz, q⟩ := q1
  subst ex
  cases r1 with
  | cons r rr =>
    cases rr with
    | cons r' rr =>
      cases rr with
      | cons r'' rr =>
        cases rr
        cases r
        cases r'
        cases r''
        obtain ⟨its, rv, p1, _⟩ := I1.list hqx
        obtain ⟨its2, rv2, p2, _⟩ := I1.list hqy
        obtain ⟨its3, rv3, p3, _⟩ := I1.list hqz
        have la : a < s1.heap.objs.size := p1.lt
        have lb : b < s1.heap.objs.size := p2.lt
        have lc : c < s1.heap.objs.size := p3.lt
        refine call_zip_3 p1.isList p2.isList p3.isList fun h' hz hTI hTO h1 h2 h3 hk => wpAny_pyIter_zip hz ?_
        have I2 : Inv X pins σ H1 { s1 with heap := h' } := I1.kept (t' := s1.toks) hk
        refine ⟨s1.heap.objs.size + 5, [s1.heap.objs.size + 5, s1.heap.objs.size + 3, s1.heap.objs.size + 4, s1.heap.objs.size, s1.heap.objs.size + 1, s1.heap.objs.size + 2], _, _, H1, rfl, I2, turn_zip3 ⟨la, lb, lc, Nat.lt_succ_self _, Nat.lt_succ_self _, Nat.lt_succ_self _, Nat.lt_succ_self _, Nat.lt_succ_self _⟩, ⟨hz, hTI, ⟨_, _, _, hTO⟩, h1, h2, h3⟩, fun d hcm => ?_, q⟩
        have e' : d = s1.heap.objs.size + 5 ∨ d = s1.heap.objs.size + 3 ∨ d = s1.heap.objs.size + 4 ∨ d = s1.heap.objs.size ∨ d = s1.heap.objs.size + 1 ∨ d = s1.heap.objs.size + 2 := by simpa using hcm
        have hle : s1.heap.objs.size ≤ d := by
          rcases e' with z | z | z | z | z | z
          · rw [z]; exact Nat.le_add_right _ _
          · rw [z]; exact Nat.le_add_right _ _
          · rw [z]; exact Nat.le_add_right _ _
          · rw [z]; exact Nat.le_refl _
          · rw [z]; exact Nat.le_add_right _ _
          · rw [z]; exact Nat.le_add_right _ _
        exact I1.fpOk hle (I1.hok.fresh hle)
/-- a new triple of the i-th of each -/
def YTrip (xs ys zs : Nat → Option V) : Nat → Hp → V → Hp → Prop := fun i H v H' => ∃ T x y z, v = .ref T ∧ H T = none ∧ H' = upd H T (.tup [x, y, z]) ∧ xs i = some x ∧ ys i = some y ∧ zs i = some z
/-- the first is the shortest -/
theorem walk_zip3 {K : PySem.W.Frag} {a b c : Addr} {xs ys zs : List V} (h1 : xs.length ≤ ys.length) (h2 : xs.length ≤ zs.length) : Walk (It3 K a b c) xs.length (fun H => SqL K H a xs ∧ SqL K H b ys ∧ SqL K H c zs) (YTrip (fun i => xs[i]?) (fun i => ys[i]?) (fun i => zs[i]?)) := by
  refine ⟨fun i _ hi q => ?_, fun _ q => ⟨xs, ys, zs, q.1, q.2.1, q.2.2, Nat.le_refl _⟩, fun i H v H' _ q y => ?_⟩
  · have l1 : i < ys.length := by omega
    have l2 : i < zs.length := by omega
    exact ⟨xs, ys, zs, xs[i], ys[i], zs[i], q.1, q.2.1, q.2.2, by simp [hi], by simp [l1], by simp [l2]⟩
  · obtain ⟨T, x, z, u, g1, g2, g3, g4, g5, g6⟩ := y
    exact ⟨T, x, z, u, g1, g2, g3, g4 xs q.1, g5 ys q.2.1, g6 zs q.2.2⟩
end KZ3
namespace K08
open PySem PySem.Spec PyProof.Rows L2 PySem.W LamX KA KW KU KL KT
open Evl (pss_cut tCut)
/-! ### what is due, by the law -/
def isNum : V → Bool
  | .int _ => true
  | _ => false
theorem Fl.plN {K : PySem.W.Frag} {H : Hp} {x : V} (h : Fl x) : Pl K H x (isNum x) := by
  cases h with
  | int i => exact .int i
  | bl i => exact .bl i
  | str i _ => exact .str i
  | non => exact .non
def fd : V → PyData
  | .int i => .int i
  | .bl b => .bool b
  | .str s => .str s
  | _ => .none
theorem Fl.dp {K : PySem.W.Frag} {H : Hp} {x : V} (h : Fl x) : Dp K H x (fd x) := by
  cases h with
  | int i => exact .int i
  | bl i => exact .bl i
  | str i _ => exact .str i
  | non => exact .non
theorem dp_fl {K : PySem.W.Frag} {H : Hp} : ∀ {xs : List V}, (∀ x ∈ xs, Fl x) → DpAll K H xs (xs.map fd)
  | [], _ => .nil
  | x :: xs, h => .cons (h x List.mem_cons_self).dp (dp_fl fun y hy => h y (List.mem_cons_of_mem _ hy))
theorem fl_lay : ∀ xs : List V, (∀ x ∈ xs, Fl x) → PyData.canLayAll0 (xs.map fd) = true ∧ PyData.depthAll (xs.map fd) = 0
  | [], _ => ⟨rfl, rfl⟩
  | x :: xs, h => by
    obtain ⟨h1, h2⟩ := fl_lay xs fun y hy => h y (List.mem_cons_of_mem _ hy)
    cases h x List.mem_cons_self with
    | str s e => exact ⟨by simp [fd, PyData.canLayAll0, PyData.canLay0, h1, e], by simp [fd, PyData.depthAll, PyData.depth, h2]⟩
    | _ => exact ⟨by simp [fd, PyData.canLayAll0, PyData.canLay0, h1], by simp [fd, PyData.depthAll, PyData.depth, h2]⟩
theorem shaped_fl (xs : List V) (h : ∀ x ∈ xs, Fl x) : SeqAt.shaped (.list (xs.map fd)) = true := by
  obtain ⟨h1, h2⟩ := fl_lay xs h
  simp [SeqAt.shaped, PyData.canLay0, PyData.depth, h1, h2]
theorem filter_none {α : Type} {xs : List α} {f : α → Bool} : (xs.filter fun x => !f x).isEmpty = xs.all f := by
  induction xs with
  | nil => rfl
  | cons x xs ih =>
    rw [List.filter_cons, List.all_cons]
    cases f x
    · rfl
    · rw [Bool.true_and, ← ih]
      rfl
theorem filter_any {α : Type} {xs : List α} {f : α → Bool} : (!(xs.filter f).isEmpty) = xs.any f := by
  induction xs with
  | nil => rfl
  | cons x xs ih =>
    rw [List.filter_cons, List.any_cons]
    cases f x
    · rw [Bool.false_or, ← ih]
      rfl
    · rfl
theorem all_within {xs : List V} : (xs.all fun x => within x 0 7) = sevB xs := rfl
theorem book_split {kd : Int} {ns : List Nat} (h2 : bookB 2 (some (NV ns)) = true) : bookB kd (some (NV ns)) = !(decide (kd < 1) && decide (0 < ns.getD 5 0 + ns.getD 7 0) || decide (kd < 2) && decide (0 < ns.getD 6 0)) := by
  obtain ⟨ms, e, l, s8, lf, kr⟩ := book_nv h2
  have e := nv_inj (Option.some.inj e)
  subst e
  have h2 : (decide ((NV ns).length = 8) && sevB (NV ns) && (!leftB 2 ((NV ns).map natOf) && decide (kraft ((NV ns).map natOf) ≤ 128))) = true := h2
  show (decide ((NV ns).length = 8) && sevB (NV ns) && (!leftB kd ((NV ns).map natOf) && decide (kraft ((NV ns).map natOf) ≤ 128))) = _
  rw [nat_nv] at h2 ⊢
  obtain ⟨h2a, h2b⟩ := Bool.and_eq_true_iff.mp h2
  rw [h2a, (Bool.and_eq_true_iff.mp h2b).2, Bool.true_and, Bool.and_true]
  congr 1
  have lf : (decide (ns.getD 0 0 = 0) || _) = false := lf
  rw [Bool.or_eq_false_iff] at lf
  show (decide (ns.getD 0 0 = 0) || _) = _
  rw [lf.1, Bool.false_or]
theorem book_no {kd : Int} {o : Option (List V)} (h2 : bookB 2 o = false) : bookB kd o = false := by
  cases c : bookB kd o with
  | false => rfl
  | true =>
    obtain ⟨ns, rfl, l, s8, lf, kr⟩ := book_nv c
    have c : (decide ((NV ns).length = 8) && sevB (NV ns) && (!leftB kd ((NV ns).map natOf) && decide (kraft ((NV ns).map natOf) ≤ 128))) = true := c
    have h2 : (decide ((NV ns).length = 8) && sevB (NV ns) && (!leftB 2 ((NV ns).map natOf) && decide (kraft ((NV ns).map natOf) ≤ 128))) = false := h2
    rw [nat_nv] at c h2
    obtain ⟨ca, cb⟩ := Bool.and_eq_true_iff.mp c
    rw [ca, (Bool.and_eq_true_iff.mp cb).2, Bool.true_and, Bool.and_true] at h2
    have lf : (decide (ns.getD 0 0 = 0) || _) = false := lf
    rw [Bool.or_eq_false_iff] at lf
    have h2 : (!(decide (ns.getD 0 0 = 0) || (decide ((2 : Int) < 1) && decide (0 < ns.getD 5 0 + ns.getD 7 0) || decide ((2 : Int) < 2) && decide (0 < ns.getD 6 0)))) = false := h2
    rw [lf.1, show decide ((2 : Int) < 1) = false from rfl, show decide ((2 : Int) < 2) = false from rfl, Bool.false_and, Bool.false_and] at h2
    cases h2
def spBookL (K : PySem.W.Frag) : Sp := fun vs H Q _ => ∃ (x : V) (o : Option (List V)), vs = [x] ∧ Rv K H x o ∧ ∀ H', Same H H' → Q (.bl (bookB 2 o)) H'
section
variable {P : Program} {w : World} {K : PySem.W.Frag} {mg : Str → Option Value} {base : Heap} (T : Top K mg)
theorem ok_lbook : FnOk P w K mg base (L2.CX P w) 2 T._law_is_book.a T._law_is_book.d ["_law_item"] (spBookL K) := by
  refine T._law_is_book.f.okX sc__law_is_book (fun vs H Q E h => ?_) (fun cdv A outer s H vs Q E hr h => ?_)
  · obtain ⟨x, o, rfl, _⟩ := h
    rfl
  · obtain ⟨x, o, rfl, hp, k⟩ := h
    refine ⟨_, (pss_cons (ps_if (PW.pt (pw_or (pt_not (pt_val (pe_callB call_isi (by rfl) T.b_isinstance PyProof.Rows.boot_isinstance (pa_cons (pv 0) (pa_cons (pe_bltn (v := .ty "tuple") (by rfl) T.b_tuple (by decide +kernel) rfl) pa_nil))))) (pw_or1 (pt_cmpR op_ne (pe_callB call_len_seq (by rfl) T.b_len PySem.boot_len (pa_cons (pv 0) pa_nil)) pe_int (nomark _))))) (pss_one (ps_ret pe_bl)) pss_nil)
      (pss_cons (ps_if (PW.pt (pw_or (pt_cmpR (op_neD hr.units) (pe_lc (own := [("_law_part", 1)]) (g := (gName 1)) rfl sc__law_is_book.nd (pi_tup (pv 0)) (blkOk_by (own := [("_law_part", 1)]) (N := ["_law_item", "_law_part"]) (sc := defScope s__law_is_book) (by decide +kernel)) (fun _ _ _ _ _ => pg_name (i := 1) sc__law_is_book.nd rfl (by first | exact .inl rfl | exact .inr rfl)) (fun _ _ _ _ _ => pts_one (PW.pt (pw_or (pt_not (pt_val (pe_call (ok_whole T) (hr.mono (by decide)) (by rfl) T._law_is_whole.m T._law_is_whole.f.kp (bd__law_is_whole T) .nil passE (pa_cons (pv 1) pa_nil)))) (pw_or1 (pt_not (pt_chain op_le op_le pe_int (pv 1) pe_int)))))) (fun _ _ _ _ _ => (pv 1))) (pe_lst pa_nil) (nomark _)) (pw_or1 (pt_cmpR op_eq (pe_ix (show IxR _ (rIx K) from ix_seq) (pv 0) pe_int (fun _ _ => rfl)) pe_int (nomark _))))) (pss_one (ps_ret pe_bl)) pss_nil)
      (pss_one (ps_ret (pe_cmpR op_le (pe_callB (cr_sum rfl) (by rfl) T.b_sum (by decide +kernel) (pa_cons (pe_lc (own := [("_law_part", 1)]) (g := (gName 1)) rfl sc__law_is_book.nd (pi_tup (pv 0)) (blkOk_by (own := [("_law_part", 1)]) (N := ["_law_item", "_law_part"]) (sc := defScope s__law_is_book) (by decide +kernel)) (fun _ _ _ _ _ => pg_name (i := 1) sc__law_is_book.nd rfl (by first | exact .inl rfl | exact .inr rfl)) (fun _ _ _ _ _ => pts_one (pt_cmpR op_gt (pv 1) pe_int (nomark _))) (fun _ _ _ _ _ => (pe_call (ok_two T) (hr.mono (by decide)) (by rfl) T._law_two.m T._law_two.f.kp (bd__law_two T) .nil passE (pa_cons (pe_op op_sub pe_int (pv 1)) pa_nil)))) pa_nil)) pe_int (nomark _)))))), ?_⟩
    cases hp with
    | no hn =>
      obtain ⟨t, ht, h1⟩ := hn.ty (K := K)
      refine ⟨_, rfl, x, _, _, _, _, rfl, .ty "tuple", ht, kit_ty h1, _, rfl, ?_⟩
      exact iteT (iteT (k H fun _ _ e => e))
    | @tup a xs e p l =>
    refine ⟨_, rfl, _, _, _, _, true, rfl, .ty "tuple", .base (.tup e), kit_ty (by decide +kernel), _, rfl, iteF ⟨_, rfl, a, xs, rfl, .inr (SqT.of e), rfl, _, rfl, ?_⟩⟩
    have e0 : bookB 2 (some xs) = (decide (xs.length = 8) && sevB xs && (!leftB 2 (xs.map natOf) && decide (kraft (xs.map natOf) ≤ 128))) := rfl
    rw [show (!decide (V.int ((xs.length : Nat) : Int) = V.int 8)) = !decide (xs.length = 8) by rw [Bool.not_inj_iff]; exact decide_eq_decide.mpr ⟨fun z => by have := V.int.inj z; omega, fun z => by rw [z]; rfl⟩]
    by_cases c1 : xs.length = 8
    case neg =>
      rw [decide_eq_false c1]
      refine iteT (q_bl (k H fun _ _ e => e) ?_)
      rw [e0, decide_eq_false c1]
      rfl
    rw [decide_eq_true c1]
    rw [decide_eq_true c1, Bool.true_and] at e0
    refine iteF ⟨_, rfl, a, rfl, ⟨xs, SqT.of e⟩, fun D hD => ?_⟩
    refine lcP (walk_tup (xs := xs)) xs (fun x => !(within x 0 7)) (fun x => x) rfl hD (fun H' s => SqT.of (s _ _ e)) (Nat.le_trans l (by decide)) yAt_same ?_ ?_
    · rintro i y m H3 H2 N R hm s2 ⟨rfl, hx⟩ hy hn'
      rw [hm] at hx
      cases hx
      refine ⟨rfl, ?_⟩
      have fl := p _ (List.mem_of_getElem? hm)
      refine ⟨_, rfl, _, _, rfl, fl.plN (K := K) (H := H2), _, rfl, ?_⟩
      cases fl with
      | int j =>
        refine iteF ⟨_, rfl, _, _, rfl, rfl, _, rfl, ?_⟩
        have ew' : within (.int j) 0 7 = (decide (0 ≤ j) && decide (j ≤ 7)) := rfl
        cases c2 : decide (0 ≤ j) with
        | false =>
          rw [c2, Bool.false_and] at ew'
          exact iteF ⟨_, rfl, iteT ⟨_, rfl, hy (by rw [ew']; rfl) _ fun _ _ e => e⟩⟩
        | true =>
          rw [c2, Bool.true_and] at ew'
          refine iteT ⟨_, _, rfl, rfl, _, rfl, ?_⟩
          cases c3 : decide (j ≤ 7) with
          | false =>
            rw [c3] at ew'
            exact iteT ⟨_, rfl, hy (by rw [ew']; rfl) _ fun _ _ e => e⟩
          | true =>
            rw [c3] at ew'
            exact iteF (hn' (by rw [ew']; rfl) _ fun _ _ e => e)
      | bl j => exact iteT (iteT ⟨_, rfl, hy rfl _ fun _ _ e => e⟩)
      | str j _ => exact iteT (iteT ⟨_, rfl, hy rfl _ fun _ _ e => e⟩)
      | non => exact iteT (iteT ⟨_, rfl, hy rfl _ fun _ _ e => e⟩)
    intro H2 s2 e2
    rw [List.map_id'] at e2
    refine ⟨(by show 0 ≤ sizeLine; decide), fun z2 hz2 => ?_⟩
    have t2 := Same.new (o := .lst []) hz2
    have pf : ∀ x ∈ xs.filter fun x => !(within x 0 7), Fl x := fun x hx => p x (List.mem_filter.mp hx).1
    refine ⟨_, _, .lst (SqL.of (t2 _ _ e2)) (dp_fl pf), dp_nil upd_same, shaped_fl _ pf, shaped_nil, _, rfl, ?_⟩
    have eq0 : ∀ ds : List PyData, PyData.eqv (.list ds) (.list []) = ds.isEmpty := fun ds => by cases ds <;> rfl
    rw [eq0, List.isEmpty_map, filter_none]
    have s02 := s2.trans t2
    by_cases c2 : sevB xs = true
    case neg =>
      rw [show (xs.all fun x => within x 0 7) = false from Bool.eq_false_iff.mpr c2]
      refine iteT (iteT (q_bl (k _ s02) ?_))
      rw [e0, Bool.eq_false_iff.mpr c2]
      rfl
    rw [show (xs.all fun x => within x 0 7) = true from c2]
    rw [c2, Bool.true_and] at e0
    obtain ⟨en, el⟩ := seven_nv c2
    generalize xs.map natOf = ns at *
    subst en
    rw [NV_len] at c1
    have e3 := s02 _ _ e
    generalize upd H2 z2 (.lst []) = H4 at e3 s02 ⊢
    have n0 : (NV ns)[0]? = some (.int ((ns.getD 0 0 : Nat) : Int)) := NV_get (by rw [List.getD_eq_getElem?_getD, List.getElem?_eq_getElem (by omega)]; rfl)
    have lf : leftB 2 ns = decide (ns.getD 0 0 = 0) := by
      show (decide (ns.getD 0 0 = 0) || (decide ((2 : Int) < 1) && decide (0 < ns.getD 5 0 + ns.getD 7 0) || decide ((2 : Int) < 2) && decide (0 < ns.getD 6 0))) = _
      rw [show decide ((2 : Int) < 1) = false from rfl, show decide ((2 : Int) < 2) = false from rfl, Bool.false_and, Bool.false_and, Bool.or_false, Bool.or_false]
    rw [lf] at e0
    refine iteF ⟨_, rfl, ix_T (K := K) (i := 0) e3 n0 ⟨rfl, _, rfl, ?_⟩⟩
    rw [show decide (V.int ((ns.getD 0 0 : Nat) : Int) = V.int 0) = decide (ns.getD 0 0 = 0) from decide_eq_decide.mpr ⟨fun z => by have := V.int.inj z; omega, fun z => by rw [z]; rfl⟩]
    cases c3 : decide (ns.getD 0 0 = 0) with
    | true =>
      refine iteT (q_bl (k _ s02) ?_)
      rw [e0, c3]
      rfl
    | false =>
    rw [c3, Bool.not_false, Bool.true_and] at e0
    refine iteF ⟨_, rfl, a, rfl, ⟨_, SqT.of e3⟩, fun D2 hD2 => ?_⟩
    refine lcP (walk_tup (xs := NV ns)) ns (fun n => decide (0 < n)) (fun n => V.int ((2 ^ (7 - n) : Nat) : Int)) (NV_len ns) hD2 (fun H' s => SqT.of (s _ _ e3)) (by omega) yAt_same ?_ ?_
    · rintro i x m H2 H3 N R hm s2 ⟨rfl, hx⟩ hy hn
      rw [NV_get hm] at hx
      cases hx
      refine ⟨rfl, _, rfl, _, _, rfl, rfl, _, rfl, ?_⟩
      have lt : m < 8 := el m (List.mem_of_getElem? hm)
      by_cases c5 : 0 < m
      case neg =>
        rw [decide_eq_false (show ¬ (0 : Int) < ((m : Nat) : Int) by omega)]
        exact iteF (hn (decide_eq_false c5) _ fun _ _ e => e)
      rw [decide_eq_true (show (0 : Int) < ((m : Nat) : Int) by omega)]
      refine iteT ⟨_, rfl, _, _, rfl, rfl, 7 - m, ?_, by omega, hy (decide_eq_true c5) _ fun _ _ e => e⟩
      show [V.int ((7 : Int) - (m : Int))] = [V.int ((7 - m : Nat) : Int)]
      rw [show (7 : Int) - (m : Int) = ((7 - m : Nat) : Int) by omega]
    intro H5 s5 e5
    refine ⟨D2, (((ns.filter fun n => decide (0 < n)).map fun n => 2 ^ (7 - n)).map fun n : Nat => (n : Int)), rfl, ?_, ?_⟩
    · rw [List.map_map, List.map_map]
      exact SqL.of e5
    refine ⟨_, _, rfl, rfl, ?_⟩
    refine q_bl (k _ (s02.trans s5)) ?_
    rw [e0]
    have es : ∀ l : List Nat, (l.map fun n : Nat => (n : Int)).sum = ((l.sum : Nat) : Int) := fun l => by
      induction l with
      | nil => rfl
      | cons x l ih => rw [List.map_cons, List.sum_cons, List.sum_cons, ih]; omega
    rw [es]
    exact decide_eq_decide.mpr (by show ((kraft ns : Nat) : Int) ≤ 128 ↔ _; omega)
def intOf : V → Int
  | .int i => i
  | _ => 0
def dueO (x1 x2 x3 x4 : V) (o : Option (List V)) : Option Str :=
  if within x1 0 2 = false then some "kind" else if within x2 0 7 = false then some "loss" else if within x3 0 7 = false then some "grade" else if within x4 0 4 = false then some "reach" else
  if bookB (intOf x1) o = false then some "book" else none
def oV : Option Str → V
  | none => .non
  | some s => .str s
def partsL : List Str := ["kind", "loss", "grade", "reach"]
def mostsL : List Int := [2, 7, 7, 4]
theorem due_first {x1 x2 x3 x4 : V} {o : Option (List V)} {x5 : V} {i : Nat} {w : Str} {y : V} {m : Int} (e1 : partsL[i]? = some w) (e2 : [x1, x2, x3, x4, x5][i]? = some y) (e3 : mostsL[i]? = some m)
    (hb : ∀ j y m, j < i → [x1, x2, x3, x4, x5][j]? = some y → mostsL[j]? = some m → within y 0 m = true) (h : within y 0 m = false) : dueO x1 x2 x3 x4 o = some w := by
  have b := fun j y m a => hb j y m a
  unfold dueO
  match i, e1, e2, e3 with
  | 0, e1, e2, e3 =>
    cases e1; cases e2; cases e3
    rw [if_pos h]
  | 1, e1, e2, e3 =>
    cases e1; cases e2; cases e3
    rw [if_neg (by rw [hb 0 x1 2 (by decide) rfl rfl]; decide), if_pos h]
  | 2, e1, e2, e3 =>
    cases e1; cases e2; cases e3
    rw [if_neg (by rw [hb 0 x1 2 (by decide) rfl rfl]; decide), if_neg (by rw [hb 1 x2 7 (by decide) rfl rfl]; decide), if_pos h]
  | 3, e1, e2, e3 =>
    cases e1; cases e2; cases e3
    rw [if_neg (by rw [hb 0 x1 2 (by decide) rfl rfl]; decide), if_neg (by rw [hb 1 x2 7 (by decide) rfl rfl]; decide), if_neg (by rw [hb 2 x3 7 (by decide) rfl rfl]; decide), if_pos h]
theorem due_book {x1 x2 x3 x4 : V} {o : Option (List V)} (h1 : within x1 0 2 = true) (h2 : within x2 0 7 = true) (h3 : within x3 0 7 = true) (h4 : within x4 0 4 = true) : dueO x1 x2 x3 x4 o = (if bookB (intOf x1) o = false then some ("book" : Str) else none : Option Str) := by
  unfold dueO
  rw [if_neg (by rw [h1]; decide), if_neg (by rw [h2]; decide), if_neg (by rw [h3]; decide), if_neg (by rw [h4]; decide)]
def spDueL (K : PySem.W.Frag) : Sp := fun vs H Q _ => ∃ (f : Addr) (x1 x2 x3 x4 x5 : V) (o : Option (List V)), vs = [.ref f] ∧ H f = some (.lst [x1, x2, x3, x4, x5]) ∧ Fl x1 ∧ Fl x2 ∧ Fl x3 ∧ Fl x4 ∧ Rv K H x5 o ∧ ∀ H', Same H H' → Q (oV (dueO x1 x2 x3 x4 o)) H'
theorem ok_ldue : FnOk P w K mg base (L2.CX P w) 3 T._law_due.a T._law_due.d ["_law_five"] (spDueL K) := by
  refine T._law_due.f.okX sc__law_due (fun vs H Q E h => ?_) (fun cdv A outer s H vs Q E hr h => ?_)
  · obtain ⟨f, x1, x2, x3, x4, x5, o, rfl, _⟩ := h
    rfl
  · obtain ⟨f, x1, x2, x3, x4, x5, o, rfl, ef, f1, f2, f3, f4, rv, k⟩ := h
    refine ⟨_, (pss_cons (ps_set (i := 1) sc__law_due.nd rfl (by first | exact .inl rfl | exact .inr rfl) (pe_lst (pa_cons pe_str (pa_cons pe_str (pa_cons pe_str (pa_cons pe_str pa_nil))))))
      (pss_cons (ps_for (passes_of rfl) rfl (KZ3.pi_zip3 (by rfl) T.b_zip (pa_cons (pv 1) (pa_cons (pv 0) (pa_cons (pe_lst (pa_cons pe_int (pa_cons pe_int (pa_cons pe_int (pa_cons pe_int pa_nil))))) pa_nil)))) (pg_tup rfl (pgs_cons (pg_name (i := 2) sc__law_due.nd rfl (by first | exact .inl rfl | exact .inr rfl)) (pgs_cons (pg_name (i := 3) sc__law_due.nd rfl (by first | exact .inl rfl | exact .inr rfl)) (pgs_cons (pg_name (i := 4) sc__law_due.nd rfl (by first | exact .inl rfl | exact .inr rfl)) pgs_nil))))
        (pss_one (ps_if (PW.pt (pw_or (pt_not (pt_val (pe_call (ok_whole T) (hr.mono (by decide)) (by rfl) T._law_is_whole.m T._law_is_whole.f.kp (bd__law_is_whole T) .nil passE (pa_cons (pv 3) pa_nil)))) (pw_or1 (pt_not (pt_chain op_le op_le pe_int (pv 3) (pv 4)))))) (pss_one (ps_ret (pv 2))) pss_nil)))
      (pss_cons (ps_if (PW.pt (pw_or (pt_not (pt_val (pe_call (ok_lbook T) (hr.mono (by decide)) (by rfl) T._law_is_book.m T._law_is_book.f.kp (bd__law_is_book T) .nil passE (pa_cons (pe_ix (show IxR _ (rIx K) from ix_seq) (pv 0) pe_int (fun _ _ => rfl)) pa_nil)))) (pw_or1 (PW.pt (pw_and (pt_cmpR op_lt (pe_ix (show IxR _ (rIx K) from ix_seq) (pv 0) pe_int (fun _ _ => rfl)) pe_int (nomark _)) (pw_and1 (pt_cmpR op_gt (pe_ix (show IxR _ (rIx K) from ix_seq) (pe_ix (show IxR _ (rIx K) from ix_seq) (pv 0) pe_int (fun _ _ => rfl)) pe_int (fun _ _ => rfl)) pe_int (nomark _)))))))) (pss_one (ps_ret pe_str)) pss_nil)
      (pss_one (ps_ret (pe_ifExp (PW.pt (pw_and (pt_cmpR op_eq (pe_ix (show IxR _ (rIx K) from ix_seq) (pv 0) pe_int (fun _ _ => rfl)) pe_int (nomark _)) (pw_and1 (PW.pt (pw_or (pt_cmpR op_gt (pe_ix (show IxR _ (rIx K) from ix_seq) (pe_ix (show IxR _ (rIx K) from ix_seq) (pv 0) pe_int (fun _ _ => rfl)) pe_int (fun _ _ => rfl)) pe_int (nomark _)) (pw_or1 (pt_cmpR op_gt (pe_ix (show IxR _ (rIx K) from ix_seq) (pe_ix (show IxR _ (rIx K) from ix_seq) (pv 0) pe_int (fun _ _ => rfl)) pe_int (fun _ _ => rfl)) pe_int (nomark _)))))))) pe_str pe_non)))))), ?_⟩
    refine ⟨(by show 4 ≤ sizeLine; decide), fun q hq => ?_⟩
    have tq := Same.new (o := .lst [V.str "kind", .str "loss", .str "grade", .str "reach"]) hq
    have eq : (upd H q (.lst [V.str "kind", .str "loss", .str "grade", .str "reach"])) q = some (.lst [V.str "kind", .str "loss", .str "grade", .str "reach"]) := upd_same
    refine ⟨_, rfl, _, rfl, (by show 4 ≤ sizeLine; decide), fun q2 hq2 => ?_⟩
    have tq2 := Same.new (o := .lst [V.int 2, .int 7, .int 7, .int 4]) hq2
    have eq2 : (upd (upd H q (.lst [V.str "kind", .str "loss", .str "grade", .str "reach"])) q2 (.lst [V.int 2, .int 7, .int 7, .int 4])) q2 = some (.lst [V.int 2, .int 7, .int 7, .int 4]) := upd_same
    have eq := tq2 _ _ eq
    have s0 : Same H (upd (upd H q (.lst [V.str "kind", .str "loss", .str "grade", .str "reach"])) q2 (.lst [V.int 2, .int 7, .int 7, .int 4])) := tq.trans tq2
    have ef0 := s0 _ _ ef
    refine ⟨q, f, q2, partsL.map V.str, [x1, x2, x3, x4, x5], mostsL.map V.int, rfl, SqL.of eq, SqL.of ef0, SqL.of eq2, ?_⟩
    generalize upd (upd H q (.lst [V.str "kind", .str "loss", .str "grade", .str "reach"])) q2 (.lst [V.int 2, .int 7, .int 7, .int 4]) = H0 at s0 ef0 eq eq2 ⊢
    clear tq tq2
    have eq : H0 q = some (.lst (partsL.map V.str)) := eq
    have eq2 : H0 q2 = some (.lst (mostsL.map V.int)) := eq2
    refine for_it (KZ3.walk_zip3 (xs := partsL.map V.str) (ys := [x1, x2, x3, x4, x5]) (zs := mostsL.map V.int) (show 4 ≤ 5 by decide) (show 4 ≤ 4 by decide)) (fun n σ H' => (∃ v2 v3 v4, σ = [some (.ref f), some (.ref q), v2, v3, v4]) ∧ Same H0 H' ∧ ∀ j y m, j < n → [x1, x2, x3, x4, x5][j]? = some y → mostsL[j]? = some m → within y 0 m = true) ⟨⟨_, _, _, rfl⟩, (fun _ _ e => e), fun j y m h => absurd h (Nat.not_lt_zero _)⟩ (fun _ σ H' _ z => ⟨SqL.of (z.2.1 _ _ eq), SqL.of (z.2.1 _ _ ef0), SqL.of (z.2.1 _ _ eq2)⟩) ?_ ?_
    · rintro i x σ H' H'' hi ⟨⟨v2, v3, v4, rfl⟩, s1, hb⟩ ⟨T', a, y, c, rfl, hT, rfl, z1, z2, z3⟩
      obtain ⟨w', hw, rfl⟩ : ∃ w', partsL[i]? = some w' ∧ a = .str w' := by
        have z1 : (partsL.map V.str)[i]? = some a := z1
        rw [List.getElem?_map] at z1
        cases e : partsL[i]? with
        | none => rw [e] at z1; cases z1
        | some w' => rw [e] at z1; exact ⟨w', rfl, (Option.some.inj z1).symm⟩
      obtain ⟨m, hm, rfl⟩ : ∃ m, mostsL[i]? = some m ∧ c = .int m := by
        have z3 : (mostsL.map V.int)[i]? = some c := z3
        rw [List.getElem?_map] at z3
        cases e : mostsL[i]? with
        | none => rw [e] at z3; cases z3
        | some w' => rw [e] at z3; exact ⟨w', rfl, (Option.some.inj z3).symm⟩
      have hy : [x1, x2, x3, x4, x5][i]? = some y := z2
      have fl : Fl y := by
        have hi4 : i < 4 := hi
        match i, hi4, hy with
        | 0, _, hy => cases hy; exact f1
        | 1, _, hy => cases hy; exact f2
        | 2, _, hy => cases hy; exact f3
        | 3, _, hy => cases hy; exact f4
      have t1 := Same.new (o := .tup [V.str w', y, .int m]) hT
      have s2 := s1.trans t1
      have sH := s0.trans s2
      refine ⟨T', _, rfl, SqT.of upd_same, rfl, _, _, rfl, _, _, rfl, _, _, rfl, rfl, ?_⟩
      generalize upd H' T' (.tup [V.str w', y, .int m]) = H2 at s2 sH ⊢
      have bad : within y 0 m = false → Q (.str w') H2 := fun h => by
        have := due_first (o := o) hw hy hm hb h
        rw [this] at k
        exact k _ sH
      have good : within y 0 m = true → (∃ v2 v3 v4, [some (V.ref f), some (.ref q), some (.str w'), some y, some (.int m)] = [some (V.ref f), some (.ref q), v2, v3, v4]) ∧ Same H0 H2 ∧ ∀ j y m, j < i + 1 → [x1, x2, x3, x4, x5][j]? = some y → mostsL[j]? = some m → within y 0 m = true := fun h => by
        refine ⟨⟨_, _, _, rfl⟩, s2, fun j y' m' hj e1 e2 => ?_⟩
        by_cases c : j = i
        · subst c
          rw [hy] at e1
          rw [hm] at e2
          cases e1
          cases e2
          exact h
        · exact hb j y' m' (by omega) e1 e2
      refine ⟨_, rfl, _, _, rfl, fl.plN (K := K) (H := H2), _, rfl, ?_⟩
      cases fl with
      | int j =>
        refine iteF ⟨_, rfl, _, _, rfl, rfl, _, rfl, ?_⟩
        have ew' : within (.int j) 0 m = (decide (0 ≤ j) && decide (j ≤ m)) := rfl
        cases c2 : decide (0 ≤ j) with
        | false =>
          rw [c2, Bool.false_and] at ew'
          exact iteF ⟨_, rfl, iteT ⟨_, rfl, bad ew'⟩⟩
        | true =>
          rw [c2, Bool.true_and] at ew'
          refine iteT ⟨_, rfl, _, _, rfl, rfl, _, rfl, ?_⟩
          cases c3 : decide (j ≤ m) with
          | false =>
            rw [c3] at ew'
            exact iteT ⟨_, rfl, bad ew'⟩
          | true =>
            rw [c3] at ew'
            exact iteF (good ew')
      | bl j => exact iteT (iteT ⟨_, rfl, bad rfl⟩)
      | str j _ => exact iteT (iteT ⟨_, rfl, bad rfl⟩)
      | non => exact iteT (iteT ⟨_, rfl, bad rfl⟩)
    rintro σ H' ⟨⟨v2, v3, v4, rfl⟩, s1, hb⟩
    have b1 := hb 0 x1 2 (by decide) rfl rfl
    have b2 := hb 1 x2 7 (by decide) rfl rfl
    have b3 := hb 2 x3 7 (by decide) rfl rfl
    have b4 := hb 3 x4 4 (by decide) rfl rfl
    rw [due_book b1 b2 b3 b4] at k
    obtain ⟨kd, rfl, k1, k2⟩ := within_int b1
    have sH := s0.trans s1
    have ef' := s1 _ _ ef0
    refine ⟨_, rfl, ix_L (K := K) (i := 4) ef' rfl ⟨x5, o, rfl, rv.keep sH, fun H2 s2 => ⟨_, rfl, ?_⟩⟩⟩
    have sH2 := sH.trans s2
    have ef2 := s2 _ _ ef'
    cases c : bookB 2 o with
    | false =>
      rw [book_no c] at k
      exact iteT (iteT (k _ sH2))
    | true =>
    obtain ⟨ns, rfl, l8, s8, _⟩ := book_nv c
    have rv2 := rv.keep sH2
    cases rv2 with
    | @tup b xs eb pb lb =>
    have bs := book_split (kd := kd) c
    have nx : ∀ j, j < 8 → (NV ns)[j]? = some (.int ((ns.getD j 0 : Nat) : Int)) := fun j hj => NV_get (by rw [List.getD_eq_getElem?_getD, List.getElem?_eq_getElem (by omega)]; rfl)
    have e2b := sH2 _ _ (show H b = some (.tup (NV ns)) from by cases rv with | tup e _ _ => exact e)
    have g0 : ∀ n : Nat, decide ((0 : Int) < (n : Int)) = decide (0 < n) := fun n => decide_eq_decide.mpr (by omega)
    have book : bookB kd (some (NV ns)) = false → Q (.str "book") H2 := fun h => by
      rw [show intOf (.int kd) = kd from rfl, if_pos h] at k
      exact k _ sH2
    have fine : bookB kd (some (NV ns)) = true → Q .non H2 := fun h => by
      rw [show intOf (.int kd) = kd from rfl, if_neg (by rw [h]; decide)] at k
      exact k _ sH2
    rw [bs] at book fine
    have at_ : ∀ (j : Nat) (F : V → Hp → Prop), j < 8 → F (.int ((ns.getD j 0 : Nat) : Int)) H2 → rIx K (.ref b) (.int (j : Int)) H2 F := fun j F hj q => ix_T (K := K) e2b (nx j hj) q
    refine iteF ⟨_, rfl, ix_L (K := K) (i := 0) ef2 rfl ⟨_, _, rfl, rfl, _, rfl, ?_⟩⟩
    by_cases c2 : kd < 2
    case pos =>
      rw [decide_eq_true c2] at book fine ⊢
      rw [Bool.true_and] at book fine
      refine iteT ⟨_, rfl, ix_L (K := K) (i := 4) ef2 rfl (at_ 6 _ (by decide) ⟨_, _, rfl, rfl, _, rfl, ?_⟩)⟩
      rw [g0]
      cases c6 : decide (0 < ns.getD 6 0) with
      | true =>
        refine iteT (book ?_)
        rw [c6, Bool.or_true]
        rfl
      | false =>
        rw [c6, Bool.or_false] at book fine
        refine iteF ⟨_, rfl, ix_L (K := K) (i := 0) ef2 rfl ⟨rfl, _, rfl, ?_⟩⟩
        by_cases c0 : kd = 0
        case neg =>
          rw [show decide (V.int kd = V.int 0) = false from decide_eq_false fun z => c0 (V.int.inj z)]
          refine iteF (iteF (fine ?_))
          rw [decide_eq_false (show ¬ kd < 1 by omega)]
          rfl
        subst c0
        rw [show decide ((0 : Int) < 1) = true from rfl, Bool.true_and] at book fine
        refine iteT ⟨_, rfl, ix_L (K := K) (i := 4) ef2 rfl (at_ 5 _ (by decide) ⟨_, _, rfl, rfl, _, rfl, ?_⟩)⟩
        rw [g0]
        cases c5 : decide (0 < ns.getD 5 0) with
        | true =>
          refine iteT (iteT (book ?_))
          have := of_decide_eq_true c5
          rw [decide_eq_true (show 0 < ns.getD 5 0 + ns.getD 7 0 by omega)]
          rfl
        | false =>
          refine iteF ⟨_, rfl, ix_L (K := K) (i := 4) ef2 rfl (at_ 7 _ (by decide) ⟨_, _, rfl, rfl, _, rfl, ?_⟩)⟩
          rw [g0]
          have z5 := of_decide_eq_false c5
          cases c7 : decide (0 < ns.getD 7 0) with
          | true =>
            have := of_decide_eq_true c7
            refine iteT (book ?_)
            rw [decide_eq_true (show 0 < ns.getD 5 0 + ns.getD 7 0 by omega)]
            rfl
          | false =>
            have := of_decide_eq_false c7
            refine iteF (fine ?_)
            rw [decide_eq_false (show ¬ 0 < ns.getD 5 0 + ns.getD 7 0 by omega)]
            rfl
    case neg =>
      rw [decide_eq_false c2]
      refine iteF (iteF ⟨_, rfl, ix_L (K := K) (i := 0) ef2 rfl ⟨rfl, _, rfl, ?_⟩⟩)
      rw [show decide (V.int kd = V.int 0) = false from decide_eq_false fun z => c2 (by have := V.int.inj z; omega)]
      refine iteF (iteF (fine ?_))
      rw [decide_eq_false c2, decide_eq_false (show ¬ kd < 1 by omega)]
      rfl
end
end K08
namespace K08
open PySem PySem.Spec PyProof.Rows L2 PySem.W LamX KA KW KU KL KT
open Evl (pss_cut tCut)
/-! ### any lengths -/
def spAny : Sp := fun vs H Q _ => ∃ (st lg cl : Addr) (m : Nat), vs = [.ref st] ∧ m ≤ 900000 ∧ StAt H st lg cl m ∧
  ∀ (t : Addr) (ns : List Nat) (H' : Hp), ns.length = 8 → (∀ n ∈ ns, n < 8) → H t = none → H' t = some (.tup (NV ns)) → StAt H' st lg cl (m + 18) → Kp st lg H H' → Q (.ref t) H'
/-- eight numbers below 8 at f, a new list -/
structure Ei (st lg cl : Addr) (H H' : Hp) (f : Addr) (m : Nat) : Prop where
  e : ∃ ns : List Nat, ns.length = 8 ∧ (∀ n ∈ ns, n < 8) ∧ H' f = some (.lst (NV ns))
  n : (f ≠ st ∧ f ≠ lg) ∧ f ≠ cl
  h : H f = none
  S : StAt H' st lg cl m
  k : Kp st lg H H'
theorem small_of {is : List Nat} (h : ∀ n ∈ is, n < 8) {x : V} (hx : x ∈ NV is) : ∃ n : Nat, x = .int (n : Int) ∧ n < 8 := by
  obtain ⟨n, hn, rfl⟩ := List.mem_map.mp hx
  exact ⟨n, rfl, h n hn⟩
section
variable {P : Program} {w : World} {K : PySem.W.Frag} {mg : Str → Option Value} {base : Heap} (T : Top K mg)
theorem ok_any : FnOk P w K mg base (L2.CX P w) 3 T._law_any_lengths.a T._law_any_lengths.d ["_law_state"] spAny := by
  refine T._law_any_lengths.f.okX sc__law_any_lengths (fun vs H Q E h => ?_) (fun cdv A outer s H vs Q E hr h => ?_)
  · obtain ⟨st, lg, cl, m, rfl, _⟩ := h
    rfl
  · obtain ⟨st, lg, cl, m, rfl, hm, S, k⟩ := h
    refine ⟨_, (pss_cons (ps_setLc (i := 1) (own := [("_law_spot", 2)]) (g := (gName 2)) (tt := tYes) rfl sc__law_any_lengths.nd rfl rfl (sw_true rfl rfl rfl (by decide +kernel)) (pi_range1 (by rfl) T.b_range (pa_cons pe_int pa_nil)) (blkOk_by (own := [("_law_spot", 2)]) (N := ["_law_state", "_law_found", "_law_spot"]) (sc := defScope s__law_any_lengths) (by decide +kernel)) (fun _ _ _ _ _ => pg_name (i := 2) sc__law_any_lengths.nd rfl (by first | exact .inl rfl | exact .inr rfl)) (fun _ _ _ _ _ => pts_nil) (fun _ _ _ _ _ => (pe_call (ok_pick T) (hr.mono (by decide)) (by rfl) T._law_pick.m T._law_pick.f.kp (bd__law_pick T) .nil passE (pa_cons (pv 0) (pa_cons (pe_lst (pa_cons pe_int (pa_cons pe_int (pa_cons pe_int (pa_cons pe_int (pa_cons pe_int (pa_cons pe_int (pa_cons pe_int (pa_cons pe_int pa_nil))))))))) pa_nil)))))
      (pss_cut (ps_if (pt_cmpR op_eq (pe_call (ok_draw T) (hr.mono (by decide)) (by rfl) T._law_draw.m T._law_draw.f.kp (bd__law_draw T) .nil passE (pa_cons (pv 0) (pa_cons pe_int pa_nil))) pe_int (nomark _)) (pss_one (ps_setLc (i := 1) (own := [("_law_spot", 2)]) (g := (gName 2)) (tt := tYes) rfl sc__law_any_lengths.nd rfl rfl (sw_true rfl rfl rfl (by decide +kernel)) (pi_range1 (by rfl) T.b_range (pa_cons pe_int pa_nil)) (blkOk_by (own := [("_law_spot", 2)]) (N := ["_law_state", "_law_found", "_law_spot"]) (sc := defScope s__law_any_lengths) (by decide +kernel)) (fun _ _ _ _ _ => pg_name (i := 2) sc__law_any_lengths.nd rfl (by first | exact .inl rfl | exact .inr rfl)) (fun _ _ _ _ _ => pts_nil) (fun _ _ _ _ _ => (pe_call (ok_pick T) (hr.mono (by decide)) (by rfl) T._law_pick.m T._law_pick.f.kp (bd__law_pick T) .nil passE (pa_cons (pv 0) (pa_cons (pe_lst (pa_cons pe_int (pa_cons pe_int (pa_cons pe_int (pa_cons pe_int pa_nil))))) pa_nil)))))) pss_nil)
      (pss_cons (ps_asg (pe_call (ok_pick T) (hr.mono (by decide)) (by rfl) T._law_pick.m T._law_pick.f.kp (bd__law_pick T) .nil passE (pa_cons (pv 0) (pa_cons (pe_lst (pa_cons (pe_ix (show IxR _ (rIx K) from ix_seq) (pv 1) pe_int (fun _ _ => rfl)) (pa_cons pe_int (pa_cons pe_int pa_nil)))) pa_nil))) (pg_sub (pv 1) pe_int set_list))
      (pss_one (ps_ret (pe_callTy call_tuple_of (by rfl) T.b_tuple (by decide +kernel) (pa_cons (pv 1) pa_nil))))))), ?_⟩
    refine ⟨8, rfl, by decide, by decide, fun D hD => ?_⟩
    have nD := S.off hD
    have ncD := offc S hD
    refine lc_it (walk_rangeN (n := 8)) (fun i H' => ∃ ns : List Nat, H' D = some (.lst (NV ns)) ∧ ns.length = i ∧ (∀ n ∈ ns, n < 8) ∧ StAt H' st lg cl (m + i) ∧ Kp st lg H H') ⟨[], upd_same, rfl, (fun y hy => nomatch hy), S.same (Same.new hD), .same (Same.new hD)⟩ (fun _ _ _ _ => trivial) ?_ ?_
    · rintro i y H6' H6 hi ⟨ns, eD, hl, hys, S6, k6⟩ ⟨rfl, rfl⟩
      refine ⟨rfl, ?_⟩
      dsimp only [tYes]
      rw [if_pos rfl]
      refine ⟨_, rfl, (by show 8 ≤ sizeLine; decide), fun q hq => ?_⟩
      have tq := Same.new (o := .lst (NV [0, 1, 2, 3, 3, 4, 5, 7])) hq
      refine ⟨st, lg, cl, q, NV [0, 1, 2, 3, 3, 4, 5, 7], m + i, rfl, upd_same, (S6.off hq).2, (by show 0 < 8; decide), (by show 8 ≤ 1000; decide), by omega, S6.same tq, fun x H7 hx S7 k7 => ?_⟩
      obtain ⟨n, rfl, n8⟩ := small_of (by decide) hx
      have k67 := (Kp.same tq).trans k7
      have eD7 := k67 _ _ eD nD.1 nD.2
      refine ⟨_, eD7, ?_, ns ++ [n], ?_, ?_, ?_, ?_, ?_⟩
      · rw [NV_len, hl]
        exact Nat.lt_of_lt_of_le hi (by decide)
      · rw [upd_same]
        unfold NV
        rw [List.map_append]
        rfl
      · rw [List.length_append, hl]; rfl
      · intro z hz
        rcases List.mem_append.mp hz with h | h
        · exact hys z h
        · rw [List.mem_singleton.mp h]
          exact n8
      · exact stAt_put S7 nD.1 nD.2 ncD
      · exact Kp.put3 (k6.trans k67) hD
    rintro H1 ⟨ns, e1, l1, s1, S1, k1⟩
    refine ⟨fun σ H2 => ∃ f v2, σ = [some (.ref st), some (.ref f), v2] ∧ Ei st lg cl H H2 f (m + 17), ?_, ?_⟩
    · refine ⟨_, rfl, st, lg, cl, 2, m + 8, rfl, by decide, by decide, by omega, S1, fun r H2 hr2 S2 k2 => ⟨rfl, _, rfl, ?_⟩⟩
      have e2 := k2 _ _ e1 nD.1 nD.2
      have k12 := k1.trans k2
      by_cases c : r = 0
      case neg =>
        rw [show decide (V.int (r : Int) = V.int 0) = false from decide_eq_false fun z => c (by injection z; omega)]
        exact iteF ⟨D, _, rfl, ⟨ns, l1, s1, e2⟩, ⟨nD, ncD⟩, hD, S2.mono (by omega), k12⟩
      subst c
      refine iteT ⟨8, rfl, by decide, by decide, fun D2 hD2 => ?_⟩
      have nD := S2.off hD2
      have ncD := offc S2 hD2
      have hDH := Kp.free k12 S2 hD2
      refine lc_it (walk_rangeN (n := 8)) (fun i H' => ∃ ns : List Nat, H' D2 = some (.lst (NV ns)) ∧ ns.length = i ∧ (∀ n ∈ ns, n < 8) ∧ StAt H' st lg cl (m + 9 + i) ∧ Kp st lg H H') ⟨[], upd_same, rfl, (fun y hy => nomatch hy), S2.same (Same.new hD2), k12.trans (.same (Same.new hD2))⟩ (fun _ _ _ _ => trivial) ?_ ?_
      · rintro i y H6' H6 hi ⟨ns, eD, hl, hys, S6, k6⟩ ⟨rfl, rfl⟩
        refine ⟨rfl, ?_⟩
        dsimp only [tYes]
        rw [if_pos rfl]
        refine ⟨_, rfl, (by show 4 ≤ sizeLine; decide), fun q hq => ?_⟩
        have tq := Same.new (o := .lst (NV [0, 3, 4, 5])) hq
        refine ⟨st, lg, cl, q, NV [0, 3, 4, 5], m + 9 + i, rfl, upd_same, (S6.off hq).2, (by show 0 < 4; decide), (by show 4 ≤ 1000; decide), by omega, S6.same tq, fun x H7 hx S7 k7 => ?_⟩
        obtain ⟨n, rfl, n8⟩ := small_of (by decide) hx
        have k67 := (Kp.same tq).trans k7
        have eD7 := k67 _ _ eD nD.1 nD.2
        refine ⟨_, eD7, ?_, ns ++ [n], ?_, ?_, ?_, ?_, ?_⟩
        · rw [NV_len, hl]
          exact Nat.lt_of_lt_of_le hi (by decide)
        · rw [upd_same]
          unfold NV
          rw [List.map_append]
          rfl
        · rw [List.length_append, hl]; rfl
        · intro z hz
          rcases List.mem_append.mp hz with h | h
          · exact hys z h
          · rw [List.mem_singleton.mp h]
            exact n8
        · exact stAt_put S7 nD.1 nD.2 ncD
        · exact Kp.put3 (k6.trans k67) hDH
      rintro H3 ⟨ns, e3, l3, s3, S3, k3⟩
      exact ⟨D2, _, rfl, ⟨ns, l3, s3, e3⟩, ⟨nD, ncD⟩, hDH, S3, k3⟩
    rintro σ H2 ⟨f, v2, rfl, ⟨ns, l2, s2, e2⟩, ⟨nf, ncf⟩, hf, S2, k2⟩
    have h0 : (NV ns)[0]? = some (.int ((ns.getD 0 0 : Nat) : Int)) := NV_get (by rw [List.getD_eq_getElem?_getD, List.getElem?_eq_getElem (by omega)]; rfl)
    have lt0 : ns.getD 0 0 < 8 := by
      rw [List.getD_eq_getElem?_getD, List.getElem?_eq_getElem (show 0 < ns.length by omega)]
      exact s2 _ (List.getElem_mem _)
    refine ⟨_, rfl, _, rfl, ix_L (K := K) (i := 0) e2 h0 ⟨(by show 3 ≤ sizeLine; decide), fun q hq => ?_⟩⟩
    have tq := Same.new (o := .lst (NV [ns.getD 0 0, 1, 3])) hq
    refine ⟨st, lg, cl, q, NV [ns.getD 0 0, 1, 3], m + 17, rfl, upd_same, (S2.off hq).2, (by show 0 < 3; decide), (by show 3 ≤ 1000; decide), by omega, S2.same tq, fun x H7 hx S7 k7 => ?_⟩
    obtain ⟨n, rfl, n8⟩ := small_of (is := [ns.getD 0 0, 1, 3]) (fun n hn => by
      simp only [List.mem_cons, List.not_mem_nil, or_false] at hn
      omega) hx
    have k67 := (Kp.same tq).trans k7
    have e7 := k67 _ _ e2 nf.1 nf.2
    refine ⟨_, rfl, f, NV ns, 0, 0, rfl, rfl, e7, ixN_nat (i := 0) (by rw [NV_len, l2]; decide), ?_⟩
    have e8 : (upd H7 f (.lst ((NV ns).set 0 (.int (n : Int))))) f = some (.lst (NV (ns.set 0 n))) := by
      rw [upd_same]
      unfold NV
      rw [List.map_set]
    have S8 : StAt (upd H7 f (.lst ((NV ns).set 0 (.int (n : Int))))) st lg cl (m + 18) := stAt_put S7 nf.1 nf.2 ncf
    have k8 : Kp st lg H (upd H7 f (.lst ((NV ns).set 0 (.int (n : Int))))) := Kp.put3 (k2.trans k67) hf
    generalize upd H7 f (.lst ((NV ns).set 0 (.int (n : Int)))) = H8 at e8 S8 k8 ⊢
    refine ⟨_, rfl, f, _, rfl, .inl ⟨SqL.of e8, fun t ht => ?_⟩⟩
    have tt := Same.new (o := .tup (NV (ns.set 0 n))) ht
    exact k t (ns.set 0 n) _ (by rw [List.length_set]; exact l2) (fun z hz => by
      rcases List.mem_or_eq_of_mem_set hz with q | q
      · exact s2 z q
      · rw [q]; exact n8) (Kp.free k8 S8 ht) upd_same (S8.same tt) (k8.trans (Kp.same tt))
end
end K08
namespace K08
open PySem PySem.Spec PyProof.Rows L2 PySem.W LamX KA KW KU KL KT
open Evl (pss_cut tCut)
/-! ### bent parts -/
theorem tp_kp {st lg cl : Addr} {m : Nat} {H H' : Hp} (S : StAt H st lg cl m) (k : Kp st lg H H') {b : Addr} {xs : List V} (e : H b = some (.tup xs)) : H' b = some (.tup xs) := by
  obtain ⟨_, _, _, _, s, _⟩ := S
  exact k _ _ e (ne_of e s.d (by intro z; cases z)) (ne_of e s.l (by intro z; cases z))
theorem cat_any {K : PySem.W.Frag} {a b : Addr} {xs ys : List V} {H : Hp} {Q : VK} (ea : H a = some (.tup xs)) (eb : H b = some (.tup ys)) (l : xs.length + ys.length ≤ 4000) (k : ∀ c H', Same H H' → H' c = some (.tup (xs ++ ys)) → Q (.ref c) H') : rCatA K (.ref a) (.ref b) H Q := by
  refine ⟨a, b, xs, ys, rfl, rfl, SqT.of ea, SqT.of eb, Nat.le_trans l (by decide), fun z => ?_, fun _ z => ?_, fun _ _ p hp => k p _ (Same.new hp) upd_same⟩
  · exact k b H (fun _ _ e => e) (by rw [z, List.nil_append]; exact eb)
  · exact k a H (fun _ _ e => e) (by rw [z, List.append_nil]; exact ea)
theorem cut7 {K : PySem.W.Frag} {b : Addr} {ns : List Nat} {H : Hp} {Q : VK} (e : H b = some (.tup (NV ns))) (l : ns.length = 8) (k : ∀ c H', Same H H' → H' c = some (.tup (NV (ns.take 7))) → Q (.ref c) H') : rSlT K (.ref b) none (some 7) H Q := by
  obtain ⟨n1, n2, n3, n4, n5, n6, n7, n8, rfl⟩ := eight l
  exact ⟨b, _, rfl, SqT.of e, (show ¬ (HT.sIx 8 0 none = 0 ∧ HT.sIx 8 8 (some 7) = 8) by decide), fun p hp => k p _ (Same.new hp) upd_same⟩
theorem cut1 {K : PySem.W.Frag} {b : Addr} {ns : List Nat} {H : Hp} {Q : VK} (e : H b = some (.tup (NV ns))) (l : ns.length = 8) (k : ∀ c H', Same H H' → H' c = some (.tup (NV (ns.drop 1))) → Q (.ref c) H') : rSlT K (.ref b) (some 1) none H Q := by
  obtain ⟨n1, n2, n3, n4, n5, n6, n7, n8, rfl⟩ := eight l
  exact ⟨b, _, rfl, SqT.of e, (show ¬ (HT.sIx 8 0 (some 1) = 0 ∧ HT.sIx 8 8 none = 8) by decide), fun p hp => k p _ (Same.new hp) upd_same⟩
theorem cut1p {K : PySem.W.Frag} {b : Addr} {ns : List Nat} {H : Hp} {Q : VK} {σ : L2.St} (e : H b = some (.tup (NV ns))) (l : ns.length = 8) (k : ∀ c H', Same H H' → H' c = some (.tup (NV (ns.drop 1))) → Q (.ref c) H') : tNoPart σ H fun u H3 => rSlT K (.ref b) (some 1) u H3 Q := cut1 e l k
theorem fl_nv {ns : List Nat} : ∀ x ∈ NV ns, Fl x := fun x hx => by
  obtain ⟨n, _, rfl⟩ := List.mem_map.mp hx
  exact .int _
/-- a value as a book, which stays while draws are made -/
inductive Rs (st lg : Addr) (H : Hp) : V → Option (List V) → Prop where
  | non : Rs st lg H .non none
  | lst {a : Addr} {xs : List V} (n : a ≠ st ∧ a ≠ lg) (e : H a = some (.lst xs)) : Rs st lg H (.ref a) none
  | tup {a : Addr} {xs : List V} (e : H a = some (.tup xs)) (p : ∀ x ∈ xs, Fl x) (l : xs.length ≤ 1000) : Rs st lg H (.ref a) (some xs)
theorem Rs.kp {st lg cl : Addr} {m : Nat} {H H' : Hp} {x : V} {o : Option (List V)} (h : Rs st lg H x o) (S : StAt H st lg cl m) (k : Kp st lg H H') : Rs st lg H' x o := by
  cases h with
  | non => exact .non
  | lst n e => exact .lst n (k _ _ e n.1 n.2)
  | tup e p l => exact .tup (tp_kp S k e) p l
theorem Rs.rv {K : PySem.W.Frag} {st lg : Addr} {H : Hp} {x : V} {o : Option (List V)} (h : Rs st lg H x o) : Rv K H x o := by
  cases h with
  | non => exact .no .non
  | lst n e => exact .no (.lst e)
  | tup e p l => exact .tup e p l
def spBent : Sp := fun vs H Q _ => ∃ (st lg cl f5 b : Addr) (kd lo gr re : Int) (ns : List Nat) (m : Nat), vs = [.ref st, .ref f5] ∧ H f5 = some (.lst [.int kd, .int lo, .int gr, .int re, .ref b]) ∧ (f5 ≠ st ∧ f5 ≠ lg) ∧ H b = some (.tup (NV ns)) ∧ ns.length = 8 ∧ m ≤ 800000 ∧ StAt H st lg cl m ∧
  ∀ (f : Addr) (x1 x2 x3 x4 x5 : V) (o : Option (List V)) (H' : Hp), H f = none → H' f = some (.lst [x1, x2, x3, x4, x5]) → Fl x1 → Fl x2 → Fl x3 → Fl x4 → Rs st lg H' x5 o → StAt H' st lg cl (m + 100) → Kp st lg H H' → Q (.ref f) H'
/-- the bent parts as they stand at f -/
structure Be (st lg cl f : Addr) (H H' : Hp) (m : Nat) : Prop where
  e : ∃ x1 x2 x3 x4 x5 o, H' f = some (.lst [x1, x2, x3, x4, x5]) ∧ Fl x1 ∧ Fl x2 ∧ Fl x3 ∧ Fl x4 ∧ Rs st lg H' x5 o
  S : StAt H' st lg cl m
  k : Kp st lg H H'
def loseL : List V := [.int 0, .int 1, .int 2, .int 3, .int 4, .int 5, .int 7, .int 8, .int (-1), .bl true, .non, .str "1"]
theorem lose_fl {x : V} (h : x ∈ loseL) : Fl x := by
  unfold loseL at h
  simp only [List.mem_cons, List.not_mem_nil, or_false] at h
  rcases h with h | h | h | h | h | h | h | h | h | h | h | h <;> subst h
  · exact .int _
  · exact .int _
  · exact .int _
  · exact .int _
  · exact .int _
  · exact .int _
  · exact .int _
  · exact .int _
  · exact .int _
  · exact .bl _
  · exact .non
  · exact .str _ (by decide +kernel)
section
variable {P : Program} {w : World} {K : PySem.W.Frag} {mg : Str → Option Value} {base : Heap} (T : Top K mg)
theorem ok_bent : FnOk P w K mg base (L2.CX P w) 4 T._law_bent.a T._law_bent.d ["_law_state", "_law_five"] spBent := by
  refine T._law_bent.f.okX sc__law_bent (fun vs H Q E h => ?_) (fun cdv A outer s H vs Q E hr h => ?_)
  · obtain ⟨st, lg, cl, f5, b, kd, lo, gr, re, ns, m, rfl, _⟩ := h
    rfl
  · obtain ⟨st, lg, cl, f5, b, kd, lo, gr, re, ns, m, rfl, e5, n5, eb, l8, hm, S, k⟩ := h
    refine ⟨_, (pss_cons (ps_set (i := 2) sc__law_bent.nd rfl (by first | exact .inl rfl | exact .inr rfl) (pe_callTy call_list_of (by rfl) T.b_list (by decide +kernel) (pa_cons (pv 1) pa_nil)))
      (pss_cons (ps_for (passes_of rfl) rfl (pi_range1 (by rfl) T.b_range (pa_cons (pe_op op_add pe_int (pe_call (ok_draw T) (hr.mono (by decide)) (by rfl) T._law_draw.m T._law_draw.f.kp (bd__law_draw T) .nil passE (pa_cons (pv 0) (pa_cons pe_int pa_nil)))) pa_nil)) (pg_name (i := 3) sc__law_bent.nd rfl (by first | exact .inl rfl | exact .inr rfl))
        (pss_cons (ps_set (i := 4) sc__law_bent.nd rfl (by first | exact .inl rfl | exact .inr rfl) (pe_call (ok_draw T) (hr.mono (by decide)) (by rfl) T._law_draw.m T._law_draw.f.kp (bd__law_draw T) .nil passE (pa_cons (pv 0) (pa_cons pe_int pa_nil))))
      (pss_one (ps_if (pt_cmpR op_lt (pv 4) pe_int (nomark _)) (pss_one (ps_asg (pe_call (ok_pick T) (hr.mono (by decide)) (by rfl) T._law_pick.m T._law_pick.f.kp (bd__law_pick T) .nil passE (pa_cons (pv 0) (pa_cons (pe_lst (pa_cons pe_int (pa_cons pe_int (pa_cons pe_int (pa_cons pe_int (pa_cons pe_int (pa_cons pe_int (pa_cons pe_int (pa_cons pe_int (pa_cons (pe_un un_neg pe_int) (pa_cons pe_bl (pa_cons pe_non (pa_cons pe_str pa_nil))))))))))))) pa_nil))) (pg_sub (pv 2) (pv 4) set_list))) (pss_cons (ps_set (i := 5) sc__law_bent.nd rfl (by first | exact .inl rfl | exact .inr rfl) (pe_lst (pa_cons (pe_call (ok_any T) (hr.mono (by decide)) (by rfl) T._law_any_lengths.m T._law_any_lengths.f.kp (bd__law_any_lengths T) .nil passE (pa_cons (pv 0) pa_nil)) (pa_cons (pe_callTy call_list_of (by rfl) T.b_list (by decide +kernel) (pa_cons (pe_ix (show IxR _ (rIx K) from ix_seq) (pv 1) pe_int (fun _ _ => rfl)) pa_nil)) (pa_cons (pe_slice sl_tup (pe_ix (show IxR _ (rIx K) from ix_seq) (pv 1) pe_int (fun _ _ => rfl)) po_none (po_some pe_int)) (pa_cons (pe_op (show OpR _ _ (rCatA K) from op_catA) (pe_ix (show IxR _ (rIx K) from ix_seq) (pv 1) pe_int (fun _ _ => rfl)) (pe_tup (pa_cons pe_int pa_nil))) (pa_cons pe_non (pa_cons (pe_op (show OpR _ _ (rCatA K) from op_catA) (pe_tup (pa_cons pe_bl pa_nil)) (pe_slice sl_tup (pe_ix (show IxR _ (rIx K) from ix_seq) (pv 1) pe_int (fun _ _ => rfl)) (po_some pe_int) po_none)) pa_nil))))))))
      (pss_one (ps_asg (pe_call (ok_pick T) (hr.mono (by decide)) (by rfl) T._law_pick.m T._law_pick.f.kp (bd__law_pick T) .nil passE (pa_cons (pv 0) (pa_cons (pe_op op_cat (pv 5) (pe_lst (pa_cons (pe_op (show OpR _ _ (rCatA K) from op_catA) (pe_tup (pa_cons pe_int pa_nil)) (pe_slice sl_tup (pe_ix (show IxR _ (rIx K) from ix_seq) (pv 1) pe_int (fun _ _ => rfl)) (po_some pe_int) po_none)) (pa_cons (pe_op (show OpR _ _ (rCatA K) from op_catA) (pe_tup (pa_cons pe_int pa_nil)) (pe_slice sl_tup (pe_ix (show IxR _ (rIx K) from ix_seq) (pv 1) pe_int (fun _ _ => rfl)) (po_some pe_int) po_none)) (pa_cons (pe_op op_repA (pe_tup (pa_cons pe_int pa_nil)) pe_int) (pa_cons (pe_op op_repA (pe_tup (pa_cons pe_int pa_nil)) pe_int) pa_nil)))))) pa_nil))) (pg_sub (pv 2) pe_int set_list))))))))
      (pss_one (ps_ret (pv 2))))), ?_⟩
    refine ⟨_, rfl, f5, _, rfl, .inl (SqL.of e5), fun f hf => ?_⟩
    have tf := Same.new (o := .lst [V.int kd, .int lo, .int gr, .int re, .ref b]) hf
    have nf := S.off hf
    have ncf := offc S hf
    have e0 : (upd H f (.lst [V.int kd, .int lo, .int gr, .int re, .ref b])) f = some (.lst [V.int kd, .int lo, .int gr, .int re, .ref b]) := upd_same
    have B0 : Be st lg cl f H (upd H f (.lst [V.int kd, .int lo, .int gr, .int re, .ref b])) m := ⟨⟨_, _, _, _, _, _, e0, .int _, .int _, .int _, .int _, .tup (tf _ _ eb) fl_nv (by rw [NV_len, l8]; decide)⟩, S.same tf, .same tf⟩
    generalize upd H f (.lst [V.int kd, .int lo, .int gr, .int re, .ref b]) = H0 at B0 ⊢
    refine ⟨_, rfl, st, lg, cl, 2, m, rfl, by decide, by decide, by omega, B0.S, fun r H1 hr2 S1 k1 => ?_⟩
    have B1 : Be st lg cl f H H1 (m + 1) := by
      obtain ⟨x1, x2, x3, x4, x5, o, e, g1, g2, g3, g4, g5⟩ := B0.e
      exact ⟨⟨x1, x2, x3, x4, x5, o, k1 _ _ e nf.1 nf.2, g1, g2, g3, g4, g5.kp B0.S k1⟩, S1, B0.k.trans k1⟩
    refine ⟨_, _, rfl, rfl, _, rfl, by omega, by omega, ?_⟩
    rw [show ((1 : Int) + (r : Int)).toNat = r + 1 by omega]
    refine for_range (n := r + 1) (fun j σ H' => (∃ v3 v4 v5, σ = [some (.ref st), some (.ref f5), some (.ref f), v3, v4, v5]) ∧ Be st lg cl f H H' (m + 1 + 30 * j)) ⟨⟨_, _, _, rfl⟩, B1⟩ ?_ ?_
    · rintro i σ H2 hi ⟨⟨v3, v4, v5, rfl⟩, ⟨x1, x2, x3, x4, x5, o, e2, g1, g2, g3, g4, g5⟩, S2, k2⟩
      refine ⟨_, rfl, st, lg, cl, 5, m + 1 + 30 * i, rfl, by decide, by decide, by omega, S2, fun p H3 hp S3 k3 => ?_⟩
      have e3 := k3 _ _ e2 nf.1 nf.2
      have g5 := g5.kp S2 k3
      have kH := k2.trans k3
      refine ⟨_, rfl, _, _, rfl, rfl, _, rfl, ?_⟩
      by_cases c : p < 4
      · rw [decide_eq_true (show (p : Int) < 4 by omega)]
        refine iteT ⟨_, rfl, _, rfl, (by show 12 ≤ sizeLine; decide), fun q hq => ?_⟩
        have tq := Same.new (o := .lst loseL) hq
        refine ⟨st, lg, cl, q, loseL, m + 1 + 30 * i + 1, rfl, upd_same, (S3.off hq).2, (by show 0 < 12; decide), (by show 12 ≤ 1000; decide), by omega, S3.same tq, fun x H4 hx S4 k4 => ?_⟩
        have k34 := (Kp.same tq).trans k4
        have e4 := k34 _ _ e3 nf.1 nf.2
        have fx := lose_fl hx
        refine ⟨_, rfl, _, rfl, f, _, (p : Int), p, rfl, rfl, e4, ixN_nat (show p < 5 by omega), ⟨_, _, _, rfl⟩, ?_, (stAt_put S4 nf.1 nf.2 ncf).mono (by omega), Kp.put3 (kH.trans k34) hf⟩
        have g5 : Rs st lg (upd H4 f (.lst ([x1, x2, x3, x4, x5].set p x))) x5 o := by
          have z := g5.kp S3 k34
          cases z with
          | non => exact .non
          | @lst a ys n e =>
            by_cases z : a = f
            · subst z; exact .lst n upd_same
            · exact .lst n (by rw [upd_ne z]; exact e)
          | tup e p' l => exact .tup (by rw [upd_ne (ne_of e e4 (by intro z; cases z))]; exact e) p' l
        match p, c with
        | 0, _ => exact ⟨_, _, _, _, _, _, upd_same, fx, g2, g3, g4, g5⟩
        | 1, _ => exact ⟨_, _, _, _, _, _, upd_same, g1, fx, g3, g4, g5⟩
        | 2, _ => exact ⟨_, _, _, _, _, _, upd_same, g1, g2, fx, g4, g5⟩
        | 3, _ => exact ⟨_, _, _, _, _, _, upd_same, g1, g2, g3, fx, g5⟩
      rw [decide_eq_false (show ¬ (p : Int) < 4 by omega)]
      refine iteF ?_
      -- the six
      refine ⟨_, rfl, st, lg, cl, m + 1 + 30 * i + 1, rfl, by omega, S3, fun t ms H4 lms sms ht et S4 k4 => ?_⟩
      have kH4 := kH.trans k4
      have e4 := k4 _ _ e3 nf.1 nf.2
      have e54 := kH4 _ _ e5 n5.1 n5.2
      have eb4 := tp_kp S kH4 eb
      refine ⟨_, rfl, ix_L (K := K) (i := 4) e54 rfl ⟨b, _, rfl, .inr (SqT.of eb4), fun q1 hq1 => ?_⟩⟩
      have t1 := Same.new (o := .lst (NV ns)) hq1
      have nq1 := S4.off hq1
      have eq1 : (upd H4 q1 (.lst (NV ns))) q1 = some (.lst (NV ns)) := upd_same
      generalize upd H4 q1 (.lst (NV ns)) = H5 at t1 eq1 ⊢
      refine ⟨_, rfl, ix_L (K := K) (i := 4) (t1 _ _ e54) rfl ⟨_, rfl, cut7 (K := K) (t1 _ _ eb4) l8 fun c7 H6 s6 ec7 => ?_⟩⟩
      have t2 := t1.trans s6
      have w1 := s6 _ _ eq1
      refine ⟨_, rfl, ix_L (K := K) (i := 4) (t2 _ _ e54) rfl ⟨(by show 1 ≤ sizeLine; decide), fun u hu => ?_⟩⟩
      have t3 := t2.trans (Same.new (o := .tup [V.int 0]) hu)
      refine cat_any (K := K) ((t3 _ _ eb4)) (upd_same (o := .tup [V.int 0])) (by rw [NV_len, l8]; decide) fun c0 H7 s7 ec0 => ?_
      have t4 := t3.trans s7
      have w7 := ((Same.new (o := .tup [V.int 0]) hu).trans s7) _ _ ec7
      have w1 := ((Same.new (o := .tup [V.int 0]) hu).trans s7) _ _ w1
      clear t3 s7 hu
      refine ⟨(by show 1 ≤ sizeLine; decide), fun u2 hu2 => ?_⟩
      have v1 := Same.new (o := .tup [V.bl true]) hu2
      have eu2 : (upd H7 u2 (.tup [V.bl true])) u2 = some (.tup [V.bl true]) := upd_same
      generalize upd H7 u2 (.tup [V.bl true]) = H8 at v1 eu2 ⊢
      refine ⟨_, rfl, ix_L (K := K) (i := 4) (v1 _ _ (t4 _ _ e54)) rfl ⟨_, rfl, cut1p (K := K) (v1 _ _ (t4 _ _ eb4)) l8 fun d1 H9 s9 ed1 => ?_⟩⟩
      refine cat_any (K := K) (s9 _ _ eu2) ed1 (by rw [NV_len, List.length_drop, l8]; decide) fun cT H10 s10 ecT => ?_
      have u5 := (v1.trans s9).trans s10
      have t5 := t4.trans u5
      have w7 := u5 _ _ w7
      have w1 := u5 _ _ w1
      have w0 := u5 _ _ ec0
      clear t4 s9 v1 u5 ec7 ec0
      refine ⟨(by show 6 ≤ sizeLine; decide), fun l hl => ?_⟩
      have tl := Same.new (o := .lst [V.ref t, .ref q1, .ref c7, .ref c0, .non, .ref cT]) hl
      have el : (upd H10 l (.lst [V.ref t, .ref q1, .ref c7, .ref c0, .non, .ref cT])) l = some (.lst [V.ref t, .ref q1, .ref c7, .ref c0, .non, .ref cT]) := upd_same
      have wT := tl _ _ ecT
      have w7 := tl _ _ w7
      have w1 := tl _ _ w1
      have w0 := tl _ _ w0
      have t6 := t5.trans tl
      clear tl t5 ecT
      generalize upd H10 l (.lst [V.ref t, .ref q1, .ref c7, .ref c0, .non, .ref cT]) = H11 at el wT w7 w1 w0 t6 ⊢
      refine ⟨_, rfl, _, rfl, (by show 1 ≤ sizeLine; decide), fun u3 hu3 => ?_⟩
      have v1 := Same.new (o := .tup [V.int 0]) hu3
      have eu3 : (upd H11 u3 (.tup [V.int 0])) u3 = some (.tup [V.int 0]) := upd_same
      generalize upd H11 u3 (.tup [V.int 0]) = H12 at v1 eu3 ⊢
      refine ⟨_, rfl, ix_L (K := K) (i := 4) (v1 _ _ (t6 _ _ e54)) rfl ⟨_, rfl, cut1p (K := K) (v1 _ _ (t6 _ _ eb4)) l8 fun d2 H13 s13 ed2 => ?_⟩⟩
      refine cat_any (K := K) (s13 _ _ eu3) ed2 (by rw [NV_len, List.length_drop, l8]; decide) fun cZ H14 s14 ecZ => ?_
      have u7 := (v1.trans s13).trans s14
      clear v1 s13 s14 ed2 eu3 hu3
      refine ⟨(by show 1 ≤ sizeLine; decide), fun u4 hu4 => ?_⟩
      have v1 := Same.new (o := .tup [V.int 8]) hu4
      have eu4 : (upd H14 u4 (.tup [V.int 8])) u4 = some (.tup [V.int 8]) := upd_same
      generalize upd H14 u4 (.tup [V.int 8]) = H15 at v1 eu4 ⊢
      refine ⟨_, rfl, ix_L (K := K) (i := 4) (v1 _ _ (u7 _ _ (t6 _ _ e54))) rfl ⟨_, rfl, cut1p (K := K) (v1 _ _ (u7 _ _ (t6 _ _ eb4))) l8 fun d3 H16 s16 ed3 => ?_⟩⟩
      refine cat_any (K := K) (s16 _ _ eu4) ed3 (by rw [NV_len, List.length_drop, l8]; decide) fun cE H17 s17 ecE => ?_
      have u8 := (v1.trans s16).trans s17
      have t7 := u7.trans u8
      have wZ := u8 _ _ ecZ
      clear v1 s16 s17 ed3 eu4 hu4 u7 u8 ecZ
      refine ⟨(by show 1 ≤ sizeLine; decide), fun u5 hu5 => ⟨u5, 8, _, rfl, rfl, SqT.of upd_same, by simp, by decide, by decide, by show 1 ≤ 1000; decide, fun z => absurd z (by decide), fun _ r1 hr1 => ?_⟩⟩
      have v1 := (Same.new (o := .tup [V.int 1]) hu5).trans (Same.new (o := .tup (NV [1, 1, 1, 1, 1, 1, 1, 1])) hr1)
      have er1 : (upd (upd H17 u5 (.tup [V.int 1])) r1 (.tup (NV [1, 1, 1, 1, 1, 1, 1, 1]))) r1 = some (.tup (NV [1, 1, 1, 1, 1, 1, 1, 1])) := upd_same
      change tCons _ _ _ (upd (upd H17 u5 (.tup [V.int 1])) r1 (.tup (NV [1, 1, 1, 1, 1, 1, 1, 1]))) _
      generalize upd (upd H17 u5 (.tup [V.int 1])) r1 (.tup (NV [1, 1, 1, 1, 1, 1, 1, 1])) = H18 at v1 er1 ⊢
      refine ⟨(by show 1 ≤ sizeLine; decide), fun u6 hu6 => ⟨u6, 8, _, rfl, rfl, SqT.of upd_same, by simp, by decide, by decide, by show 1 ≤ 1000; decide, fun z => absurd z (by decide), fun _ r3 hr3 => ?_⟩⟩
      have v2 := (Same.new (o := .tup [V.int 3]) hu6).trans (Same.new (o := .tup (NV [3, 3, 3, 3, 3, 3, 3, 3])) hr3)
      have er3 : (upd (upd H18 u6 (.tup [V.int 3])) r3 (.tup (NV [3, 3, 3, 3, 3, 3, 3, 3]))) r3 = some (.tup (NV [3, 3, 3, 3, 3, 3, 3, 3])) := upd_same
      have er1 := v2 _ _ er1
      change tNil _ (upd (upd H18 u6 (.tup [V.int 3])) r3 (.tup (NV [3, 3, 3, 3, 3, 3, 3, 3]))) _
      generalize upd (upd H18 u6 (.tup [V.int 3])) r3 (.tup (NV [3, 3, 3, 3, 3, 3, 3, 3])) = H19 at v2 er1 er3 ⊢
      have t8 := (t6.trans t7).trans (v1.trans v2)
      have x7 := (t7.trans (v1.trans v2))
      have wZ := (v1.trans v2) _ _ wZ
      have wE := (v1.trans v2) _ _ ecE
      have el := x7 _ _ el
      have wT := x7 _ _ wT
      have w7 := x7 _ _ w7
      have q19 := x7 _ _ w1
      have w0 := x7 _ _ w0
      have t19 := t8 _ _ et
      have e19 := t8 _ _ e4
      have s19 := t8
      clear x7 v1 v2 ecE t6 t7 t8 t1 eq1
      refine ⟨(by show 4 ≤ sizeLine; decide), fun l2 hl2 => ?_⟩
      have tl := Same.new (o := .lst [V.ref cZ, .ref cE, .ref r1, .ref r3]) hl2
      refine ⟨l, l2, _, _, rfl, rfl, tl _ _ el, upd_same, (by show 6 + 4 ≤ sizeLine; decide), fun l3 hl3 => ?_⟩
      have tl3 := tl.trans (Same.new (o := .lst ([V.ref t, .ref q1, .ref c7, .ref c0, .non, .ref cT] ++ [V.ref cZ, .ref cE, .ref r1, .ref r3])) hl3)
      have S19 := (S4.same s19)
      have S20 := S19.same tl
      refine ⟨st, lg, cl, l3, _, m + 1 + 30 * i + 1 + 18, rfl, upd_same, (S20.off hl3).2, (by show 0 < 10; decide), (by show 10 ≤ 1000; decide), by omega, S19.same tl3, fun y H20 hy S21 k21 => ?_⟩
      have kk := (Kp.same (st := st) (lg := lg) tl3).trans k21
      have e20 := kk _ _ e19 nf.1 nf.2
      have kH20 := kH4.trans ((Kp.same s19).trans kk)
      have tp := fun {b : Addr} {xs : List V} (e : H19 b = some (.tup xs)) => tp_kp S19 kk e
      have y5 : ∃ o', Rs st lg H20 y o' := by
        simp only [List.cons_append, List.nil_append, List.mem_cons, List.not_mem_nil, or_false] at hy
        rcases hy with h | h | h | h | h | h | h | h | h | h <;> subst h
        · exact ⟨_, .tup (tp t19) fl_nv (by rw [NV_len, lms]; decide)⟩
        · exact ⟨_, .lst nq1 (kk _ _ q19 nq1.1 nq1.2)⟩
        · exact ⟨_, .tup (tp w7) fl_nv (by rw [NV_len, List.length_take, l8]; decide)⟩
        · refine ⟨_, .tup (tp w0) (fun x hx => ?_) (by rw [List.length_append, NV_len, l8]; decide)⟩
          rcases List.mem_append.mp hx with h | h
          · exact fl_nv x h
          · rw [List.mem_singleton.mp h]; exact .int _
        · exact ⟨_, .non⟩
        · refine ⟨_, .tup (tp wT) (fun x hx => ?_) (by rw [List.length_append, NV_len, List.length_drop, l8]; decide)⟩
          rcases List.mem_append.mp hx with h | h
          · rw [List.mem_singleton.mp h]; exact .bl _
          · exact fl_nv x h
        · refine ⟨_, .tup (tp wZ) (fun x hx => ?_) (by rw [List.length_append, NV_len, List.length_drop, l8]; decide)⟩
          rcases List.mem_append.mp hx with h | h
          · rw [List.mem_singleton.mp h]; exact .int _
          · exact fl_nv x h
        · refine ⟨_, .tup (tp wE) (fun x hx => ?_) (by rw [List.length_append, NV_len, List.length_drop, l8]; decide)⟩
          rcases List.mem_append.mp hx with h | h
          · rw [List.mem_singleton.mp h]; exact .int _
          · exact fl_nv x h
        · exact ⟨_, .tup (tp er1) fl_nv (by rw [NV_len]; decide)⟩
        · exact ⟨_, .tup (tp er3) fl_nv (by rw [NV_len]; decide)⟩
      obtain ⟨o', y5⟩ := y5
      refine ⟨_, rfl, f, _, 4, 4, rfl, rfl, e20, ixN_nat (i := 4) (show 4 < 5 by decide), ⟨_, _, _, rfl⟩, ⟨⟨x1, x2, x3, x4, y, o', upd_same, g1, g2, g3, g4, ?_⟩, (stAt_put S21 nf.1 nf.2 ncf).mono (by omega), Kp.put3 kH20 hf⟩⟩
      cases y5 with
      | non => exact .non
      | @lst a ys n e =>
        by_cases z : a = f
        · subst z; exact .lst n upd_same
        · exact .lst n (by rw [upd_ne z]; exact e)
      | tup e p' l => exact .tup (by rw [upd_ne (ne_of e e20 (by intro z; cases z))]; exact e) p' l
    rintro σ H2 ⟨⟨v3, v4, v5, rfl⟩, ⟨x1, x2, x3, x4, x5, o, e2, g1, g2, g3, g4, g5⟩, S2, k2⟩
    exact ⟨_, rfl, k f x1 x2 x3 x4 x5 o H2 hf e2 g1 g2 g3 g4 g5 (S2.mono (by omega)) k2⟩
end
end K08
namespace K08
open PySem PySem.Spec PyProof.Rows L2 PySem.W LamX KA KW KU KL KT
/-! ### no word begins another one -/
theorem bits_take : ∀ (a b n : Nat), (bitsL (a + b) n).take a = bitsL a (n / 2 ^ b)
  | 0, b, n => by rw [List.take_zero]; rfl
  | a + 1, b, n => by
    rw [show a + 1 + b = (a + b) + 1 by omega, bitsL_front, List.take_succ_cons, bits_take a b n, bitsL_front, Nat.div_div_eq_div_mul, ← Nat.pow_add, Nat.add_comm b a]
theorem bits_inj : ∀ (l x y : Nat), x < 2 ^ l → y < 2 ^ l → bitsL l x = bitsL l y → x = y
  | 0, x, y, h1, h2, _ => by
    rw [Nat.pow_zero] at h1 h2
    omega
  | l + 1, x, y, h1, h2, h => by
    have h : bitsL l (x / 2) ++ [48 + x % 2] = bitsL l (y / 2) ++ [48 + y % 2] := h
    obtain ⟨e1, e2⟩ := List.append_inj' h rfl
    rw [Nat.pow_succ] at h1 h2
    have := bits_inj l (x / 2) (y / 2) (by omega) (by omega) e1
    have e2 : 48 + x % 2 = 48 + y % 2 := by simpa using e2
    omega
theorem words_run : ∀ (ps : List (Nat × Nat)), Up ps → (∀ q ∈ ps, 1 ≤ q.1 ∧ q.1 ≤ 7) → sumS ps ≤ 128 → ∀ i l p, ps[i]? = some (l, p) → ∃ c, c < 2 ^ l ∧ c * 2 ^ (7 - l) = sumS (ps.take i) ∧ (run ps).2.2[i]? = some (p, bitsL l c) := by
  intro ps
  refine snoc_ind (P := fun ps => Up ps → (∀ q ∈ ps, 1 ≤ q.1 ∧ q.1 ≤ 7) → sumS ps ≤ 128 → ∀ i l p, ps[i]? = some (l, p) → ∃ c, c < 2 ^ l ∧ c * 2 ^ (7 - l) = sumS (ps.take i) ∧ (run ps).2.2[i]? = some (p, bitsL l c)) ?_ ?_ ps
  · intro _ _ _ i l p h
    simp at h
  · intro ps q ih up hl hs i l p h
    have up' := List.pairwise_append.mp up
    have hl' : ∀ z ∈ ps, 1 ≤ z.1 ∧ z.1 ≤ 7 := fun z hz => hl z (List.mem_append_left _ hz)
    have ln : (run ps).2.2.length = ps.length := by
      have := congrArg List.length (run_at ps up'.1 hl').2.2.2
      rwa [List.length_map, List.length_map] at this
    rw [run_snoc]
    by_cases c : i < ps.length
    · rw [List.getElem?_append_left c] at h
      obtain ⟨x, h1, h2, h3⟩ := ih up'.1 hl' (by rw [sumS_snoc] at hs; omega) i l p h
      refine ⟨x, h1, ?_, ?_⟩
      · rw [h2, List.take_append_of_le_length (by omega)]
      · show ((run ps).2.2 ++ [(q.2, _)])[i]? = _
        rw [List.getElem?_append_left (by omega)]
        exact h3
    · have hi : i = ps.length := by
        have := (List.getElem?_eq_some_iff.mp h).1
        rw [List.length_append, List.length_singleton] at this
        omega
      subst hi
      rw [List.getElem?_append_right (Nat.le_refl _), Nat.sub_self] at h
      have h : q = (l, p) := by simpa using h
      subst h
      obtain ⟨r1, r2, r3, r4⟩ := run_next up hl hs
      refine ⟨_, r2, ?_, ?_⟩
      · rw [List.take_left']
        · exact r4
        · rfl
      · show ((run ps).2.2 ++ [(p, _)])[ps.length]? = _
        rw [List.getElem?_append_right (by omega), ln, Nat.sub_self]
        rfl
theorem find_nodup : ∀ (es : List (Nat × List Nat)) (i p : Nat) (w : List Nat), (es.map (·.1)).Nodup → es[i]? = some (p, w) → es.find? (fun e => decide (e.1 = p)) = some (p, w)
  | [], i, p, w, _, h => by simp at h
  | e :: es, 0, p, w, _, h => by
    have h : e = (p, w) := by simpa using h
    subst h
    rw [List.find?_cons]
    simp
  | e :: es, i + 1, p, w, nd, h => by
    have h : es[i]? = some (p, w) := by simpa using h
    rw [List.map_cons, List.nodup_cons] at nd
    have ne : ¬ e.1 = p := fun z => nd.1 (by
      rw [z]
      exact List.mem_map.mpr ⟨_, List.mem_of_getElem? h, rfl⟩)
    rw [List.find?_cons, decide_eq_false ne]
    exact find_nodup es i p w nd.2 h
theorem sum_take {ps : List (Nat × Nat)} {i j : Nat} {q : Nat × Nat} (h : ps[i]? = some q) (lt : i < j) : sumS (ps.take i) + share q ≤ sumS (ps.take j) := by
  have e : ps.take (i + 1) = ps.take i ++ [q] := by rw [List.take_add_one, h]; rfl
  rw [← sumS_snoc, ← e]
  have : (ps.take j).take (i + 1) = ps.take (i + 1) := by rw [List.take_take, Nat.min_eq_left (by omega)]
  rw [← this]
  conv => rhs; rw [← List.take_append_drop (i + 1) (ps.take j)]
  unfold sumS
  rw [List.map_append, List.sum_append]
  omega
theorem word_is {ns : List Nat} {ps : List (Nat × Nat)} (o : Orp ns ps) (h8 : ∀ n ∈ ns, n < 8) (hs : kraft ns ≤ 128) {a : Nat} (ha : a ∈ ats ns) :
    ∃ i l c, ps[i]? = some (l, a) ∧ 1 ≤ l ∧ l ≤ 7 ∧ c < 2 ^ l ∧ c * 2 ^ (7 - l) = sumS (ps.take i) ∧ wordAt ps a = bitsL l c := by
  have m : a ∈ ps.map (·.2) := by
    have := o.p.map fun q : Nat × Nat => q.2
    rw [prs_snd] at this
    exact this.symm.mem_iff.mp ha
  obtain ⟨q, hq, rfl⟩ := List.mem_map.mp m
  obtain ⟨i, hi⟩ := List.mem_iff_getElem?.mp hq
  obtain ⟨l, p⟩ := q
  have mem := o.mem h8
  have bd : ∀ q ∈ ps, 1 ≤ q.1 ∧ q.1 ≤ 7 := fun q hq => ⟨(mem q hq).1, (mem q hq).2.1⟩
  obtain ⟨c, h1, h2, h3⟩ := words_run ps o.up bd (by rw [sumS_perm o.p, sumS_prs]; exact hs) i l p hi
  refine ⟨i, l, c, hi, (bd _ hq).1, (bd _ hq).2, h1, h2, ?_⟩
  unfold wordAt
  rw [find_nodup _ i p _ (by rw [(run_at ps o.up bd).2.2.2]; exact o.nodup) h3]
  rfl
theorem words_apart {ns : List Nat} {ps : List (Nat × Nat)} (o : Orp ns ps) (h8 : ∀ n ∈ ns, n < 8) (hs : kraft ns ≤ 128) {a b : Nat} (ha : a ∈ ats ns) (hb : b ∈ ats ns) (ne : a ≠ b) : (wordAt ps b).take (wordAt ps a).length ≠ wordAt ps a := by
  obtain ⟨i, l1, c1, hi, l11, l17, c1l, c1s, e1⟩ := word_is o h8 hs ha
  obtain ⟨j, l2, c2, hj, l21, l27, c2l, c2s, e2⟩ := word_is o h8 hs hb
  have nij : i ≠ j := fun z => by
    subst z
    rw [hi] at hj
    exact ne (Prod.mk.inj (Option.some.inj hj)).2
  rw [e1, e2, bitsL_len]
  intro e
  have le : l1 ≤ l2 := by
    have := congrArg List.length e
    rw [List.length_take, bitsL_len, bitsL_len] at this
    omega
  obtain ⟨d, rfl⟩ := Nat.exists_eq_add_of_le le
  rw [bits_take] at e
  have p1 : 2 ^ (l1 + d) = 2 ^ l1 * 2 ^ d := Nat.pow_add _ _ _
  have pd : 0 < 2 ^ d := Nat.pow_pos (by decide)
  have e := bits_inj l1 _ _ (by rw [Nat.div_lt_iff_lt_mul pd, ← p1]; exact c2l) c1l e
  have lo : c1 * 2 ^ d ≤ c2 := by rw [← e]; exact Nat.div_mul_le_self _ _
  have hi2 : c2 < (c1 + 1) * 2 ^ d := by
    rw [← e]
    have := Nat.lt_div_mul_add pd (a := c2)
    rw [Nat.add_mul, Nat.one_mul]
    omega
  have p7 : 2 ^ (7 - l1) = 2 ^ d * 2 ^ (7 - (l1 + d)) := by rw [← Nat.pow_add]; congr 1; omega
  have pp : 0 < 2 ^ (7 - (l1 + d)) := Nat.pow_pos (by decide)
  have s1 : sumS (ps.take i) ≤ sumS (ps.take j) := by
    rw [← c1s, ← c2s, p7, ← Nat.mul_assoc]
    exact Nat.mul_le_mul_right _ lo
  have s2 : sumS (ps.take j) < sumS (ps.take i) + 2 ^ (7 - l1) := by
    rw [← c1s, ← c2s, p7, ← Nat.mul_assoc, ← Nat.add_mul]
    have : c1 * 2 ^ d + 2 ^ d = (c1 + 1) * 2 ^ d := by rw [Nat.add_mul, Nat.one_mul]
    rw [this]
    exact Nat.mul_lt_mul_of_pos_right hi2 pp
  rcases Nat.lt_or_gt_of_ne nij with q | q
  · have := sum_take hi q
    have : sumS (ps.take i) + 2 ^ (7 - l1) ≤ sumS (ps.take j) := this
    omega
  · have := sum_take hj q
    have : sumS (ps.take j) + 2 ^ (7 - (l1 + d)) ≤ sumS (ps.take i) := this
    omega
end K08
namespace K08
open PySem PySem.Spec PyProof.Rows L2 PySem.W LamX KA KW KU KL KT
open Evl (pss_cut tCut)
/-! ### words are right -/
def ordL (ns : List Nat) : List Str := (ats ns).map fun a => modeL.getD a ""
theorem lw_val {es : List (Nat × List Nat)} (h8 : ∀ e ∈ es, e.1 < 8) {a : Nat} (a8 : a < 8) : valV (lwE es) (.inr (modeL.getD a "")) = (es.find? fun e => decide (e.1 = a)).map fun e => V.str (txt e.2) := by
  induction es with
  | nil => rfl
  | cons e es ih =>
    have ih := ih fun x hx => h8 x (List.mem_cons_of_mem _ hx)
    unfold valV lwE at ih ⊢
    rw [List.map_cons, List.find?_cons, List.find?_cons]
    by_cases c : e.1 = a
    · rw [c]
      simp
    · have c' : ¬ ((Sum.inr (modeL.getD e.1 "") : L2.Key) = Sum.inr (modeL.getD a "")) := fun z => c (mode_inj _ (h8 e List.mem_cons_self) _ a8 (Sum.inr.inj z))
      rw [decide_eq_false c, decide_eq_false c']
      exact ih
theorem run_eight {ns : List Nat} {ps : List (Nat × Nat)} (o : Orp ns ps) (l8 : ns.length = 8) (h8 : ∀ n ∈ ns, n < 8) : ∀ e ∈ (run ps).2.2, e.1 < 8 := fun e he => by
  have mem := o.mem h8
  have r := (run_at ps o.up fun z hz => ⟨(mem z hz).1, (mem z hz).2.1⟩).2.2.2
  have : e.1 ∈ ps.map (·.2) := by rw [← r]; exact List.mem_map.mpr ⟨e, he, rfl⟩
  obtain ⟨q, hq, e'⟩ := List.mem_map.mp this
  have := (mem q hq).2.2.1
  omega
theorem lw_at {ns : List Nat} {ps : List (Nat × Nat)} (o : Orp ns ps) (l8 : ns.length = 8) (h8 : ∀ n ∈ ns, n < 8) {a : Nat} (ha : a ∈ ats ns) : valV (lwD ps) (.inr (modeL.getD a "")) = some (.str (txt (wordAt ps a))) := by
  have a8 : a < 8 := by
    have := List.mem_range.mp (List.mem_filter.mp ha).1
    omega
  unfold lwD
  rw [lw_val (run_eight o l8 h8) a8]
  have mem := o.mem h8
  have r := (run_at ps o.up fun z hz => ⟨(mem z hz).1, (mem z hz).2.1⟩).2.2.2
  have m : a ∈ (run ps).2.2.map (·.1) := by
    rw [r]
    have := o.p.map fun q : Nat × Nat => q.2
    rw [prs_snd] at this
    exact this.symm.mem_iff.mp ha
  obtain ⟨e, he, rfl⟩ := List.mem_map.mp m
  unfold wordAt
  cases c : (run ps).2.2.find? fun x => decide (x.1 = e.1) with
  | none => exact absurd (List.find?_eq_none.mp c e he) (by simp)
  | some x => rfl
theorem lw_not {ns : List Nat} {ps : List (Nat × Nat)} (o : Orp ns ps) (l8 : ns.length = 8) (h8 : ∀ n ∈ ns, n < 8) {a : Nat} (a8 : a < 8) (ha : ¬ a ∈ ats ns) : valV (lwD ps) (.inr (modeL.getD a "")) = none := by
  unfold lwD
  rw [lw_val (run_eight o l8 h8) a8]
  have mem := o.mem h8
  have r := (run_at ps o.up fun z hz => ⟨(mem z hz).1, (mem z hz).2.1⟩).2.2.2
  cases c : (run ps).2.2.find? fun x => decide (x.1 = a) with
  | none => rfl
  | some x =>
    have m := List.mem_of_find?_eq_some c
    have e : x.1 = a := by simpa using List.find?_some c
    refine absurd ?_ ha
    have : a ∈ ps.map (·.2) := by rw [← r, ← e]; exact List.mem_map.mpr ⟨x, m, rfl⟩
    have p := o.p.map fun q : Nat × Nat => q.2
    rw [prs_snd] at p
    exact p.mem_iff.mp this
theorem wd_at {ns : List Nat} {ps : List (Nat × Nat)} (l8 : ns.length = 8) {a : Nat} (ha : a ∈ ats ns) : valV (wordsD ns ps) (.inr (modeL.getD a "")) = some (.str (txt (wordAt ps a))) := by
  have key : ∀ l : List Nat, (∀ x ∈ l, x < 8) → a ∈ l → a < 8 → valV (l.map fun a => ((.inr (modeL.getD a ""), .str (txt (wordAt ps a))) : L2.Key × V)) (.inr (modeL.getD a "")) = some (.str (txt (wordAt ps a))) := by
    intro l
    induction l with
    | nil => exact fun _ z => nomatch z
    | cons x l ih =>
      intro hl m a8
      by_cases c : x = a
      · subst c
        unfold valV
        rw [List.map_cons, List.find?_cons]
        simp
      · have c' : ¬ ((Sum.inr (modeL.getD x "") : L2.Key) = Sum.inr (modeL.getD a "")) := fun z => c (mode_inj _ (hl x List.mem_cons_self) _ a8 (Sum.inr.inj z))
        have ih := ih (fun y hy => hl y (List.mem_cons_of_mem _ hy)) (by
          rcases List.mem_cons.mp m with z | z
          · exact absurd z.symm c
          · exact z) a8
        unfold valV at ih ⊢
        rw [List.map_cons, List.find?_cons, decide_eq_false c']
        exact ih
  have lt : ∀ x ∈ ats ns, x < 8 := fun x hx => by
    have := List.mem_range.mp (List.mem_filter.mp hx).1
    omega
  exact key _ lt ha (lt a ha)
theorem ats_len {ns : List Nat} {ps : List (Nat × Nat)} (o : Orp ns ps) : (ats ns).length = ps.length := by
  rw [← prs_snd, List.length_map, o.p.length_eq]
theorem lw_len {ns : List Nat} {ps : List (Nat × Nat)} (o : Orp ns ps) (h8 : ∀ n ∈ ns, n < 8) : (lwD ps).length = ps.length := by
  have mem := o.mem h8
  have r := (run_at ps o.up fun z hz => ⟨(mem z hz).1, (mem z hz).2.1⟩).2.2.2
  have := congrArg List.length r
  rw [List.length_map, List.length_map] at this
  unfold lwD lwE
  rw [List.length_map]
  exact this
theorem fd_self : ∀ xs : List V, (∀ x ∈ xs, Fl x) → PyData.eqvAll (xs.map fd) (xs.map fd) = true
  | [], _ => rfl
  | x :: xs, h => by
    have ih := fd_self xs fun y hy => h y (List.mem_cons_of_mem _ hy)
    have e : PyData.eqv (fd x) (fd x) = true := by
      cases h x List.mem_cons_self with
      | int i => simp [fd, PyData.eqv]
      | bl i => simp [fd, PyData.eqv]
      | str i _ => simp [fd, PyData.eqv]
      | non => simp [fd, PyData.eqv]
    rw [List.map_cons]
    simp only [PyData.eqvAll, e, ih, Bool.and_self]
theorem mode_ok : ∀ a, a < 8 → PyData.strOk (modeL.getD a "") = true := by decide +kernel
theorem ats_lt8 {ns : List Nat} (l8 : ns.length = 8) {a : Nat} (h : a ∈ ats ns) : a < 8 := by
  have := List.mem_range.mp (List.mem_filter.mp h).1
  omega
def ordV (ns : List Nat) : List V := (ats ns).map fun a => V.str (modeL.getD a "")
theorem ord_fl {ns : List Nat} (l8 : ns.length = 8) : ∀ x ∈ ordV ns, Fl x := fun x hx => by
  obtain ⟨a, ha, rfl⟩ := List.mem_map.mp hx
  exact .str _ (mode_ok a (ats_lt8 l8 ha))
theorem cut_to (z : Str) (b : Nat) : cutS z none (some (b : Int)) = ⟨(z.cps.toList.take b).toArray⟩ := by
  have sz : z.length = z.cps.toList.length := by simp [Str.length]
  unfold cutS
  rw [HT.sIx_none, HT.sIx_nat, sz]
  congr 1
  congr 1
  generalize z.cps.toList = l
  by_cases h2 : b ≤ l.length
  · rw [Nat.min_eq_left h2]
    simp
  · rw [Nat.min_eq_right (by omega), List.take_of_length_le (show l.length ≤ b by omega)]
    simp
def spWRight (K : PySem.W.Frag) : Sp := fun vs H Q _ => ∃ (a : Addr) (ns : List Nat), vs = [.ref a] ∧ H a = some (.tup (NV ns)) ∧ bookB 2 (some (NV ns)) = true ∧ ∀ H', Same H H' → Q (.bl true) H'
section
variable {P : Program} {w : World} {K : PySem.W.Frag} {mg : Str → Option Value} {base : Heap} (T : Top K mg) (MD : ModesT K mg)
include MD in
theorem ok_wright : FnOk P w K mg base (L2.CX P w) 5 T._law_words_right.a T._law_words_right.d ["_law_lengths_here"] (spWRight K) := by
  refine T._law_words_right.f.okX sc__law_words_right (fun vs H Q E h => ?_) (fun cdv A outer s H vs Q E hr h => ?_)
  · obtain ⟨a, ns, rfl, _⟩ := h
    rfl
  · obtain ⟨a, ns, rfl, ea, bk, k⟩ := h
    obtain ⟨ns', en, l8, s8, lf, kr⟩ := book_nv bk
    have en := nv_inj (Option.some.inj en)
    subst en
    have np : prs ns ≠ [] := by
      have lf : (decide (ns.getD 0 0 = 0) || _) = false := lf
      rw [Bool.or_eq_false_iff] at lf
      have z := of_decide_eq_false lf.1
      have : (0 : Nat) ∈ ats ns := List.mem_filter.mpr ⟨List.mem_range.mpr (by omega), decide_eq_true (by omega)⟩
      rw [← prs_snd] at this
      intro e
      rw [e] at this
      cases this
    refine ⟨_, (pss_cons (ps_asg (pe_tup (pa_cons (pe_call (ok_words_of T MD) (hr.mono (by decide)) (by rfl) T.words_of.m T.words_of.f.kp (bd_words_of T) .nil passE (pa_cons (pv 0) pa_nil)) (pa_cons (pe_call (ok_lwords T) (hr.mono (by decide)) (by rfl) T._law_words.m T._law_words.f.kp (bd__law_words T) .nil passE (pa_cons (pv 0) pa_nil)) pa_nil))) (pg_tup rfl (pgs_cons (pg_name (i := 1) sc__law_words_right.nd rfl (by first | exact .inl rfl | exact .inr rfl)) (pgs_cons (pg_name (i := 2) sc__law_words_right.nd rfl (by first | exact .inl rfl | exact .inr rfl)) pgs_nil))))
      (pss_cons (ps_setLc (i := 3) (own := [("_law_each", 5)]) (g := (gName 5)) rfl sc__law_words_right.nd rfl rfl (sw_true rfl rfl rfl (by decide +kernel)) (pi_list (pe_call0 (ok_fash T) (hr.mono (by decide)) (by rfl) T._law_fashions.m T._law_fashions.f.kp (bd__law_fashions T) .nil passE)) (blkOk_by (own := [("_law_each", 5)]) (N := ["_law_lengths_here", "_law_found", "_law_due_here", "_law_order", "_law_one", "_law_each", "_law_other"]) (sc := defScope s__law_words_right) (by decide +kernel)) (fun _ _ _ _ _ => pg_name (i := 5) sc__law_words_right.nd rfl (by first | exact .inl rfl | exact .inr rfl)) (fun _ _ _ _ _ => pts_one (pt_cmp (pc_din (hu_of hr) (pv 5) (pv 2)))) (fun _ _ _ _ _ => (pv 5)))
      (pss_cons (ps_if (PW.pt (pw_or (pt_cmpR (op_ne_dictA hr.units0) (pv 1) (pv 2) (nomark _)) (pw_or (pt_cmpR (op_neD hr.units) (pe_callTy (call_list_dK rfl) (by rfl) T.b_list (by decide +kernel) (pa_cons (pv 1) pa_nil)) (pv 3) (nomark _)) (pw_or1 (pt_cmpR (op_ne_dictA hr.units0) (pe_kw (ok_words_of T MD) (hr.mono (by decide)) (by rfl) T.words_of.m T.words_of.f.kp (KA.Fun.kw1 T.words_of.f fun _ _ _ _ _ _ _ => rfl) passE (pk_cons (pv 0) pk_nil)) (pv 2) (nomark _)))))) (pss_one (ps_ret pe_bl)) pss_nil)
      (pss_cons (ps_for (passes_of rfl) rfl (pi_list (pv 3)) (pg_name (i := 4) sc__law_words_right.nd rfl (by first | exact .inl rfl | exact .inr rfl))
        (pss_one (ps_if (pt_cmpR (op_neD hr.units) (pe_lc (own := [("_law_other", 6)]) (g := (gName 6)) rfl sc__law_words_right.nd (pi_list (pv 3)) (blkOk_by (own := [("_law_other", 6)]) (N := ["_law_lengths_here", "_law_found", "_law_due_here", "_law_order", "_law_one", "_law_each", "_law_other"]) (sc := defScope s__law_words_right) (by decide +kernel)) (fun _ _ _ _ _ => pg_name (i := 6) sc__law_words_right.nd rfl (by first | exact .inl rfl | exact .inr rfl)) (fun _ _ _ _ _ => pts_one (PW.pt (pw_and (pt_cmpR op_ne (pv 6) (pv 4) (nomark _)) (pw_and1 (pt_cmpR op_eq (pe_slice (show SlR _ rSlS from sl_str) (pe_dget (hu_of hr) (pv 1) (pv 6) (fun _ _ => rfl)) po_none (po_some (pe_callB (show CallR _ _ (fun xs H Q => ∃ z, xs = [.str z] ∧ z.length ≤ sizeLine ∧ Q (.int z.length) H) from call_len_str) (by rfl) T.b_len PySem.boot_len (pa_cons (pe_dget (hu_of hr) (pv 1) (pv 4) (fun _ _ => rfl)) pa_nil)))) (pe_dget (hu_of hr) (pv 1) (pv 4) (fun _ _ => rfl)) (nomark _)))))) (fun _ _ _ _ _ => (pv 6))) (pe_lst pa_nil) (nomark _)) (pss_one (ps_ret pe_bl)) pss_nil)))
      (pss_one (ps_ret pe_bl)))))), ?_⟩
    refine ⟨_, rfl, _, _, rfl, Rv.nv ea (by omega), (fun q => by rw [bk] at q; cases q), fun _ ns1 en ps d H1 o s1 hd ed => ?_⟩
    have en := nv_inj (Option.some.inj en)
    subst en
    refine ⟨_, rfl, a, ns, rfl, s1 _ _ ea, l8, s8, np, fun ps2 d2 H2 o2 s2 hd2 ed2 => ?_⟩
    have ep := o2.uniq o
    subst ep
    refine ⟨(by show 2 ≤ sizeLine; decide), fun T' hT => ?_⟩
    have tT := Same.new (o := .tup [V.ref d, .ref d2]) hT
    refine ⟨T', _, rfl, SqT.of upd_same, rfl, _, _, rfl, _, _, rfl, rfl, ?_⟩
    have f1 := tT _ _ (s2 _ _ ed)
    have f2 := tT _ _ ed2
    have sH := s1.trans (s2.trans tT)
    generalize upd H2 T' (.tup [V.ref d, .ref d2]) = H3 at f1 f2 sH ⊢
    clear tT s1 s2 ed ed2 hd hd2 hT
    refine ⟨rfl, fun q H4 s4 hq eq => ⟨q, rfl, ⟨_, SqL.of eq⟩, fun D hD => ?_⟩⟩
    refine lcP (walk_list (xs := modeL.map V.str)) (List.range ns.length) (fun a => decide (0 < ns.getD a 0)) (fun a => V.str (modeL.getD a "")) (by rw [List.length_range, l8]; rfl) hD (fun H' s => SqL.of (s _ _ eq)) (by rw [List.length_range]; omega) yAt_same ?_ ?_
    · rintro i x m H5 H6 N R hm s5 ⟨rfl, hx⟩ hy hn
      obtain ⟨rfl, hi⟩ := range_at hm
      rw [mode_at (by omega)] at hx
      cases hx
      have f6 := s5 _ _ (s4 _ _ f2)
      refine ⟨rfl, ?_⟩
      refine ⟨_, rfl, _, rfl, d2, _, rfl, DGet.k (k := .inr (modeL.getD m "")) f6, _, rfl, ?_⟩
      by_cases c : 0 < ns.getD m 0
      · rw [lw_at o l8 s8 (List.mem_filter.mpr ⟨List.mem_range.mpr hi, decide_eq_true c⟩)]
        exact iteT ⟨_, rfl, hy (decide_eq_true c) _ fun _ _ e => e⟩
      · rw [lw_not o l8 s8 (by omega) fun z => c (of_decide_eq_true (List.mem_filter.mp z).2)]
        exact iteF (hn (decide_eq_false c) _ fun _ _ e => e)
    intro H5 s5 e5
    have e5 : H5 D = some (.lst (ordV ns)) := e5
    have f15 := s5 _ _ (s4 _ _ f1)
    have f25 := s5 _ _ (s4 _ _ f2)
    have sH5 := sH.trans (s4.trans s5)
    have same : (wordsD ns ps2).length = (lwD ps2).length ∧ ∀ p ∈ wordsD ns ps2, valV (lwD ps2) p.1 = some p.2 ∧ flatB p.2 = true := by
      refine ⟨?_, fun p hp => ?_⟩
      · unfold wordsD
        rw [List.length_map, ats_len o, lw_len o s8]
      · obtain ⟨a, ha, rfl⟩ := List.mem_map.mp hp
        exact ⟨lw_at o l8 s8 ha, rfl⟩
    refine ⟨_, rfl, _, rfl, d, d2, _, _, rfl, rfl, f15, f25, same.1, same.2, _, rfl, ?_⟩
    refine iteF ⟨_, rfl, d, _, rfl, f15, fun l1 hl1 => ?_⟩
    have ek : (wordsD ns ps2).map (fun kv => kV kv.1) = ordV ns := by
      unfold wordsD ordV
      rw [List.map_map]
      rfl
    rw [ek]
    have t1 := Same.new (o := .lst (ordV ns)) hl1
    have g1 : (upd H5 l1 (.lst (ordV ns))) l1 = some (.lst (ordV ns)) := upd_same
    have g2 := t1 _ _ e5
    have f15 := t1 _ _ f15
    have f25 := t1 _ _ f25
    have sH6 := sH5.trans t1
    generalize upd H5 l1 (.lst (ordV ns)) = H6 at g1 g2 f15 f25 sH6 ⊢
    refine ⟨_, rfl, _, _, .lst (SqL.of g1) (dp_fl (ord_fl l8)), .lst (SqL.of g2) (dp_fl (ord_fl l8)), shaped_fl _ (ord_fl l8), shaped_fl _ (ord_fl l8), _, rfl, ?_⟩
    rw [show PyData.eqv (.list ((ordV ns).map fd)) (.list ((ordV ns).map fd)) = true from by simp only [PyData.eqv]; exact fd_self _ (ord_fl l8)]
    refine iteF ?_
    refine ⟨_, rfl, rfl, _, _, rfl, Rv.nv (sH6 _ _ ea) (by omega), (fun q => by rw [bk] at q; cases q), fun _ ns1 en ps3 d3 H7 o3 s7 hd3 ed3 => ?_⟩
    have en := nv_inj (Option.some.inj en)
    subst en
    have ep := o3.uniq o
    subst ep
    have f17 := s7 _ _ f15
    have f27 := s7 _ _ f25
    have g7 := s7 _ _ g2
    have sH7 := sH6.trans s7
    refine ⟨_, rfl, d3, d2, _, _, rfl, rfl, ed3, f27, same.1, same.2, _, rfl, ?_⟩
    refine iteF ?_
    refine ⟨_, rfl, D, rfl, ⟨_, SqL.of g7⟩, for_it (walk_list (xs := ordV ns)) (fun n σ H' => (∃ v4, σ = [some (.ref a), some (.ref d), some (.ref d2), some (.ref D), v4, none, none]) ∧ Same H7 H') ⟨⟨_, rfl⟩, fun _ _ e => e⟩ (fun _ σ H' _ z => SqL.of (z.2 _ _ g7)) ?_ ?_⟩
    · rintro i x σ H8 H9 hi ⟨⟨v4, rfl⟩, s8'⟩ ⟨rfl, hx⟩
      obtain ⟨a1, ha1, rfl⟩ : ∃ a1, (ats ns)[i]? = some a1 ∧ x = .str (modeL.getD a1 "") := by
        unfold ordV at hx
        rw [List.getElem?_map] at hx
        cases e : (ats ns)[i]? with
        | none => rw [e] at hx; cases hx
        | some y => rw [e] at hx; exact ⟨y, rfl, (Option.some.inj hx).symm⟩
      have m1 := List.mem_of_getElem? ha1
      refine ⟨_, rfl, D, rfl, ⟨_, SqL.of (s8' _ _ g7)⟩, fun D2 hD2 => ?_⟩
      refine lcP (walk_list (xs := ordV ns)) (ats ns) (fun _ => false) (fun a => V.str (modeL.getD a "")) (List.length_map _) hD2 (fun H' s => SqL.of (s _ _ (s8' _ _ g7))) (Nat.le_trans (List.length_filter_le _ _) (by rw [List.length_range]; omega)) yAt_same ?_ ?_
      · rintro j y m H10 H11 N R hm s10 ⟨rfl, hy'⟩ hy hn
        have hy' : (ordV ns)[j]? = some y := hy'
        unfold ordV at hy'
        rw [List.getElem?_map, hm] at hy'
        cases hy'
        have m2 := List.mem_of_getElem? hm
        have f11 := s10 _ _ (s8' _ _ f17)
        have q1 : DGet H11 d (kV (.inr (modeL.getD m ""))) (some (.str (txt (wordAt ps3 m)))) := wd_at l8 m2 ▸ DGet.k f11
        have q2 : DGet H11 d (kV (.inr (modeL.getD a1 ""))) (some (.str (txt (wordAt ps3 a1)))) := wd_at l8 m1 ▸ DGet.k f11
        have w7 : ∀ x, x ∈ ats ns → (txt (wordAt ps3 x)).length ≤ sizeLine := fun x hx => by
          obtain ⟨_, l, c, _, _, l7, _, _, e⟩ := word_is o s8 kr hx
          rw [e, txt_len, bitsL_len]
          exact Nat.le_trans l7 (by decide)
        refine ⟨rfl, _, rfl, _, rfl, rfl, _, rfl, ?_⟩
        by_cases c : m = a1
        · subst c
          rw [decide_eq_true rfl]
          exact iteF (hn rfl _ fun _ _ e => e)
        · rw [show decide (V.str (modeL.getD m "") = V.str (modeL.getD a1 "")) = false from decide_eq_false fun z => c (mode_inj _ (ats_lt8 l8 m2) _ (ats_lt8 l8 m1) (by injection z))]
          refine iteT ⟨_, rfl, _, rfl, d, _, rfl, q1, ?_⟩
          refine ⟨_, rfl, _, rfl, d, _, rfl, q2, _, rfl, w7 _ m1, ?_⟩
          refine ⟨_, rfl, _, rfl, w7 _ m2, _, rfl, _, rfl, d, _, rfl, q2, rfl, _, rfl, ?_⟩
          have ne : ¬ V.str (cutS (txt (wordAt ps3 m)) none (some ((txt (wordAt ps3 a1)).length : Int))) = V.str (txt (wordAt ps3 a1)) := fun z => by
            have z := V.str.inj z
            rw [cut_to, txt_len] at z
            refine words_apart o s8 kr m1 m2 (fun z => c z.symm) ?_
            have z := congrArg (fun s : Str => s.cps.toList) z
            simpa [txt] using z
          rw [decide_eq_false ne]
          exact iteF (hn rfl _ fun _ _ e => e)
      intro H10 s10 e10
      rw [show (ats ns).filter (fun _ => false) = [] from List.filter_eq_nil_iff.mpr fun _ _ => Bool.false_ne_true] at e10
      refine ⟨(by show 0 ≤ sizeLine; decide), fun z2 hz2 => ?_⟩
      have t2 := Same.new (o := .lst []) hz2
      exact ⟨_, _, dp_nil (t2 _ _ e10), dp_nil upd_same, shaped_nil, shaped_nil, _, rfl, iteF ⟨⟨_, rfl⟩, s8'.trans (s10.trans t2)⟩⟩
    rintro σ H8 ⟨⟨v4, rfl⟩, s8'⟩
    exact k _ (sH7.trans s8')
end
end K08
namespace K08
open PySem PySem.Spec PyProof.Rows L2 PySem.W LamX KA KW KU KL KT
/-! ### bits of a head, there and back -/
def BitL (l : List Nat) : Prop := ∀ c ∈ l, c = 48 ∨ c = 49
theorem bitL_bits : ∀ (k n : Nat), BitL (bitsL k n)
  | 0, n => fun c hc => by cases hc
  | k + 1, n => fun c hc => by
    have hc : c ∈ bitsL k (n / 2) ++ [48 + n % 2] := hc
    rcases List.mem_append.mp hc with h | h
    · exact bitL_bits k _ c h
    · have := List.mem_singleton.mp h
      omega
theorem BitL.app {a b : List Nat} (h : BitL a) (g : BitL b) : BitL (a ++ b) := fun c hc => (List.mem_append.mp hc).elim (h c) (g c)
theorem bitL_head (h : Hdv) : BitL (headL h) := by
  refine BitL.app (bitL_bits _ _) fun c hc => ?_
  obtain ⟨n, _, hc⟩ := List.mem_flatMap.mp hc
  exact bitL_bits _ _ c hc
theorem val_bits : ∀ (k n : Nat), n < 2 ^ k → valL (bitsL k n) = n
  | 0, n, h => by
    rw [Nat.pow_zero] at h
    have : n = 0 := by omega
    rw [this]
    rfl
  | k + 1, n, h => by
    rw [Nat.pow_succ] at h
    show valL (bitsL k (n / 2) ++ [48 + n % 2]) = n
    rw [valL_snoc, val_bits k (n / 2) (by omega)]
    split <;> omega
theorem bits_val : ∀ (k : Nat) (l : List Nat), l.length = k → BitL l → bitsL k (valL l) = l := by
  intro k l
  refine snoc_ind (P := fun l => ∀ k, l.length = k → BitL l → bitsL k (valL l) = l) ?_ ?_ l k
  · intro k hk _
    subst hk
    rfl
  · intro l c ih k hk hb
    subst hk
    rw [List.length_append, List.length_singleton]
    show bitsL l.length (valL (l ++ [c]) / 2) ++ [48 + valL (l ++ [c]) % 2] = _
    rw [valL_snoc]
    have hc := hb c (List.mem_append_right _ (List.mem_singleton.mpr rfl))
    have ih := ih l.length rfl fun x hx => hb x (List.mem_append_left _ hx)
    rcases hc with hc | hc
    · subst hc
      rw [if_neg (by decide), Nat.add_zero, Nat.mul_div_cancel_left _ (by decide : 0 < 2), ih, Nat.mul_mod_right]
    · subst hc
      rw [if_pos rfl, show (2 * valL l + 1) / 2 = valL l by omega, ih, show (2 * valL l + 1) % 2 = 1 by omega]
theorem slice_flat (f : Nat → List Nat) (hf : ∀ n, (f n).length = 3) : ∀ (ms : List Nat) (j n : Nat), ms[j]? = some n → ((ms.flatMap f).drop (3 * j)).take 3 = f n
  | [], j, n, h => by simp at h
  | m :: ms, 0, n, h => by
    have h : m = n := by simpa using h
    subst h
    rw [List.flatMap_cons, Nat.mul_zero, List.drop_zero, List.take_append_of_le_length (by rw [hf]; exact Nat.le_refl _), List.take_of_length_le (by rw [hf]; exact Nat.le_refl _)]
  | m :: ms, j + 1, n, h => by
    have h : ms[j]? = some n := by simpa using h
    rw [List.flatMap_cons, show 3 * (j + 1) = (f m).length + 3 * j by rw [hf]; omega, List.drop_append, List.drop_of_length_le (by omega), List.nil_append, Nat.add_sub_cancel_left]
    exact slice_flat f hf ms j n h
theorem flat_slices : ∀ (n : Nat) (l : List Nat), l.length = 3 * n → (List.range n).flatMap (fun j => (l.drop (3 * j)).take 3) = l
  | 0, l, h => by
    have : l = [] := List.eq_nil_of_length_eq_zero (by omega)
    rw [this]
    rfl
  | n + 1, l, h => by
    rw [List.range_succ_eq_map, List.flatMap_cons, List.flatMap_map]
    have e : (List.range n).flatMap (fun j => (l.drop (3 * (j + 1))).take 3) = l.drop 3 := by
      rw [← flat_slices n (l.drop 3) (by rw [List.length_drop]; omega)]
      congr 1
      funext j
      rw [List.drop_drop]
      congr 2
      omega
    show (l.drop (3 * 0)).take 3 ++ (List.range n).flatMap (fun j => (l.drop (3 * (j + 1))).take 3) = l
    rw [e, Nat.mul_zero, List.drop_zero, List.take_append_drop]
def itemsH (h : Hdv) : List Nat := h.lo.toNat :: h.gr.toNat :: h.re.toNat :: h.ns
/-- what is read of a head's bits -/
theorem raw_head {h : Hdv} (o : Hok h) (a b : List Nat) : rawH (a ++ headL h ++ b) a.length = h := by
  obtain ⟨l8, s8, _⟩ := o.eight
  have hl := headL_len o
  obtain ⟨k0, k1, l0, l1, g0, g1, r0, r1, _⟩ := o
  have it8 : ∀ n ∈ itemsH h, n < 8 := fun n hn => by
    unfold itemsH at hn
    rcases List.mem_cons.mp hn with rfl | hn
    · omega
    rcases List.mem_cons.mp hn with rfl | hn
    · omega
    rcases List.mem_cons.mp hn with rfl | hn
    · omega
    exact s8 n hn
  have cut : ∀ s k, s + k ≤ 35 → ((a ++ headL h ++ b).drop (a.length + s)).take k = ((headL h).drop s).take k := fun s k hs => by
    rw [List.append_assoc, List.drop_append, List.drop_of_length_le (by omega), List.nil_append, Nat.add_sub_cancel_left, List.drop_append, show s - (headL h).length = 0 by omega, List.drop_zero, List.take_append_of_le_length (by rw [List.length_drop]; omega)]
  have two : ((headL h).drop 0).take 2 = bitsL 2 h.kd.toNat := by
    unfold headL
    rw [List.drop_zero, List.take_append_of_le_length (by rw [bitsL_len]; exact Nat.le_refl _), List.take_of_length_le (by rw [bitsL_len]; exact Nat.le_refl _)]
  have three : ∀ j n, (itemsH h)[j]? = some n → partN (a ++ headL h ++ b) a.length j = n := fun j n hj => by
    have j11 : j < 11 := by
      have := (List.getElem?_eq_some_iff.mp hj).1
      unfold itemsH at this
      simp only [List.length_cons, l8] at this
      exact this
    unfold partN
    rw [show a.length + 2 + 3 * j = a.length + (2 + 3 * j) by omega, cut _ _ (by omega)]
    have e : ((headL h).drop (2 + 3 * j)).take 3 = (((itemsH h).flatMap (bitsL 3)).drop (3 * j)).take 3 := by
      unfold headL itemsH
      rw [List.drop_append, List.drop_of_length_le (by rw [bitsL_len]; omega), List.nil_append, bitsL_len, Nat.add_sub_cancel_left]
    rw [e, slice_flat (bitsL 3) (bitsL_len 3) _ _ _ hj]
    exact val_bits 3 n (it8 n (List.mem_of_getElem? hj))
  have kd : valL (((a ++ headL h ++ b).drop a.length).take 2) = h.kd.toNat := by
    have := cut 0 2 (by decide)
    rw [Nat.add_zero] at this
    rw [this, two]
    exact val_bits 2 _ (by omega)
  have e8 : (List.range 8).map (fun j => partN (a ++ headL h ++ b) a.length (j + 3)) = h.ns := by
    refine List.ext_getElem (by rw [List.length_map, List.length_range, l8]) fun i h1 h2 => ?_
    rw [List.getElem_map, List.getElem_range]
    refine three (i + 3) _ ?_
    unfold itemsH
    rw [List.getElem?_cons_succ, List.getElem?_cons_succ, List.getElem?_cons_succ, List.getElem?_eq_getElem h2]
  obtain ⟨kd', lo, gr, re, ns⟩ := h
  unfold rawH
  rw [kd, e8, three 0 _ rfl, three 1 _ rfl, three 2 _ rfl]
  dsimp only at *
  rw [Int.toNat_of_nonneg k0, Int.toNat_of_nonneg l0, Int.toNat_of_nonneg g0, Int.toNat_of_nonneg r0]
/-- the bits of what is read -/
theorem head_raw {l : List Nat} {s : Nat} (hb : BitL l) (hl : s + 35 ≤ l.length) : headL (rawH l s) = (l.drop s).take 35 := by
  unfold headL rawH
  dsimp only
  rw [Int.toNat_natCast, Int.toNat_natCast, Int.toNat_natCast, Int.toNat_natCast]
  have sub : ∀ {a b : Nat}, BitL ((l.drop a).take b) := fun {a b} c hc => hb c (List.mem_of_mem_drop (List.mem_of_mem_take hc))
  rw [bits_val 2 _ (by rw [List.length_take, List.length_drop]; omega) sub]
  have e11 : (partN l s 0 :: partN l s 1 :: partN l s 2 :: (List.range 8).map fun j => partN l s (j + 3)) = (List.range 11).map (partN l s) := rfl
  rw [e11, List.flatMap_map]
  have e3 : ((List.range 11).flatMap fun j => bitsL 3 (partN l s j)) = (List.range 11).flatMap fun j => (((l.drop (s + 2)).take 33).drop (3 * j)).take 3 := by
    rw [List.flatMap_def, List.flatMap_def]
    congr 1
    refine List.map_congr_left fun j hj => ?_
    have hj := List.mem_range.mp hj
    unfold partN
    rw [bits_val 3 _ (by rw [List.length_take, List.length_drop]; omega) sub, List.drop_take, List.drop_drop, List.take_take, Nat.min_eq_left (by omega)]
  have e4 : ((List.range 11).flatMap fun j => bitsL 3 (partN l s j)) = (l.drop (s + 2)).take 33 := by
    rw [e3]
    exact flat_slices 11 _ (by rw [List.length_take, List.length_drop]; omega)
  show (l.drop s).take 2 ++ ((List.range 11).flatMap fun j => bitsL 3 (partN l s j)) = _
  rw [e4, show (35 : Nat) = 2 + 33 from rfl, List.take_add, List.drop_drop]
/-- the value of bits, from the last -/
def valR : List Nat → Nat
  | [] => 0
  | c :: r => (if c = 49 then 1 else 0) + 2 * valR r
theorem valR_rev (l : List Nat) : valR l.reverse = valL l := by
  refine snoc_ind (P := fun l => valR l.reverse = valL l) rfl (fun l c ih => ?_) l
  rw [List.reverse_append, List.reverse_singleton, valL_snoc]
  show (if c = 49 then 1 else 0) + 2 * valR l.reverse = _
  rw [ih, Nat.add_comm]
theorem sum_bits : ∀ (r : List Nat) (o : Nat), (((List.range r.length).filter fun k => decide (r[k]? = some 49)).map fun k => 2 ^ (k + o)).sum = 2 ^ o * valR r
  | [], o => by simp [valR]
  | c :: r, o => by
    have ih := sum_bits r (o + 1)
    rw [List.length_cons, List.range_succ_eq_map, List.filter_cons, List.filter_map, ]
    have e : ((List.range r.length).filter ((fun k => decide ((c :: r)[k]? = some 49)) ∘ Nat.succ)).map Nat.succ = ((List.range r.length).filter fun k => decide (r[k]? = some 49)).map Nat.succ := by
      congr 1
    rw [e]
    have e2 : ((((List.range r.length).filter fun k => decide (r[k]? = some 49)).map Nat.succ).map fun k => 2 ^ (k + o)).sum = 2 ^ (o + 1) * valR r := by
      rw [List.map_map, ← ih]
      congr 2
      funext k
      show 2 ^ (k + 1 + o) = _
      congr 1
      omega
    have e0 : decide ((c :: r)[0]? = some 49) = decide (c = 49) := by simp
    rw [e0]
    show _ = 2 ^ o * ((if c = 49 then 1 else 0) + 2 * valR r)
    by_cases hc : c = 49
    · rw [decide_eq_true hc, if_pos rfl, if_pos hc, List.map_cons, List.sum_cons, e2, Nat.mul_add, Nat.mul_one, Nat.zero_add, Nat.pow_succ, Nat.mul_assoc]
    · rw [decide_eq_false hc, if_neg Bool.false_ne_true, if_neg hc, e2, Nat.zero_add, Nat.pow_succ, Nat.mul_assoc]
end K08
namespace KSR
open PySem PySem.Spec PyProof.Rows L2 PySem.W PySem.AutoSeq1 RZ
/-! ### z[::-1] of a text -/
theorem rev_made (z : Str) (t : Tok) (st : Option (Int × Tok)) (h : st.map (·.1) = some (-1)) : sliceMade z t none none st = .str ⟨z.cps.toList.reverse.toArray⟩ := by
  unfold sliceMade slicePicked
  rw [h]
  have e : Builtin.Str.strSliceIndices ((none : Option (Int × Tok)).map (·.1)) ((none : Option (Int × Tok)).map (·.1)) (((some (-1)) : Option Int).getD 1) z.length = sliceRange ((z.cps.size : Int) - 1) (-1) (-1) := by
    unfold Builtin.Str.strSliceIndices; simp only [Option.map_none, Option.getD_some, show ¬ ((-1 : Int) > 0) from by decide, if_false]; rfl
  rw [e, krv_sliceRange, krv_range, if_neg (by rw [Option.getD_some]; simp)]
  congr 2
  rw [List.filterMap_reverse, krv_all]
def tRevS (te : TE) : TE := fun σ H Q => te σ H fun x H1 => ∃ z : Str, x = .str z ∧ z.length ≤ sizeLine ∧ Q (.str ⟨z.cps.toList.reverse.toArray⟩) H1
section
variable {X : Cx}
theorem pe_revS {e : Expr} {te : TE} {k : Nat} {p1 p2 p3 pos : Pos} (he : PE X e te) : PE X (.Subscript e (.Slice none none (some (.UnaryOp .USub (.Constant (.int 1) k p1) p2)) p3) pos) (tRevS te) := by
  refine ⟨fun pins s σ H Q I hall => Subscript_ (thn (he.run pins s σ H _ I hall) fun v s1 ⟨x, H1, I1, r1, z, ex, hz, q⟩ => ?_)⟩
  subst ex
  obtain ⟨t, rfl⟩ := r1
  have h_st : PO X (some (.UnaryOp .USub (.Constant (.int 1) k p1) p2)) (tPart (tUn (rU fun i => .int (-i)) (tC (.int 1)))) := po_some (pe_un un_neg pe_int)
  refine wpAny_Slice (thn (po_none.run pins s1 σ H1 (fun o H2 => o = none ∧ H2 = H1) I1 ⟨rfl, rfl⟩) fun vl s2 ⟨l, H2, I2, pl, e_l, e2⟩ => ?_)
  subst e_l e2
  refine thn (po_none.run pins s2 σ H2 (fun o H3 => o = none ∧ H3 = H2) I2 ⟨rfl, rfl⟩) fun vu s3 ⟨u, H3, I3, pu, e_u, e3⟩ => ?_
  subst e_u e3
  refine thn (h_st.run pins s3 σ H3 (fun o H4 => o = some (-1) ∧ H4 = H3) I3 ⟨1, rfl, -1, rfl, rfl, rfl⟩) fun vs s4 ⟨o, H4, I4, ps, e_o, e4⟩ => ?_
  subst e_o e4
  have J5 : Inv X pins σ H4 { s4 with heap := s4.heap.push { cls := .type "slice", data := .fields #[vl, vu, vs] } } := I4.kept (t' := s4.toks) fun b ob q => Heap.get?_push_of_some _ q
  obtain ⟨l, rfl, el⟩ := IsPart.raw pl
  obtain ⟨u, rfl, eu⟩ := IsPart.raw pu
  obtain ⟨st, rfl, es⟩ := IsPart.raw ps
  have l0 : l = none := by
    cases l with
    | none => rfl
    | some _ => cases el
  have u0 : u = none := by
    cases u with
    | none => rfl
    | some _ => cases eu
  subst l0 u0
  show wpAny (model X.prog X.w) X.A (subscriptTail e (.Slice none none (some (.UnaryOp .USub (.Constant (.int 1) k p1) p2)) p3) (.str z t) (.ref s4.heap.objs.size)) (EP X pins σ Q) X.xe { s4 with heap := s4.heap.push { cls := .type "slice", data := .fields #[partValue none, partValue none, partValue st] } }
  refine tail_any (ops := [.str z t, .ref s4.heap.objs.size]) (typeIs_str _ _ _) (PySem.F.slot_str_getitem.lookup) ?_ (by with_unfolding_all rfl)
  refine wpAny_getItem_str_slice (l := none) (u := none) (st := st) ⟨_, Heap.get?_push_size _ rfl, rfl, rfl⟩ (by rw [es]; rfl) ?_
  rw [rev_made z t st es]
  refine ⟨?_, .str _, H4, J5.tok _, ⟨_, rfl⟩, q⟩
  show z.cps.toList.reverse.toArray.size ≤ sizeLine
  rw [List.size_toArray, List.length_reverse, Array.length_toList]
  exact hz
end
/-! ### enumerate(z), z a text -/
structure EnS (x : Str) (t : Tok) (e it : Addr) (i : Nat) (h : Heap) : Prop where
  en : ∃ old, IsEnum h e it (i : Int) old
  ti : h.IsStrIter it (strIterType x) x t i
  ne : e ≠ it
section
variable {x : Str} {t : Tok} {e it : Addr} {i : Nat} {h h' : Heap}
theorem EnS.keep (s : EnS x t e it i h) (k : ∀ b ∈ [e, it], ∀ o, h.get? b = some o → h'.get? b = some o) : EnS x t e it i h' := by
  obtain ⟨⟨old, q⟩, ⟨o, q2, r⟩, ne⟩ := s
  exact ⟨⟨old, k e List.mem_cons_self _ q⟩, ⟨o, k it (List.mem_cons_of_mem _ List.mem_cons_self) o q2, r⟩, ne⟩
theorem EnS.cell (s : EnS x t e it i h) {b : Addr} (m : b ∈ [e, it]) : b < h.objs.size ∧ ∃ o, h.get? b = some o ∧ ∀ v, o.data ≠ .cell v := by
  rcases KEN.two m with rfl | rfl
  · obtain ⟨_, q⟩ := s.en
    exact ⟨Heap.lt_size q, _, q, fun _ z => nomatch z⟩
  · obtain ⟨o, q, _, dq⟩ := s.ti
    exact ⟨Heap.lt_size q, o, q, fun _ z => by rw [dq] at z; cases z⟩
end
theorem drawnS {P : Program} {w : World} {A : Around} (calm : A.handled = none) (it : Addr) (x : Str) (t : Tok) : Draws P w A it [it] x.cps.size (fun i v => ∃ c u, x.cps[i]? = some c ∧ v = .str ⟨#[c]⟩ u) fun i h => h.IsStrIter it (strIterType x) x t i := by
  unfold strIterType
  split
  · exact Draws.strAscii calm it x t
  · exact Draws.strWide calm it x t
/-- each sign of the text in a new pair behind its place -/
def ItS (x : Str) : It where
  go i _ := i < x.cps.size
  yld i H v H' := ∃ T c, v = .ref T ∧ H T = none ∧ H' = upd H T (.tup [.int (i : Nat), .str ⟨#[c]⟩]) ∧ x.cps.toList[i]? = some c
  stop i _ := x.cps.size = i
theorem turn_es {P : Program} {w : World} {K : PySem.W.Frag} {elts : List Expr} {kk : Nat} {tpos : Pos} (x : Str) (t : Tok) (e it : Addr) : Turn P w K (.Tuple elts kk tpos) (ItS x) [e, it] e (EnS x t e it) := by
  constructor
  · exact List.mem_cons_self
  · exact fun i h st b m => (st.cell m).2
  · exact fun i h h' st k => st.keep k
  · intro X eP ew eK calm i pins s σ H E I free st lt
    subst eP ew eK
    obtain ⟨old, en⟩ := st.en
    refine wpAny_pyNext_enum_itemD (drawnS (A := X.A.in1) (I.ok.hd calm) it x t) en st.ti lt st.ne (fun m => st.ne (List.mem_singleton.mp m)) fun y h1 tk yat out ti1 pair size keep => ?_
    obtain ⟨c, u, cat, rfl⟩ := yat
    refine ⟨_, rfl, wpAny_letOwnedTupleGo_enum (s := { s with heap := h1, toks := tk + 1 }) out fun h2 en2 sb => ?_⟩
    have le := (st.cell (b := e) List.mem_cons_self).1
    have pair2 : h2.get? s.heap.objs.size = some { cls := .type "tuple", data := .seq #[.int i tk, .str ⟨#[c]⟩ u] } := (sb.2 _ (Nat.ne_of_gt le)).trans pair
    have obj : ObjOk X.prog X.w (upd H s.heap.objs.size (.tup [.int (i : Nat), .str ⟨#[c]⟩])) h2 s.heap.objs.size (.tup [.int (i : Nat), .str ⟨#[c]⟩]) :=
      ⟨by show 2 ≤ sizeLine; decide, _, .cons ⟨tk, rfl⟩ (.cons ⟨u, rfl⟩ .nil), ⟨_, pair2, rfl, _, rfl⟩⟩
    refine ⟨.ref s.heap.objs.size, _, I.turnedNew (t' := tk + 1) (fun b o off q => ?_) free (Nat.le_refl _) obj, rfl, ⟨_, c, rfl, I.hok.fresh (Nat.le_refl _), rfl, ?_⟩, ⟨⟨.str ⟨#[c]⟩ u, ?_⟩, ?_, st.ne⟩, fun b m => ?_⟩
    · have ne1 : b ≠ e := fun z => off (z ▸ List.mem_cons_self)
      exact (sb.2 b ne1).trans (keep b o ne1 (fun z => off (z ▸ List.mem_cons_of_mem _ List.mem_cons_self)) q)
    · rw [Array.getElem?_toList]
      exact cat
    · rw [Int.natCast_succ]
      exact en2
    · obtain ⟨o, q, r⟩ := ti1
      exact ⟨o, (sb.2 it st.ne.symm).trans q, r⟩
    · rw [upd_ne (Nat.ne_of_lt (st.cell m).1)]
      exact (free b m).1
  · intro X eP ew eK calm i pins s σ H E I free st all
    subst eP ew eK
    have all : x.cps.size = i := all
    obtain ⟨old, en⟩ := st.en
    have own := free it (List.mem_cons_of_mem _ List.mem_cons_self)
    refine wpAny_pyNext_enum_endD (drawnS (A := X.A.in1) (I.ok.hd calm) it x t) en (by rw [all]; exact st.ti) fun h1 but => ⟨rfl, ?_⟩
    exact I.turned (t' := s.toks) (fun b o off q => but b o off q) own.1 own.2.1 own.2.2.2.1 own.2.2.2.2.1 own.2.2.2.2.2
  · exact fun A i s Q E st k => st.en.elim fun _ q => wpAny_pyIter_enum q k
theorem walk_es {x : Str} : Walk (ItS x) x.cps.size (fun _ => True) (YPair (fun i => some (.int (i : Nat))) fun i => (x.cps.toList[i]?).map fun c => V.str ⟨#[c]⟩) := by
  refine ⟨fun i H lt _ => lt, fun H _ => rfl, ?_⟩
  rintro i H v H' lt _ ⟨T, c, ev, ft, eH, k⟩
  exact ⟨T, _, .str ⟨#[c]⟩, ev, ft, eH, rfl, by show (x.cps.toList[i]?).map _ = _; rw [k]; rfl⟩
section
variable {X : Cx}
/-- for i, c in enumerate(z), z a text -/
def iEnumT (ta : TA) : TI := fun σ H R => ta σ H fun vs H1 => ∃ z : Str, vs = [.str z] ∧ ∀ J : It, Walk J z.cps.size (fun _ => True) (YPair (fun i => some (.int (i : Nat))) fun i => (z.cps.toList[i]?).map fun c => V.str ⟨#[c]⟩) → R J H1
theorem pi_enumT {e : Expr} {ta : TA} {p pos tpos : Pos} {elts : List Expr} {kk : Nat} (hg : Gl X "enumerate") (hm : X.mg "enumerate" = none) (ha : PA X [e] ta) (hs : starEach [e] X.env = [(false, eval e X.env)] := by rfl) :
    PI X (.Tuple elts kk tpos) (.Call (.Name "enumerate" p) [e] [] pos) (iEnumT ta) := by
  constructor
  intro pins s σ H R I h
  have args := thn (ha.run pos pins s σ H _ I h) (Q' := fun us s1 => wpAny (model X.prog X.w) X.A (call (.type "enumerate") us) (fun v s2 => wpAny (model X.prog X.w) X.A (pyIter v) (PIE X pins σ (.Tuple elts kk tpos) R) X.xe s2) X.xe s1) ?_
  · exact Call_ (ld_blt I hg hm boot_enumerate (PyProof.Rows.callWith_type1 args hs rfl))
  rintro us s1 ⟨vs, H1, J1, rel, z, rfl, k⟩
  obtain ⟨u, rfl, t, rfl⟩ := vals1 rel
  have fp := KEN.fresh_fp J1 (bs := [s1.heap.objs.size + 1, s1.heap.objs.size]) fun b m => (KEN.two m).elim (fun z => Nat.le_of_lt (Nat.lt_of_lt_of_eq (Nat.lt_succ_self _) z.symm)) fun z => Nat.le_of_eq z.symm
  refine call_enumerate_str fun h' en li size keep => wpAny_pyIter_enum en ?_
  exact ⟨_, _, _, _, H1, rfl, J1.kept (t' := s1.toks) keep, turn_es z t _ _, ⟨⟨_, en⟩, li, Nat.succ_ne_self _⟩, fp, k _ walk_es⟩
end
end KSR
namespace KNI
open PySem PySem.Spec PyProof.Rows L2 PySem.W LamX KA KW
open SeqAt
open AutoSeq1 (wpAny_loadPart')
open MeetsSeq MeetsSeq2 MeetsSeq3 SeqRoads2
/-! ### xs != ys of lists of pairs (an own instance, an int) that are all equal: what the own __eq__ does to the state stays within J -/
def EqJ (prog : Program) (w : World) (A : Around) (J : Shared → Prop) (E : Value → Shared → Prop) (y x : Value) : Prop :=
  ∀ s, J s → wpAny (model prog w) A (eqBool y x) (fun b s' => b = true ∧ J s') E s
section
variable {prog : Program} {w : World} {J : Shared → Prop}
theorem eqJ_at {A : Around} {E : Value → Shared → Prop} {y x : Value} (h : ∀ s, EqAt A s y x true) : EqJ prog w A J E y x := fun s j => h s prog w E _ ⟨rfl, j⟩
theorem eqJ_refs {A : Around} {E : Value → Shared → Prop} {l b : Addr} (h : l ≠ b → ∀ s, J s → wpAny (model prog w) A (richCompare .Eq (.ref l) (.ref b)) (fun v s' => v = .bool true ∧ J s') E s) : EqJ prog w A J E (.ref l) (.ref b) := fun s j => by
  by_cases e : l = b
  · subst e
    exact EqAt.same _ prog w E _ ⟨rfl, j⟩
  unfold eqBool
  refine wpAny_holding ?_
  refine wpAny_ite_split (fun hab => absurd (by have := eq_of_beq hab; injection this) e) (fun _ => ?_)
  refine wpAny_bind (wpAny_mono (h e s j) (fun v s' z => ?_) fun _ _ e => e)
  obtain ⟨rfl, j'⟩ := z
  exact wpAny_truthy_bool ⟨rfl, j'⟩
theorem tuple_eqJ (l b : Addr) (ar ar2 : Array Value) (zz : ar.size = ar2.size) :
    MeetsIn prog w (Builtin.«tuple.__eq__» (Args.mk [.ref l, .ref b] []))
      (fun A R s => (∃ o n o2 n2, s.heap.get? l = some o ∧ o.cls = .type "tuple" ∧ o.data = .seq ar n ∧ s.heap.get? b = some o2 ∧ o2.cls = .type "tuple" ∧ o2.data = .seq ar2 n2) ∧ J s ∧
        (∀ j (h1 : j < ar.size) (h2 : j < ar2.size), EqJ prog w A.in1 J (fun e s' => R (.error e) s') ar[j] ar2[j]) ∧ ∀ s', J s' → R (.ok (.ret (.bool true))) s') :=
  .of_wp fun A R s h => by
    obtain ⟨s_h, s_g, s_d, s_t, s_o⟩ := s
    obtain ⟨⟨⟨cls, dd, data, sl⟩, n, ⟨cls2, dd2, data2, sl2⟩, n2, ho, hc, hd, ho2, hc2, hd2⟩, hj, he, h⟩ := h
    simp only at hc hd hc2 hd2 ho ho2
    subst hc hd hc2 hd2
    have tt_sub := AutoSeq1.sub_tuple_tuple
    have zl : (ar.toList.zip ar2.toList).length = ar.size := by simp [zz]
    wp_walk using wpAny_loadPart' ho, wpAny_loadPart' ho2, wpAny_forIn_list _ (fun rest b s' => b.1 = none ∧ J s' ∧ ∃ i, rest = (ar.toList.zip ar2.toList).drop i) _
    case turn =>
      rintro ⟨y, x⟩ rest b s' ⟨hb', hj', i, hz⟩
      have lt1 : i < (ar.toList.zip ar2.toList).length := Nat.lt_of_not_ge fun ge => by simp [List.drop_of_length_le ge] at hz
      have i1 := zl ▸ lt1
      have i2 := zz ▸ i1
      obtain ⟨hyx, hrest⟩ := List.cons.inj (hz.trans (List.drop_eq_getElem_cons lt1))
      obtain ⟨hy, hx⟩ : y = ar[i] ∧ x = ar2[i] := by simpa [Prod.ext_iff] using hyx
      subst hy hx
      refine wpAny_bind (wpAny_mono (he i i1 i2 s' hj') (fun c s2 z => ?_) fun _ _ e => e)
      obtain ⟨rfl, hj2⟩ := z
      obtain ⟨r_h, r_g, r_d, r_t, r_o⟩ := s2
      wp_walk
      exact ⟨rfl, hj2, i + 1, hrest⟩
    case fin =>
      rintro ⟨b1, b2⟩ s' ⟨hb', hj', i, hz⟩
      simp only at hb'
      subst hb'
      obtain ⟨r_h, r_g, r_d, r_t, r_o⟩ := s'
      wp_walk
      refine ⟨_, rfl, ?_⟩
      have := h _ hj'
      simpa [Builtin.Tuple.tupleCompareSizes, zz] using this
    case h =>
      exact ⟨rfl, hj, 0, rfl⟩
/-- two lists of n ar each, all of which are equal whatever J-state there is -/
def TwoL (prog : Program) (w : World) (A : Around) (J : Shared → Prop) (E : Value → Shared → Prop) (l b : Addr) (n : Nat) : Prop :=
  ∀ s, J s → ∃ (ar ar2 : Array Value) (o o2 : Obj) (m m2 : Nat), s.heap.get? l = some o ∧ o.cls = .type "list" ∧ o.data = .seq ar m ∧ s.heap.get? b = some o2 ∧ o2.cls = .type "list" ∧ o2.data = .seq ar2 m2 ∧ ar.size = n ∧ ar2.size = n ∧
    ∀ j (h1 : j < ar.size) (h2 : j < ar2.size), EqJ prog w A J E ar[j] ar2[j]
theorem ne_loopJ (l b : Addr) (n : Nat) (k : Nat) :
    ∀ i : Nat, n - i = k → MeetsIn prog w (Builtin.«list.__eq__.loop» ⟨[.ref l, .ref b, rawInt i, rawInt 3], []⟩)
      (fun A R s => J s ∧ TwoL prog w A.in1 J (fun e s' => R (.error e) s') l b n ∧ ∀ s', J s' → R (.ok (.ret (.bool false))) s') := by
  induction k with
  | zero =>
    intro i hk A R s h
    obtain ⟨hj, ht, h⟩ := h
    have h := h _ hj
    obtain ⟨ar, ar2, ⟨cls, dd, data, sl⟩, ⟨cls2, dd2, data2, sl2⟩, m, m2, ho, hc, hd, ho2, hc2, hd2, z1, z2, he⟩ := ht s hj
    obtain ⟨s_h, s_g, s_d, s_t, s_o⟩ := s
    simp only at hc hd hc2 hd2 ho ho2
    subst hc hd hc2 hd2
    wp_walk using wpAny_loadPart' ho, wpAny_loadPart' ho2
    obtain ⟨at1, at2⟩ : ar[((i : Nat) : Int).toNat]? = none ∧ ar2[((i : Nat) : Int).toNat]? = none := by constructor <;> (simp; omega)
    rw [at1, at2]
    wp_walk using wpAny_loadPart' ho, wpAny_loadPart' ho2
    change R (.ok (.ret (.bool (ar.size != ar2.size)))) _
    simpa [z1, z2] using h
  | succ k ih =>
    intro i hk A R s h
    obtain ⟨hj, ht, h⟩ := h
    obtain ⟨ar, ar2, ⟨cls, dd, data, sl⟩, ⟨cls2, dd2, data2, sl2⟩, m, m2, ho, hc, hd, ho2, hc2, hd2, z1, z2, he⟩ := ht s hj
    obtain ⟨s_h, s_g, s_d, s_t, s_o⟩ := s
    simp only at hc hd hc2 hd2 ho ho2
    subst hc hd hc2 hd2
    wp_walk using wpAny_loadPart' ho, wpAny_loadPart' ho2
    obtain ⟨lt1, lt2⟩ : i < ar.size ∧ i < ar2.size := by omega
    obtain ⟨at1, at2⟩ : ar[((i : Nat) : Int).toNat]? = some ar[i] ∧ ar2[((i : Nat) : Int).toNat]? = some ar2[i] := ⟨by simp [lt1], by simp [lt2]⟩
    rw [at1, at2]
    refine wpAny_bind (wpAny_mono (he i lt1 lt2 _ hj) (fun c s2 z => ?_) fun _ _ e => e)
    obtain ⟨rfl, hj2⟩ := z
    obtain ⟨r_h, r_g, r_d, r_t, r_o⟩ := s2
    wp_walk
    rw [show (i : Int) + 1 = ((i + 1 : Nat) : Int) from rfl]
    refine ⟨plainId_quiet plain_eq_loop _, codeAny_builtin entry_eq_loop ?_⟩
    rw [Around.under_plainId plain_eq_loop]
    exact ih (i + 1) (by omega) A R _ ⟨hj2, ht, h⟩
theorem list_neJ (l b : Addr) (n : Nat) :
    MeetsIn prog w (Builtin.«list.__ne__» ⟨[.ref l, .ref b], []⟩)
      (fun A R s => J s ∧ TwoL prog w A.in1 J (fun e s' => R (.error e) s') l b n ∧ ∀ s', J s' → R (.ok (.ret (.bool false))) s') := by
  intro A R s h
  obtain ⟨hj, ht, h⟩ := h
  obtain ⟨ar, ar2, ⟨cls, dd, data, sl⟩, ⟨cls2, dd2, data2, sl2⟩, m, m2, ho, hc, hd, ho2, hc2, hd2, z1, z2, he⟩ := ht s hj
  obtain ⟨s_h, s_g, s_d, s_t, s_o⟩ := s
  simp only at hc hd hc2 hd2 ho ho2
  subst hc hd hc2 hd2
  have ll_sub := AutoSeq1.sub_list_list
  have hne : ¬ (ar.size != ar2.size) = true := by simp [z1, z2]
  wp_walk using wpAny_loadPart' ho, wpAny_loadPart' ho2
  refine ⟨plainId_quiet plain_eq_loop _, codeAny_builtin entry_eq_loop ?_⟩
  rw [Around.under_plainId plain_eq_loop]
  exact ne_loopJ l b n _ 0 rfl A R _ ⟨hj, ht, h⟩
end
section
variable {X : Cx} {CX : CXT} {n : Nat} {C f : Addr} {fd : FuncData} {ps : List Str} {sp : Sp} {E : XK}
def PairE (K : PySem.W.Frag) (H : Hp) (C : Addr) (sp : Sp) (E : XK) (x y : V) : Prop := ∃ (t u a b dx : Addr) (fs : List (Str × V)) (tb : Value) (i : Int), x = .ref t ∧ y = .ref u ∧ H t = some (.tup [.ref a, .int i]) ∧ H u = some (.tup [.ref b, .int i]) ∧
  H a = some (.ins C dx fs) ∧ TyX K H (.ref b) tb ∧ PySem.W.notFirst K C tb = true ∧ sp [.ref a, .ref b] H (fun v H' => ∃ c, v = .bl c ∧ c = true ∧ H' = H) E
def rNeP (K : PySem.W.Frag) (C : Addr) (sp : Sp) (E : XK) : R2 := fun x y H Q => ∃ p q xs ys, x = .ref p ∧ y = .ref q ∧ SqL K H p xs ∧ SqL K H q ys ∧ xs.length = ys.length ∧ (∀ (i : Nat) (x y : V), xs[i]? = some x → ys[i]? = some y → PairE K H C sp E x y) ∧ Q (.bl false) H
theorem vals_at : ∀ {xs : List V} {us : List Value} (r : Vals xs us) (j : Nat) (h : j < us.length), ∃ x, xs[j]? = some x ∧ RelV x us[j]
  | _, _, .nil, j, h => absurd h (Nat.not_lt_zero j)
  | _, _, .cons a b, 0, h => ⟨_, rfl, a⟩
  | _, _, .cons a b, j + 1, h => vals_at b j (Nat.lt_of_succ_lt_succ h)
theorem op_neP (FO : FnOk X.prog X.w X.K X.mg X.base CX n f fd ps sp) (hr : Room (n + 2) X.A) (hs : PySem.W.findIn X.K (.ref C) "__eq__" = some (some (.ref f))) (hf : PySem.W.isFn X.K (.ref f) = true) (hb : Binds X.K fd ps []) (hx : Passes CX X E) :
    OpR X (compareOp .NotEq) (rNeP X.K C sp E) := by
  intro pins s σ H x y v u Q I rx ry hall
  obtain ⟨p, q, xs, ys, rfl, rfl, hp, hq, hl, hpe, hQ⟩ := hall
  cases rx
  cases ry
  have hu : X.A.units + 2 < cLine := by
    have := hr.units
    omega
  obtain ⟨us, r1, p1, _⟩ := I.list hp
  obtain ⟨ws, r2, p2, _⟩ := I.list hq
  obtain ⟨o1, g1, c1, m1, d1⟩ := p1.isList
  obtain ⟨o2, g2, c2, m2, d2⟩ := p2.isList
  have ta : s.TypeIs (.ref p) "list" := ⟨o1, g1, c1⟩
  have tb : s.TypeIs (.ref q) "list" := ⟨o2, g2, c2⟩
  refine wpAny_richCompare_same_room (op := .NotEq) ta tb PySem.F.slot_list_ne (call_meetsIn PySem.F.slot_list_ne ta PySem.F.entry_list_ne (PySem.F.args_list_ne_2 _ _) (list_neJ (J := fun s' => L2.Inv X pins σ H s') p q xs.length)
    ⟨I, fun s' I' => ?_, fun s' I' => show Value.bool false ≠ Value.notImplemented ∧ EP X pins σ Q (.bool false) s' from ⟨(fun x => nomatch x), .bl false, H, I', rfl, hQ⟩⟩) (by omega)
  obtain ⟨us', r1', p1', _⟩ := I'.list hp
  obtain ⟨ws', r2', p2', _⟩ := I'.list hq
  obtain ⟨o1', g1', c1', m1', d1'⟩ := p1'.isList
  obtain ⟨o2', g2', c2', m2', d2'⟩ := p2'.isList
  refine ⟨us'.toArray, ws'.toArray, o1', o2', m1', m2', g1', c1', d1', g2', c2', d2', by rw [List.size_toArray, ← r1'.length], by rw [List.size_toArray, ← r2'.length, hl], fun j h1 h2 => ?_⟩
  obtain ⟨x, ex, rx⟩ := vals_at r1' j (by simpa using h1)
  obtain ⟨y, ey, ry⟩ := vals_at r2' j (by simpa using h2)
  obtain ⟨t, t2, a, b, dx, fs, tb', i, rfl, rfl, ht, ht2, ha, ty, nf, hsp⟩ := hpe j x y ex ey
  rw [List.getElem_toArray, List.getElem_toArray, show us'[j] = Value.ref t from rx, show ws'[j] = Value.ref t2 from ry]
  refine eqJ_refs fun _ s2 I2 => ?_
  obtain ⟨k1, q1, b1, _⟩ := I2.tuple (SqT.of ht)
  obtain ⟨k2, q2, b2, _⟩ := I2.tuple (SqT.of ht2)
  obtain ⟨w1, w2, rfl, a1, a2⟩ : ∃ w1 w2, k1 = [w1, w2] ∧ RelV (.ref a) w1 ∧ RelV (.int i) w2 := by
    cases q1 with
    | cons a b => cases b with
      | cons c d => cases d; exact ⟨_, _, rfl, a, c⟩
  obtain ⟨z1, z2, rfl, e1, e2⟩ : ∃ w1 w2, k2 = [w1, w2] ∧ RelV (.ref b) w1 ∧ RelV (.int i) w2 := by
    cases q2 with
    | cons a b => cases b with
      | cons c d => cases d; exact ⟨_, _, rfl, a, c⟩
  cases (show w1 = Value.ref a from a1)
  cases (show z1 = Value.ref b from e1)
  obtain ⟨oa, ga, ca, ma, da⟩ := b1
  obtain ⟨ob, gb, cb, mb, db⟩ := b2
  have ta2 : s2.TypeIs (.ref t) "tuple" := ⟨oa, ga, ca⟩
  have tb2 : s2.TypeIs (.ref t2) "tuple" := ⟨ob, gb, cb⟩
  refine wpAny_richCompare_same_room (op := .Eq) ta2 tb2 PySem.F.slot_tuple_eq (call_meetsIn PySem.F.slot_tuple_eq ta2 PySem.F.entry_tuple_eq (PySem.F.args_tuple_eq_2 _ _) (tuple_eqJ (J := fun s' => L2.Inv X pins σ H s') t t2 #[Value.ref a, w2] #[Value.ref b, z2] rfl)
    ⟨⟨oa, ma, ob, mb, ga, ca, da, gb, cb, db⟩, I2, fun j h1 h2 => ?_, fun s' I' => show Value.bool true ≠ Value.notImplemented ∧ (Value.bool true = .bool true ∧ L2.Inv X pins σ H s') from ⟨(fun x => nomatch x), rfl, I'⟩⟩) (by show X.A.units + 1 < cLine; omega)
  match j, h1, h2 with
  | 1, _, _ => exact eqJ_at fun s => eqAt_same a2 e2 rfl
  | 0, _, _ =>
    refine eqJ_refs fun _ s3 I3 => ?_
    obtain ⟨mA, Jn, _⟩ := ins_get I3.hok ha
    obtain ⟨od, Jn, _⟩ := Jn.look
    obtain ⟨Pk, Z, pk, _⟩ := kit_of I3 (show RelV (.ref b) (.ref b) from rfl) ty
    obtain ⟨m, hF⟩ := I3.fr
    refine PySem.W.cmp_K (op := .Eq) (by show X.A.units + 2 < cLine; exact hu) hF I3.ok.mod.kin Jn (Z.ty _ _ I3.kIn pk) nf hs hf ?_
    refine wpAny_mono (KY.own_call (L2.Sub.in1 (L2.Sub.in1 ⟨hr, rfl⟩)) FO hb hx I3 (x := .ref a) (y := .ref b) (R := fun c H' => c = true ∧ H' = H) rfl rfl hsp) (fun r s' hq => ?_) fun _ _ e => e
    obtain ⟨c, er, H', I', ec, eh⟩ := hq
    rw [eh] at I'
    subst ec
    subst er
    exact ⟨rfl, I'⟩
end
end KNI
namespace KA
open PySem PySem.Spec PyProof.Rows L2 PySem.W LamX
/-! ### more calls by names alone -/
section
variable {K : PySem.W.Frag} {x qual : Str} {st : Stmt} {f : Addr} {fd : FuncData} {ps ks : List Str}
/-- two parameters a, b, called as f(a = .., b = ..) -/
theorem Fun.kw2s {a b : Str} (F : Fun K x qual st f fd) (h : ∀ (kV doc pm : Value) (an : Option Addr) (cdv ct u v : Value), bindArgs (PySem.W.fnOf x qual (defArgs st) (defBody st) (defScope st) .none kV doc pm an cdv ct) ⟨[], [(a, u), (b, v)]⟩ = pure [(a, u), (b, v)]) :
    KBn K fd [a, b] 0 [a, b] (fun _ ws => ws) (fun _ zs => zs) := by
  obtain ⟨oc, od, kV, doc, pm, an, cdv, ct, osl, rfl, lk, hcd⟩ := F.ex
  refine ⟨fun s us ws X l1 l2 => ?_, fun _ r => r⟩
  match us, ws, l1, l2 with
  | [], [u, v], _, _ => exact .of_eq (h kV doc pm an cdv ct u v)
def perm5 {α : Type} (zs : List α) : List α := match zs with
  | [x, y, u, g, l] => [l, g, y, x, u]
  | zs => zs
/-- five parameters l, g, y, x, u, called as f(x = .., y = .., u = .., g = .., l = ..) -/
theorem Fun.kw5 {l g y z u : Str} (F : Fun K x qual st f fd) (h : ∀ (kV doc pm : Value) (an : Option Addr) (cdv ct a b c d e : Value), bindArgs (PySem.W.fnOf x qual (defArgs st) (defBody st) (defScope st) .none kV doc pm an cdv ct) ⟨[], [(z, a), (y, b), (u, c), (g, d), (l, e)]⟩ = pure [(l, e), (g, d), (y, b), (z, a), (u, c)]) :
    KBn K fd [l, g, y, z, u] 0 [z, y, u, g, l] (fun _ ws => perm5 ws) (fun _ zs => perm5 zs) := by
  obtain ⟨oc, od, kV, doc, pm, an, cdv, ct, osl, rfl, lk, hcd⟩ := F.ex
  refine ⟨fun s us ws X l1 l2 => ?_, fun {_ _ zs ws} _ r => ?_⟩
  · match us, ws, l1, l2 with
    | [], [a, b, c, d, e], _, _ => exact .of_eq (h kV doc pm an cdv ct a b c d e)
  · clear h
    match zs, ws, r with
    | [a, b, c, d, e], _, .cons ra (.cons rb (.cons rc (.cons rd (.cons re .nil)))) => exact .cons re (.cons rd (.cons rb (.cons ra (.cons rc .nil))))
    | [], _, .nil => exact .nil
    | [_], _, .cons ra .nil => exact .cons ra .nil
    | [_, _], _, .cons ra (.cons rb .nil) => exact .cons ra (.cons rb .nil)
    | [_, _, _], _, .cons ra (.cons rb (.cons rc .nil)) => exact .cons ra (.cons rb (.cons rc .nil))
    | [_, _, _, _], _, .cons ra (.cons rb (.cons rc (.cons rd .nil))) => exact .cons ra (.cons rb (.cons rc (.cons rd .nil)))
    | _ :: _ :: _ :: _ :: _ :: _ :: _, _, .cons ra (.cons rb (.cons rc (.cons rd (.cons re (.cons rf r))))) => exact .cons ra (.cons rb (.cons rc (.cons rd (.cons re (.cons rf r)))))
end
end KA
namespace K08
open PySem PySem.Spec PyProof.Rows L2 PySem.W LamX KA KW KU KL
open Evl (pss_cut tCut)
/-- the code object of a def that makes lambdas, and its table -/
structure LamT (K : PySem.W.Frag) (x : Str) (st : Stmt) (a : Addr) (d : FuncData) (c P : Addr) : Prop where
  ex : ∃ (oc : Value) (od : Option Addr) (kV doc pm : Value) (an : Option Addr) (ct : Value) (osl : Array (Option Value)),
    d = PySem.W.fnOf x x (defArgs st) (defBody st) (defScope st) .none kV doc pm an (.ref c) ct ∧ K.lookup a = some ⟨oc, od, .func d, osl⟩ ∧ PySem.W.codeIn K (.ref c) x = true
/-- all but the state and the tables stands as it stood -/
def KpN (st lg : Addr) (H H' : Hp) : Prop := ∀ b o, H b = some o → b ≠ st → b ≠ lg → (∀ ps, o ≠ .tbl ps) → H' b = some o
theorem KpN.refl {st lg : Addr} {H : Hp} : KpN st lg H H := fun _ _ h _ _ _ => h
theorem KpN.trans {st lg : Addr} {H H1 H2 : Hp} (a : KpN st lg H H1) (b : KpN st lg H1 H2) : KpN st lg H H2 := fun c o h n1 n2 n3 => b c o (a c o h n1 n2 n3) n1 n2 n3
theorem KpN.kp {st lg : Addr} {H H1 : Hp} (a : Kp st lg H H1) : KpN st lg H H1 := fun c o h n1 n2 _ => a c o h n1 n2
theorem KpN.ext {st lg : Addr} {H H1 : Hp} (a : ExtN H H1) : KpN st lg H H1 := fun c o h _ _ n => a c o h n
theorem KpN.new {st lg p : Addr} {H : Hp} {o : HO} (h : H p = none) : KpN st lg H (upd H p o) := .kp (.same (Same.new h))
abbrev lamQ : Str := (envOfC "law" (defScope s_law) 0 0 .none).qual ++ "<lambda>"
abbrev lamK : Str := (envOfC "_law_read_right" (defScope s__law_read_right) 0 0 .none).qual ++ "<lambda>"
abbrev tabs (Pk Pt : Addr) : List (Addr × Str) := [(Pk, lamK), (Pt, lamQ)]
theorem tabs_kp {st lg cl : Addr} {n : Nat} {L : List (Addr × Str)} {H H' : Hp} (t : Tabs L H) (S : StAt H st lg cl n) (e : Kp st lg H H') : Tabs L H' := by
  obtain ⟨_, _, _, _, S', _⟩ := S
  intro p hp
  obtain ⟨ps, h1, h2, h3⟩ := t p hp
  refine ⟨ps, e _ _ h1 (ne_of h1 S'.d (by intro z; cases z)) (ne_of h1 S'.l (by intro z; cases z)), h2, fun pos cv hc => ?_⟩
  obtain ⟨c, e1, e2⟩ := h3 pos cv hc
  exact ⟨c, e1, e _ _ e2 (ne_of e2 S'.d (by intro z; unfold CodeO at z; cases z)) (ne_of e2 S'.l (by intro z; unfold CodeO at z; cases z))⟩
theorem stAt_ext {H H' : Hp} {st lg cl : Addr} {n : Nat} (S : StAt H st lg cl n) (e : ExtN H H') : StAt H' st lg cl n := by
  obtain ⟨a, b, c, d, s, h⟩ := S
  exact ⟨a, b, c, d, { s with d := e _ _ s.d (fun _ z => by cases z), l := e _ _ s.l (fun _ z => by cases z), c := e _ _ s.c (fun _ z => by cases z) }, h⟩
theorem exV_tbl {c : Value} {d : Option Addr} {a : Addr} (ps : Array Value) : ExV c d a ≠ .tbl ps := fun z => by
  unfold ExV at z
  cases z
theorem exV_lst {c : Value} {d : Option Addr} {a : Addr} (xs : List V) : ExV c d a ≠ .lst xs := fun z => by
  unfold ExV at z
  cases z
theorem kit_self {K : PySem.W.Frag} {C : Addr} : PySem.W.kitOne K (.ref C) (.ref C) = some true := by
  unfold PySem.W.kitOne
  rw [if_pos (by simp)]
/-- the law's code object, and its table: FnG of a def that makes lambdas -/
theorem fnG_ofC {CX : CXT} {P : Program} {w : World} {K : PySem.W.Frag} {mg : Str → Option Value} {base : Heap} {k : Nat} {f c Pt : Addr} {x : Str} {st : Stmt} {fd : FuncData} {N ps : List Str} {sp : Sp} (LT : LamT K x st f fd c Pt) (S : FnScope N ps (defScope st))
    (len : ∀ vs H Q E, sp vs H Q E → vs.length = ps.length)
    (hbody : ∀ (A : Around) (outer : List Env) (s : Shared) (H : Hp) (vs : List V) (Q : VK) (E : XK), Room k (A.deeper (envOfC x (defScope st) s.heap.objs.size f (.ref c))) → A.guards = some [] → sp vs H Q E →
      ∃ t, PSs (cxOf CX P w K mg base N x (defScope st) f (.ref c) A outer s H E) (defBody st) t ∧ t { nx := fun _ H' => Q .non H', rt := Q } (L2.start N vs) H) : FnG P w K mg base CX (k + 1) f fd ps sp := by
  obtain ⟨oc, od, kV, doc, pm, an, ct, osl, rfl, lk, hcd⟩ := LT.ex
  exact ⟨len, fun A outer s H args us vs Q E hr hg e0 hb r h => run_ofS lk hcd S hr e0 hb r (len _ _ _ _ h) fun hr' => hbody A outer s H vs Q E hr' hg h⟩
/-- the lambda in the call itself, beside all tables -/
theorem pe_caught1 {X : Cx} (T : Top X.K X.mg) {TT : List (Addr × Str)} {c Pt : Addr} {k : Nat} {params : Arguments} {body : Expr} {scope : Scope} {t : XK → TE} {p lpos pos : Pos} (TB : TabB X.base X.mg c Pt) (hcode : X.env.code = .ref c) (hr : Room (k + 2) X.A) (hg : Gl X "_law_caught")
    (mem : (Pt, X.env.qual ++ "<lambda>") ∈ TT) (one : ∀ q ∈ TT, q.1 = Pt → q.2 = X.env.qual ++ "<lambda>") (L : LamS X.env.scope scope)
    (hdef : defaultsOf params X.env = ([], [])) (hbind : ∀ (q : Str) (cl : List (Str × Addr)) (pm cv ctv : Value), bindArgs (PySem.W.kla_fn "<lambda>" q params body scope cl pm cv ctv) ⟨[], []⟩ = pure [])
    (hbody : ∀ (A : Around) (outer : List Env) (s : Shared) (H : Hp) (E : XK) (f c' : Addr), Room k (A.deeper (lamEnv X scope s.heap.objs.size f c')) → PE (lamCx X A outer s H E scope f c') body (t E)) :
    PE X (.Call (.Name "_law_caught" p) [.Lambda params body scope lpos] [] pos) (tLam TT (TCaught X.K T.reel.C) t) := by
  obtain ⟨oc, od, kV, doc, pm, an, cdv, ct, osl, ed, lk, hcd⟩ := T._law_caught.f.ex
  have hb := bd__law_caught T
  rw [ed] at lk hb
  exact pe_lamcall (T := TT) hg T._law_caught.m T._law_caught.f.kp lk hcd hb sc__law_caught rfl (.inl rfl)
    (caught_gives sc__law_caught rfl rfl rfl rfl T.reel.g (by decide) (by decide) (by decide) (by decide) (by decide)) TB hcode mem one hr L hdef hbind hbody
theorem one_q {Pk Pt : Addr} (nP : Pk ≠ Pt) : ∀ q ∈ tabs Pk Pt, q.1 = Pt → q.2 = lamQ := fun q hq e => by
  rcases List.mem_cons.mp hq with rfl | hq
  · exact absurd e nP
  · rcases List.mem_singleton.mp hq with rfl
    rfl
theorem one_k {Pk Pt : Addr} (nP : Pk ≠ Pt) : ∀ q ∈ tabs Pk Pt, q.1 = Pk → q.2 = lamK := fun q hq e => by
  rcases List.mem_cons.mp hq with rfl | hq
  · rfl
  · rcases List.mem_singleton.mp hq with rfl
    exact absurd e.symm nP
theorem off_tup {H : Hp} {st lg cl p : Addr} {m : Nat} {xs : List V} (S : StAt H st lg cl m) (e : H p = some (.tup xs)) : p ≠ st ∧ p ≠ lg := by
  obtain ⟨_, _, _, _, S', _⟩ := S
  exact ⟨ne_of e S'.d (by intro z; cases z), ne_of e S'.l (by intro z; cases z)⟩
section
open Builtin Builtin.Str
theorem whole_takes {p : Nat → Bool} : ∀ l : List Nat, (∀ c ∈ l, p c = true) → l.takeWhile p = l
  | [], _ => rfl
  | c :: r, h => by rw [List.takeWhile_cons, h c List.mem_cons_self, if_pos rfl, whole_takes r fun d hd => h d (List.mem_cons_of_mem _ hd)]
theorem strip_ones {s : Str} (h : Ones s) : Txt.stripChars s "01" = "" := by
  have hg : ∀ c ∈ s.cps.toList, ("01" : Str).cps.contains c = true := fun c hc => by
    rcases h c hc with e | e <;> (subst e; decide +kernel)
  have hl : stripLo ("01" : Str).cps.contains true s = s.length := by
    have e : s.cps.toList.takeWhile ("01" : Str).cps.contains = s.cps.toList := whole_takes _ hg
    simp only [stripLo, if_true]
    rw [e]
    simp [Str.length]
  unfold Txt.stripChars
  rw [PyProof.Rows.stripBy_eq, hl]
  have hh := (hi_facts ("01" : Str).cps.contains s s.length (Nat.le_refl _))
  have e : stripHi ("01" : Str).cps.contains true s s.length = s.length := by omega
  rw [e]
  unfold strSub
  have : s.cps.extract s.length s.length = #[] := by
    simp
    exact Nat.min_le_left _ _
  rw [this]
  rfl
theorem isBits_ones {s : Str} (h : Ones s) : isBits (.str s) = true := by
  show decide (V.str (Txt.stripChars s "01") = V.str "") = true
  rw [strip_ones h]
  exact decide_eq_true rfl
end
/-! ### what a lambda comes to -/
def Er1 (C st lg : Addr) (H : Hp) (y : V) : Prop := ∃ a, y = .ref a ∧ H a = some (ExV (.ref C) none a) ∧ a ≠ st ∧ a ≠ lg
def Er2 (C st lg : Addr) (f : Str) (x : V) (H : Hp) (y : V) : Prop := ∃ a d, y = .ref a ∧ H a = some (ExV (.ref C) (some d) a) ∧ H d = some (.xd [(f, x)]) ∧ (a ≠ st ∧ a ≠ lg) ∧ d ≠ st ∧ d ≠ lg
theorem Er1.kn {C st lg : Addr} {H H' : Hp} {y : V} (h : Er1 C st lg H y) (k : KpN st lg H H') : Er1 C st lg H' y := by
  obtain ⟨a, rfl, e, n1, n2⟩ := h
  exact ⟨a, rfl, k _ _ e n1 n2 exV_tbl, n1, n2⟩
theorem Er2.kn {C st lg : Addr} {f : Str} {x : V} {H H' : Hp} {y : V} (h : Er2 C st lg f x H y) (k : KpN st lg H H') : Er2 C st lg f x H' y := by
  obtain ⟨a, d, rfl, e, g, n, m⟩ := h
  exact ⟨a, d, rfl, k _ _ e n.1 n.2 exV_tbl, k _ _ g m.1 m.2 (fun ps z => by cases z), n, m⟩
theorem KpN.same {st lg : Addr} {H H' : Hp} (s : Same H H') : KpN st lg H H' := .kp (.same s)
theorem KpN.lst {st lg : Addr} {H H' : Hp} (k : KpN st lg H H') {a : Addr} {xs : List V} (n : a ≠ st ∧ a ≠ lg) (e : H a = some (.lst xs)) : H' a = some (.lst xs) := k a _ e n.1 n.2 fun ps z => by cases z
theorem KpN.dK {st lg : Addr} {H H' : Hp} (k : KpN st lg H H') {a : Addr} {xs : List (Key × V)} (n : a ≠ st ∧ a ≠ lg) (e : H a = some (.dK xs)) : H' a = some (.dK xs) := k a _ e n.1 n.2 fun ps z => by cases z
theorem KpN.tup {st lg cl : Addr} {m : Nat} {H H' : Hp} (k : KpN st lg H H') (S : StAt H st lg cl m) {a : Addr} {xs : List V} (e : H a = some (.tup xs)) : H' a = some (.tup xs) := by
  obtain ⟨_, _, _, _, S', _⟩ := S
  exact k a _ e (ne_of e S'.d (by intro z; cases z)) (ne_of e S'.l (by intro z; cases z)) (fun _ z => by cases z)
theorem caught_all {K : PySem.W.Frag} {mg : Str → Option Value} (T : Top K mg) {C1 C2 Pk Pt st lg cl : Addr} {m m' : Nat} {f : Str} {x : V} {t : XK → TE} {σ : L2.St} {H : Hp} {Q : VK} (F0 F1 F2 : Prop) (x1 : F1 → PySem.W.exmOne K (.ref C1) (.ref T.reel.C) = some true) (x2 : F2 → PySem.W.exmOne K (.ref C2) (.ref T.reel.C) = some true)
    (hT : Tabs (tabs Pk Pt) H) (S : StAt H st lg cl m)
    (A : ∀ (H1 : Hp) (E : XK) (Q1 : VK), ExtN H H1 → StAt H1 st lg cl m → (F0 → ∀ v H2, Kp st lg H1 H2 → StAt H2 st lg cl m' → Q1 v H2) → (F1 → ∀ H2, Kp st lg H1 H2 → StAt H2 st lg cl m' → E (.ref C1) none H2) → (F2 → ∀ H2 d, Kp st lg H1 H2 → StAt H2 st lg cl m' → H2 d = none → E (.ref C2) (some d) (upd H2 d (.xd [(f, x)]))) → t E σ H1 Q1)
    (k0 : F0 → ∀ H', StAt H' st lg cl m' → Tabs (tabs Pk Pt) H' → KpN st lg H H' → Q .non H')
    (k1 : F1 → ∀ y H', StAt H' st lg cl m' → Tabs (tabs Pk Pt) H' → KpN st lg H H' → Er1 C1 st lg H' y → Q y H')
    (k2 : F2 → ∀ y H', StAt H' st lg cl m' → Tabs (tabs Pk Pt) H' → KpN st lg H H' → Er2 C2 st lg f x H' y → Q y H') : tLam (tabs Pk Pt) (TCaught K T.reel.C) t σ H Q := by
  refine ⟨hT, fun H1 e1 t1 Q1 hQ1 => A H1 _ Q1 e1 (stAt_ext S e1) (fun h v H2 kp S2 => ?_) (fun h H2 kp S2 => ⟨x1 h, fun a ha => ?_⟩) fun h H2 d kp S2 hd => ⟨x2 h, fun a ha => ?_⟩⟩
  · have t2 := tabs_kp t1 (stAt_ext S e1) kp
    exact hQ1 v H2 (k0 h _ S2 t2 ((KpN.ext e1).trans (.kp kp)))
  · have t2 := tabs_kp t1 (stAt_ext S e1) kp
    have n2 := Same.new (o := ExV (.ref C1) none a) ha
    exact k1 h _ _ (S2.same n2) (t2.ext n2) (((KpN.ext e1).trans (.kp kp)).trans (.same n2)) ⟨a, rfl, upd_same, S2.off ha⟩
  · have t2 := tabs_kp t1 (stAt_ext S e1) kp
    have n1 := Same.new (o := .xd [(f, x)]) hd
    have n2 := Same.new (o := ExV (.ref C2) (some d) a) ha
    have s12 := n1.trans n2
    exact k2 h _ _ (S2.same s12) (t2.ext s12) (((KpN.ext e1).trans (.kp kp)).trans (.same s12)) ⟨a, d, rfl, upd_same, n2 _ _ upd_same, (S2.same n1).off ha, S2.off hd⟩
theorem Cr.kn {st lg cl : Addr} {m : Nat} {H H' : Hp} {d b : Addr} {h : Hdv} (c : Cr H d b h) (n : d ≠ st ∧ d ≠ lg) (S : StAt H st lg cl m) (k : KpN st lg H H') : Cr H' d b h := ⟨k.dK n c.d, k.tup S c.b⟩
end K08
namespace K08
open PySem PySem.Spec PyProof.Rows L2 PySem.W LamX KA KW KU KL KT
/-! ### the law's five numbers and the head that is read -/
def szs : List Nat := [2, 3, 3, 3, 3, 3, 3, 3, 3, 3, 3, 3]
def offS (n : Nat) : Nat := (szs.take n).sum
def sliceS (pl : List Nat) (j : Nat) : List Nat := (pl.drop (offS j)).take (szs.getD j 0)
def fiveL (pl : List Nat) (n : Nat) : List Nat := (List.range n).map fun j => valL (sliceS pl j)
def fiveT (pl : List Nat) : List Nat := (List.range 8).map fun j => valL (sliceS pl (j + 4))
def fiveH (pl : List Nat) : Hdv := ⟨(valL (sliceS pl 0) : Nat), (valL (sliceS pl 1) : Nat), (valL (sliceS pl 2) : Nat), (valL (sliceS pl 3) : Nat), fiveT pl⟩
theorem slice_part (W : List Nat) (s j : Nat) (hj : j < 11) : valL (sliceS ((W.drop s).take 35) (j + 1)) = partN W s j := by
  have e1 : ∀ j, j < 11 → offS (j + 1) = 2 + 3 * j ∧ szs.getD (j + 1) 0 = 3 := by decide
  obtain ⟨e2, e3⟩ := e1 j hj
  unfold sliceS partN
  rw [e2, e3, List.drop_take, List.drop_drop, List.take_take, Nat.min_eq_left (by omega), Nat.add_assoc]
theorem five_raw (W : List Nat) (s : Nat) : fiveH ((W.drop s).take 35) = rawH W s := by
  have e0 : valL (sliceS ((W.drop s).take 35) 0) = valL ((W.drop s).take 2) := by
    unfold sliceS
    rw [show offS 0 = 0 from rfl, List.drop_zero, show szs.getD 0 0 = 2 from rfl, List.take_take]
    rfl
  have e8 : fiveT ((W.drop s).take 35) = (List.range 8).map fun j => partN W s (j + 3) := by
    unfold fiveT
    refine List.map_congr_left fun j hj => ?_
    have hj := List.mem_range.mp hj
    exact slice_part W s (j + 3) (by omega)
  unfold fiveH rawH
  rw [e0, slice_part W s 0 (by decide), slice_part W s 1 (by decide), slice_part W s 2 (by decide), e8]
theorem within_nn {n : Nat} {m : Int} : within (.int (n : Int)) 0 m = decide ((n : Int) ≤ m) := by
  show (decide ((0 : Int) ≤ (n : Int)) && decide ((n : Int) ≤ m)) = _
  rw [decide_eq_true (by omega), Bool.true_and]
def dueH (h : Hdv) : Option Str := dueO (.int h.kd) (.int h.lo) (.int h.gr) (.int h.re) (some (NV h.ns))
theorem due_raw (W : List Nat) (s : Nat) : dueH (rawH W s) = none ↔ fitsH (rawH W s) = true := by
  have p0 := partN_lt W s 0
  have p1 := partN_lt W s 1
  unfold dueH dueO fitsH
  have ek : (rawH W s).kd = ((valL ((W.drop s).take 2) : Nat) : Int) := rfl
  have el : (rawH W s).lo = ((partN W s 0 : Nat) : Int) := rfl
  have eg : (rawH W s).gr = ((partN W s 1 : Nat) : Int) := rfl
  have er : (rawH W s).re = ((partN W s 2 : Nat) : Int) := rfl
  rw [ek, el, eg, er, within_nn, within_nn, within_nn, within_nn]
  rw [if_neg (c := decide (((partN W s 0 : Nat) : Int) ≤ 7) = false) (by rw [decide_eq_true (by omega)]; decide), if_neg (c := decide (((partN W s 1 : Nat) : Int) ≤ 7) = false) (by rw [decide_eq_true (by omega)]; decide)]
  show _ ↔ (decide (((valL ((W.drop s).take 2) : Nat) : Int) ≤ 2) && decide (((partN W s 2 : Nat) : Int) ≤ 4) && bookB ((valL ((W.drop s).take 2) : Nat) : Int) (some (NV (rawH W s).ns))) = true
  rw [show intOf (.int ((valL ((W.drop s).take 2) : Nat) : Int)) = ((valL ((W.drop s).take 2) : Nat) : Int) from rfl]
  cases decide (((valL ((W.drop s).take 2) : Nat) : Int) ≤ 2) with
  | false => simp
  | true =>
    cases decide (((partN W s 2 : Nat) : Int) ≤ 4) with
    | false => simp
    | true =>
      cases bookB ((valL ((W.drop s).take 2) : Nat) : Int) (some (NV (rawH W s).ns)) with
      | false => simp
      | true => simp
theorem read_due {W : List Nat} {s : Nat} (hs : s ≤ W.length) (l : ((W.drop s).take 35).length = 35) (d : dueH (rawH W s) = none) : readO (txt W) s = some (rawH W s) ∧ s + 35 ≤ W.length := by
  have hl : s + 35 ≤ W.length := by
    rw [List.length_take, List.length_drop] at l
    omega
  unfold readO
  rw [txt_len, if_neg (by omega)]
  show (if fitsH (rawH W s) = true then some (rawH W s) else none) = _ ∧ _
  rw [if_pos ((due_raw W s).mp d)]
  exact ⟨rfl, hl⟩
theorem read_not {W : List Nat} {s : Nat} (d : ((W.drop s).take 35).length = 35 → dueH (rawH W s) ≠ none) : readO (txt W) s = none := by
  unfold readO
  rw [txt_len]
  by_cases c : W.length < s + 35
  · rw [if_pos c]
  · rw [if_neg c]
    show (if fitsH (rawH W s) = true then some (rawH W s) else none) = _
    rw [if_neg]
    exact fun z => d (by rw [List.length_take, List.length_drop]; omega) ((due_raw W s).mpr z)
theorem hok_raw {W : List Nat} {s : Nat} (d : dueH (rawH W s) = none) : Hok (rawH W s) := by
  have f := (due_raw W s).mp d
  unfold fitsH at f
  rw [Bool.and_eq_true, Bool.and_eq_true, decide_eq_true_eq, decide_eq_true_eq] at f
  have p0 := partN_lt W s 0
  have p1 := partN_lt W s 1
  refine ⟨?_, f.1.1, ?_, ?_, ?_, ?_, ?_, f.1.2, f.2⟩
  · show (0 : Int) ≤ ((valL ((W.drop s).take 2) : Nat) : Int); omega
  · show (0 : Int) ≤ ((partN W s 0 : Nat) : Int); omega
  · show ((partN W s 0 : Nat) : Int) ≤ 7; omega
  · show (0 : Int) ≤ ((partN W s 1 : Nat) : Int); omega
  · show ((partN W s 1 : Nat) : Int) ≤ 7; omega
  · show (0 : Int) ≤ ((partN W s 2 : Nat) : Int); omega
theorem read_any {K : PySem.W.Frag} {CB CA CS C : Addr} {H : Hp} {Q : VK} {E : XK} {z : Str} {a : Nat} (oz : Ones z) (lz : z.length ≤ 900) (la : a ≤ z.length)
    (kn : readO z a = none → ∀ H', Same H H' → ∀ d, H' d = none → E (.ref CS) (some d) (upd H' d (.xd [("at", .int (a : Int))])))
    (ks : ∀ h, readO z a = some h → ∀ H' x t, Same H H' → Hd C H' x h → H' t = some (.tup [x, .int ((a + 35 : Nat) : Int)]) → Q (.ref t) H') : spReadH K CB CA CS C [.str z, .int (a : Int)] H Q E := by
  refine ⟨_, _, _, _, rfl, .str z, .int _, fun z' e => by cases e; exact lz, fun q => ?_, fun z' e ib => ⟨by cases e; exact oz, fun q => ?_, fun a' ea la' => ⟨fun q => ?_, fun h' e' H' x t s hd et => ?_⟩⟩⟩
  · rw [isBits_ones oz] at q
    cases q
  · cases e
    exfalso
    have q : (decide ((0 : Int) ≤ (a : Int)) && decide ((a : Int) ≤ ((z.length : Nat) : Int))) = false := q
    rw [decide_eq_true (by omega), decide_eq_true (by omega)] at q
    cases q
  · cases e
    have : a' = a := by injection ea with ea; omega
    subst this
    exact kn q
  · cases e
    have : a' = a := by injection ea with ea; omega
    subst this
    exact ks h' e' H' x t s hd et
theorem read_good {K : PySem.W.Frag} {CB CA CS C : Addr} {H : Hp} {Q : VK} {E : XK} {z : Str} {a : Nat} {h : Hdv} (oz : Ones z) (lz : z.length ≤ 900) (la : a ≤ z.length) (rd : readO z a = some h)
    (k : ∀ H' x t, Same H H' → Hd C H' x h → H' t = some (.tup [x, .int ((a + 35 : Nat) : Int)]) → Q (.ref t) H') : spReadH K CB CA CS C [.str z, .int (a : Int)] H Q E :=
  read_any oz lz la (fun q => by rw [rd] at q; cases q) fun h' e => by rw [rd] at e; cases e; exact k
end K08
namespace K08
open PySem PySem.Spec PyProof.Rows L2 PySem.W LamX KA KW KU KL KT
open Evl (pss_cut tCut)
/-! ### what is read is right -/
theorem zero_one {x : V} (h : x ∈ [V.str "0", .str "1"]) : ∃ c, x = .str (txt [c]) ∧ (c = 48 ∨ c = 49) := by
  simp only [List.mem_cons, List.not_mem_nil, or_false] at h
  rcases h with h | h <;> subst h
  · exact ⟨48, rfl, .inl rfl⟩
  · exact ⟨49, rfl, .inr rfl⟩
theorem one_sum (l : List Nat) : ((l.map fun c => txt [c]).map (·.length)).sum = l.length := by
  induction l with
  | nil => rfl
  | cons c l ih => rw [List.map_cons, List.map_cons, List.sum_cons, ih, List.length_cons]; show 1 + _ = _; omega
theorem join_one (l : List Nat) : Txt.join "" (l.map fun c => txt [c]) = txt l := by
  rw [show (l.map fun c => txt [c]) = (l.map fun c => [c]).map txt by rw [List.map_map]; rfl, join_txt]
  congr 1
  induction l with
  | nil => rfl
  | cons c l ih => rw [List.map_cons, List.flatten_cons, ih]; rfl
def spRRight (Pk Pt : Addr) : Sp := fun vs H Q _ => ∃ (st lg cl d b : Addr) (h : Hdv) (m : Nat), vs = [.ref st, .str (txt (headL h)), .ref d] ∧ Cr H d b h ∧ Hok h ∧ (d ≠ st ∧ d ≠ lg) ∧ m ≤ 800000 ∧ StAt H st lg cl m ∧ Tabs (tabs Pk Pt) H ∧
  ∀ H', StAt H' st lg cl (m + 20) → Tabs (tabs Pk Pt) H' → KpN st lg H H' → Q (.bl true) H'
section
variable {P : Program} {w : World} {K : PySem.W.Frag} {mg : Str → Option Value} {base : Heap} (T : Top K mg) (MD : ModesT K mg) (HD : HeadT K mg) (BH : BadHeadT P w K mg T.reel.C) (HQ : HeadQ K mg HD) (ST : StreamT P w K mg T.reel.C)
include MD HD BH HQ ST in
theorem ok_rright {c Pk Pt : Addr} (nP : Pk ≠ Pt) (LT : LamT K "_law_read_right" s__law_read_right T._law_read_right.a T._law_read_right.d c Pk) (TB : TabB base mg c Pk) : FnG P w K mg base (L2.CX P w) 11 T._law_read_right.a T._law_read_right.d ["_law_state", "_law_signs", "_law_crown_here"] (spRRight Pk Pt) := by
  refine fnG_ofC LT sc__law_read_right (fun vs H Q E h => ?_) (fun A outer s0 H vs Q E hr hg h => ?_)
  · obtain ⟨st, lg, cl, d, b, h, m, rfl, _⟩ := h
    rfl
  · obtain ⟨st, lg, cl, d, b, h, m, rfl, cr, ok, nd, hm, S, Tb, k⟩ := h
    refine ⟨_, (pss_cons (ps_set (i := 4) sc__law_read_right.nd rfl (by first | exact .inl rfl | exact .inr rfl) (pe_join pe_str (pe_lc (own := [("_law_spot", 3)]) (g := (gName 3)) (tt := tYes) rfl sc__law_read_right.nd (pi_range1 (by rfl) T.b_range (pa_cons (pe_call (ok_draw T) (hr.mono (by decide)) (by rfl) T._law_draw.m T._law_draw.f.kp (bd__law_draw T) .nil passE (pa_cons (pv 0) (pa_cons pe_int pa_nil))) pa_nil)) (blkOk_by (own := [("_law_spot", 3)]) (N := ["_law_state", "_law_signs", "_law_crown_here", "_law_spot", "_law_front", "_law_told", "_law_part", "_law_size_here", "_law_five", "_law_index", "_law_size_one", "_law_caught_here", "_law_whole", "_law_k", "_law_sign"]) (sc := defScope s__law_read_right) (by decide +kernel)) (fun _ _ _ _ _ => pg_name (i := 3) sc__law_read_right.nd rfl (by first | exact .inl rfl | exact .inr rfl)) (fun _ _ _ _ _ => pts_nil) (fun _ _ _ _ _ => (pe_call (ok_pick T) (hr.mono (by decide)) (by rfl) T._law_pick.m T._law_pick.f.kp (bd__law_pick T) .nil passE (pa_cons (pv 0) (pa_cons (pe_lst (pa_cons pe_str (pa_cons pe_str pa_nil))) pa_nil)))))))
      (pss_cons (ps_set (i := 12) sc__law_read_right.nd rfl (by first | exact .inl rfl | exact .inr rfl) (pe_op op_add_str (pe_op op_add_str (pv 4) (pv 1)) (pe_join pe_str (pe_lc (own := [("_law_spot", 3)]) (g := (gName 3)) (tt := tYes) rfl sc__law_read_right.nd (pi_range1 (by rfl) T.b_range (pa_cons (pe_call (ok_draw T) (hr.mono (by decide)) (by rfl) T._law_draw.m T._law_draw.f.kp (bd__law_draw T) .nil passE (pa_cons (pv 0) (pa_cons pe_int pa_nil))) pa_nil)) (blkOk_by (own := [("_law_spot", 3)]) (N := ["_law_state", "_law_signs", "_law_crown_here", "_law_spot", "_law_front", "_law_told", "_law_part", "_law_size_here", "_law_five", "_law_index", "_law_size_one", "_law_caught_here", "_law_whole", "_law_k", "_law_sign"]) (sc := defScope s__law_read_right) (by decide +kernel)) (fun _ _ _ _ _ => pg_name (i := 3) sc__law_read_right.nd rfl (by first | exact .inl rfl | exact .inr rfl)) (fun _ _ _ _ _ => pts_nil) (fun _ _ _ _ _ => (pe_call (ok_pick T) (hr.mono (by decide)) (by rfl) T._law_pick.m T._law_pick.f.kp (bd__law_pick T) .nil passE (pa_cons (pv 0) (pa_cons (pe_lst (pa_cons pe_str (pa_cons pe_str pa_nil))) pa_nil))))))))
      (pss_cons (ps_set (i := 5) sc__law_read_right.nd rfl (by first | exact .inl rfl | exact .inr rfl) (pe_lst (pa_cons (pe_call (ok_read_head T MD HD BH ST) (hr.mono (by decide)) (by rfl) T.read_head.m T.read_head.f.kp (bd_read_head T) .nil passE (pa_cons (pv 12) (pa_cons (pe_callB call_len_str (by rfl) T.b_len PySem.boot_len (pa_cons (pv 4) pa_nil)) pa_nil))) (pa_cons (pe_kw (ok_read_head T MD HD BH ST) (hr.mono (by decide)) (by rfl) T.read_head.m T.read_head.f.kp (KA.Fun.kw2 T.read_head.f fun _ _ _ _ _ _ _ _ => rfl) passE (pk_cons (pe_callB call_len_str (by rfl) T.b_len PySem.boot_len (pa_cons (pv 4) pa_nil)) (pk_cons (pv 12) pk_nil))) pa_nil))))
      (pss_cons (ps_if (pt_cmpR (show OpR _ _ (KNI.rNeP K HD.C (spEqH HD.C) E0) from KNI.op_neP (ok_eq T HD HQ) (hr.mono (by decide)) HQ.s HQ.i (HQ.F.binds fun _ _ _ _ _ _ us hl => match us, hl with | [_, _], _ => rfl) passE) (pv 5) (pe_op op_rep (pe_lst (pa_cons (pe_tup (pa_cons (pe_call (ok_lhead T MD HD BH) (hr.mono (by decide)) (by rfl) T._law_head.m T._law_head.f.kp (bd__law_head T) .nil passE (pa_cons (pv 2) pa_nil)) (pa_cons (pe_op op_add (pe_callB call_len_str (by rfl) T.b_len PySem.boot_len (pa_cons (pv 4) pa_nil)) pe_int) pa_nil))) pa_nil)) pe_int) (nomark _)) (pss_one (ps_ret pe_bl)) pss_nil)
      (pss_cons (ps_set (i := 3) sc__law_read_right.nd rfl (by first | exact .inl rfl | exact .inr rfl) (pe_call (ok_draw T) (hr.mono (by decide)) (by rfl) T._law_draw.m T._law_draw.f.kp (bd__law_draw T) .nil passE (pa_cons (pv 0) (pa_cons (pe_op op_add (pe_callB call_len_str (by rfl) T.b_len PySem.boot_len (pa_cons (pv 12) pa_nil)) pe_int) pa_nil))))
      (pss_cons (ps_par (i := 6) (j := 7) rfl sc__law_read_right.nd rfl rfl (by decide) rfl rfl (pa_cons (pe_slice sl_str (pv 12) (po_some (pv 3)) (po_some (pe_op op_add (pv 3) pe_int))) (pa_cons (pe_op op_cat (pe_lst (pa_cons pe_int (pa_cons pe_int (pa_cons pe_int (pa_cons pe_int pa_nil))))) (pe_op op_rep (pe_lst (pa_cons pe_int pa_nil)) pe_int)) pa_nil)) (by rfl))
      (pss_cons (ps_par (i := 8) (j := 9) rfl sc__law_read_right.nd rfl rfl (by decide) rfl rfl (pa_cons (pe_lst pa_nil) (pa_cons pe_int pa_nil)) (by rfl))
      (pss_cons (ps_for (passes_of rfl) rfl (pi_list (pv 7)) (pg_name (i := 10) sc__law_read_right.nd rfl (by first | exact .inl rfl | exact .inr rfl))
        (pss_cons (ps_expr (pe_bm PySem.F.plainAttrs_list PySem.F.slot_list_append PySem.F.type_list_append mt_append (pv 8) (pa_cons (pe_callB (cr_sum rfl) (by rfl) T.b_sum (by decide +kernel) (pa_cons (pe_lc (own := [("_law_k", 13), ("_law_sign", 14)]) (g := (gTup K 2 (gCons (gName 13) (gCons (gName 14) gNil)))) rfl sc__law_read_right.nd (KSR.pi_enumT (by rfl) T.b_enumerate (pa_cons (KSR.pe_revS (pe_slice sl_str (pv 6) (po_some (pv 9)) (po_some (pe_op op_add (pv 9) (pv 10))))) pa_nil)) (blkOk_by (own := [("_law_k", 13), ("_law_sign", 14)]) (N := ["_law_state", "_law_signs", "_law_crown_here", "_law_spot", "_law_front", "_law_told", "_law_part", "_law_size_here", "_law_five", "_law_index", "_law_size_one", "_law_caught_here", "_law_whole", "_law_k", "_law_sign"]) (sc := defScope s__law_read_right) (by decide +kernel)) (fun _ _ _ _ _ => pg_tup rfl (pgs_cons (pg_name (i := 13) sc__law_read_right.nd rfl (by first | exact .inl rfl | exact .inr rfl)) (pgs_cons (pg_name (i := 14) sc__law_read_right.nd rfl (by first | exact .inl rfl | exact .inr rfl)) pgs_nil))) (fun _ _ _ _ _ => pts_one (pt_cmpR op_eq (pv 14) pe_str (nomark _))) (fun _ _ _ _ _ => (pe_call (ok_two T) (hr.mono (by decide)) (by rfl) T._law_two.m T._law_two.f.kp (bd__law_two T) .nil passE (pa_cons (pv 13) pa_nil)))) pa_nil)) pa_nil)))
      (pss_one (ps_set (i := 9) sc__law_read_right.nd rfl (by first | exact .inl rfl | exact .inr rfl) (pe_op op_add (pv 9) (pv 10))))))
      (pss_cons (ps_set (i := 8) sc__law_read_right.nd rfl (by first | exact .inl rfl | exact .inr rfl) (pe_op op_cat (pe_slice sl_list (pv 8) po_none (po_some pe_int)) (pe_lst (pa_cons (pe_callTy call_tuple_of (by rfl) T.b_tuple (by decide +kernel) (pa_cons (pe_slice sl_list (pv 8) (po_some pe_int) po_none) pa_nil)) pa_nil))))
      (pss_cut (ps_set (i := 11) sc__law_read_right.nd rfl (by first | exact .inl rfl | exact .inr rfl) (pe_caught1 T TB rfl (show Room (8 + 2) _ from hr) (by rfl) List.mem_cons_self (one_k nP) (lamS_by (sc := defScope s__law_read_right) (by decide +kernel)) rfl (fun _ _ _ _ _ => rfl) (fun A outer s H E f c h => (pe_call (ok_read_head T MD HD BH ST) (h.mono (by decide)) (by rfl) T.read_head.m T.read_head.f.kp (bd_read_head T) .nil (passX rfl rfl rfl rfl) (pa_cons (pv 12) (pa_cons (pv 3) pa_nil))))))
      (pss_cons (ps_if (PW.pt (pw_and (pt_cmpR op_eq (pe_callB call_len_str (by rfl) T.b_len PySem.boot_len (pa_cons (pv 6) pa_nil)) pe_int (nomark _)) (pw_and1 (pt_cmpR (show OpR _ _ KIN.rIsN from op_isN) (pe_call (ok_ldue T) (hr.mono (by decide)) (by rfl) T._law_due.m T._law_due.f.kp (bd__law_due T) .nil passE (pa_cons (pv 8) pa_nil)) pe_non (nomark _))))) (pss_one (ps_ret (pe_and (pe_cmpR (show OpR _ _ KIN.rIsN from op_isN) (pv 11) pe_non (nomark _)) (pe_one (pe_cmpR op_eq (pe_call (ok_head_bits T HD BH) (hr.mono (by decide)) (by rfl) T.head_bits.m T.head_bits.f.kp (bd_head_bits T) .nil passE (pa_cons (pe_ix (show IxR _ (rIx K) from ix_seq) (pe_call (ok_read_head T MD HD BH ST) (hr.mono (by decide)) (by rfl) T.read_head.m T.read_head.f.kp (bd_read_head T) .nil passE (pa_cons (pv 12) (pa_cons (pv 3) pa_nil))) pe_int (fun _ _ => rfl)) pa_nil)) (pv 6) (nomark _)))))) pss_nil)
      (pss_one (ps_ret (pe_and (pe_callB (show CallR _ _ (rIs3 K) from call_is3) (by rfl) T.b_isinstance PyProof.Rows.boot_isinstance (pa_cons (pv 11) (pa_cons (pe_glob (v := .ref ST.C) (by rfl) ST.g rfl) pa_nil))) (pe_one (pe_cmpR op_eq (pe_upGet ST.u (pv 11)) (pv 3) (nomark _))))))))))))))))), ?_⟩
    refine ⟨⟨_, rfl⟩, ?_⟩
    refine ⟨_, rfl, st, lg, cl, 6, m, rfl, by decide, by decide, by omega, S, fun r1 Ha1 hr1 Sa1 ka1 => ⟨(r1 : Int), rfl, by omega, by omega, fun D1 hD1 => ?_⟩⟩
    have nD1 := Sa1.off hD1
    have ncD1 := offc Sa1 hD1
    rw [Int.toNat_natCast]
    refine lc_it (walk_rangeN (n := r1)) (fun i H' => ∃ l : List Nat, H' D1 = some (.lst (l.map fun c => V.str (txt [c]))) ∧ l.length = i ∧ BitL l ∧ StAt H' st lg cl (m + 1 + i) ∧ Kp st lg H H') ⟨[], upd_same, rfl, (fun y hy => nomatch hy), Sa1.same (Same.new hD1), ka1.trans (.same (Same.new hD1))⟩ (fun _ _ _ _ => trivial) ?_ ?_
    · rintro i y H6' H6 hi ⟨l, eD, hl, hb, S6, k6⟩ ⟨rfl, rfl⟩
      refine ⟨rfl, ?_⟩
      dsimp only [tYes]
      rw [if_pos rfl]
      refine ⟨_, rfl, (by show 2 ≤ sizeLine; decide), fun q hq => ?_⟩
      have tq := Same.new (o := .lst [V.str "0", .str "1"]) hq
      refine ⟨st, lg, cl, q, [V.str "0", .str "1"], m + 1 + i, rfl, upd_same, (S6.off hq).2, (by show 0 < 2; decide), (by show 2 ≤ 1000; decide), by omega, S6.same tq, fun x H7 hx S7 k7 => ?_⟩
      obtain ⟨cc, rfl, hcc⟩ := zero_one hx
      have k67 := (Kp.same tq).trans k7
      have eD7 := k67 _ _ eD nD1.1 nD1.2
      refine ⟨_, eD7, ?_, l ++ [cc], ?_, ?_, hb.app (fun c hc => by rw [List.mem_singleton.mp hc]; exact hcc), stAt_put S7 nD1.1 nD1.2 ncD1, Kp.put3 (k6.trans k67) (Kp.free ka1 Sa1 hD1)⟩
      · rw [List.length_map, hl]
        exact Nat.lt_of_lt_of_le (Nat.lt_trans hi hr1) (by decide)
      · rw [upd_same, List.map_append]
        rfl
      · rw [List.length_append, hl]; rfl
    rintro Hb1 ⟨l1, eD1, hl1, hb1, Sb1, kb1⟩
    refine ⟨"", D1, l1.map fun c => txt [c], rfl, rfl, .inl ?_, ?_, ?_⟩
    · rw [List.map_map]
      exact SqL.of eD1
    · rw [one_sum, List.length_map, hl1, show (Str.ofString "").length = 0 from rfl]
      exact Nat.le_trans (show _ ≤ 100 by omega) (by decide)
    rw [join_one]
    have h35 := headL_len ok
    refine ⟨_, rfl, _, rfl, _, _, rfl, rfl, ?_, ⟨_, rfl⟩, ?_⟩
    · rw [txt_len, txt_len, h35]
      exact Nat.le_trans (show _ ≤ 100 by omega) (by decide)
    show _
    refine ⟨_, rfl, st, lg, cl, 6, (m + 1 + r1), rfl, by decide, by decide, by omega, Sb1, fun r2 Ha2 hr2 Sa2 ka2 => ⟨(r2 : Int), rfl, by omega, by omega, fun D2 hD2 => ?_⟩⟩
    have nD2 := Sa2.off hD2
    have ncD2 := offc Sa2 hD2
    rw [Int.toNat_natCast]
    refine lc_it (walk_rangeN (n := r2)) (fun i H' => ∃ l : List Nat, H' D2 = some (.lst (l.map fun c => V.str (txt [c]))) ∧ l.length = i ∧ BitL l ∧ StAt H' st lg cl ((m + 1 + r1) + 1 + i) ∧ Kp st lg Hb1 H') ⟨[], upd_same, rfl, (fun y hy => nomatch hy), Sa2.same (Same.new hD2), ka2.trans (.same (Same.new hD2))⟩ (fun _ _ _ _ => trivial) ?_ ?_
    · rintro i y H6' H6 hi ⟨l, eD, hl, hb, S6, k6⟩ ⟨rfl, rfl⟩
      refine ⟨rfl, ?_⟩
      dsimp only [tYes]
      rw [if_pos rfl]
      refine ⟨_, rfl, (by show 2 ≤ sizeLine; decide), fun q hq => ?_⟩
      have tq := Same.new (o := .lst [V.str "0", .str "1"]) hq
      refine ⟨st, lg, cl, q, [V.str "0", .str "1"], (m + 1 + r1) + 1 + i, rfl, upd_same, (S6.off hq).2, (by show 0 < 2; decide), (by show 2 ≤ 1000; decide), by omega, S6.same tq, fun x H7 hx S7 k7 => ?_⟩
      obtain ⟨cc, rfl, hcc⟩ := zero_one hx
      have k67 := (Kp.same tq).trans k7
      have eD7 := k67 _ _ eD nD2.1 nD2.2
      refine ⟨_, eD7, ?_, l ++ [cc], ?_, ?_, hb.app (fun c hc => by rw [List.mem_singleton.mp hc]; exact hcc), stAt_put S7 nD2.1 nD2.2 ncD2, Kp.put3 (k6.trans k67) (Kp.free ka2 Sa2 hD2)⟩
      · rw [List.length_map, hl]
        exact Nat.lt_of_lt_of_le (Nat.lt_trans hi hr2) (by decide)
      · rw [upd_same, List.map_append]
        rfl
      · rw [List.length_append, hl]; rfl
    rintro Hb2 ⟨l2, eD2, hl2, hb2, Sb2, kb2⟩
    refine ⟨"", D2, l2.map fun c => txt [c], rfl, rfl, .inl ?_, ?_, ?_⟩
    · rw [List.map_map]
      exact SqL.of eD2
    · rw [one_sum, List.length_map, hl2, show (Str.ofString "").length = 0 from rfl]
      exact Nat.le_trans (show _ ≤ 100 by omega) (by decide)
    rw [join_one]
    refine ⟨_, _, rfl, rfl, ?_, ?_⟩
    · rw [txt_app, txt_len, txt_len, List.length_append, h35]
      exact Nat.le_trans (show _ ≤ 100 by omega) (by decide)
    dsimp only
    rw [txt_app, txt_app]
    have k2 : Kp st lg H Hb2 := kb1.trans kb2
    have lw : (l1 ++ headL h ++ l2).length = l1.length + 35 + l2.length := by rw [List.length_append, List.length_append, h35]
    have bw : BitL (l1 ++ headL h ++ l2) := (hb1.app (bitL_head h)).app hb2
    have rw_ : rawH (l1 ++ headL h ++ l2) l1.length = h := raw_head ok l1 l2
    have tb2 := tabs_kp Tb S k2
    have cr2 : Cr Hb2 d b h := cr.kn nd S (.kp k2)
    clear cr kb1 kb2 eD1 eD2 hD1 hD2 ncD1 ncD2 nD1 nD2
    generalize hW : l1 ++ headL h ++ l2 = W at lw bw rw_ ⊢
    have oW : Ones (txt W) := fun c hc => bw c hc
    have lW : (txt W).length ≤ 900 := by rw [txt_len]; omega
    have rd : readO (txt W) l1.length = some h := by
      unfold readO
      rw [txt_len, if_neg (by omega)]
      show (if fitsH (rawH W l1.length) = true then some (rawH W l1.length) else none) = _
      rw [rw_, if_pos]
      unfold fitsH
      rw [decide_eq_true ok.k1, decide_eq_true ok.r1, ok.b]
      rfl
    have l1s : (txt l1).length ≤ sizeLine := by rw [txt_len]; exact Nat.le_trans (show _ ≤ 100 by omega) (by decide)
    refine ⟨_, rfl, _, rfl, txt l1, rfl, l1s, ?_⟩
    rw [txt_len]
    show tNil _ Hb2 _
    unfold tNil
    show spReadH K T.BadBits.C T.BadAt.C ST.C HD.C [.str (txt W), .int (l1.length : Int)] Hb2 _ _
    refine read_good (a := l1.length) oW lW (by rw [txt_len]; omega) rd fun H3 x1 t1 s3 hx1 et1 => ?_
    refine ⟨_, rfl, txt l1, rfl, l1s, _, rfl, rfl, ?_⟩
    rw [txt_len]
    show spReadH K T.BadBits.C T.BadAt.C ST.C HD.C [.str (txt W), .int (l1.length : Int)] H3 _ _
    refine read_good (a := l1.length) oW lW (by rw [txt_len]; omega) rd fun H4 x2 t2 s4 hx2 et2 => ?_
    refine ⟨(by show 2 ≤ sizeLine; decide), fun lt hlt => ?_⟩
    have t5 := Same.new (o := .lst [V.ref t1, .ref t2]) hlt
    have elt : (upd H4 lt (.lst [V.ref t1, .ref t2])) lt = some (.lst [V.ref t1, .ref t2]) := upd_same
    have hx1 := (hx1.keep s4).keep t5
    have hx2 := hx2.keep t5
    have et1 := t5 _ _ (s4 _ _ et1)
    have et2 := t5 _ _ et2
    have s25 := (s3.trans s4).trans t5
    generalize upd H4 lt (.lst [V.ref t1, .ref t2]) = H5 at elt hx1 hx2 et1 et2 s25 ⊢
    clear t5 s3 s4 hlt
    have cr5 := cr2.keep s25
    refine ⟨_, rfl, _, rfl, d, b, h, rfl, cr5, ok, fun x3 H6 s6 n6 hx3 => ?_⟩
    refine ⟨_, rfl, txt l1, rfl, l1s, _, _, rfl, rfl, (by show 2 ≤ sizeLine; decide), fun t3 ht3 => ⟨(by show 1 ≤ sizeLine; decide), fun q hq => ?_⟩⟩
    have u1 := Same.new (o := .tup [V.ref x3, (fun i j => V.int (i + j)) ((txt l1).length : Int) 35]) ht3
    have u2 := Same.new (o := .lst [V.ref t3]) hq
    refine ⟨q, 2, [.ref t3], rfl, rfl, upd_same, by decide, by decide, (by show 1 * 2 ≤ sizeLine; decide), fun p hp => ?_⟩
    have u3 := Same.new (o := .lst (List.replicate (Int.toNat 2) [V.ref t3]).flatten) hp
    have su := (u1.trans u2).trans u3
    have s6' := s6.trans su
    have ep : (upd (upd (upd H6 t3 (.tup [V.ref x3, (fun i j => V.int (i + j)) ((txt l1).length : Int) 35])) q (.lst [V.ref t3])) p (.lst (List.replicate (Int.toNat 2) [V.ref t3]).flatten)) p = some (.lst [V.ref t3, .ref t3]) := upd_same
    have et3 := (u2.trans u3) _ _ (upd_same (H := H6) (a := t3) (o := .tup [V.ref x3, (fun i j => V.int (i + j)) ((txt l1).length : Int) 35]))
    have hx3 := hx3.keep su
    have hx1 := hx1.keep s6'
    have hx2 := hx2.keep s6'
    have et1 := s6' _ _ et1
    have et2 := s6' _ _ et2
    have elt := s6' _ _ elt
    have cr7 := cr5.keep s6'
    have s27 := s25.trans s6'
    generalize upd (upd (upd H6 t3 (.tup [V.ref x3, (fun i j => V.int (i + j)) ((txt l1).length : Int) 35])) q (.lst [V.ref t3])) p (.lst (List.replicate (Int.toNat 2) [V.ref t3]).flatten) = H7 at ep et3 hx3 hx1 hx2 et1 et2 elt cr7 s27 ⊢
    have et3 : H7 t3 = some (.tup [V.ref x3, .int ((l1.length + 35 : Nat) : Int)]) := by
      rw [et3, txt_len]
      rfl
    have pe : ∀ (t : Addr) (x : V), H7 t = some (.tup [x, .int ((l1.length + 35 : Nat) : Int)]) → Hd HD.C H7 x h → KNI.PairE K H7 HD.C (spEqH HD.C) E0 (.ref t) (.ref t3) := fun t x et hx => by
      have ty := hx3.ty HD
      have hx' := hx
      obtain ⟨a, dx, b', rfl, ea, _⟩ := hx
      exact ⟨t, t3, a, x3, dx, _, _, _, rfl, rfl, et, et3, ea, ty, by simp [PySem.W.notFirst], _, _, _, h, rfl, hx', .hd hx3, _, rfl, by simp, rfl⟩
    refine ⟨lt, p, _, _, rfl, rfl, SqL.of elt, SqL.of ep, rfl, fun i x y e1 e2 => ?_, _, rfl, ?_⟩
    · match i, e1, e2 with
      | 0, e1, e2 => cases e1; cases e2; exact pe t1 x1 et1 hx1
      | 1, e1, e2 => cases e1; cases e2; exact pe t2 x2 et2 hx2
    refine iteF ?_
    have S7 := Sb2.same s27
    have Tb7 := tb2.ext s27
    have kH7 : Kp st lg H H7 := k2.trans (.same s27)
    clear Sb1 Sb2 tb2 s27 s25 s6 s6' su u1 u2 u3 ep elt et1 et2 et3 hx1 hx2 hx3 cr2 cr5 pe k2 hp hq ht3 n6
    have lWs : (txt W).length ≤ sizeLine := by rw [txt_len, lw]; exact Nat.le_trans (show _ ≤ 100 by omega) (by decide)
    refine ⟨_, rfl, _, rfl, txt W, rfl, lWs, _, _, rfl, rfl, st, lg, cl, W.length + 1, (m + 1 + r1) + 1 + r2, (by rw [txt_len]; rfl), by omega, Nat.lt_of_le_of_lt (show _ ≤ 1000 by omega) (by decide), by omega, S7, fun s H8 hs S8 k8 => ?_⟩
    have kH8 := kH7.trans k8
    have Tb8 := tabs_kp Tb7 S7 k8
    have cr8 : Cr H8 d b h := cr7.kn nd S7 (.kp k8)
    clear cr7 Tb7
    refine ⟨_, rfl, _, rfl, _, rfl, _, rfl, _, _, rfl, rfl, _, rfl, txt W, rfl, lWs, ?_⟩
    refine ⟨(by show 4 ≤ sizeLine; decide), fun q1 h1 => ⟨(by show 1 ≤ sizeLine; decide), fun q2 h2 => ⟨q2, 8, _, rfl, rfl, upd_same, by decide, by decide, (by show 1 * 8 ≤ sizeLine; decide), fun q3 h3 => ?_⟩⟩⟩
    have u1 := Same.new (o := .lst (NV [2, 3, 3, 3])) h1
    have u2 := Same.new (o := .lst (NV [3])) h2
    have u3 := Same.new (o := .lst (NV [3, 3, 3, 3, 3, 3, 3, 3])) h3
    refine ⟨q1, q3, _, _, rfl, rfl, (u2.trans u3) _ _ upd_same, upd_same, (by show 4 + 8 ≤ sizeLine; decide), fun q4 h4 => ?_⟩
    have u4 := Same.new (o := .lst (NV szs)) h4
    refine ⟨_, _, rfl, (by show 0 ≤ sizeLine; decide), fun f hf => ?_⟩
    have u5 := Same.new (o := .lst []) hf
    have s9 : Same H8 (upd (upd (upd (upd (upd H8 q1 (.lst (NV [2, 3, 3, 3]))) q2 (.lst (NV [3]))) q3 (.lst (NV [3, 3, 3, 3, 3, 3, 3, 3]))) q4 (.lst (NV szs))) f (.lst [])) := (((u1.trans u2).trans u3).trans u4).trans u5
    have e4 : (upd (upd (upd (upd (upd H8 q1 (.lst (NV [2, 3, 3, 3]))) q2 (.lst (NV [3]))) q3 (.lst (NV [3, 3, 3, 3, 3, 3, 3, 3]))) q4 (.lst (NV szs))) f (.lst [])) q4 = some (.lst (NV szs)) := u5 _ _ upd_same
    have ef : (upd (upd (upd (upd (upd H8 q1 (.lst (NV [2, 3, 3, 3]))) q2 (.lst (NV [3]))) q3 (.lst (NV [3, 3, 3, 3, 3, 3, 3, 3]))) q4 (.lst (NV szs))) f (.lst [])) f = some (.lst []) := upd_same
    have nq : q4 ≠ f := ne_of_none (upd_same (a := q4) (o := .lst (NV szs))) hf
    have hfH8 : H8 f = none := (((u1.trans u2).trans u3).trans u4).free hf
    refine ⟨_, _, rfl, ?_⟩
    change tSeq _ _ _ _ (upd (upd (upd (upd (upd H8 q1 (.lst (NV [2, 3, 3, 3]))) q2 (.lst (NV [3]))) q3 (.lst (NV [3, 3, 3, 3, 3, 3, 3, 3]))) q4 (.lst (NV szs))) f (.lst []))
    generalize upd (upd (upd (upd (upd H8 q1 (.lst (NV [2, 3, 3, 3]))) q2 (.lst (NV [3]))) q3 (.lst (NV [3, 3, 3, 3, 3, 3, 3, 3]))) q4 (.lst (NV szs))) f (.lst []) = H9 at s9 e4 ef ⊢
    clear u1 u2 u3 u4 u5 h1 h2 h3 h4 hf
    have ep : cutS (txt W) (some ((s : Nat) : Int)) (some (((s : Nat) : Int) + 35)) = txt ((W.drop s).take 35) := by
      rw [show ((s : Nat) : Int) + 35 = ((s + 35 : Nat) : Int) by omega, cut_nat, Nat.add_sub_cancel_left]
      rfl
    rw [ep]
    have bp : BitL ((W.drop s).take 35) := fun c hc => bw c (List.mem_of_mem_drop (List.mem_of_mem_take hc))
    have lp : ((W.drop s).take 35).length ≤ 35 := by rw [List.length_take]; exact Nat.min_le_left _ _
    generalize hP : (W.drop s).take 35 = pl at bp lp ⊢
    have lps : (txt pl).length ≤ sizeLine := by rw [txt_len]; exact Nat.le_trans lp (by decide)
    refine ⟨_, rfl, q4, rfl, ⟨_, SqL.of e4⟩, for_it (walk_list (xs := NV szs)) (fun n σ H' => (∃ v10, σ = [some (.ref st), some (.str (txt (headL h))), some (.ref d), some (.int (s : Nat)), some (.str (txt l1)), some (.ref lt), some (.str (txt pl)), some (.ref q4), some (.ref f), some (.int (offS n : Nat)), v10, none, some (.str (txt W)), none, none]) ∧ But f H9 H' ∧ H' f = some (.lst (NV (fiveL pl n)))) ⟨⟨_, rfl⟩, .refl, ef⟩ (fun _ σ H' _ z => SqL.of (z.2.1 _ _ nq e4)) ?_ ?_⟩
    · rintro i x σ H' H'' hi ⟨⟨v10, rfl⟩, bt, ef'⟩ ⟨rfl, hx⟩
      obtain ⟨n, hn, rfl⟩ := NV_at hx
      have en : szs.getD i 0 = n := by rw [List.getD_eq_getElem?_getD, hn]; rfl
      refine ⟨_, rfl, .inl ⟨rfl, _, SqL.of ef'⟩, ?_⟩
      refine ⟨_, rfl, _, rfl, _, rfl, _, rfl, _, rfl, _, _, rfl, rfl, _, rfl, txt pl, rfl, lps, ?_⟩
      have ec : cutS (txt pl) (some ((offS i : Nat) : Int)) (some (((offS i : Nat) : Int) + (n : Int))) = txt (sliceS pl i) := by
        rw [show ((offS i : Nat) : Int) + (n : Int) = ((offS i + n : Nat) : Int) by omega, cut_nat, Nat.add_sub_cancel_left]
        unfold sliceS
        rw [en]
        rfl
      rw [ec]
      have ln3 : (sliceS pl i).length ≤ 3 := by
        unfold sliceS
        rw [en, List.length_take]
        refine Nat.le_trans (Nat.min_le_left _ _) ?_
        have : ∀ m ∈ szs, m ≤ 3 := by decide
        exact this n (List.mem_of_getElem? hn)
      generalize hL : sliceS pl i = sl at ln3 ⊢
      refine ⟨_, rfl, by rw [txt_len]; exact Nat.le_trans ln3 (by decide), _, rfl, fun J wk => fun D hD => ?_⟩
      have er : ((txt sl).cps.toList.reverse.toArray).toList = sl.reverse := by simp [txt]
      have rl : (⟨(txt sl).cps.toList.reverse.toArray⟩ : Str).cps.size = (List.range sl.reverse.length).length := by rw [List.length_range]; simp [txt]
      refine lcP wk (List.range sl.reverse.length) (fun k => decide (sl.reverse[k]? = some 49)) (fun k => V.int ((2 ^ k : Nat) : Int)) rl hD (fun _ _ => trivial) (by rw [List.length_range, List.length_reverse]; omega) yPair_same ?_ ?_
      · rintro j y k H11 H12 N R hk s11 ⟨T', a1, b1, rfl, hT, rfl, g1, g2⟩ hy hn'
        obtain ⟨rfl, hj⟩ := range_at hk
        cases g1
        have g2 : ((((txt sl).cps.toList.reverse.toArray).toList)[k]?).map (fun c => V.str ⟨#[c]⟩) = some b1 := g2
        rw [er] at g2
        obtain ⟨c, hc⟩ : ∃ c, sl.reverse[k]? = some c := ⟨_, List.getElem?_eq_getElem hj⟩
        rw [hc] at g2
        cases g2
        rw [List.length_reverse] at hj
        refine ⟨T', _, rfl, SqT.of upd_same, rfl, _, _, rfl, _, _, rfl, rfl, rfl, ?_⟩
        refine ⟨_, rfl, rfl, _, rfl, ?_⟩
        have eb : decide (V.str (⟨#[c]⟩ : Str) = V.str "1") = decide (sl.reverse[k]? = some 49) := by
          rw [hc]
          refine decide_eq_decide.mpr ⟨fun z => ?_, fun z => ?_⟩
          · have z := V.str.inj z
            have z : (⟨#[c]⟩ : Str) = ⟨#[49]⟩ := z
            have := congrArg (fun s : Str => s.cps.toList) z
            simp at this
            rw [this]
          · cases z
            rfl
        rw [eb]
        cases hb : decide (sl.reverse[k]? = some 49) with
        | true => exact iteT ⟨_, rfl, k, rfl, by omega, hy hb _ fun _ _ e => e⟩
        | false => exact iteF (hn' hb _ fun _ _ e => e)
      intro H11 s11 e11
      have ef11 := s11 _ _ ef'
      refine ⟨D, (((List.range sl.reverse.length).filter fun k => decide (sl.reverse[k]? = some 49)).map fun k => 2 ^ k).map fun n : Nat => (n : Int), rfl, ?_, ?_⟩
      · rw [List.map_map, List.map_map]
        exact SqL.of e11
      have es : ∀ l : List Nat, (l.map fun n : Nat => (n : Int)).sum = ((l.sum : Nat) : Int) := fun l => by
        induction l with
        | nil => rfl
        | cons x l ih => rw [List.map_cons, List.sum_cons, List.sum_cons, ih]; omega
      have e0 : (((List.range sl.reverse.length).filter fun k => decide (sl.reverse[k]? = some 49)).map fun k => 2 ^ k).sum = valL sl := by
        have := sum_bits sl.reverse 0
        rw [valR_rev, Nat.pow_zero, Nat.one_mul] at this
        exact this
      rw [es, e0]
      refine ⟨f, _, _, rfl, rfl, ef11, ?_, ?_⟩
      · rw [NV_len]
        unfold fiveL
        rw [List.length_map, List.length_range]
        have hi : i < 12 := hi
        exact Nat.lt_of_lt_of_le hi (by decide)
      have e12 : fiveL pl (i + 1) = fiveL pl i ++ [valL sl] := by
        unfold fiveL
        rw [List.range_succ, List.map_append, ← hL]
        rfl
      have eo : ((offS i : Nat) : Int) + (n : Int) = ((offS (i + 1) : Nat) : Int) := by
        have : offS (i + 1) = offS i + n := by
          unfold offS
          rw [List.take_add_one, hn, List.sum_append]
          simp
        rw [this]
        omega
      refine ⟨_, rfl, _, rfl, _, _, rfl, rfl, ⟨some (.int (n : Int)), ?_⟩, (bt.same s11).upd, ?_⟩
      · rw [← eo]
        rfl
      · rw [upd_same, e12]
        unfold NV
        rw [List.map_append]
        rfl
    rintro σ H10 ⟨⟨v10, rfl⟩, bt, ef'⟩
    have ef10 : H10 f = some (.lst (NV (fiveL pl 12))) := ef'
    clear ef'
    have kH10 : Kp st lg H H10 := fun b' o' e n1 n2 => by
      have e8 := kH8 _ _ e n1 n2
      exact bt _ _ (fun z => by subst z; rw [hfH8] at e8; cases e8) (s9 _ _ e8)
    have b810 : ∀ b' o', H8 b' = some o' → H10 b' = some o' := fun b' o' e => bt _ _ (fun z => by subst z; rw [hfH8] at e; cases e) (s9 _ _ e)
    have S10 : StAt H10 st lg cl (m + 13) := (S8.same b810).mono (by omega)
    have Tb10 : Tabs (tabs Pk Pt) H10 := Tb8.ext b810
    clear b810 bt s9 e4 ef nq S8 Tb8 cr8 kH8 kH7
    refine ⟨_, rfl, _, rfl, f, _, rfl, SqL.of ef10, fun p1 h1 => ?_⟩
    have u1 := Same.new (o := .lst (cutV (NV (fiveL pl 12)) none (some 4))) h1
    refine ⟨_, rfl, _, rfl, f, _, rfl, SqL.of (u1 _ _ ef10), fun p2 h2 => ?_⟩
    have u2 := Same.new (o := .lst (cutV (NV (fiveL pl 12)) (some 4) none)) h2
    refine ⟨p2, _, rfl, .inl ⟨SqL.of upd_same, fun t ht => ⟨(by show 1 ≤ sizeLine; decide), fun p3 h3 => ?_⟩⟩⟩
    have u3 := Same.new (o := .tup (cutV (NV (fiveL pl 12)) (some 4) none)) ht
    have u4 := Same.new (o := .lst [V.ref t]) h3
    refine ⟨p1, p3, _, _, rfl, rfl, (u2.trans (u3.trans u4)) _ _ upd_same, upd_same, (by show 4 + 1 ≤ sizeLine; decide), fun p4 h4 => ?_⟩
    have u5 := Same.new (o := .lst (cutV (NV (fiveL pl 12)) none (some 4) ++ [V.ref t])) h4
    have su := ((((u1.trans u2).trans u3).trans u4).trans u5)
    have ep4 : (upd (upd (upd (upd (upd H10 p1 (.lst (cutV (NV (fiveL pl 12)) none (some 4)))) p2 (.lst (cutV (NV (fiveL pl 12)) (some 4) none))) t (.tup (cutV (NV (fiveL pl 12)) (some 4) none))) p3 (.lst [V.ref t])) p4 (.lst (cutV (NV (fiveL pl 12)) none (some 4) ++ [V.ref t]))) p4 = some (.lst (cutV (NV (fiveL pl 12)) none (some 4) ++ [V.ref t])) := upd_same
    have et : (upd (upd (upd (upd (upd H10 p1 (.lst (cutV (NV (fiveL pl 12)) none (some 4)))) p2 (.lst (cutV (NV (fiveL pl 12)) (some 4) none))) t (.tup (cutV (NV (fiveL pl 12)) (some 4) none))) p3 (.lst [V.ref t])) p4 (.lst (cutV (NV (fiveL pl 12)) none (some 4) ++ [V.ref t]))) t = some (.tup (cutV (NV (fiveL pl 12)) (some 4) none)) := (u4.trans u5) _ _ upd_same
    have nq4 := (((((S10.same u1).same u2).same u3).same u4)).off h4
    generalize upd (upd (upd (upd (upd H10 p1 (.lst (cutV (NV (fiveL pl 12)) none (some 4)))) p2 (.lst (cutV (NV (fiveL pl 12)) (some 4) none))) t (.tup (cutV (NV (fiveL pl 12)) (some 4) none))) p3 (.lst [V.ref t])) p4 (.lst (cutV (NV (fiveL pl 12)) none (some 4) ++ [V.ref t])) = H11 at su ep4 et ⊢
    clear u1 u2 u3 u4 u5 h1 h2 h3 h4 ht
    have S11 := S10.same su
    have Tb11 := Tb10.ext su
    have kH11 := kH10.trans (.same su)
    have e5 : H11 p4 = some (.lst [V.int (fiveH pl).kd, .int (fiveH pl).lo, .int (fiveH pl).gr, .int (fiveH pl).re, .ref t]) := ep4
    have et : H11 t = some (.tup (NV (fiveH pl).ns)) := et
    rw [← hP, five_raw] at e5 et
    clear ep4 kH10 Tb10 S10 su ef10
    have hsW : s ≤ W.length := by omega
    refine ⟨fun σ H' => ∃ y v10, σ = [some (.ref st), some (.str (txt (headL h))), some (.ref d), some (.int (s : Nat)), some (.str (txt l1)), some (.ref lt), some (.str (txt pl)), some (.ref q4), some (.ref p4), some (.int (offS 12 : Nat)), v10, some y, some (.str (txt W)), none, none] ∧ StAt H' st lg cl (m + 13) ∧ Tabs (tabs Pk Pt) H' ∧ KpN st lg H H' ∧ H' p4 = some (.lst [V.int (rawH W s).kd, .int (rawH W s).lo, .int (rawH W s).gr, .int (rawH W s).re, .ref t]) ∧ H' t = some (.tup (NV (rawH W s).ns)) ∧
      (readO (txt W) s ≠ none → y = .non) ∧ (readO (txt W) s = none → Er2 ST.C st lg "at" (.int (s : Nat)) H' y), ?_, ?_⟩
    · refine caught_all T (C1 := ST.C) (C2 := ST.C) (f := "at") (x := .int (s : Nat)) (m' := m + 13) (readO (txt W) s ≠ none) False (readO (txt W) s = none) (fun z => z.elim) (fun _ => exd_exm T.reel ST) Tb11 S11 (fun H12 E Q1 x12 S12 q0 q1 q2 => ?_) (fun g H12 S12 T12 k12 => ?_) (fun z => z.elim) (fun g y H12 S12 T12 k12 er => ?_)
      · refine ⟨_, rfl, _, rfl, ?_⟩
        show spReadH K T.BadBits.C T.BadAt.C ST.C HD.C [.str (txt W), .int (s : Int)] H12 _ _
        exact read_any oW lW (by rw [txt_len]; exact hsW) (fun e H13 s13 d hd => q2 e H13 d (.same s13) (S12.same s13) hd) (fun h' e H13 x t s13 _ _ => q0 (by rw [e]; simp) _ _ (.same s13) (S12.same s13))
      · exact ⟨_, _, rfl, S12, T12, (KpN.kp kH11).trans k12, k12.lst nq4 e5, k12.tup S11 et, fun _ => rfl, fun z => absurd z g⟩
      · exact ⟨_, _, rfl, S12, T12, (KpN.kp kH11).trans k12, k12.lst nq4 e5, k12.tup S11 et, fun z => absurd g z, fun _ => er⟩
    rintro σ H12 ⟨y, v10', rfl, S12, T12, k12, e5, et, y0, y2⟩
    have tH := fun {H'} (s : Same H12 H') => (⟨S12.same s, T12.ext s, k12.trans (.same s)⟩ : StAt H' st lg cl (m + 13) ∧ Tabs (tabs Pk Pt) H' ∧ KpN st lg H H')
    have fin : ∀ H', Same H12 H' → Q (.bl true) H' := fun H' s' => k H' ((tH s').1.mono (by omega)) (tH s').2.1 (tH s').2.2
    have pl35 : pl.length = ((W.drop s).take 35).length := by rw [hP]
    refine ⟨_, rfl, txt pl, rfl, lps, rfl, _, rfl, ?_⟩
    rw [txt_len]
    rw [show decide (V.int ((pl.length : Nat) : Int) = V.int 35) = decide (pl.length = 35) from decide_eq_decide.mpr ⟨fun z => by have := V.int.inj z; omega, fun z => by rw [z]; rfl⟩]
    have end_ : readO (txt W) s = none → ∀ (σ : L2.St) H', Same H12 H' → ∃ (a D d : Addr) (fs : List (Str × V)) (cv : Value) (b : Bool), y = .ref a ∧ H' a = some (ExV (.ref D) (some d) a) ∧ H' d = some (.xd fs) ∧ ExcC K D ∧ ClsV (.ref ST.C) cv ∧ PySem.W.kitOne K (.ref D) cv = some b ∧ b = true ∧ D = ST.C ∧ fs = ([("at", V.int (s : Nat))] : List (Str × V)) := fun q σ H' s' => by
      obtain ⟨a, dd, rfl, e1, e2, _⟩ := y2 q
      exact ⟨a, ST.C, dd, _, _, true, rfl, s' _ _ e1, s' _ _ e2, ST.x, .own _, kit_self, rfl, rfl, rfl⟩
    have fl : ∀ i : Int, Fl (.int i) := fun i => .int i
    have rv : Rv K H12 (.ref t) (some (NV (rawH W s).ns)) := Rv.nv et (by show (List.map _ _).length ≤ 1000; rw [List.length_map, List.length_range]; decide)
    by_cases c35 : pl.length = 35
    case neg =>
      rw [decide_eq_false c35]
      refine iteF (iteF ?_)
      have rn := read_not (W := W) (s := s) fun z => absurd (pl35.trans z) c35
      obtain ⟨a, D, d', fs, cv, b', rfl, ha, hd, xc, cl', ki, rfl, rfl, rfl⟩ := end_ rn [] H12 (fun _ _ e => e)
      refine ⟨_, rfl, .inr ⟨a, ST.C, d', _, _, cv, true, rfl, ha, hd, xc, cl', ki, _, rfl, iteT ?_⟩⟩
      refine ⟨_, rfl, a, d', _, rfl, ha, hd, _, rfl, rfl, q_bl (fin _ fun _ _ e => e) (by simp)⟩
    rw [decide_eq_true c35]
    refine iteT ⟨_, rfl, p4, _, _, _, _, _, _, rfl, e5, fl _, fl _, fl _, fl _, rv, fun H13 s13 => ⟨rfl, _, rfl, ?_⟩⟩
    rw [show dueO (V.int (rawH W s).kd) (V.int (rawH W s).lo) (V.int (rawH W s).gr) (V.int (rawH W s).re) (some (NV (rawH W s).ns)) = dueH (rawH W s) from rfl]
    cases hd : dueH (rawH W s) with
    | some z =>
      have rn := read_not (W := W) (s := s) fun _ q => by rw [hd] at q; cases q
      refine iteF ?_
      obtain ⟨a, D, d', fs, cv, b', rfl, ha, hd, xc, cl', ki, rfl, rfl, rfl⟩ := end_ rn [] H13 s13
      refine ⟨_, rfl, .inr ⟨a, ST.C, d', _, _, cv, true, rfl, ha, hd, xc, cl', ki, _, rfl, iteT ?_⟩⟩
      refine ⟨_, rfl, a, d', _, rfl, ha, hd, _, rfl, rfl, q_bl (fin _ s13) (by simp)⟩
    | none =>
      obtain ⟨ro, l35⟩ := read_due hsW (pl35.symm.trans c35) hd
      have y0 := y0 (by rw [ro]; simp)
      subst y0
      refine iteT ?_
      refine ⟨_, rfl, rfl, _, rfl, iteT ?_⟩
      refine ⟨_, rfl, _, rfl, ?_⟩
      show spReadH K T.BadBits.C T.BadAt.C ST.C HD.C [.str (txt W), .int (s : Int)] H13 _ _
      refine read_good oW lW (by rw [txt_len]; exact hsW) ro fun H14 x t' s14 hx et' => ?_
      refine ix_T (K := K) (i := 0) et' rfl ⟨x, rfl, .inl ⟨rawH W s, hx, hok_raw hd, fun H15 s15 => ⟨_, rfl, rfl, ?_⟩⟩⟩
      refine q_bl (fin _ (s13.trans (s14.trans s15))) ?_
      rw [head_raw bw l35, hP]
      simp
end
end K08
namespace KA
open PySem PySem.Spec PyProof.Rows L2 PySem.W LamX
section
variable {K : PySem.W.Frag} {x qual : Str} {st : Stmt} {f : Addr} {fd : FuncData} {ps ks : List Str}
/-- __init__(self, a, b, c, d, e), called as C(e = .., d = .., c = .., b = .., a = ..) -/
theorem Fun.kwI5 {s0 a b c d e : Str} (F : Fun K x qual st f fd) (h : ∀ (kV doc pm : Value) (an : Option Addr) (cdv ct u x1 x2 x3 x4 x5 : Value), bindArgs (PySem.W.fnOf x qual (defArgs st) (defBody st) (defScope st) .none kV doc pm an cdv ct) ⟨[u], [(e, x1), (d, x2), (c, x3), (b, x4), (a, x5)]⟩ = pure [(s0, u), (a, x5), (b, x4), (c, x3), (d, x2), (e, x1)]) :
    KBn K fd [s0, a, b, c, d, e] 1 [e, d, c, b, a] (fun us ws => us ++ ws.reverse) (fun vs zs => vs ++ zs.reverse) := by
  obtain ⟨oc, od, kV, doc, pm, an, cdv, ct, osl, rfl, lk, hcd⟩ := F.ex
  refine ⟨fun s us ws X l1 l2 => ?_, fun {_ _ zs ws} r1 r => ?_⟩
  · match us, ws, l1, l2 with
    | [u], [x1, x2, x3, x4, x5], _, _ => exact .of_eq (h kV doc pm an cdv ct u x1 x2 x3 x4 x5)
  · clear h
    have rev : ∀ {zs : List V} {ws : List Value}, Vals zs ws → Vals zs.reverse ws.reverse := fun {zs ws} r => by
      induction r with
      | nil => exact .nil
      | cons h _ ih =>
        rw [List.reverse_cons, List.reverse_cons]
        exact ih.append (.cons h .nil)
    exact r1.append (rev r)
end
end KA
namespace K08
open PySem PySem.Spec PyProof.Rows L2 PySem.W LamX KA KW KU KL KT
open Evl (pss_cut tCut)
/-! ### the law's body, read -/
theorem FnG.w {P : Program} {w : World} {K : PySem.W.Frag} {mg : Str → Option Value} {base : Heap} {CX : CXT} {k : Nat} {f : Addr} {fd : FuncData} {ps : List Str} {sp : Sp} {fs : List Addr} {H0 : Hp} {h0 : Heap} (F : FnG P w K mg base CX k f fd ps sp) : FnW P w K mg base fs H0 h0 CX k f fd ps sp :=
  ⟨F.len, fun A outer s H args us vs Q E hr hg e0 _ _ b r h => F.run A outer s H args us vs Q E hr hg e0 b r h⟩
theorem since_self {Z : Cx} (h : Z.ex = []) : Since Z Z.fs Z.H_0 Z.s_0.heap := ⟨Un.kept fun _ _ z => z, fun _ hb => .inl hb, h⟩
section
variable {P : Program} {w : World} {K : PySem.W.Frag} {mg : Str → Option Value} {base : Heap} (T : Top K mg) (MD : ModesT K mg) (HD : HeadT K mg) (BH : BadHeadT P w K mg T.reel.C) (HQ : HeadQ K mg HD) (ST : StreamT P w K mg T.reel.C)
noncomputable def lawR {ck c Pk Pt : Addr} (nP : Pk ≠ Pt) (LK : LamT K "_law_read_right" s__law_read_right T._law_read_right.a T._law_read_right.d ck Pk) (TBK : TabB base mg ck Pk) (TB : TabB base mg c Pt) {A : Around} {outer : List Env} {s0 : Shared} {H : Hp} {E : XK} (hr : Room 11 (A.deeper (envOfC "law" (defScope s_law) s0.heap.objs.size T.law.a (.ref c)))) (hg : A.guards = some []) :
    { t : TS // PSs (cxOf (L2.CX P w) P w K mg base ["_law_script", "_law_turn", "_law_crown_here", "_law_made", "_law_due_here", "_law_caught_here", "_law_bent_here", "_law_five", "_law_lengths_here", "_law_odd", "_law_signs", "_law_state"] "law" (defScope s_law) T.law.a (.ref c) A outer s0 H E) (defBody s_law) t } :=
  ⟨_, (pss_cons (ps_set (i := 11) sc_law.nd rfl (by first | exact .inl rfl | exact .inr rfl) (pe_call (ok_begun T) (hr.mono (by decide)) (by rfl) T._law_begun.m T._law_begun.f.kp (bd__law_begun T) .nil passE (pa_cons (pv 0) pa_nil)))
      (pss_cons (ps_for (passes_of rfl) rfl (pi_range1 (by rfl) T.b_range (pa_cons (pe_op op_add pe_int (pe_callB (call_min2 rfl) (by rfl) T.b_min PyProof.Rows.boot_min (pa_cons (pe_callB call_len_seq (by rfl) T.b_len PySem.boot_len (pa_cons (pv 0) pa_nil)) (pa_cons pe_int pa_nil)))) pa_nil)) (pg_name (i := 1) sc_law.nd rfl (by first | exact .inl rfl | exact .inr rfl))
        (pss_cons (ps_set (i := 2) sc_law.nd rfl (by first | exact .inl rfl | exact .inr rfl) (pe_call (ok_crown T) (hr.mono (by decide)) (by rfl) T._law_crown.m T._law_crown.f.kp (bd__law_crown T) .nil passE (pa_cons (pv 11) (pa_cons (pe_call (ok_draw T) (hr.mono (by decide)) (by rfl) T._law_draw.m T._law_draw.f.kp (bd__law_draw T) .nil passE (pa_cons (pv 11) (pa_cons pe_int pa_nil))) (pa_cons (pe_call (ok_draw T) (hr.mono (by decide)) (by rfl) T._law_draw.m T._law_draw.f.kp (bd__law_draw T) .nil passE (pa_cons (pv 11) (pa_cons pe_int pa_nil))) pa_nil)))))
      (pss_cons (ps_set (i := 7) sc_law.nd rfl (by first | exact .inl rfl | exact .inr rfl) (pe_lst (pa_cons (pe_dget (hu_of hr) (pv 2) pe_str (fun _ _ => rfl)) (pa_cons (pe_dget (hu_of hr) (pv 2) pe_str (fun _ _ => rfl)) (pa_cons (pe_dget (hu_of hr) (pv 2) pe_str (fun _ _ => rfl)) (pa_cons (pe_dget (hu_of hr) (pv 2) pe_str (fun _ _ => rfl)) (pa_cons (pe_dget (hu_of hr) (pv 2) pe_str (fun _ _ => rfl)) pa_nil)))))))
      (pss_cons (ps_set (i := 3) sc_law.nd rfl (by first | exact .inl rfl | exact .inr rfl) (pe_make HD.M (ok_init T MD HD BH) (hr.mono (by decide)) (by rfl) HD.g (HD.F.binds fun _ _ _ _ _ _ us hl => match us, hl with | [_, _, _, _, _, _], _ => rfl) .nil passE (pa_cons (pe_ix (show IxR _ (rIx K) from ix_seq) (pv 7) pe_int (fun _ _ => rfl)) (pa_cons (pe_ix (show IxR _ (rIx K) from ix_seq) (pv 7) pe_int (fun _ _ => rfl)) (pa_cons (pe_ix (show IxR _ (rIx K) from ix_seq) (pv 7) pe_int (fun _ _ => rfl)) (pa_cons (pe_ix (show IxR _ (rIx K) from ix_seq) (pv 7) pe_int (fun _ _ => rfl)) (pa_cons (pe_ix (show IxR _ (rIx K) from ix_seq) (pv 7) pe_int (fun _ _ => rfl)) pa_nil)))))))
      (pss_cons (ps_if (PW.pt (pw_or (pt_cmpR op_ne (pe_callB (show CallR _ _ (rRepr K) from call_repr hg hr) (by rfl) T.b_repr (by decide +kernel) (pa_cons (pe_lst (pa_cons (pe_fld (pv 3) rfl) (pa_cons (pe_fld (pv 3) rfl) (pa_cons (pe_fld (pv 3) rfl) (pa_cons (pe_fld (pv 3) rfl) (pa_cons (pe_fld (pv 3) rfl) pa_nil)))))) pa_nil)) (pe_callB (show CallR _ _ (rRepr K) from call_repr hg hr) (by rfl) T.b_repr (by decide +kernel) (pa_cons (pv 7) pa_nil)) (nomark _)) (pw_or1 (pt_cmpR (show OpR _ _ (KY.rEqI K HD.C (spEqH HD.C) E0 fun b => b) from KY.op_eqI (ok_eq T HD HQ) (hr.mono (by decide)) HQ.s HQ.i (HQ.F.binds fun _ _ _ _ _ _ us hl => match us, hl with | [_, _], _ => rfl) passE) (pv 3) (pe_callTy (show CallR _ (.type "tuple") (rTupK K) from call_tuple_of) (by rfl) T.b_tuple (by decide +kernel) (pa_cons (pv 7) pa_nil)) (nomark _))))) (pss_one (ps_ret pe_bl)) pss_nil)
      (pss_cons (ps_if (pt_cmpR (show OpR _ _ (KY.rEqI K HD.C (spEqH HD.C) E0 fun b => !b) from KY.op_neI (ok_eq T HD HQ) (hr.mono (by decide)) HQ.s HQ.n HQ.o HQ.i (HQ.F.binds fun _ _ _ _ _ _ us hl => match us, hl with | [_, _], _ => rfl) passE) (pv 3) (pe_makeK0 HD.M (ok_init T MD HD BH) (hr.mono (by decide)) (by rfl) HD.g (KA.Fun.kwI5 HD.F fun _ _ _ _ _ _ _ _ _ _ _ _ => rfl) passE (pk_cons (pe_ix (show IxR _ (rIx K) from ix_seq) (pv 7) pe_int (fun _ _ => rfl)) (pk_cons (pe_ix (show IxR _ (rIx K) from ix_seq) (pv 7) pe_int (fun _ _ => rfl)) (pk_cons (pe_ix (show IxR _ (rIx K) from ix_seq) (pv 7) pe_int (fun _ _ => rfl)) (pk_cons (pe_ix (show IxR _ (rIx K) from ix_seq) (pv 7) pe_int (fun _ _ => rfl)) (pk_cons (pe_ix (show IxR _ (rIx K) from ix_seq) (pv 7) pe_int (fun _ _ => rfl)) pk_nil)))))) (nomark _)) (pss_one (ps_ret pe_bl)) pss_nil)
      (pss_cons (ps_set (i := 6) sc_law.nd rfl (by first | exact .inl rfl | exact .inr rfl) (pe_call (ok_bent T) (hr.mono (by decide)) (by rfl) T._law_bent.m T._law_bent.f.kp (bd__law_bent T) .nil passE (pa_cons (pv 11) (pa_cons (pv 7) pa_nil))))
      (pss_cut (ps_par (i := 4) (j := 5) rfl sc_law.nd rfl rfl (by decide) rfl rfl (pa_cons (pe_call (ok_ldue T) (hr.mono (by decide)) (by rfl) T._law_due.m T._law_due.f.kp (bd__law_due T) .nil passE (pa_cons (pv 6) pa_nil)) (pa_cons (pe_caught1 T TB rfl (show Room (8 + 2) _ from hr.mono (by decide)) (by rfl) (List.mem_cons_of_mem _ List.mem_cons_self) (one_q nP) (lamS_by (sc := defScope s_law) (by decide +kernel)) rfl (fun _ _ _ _ _ => rfl) (fun A outer s H E f c h => (pe_make HD.M (ok_init T MD HD BH) (h.mono (by decide)) (by rfl) HD.g (HD.F.binds fun _ _ _ _ _ _ us hl => match us, hl with | [_, _, _, _, _, _], _ => rfl) .nil (passX rfl rfl rfl rfl) (pa_cons (pe_ix (show IxR _ (rIx K) from ix_seq) (pv 6) pe_int (fun _ _ => rfl)) (pa_cons (pe_ix (show IxR _ (rIx K) from ix_seq) (pv 6) pe_int (fun _ _ => rfl)) (pa_cons (pe_ix (show IxR _ (rIx K) from ix_seq) (pv 6) pe_int (fun _ _ => rfl)) (pa_cons (pe_ix (show IxR _ (rIx K) from ix_seq) (pv 6) pe_int (fun _ _ => rfl)) (pa_cons (pe_ix (show IxR _ (rIx K) from ix_seq) (pv 6) pe_int (fun _ _ => rfl)) pa_nil)))))))) pa_nil)) (by rfl))
      (pss_cut (ps_if (PW.pt (pw_and (pt_cmpR (show OpR _ _ KIN.rIsN from op_isN) (pv 4) pe_non (nomark _)) (pw_and1 (pt_cmpR (show OpR _ _ KIN.rIsntN from KIN.op_isntN) (pv 5) pe_non (nomark _))))) (pss_one (ps_ret pe_bl)) pss_nil)
      (pss_cut (ps_if (PW.pt (pw_and (pt_cmpR (show OpR _ _ KIN.rIsN from op_isN) (pv 4) pe_non (nomark _)) (pw_and1 (pt_cmpR op_ne (pe_cmpR (show OpR _ _ (KY.rEqI K HD.C (spEqH HD.C) E0 fun b => b) from KY.op_eqI (ok_eq T HD HQ) (hr.mono (by decide)) HQ.s HQ.i (HQ.F.binds fun _ _ _ _ _ _ us hl => match us, hl with | [_, _], _ => rfl) passE) (pe_make HD.M (ok_init T MD HD BH) (hr.mono (by decide)) (by rfl) HD.g (HD.F.binds fun _ _ _ _ _ _ us hl => match us, hl with | [_, _, _, _, _, _], _ => rfl) .nil passE (pa_cons (pe_ix (show IxR _ (rIx K) from ix_seq) (pv 6) pe_int (fun _ _ => rfl)) (pa_cons (pe_ix (show IxR _ (rIx K) from ix_seq) (pv 6) pe_int (fun _ _ => rfl)) (pa_cons (pe_ix (show IxR _ (rIx K) from ix_seq) (pv 6) pe_int (fun _ _ => rfl)) (pa_cons (pe_ix (show IxR _ (rIx K) from ix_seq) (pv 6) pe_int (fun _ _ => rfl)) (pa_cons (pe_ix (show IxR _ (rIx K) from ix_seq) (pv 6) pe_int (fun _ _ => rfl)) pa_nil)))))) (pv 3) (nomark _)) (pe_cmpR (op_eqD hr.units) (pv 6) (pv 7) (nomark _)) (nomark _))))) (pss_one (ps_ret pe_bl)) pss_nil)
      (pss_cut (ps_if (PW.pt (pw_and (pt_cmpR (show OpR _ _ KIN.rIsntN from KIN.op_isntN) (pv 4) pe_non (nomark _)) (pw_and1 (PW.pt (pw_or (pt_not (pt_val (pe_callB (show CallR _ _ (rIs3 K) from call_is3) (by rfl) T.b_isinstance PyProof.Rows.boot_isinstance (pa_cons (pv 5) (pa_cons (pe_glob (v := .ref BH.C) (by rfl) BH.g rfl) pa_nil))))) (pw_or1 (pt_cmpR op_ne (pe_upGet BH.u (pv 5)) (pv 4) (nomark _)))))))) (pss_one (ps_ret pe_bl)) pss_nil)
      (pss_cons (ps_set (i := 8) sc_law.nd rfl (by first | exact .inl rfl | exact .inr rfl) (pe_call (ok_any T) (hr.mono (by decide)) (by rfl) T._law_any_lengths.m T._law_any_lengths.f.kp (bd__law_any_lengths T) .nil passE (pa_cons (pv 11) pa_nil)))
      (pss_cut (ps_if (PW.pt (pw_or (PW.pt (pw_and (pt_val (pe_call (ok_lbook T) (hr.mono (by decide)) (by rfl) T._law_is_book.m T._law_is_book.f.kp (bd__law_is_book T) .nil passE (pa_cons (pv 8) pa_nil))) (pw_and1 (pt_not (pt_val (pe_call (ok_wright T MD) (hr.mono (by decide)) (by rfl) T._law_words_right.m T._law_words_right.f.kp (bd__law_words_right T) .nil passE (pa_cons (pv 8) pa_nil))))))) (pw_or1 (pt_not (pt_val (pe_call (ok_wright T MD) (hr.mono (by decide)) (by rfl) T._law_words_right.m T._law_words_right.f.kp (bd__law_words_right T) .nil passE (pa_cons (pe_ix (show IxR _ (rIx K) from ix_seq) (pv 7) pe_int (fun _ _ => rfl)) pa_nil))))))) (pss_one (ps_ret pe_bl)) pss_nil)
      (pss_cons (ps_for (passes_of rfl) rfl (pi_list (pe_lst (pa_cons pe_non (pa_cons (pe_callTy call_list_of (by rfl) T.b_list (by decide +kernel) (pa_cons (pe_ix (show IxR _ (rIx K) from ix_seq) (pv 7) pe_int (fun _ _ => rfl)) pa_nil)) (pa_cons (pe_slice sl_tup (pe_ix (show IxR _ (rIx K) from ix_seq) (pv 7) pe_int (fun _ _ => rfl)) po_none (po_some pe_int)) (pa_cons (pe_op op_repA (pe_tup (pa_cons pe_int pa_nil)) pe_int) (pa_cons (pe_op op_repA (pe_tup (pa_cons pe_int pa_nil)) pe_int) (pa_cons (pe_op (show OpR _ _ (rCatA K) from op_catA) (pe_tup (pa_cons pe_bl pa_nil)) (pe_slice sl_tup (pe_ix (show IxR _ (rIx K) from ix_seq) (pv 7) pe_int (fun _ _ => rfl)) (po_some pe_int) po_none)) pa_nil)))))))) (pg_name (i := 9) sc_law.nd rfl (by first | exact .inl rfl | exact .inr rfl))
        (pss_one (ps_if (pt_not (pt_val (pe_callB (show CallR _ _ (rIs3 K) from call_is3) (by rfl) T.b_isinstance PyProof.Rows.boot_isinstance (pa_cons (pe_caught1 T TB rfl (show Room (9 + 2) _ from hr) (by rfl) (List.mem_cons_of_mem _ List.mem_cons_self) (one_q nP) (lamS_by (sc := defScope s_law) (by decide +kernel)) rfl (fun _ _ _ _ _ => rfl) (fun A outer s H E f c h => (pe_call (ok_words_of T MD) (h.mono (by decide)) (by rfl) T.words_of.m T.words_of.f.kp (bd_words_of T) .nil (passX rfl rfl rfl rfl) (pa_cons (pv 9) pa_nil)))) (pa_cons (pe_glob (v := .ref T.BadBook.C) (by rfl) T.BadBook.g rfl) pa_nil))))) (pss_one (ps_ret pe_bl)) pss_nil)))
      (pss_cut (ps_if (PW.pt (pw_and (pt_not (pt_val (pe_call (ok_lbook T) (hr.mono (by decide)) (by rfl) T._law_is_book.m T._law_is_book.f.kp (bd__law_is_book T) .nil passE (pa_cons (pv 8) pa_nil)))) (pw_and1 (pt_not (pt_val (pe_callB (show CallR _ _ (rIs3 K) from call_is3) (by rfl) T.b_isinstance PyProof.Rows.boot_isinstance (pa_cons (pe_caught1 T TB rfl (show Room (9 + 2) _ from hr) (by rfl) (List.mem_cons_of_mem _ List.mem_cons_self) (one_q nP) (lamS_by (sc := defScope s_law) (by decide +kernel)) rfl (fun _ _ _ _ _ => rfl) (fun A outer s H E f c h => (pe_call (ok_words_of T MD) (h.mono (by decide)) (by rfl) T.words_of.m T.words_of.f.kp (bd_words_of T) .nil (passX rfl rfl rfl rfl) (pa_cons (pv 8) pa_nil)))) (pa_cons (pe_glob (v := .ref T.BadBook.C) (by rfl) T.BadBook.g rfl) pa_nil)))))))) (pss_one (ps_ret pe_bl)) pss_nil)
      (pss_cons (ps_set (i := 10) sc_law.nd rfl (by first | exact .inl rfl | exact .inr rfl) (pe_call (ok_signs T) (hr.mono (by decide)) (by rfl) T._law_head_signs.m T._law_head_signs.f.kp (bd__law_head_signs T) .nil passE (pa_cons (pv 2) pa_nil)))
      (pss_cons (ps_if (pt_cmpR op_ne (pe_callB (show CallR _ _ (rRepr K) from call_repr hg hr) (by rfl) T.b_repr (by decide +kernel) (pa_cons (pe_lst (pa_cons (pe_call (ok_head_bits T HD BH) (hr.mono (by decide)) (by rfl) T.head_bits.m T.head_bits.f.kp (bd_head_bits T) .nil passE (pa_cons (pv 3) pa_nil)) (pa_cons (pe_kw (ok_head_bits T HD BH) (hr.mono (by decide)) (by rfl) T.head_bits.m T.head_bits.f.kp (KA.Fun.kw1 T.head_bits.f fun _ _ _ _ _ _ _ => rfl) passE (pk_cons (pv 3) pk_nil)) pa_nil))) pa_nil)) (pe_callB (show CallR _ _ (rRepr K) from call_repr hg hr) (by rfl) T.b_repr (by decide +kernel) (pa_cons (pe_lst (pa_cons (pv 10) (pa_cons (pv 10) pa_nil))) pa_nil)) (nomark _)) (pss_one (ps_ret pe_bl)) pss_nil)
      (pss_cons (ps_if (pt_not (pt_val (pe_wcall (FnG.w (ok_rright T MD HD BH HQ ST nP LK TBK)) (since_self rfl) (hr.mono (by decide)) hg (by rfl) T._law_read_right.m T._law_read_right.f.kp (bd__law_read_right T) passE (pa_cons (pv 11) (pa_cons (pv 10) (pa_cons (pv 2) pa_nil)))))) (pss_one (ps_ret pe_bl)) pss_nil)
      (pss_cons (ps_set (i := 5) sc_law.nd rfl (by first | exact .inl rfl | exact .inr rfl) (pe_caught1 T TB rfl (show Room (9 + 2) _ from hr) (by rfl) (List.mem_cons_of_mem _ List.mem_cons_self) (one_q nP) (lamS_by (sc := defScope s_law) (by decide +kernel)) rfl (fun _ _ _ _ _ => rfl) (fun A outer s H E f c h => (pe_call (ok_head_bits T HD BH) (h.mono (by decide)) (by rfl) T.head_bits.m T.head_bits.f.kp (bd_head_bits T) .nil (passX rfl rfl rfl rfl) (pa_cons (pe_call (ok_pick T) (h.mono (by decide)) (by rfl) T._law_pick.m T._law_pick.f.kp (bd__law_pick T) .nil passE (pa_cons (pv 11) (pa_cons (pe_lst (pa_cons pe_non (pa_cons (pe_callTy (show CallR _ (.type "tuple") (rTupK K) from call_tuple_of) (by rfl) T.b_tuple (by decide +kernel) (pa_cons (pv 7) pa_nil)) (pa_cons pe_str (pa_cons pe_int pa_nil))))) pa_nil))) pa_nil)))))
      (pss_cons (ps_if (PW.pt (pw_or (pt_not (pt_val (pe_callB (show CallR _ _ (rIs3 K) from call_is3) (by rfl) T.b_isinstance PyProof.Rows.boot_isinstance (pa_cons (pv 5) (pa_cons (pe_glob (v := .ref BH.C) (by rfl) BH.g rfl) pa_nil))))) (pw_or1 (pt_cmpR (show OpR _ _ KIN.rIsntN from KIN.op_isntN) (pe_upGet BH.u (pv 5)) pe_non (nomark _))))) (pss_one (ps_ret pe_bl)) pss_nil)
      (pss_cons (ps_if (pt_not (pt_val (pe_callB (show CallR _ _ (rIs3 K) from call_is3) (by rfl) T.b_isinstance PyProof.Rows.boot_isinstance (pa_cons (pe_caught1 T TB rfl (show Room (9 + 2) _ from hr) (by rfl) (List.mem_cons_of_mem _ List.mem_cons_self) (one_q nP) (lamS_by (sc := defScope s_law) (by decide +kernel)) rfl (fun _ _ _ _ _ => rfl) (fun A outer s H E f c h => (pe_call (ok_read_head T MD HD BH ST) (h.mono (by decide)) (by rfl) T.read_head.m T.read_head.f.kp (bd_read_head T) .nil (passX rfl rfl rfl rfl) (pa_cons (pe_call (ok_pick T) (h.mono (by decide)) (by rfl) T._law_pick.m T._law_pick.f.kp (bd__law_pick T) .nil passE (pa_cons (pv 11) (pa_cons (pe_lst (pa_cons pe_non (pa_cons pe_str (pa_cons pe_int pa_nil)))) pa_nil))) (pa_cons (pe_un un_neg pe_int) pa_nil))))) (pa_cons (pe_glob (v := .ref T.BadBits.C) (by rfl) T.BadBits.g rfl) pa_nil))))) (pss_one (ps_ret pe_bl)) pss_nil)
      (pss_one (ps_if (pt_not (pt_val (pe_callB (show CallR _ _ (rIs3 K) from call_is3) (by rfl) T.b_isinstance PyProof.Rows.boot_isinstance (pa_cons (pe_caught1 T TB rfl (show Room (9 + 2) _ from hr) (by rfl) (List.mem_cons_of_mem _ List.mem_cons_self) (one_q nP) (lamS_by (sc := defScope s_law) (by decide +kernel)) rfl (fun _ _ _ _ _ => rfl) (fun A outer s H E f c h => (pe_call (ok_read_head T MD HD BH ST) (h.mono (by decide)) (by rfl) T.read_head.m T.read_head.f.kp (bd_read_head T) .nil (passX rfl rfl rfl rfl) (pa_cons (pv 10) (pa_cons (pe_call (ok_pick T) (h.mono (by decide)) (by rfl) T._law_pick.m T._law_pick.f.kp (bd__law_pick T) .nil passE (pa_cons (pv 11) (pa_cons (pe_lst (pa_cons (pe_un un_neg pe_int) (pa_cons pe_int (pa_cons pe_bl (pa_cons pe_non pa_nil))))) pa_nil))) pa_nil))))) (pa_cons (pe_glob (v := .ref T.BadAt.C) (by rfl) T.BadAt.g rfl) pa_nil))))) (pss_one (ps_ret pe_bl)) pss_nil)))))))))))))))))))))))
      (pss_one (ps_ret pe_bl))))⟩
end
end K08
namespace K08
open PySem PySem.Spec PyProof.Rows L2 PySem.W LamX KA KW KU KL KT
/-! ### a head of any parts -/
theorem Rs.kn {st lg cl : Addr} {m : Nat} {H H' : Hp} {x : V} {o : Option (List V)} (h : Rs st lg H x o) (S : StAt H st lg cl m) (k : KpN st lg H H') : Rs st lg H' x o := by
  cases h with
  | non => exact .non
  | lst n e => exact .lst n (k.lst n e)
  | tup e p l => exact .tup (k.tup S e) p l
theorem init_any {K : PySem.W.Frag} {C CB : Addr} {H : Hp} {x dx : Addr} {y1 y2 y3 y4 y5 : V} {o : Option (List V)} {Q : VK} {E : XK} (f1 : Fl y1) (f2 : Fl y2) (f3 : Fl y3) (f4 : Fl y4) (rv : Rv K H y5 o) (ex : H x = some (.ins C dx []))
    (bad : ∀ z H1, dueO y1 y2 y3 y4 o = some z → Same H H1 → partErr CB H1 E (.str z))
    (good : dueO y1 y2 y3 y4 o = none → ∀ (h : Hdv) (b : Addr) H1 H', Hok h → y1 = .int h.kd → y2 = .int h.lo → y3 = .int h.gr → y4 = .int h.re → y5 = .ref b → o = some (NV h.ns) → Same H H1 → H1 b = some (.tup (NV h.ns)) → H' x = some (.ins C dx (headFs h.kd h.lo h.gr h.re b)) → (∀ c, c ≠ x → H' c = H1 c) → Q .non H') :
    spInit K C CB [.ref x, y1, y2, y3, y4, y5] H Q E := by
  obtain ⟨b1, p1⟩ := f1.pl (K := K) (H := H)
  obtain ⟨b2, p2⟩ := f2.pl (K := K) (H := H)
  obtain ⟨b3, p3⟩ := f3.pl (K := K) (H := H)
  obtain ⟨b4, p4⟩ := f4.pl (K := K) (H := H)
  have w_int : ∀ i lo hi : Int, lo ≤ i → i ≤ hi → within (.int i) lo hi = true := fun i lo hi h1 h2 => by
    show (decide (lo ≤ i) && decide (i ≤ hi)) = true
    rw [decide_eq_true h1, decide_eq_true h2]
    rfl
  refine ⟨x, dx, _, _, _, _, _, _, _, _, _, _, rfl, p1, p2, p3, p4, rv, ex, fun q => ?_, fun kd ekd k0 k1 => ⟨fun q => ?_, fun lo elo l0 l1 => ⟨fun q => ?_, fun gr egr g0 g1 => ⟨fun q => ?_, fun re ere r0 r1 => fun H1 s1 => ⟨fun q => ?_, fun b ns eb ens q eb6 H7 e7 o7 => ?_⟩⟩⟩⟩⟩
  · exact bad _ H (by unfold dueO; rw [if_pos q]) fun _ _ e => e
  · subst ekd
    exact bad _ H (by unfold dueO; rw [if_neg (by rw [w_int kd 0 2 k0 k1]; decide), if_pos q]) fun _ _ e => e
  · subst ekd elo
    exact bad _ H (by unfold dueO; rw [if_neg (by rw [w_int kd 0 2 k0 k1]; decide), if_neg (by rw [w_int lo 0 7 l0 l1]; decide), if_pos q]) fun _ _ e => e
  · subst ekd elo egr
    exact bad _ H (by unfold dueO; rw [if_neg (by rw [w_int kd 0 2 k0 k1]; decide), if_neg (by rw [w_int lo 0 7 l0 l1]; decide), if_neg (by rw [w_int gr 0 7 g0 g1]; decide), if_pos q]) fun _ _ e => e
  · subst ekd elo egr ere
    refine bad _ H1 ?_ s1
    rw [due_book (w_int kd 0 2 k0 k1) (w_int lo 0 7 l0 l1) (w_int gr 0 7 g0 g1) (w_int re 0 4 r0 r1)]
    rw [show intOf (.int kd) = kd from rfl, if_pos q]
  · subst ekd elo egr ere eb ens
    refine good ?_ ⟨kd, lo, gr, re, ns⟩ b H1 H7 ⟨k0, k1, l0, l1, g0, g1, r0, r1, q⟩ rfl rfl rfl rfl rfl rfl s1 eb6 e7 o7
    rw [due_book (w_int kd 0 2 k0 k1) (w_int lo 0 7 l0 l1) (w_int gr 0 7 g0 g1) (w_int re 0 4 r0 r1)]
    rw [show intOf (.int kd) = kd from rfl, if_neg (by rw [q]; decide)]
end K08
namespace K08
open PySem PySem.Spec PyProof.Rows L2 PySem.W LamX KA KW KU KL KT
theorem two_str {s : Str} (h : Ones s) (hl : s.length ≤ 1000) : (PyData.list [.str s, .str s]).showable = true ∧ (PyData.list [.str s, .str s]).hasDict = false ∧ (PyData.list [.str s, .str s]).depth ≤ 60 ∧ (PyData.list [.str s, .str s]).shown.length ≤ sizeLine := by
  have l : (PyData.str s).leavesShort 13 = true := by
    simp only [PyData.leavesShort, List.all_eq_true, decide_eq_true_eq]
    intro c hc
    have e : (16 : Nat) ^ 8 = 4294967296 := by decide
    rcases h c hc with q | q <;> omega
  have w : (PyData.str s).weight ≤ 1000 := hl
  have sh : (PyData.str s).showable = true := rfl
  refine ⟨?_, rfl, ?_, small_fits ?_ ?_⟩
  · simp only [PyData.showable, PyData.showableAll, Bool.and_self]
  · simp only [PyData.depth, PyData.depthAll]
    omega
  · simp only [PyData.leavesShort] at l
    simp only [PyData.leavesShort, PyData.leavesShortAll, l, Bool.and_self]
  · simp only [PyData.weight] at w
    simp only [PyData.weight, PyData.weightAll]
    have : (2 : Nat) ^ 20 = 1048576 := by decide
    omega
theorem book_two {kd : Int} {o : Option (List V)} (h : bookB kd o = true) : bookB 2 o = true := by
  cases c : bookB 2 o with
  | true => rfl
  | false =>
    rw [book_no c] at h
    cases h
end K08
namespace K08
open PySem PySem.Spec PyProof.Rows L2 PySem.W LamX KA KW KU KL KT
open Evl (pss_cut tCut)
/-! ### the law -/
def spLaw (K : PySem.W.Frag) (Pk Pt : Addr) : Sp := fun vs H Q _ => ∃ (a : Addr) (ns : List Int), vs = [.ref a] ∧ SqL K H a (ns.map V.int) ∧ ns.length ≤ 63 ∧ Tabs (tabs Pk Pt) H ∧ ∀ H', Q (.bl true) H'
def fiveV (h : Hdv) (b : Addr) : List V := [.int h.kd, .int h.lo, .int h.gr, .int h.re, .ref b]
def fiveD (h : Hdv) : PyData := .list [.int h.kd, .int h.lo, .int h.gr, .int h.re, lotD h.ns]
theorem five_dp {K : PySem.W.Frag} {H : Hp} {q b : Addr} {h : Hdv} (e : H q = some (.lst (fiveV h b))) (eb : H b = some (.tup (NV h.ns))) : Dp K H (.ref q) (fiveD h) := .lst (SqL.of e) (.cons (.int _) (.cons (.int _) (.cons (.int _) (.cons (.int _) (.cons (dp_lot b h.ns eb) .nil)))))
theorem five_sm {h : Hdv} (ok : Hok h) : Sm (411 * 5) 2 (fiveD h) := by
  obtain ⟨l8, s8, _⟩ := ok.eight
  obtain ⟨k0, k1, l0, l1, g0, g1, r0, r1, _⟩ := ok
  refine sm_list (n := 410) (z := 1) (k := 5) (fun d hd => ?_) (Nat.le_refl 5)
  simp only [List.mem_cons, List.not_mem_nil, or_false] at hd
  rcases hd with h | h | h | h | h <;> subst h
  · exact (sm_int (by omega) (by omega)).mono (by decide) (by decide)
  · exact (sm_int (by omega) (by omega)).mono (by decide) (by decide)
  · exact (sm_int (by omega) (by omega)).mono (by decide) (by decide)
  · exact (sm_int (by omega) (by omega)).mono (by decide) (by decide)
  · exact sm_lot (by omega) fun x hx => by have := s8 x hx; omega
theorem eqv_five (h g : Hdv) : PyData.eqv (fiveD h) (fiveD g) = decide (h = g) := by
  obtain ⟨a1, a2, a3, a4, a5⟩ := h
  obtain ⟨b1, b2, b3, b4, b5⟩ := g
  unfold fiveD
  simp only [PyData.eqv, PyData.eqvAll, eqv_lotD]
  rw [Bool.eq_iff_iff]
  simp only [Bool.and_eq_true, beq_iff_eq, decide_eq_true_eq, Hdv.mk.injEq, and_true]
/-- what stands in a turn -/
structure LB (C Pk Pt st lg cl d b x f : Addr) (h : Hdv) (m : Nat) (H : Hp) : Prop where
  S : StAt H st lg cl m
  Tb : Tabs (tabs Pk Pt) H
  cr : Cr H d b h
  hx : ∃ dx, H x = some (.ins C dx (headFs h.kd h.lo h.gr h.re b))
  fv : H f = some (.lst (fiveV h b))
  ok : Hok h
  nd : d ≠ st ∧ d ≠ lg
  nx : x ≠ st ∧ x ≠ lg
  nf : f ≠ st ∧ f ≠ lg
section
variable {C Pk Pt st lg cl d b x f : Addr} {h : Hdv} {m m' : Nat} {H H' : Hp}
theorem LB.kn (B : LB C Pk Pt st lg cl d b x f h m H) (k : KpN st lg H H') (S : StAt H' st lg cl m') (Tb : Tabs (tabs Pk Pt) H') : LB C Pk Pt st lg cl d b x f h m' H' :=
  ⟨S, Tb, B.cr.kn B.nd B.S k, B.hx.imp fun _ e => k _ _ e B.nx.1 B.nx.2 (fun _ z => by cases z), k.lst B.nf B.fv, B.ok, B.nd, B.nx, B.nf⟩
theorem LB.kp (B : LB C Pk Pt st lg cl d b x f h m H) (k : Kp st lg H H') (S : StAt H' st lg cl m') : LB C Pk Pt st lg cl d b x f h m' H' := B.kn (.kp k) S (tabs_kp B.Tb B.S k)
theorem LB.same (B : LB C Pk Pt st lg cl d b x f h m H) (k : Same H H') : LB C Pk Pt st lg cl d b x f h m H' := B.kp (.same k) (B.S.same k)
theorem LB.mono (B : LB C Pk Pt st lg cl d b x f h m H) (k : m ≤ m') : LB C Pk Pt st lg cl d b x f h m' H := ⟨B.S.mono k, B.Tb, B.cr, B.hx, B.fv, B.ok, B.nd, B.nx, B.nf⟩
theorem LB.hd (B : LB C Pk Pt st lg cl d b x f h m H) : Hd C H (.ref x) h := by
  obtain ⟨dx, e⟩ := B.hx
  exact ⟨x, dx, b, rfl, e, B.cr.b, by rw [B.ok.eight.1]; decide⟩
theorem LB.it (B : LB C Pk Pt st lg cl d b x f h m H) {K : PySem.W.Frag} {F : V → Hp → Prop} {i : Nat} {v : V} (e : (fiveV h b)[i]? = some v) (q : F v H) : rIx K (.ref f) (.int (i : Int)) H F := ix_L B.fv e q
end
section
variable {P : Program} {w : World} {K : PySem.W.Frag} {mg : Str → Option Value} {base : Heap} (T : Top K mg) (MD : ModesT K mg) (HD : HeadT K mg) (BH : BadHeadT P w K mg T.reel.C) (HQ : HeadQ K mg HD) (ST : StreamT P w K mg T.reel.C)
include MD HD BH HQ ST in
theorem ok_law {ck c Pk Pt : Addr} (nP : Pk ≠ Pt) (LK : LamT K "_law_read_right" s__law_read_right T._law_read_right.a T._law_read_right.d ck Pk) (TBK : TabB base mg ck Pk) (LT : LamT K "law" s_law T.law.a T.law.d c Pt) (TB : TabB base mg c Pt) : FnG P w K mg base (L2.CX P w) 12 T.law.a T.law.d ["_law_script"] (spLaw K Pk Pt) := by
  refine fnG_ofC LT sc_law (fun vs H Q E h => ?_) (fun A outer s0 H vs Q E hr hg h => ?_)
  · obtain ⟨a, ns, rfl, _⟩ := h
    rfl
  · obtain ⟨a0, ns, rfl, hS, hl, Tb, k⟩ := h
    refine ⟨(lawR T MD HD BH HQ ST nP LK TBK TB hr hg).1, (lawR T MD HD BH HQ ST nP LK TBK TB hr hg).2, ?_⟩
    refine ⟨_, rfl, a0, ns, rfl, hS, hl, fun st lg cl H1 S1 sm1 n1 n2 => ?_⟩
    have T1 := Tb.ext sm1
    clear Tb
    refine ⟨_, rfl, a0, _, rfl, .inl (sm1.seq hS), _, _, rfl, _, _, rfl, rfl, _, rfl, ?_, ?_, for_range (n := _) (fun j σ H => StAt H st lg cl (300 * j) ∧ Tabs (tabs Pk Pt) H ∧ ∃ v1 v2 v3 v4 v5 v6 v7 v8 v9 v10, σ = [some (.ref a0), v1, v2, v3, v4, v5, v6, v7, v8, v9, v10, some (.ref st)]) ⟨S1, T1, _, _, _, _, _, _, _, _, _, _, rfl⟩ ?_ fun σ H _ => k H⟩
    · simp only [List.length_map]
      split <;> omega
    · simp only [List.length_map]
      split <;> omega
    clear S1 T1 sm1 hS n1 n2 H1
    rintro j σ H1 hj ⟨S1, Tb1, v1, v2, v3, v4, v5, v6, v7, v8, v9, v10, rfl⟩
    have hj : j < 10 := by
      refine Nat.lt_of_lt_of_le hj ?_
      simp only [List.length_map]
      split <;> omega
    refine ⟨_, rfl, _, rfl, st, lg, cl, 3, 300 * j, rfl, by decide, by decide, by omega, S1, fun r1 H2 hr1 S2 k2 => ⟨_, rfl, st, lg, cl, 8, 300 * j + 1, rfl, by decide, by decide, by omega, S2, fun r2 H3 hr2 S3 k3 => ?_⟩⟩
    refine ⟨st, lg, cl, r1, r2, 300 * j + 1 + 1, rfl, by omega, by omega, by omega, S3, fun d b h H4 ok ek el ndH nbH cr S4 k4 => ?_⟩
    have Tb4 := tabs_kp Tb1 S1 (k2.trans (k3.trans k4))
    have nd := S3.off ndH
    have hb := cr.b
    refine ⟨_, rfl, d, _, rfl, cr.g1, _, rfl, d, _, rfl, cr.g2, _, rfl, d, _, rfl, cr.g3, _, rfl, d, _, rfl, cr.g4, _, rfl, d, _, rfl, cr.g5, (by show 5 ≤ sizeLine; decide), fun f hf => ?_⟩
    have nf := S4.off hf
    have tf := Same.new (o := .lst [V.int h.kd, .int h.lo, .int h.gr, .int h.re, .ref b]) hf
    have ef : (upd H4 f (.lst [V.int h.kd, .int h.lo, .int h.gr, .int h.re, .ref b])) f = some (.lst [V.int h.kd, .int h.lo, .int h.gr, .int h.re, .ref b]) := upd_same
    have S5 := S4.same tf
    have Tb5 := Tb4.ext tf
    have cr5 := cr.keep tf
    generalize upd H4 f (.lst [V.int h.kd, .int h.lo, .int h.gr, .int h.re, .ref b]) = H5 at tf ef S5 Tb5 cr5 ⊢
    clear cr S4 Tb4 k4 k3 k2 S3 S2 S1 hb Tb1 tf hf
    refine ⟨_, rfl, ix_L (K := K) (i := 0) ef rfl ⟨_, rfl, ix_L (K := K) (i := 1) ef rfl ⟨_, rfl, ix_L (K := K) (i := 2) ef rfl ⟨_, rfl, ix_L (K := K) (i := 3) ef rfl ⟨_, rfl, ix_L (K := K) (i := 4) ef rfl fun x dx hx hdx ne => ?_⟩⟩⟩⟩⟩
    refine init_good ok (by rw [upd_ne (ne_of_none cr5.b hx), upd_ne (ne_of_none cr5.b hdx)]; exact cr5.b) upd_same fun H6 H7 s6 e7 o7 => ?_
    have sH := made_same hx hdx s6 o7
    refine ⟨rfl, ?_⟩
    have B : LB HD.C Pk Pt st lg cl d b x f h (300 * j + 12) H7 := ⟨(S5.same sH).mono (by omega), Tb5.ext sH, cr5.keep sH, ⟨dx, e7⟩, sH _ _ ef, ok, nd, S5.off hx, nf⟩
    clear S5 Tb5 cr5 e7 o7 s6 sH hx hdx ne ef
    obtain ⟨dx, ex⟩ := B.hx
    refine ⟨_, rfl, x, HD.C, dx, _, _, rfl, ex, HD.i.cl, HD.n1, rfl, _, rfl, x, HD.C, dx, _, _, rfl, ex, HD.i.cl, HD.n2, rfl, _, rfl, x, HD.C, dx, _, _, rfl, ex, HD.i.cl, HD.n3, rfl, _, rfl, x, HD.C, dx, _, _, rfl, ex, HD.i.cl, HD.n4, rfl, _, rfl, x, HD.C, dx, _, _, rfl, ex, HD.i.cl, HD.n5, rfl, (by show 5 ≤ sizeLine; decide), fun q hq => ?_⟩
    have tq := Same.new (o := .lst [V.int h.kd, .int h.lo, .int h.gr, .int h.re, .ref b]) hq
    obtain ⟨x1, x2, x3, x4⟩ := (five_sm ok).repr (by decide) (by decide)
    have B1 := B.same tq
    refine ⟨q, fiveD h, rfl, five_dp upd_same B1.cr.b, x1, x2, x3, x4, _, rfl, f, fiveD h, rfl, five_dp B1.fv B1.cr.b, x1, x2, x3, x4, rfl, _, rfl, ?_⟩
    rw [decide_eq_true rfl]
    refine iteF ⟨_, rfl, _, rfl, f, _, rfl, .inl ⟨SqL.of B1.fv, fun t ht => ?_⟩⟩
    have tt := Same.new (o := .tup (fiveV h b)) ht
    have B2 := B1.same tt
    obtain ⟨dx, ex⟩ := B2.hx
    refine ⟨x, dx, _, _, rfl, ex, .base (.tup upd_same), by unfold PySem.W.notFirst; rw [HQ.sT]; simp, _, _, false, h, rfl, B2.hd, .tup upd_same, false, rfl, _, rfl, iteF ?_⟩
    have s2 := tq.trans tt
    generalize upd (upd H7 q (.lst [V.int h.kd, .int h.lo, .int h.gr, .int h.re, .ref b])) t (.tup (fiveV h b)) = H8 at B2 s2 ⊢
    clear B B1 ex x1 x2 x3 x4 tq tt s2
    refine ⟨_, rfl, _, rfl, B2.it (i := 4) rfl ⟨_, rfl, B2.it (i := 3) rfl ⟨_, rfl, B2.it (i := 2) rfl ⟨_, rfl, B2.it (i := 1) rfl ⟨_, rfl, B2.it (i := 0) rfl ⟨rfl, rfl, fun x' dx' hx hdx ne => ?_⟩⟩⟩⟩⟩⟩
    refine init_good ok (by rw [upd_ne (ne_of_none B2.cr.b hx), upd_ne (ne_of_none B2.cr.b hdx)]; exact B2.cr.b) upd_same fun H9 H10 s6 e7 o7 => ?_
    have sH := made_same hx hdx s6 o7
    have B3 := B2.same sH
    have hd' : Hd HD.C H10 (.ref x') h := ⟨x', dx', b, rfl, e7, B3.cr.b, by rw [ok.eight.1]; decide⟩
    clear B2 e7 o7 s6 sH hx hdx ne
    obtain ⟨dx2, ex⟩ := B3.hx
    refine ⟨rfl, x, dx2, _, _, rfl, ex, hd'.ty HD, by simp [PySem.W.notFirst], _, _, _, h, rfl, B3.hd, .hd hd', _, rfl, _, rfl, ?_⟩
    rw [decide_eq_true rfl]
    refine iteF ?_
    clear ex hd'
    refine ⟨_, rfl, _, rfl, st, lg, cl, f, b, h.kd, h.lo, h.gr, h.re, h.ns, 300 * j + 12, rfl, B3.fv, nf, B3.cr.b, ok.eight.1, by omega, B3.S, fun bf y1 y2 y3 y4 y5 o H11 nbH eb f1 f2 f3 f4 rs S11 k11 => ?_⟩
    have nb := B3.S.off nbH
    have B4 := B3.kp k11 S11
    clear B3 k11 S11 nbH
    have exB := PySem.W.exm_ref T.reel.b T.reel.d T.reel.t BH.r
    refine ⟨fun σ H' => ∃ y, σ = [some (.ref a0), some (.int (0 + (j : Int))), some (.ref d), some (.ref x), some (oV (dueO y1 y2 y3 y4 o)), some y, some (.ref bf), some (.ref f), v8, v9, v10, some (.ref st)] ∧ LB HD.C Pk Pt st lg cl d b x f h (300 * j + 112) H' ∧ H' bf = some (.lst [y1, y2, y3, y4, y5]) ∧ Rs st lg H' y5 o ∧
      (dueO y1 y2 y3 y4 o = none → y = .non) ∧ (dueO y1 y2 y3 y4 o ≠ none → Er2 BH.C st lg "part" (oV (dueO y1 y2 y3 y4 o)) H' y), ?_, ?_⟩
    · refine ⟨_, rfl, bf, y1, y2, y3, y4, y5, o, rfl, eb, f1, f2, f3, f4, rs.rv, fun H12 s12 => ?_⟩
      have B5 := B4.same s12
      have rs5 := rs.kp B4.S (.same s12)
      have eb5 := s12 _ _ eb
      have fl := B5.S
      refine caught_all T (C1 := BH.C) (C2 := BH.C) (f := "part") (x := oV (dueO y1 y2 y3 y4 o)) (m' := 300 * j + 112) (dueO y1 y2 y3 y4 o = none) False (dueO y1 y2 y3 y4 o ≠ none) (fun z => z.elim) (fun _ => exB) B5.Tb B5.S (fun H13 E Q1 x13 S13 q0 _ q2 => ?_) (fun g H13 S13 T13 k13 => ?_) (fun z => z.elim) (fun g y H13 S13 T13 k13 er => ?_)
      · have eb13 := x13 _ _ eb5 (fun _ z => by cases z)
        have rs13 := rs5.kn B5.S (.ext x13)
        refine ⟨_, rfl, ix_L (K := K) (i := 0) eb13 rfl ⟨_, rfl, ix_L (K := K) (i := 1) eb13 rfl ⟨_, rfl, ix_L (K := K) (i := 2) eb13 rfl ⟨_, rfl, ix_L (K := K) (i := 3) eb13 rfl ⟨_, rfl, ix_L (K := K) (i := 4) eb13 rfl fun x' dx' hx hdx ne => ?_⟩⟩⟩⟩⟩
        have t1 : Same H13 (upd (upd H13 dx' (.own x')) x' (.ins HD.C dx' [])) := (Same.new hdx).trans (Same.new (by rw [upd_ne (Ne.symm ne)]; exact hx))
        refine init_any f1 f2 f3 f4 ((rs13.kp S13 (.same t1)).rv) upd_same (fun z H14 ez s14 => ?_) fun ez h' b' H14 H15 ok' _ _ _ _ _ _ s14 e14 e15 o15 => ?_
        · rw [ez] at q2
          exact fun dd hdd => q2 (by simp) H14 dd (.same (t1.trans s14)) (S13.same (t1.trans s14)) hdd
        · have sH := made_same hx hdx s14 o15
          exact ⟨rfl, q0 ez _ _ (.same sH) (S13.same sH)⟩
      · exact ⟨_, _, rfl, ⟨_, rfl, B5.kn k13 S13 T13, k13.lst nb eb5, rs5.kn B5.S k13, fun _ => rfl, fun z => absurd g z⟩⟩
      · exact ⟨_, _, rfl, ⟨_, rfl, B5.kn k13 S13 T13, k13.lst nb eb5, rs5.kn B5.S k13, fun z => absurd z g, fun _ => er⟩⟩
    clear B4 rs eb
    rintro σ H12 ⟨y, rfl, B, eb, rs, y0, y2'⟩
    have flat : ∀ z : Option Str, decide (oV z = .non) = z.isNone := fun z => by
      cases z with
      | none => rfl
      | some z => exact decide_eq_false fun q => by cases q
    refine ⟨fun σ H' => σ = [some (.ref a0), some (.int (0 + (j : Int))), some (.ref d), some (.ref x), some (oV (dueO y1 y2 y3 y4 o)), some y, some (.ref bf), some (.ref f), v8, v9, v10, some (.ref st)] ∧ H' = H12, ?_, ?_⟩
    · refine ⟨_, rfl, rfl, _, rfl, ?_⟩
      rw [flat]
      cases hD : dueO y1 y2 y3 y4 o with
      | none =>
        have y0 := y0 hD
        subst y0
        exact iteT ⟨_, rfl, rfl, _, rfl, iteF ⟨rfl, rfl⟩⟩
      | some z => exact iteF (iteF ⟨rfl, rfl⟩)
    rintro σ H12' ⟨rfl, rfl⟩
    refine ⟨fun σ H' => σ = [some (.ref a0), some (.int (0 + (j : Int))), some (.ref d), some (.ref x), some (oV (dueO y1 y2 y3 y4 o)), some y, some (.ref bf), some (.ref f), v8, v9, v10, some (.ref st)] ∧ Same H12' H', ?_, ?_⟩
    · refine ⟨_, rfl, rfl, _, rfl, ?_⟩
      rw [flat]
      cases hD : dueO y1 y2 y3 y4 o with
      | some z => exact iteF (iteF ⟨rfl, fun _ _ e => e⟩)
      | none =>
        refine iteT ?_
        refine ⟨_, rfl, ix_L (K := K) (i := 0) eb rfl ⟨_, rfl, ix_L (K := K) (i := 1) eb rfl ⟨_, rfl, ix_L (K := K) (i := 2) eb rfl ⟨_, rfl, ix_L (K := K) (i := 3) eb rfl ⟨_, rfl, ix_L (K := K) (i := 4) eb rfl fun x' dx' hx hdx ne => ?_⟩⟩⟩⟩⟩
        have t1 : Same H12' (upd (upd H12' dx' (.own x')) x' (.ins HD.C dx' [])) := (Same.new hdx).trans (Same.new (by rw [upd_ne (Ne.symm ne)]; exact hx))
        refine init_any f1 f2 f3 f4 ((rs.kp B.S (.same t1)).rv) upd_same (fun z H14 ez s14 => by rw [hD] at ez; cases ez) fun _ h' b' H14 H15 ok' q1 q2 q3 q4 q5 q6 s14 e14 e15 o15 => ?_
        subst q1 q2 q3 q4 q5
        have sH := made_same hx hdx s14 o15
        have B15 := B.same sH
        have eb15 := sH _ _ eb
        have eb' : H15 b' = some (.tup (NV h'.ns)) := by rw [o15 b' (ne_of e14 (s14 _ _ upd_same) (by intro z; cases z))]; exact e14
        have hd' : Hd HD.C H15 (.ref x') h' := ⟨x', dx', b', rfl, e15, eb', by rw [ok'.eight.1]; decide⟩
        have sh : ∀ {g : Hdv}, Hok g → SeqAt.shaped (fiveD g) = true := fun o => (five_sm o).shaped (by decide)
        refine ⟨rfl, _, rfl, x', dx', _, _, rfl, e15, B15.hd.ty HD, by simp [PySem.W.notFirst], _, _, _, h', rfl, hd', .hd B15.hd, _, rfl, ?_⟩
        refine ⟨_, rfl, _, rfl, fiveD h', fiveD h, five_dp eb15 eb', five_dp B15.fv B15.cr.b, sh ok', sh ok, ?_⟩
        rw [eqv_five]
        refine ⟨rfl, _, rfl, ?_⟩
        rw [decide_eq_true rfl]
        exact iteF ⟨rfl, sH⟩
    rintro σ H13 ⟨rfl, s13⟩
    have B13 := B.same s13
    refine ⟨fun σ H' => σ = [some (.ref a0), some (.int (0 + (j : Int))), some (.ref d), some (.ref x), some (oV (dueO y1 y2 y3 y4 o)), some y, some (.ref bf), some (.ref f), v8, v9, v10, some (.ref st)] ∧ H' = H13, ?_, ?_⟩
    · refine ⟨_, rfl, rfl, _, rfl, ?_⟩
      rw [flat]
      cases hD : dueO y1 y2 y3 y4 o with
      | none => exact iteF (iteF ⟨rfl, rfl⟩)
      | some z =>
        have y2' := y2' (by rw [hD]; simp)
        rw [hD] at y2'
        obtain ⟨ea, ed, rfl, g1, g2, _⟩ := y2'
        have g1 := s13 _ _ g1
        have g2 := s13 _ _ g2
        refine iteT ⟨_, rfl, .inr ⟨ea, BH.C, ed, _, _, _, true, rfl, g1, g2, BH.x, .own _, kit_self, _, rfl, ?_⟩⟩
        refine iteF ⟨_, rfl, ea, ed, _, rfl, g1, g2, _, rfl, rfl, _, rfl, ?_⟩
        rw [decide_eq_true rfl]
        exact iteF ⟨rfl, rfl⟩
    rintro σ H13' ⟨rfl, rfl⟩
    have bx := B13.ok
    clear s13 B flat y2'
    refine ⟨_, rfl, st, lg, cl, 300 * j + 112, rfl, by omega, B13.S, fun t ms H14 l8 s8 htH et S14 k14 => ?_⟩
    have B14 := B13.kp k14 S14
    have nt := B13.S.off htH
    have b2 : bookB 2 (some (NV h.ns)) = true := book_two ok.b
    clear B13 k14 S14 eb rs
    refine ⟨fun σ H' => σ = [some (.ref a0), some (.int (0 + (j : Int))), some (.ref d), some (.ref x), some (oV (dueO y1 y2 y3 y4 o)), some y, some (.ref bf), some (.ref f), some (.ref t), v9, v10, some (.ref st)] ∧ Same H14 H', ?_, ?_⟩
    · have last : ∀ (σ' : L2.St) (H' : Hp), Same H14 H' → True := fun _ _ _ => True.intro
      clear last
      refine ⟨_, rfl, .ref t, some (NV ms), rfl, Rv.nv et (by rw [l8]; decide), fun H15 s15 => ⟨_, rfl, ?_⟩⟩
      cases hb : bookB 2 (some (NV ms)) with
      | true =>
        refine iteT ⟨_, rfl, t, ms, rfl, s15 _ _ et, hb, fun H16 s16 => ⟨_, rfl, iteF ?_⟩⟩
        have B16 := (B14.same s15).same s16
        exact ⟨_, rfl, B16.it (i := 4) rfl ⟨b, h.ns, rfl, B16.cr.b, b2, fun H17 s17 => ⟨_, rfl, iteF ⟨rfl, (s15.trans s16).trans s17⟩⟩⟩⟩
      | false =>
        have B15 := B14.same s15
        exact iteF ⟨_, rfl, B15.it (i := 4) rfl ⟨b, h.ns, rfl, B15.cr.b, b2, fun H17 s17 => ⟨_, rfl, iteF ⟨rfl, s15.trans s17⟩⟩⟩⟩
    rintro σ H15 ⟨rfl, s15⟩
    have B15 := B14.same s15
    have et := s15 _ _ et
    clear B14 s15
    -- what is no book
    refine ⟨_, rfl, B15.it (i := 4) rfl ⟨b, _, rfl, .inr (SqT.of B15.cr.b), fun q1 hq1 => ?_⟩⟩
    have t1 := Same.new (o := .lst (NV h.ns)) hq1
    have eq1 : (upd H15 q1 (.lst (NV h.ns))) q1 = some (.lst (NV h.ns)) := upd_same
    have n1 := B15.S.off hq1
    have B16 := B15.same t1
    have et := t1 _ _ et
    generalize upd H15 q1 (.lst (NV h.ns)) = H16 at t1 eq1 B16 et ⊢
    clear B15 t1 hq1
    refine ⟨_, rfl, B16.it (i := 4) rfl ⟨_, rfl, cut7 (K := K) B16.cr.b ok.eight.1 fun c7 H17 s17 ec7 => ?_⟩⟩
    have B17 := B16.same s17
    have et := s17 _ _ et
    have eq1 := s17 _ _ eq1
    clear B16 s17
    refine ⟨(by show 1 ≤ sizeLine; decide), fun u5 hu5 => ⟨u5, 8, _, rfl, rfl, SqT.of upd_same, by simp, by decide, by decide, by show 1 ≤ 1000; decide, fun z => absurd z (by decide), fun _ r0 hr0 => ?_⟩⟩
    have v1 := (Same.new (o := .tup [V.int 0]) hu5).trans (Same.new (o := .tup (NV [0, 0, 0, 0, 0, 0, 0, 0])) hr0)
    have er0 : (upd (upd H17 u5 (.tup [V.int 0])) r0 (.tup (NV [0, 0, 0, 0, 0, 0, 0, 0]))) r0 = some (.tup (NV [0, 0, 0, 0, 0, 0, 0, 0])) := upd_same
    change tCons _ _ _ (upd (upd H17 u5 (.tup [V.int 0])) r0 (.tup (NV [0, 0, 0, 0, 0, 0, 0, 0]))) _
    generalize upd (upd H17 u5 (.tup [V.int 0])) r0 (.tup (NV [0, 0, 0, 0, 0, 0, 0, 0])) = H18 at v1 er0 ⊢
    have B18 := B17.same v1
    have et := v1 _ _ et
    have eq1 := v1 _ _ eq1
    have ec7 := v1 _ _ ec7
    clear B17 v1 hu5 hr0
    refine ⟨(by show 1 ≤ sizeLine; decide), fun u6 hu6 => ⟨u6, 8, _, rfl, rfl, SqT.of upd_same, by simp, by decide, by decide, by show 1 ≤ 1000; decide, fun z => absurd z (by decide), fun _ r8 hr8 => ?_⟩⟩
    have v1 := (Same.new (o := .tup [V.int 1]) hu6).trans (Same.new (o := .tup (NV [1, 1, 1, 1, 1, 1, 1, 1])) hr8)
    have er8 : (upd (upd H18 u6 (.tup [V.int 1])) r8 (.tup (NV [1, 1, 1, 1, 1, 1, 1, 1]))) r8 = some (.tup (NV [1, 1, 1, 1, 1, 1, 1, 1])) := upd_same
    change tCons _ _ _ (upd (upd H18 u6 (.tup [V.int 1])) r8 (.tup (NV [1, 1, 1, 1, 1, 1, 1, 1]))) _
    generalize upd (upd H18 u6 (.tup [V.int 1])) r8 (.tup (NV [1, 1, 1, 1, 1, 1, 1, 1])) = H19 at v1 er8 ⊢
    have B19 := B18.same v1
    have et := v1 _ _ et
    have eq1 := v1 _ _ eq1
    have ec7 := v1 _ _ ec7
    have er0 := v1 _ _ er0
    clear B18 v1 hu6 hr8
    refine ⟨(by show 1 ≤ sizeLine; decide), fun u2 hu2 => ?_⟩
    have v1 := Same.new (o := .tup [V.bl true]) hu2
    have eu2 : (upd H19 u2 (.tup [V.bl true])) u2 = some (.tup [V.bl true]) := upd_same
    generalize upd H19 u2 (.tup [V.bl true]) = H20 at v1 eu2 ⊢
    have B20 := B19.same v1
    refine ⟨_, rfl, B20.it (i := 4) rfl ⟨_, rfl, cut1p (K := K) B20.cr.b ok.eight.1 fun d1 H21 s21 ed1 => ?_⟩⟩
    refine cat_any (K := K) (s21 _ _ eu2) ed1 (by rw [NV_len, List.length_drop, ok.eight.1]; decide) fun cT H22 s22 ecT => ?_
    have v2 := (v1.trans s21).trans s22
    have B22 := B19.same v2
    have et := v2 _ _ et
    have eq1 := v2 _ _ eq1
    have ec7 := v2 _ _ ec7
    have er0 := v2 _ _ er0
    have er8 := v2 _ _ er8
    clear B19 B20 v1 v2 s21 s22 eu2 hu2 ed1
    refine ⟨(by show 6 ≤ sizeLine; decide), fun ol hol => ?_⟩
    have tl := Same.new (o := .lst [V.non, .ref q1, .ref c7, .ref r0, .ref r8, .ref cT]) hol
    have nol := B22.S.off hol
    have B23 := B22.same tl
    have et := tl _ _ et
    have eol : (upd H22 ol (.lst [V.non, .ref q1, .ref c7, .ref r0, .ref r8, .ref cT])) ol = some (.lst [V.non, .ref q1, .ref c7, .ref r0, .ref r8, .ref cT]) := upd_same
    have odd : ∀ x ∈ [V.non, .ref q1, .ref c7, .ref r0, .ref r8, .ref cT], ∃ o, Rs st lg (upd H22 ol (.lst [V.non, .ref q1, .ref c7, .ref r0, .ref r8, .ref cT])) x o ∧ bookB 2 o = false := fun x hx => by
      simp only [List.mem_cons, List.not_mem_nil, or_false] at hx
      rcases hx with h' | h' | h' | h' | h' | h' <;> subst h'
      · exact ⟨_, .non, rfl⟩
      · exact ⟨_, .lst n1 (tl _ _ eq1), rfl⟩
      · refine ⟨_, .tup (tl _ _ ec7) fl_nv (by rw [NV_len, List.length_take, ok.eight.1]; decide), ?_⟩
        show (decide ((NV (h.ns.take 7)).length = 8) && _ && _) = false
        rw [NV_len, List.length_take, ok.eight.1]
        rfl
      · exact ⟨_, .tup (tl _ _ er0) fl_nv (by decide), by decide⟩
      · exact ⟨_, .tup (tl _ _ er8) fl_nv (by decide), by decide⟩
      · refine ⟨_, .tup (tl _ _ ecT) (fun x hx => ?_) (by rw [List.length_append, NV_len, List.length_drop, ok.eight.1]; decide), ?_⟩
        · rcases List.mem_append.mp hx with q | q
          · rw [List.mem_singleton.mp q]; exact .bl _
          · exact fl_nv x q
        · have z : sevB ([V.bl true] ++ NV (h.ns.drop 1)) = false := rfl
          unfold bookB
          dsimp only
          rw [z, Bool.and_false, Bool.false_and]
    generalize upd H22 ol (.lst [V.non, .ref q1, .ref c7, .ref r0, .ref r8, .ref cT]) = H23 at tl B23 et eol odd ⊢
    clear B22 tl hol eq1 ec7 er0 er8 ecT
    refine ⟨ol, rfl, ⟨_, SqL.of eol⟩, for_it (walk_list (xs := [V.non, .ref q1, .ref c7, .ref r0, .ref r8, .ref cT])) (fun n σ H' => (∃ v9, σ = [some (.ref a0), some (.int (0 + (j : Int))), some (.ref d), some (.ref x), some (oV (dueO y1 y2 y3 y4 o)), some y, some (.ref bf), some (.ref f), some (.ref t), v9, v10, some (.ref st)]) ∧ LB HD.C Pk Pt st lg cl d b x f h (300 * j + 130) H' ∧ KpN st lg H23 H') ⟨⟨_, rfl⟩, B23, .refl⟩ (fun _ σ H' _ z => SqL.of (z.2.2.lst nol eol)) ?_ ?_⟩
    · rintro i ov σ H24 H25 hi ⟨⟨v9', rfl⟩, B24, k24⟩ ⟨rfl, hx⟩
      obtain ⟨oo, rso, bo⟩ := odd ov (List.mem_of_getElem? hx)
      have rso := rso.kn B23.S k24
      refine caught_all T (C1 := T.BadBook.C) (C2 := T.BadBook.C) (f := "at") (x := .non) (m' := 300 * j + 130) False True False (fun _ => T.BadBook.exm T.reel) (fun z => z.elim) B24.Tb B24.S (fun H26 E Q1 x26 S26 _ q1' _ => ?_) (fun z => z.elim) (fun _ yy H26 S26 T26 k26 er => ?_) (fun z => z.elim)
      · exact ⟨_, rfl, ov, oo, rfl, (rso.kn B24.S (.ext x26)).rv, fun _ H27 s27 => q1' True.intro H27 (.same s27) (S26.same s27), fun q => by rw [bo] at q; cases q⟩
      · obtain ⟨ea, rfl, g1, g2⟩ := er
        exact .inl (.inr ⟨ea, T.BadBook.C, _, _, true, rfl, g1, T.BadBook.e, .own _, kit_self, _, rfl, iteF ⟨⟨_, rfl⟩, B24.kn k26 S26 T26, k24.trans k26⟩⟩)
    rintro σ H24 ⟨⟨v9', rfl⟩, B24, k24⟩
    have et := k24.tup B23.S et
    clear B23 k24 eol odd nol n1
    refine ⟨fun σ H' => σ = [some (.ref a0), some (.int (0 + (j : Int))), some (.ref d), some (.ref x), some (oV (dueO y1 y2 y3 y4 o)), some y, some (.ref bf), some (.ref f), some (.ref t), v9', v10, some (.ref st)] ∧ LB HD.C Pk Pt st lg cl d b x f h (300 * j + 130) H', ?_, ?_⟩
    · refine ⟨_, rfl, .ref t, some (NV ms), rfl, Rv.nv et (by rw [l8]; decide), fun H25 s25 => ⟨_, rfl, ?_⟩⟩
      have B25 := B24.same s25
      cases hb : bookB 2 (some (NV ms)) with
      | true => exact iteF (iteF ⟨rfl, B25⟩)
      | false =>
        have et := s25 _ _ et
        refine iteT ?_
        refine caught_all T (C1 := T.BadBook.C) (C2 := T.BadBook.C) (f := "at") (x := .non) (m' := 300 * j + 130) False True False (fun _ => T.BadBook.exm T.reel) (fun z => z.elim) B25.Tb B25.S (fun H26 E Q1 x26 S26 _ q1' _ => ?_) (fun z => z.elim) (fun _ yy H26 S26 T26 k26 er => ?_) (fun z => z.elim)
        · exact ⟨_, rfl, .ref t, some (NV ms), rfl, Rv.nv (x26 _ _ et (fun _ z => by cases z)) (by rw [l8]; decide), fun _ H27 s27 => q1' True.intro H27 (.same s27) (S26.same s27), fun q => by rw [hb] at q; cases q⟩
        · obtain ⟨ea, rfl, g1, g2⟩ := er
          exact .inl (.inr ⟨ea, T.BadBook.C, _, _, true, rfl, g1, T.BadBook.e, .own _, kit_self, _, rfl, iteF ⟨rfl, B25.kn k26 S26 T26⟩⟩)
    clear B24 et
    rintro σ H24 ⟨rfl, B24⟩
    refine ⟨_, rfl, d, b, h, rfl, B24.cr, ok, fun H25 s25 => ?_⟩
    have B25 := B24.same s25
    clear B24 s25
    have oh : Ones (txt (headL h)) := fun c hc => bitL_head h c hc
    have lh : (txt (headL h)).length = 35 := by rw [txt_len, headL_len ok]
    obtain ⟨x1, x2, x3, x4⟩ := two_str oh (by rw [lh]; decide)
    refine ⟨_, rfl, .ref x, rfl, .inl ⟨h, B25.hd, ok, fun H26 s26 => ?_⟩⟩
    have B26 := B25.same s26
    refine ⟨_, rfl, rfl, .ref x, rfl, .inl ⟨h, B26.hd, ok, fun H27 s27 => ?_⟩⟩
    have B27 := B26.same s27
    clear B25 B26
    refine ⟨(by show 2 ≤ sizeLine; decide), fun q hq => ?_⟩
    have tq := Same.new (o := .lst [V.str (txt (headL h)), .str (txt (headL h))]) hq
    have B28 := B27.same tq
    refine ⟨q, _, rfl, .lst (SqL.of upd_same) (.cons (.str _) (.cons (.str _) .nil)), x1, x2, x3, x4, ?_⟩
    refine ⟨_, rfl, _, rfl, (by show 2 ≤ sizeLine; decide), fun q' hq' => ?_⟩
    have tq' := Same.new (o := .lst [V.str (txt (headL h)), .str (txt (headL h))]) hq'
    have B29 := B28.same tq'
    refine ⟨q', _, rfl, .lst (SqL.of upd_same) (.cons (.str _) (.cons (.str _) .nil)), x1, x2, x3, x4, ?_⟩
    refine ⟨rfl, _, rfl, ?_⟩
    rw [decide_eq_true rfl]
    refine iteF ?_
    generalize upd (upd H27 q (.lst [V.str (txt (headL h)), .str (txt (headL h))])) q' (.lst [V.str (txt (headL h)), .str (txt (headL h))]) = H29 at B29 ⊢
    clear B27 B28 tq tq' x1 x2 x3 x4 hq hq'
    refine ⟨_, rfl, _, rfl, _, rfl, st, lg, cl, d, b, h, 300 * j + 130, rfl, B29.cr, ok, nd, by omega, B29.S, B29.Tb, fun H30 S30 T30 k30 => ⟨_, rfl, iteF ?_⟩⟩
    have B30 := B29.kn k30 S30 T30
    clear B29 k30 S30 T30
    -- three more errors
    refine caught_all T (C1 := BH.C) (C2 := BH.C) (f := "part") (x := .non) (m' := 300 * j + 151) False False True (fun z => z.elim) (fun _ => exB) B30.Tb B30.S (fun H31 E Q1 x31 S31 _ _ q2 => ?_) (fun z => z.elim) (fun z => z.elim) (fun _ yy H31 S31 T31 k31 er => ?_)
    · have ef31 := x31 _ _ B30.fv (fun _ z => by cases z)
      refine ⟨_, rfl, _, rfl, f, _, rfl, .inl ⟨SqL.of ef31, fun tt htt => ⟨(by show 4 ≤ sizeLine; decide), fun q hq => ?_⟩⟩⟩
      have t1 := Same.new (o := .tup (fiveV h b)) htt
      have t2 := Same.new (o := .lst [V.non, .ref tt, .str "head", .int 5]) hq
      have ett := t2 _ _ (upd_same (H := H31) (a := tt) (o := .tup (fiveV h b)))
      have S32 := S31.same (t1.trans t2)
      refine ⟨st, lg, cl, q, _, 300 * j + 130 + 20, rfl, upd_same, ((S31.same t1).off hq).2, (by show 0 < 4; decide), (by show 4 ≤ 1000; decide), by omega, S32, fun z H33 hz S33 k33 => ?_⟩
      have ett := tp_kp S32 k33 ett
      have oz : OddH H33 z := by
        simp only [List.mem_cons, List.not_mem_nil, or_false] at hz
        rcases hz with h' | h' | h' | h' <;> subst h'
        · exact .non
        · exact .tup ett
        · exact .str _
        · exact .int _
      exact ⟨z, rfl, .inr ⟨oz, fun dd hdd => q2 True.intro H33 dd ((Kp.same (t1.trans t2)).trans k33) S33 hdd⟩⟩
    have B31 := B30.kn k31 S31 T31
    clear B30 k31 S31 T31
    obtain ⟨ea, ed, rfl, g1, g2, _⟩ := er
    refine ⟨_, rfl, .inr ⟨ea, BH.C, ed, _, _, _, true, rfl, g1, g2, BH.x, .own _, kit_self, _, rfl, ?_⟩⟩
    refine iteF ⟨_, rfl, ea, ed, _, rfl, g1, g2, rfl, _, rfl, iteF ?_⟩
    clear g1 g2
    refine caught_all T (C1 := T.BadBits.C) (C2 := T.BadBits.C) (f := "part") (x := .non) (m' := 300 * j + 152) False True False (fun _ => T.BadBits.exm T.reel) (fun z => z.elim) B31.Tb B31.S (fun H32 E Q1 x32 S32 _ q1 _ => ?_) (fun z => z.elim) (fun _ yy H32 S32 T32 k32 er => ?_) (fun z => z.elim)
    · refine ⟨_, rfl, (by show 3 ≤ sizeLine; decide), fun q hq => ?_⟩
      have t2 := Same.new (o := .lst [V.non, .str "012", .int 5]) hq
      refine ⟨st, lg, cl, q, _, 300 * j + 151, rfl, upd_same, (S32.off hq).2, (by show 0 < 3; decide), (by show 3 ≤ 1000; decide), by omega, S32.same t2, fun z H33 hz S33 k33 => ?_⟩
      have go : ∀ bb, Pl K H33 z bb → (∀ s, z = .str s → s.length ≤ 900) → isBits z = false → spReadH K T.BadBits.C T.BadAt.C ST.C HD.C [z, .int (-1)] H33 Q1 E := fun bb pl ln nb => ⟨z, bb, _, _, rfl, pl, .int _, ln, fun _ => q1 True.intro H33 ((Kp.same t2).trans k33) S33, fun s _ q => by rw [nb] at q; cases q⟩
      refine ⟨_, rfl, ?_⟩
      simp only [List.mem_cons, List.not_mem_nil, or_false] at hz
      rcases hz with h' | h' | h' <;> subst h'
      · exact go _ .non (fun s e => by cases e) rfl
      · exact go _ (.str _) (fun s e => by cases e; decide) (by decide +kernel)
      · exact go _ (.int _) (fun s e => by cases e) rfl
    have B32 := B31.kn k32 S32 T32
    clear B31 k32 S32 T32
    obtain ⟨ea, rfl, g1, _⟩ := er
    refine .inl (.inr ⟨ea, T.BadBits.C, _, _, true, rfl, g1, T.BadBits.e, .own _, kit_self, _, rfl, iteF ?_⟩)
    clear g1
    refine caught_all T (C1 := T.BadAt.C) (C2 := T.BadAt.C) (f := "part") (x := .non) (m' := 300 * j + 153) False True False (fun _ => T.BadAt.exm T.reel) (fun z => z.elim) B32.Tb B32.S (fun H33 E Q1 x33 S33 _ q1 _ => ?_) (fun z => z.elim) (fun _ yy H33 S33 T33 k33 er => ?_) (fun z => z.elim)
    · refine ⟨_, rfl, _, rfl, _, rfl, (by show 4 ≤ sizeLine; decide), fun q hq => ?_⟩
      have t2 := Same.new (o := .lst [V.int (-1), .int 36, .bl true, .non]) hq
      refine ⟨st, lg, cl, q, _, 300 * j + 152, rfl, upd_same, (S33.off hq).2, (by show 0 < 4; decide), (by show 4 ≤ 1000; decide), by omega, S33.same t2, fun z H34 hz S34 k34 => ?_⟩
      have go : ∀ bb, Pl K H34 z bb → within z 0 35 = false → (∀ i, z = .int i → i < 0 ∨ 35 < i) → spReadH K T.BadBits.C T.BadAt.C ST.C HD.C [.str (txt (headL h)), z] H34 Q1 E := fun bb pl wi zi => by
        refine ⟨_, _, z, bb, rfl, .str _, pl, (fun s e => by cases e; rw [lh]; decide), fun q => ?_, fun s e ib => ⟨by cases e; exact oh, fun _ => q1 True.intro H34 ((Kp.same t2).trans k34) S34, fun a' ea' la' => ?_⟩⟩
        · rw [isBits_ones oh] at q
          cases q
        · cases e
          rw [lh] at la'
          have := zi _ ea'
          omega
      simp only [List.mem_cons, List.not_mem_nil, or_false] at hz
      rcases hz with h' | h' | h' | h' <;> subst h'
      · exact go _ (.int _) (by decide) (fun i e => by cases e; omega)
      · exact go _ (.int _) (by decide) (fun i e => by cases e; omega)
      · exact go _ (.bl _) rfl (fun i e => by cases e)
      · exact go _ .non rfl (fun i e => by cases e)
    have B33 := B32.kn k33 S33 T33
    obtain ⟨ea, rfl, g1, _⟩ := er
    refine .inl (.inr ⟨ea, T.BadAt.C, _, _, true, rfl, g1, T.BadAt.e, .own _, kit_self, _, rfl, iteF ?_⟩)
    exact ⟨B33.S.mono (by omega), B33.Tb, _, _, _, _, _, _, _, _, _, _, rfl⟩
end
end K08
namespace K08
open PySem PySem.Spec PyProof.Rows L2 PySem.W LamX KA KW KU KL KT
/-! ### what the head's heap says, put together -/
section
variable {K : PySem.W.Frag} {mg : Str → Option Value} {h : Heap}
theorem defT_of {x : Str} {st : Stmt} {f : Addr} {od an : Option Addr} {sl : Array (Option Value)} {oc kV dc pm cd ct : Value} (X : K.In h) (G : h.Ns mainGlobals mg)
    (a : PySem.W.nsIn K mainGlobals x = some (some (.ref f))) (l : K.lookup f = some ⟨oc, od, .func (PySem.W.fnOf x x (defArgs st) (defBody st) (defScope st) .none kV dc pm an cd ct), sl⟩) (c : PySem.W.codeIn K cd x = true) (k : PySem.W.keepIn K (.ref f) = true) :
    Nonempty (DefT K mg x st) := ⟨⟨f, _, fun_mk l c k, PySem.W.mg_of X G a⟩⟩
theorem lamT_of {x : Str} {st : Stmt} {f c Pt : Addr} {od an : Option Addr} {sl : Array (Option Value)} {oc kV dc pm ct : Value} (X : K.In h) (G : h.Ns mainGlobals mg) (T : DefT K mg x st)
    (a : PySem.W.nsIn K mainGlobals x = some (some (.ref f))) (l : K.lookup f = some ⟨oc, od, .func (PySem.W.fnOf x x (defArgs st) (defBody st) (defScope st) .none kV dc pm an (.ref c) ct), sl⟩) (cc : PySem.W.codeIn K (.ref c) x = true) :
    LamT K x st T.a T.d c Pt := by
  have e := (PySem.W.mg_of X G a).symm.trans T.m
  have e : f = T.a := Value.ref.inj (Option.some.inj e)
  obtain ⟨oc', od', kV', dc', pm', an', cd', ct', sl', ed, lk, hcd⟩ := T.f.ex
  rw [e] at l
  have e2 := l.symm.trans lk
  have e3 := congrArg Obj.data (Option.some.inj e2)
  have e4 := Data.func.inj e3
  exact ⟨oc, od, kV, dc, pm, an, ct, sl, e4.symm, by rw [← e4]; exact l, cc⟩
theorem reelT_of {C : Addr} (X : K.In h) (G : h.Ns mainGlobals mg) (a : PySem.W.nsIn K mainGlobals "ReelError" = some (some (.ref C))) (b : PySem.W.subIn K (.ref C) (.type "BaseException") = some true)
    (t : PySem.W.typeIn K (.ref C) = some (.type "type")) (d : PySem.W.hasDictIn K C = true) : ∃ R : ReelT K mg, R.C = C := ⟨⟨C, PySem.W.mg_of X G a, b, t, d⟩, rfl⟩
theorem excT_of {x : Str} {C R : Addr} (X : K.In h) (G : h.Ns mainGlobals mg) (a : PySem.W.nsIn K mainGlobals x = some (some (.ref C))) (q : PySem.W.excIn K C veB "ValueError.__new__" = true) (k : PySem.W.keepIn K (.ref C) = true)
    (b : PySem.W.subIn K (.ref C) (.type "BaseException") = some true) (t : PySem.W.typeIn K (.ref C) = some (.type "type")) (r : PySem.W.subIn K (.ref C) (.ref R) = some true)
    (e1 : PySem.W.findIn K (.ref C) "__getattribute__" = some (some (.builtin "BaseException.__getattribute__"))) (e2 : PySem.W.findIn K (.ref C) "__getattr__" = some none) (e3 : PySem.W.hasDictIn K C = true)
    (e4 : PySem.W.findIn K (.ref C) "__class__" = some (some (.builtin "object.__class__"))) (e5 : PySem.W.specialIn K (.builtin "object.__class__") "__get__" = some (some (.builtin "getset_descriptor.__get__")))
    (e6 : PySem.W.takesIn K (.builtin "object.__class__") = some true) (e7 : PySem.W.mroIn K C (.type "object") = some true) : Nonempty (ExcT K mg x R) :=
  ⟨⟨C, PySem.W.mg_of X G a, q, k, b, t, r, ⟨e1, e2, b, e3, e4, e5, e6, e7⟩⟩⟩
theorem cstT_of {x : Str} {n : Int} {t : Tok} (X : K.In h) (G : h.Ns mainGlobals mg) (a : PySem.W.nsIn K mainGlobals x = some (some (.int n t))) : CstT mg x n := ⟨t, PySem.W.mg_of X G a⟩
/-- the law, at the head's heap: two defs make lambdas -/
theorem law_at {l : PySem.W.OpenLaw} {w : World} {fa cr c Pt Pt2 : Addr} (T : Top K mg) (MD : ModesT K mg) (HD : HeadT K mg) (BH : BadHeadT l.prog w K mg T.reel.C) (HQ : HeadQ K mg HD) (ST : StreamT l.prog w K mg T.reel.C) (name : mg "law" = some (.ref fa)) (nP : Pt ≠ Pt2)
    (LT : LamT K "_law_read_right" s__law_read_right T._law_read_right.a T._law_read_right.d cr Pt) (ht : h.get? Pt = some { cls := .none, data := .fields #[] }) (hk : K.lookup Pt = none) (hc : PySem.W.CodeHd h cr Pt)
    (LT2 : LamT K "law" s_law T.law.a T.law.d c Pt2) (ht2 : h.get? Pt2 = some { cls := .none, data := .fields #[] }) (hk2 : K.lookup Pt2 = none) (hc2 : PySem.W.CodeHd h c Pt2) : LawAtG l w K (L2.CX l.prog w) 12 63 "_law_script" mg fa h := by
  have e : fa = T.law.a := Value.ref.inj (Option.some.inj (name.symm.trans T.law.m))
  subst e
  have both : ∀ {A : Addr × Addr → Prop}, A (cr, Pt) → A (c, Pt2) → ∀ p ∈ [(cr, Pt), (c, Pt2)], A p := fun q1 q2 p hp => by
    rcases List.mem_cons.mp hp with z | z
    · rw [z]
      exact q1
    · rw [List.mem_singleton.mp z]
      exact q2
  have m1 : (cr, Pt) ∈ [(cr, Pt), (c, Pt2)] := List.mem_cons_self
  have m2 : (c, Pt2) ∈ [(cr, Pt), (c, Pt2)] := List.mem_cons_of_mem _ List.mem_cons_self
  refine ⟨T.law.d, [(cr, Pt), (c, Pt2)], spLaw K Pt Pt2, ⟨both ht ht2, both hk hk2, both hc hc2⟩, fun s u => ?_, fun H a ns short t S => ?_, fun base _ _ tb => ok_law T MD HD BH HQ ST nP LT (tb _ m1) LT2 (tb _ m2)⟩
  · obtain ⟨oc, od, kV, doc, pm, an, cdv, ct, osl, ed, lk, hcd⟩ := T.law.f.ex
    rw [ed]
    exact .of_eq rfl
  · refine ⟨a, ns, rfl, S, short, fun p hp => ?_, fun _ => rfl⟩
    rcases List.mem_cons.mp hp with z | z
    · rw [z]
      exact TabS.nil (t _ m1)
    · rw [List.mem_singleton.mp z]
      exact TabS.nil (t _ m2)
theorem calm_cx {P : Program} {w : World} {H : Hp} {s : Shared} {e : Value} {s' : Shared} (z : L2.CX P w [] H s (fun _ _ _ => False) e s') : False := by
  obtain ⟨_, _, _, _, _, _, _, _, _, _, _, _, f⟩ := z
  exact f
end
end K08
namespace K08
open PySem PySem.Spec PyProof.Rows L2 PySem.W LamX KA KW KU KL KT
section
variable {K : PySem.W.Frag} {mg : Str → Option Value} {h : Heap} {A : Prop}
theorem reel_use {C : Addr} (X : K.In h) (G : h.Ns mainGlobals mg) (a : PySem.W.nsIn K mainGlobals "ReelError" = some (some (.ref C))) (b : PySem.W.subIn K (.ref C) (.type "BaseException") = some true)
    (t : PySem.W.typeIn K (.ref C) = some (.type "type")) (d : PySem.W.hasDictIn K C = true) (n : ∀ R : ReelT K mg, R.C = C → A) : A := by
  obtain ⟨R, e⟩ := reelT_of X G a b t d
  exact n R e
theorem exc_use {x : Str} {C B : Addr} (X : K.In h) (G : h.Ns mainGlobals mg) (R : ReelT K mg) (eR : R.C = B) (a : PySem.W.nsIn K mainGlobals x = some (some (.ref C))) (q : PySem.W.excIn K C veB "ValueError.__new__" = true) (k : PySem.W.keepIn K (.ref C) = true)
    (b : PySem.W.subIn K (.ref C) (.type "BaseException") = some true) (t : PySem.W.typeIn K (.ref C) = some (.type "type")) (r : PySem.W.subIn K (.ref C) (.ref B) = some true)
    (e1 : PySem.W.findIn K (.ref C) "__getattribute__" = some (some (.builtin "BaseException.__getattribute__"))) (e2 : PySem.W.findIn K (.ref C) "__getattr__" = some none) (e3 : PySem.W.hasDictIn K C = true)
    (e4 : PySem.W.findIn K (.ref C) "__class__" = some (some (.builtin "object.__class__"))) (e5 : PySem.W.specialIn K (.builtin "object.__class__") "__get__" = some (some (.builtin "getset_descriptor.__get__")))
    (e6 : PySem.W.takesIn K (.builtin "object.__class__") = some true) (e7 : PySem.W.mroIn K C (.type "object") = some true) (n : ExcT K mg x R.C → A) : A := by
  rw [← eR] at r
  obtain ⟨D⟩ := excT_of X G a q k b t r e1 e2 e3 e4 e5 e6 e7
  exact n D
theorem def_use {x : Str} {st : Stmt} {f : Addr} {od an : Option Addr} {sl : Array (Option Value)} {oc kV dc pm cd ct : Value} (X : K.In h) (G : h.Ns mainGlobals mg)
    (a : PySem.W.nsIn K mainGlobals x = some (some (.ref f))) (l : K.lookup f = some ⟨oc, od, .func (PySem.W.fnOf x x (defArgs st) (defBody st) (defScope st) .none kV dc pm an cd ct), sl⟩) (c : PySem.W.codeIn K cd x = true) (k : PySem.W.keepIn K (.ref f) = true)
    (n : DefT K mg x st → A) : A := by
  obtain ⟨D⟩ := defT_of X G a l c k
  exact n D
theorem lam_use {x : Str} {st : Stmt} {f c Pt : Addr} {od an : Option Addr} {sl : Array (Option Value)} {oc kV dc pm ct : Value} (X : K.In h) (G : h.Ns mainGlobals mg) (T : DefT K mg x st) (t : h.get? Pt = some { cls := .none, data := .fields #[] })
    (a : PySem.W.nsIn K mainGlobals x = some (some (.ref f))) (l : K.lookup f = some ⟨oc, od, .func (PySem.W.fnOf x x (defArgs st) (defBody st) (defScope st) .none kV dc pm an (.ref c) ct), sl⟩) (cc : PySem.W.codeIn K (.ref c) x = true)
    (hk : K.lookup Pt = none) (hc : PySem.W.codeHdIn K c Pt = true) (n : LamT K x st T.a T.d c Pt → K.lookup Pt = none → PySem.W.CodeHd h c Pt → A) : A := n (lamT_of X G T a l cc) hk (PySem.W.codeHd_of_K X hc)
end
end K08
namespace K08
open PySem PySem.Spec PyProof.Rows L2 PySem.W LamX KA KW KU
open PySem.HandSPX (refsVE)
theorem say_none {P : Program} {w : World} {fI cda cc : Addr} {qual f z : Str} {j : Nat} {pc pn pf pj : Pos} (hd : f ≠ "__debug__") (h1 : z.length ≤ sizeLine) (h2 : (z ++ ("None" : Str)).length ≤ sizeLine) :
    Text P w fI cda cc qual f (.JoinedStr [.Constant (.str z) j pc, .FormattedValue (.Name f pn) (-1) none pf] pj) .none :=
  text_of hd (fun _ _ _ _ k => wpAny_formatField_none (k _ _)) h1 h2
theorem say_text {P : Program} {w : World} {fI cda cc : Addr} {qual f z y : Str} {j : Nat} {pc pn pf pj : Pos} {t : Tok} (hd : f ≠ "__debug__") (h1 : z.length ≤ 1000) (h3 : y.length ≤ 1000) :
    Text P w fI cda cc qual f (.JoinedStr [.Constant (.str z) j pc, .FormattedValue (.Name f pn) (-1) none pf] pj) (.str y t) := by
  have e : (z ++ y).length = z.length + y.length := Array.size_append
  exact text_str hd (Nat.le_trans h1 (by decide)) (by rw [e]; exact Nat.le_trans (show _ ≤ 2000 by omega) (by decide)) (Nat.le_trans h3 (by decide))
theorem kit_false {K : PySem.W.Frag} {C : Addr} {t : String} {cd : ClassData} (c : PySem.W.clsIn K C = some cd) (ty : PySem.W.typeIn K (.ref C) = some (.type "type")) (s : PySem.W.subIn K (.type t) (.ref C) = some false) : PySem.W.kitOne K (.type t) (.ref C) = some false := by
  unfold PySem.W.kitOne
  rw [if_neg (by simp)]
  unfold PySem.W.kitCls
  dsimp only
  rw [c, ty, if_pos (by simp)]
  exact s
theorem say_len {z : Str} {i : Int} (hz : z.length ≤ 1000) (hi : i.natAbs ≤ 1000000) : (z ++ (toString i : String)).length ≤ sizeLine := by
  have h : (PyData.shown (.int i)).length ≤ 13 := PyData.shown_int_le (Nat.lt_of_le_of_lt hi (by decide))
  have e : (z ++ ((toString i : String) : Str)).length = z.length + (Str.ofString (toString i)).length := Array.size_append
  have h2 : (Str.ofString (toString i)).length ≤ 13 := h
  rw [e]
  exact Nat.le_trans (show _ ≤ 1013 by omega) (by decide)
theorem say_log {i : Int} (hi : i.natAbs ≤ 1000000) : i.natAbs.log2 < 1920 := by
  rcases Nat.eq_zero_or_pos i.natAbs with z | z
  · rw [z]
    decide
  · exact Nat.lt_of_lt_of_le ((Nat.log2_lt (by omega)).mpr (Nat.lt_of_le_of_lt hi (by decide : 1000000 < 2 ^ 20))) (by decide)
section
variable {P : Program} {w : World} {K : PySem.W.Frag} {mg : Str → Option Value} {h : Heap} {A : Prop}
theorem badhead_use {C fI cda cc B : Addr} {e : Expr} (X : K.In h) (G : h.Ns mainGlobals mg) (R : ReelT K mg) (eR : R.C = B)
    (a : PySem.W.nsIn K mainGlobals "BadHead" = some (some (.ref C))) (iC : PySem.W.findIn K (.ref C) "__init__" = some (some (.ref fI)))
    {oc : Value} {od : Option Addr} {doc pm : Value} {an : Option Addr} {ct : Value} {osl : Array (Option Value)} {r1 r2 p0 p1 p2 p3 pe q1 q2 q3 q4 : Pos}
    (lk : K.lookup fI = some ⟨oc, od, .func (ksFn "__init__" "BadHead.__init__" (upArgs "part" r1 r2) (upBody "part" e p0 p1 p2 p3 pe q1 q2 q3 q4) (upScope "part") .none .none doc pm an (.ref cda) ct cc), osl⟩)
    (bd : ∀ a b : Value, bindArgs (ksFn "__init__" "BadHead.__init__" (upArgs "part" r1 r2) (upBody "part" e p0 p1 p2 p3 pe q1 q2 q3 q4) (upScope "part") .none .none doc pm an (.ref cda) ct cc) ⟨[a, b], []⟩ = pure [(PySem.Str.ofString "self", a), (PySem.Str.ofString "part", b)])
    (sw : ∀ L : Addr, swapsWith (.Name "part" q3) (some (.Attribute (.Name "self" q1) "part" q2)) q4.line (ksEnv "BadHead.__init__" (upScope "part") L fI (.ref cda) cc) = pure false)
    {pl : Sem Bool}
    (cl : ∀ L : Addr, eval (.Call (.Attribute (.Call (.Name "super" p0) [] [] p1) "__init__" p2) [e] [] p3) (ksEnv "BadHead.__init__" (upScope "part") L fI (.ref cda) cc) = (do
        let o ← attributeBase (.Call (.Name "super" p0) [] [] p1) "__init__" (ksEnv "BadHead.__init__" (upScope "part") L fI (.ref cda) cc) (eval (.Call (.Name "super" p0) [] [] p1) (ksEnv "BadHead.__init__" (upScope "part") L fI (.ref cda) cc))
        standAt p2.atName
        let (g, first) ← holding [o] (getMethod o "__init__" pl)
        callWith p3 g first (backTo p3 (starEach [e] (ksEnv "BadHead.__init__" (upScope "part") L fI (.ref cda) cc))) []))
    (star : ∀ env : Env, starEach [e] env = [(false, eval e env)])
    (sayN : Text P w fI cda cc "BadHead.__init__" "part" e .none)
    (sayS : ∀ (y : Str) (t : Tok), y.length ≤ 1000 → Text P w fI cda cc "BadHead.__init__" "part" e (.str y t))
    (code : PySem.W.codeIn K (.ref cda) "BadHead.__init__" = true)
    {fcl : Value} {cdd : Option Addr} {vs : Array Value} {ccs : Array (Option Value)} {fl : Str} {tf : Tok}
    (f1 : K.lookup cda = some ⟨fcl, cdd, .fields vs, ccs⟩) (f2 : vs[2]? = some (.str fl tf)) (f3 : ((P.main.file : Str) == fl) = true)
    {ecl : Value} {cld : Option Addr} {csl : Array (Option Value)} (cell : K.lookup cc = some ⟨ecl, cld, .cell (some (.ref C)), csl⟩)
    {cd : ClassData} (c1 : PySem.W.clsIn K C = some cd) (c2 : refsVE cd.mro = true) (c3 : cd.hasDict = true)
    (self : PySem.W.mroIn K C (.ref C) = some true) (noSuper : PySem.W.nsIn K mainGlobals "super" = some none) (top : (P.main.scope.names.lookup ("super" : Str)).isSome = false) (third : PySem.W.nsIn K cStatics "thirdparty.any" = some none)
    (up : PySem.W.ks_superIn K C C "__init__" = some (some (.builtin "ValueError.__init__"))) (val : PySem.W.subIn K (.ref C) (.type "ValueError") = some true)
    (own : PySem.W.excInitIn K C [.type "ValueError", .type "Exception", .type "BaseException", .type "object"] "ValueError.__new__" = true)
    (set_ : PySem.W.findIn K (.ref C) "__setattr__" = some (some (.builtin "object.__setattr__"))) (noF : PySem.W.findIn K (.ref C) "part" = some none)
    {nm q : Str} {N : Addr} {bs bm : List Value} {sn : List Str} {sub : List Value} {ab : Bool} {col : Option Bool} {dd : Option Addr} {k0 k1 k2 k3 k5 : Option Value}
    (o1 : K.lookup C = some (excClassObj nm q C N bs bm true sn sub ab col dd k0 k1 k2 k3 k5 "ValueError.__new__")) (o2 : refsVE bm = true)
    (tC : PySem.W.typeIn K (.ref fI) = some (.type "function")) (ga : PySem.W.findIn K (.ref C) "__getattribute__" = some (some (.builtin "BaseException.__getattribute__"))) (gg : PySem.W.findIn K (.ref C) "__getattr__" = some none)
    (kC : PySem.W.keepIn K (.ref C) = true) (exC : PySem.W.subIn K (.ref C) (.type "BaseException") = some true) (tyC : PySem.W.typeIn K (.ref C) = some (.type "type")) (hdC : PySem.W.hasDictIn K C = true)
    (r : PySem.W.subIn K (.ref C) (.ref B) = some true)
    (e4 : PySem.W.findIn K (.ref C) "__class__" = some (some (.builtin "object.__class__"))) (e5 : PySem.W.specialIn K (.builtin "object.__class__") "__get__" = some (some (.builtin "getset_descriptor.__get__")))
    (e6 : PySem.W.takesIn K (.builtin "object.__class__") = some true) (e7 : PySem.W.mroIn K C (.type "object") = some true)
    (o : PySem.W.subIn K (.ref C) (.ref C) = some true)
    (n : BadHeadT P w K mg R.C → A) : A := by
  rw [← eR] at r
  exact n { C := C, fI := fI, cda := cda, cc := cc, e := e, g := PySem.W.mg_of X G a, u := { fn := ⟨oc, od, doc, pm, an, ct, osl, r1, r2, p0, p1, p2, p3, pe, q1, q2, q3, q4, lk, bd, sw, pl, cl⟩, star := star, code := code, file := ⟨fcl, cdd, vs, ccs, fl, tf, f1, f2, f3⟩, cell := ⟨ecl, cld, csl, cell⟩, cls := ⟨cd, c1, c2, c3⟩, self := self, noSuper := noSuper, top := top, third := third, up := up, val := val, own := own, «set» := set_, noF := noF, obj := ⟨nm, q, N, bs, bm, sn, sub, ab, col, dd, k0, k1, k2, k3, k5, o1, o2⟩, iC := iC, tC := tC, ga := ga, gg := gg, kC := kC, exC := exC, tyC := tyC, hdC := hdC, nf := by decide }, r := r, o := o, x := ⟨ga, gg, exC, hdC, e4, e5, e6, e7⟩, sayN := sayN, sayS := sayS }
theorem stream_use {C fI cda cc B : Addr} {e : Expr} (X : K.In h) (G : h.Ns mainGlobals mg) (R : ReelT K mg) (eR : R.C = B)
    (a : PySem.W.nsIn K mainGlobals "BadStream" = some (some (.ref C))) (iC : PySem.W.findIn K (.ref C) "__init__" = some (some (.ref fI)))
    {oc : Value} {od : Option Addr} {doc pm : Value} {an : Option Addr} {ct : Value} {osl : Array (Option Value)} {r1 r2 p0 p1 p2 p3 pe q1 q2 q3 q4 : Pos}
    (lk : K.lookup fI = some ⟨oc, od, .func (ksFn "__init__" "BadStream.__init__" (upArgs "at" r1 r2) (upBody "at" e p0 p1 p2 p3 pe q1 q2 q3 q4) (upScope "at") .none .none doc pm an (.ref cda) ct cc), osl⟩)
    (bd : ∀ a b : Value, bindArgs (ksFn "__init__" "BadStream.__init__" (upArgs "at" r1 r2) (upBody "at" e p0 p1 p2 p3 pe q1 q2 q3 q4) (upScope "at") .none .none doc pm an (.ref cda) ct cc) ⟨[a, b], []⟩ = pure [(PySem.Str.ofString "self", a), (PySem.Str.ofString "at", b)])
    (sw : ∀ L : Addr, swapsWith (.Name "at" q3) (some (.Attribute (.Name "self" q1) "at" q2)) q4.line (ksEnv "BadStream.__init__" (upScope "at") L fI (.ref cda) cc) = pure false)
    {pl : Sem Bool}
    (cl : ∀ L : Addr, eval (.Call (.Attribute (.Call (.Name "super" p0) [] [] p1) "__init__" p2) [e] [] p3) (ksEnv "BadStream.__init__" (upScope "at") L fI (.ref cda) cc) = (do
        let o ← attributeBase (.Call (.Name "super" p0) [] [] p1) "__init__" (ksEnv "BadStream.__init__" (upScope "at") L fI (.ref cda) cc) (eval (.Call (.Name "super" p0) [] [] p1) (ksEnv "BadStream.__init__" (upScope "at") L fI (.ref cda) cc))
        standAt p2.atName
        let (g, first) ← holding [o] (getMethod o "__init__" pl)
        callWith p3 g first (backTo p3 (starEach [e] (ksEnv "BadStream.__init__" (upScope "at") L fI (.ref cda) cc))) []))
    (star : ∀ env : Env, starEach [e] env = [(false, eval e env)])
    (say : ∀ (i : Int) (t : Tok), i.natAbs ≤ 1000000 → Text P w fI cda cc "BadStream.__init__" "at" e (.int i t))
    (code : PySem.W.codeIn K (.ref cda) "BadStream.__init__" = true)
    {fcl : Value} {cdd : Option Addr} {vs : Array Value} {ccs : Array (Option Value)} {fl : Str} {tf : Tok}
    (f1 : K.lookup cda = some ⟨fcl, cdd, .fields vs, ccs⟩) (f2 : vs[2]? = some (.str fl tf)) (f3 : ((P.main.file : Str) == fl) = true)
    {ecl : Value} {cld : Option Addr} {csl : Array (Option Value)} (cell : K.lookup cc = some ⟨ecl, cld, .cell (some (.ref C)), csl⟩)
    {cd : ClassData} (c1 : PySem.W.clsIn K C = some cd) (c2 : refsVE cd.mro = true) (c3 : cd.hasDict = true)
    (self : PySem.W.mroIn K C (.ref C) = some true) (noSuper : PySem.W.nsIn K mainGlobals "super" = some none) (top : (P.main.scope.names.lookup ("super" : Str)).isSome = false) (third : PySem.W.nsIn K cStatics "thirdparty.any" = some none)
    (up : PySem.W.ks_superIn K C C "__init__" = some (some (.builtin "ValueError.__init__"))) (val : PySem.W.subIn K (.ref C) (.type "ValueError") = some true)
    (own : PySem.W.excInitIn K C [.type "ValueError", .type "Exception", .type "BaseException", .type "object"] "ValueError.__new__" = true)
    (set_ : PySem.W.findIn K (.ref C) "__setattr__" = some (some (.builtin "object.__setattr__"))) (noF : PySem.W.findIn K (.ref C) "at" = some none)
    {nm q : Str} {N : Addr} {bs bm : List Value} {sn : List Str} {sub : List Value} {ab : Bool} {col : Option Bool} {dd : Option Addr} {k0 k1 k2 k3 k5 : Option Value}
    (o1 : K.lookup C = some (excClassObj nm q C N bs bm true sn sub ab col dd k0 k1 k2 k3 k5 "ValueError.__new__")) (o2 : refsVE bm = true)
    (tC : PySem.W.typeIn K (.ref fI) = some (.type "function")) (ga : PySem.W.findIn K (.ref C) "__getattribute__" = some (some (.builtin "BaseException.__getattribute__"))) (gg : PySem.W.findIn K (.ref C) "__getattr__" = some none)
    (kC : PySem.W.keepIn K (.ref C) = true) (exC : PySem.W.subIn K (.ref C) (.type "BaseException") = some true) (tyC : PySem.W.typeIn K (.ref C) = some (.type "type")) (hdC : PySem.W.hasDictIn K C = true)
    (r : PySem.W.subIn K (.ref C) (.ref B) = some true)
    (e4 : PySem.W.findIn K (.ref C) "__class__" = some (some (.builtin "object.__class__"))) (e5 : PySem.W.specialIn K (.builtin "object.__class__") "__get__" = some (some (.builtin "getset_descriptor.__get__")))
    (e6 : PySem.W.takesIn K (.builtin "object.__class__") = some true) (e7 : PySem.W.mroIn K C (.type "object") = some true)
    (n : StreamT P w K mg R.C → A) : A := by
  rw [← eR] at r
  exact n { C := C, fI := fI, cda := cda, cc := cc, e := e, g := PySem.W.mg_of X G a, u := { fn := ⟨oc, od, doc, pm, an, ct, osl, r1, r2, p0, p1, p2, p3, pe, q1, q2, q3, q4, lk, bd, sw, pl, cl⟩, star := star, code := code, file := ⟨fcl, cdd, vs, ccs, fl, tf, f1, f2, f3⟩, cell := ⟨ecl, cld, csl, cell⟩, cls := ⟨cd, c1, c2, c3⟩, self := self, noSuper := noSuper, top := top, third := third, up := up, val := val, own := own, «set» := set_, noF := noF, obj := ⟨nm, q, N, bs, bm, sn, sub, ab, col, dd, k0, k1, k2, k3, k5, o1, o2⟩, iC := iC, tC := tC, ga := ga, gg := gg, kC := kC, exC := exC, tyC := tyC, hdC := hdC, nf := by decide }, r := r, x := ⟨ga, gg, exC, hdC, e4, e5, e6, e7⟩, say := say }
theorem head_use {C f : Addr} (X : K.In h) (G : h.Ns mainGlobals mg) {oc : Value} {od : Option Addr} {kV dc pm : Value} {an : Option Addr} {cd ct : Value} {sl : Array (Option Value)}
    (a : PySem.W.nsIn K mainGlobals "Head" = some (some (.ref C))) (init : PySem.W.findIn K (.ref C) "__init__" = some (some (.ref f)))
    (l : K.lookup f = some ⟨oc, od, .func (PySem.W.fnOf "__init__" "Head.__init__" (defArgs s_Head_init) (defBody s_Head_init) (defScope s_Head_init) .none kV dc pm an cd ct), sl⟩) (c : PySem.W.codeIn K cd "Head.__init__" = true) (k : PySem.W.keepIn K (.ref f) = true)
    (makes : PySem.W.makesIn K C = true) (fn : PySem.W.isFn K (.ref f) = true) (kp : PySem.W.keepIn K (.ref C) = true) (pg : PySem.W.plainGet K C Str.empty = true) (hd : PySem.W.hasDictIn K C = true) (po : PySem.W.plainOver K C = true)
    (sa : PySem.W.findIn K (.ref C) "__setattr__" = some (some (.builtin "object.__setattr__"))) (ha : PySem.W.findIn K (.ref C) "__class__" = some (some (.builtin "object.__class__")))
    (hn : PySem.W.specialIn K (.builtin "object.__class__") "__get__" = some (some (.builtin "getset_descriptor.__get__"))) (htk : PySem.W.takesIn K (.builtin "object.__class__") = some true) (hm : PySem.W.mroIn K C (.type "object") = some true)
    (n1 : PySem.W.findIn K (.ref C) "kind" = some none) (n2 : PySem.W.findIn K (.ref C) "loss" = some none) (n3 : PySem.W.findIn K (.ref C) "grade" = some none) (n4 : PySem.W.findIn K (.ref C) "reach" = some none) (n5 : PySem.W.findIn K (.ref C) "book" = some none)
    {cld : ClassData} (cl : PySem.W.clsIn K C = some cld) (ty : PySem.W.typeIn K (.ref C) = some (.type "type")) (sI : PySem.W.subIn K (.type "int") (.ref C) = some false) (sS : PySem.W.subIn K (.type "str") (.ref C) = some false) (sN : PySem.W.subIn K (.type "NoneType") (.ref C) = some false)
    {fe : Addr} {oc2 : Value} {od2 : Option Addr} {kV2 dc2 pm2 : Value} {an2 : Option Addr} {cd2 ct2 : Value} {sl2 : Array (Option Value)} (eq : PySem.W.findIn K (.ref C) "__eq__" = some (some (.ref fe)))
    (l2 : K.lookup fe = some ⟨oc2, od2, .func (PySem.W.fnOf "__eq__" "Head.__eq__" (defArgs s_Head_eq) (defBody s_Head_eq) (defScope s_Head_eq) .none kV2 dc2 pm2 an2 cd2 ct2), sl2⟩) (c2 : PySem.W.codeIn K cd2 "Head.__eq__" = true) (k2 : PySem.W.keepIn K (.ref fe) = true)
    (fn2 : PySem.W.isFn K (.ref fe) = true) (ne : PySem.W.findIn K (.ref C) "__ne__" = some (some (.builtin "object.__ne__"))) (sT : PySem.W.subIn K (.type "tuple") (.ref C) = some false)
    (n : (HD : HeadT K mg) → HeadQ K mg HD → A) : A :=
  n { C := C, f := f, d := _, F := fun_mk l c k, M := ⟨makes, init, fn, kp⟩, g := PySem.W.mg_of X G a, i := ⟨⟨pg, hd, po, sa⟩, ha, hn, htk, hm, kit_self⟩, n1 := n1, n2 := n2, n3 := n3, n4 := n4, n5 := n5, kI := kit_false cl ty sI, kS := kit_false cl ty sS, kN := kit_false cl ty sN, kT := kit_false cl ty sT } { f := fe, d := _, F := fun_mk l2 c2 k2, s := eq, i := fn2, n := ne, o := hm, sT := sT }
theorem modes_use {f : Addr} {od : Option Addr} {its : Array Value} {n : Nat} {sl : Array (Option Value)} (X : K.In h) (G : h.Ns mainGlobals mg) (a : PySem.W.nsIn K mainGlobals "MODES" = some (some (.ref f)))
    (l : K.lookup f = some ⟨.type "tuple", od, .seq its n, sl⟩) (v : Vals (modeL.map V.str) its.toList) (k : ModesT K mg → A) : A :=
  k { a := f, m := PySem.W.mg_of X G a, q := fun H => .inr ⟨_, its, n, l, rfl, rfl, (by rw [← Array.length_toList, ← v.length]; show 8 ≤ sizeLine; decide), v⟩ }
end
end K08
open PySem PySem.W PyProof.Rows
set_option maxRecDepth 100000 in
set_option maxHeartbeats 0 in
theorem PySem.Challenge.cw_pricedreels_k08_books_and_heads_holds : PySem.Challenge.rw_pricedreels_k08_books_and_heads.Holds := by
  w_on; o_law; k_head; (case hw => w_witness2)
  k_fill
  refine KA.walk_ofG (l := PySem.Challenge.rw_pricedreels_k08_books_and_heads) (k := 12) (n := 63) (x := "_law_script") (CX := fun w => L2.CX PySem.Challenge.rw_pricedreels_k08_books_and_heads.prog w) rfl (by decide) rfl ⟨rfl, by decide, by decide⟩ (fun w h Y => km_in_of Y) ?F (fun _ _ _ _ _ z => K08.calm_cx z)
  case F =>
    intro w mg fa h Y KX G hmg
    have tabs := km_tabs_of Y
    have one := tabs _ List.mem_cons_self
    have two := tabs _ (List.mem_cons_of_mem _ List.mem_cons_self)
    refine' K08.reel_use KX G ?ya ?yb ?yt ?yd ?_
    (case ya => k_is); (case yb => k_is); (case yt => k_is); (case yd => k_is)
    intro R eR
    refine' K08.badhead_use (P := (PySem.Challenge.rw_pricedreels_k08_books_and_heads).prog) (w := w) KX G R eR ?ya ?yiC ?ylk ?ybd ?ysw ?ycl ?ystar ?ysayN ?ysayS ?ycode ?yf1 ?yf2 ?yf3 ?ycell ?yc1 ?yc2 ?yc3 ?yself ?ynoS ?ytop ?ythird ?yup ?yval ?yown ?yset ?ynoF ?yo1 ?yo2 ?ytC ?yga ?ygg ?ykC ?yexC ?ytyC ?yhdC ?yr ?ye4 ?ye5 ?ye6 ?ye7 ?yo ?_
    (case ya => k_is); (case yiC => k_is); (case ylk => k_is)
    (case ybd => intro a b; rfl)
    (case ysw => intro L; rfl)
    (case ycl => intro L; rfl)
    (case ystar => intro env; rfl)
    (case ysayN => exact K08.say_none (by decide) (by decide) (by decide))
    (case ysayS => intro y t hy; exact K08.say_text (by decide) (by decide) hy)
    (case ycode => k_is)
    (case yf1 => k_is); (case yf2 => rfl); (case yf3 => decide +kernel)
    (case ycell => k_is); (case yc1 => k_is); (case yc2 => decide +kernel); (case yc3 => rfl)
    (case yself => k_is); (case ynoS => k_is); (case ytop => kernel_rfl); (case ythird => k_is)
    (case yup => ks_is); (case yval => k_is); (case yown => kx_is); (case yset => k_is); (case ynoF => k_is)
    (case yo1 => k_is); (case yo2 => decide +kernel)
    (case ytC => k_is); (case yga => k_is); (case ygg => k_is); (case ykC => k_is); (case yexC => k_is); (case ytyC => k_is); (case yhdC => k_is); (case yr => k_is); (case ye4 => k_is); (case ye5 => k_is); (case ye6 => k_is); (case ye7 => k_is)
    (case yo => k_is)
    intro BH
    refine' K08.stream_use (P := (PySem.Challenge.rw_pricedreels_k08_books_and_heads).prog) (w := w) KX G R eR ?ya ?yiC ?ylk ?ybd ?ysw ?ycl ?ystar ?ysay ?ycode ?yf1 ?yf2 ?yf3 ?ycell ?yc1 ?yc2 ?yc3 ?yself ?ynoS ?ytop ?ythird ?yup ?yval ?yown ?yset ?ynoF ?yo1 ?yo2 ?ytC ?yga ?ygg ?ykC ?yexC ?ytyC ?yhdC ?yr ?ye4 ?ye5 ?ye6 ?ye7 ?_
    (case ya => k_is); (case yiC => k_is); (case ylk => k_is)
    (case ybd => intro a b; rfl)
    (case ysw => intro L; rfl)
    (case ycl => intro L; rfl)
    (case ystar => intro env; rfl)
    (case ysay => intro i t hi; exact KU.text_int (by decide) (K08.say_log hi) (by decide) (K08.say_len (by decide) hi))
    (case ycode => k_is)
    (case yf1 => k_is); (case yf2 => rfl); (case yf3 => decide +kernel)
    (case ycell => k_is); (case yc1 => k_is); (case yc2 => decide +kernel); (case yc3 => rfl)
    (case yself => k_is); (case ynoS => k_is); (case ytop => kernel_rfl); (case ythird => k_is)
    (case yup => ks_is); (case yval => k_is); (case yown => kx_is); (case yset => k_is); (case ynoF => k_is)
    (case yo1 => k_is); (case yo2 => decide +kernel)
    (case ytC => k_is); (case yga => k_is); (case ygg => k_is); (case ykC => k_is); (case yexC => k_is); (case ytyC => k_is); (case yhdC => k_is); (case yr => k_is); (case ye4 => k_is); (case ye5 => k_is); (case ye6 => k_is); (case ye7 => k_is)
    intro ST
    refine' K08.head_use KX G ?ya ?yin ?yl ?yc ?yk ?ymk ?yfn ?ykp ?ypg ?yhd ?ypo ?ysa ?yha ?yhn ?yht ?yhm ?yn1 ?yn2 ?yn3 ?yn4 ?yn5 ?ycl ?yty ?ysI ?ysS ?ysN ?yeq ?yl2 ?yc2 ?yk2 ?yfn2 ?yne ?ysT ?_
    (case ya => k_is); (case yin => k_is); (case yl => k_is)
    (case yc => k_is); (case yk => k_is); (case ymk => k_is); (case yfn => k_is); (case ykp => k_is); (case ypg => k_is); (case yhd => k_is); (case ypo => k_is); (case ysa => k_is); (case yha => k_is); (case yhn => k_is); (case yht => k_is); (case yhm => k_is); (case yn1 => k_is); (case yn2 => k_is); (case yn3 => k_is); (case yn4 => k_is); (case yn5 => k_is); (case ycl => k_is); (case yty => k_is); (case ysI => k_is); (case ysS => k_is); (case ysN => k_is); (case yeq => k_is); (case yl2 => k_is); (case yc2 => k_is); (case yk2 => k_is); (case yfn2 => k_is); (case yne => k_is); (case ysT => k_is)
    intro HD HQ
    refine' K08.modes_use KX G ?ya ?yl ?yv ?_
    (case ya => k_is); (case yl => k_is)
    (case yv => exact .cons ⟨_, rfl⟩ (.cons ⟨_, rfl⟩ (.cons ⟨_, rfl⟩ (.cons ⟨_, rfl⟩ (.cons ⟨_, rfl⟩ (.cons ⟨_, rfl⟩ (.cons ⟨_, rfl⟩ (.cons ⟨_, rfl⟩ .nil))))))))
    intro MD
    refine' K08.exc_use (x := "BadAt") KX G R eR ?ya ?yq ?yk ?yb ?yt ?yr ?ye1 ?ye2 ?ye3 ?ye4 ?ye5 ?ye6 ?ye7 ?_
    (case ya => k_is); (case yq => k_exc); (case yk => k_is); (case yb => k_is); (case yt => k_is); (case yr => k_is); (case ye1 => k_is); (case ye2 => k_is); (case ye3 => k_is); (case ye4 => k_is); (case ye5 => k_is); (case ye6 => k_is); (case ye7 => k_is)
    intro BadAt
    refine' K08.exc_use (x := "BadBits") KX G R eR ?ya ?yq ?yk ?yb ?yt ?yr ?ye1 ?ye2 ?ye3 ?ye4 ?ye5 ?ye6 ?ye7 ?_
    (case ya => k_is); (case yq => k_exc); (case yk => k_is); (case yb => k_is); (case yt => k_is); (case yr => k_is); (case ye1 => k_is); (case ye2 => k_is); (case ye3 => k_is); (case ye4 => k_is); (case ye5 => k_is); (case ye6 => k_is); (case ye7 => k_is)
    intro BadBits
    refine' K08.exc_use (x := "BadBook") KX G R eR ?ya ?yq ?yk ?yb ?yt ?yr ?ye1 ?ye2 ?ye3 ?ye4 ?ye5 ?ye6 ?ye7 ?_
    (case ya => k_is); (case yq => k_exc); (case yk => k_is); (case yb => k_is); (case yt => k_is); (case yr => k_is); (case ye1 => k_is); (case ye2 => k_is); (case ye3 => k_is); (case ye4 => k_is); (case ye5 => k_is); (case ye6 => k_is); (case ye7 => k_is)
    intro BadBook
    refine' K08.def_use (x := "is_number") (st := K08.s_is_number) KX G ?ya ?yl ?yc ?yk ?_
    (case ya => k_is); (case yl => k_is); (case yc => k_is); (case yk => k_is)
    intro f_is_number
    refine' K08.def_use (x := "is_within") (st := K08.s_is_within) KX G ?ya ?yl ?yc ?yk ?_
    (case ya => k_is); (case yl => k_is); (case yc => k_is); (case yk => k_is)
    intro f_is_within
    refine' K08.def_use (x := "is_tuple_of") (st := K08.s_is_tuple_of) KX G ?ya ?yl ?yc ?yk ?_
    (case ya => k_is); (case yl => k_is); (case yc => k_is); (case yk => k_is)
    intro f_is_tuple_of
    refine' K08.def_use (x := "is_bits") (st := K08.s_is_bits) KX G ?ya ?yl ?yc ?yk ?_
    (case ya => k_is); (case yl => k_is); (case yc => k_is); (case yk => k_is)
    intro f_is_bits
    refine' K08.def_use (x := "check_stream") (st := K08.s_check_stream) KX G ?ya ?yl ?yc ?yk ?_
    (case ya => k_is); (case yl => k_is); (case yc => k_is); (case yk => k_is)
    intro f_check_stream
    refine' K08.def_use (x := "in_bits") (st := K08.s_in_bits) KX G ?ya ?yl ?yc ?yk ?_
    (case ya => k_is); (case yl => k_is); (case yc => k_is); (case yk => k_is)
    intro f_in_bits
    refine' K08.def_use (x := "take_fixed") (st := K08.s_take_fixed) KX G ?ya ?yl ?yc ?yk ?_
    (case ya => k_is); (case yl => k_is); (case yc => k_is); (case yk => k_is)
    intro f_take_fixed
    refine' K08.def_use (x := "words_of") (st := K08.s_words_of) KX G ?ya ?yl ?yc ?yk ?_
    (case ya => k_is); (case yl => k_is); (case yc => k_is); (case yk => k_is)
    intro f_words_of
    refine' K08.def_use (x := "head_bits") (st := K08.s_head_bits) KX G ?ya ?yl ?yc ?yk ?_
    (case ya => k_is); (case yl => k_is); (case yc => k_is); (case yk => k_is)
    intro f_head_bits
    refine' K08.def_use (x := "read_head") (st := K08.s_read_head) KX G ?ya ?yl ?yc ?yk ?_
    (case ya => k_is); (case yl => k_is); (case yc => k_is); (case yk => k_is)
    intro f_read_head
    refine' K08.def_use (x := "check_head") (st := K08.s_check_head) KX G ?ya ?yl ?yc ?yk ?_
    (case ya => k_is); (case yl => k_is); (case yc => k_is); (case yk => k_is)
    intro f_check_head
    refine' K08.def_use (x := "is_book") (st := K08.s_is_book) KX G ?ya ?yl ?yc ?yk ?_
    (case ya => k_is); (case yl => k_is); (case yc => k_is); (case yk => k_is)
    intro f_is_book
    refine' K08.def_use (x := "take_head") (st := K08.s_take_head) KX G ?ya ?yl ?yc ?yk ?_
    (case ya => k_is); (case yl => k_is); (case yc => k_is); (case yk => k_is)
    intro f_take_head
    refine' K08.def_use (x := "_law_begun") (st := K08.s__law_begun) KX G ?ya ?yl ?yc ?yk ?_
    (case ya => k_is); (case yl => k_is); (case yc => k_is); (case yk => k_is)
    intro f__law_begun
    refine' K08.def_use (x := "_law_draw") (st := K08.s__law_draw) KX G ?ya ?yl ?yc ?yk ?_
    (case ya => k_is); (case yl => k_is); (case yc => k_is); (case yk => k_is)
    intro f__law_draw
    refine' K08.def_use (x := "_law_pick") (st := K08.s__law_pick) KX G ?ya ?yl ?yc ?yk ?_
    (case ya => k_is); (case yl => k_is); (case yc => k_is); (case yk => k_is)
    intro f__law_pick
    refine' K08.def_use (x := "_law_caught") (st := K08.s__law_caught) KX G ?ya ?yl ?yc ?yk ?_
    (case ya => k_is); (case yl => k_is); (case yc => k_is); (case yk => k_is)
    intro f__law_caught
    refine' K08.def_use (x := "_law_is_whole") (st := K08.s__law_is_whole) KX G ?ya ?yl ?yc ?yk ?_
    (case ya => k_is); (case yl => k_is); (case yc => k_is); (case yk => k_is)
    intro f__law_is_whole
    refine' K08.def_use (x := "_law_fashions") (st := K08.s__law_fashions) KX G ?ya ?yl ?yc ?yk ?_
    (case ya => k_is); (case yl => k_is); (case yc => k_is); (case yk => k_is)
    intro f__law_fashions
    refine' K08.def_use (x := "_law_stands") (st := K08.s__law_stands) KX G ?ya ?yl ?yc ?yk ?_
    (case ya => k_is); (case yl => k_is); (case yc => k_is); (case yk => k_is)
    intro f__law_stands
    refine' K08.def_use (x := "_law_two") (st := K08.s__law_two) KX G ?ya ?yl ?yc ?yk ?_
    (case ya => k_is); (case yl => k_is); (case yc => k_is); (case yk => k_is)
    intro f__law_two
    refine' K08.def_use (x := "_law_twos") (st := K08.s__law_twos) KX G ?ya ?yl ?yc ?yk ?_
    (case ya => k_is); (case yl => k_is); (case yc => k_is); (case yk => k_is)
    intro f__law_twos
    refine' K08.def_use (x := "_law_words") (st := K08.s__law_words) KX G ?ya ?yl ?yc ?yk ?_
    (case ya => k_is); (case yl => k_is); (case yc => k_is); (case yk => k_is)
    intro f__law_words
    refine' K08.def_use (x := "_law_lengths") (st := K08.s__law_lengths) KX G ?ya ?yl ?yc ?yk ?_
    (case ya => k_is); (case yl => k_is); (case yc => k_is); (case yk => k_is)
    intro f__law_lengths
    refine' K08.def_use (x := "_law_crown") (st := K08.s__law_crown) KX G ?ya ?yl ?yc ?yk ?_
    (case ya => k_is); (case yl => k_is); (case yc => k_is); (case yk => k_is)
    intro f__law_crown
    refine' K08.def_use (x := "_law_head") (st := K08.s__law_head) KX G ?ya ?yl ?yc ?yk ?_
    (case ya => k_is); (case yl => k_is); (case yc => k_is); (case yk => k_is)
    intro f__law_head
    refine' K08.def_use (x := "_law_head_signs") (st := K08.s__law_head_signs) KX G ?ya ?yl ?yc ?yk ?_
    (case ya => k_is); (case yl => k_is); (case yc => k_is); (case yk => k_is)
    intro f__law_head_signs
    refine' K08.def_use (x := "_law_is_book") (st := K08.s__law_is_book) KX G ?ya ?yl ?yc ?yk ?_
    (case ya => k_is); (case yl => k_is); (case yc => k_is); (case yk => k_is)
    intro f__law_is_book
    refine' K08.def_use (x := "_law_due") (st := K08.s__law_due) KX G ?ya ?yl ?yc ?yk ?_
    (case ya => k_is); (case yl => k_is); (case yc => k_is); (case yk => k_is)
    intro f__law_due
    refine' K08.def_use (x := "_law_any_lengths") (st := K08.s__law_any_lengths) KX G ?ya ?yl ?yc ?yk ?_
    (case ya => k_is); (case yl => k_is); (case yc => k_is); (case yk => k_is)
    intro f__law_any_lengths
    refine' K08.def_use (x := "_law_bent") (st := K08.s__law_bent) KX G ?ya ?yl ?yc ?yk ?_
    (case ya => k_is); (case yl => k_is); (case yc => k_is); (case yk => k_is)
    intro f__law_bent
    refine' K08.def_use (x := "_law_words_right") (st := K08.s__law_words_right) KX G ?ya ?yl ?yc ?yk ?_
    (case ya => k_is); (case yl => k_is); (case yc => k_is); (case yk => k_is)
    intro f__law_words_right
    refine' K08.def_use (x := "_law_read_right") (st := K08.s__law_read_right) KX G ?ya ?yl ?yc ?yk ?_
    (case ya => k_is); (case yl => k_is); (case yc => k_is); (case yk => k_is)
    intro f__law_read_right
    refine' K08.def_use (x := "law") (st := K08.s_law) KX G ?ya ?yl ?yc ?yk ?_
    (case ya => k_is); (case yl => k_is); (case yc => k_is); (case yk => k_is)
    intro f_law
    refine' K08.lam_use KX G f__law_read_right one ?ya ?yl ?yc ?yh ?yj ?_
    (case ya => k_is); (case yl => k_is); (case yc => k_is); (case yh => kernel_rfl); (case yj => kernel_rfl)
    intro LT noT hd
    refine' K08.lam_use KX G f_law two ?ya ?yl ?yc ?yh ?yj ?_
    (case ya => k_is); (case yl => k_is); (case yc => k_is); (case yh => kernel_rfl); (case yj => kernel_rfl)
    intro LT2 noT2 hd2
    have cLONGEST_WORD := K08.cstT_of (x := "LONGEST_WORD") (n := 7) KX G (by k_is)
    have cBITS_OF_KIND := K08.cstT_of (x := "BITS_OF_KIND") (n := 2) KX G (by k_is)
    have cBITS_OF_PART := K08.cstT_of (x := "BITS_OF_PART") (n := 3) KX G (by k_is)
    have cBITS_OF_HEAD := K08.cstT_of (x := "BITS_OF_HEAD") (n := 35) KX G (by k_is)
    have b_isinstance := PySem.W.mg_none_of (n := "isinstance") KX G (by k_is)
    have b_int := PySem.W.mg_none_of (n := "int") KX G (by k_is)
    have b_bool := PySem.W.mg_none_of (n := "bool") KX G (by k_is)
    have b_str := PySem.W.mg_none_of (n := "str") KX G (by k_is)
    have b_len := PySem.W.mg_none_of (n := "len") KX G (by k_is)
    have b_abs := PySem.W.mg_none_of (n := "abs") KX G (by k_is)
    have b_range := PySem.W.mg_none_of (n := "range") KX G (by k_is)
    have b_min := PySem.W.mg_none_of (n := "min") KX G (by k_is)
    have b_max := PySem.W.mg_none_of (n := "max") KX G (by k_is)
    have b_repr := PySem.W.mg_none_of (n := "repr") KX G (by k_is)
    have b_list := PySem.W.mg_none_of (n := "list") KX G (by k_is)
    have b_tuple := PySem.W.mg_none_of (n := "tuple") KX G (by k_is)
    have b_all := PySem.W.mg_none_of (n := "all") KX G (by k_is)
    have b_sum := PySem.W.mg_none_of (n := "sum") KX G (by k_is)
    have b_zip := PySem.W.mg_none_of (n := "zip") KX G (by k_is)
    have b_sorted := PySem.W.mg_none_of (n := "sorted") KX G (by k_is)
    have b_enumerate := PySem.W.mg_none_of (n := "enumerate") KX G (by k_is)
    have b_ValueError := PySem.W.mg_none_of (n := "ValueError") KX G (by k_is)
    exact K08.law_at (Pt := _) (Pt2 := _) { reel := R, BadAt := BadAt, BadBits := BadBits, BadBook := BadBook, is_number := f_is_number, is_within := f_is_within, is_tuple_of := f_is_tuple_of, is_bits := f_is_bits, check_stream := f_check_stream, in_bits := f_in_bits, take_fixed := f_take_fixed, words_of := f_words_of, head_bits := f_head_bits, read_head := f_read_head, check_head := f_check_head, is_book := f_is_book, take_head := f_take_head, _law_begun := f__law_begun, _law_draw := f__law_draw, _law_pick := f__law_pick, _law_caught := f__law_caught, _law_is_whole := f__law_is_whole, _law_fashions := f__law_fashions, _law_stands := f__law_stands, _law_two := f__law_two, _law_twos := f__law_twos, _law_words := f__law_words, _law_lengths := f__law_lengths, _law_crown := f__law_crown, _law_head := f__law_head, _law_head_signs := f__law_head_signs, _law_is_book := f__law_is_book, _law_due := f__law_due, _law_any_lengths := f__law_any_lengths, _law_bent := f__law_bent, _law_words_right := f__law_words_right, _law_read_right := f__law_read_right, law := f_law, cLONGEST_WORD := cLONGEST_WORD, cBITS_OF_KIND := cBITS_OF_KIND, cBITS_OF_PART := cBITS_OF_PART, cBITS_OF_HEAD := cBITS_OF_HEAD, b_isinstance := b_isinstance, b_int := b_int, b_bool := b_bool, b_str := b_str, b_len := b_len, b_abs := b_abs, b_range := b_range, b_min := b_min, b_max := b_max, b_repr := b_repr, b_list := b_list, b_tuple := b_tuple, b_all := b_all, b_sum := b_sum, b_zip := b_zip, b_sorted := b_sorted, b_enumerate := b_enumerate, b_ValueError := b_ValueError } MD HD BH HQ ST hmg (by decide) LT one noT hd LT2 two noT2 hd2
