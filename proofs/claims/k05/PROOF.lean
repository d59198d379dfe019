import PyProof.Rows.All
import Wide.All
import OpenK.AllK
import Wide.FinOn
import PyProof.FString3
import PyProof.StrBlock2
import PyProof.ReprRoads
import KE.KxField
import HandS.ForMost
import HandS.EndTab
import HandS.WordsExc
import HandS.ExcOwn
import HandS.ExcValue
import HandS.ExcIs
import HandS.IsInst
import HandS.StrMore
import HandS.FStr
import HandS.Style
import HandS.Wide
import HandS.WideBits
import HandS.RaiseMore
import HandS.Small
import HandS.Evl
import HandS.Defaults
import KE.KExcSuper
import KE.KExcIs
import PySem.Challenge.RW_pricedreels_k05_guesses_within_a_picture
import HandS.Conv
import KE.DataMinMax
import HandS.TupMul
import HandS.TupAny
import PyProof.InstEq
import HandS.OwnEq
import HandS.Walk
import HandS.Deep
import PyProof.ReprReads
import PyProof.ReprHeads
import PyProof.ReprDict
import HandS.FStrTup
import PyProof.EqKinds
import PyProof.FactsAll.dict_1
import PyProof.FactsAll.subtypes_3
import HandS.Finally
import KE.KDictDisplayH
import PyProof.DictTable
import PyProof.DictUpdate
import KE.SortData
import HandS.Sort
import HandS.List
import PyProof.Rows.ReprOcc
import HandS.Zip
import KE.RegKSuper
import KE.KExcLine
set_option Elab.async false
set_option linter.all false
set_option maxRecDepth 100000
set_option maxHeartbeats 4000000
namespace KA
open PySem PySem.Spec PyProof.Rows L2
section
variable {X : Cx}
/-- text * int -/
def rMulS : R2 := fun x y H Q => ∃ (a : Str) (n : Int), x = .str a ∧ y = .int n ∧ 0 ≤ n ∧ n ≤ 1000 ∧ a.length ≤ 1000 ∧ Q (.str (Txt.mul a n)) H
theorem op_mulS : OpR X (binaryOp .Mult) rMulS := by
  intro pins s σ H x y v u Q I rx ry h
  obtain ⟨a, n, rfl, rfl, h0, h1, h2, q⟩ := h
  obtain ⟨t, rfl⟩ := rx
  obtain ⟨t', rfl⟩ := ry
  refine SB.mul ⟨?_, fun hn hz => ?_, fun hn hz => ?_⟩ fun t' k => ⟨.str (Txt.mul a n), H, I.tok _, ⟨_, rfl⟩, q⟩
  · simp
    omega
  · have h3 : (1000 : Int) ≤ (2 ^ 63 - 1) / n := by
      refine Int.le_ediv_of_mul_le (by omega) ?_
      omega
    omega
  · have : a.length * n.toNat ≤ 1000 * 1000 := Nat.mul_le_mul h2 (by omega)
    unfold Builtin.Str.tooLong
    simp
    have e : sizeLine = 16777216 := by rfl
    omega
end
end KA
namespace KA
open PySem PySem.Spec PyProof.Rows L2 PySem.W
/-- the binary digits of a number from 0 on, as a text -/
def binText (n : Nat) : Str := ⟨((Nat.toDigits 2 n).map Char.toNat).toArray⟩
def specB : Str := ⟨#[98]⟩
theorem digits_some (n : Nat) : ∃ d ds, (Nat.toDigits 2 n).map Char.toNat = d :: ds := by
  cases e : (Nat.toDigits 2 n).map Char.toNat with
  | nil =>
    have h := congrArg List.length e
    simp at h
  | cons d ds => exact ⟨d, ds, rfl⟩
theorem meets_b {a : Int} {t : Tok} (h0 : 0 ≤ a) (hl : (binText a.natAbs).length ≤ sizeLine) (u : Tok) :
    Meets (Builtin.«int.__format__» ⟨[.int a t, .str specB u], []⟩) (fun _ R s => ∀ t' k, R (.ok (.ret (.str (binText a.natAbs) t'))) { s with toks := k }) := by
  apply KPc.meets_of
  intro _ _ _ _ _ _ _
  unfold Builtin.«int.__format__»
  refine wpAny_bind (wpAny_of_eq (a := (_, _)) rfl ?_)
  refine wpAny_bind (wpAny_of_eq (a := _) rfl ?_)
  kxf_if
  refine wpAny_bind (wpAny_typeNameOf (T := "str") (typeIs_str _ _ _) (by decide) fun _ => ?_)
  refine wpAny_bind (wpAny_of_eq (a := some _) rfl ?_)
  kxf_if
  kxf_if
  refine wpAny_bind (wpAny_typeNameOfCut_int ?_)
  have hneg : decide (a < 0) = false := decide_eq_false (by omega)
  (repeat kxf_if)
  refine KXf.ret_text (T := binText a.natAbs) ?_ ?_ ?_
  · rw [hneg]
    obtain ⟨d, ds, e⟩ := digits_some a.natAbs
    unfold binText
    rw [e]
    generalize hL : List.map _ _ = L
    have eL : L = d :: ds := hL.symm.trans e
    subst eL
    show ((⟨(List.replicate (((-1 : Int) - ((([] : List Nat).length : Nat) + (([] : List Nat).length : Nat) + (([] : List Nat).length : Nat)) - ((List.replicate ((0 : Int).toNat - (d :: ds).length) 48 ++ (d :: ds)).length : Nat)).toNat) 32 ++ ([] : List Nat) ++ [] ++ List.replicate 0 32 ++ (List.replicate ((0 : Int).toNat - (d :: ds).length) 48 ++ (d :: ds)) ++ [] ++ List.replicate 0 32).toArray⟩ : Str)) = _
    have z1 : (0 : Int).toNat - (d :: ds).length = 0 := by simp
    rw [z1]
    have z2 : ((-1 : Int) - ((([] : List Nat).length : Nat) + (([] : List Nat).length : Nat) + (([] : List Nat).length : Nat)) - ((List.replicate 0 48 ++ (d :: ds)).length : Nat)).toNat = 0 := by
      simp
      omega
    rw [z2]
    simp
  · rw [hneg]
    obtain ⟨d, ds, e⟩ := digits_some a.natAbs
    unfold binText at hl
    rw [e] at hl
    generalize hL : List.map _ _ = L
    have eL : L = d :: ds := hL.symm.trans e
    subst eL
    show (⟨(List.replicate (((-1 : Int) - ((([] : List Nat).length : Nat) + (([] : List Nat).length : Nat) + (([] : List Nat).length : Nat)) - ((List.replicate ((0 : Int).toNat - (d :: ds).length) 48 ++ (d :: ds)).length : Nat)).toNat) 32 ++ ([] : List Nat) ++ [] ++ List.replicate 0 32 ++ (List.replicate ((0 : Int).toNat - (d :: ds).length) 48 ++ (d :: ds)) ++ [] ++ List.replicate 0 32).toArray⟩ : Str).length ≤ _
    have z1 : (0 : Int).toNat - (d :: ds).length = 0 := by simp
    rw [z1]
    have z2 : ((-1 : Int) - ((([] : List Nat).length : Nat) + (([] : List Nat).length : Nat) + (([] : List Nat).length : Nat)) - ((List.replicate 0 48 ++ (d :: ds)).length : Nat)).toNat = 0 := by
      simp
      omega
    rw [z2]
    simpa using hl
  · assumption
end KA
namespace KA
open PySem PySem.Spec PyProof.Rows L2 PySem.W
section
variable {X : Cx}
/-- f'{e:b}', a number from 0 on -/
theorem pe_fmtB {e : Expr} {te : TE} {pos p1 p2 : Pos} {k : Nat} (he : PE X e te) :
    PE X (.FormattedValue e (-1) (some (.JoinedStr [.Constant (.str "b") k p1] p2)) pos) (fun σ H Q => te σ H fun x H1 => ∃ i : Int, x = .int i ∧ 0 ≤ i ∧ (binText i.natAbs).length ≤ sizeLine ∧ Q (.str (binText i.natAbs)) H1) := by
  refine ⟨fun pins s σ H Q I h => ?_⟩
  refine wpAny_FormattedValue_spec (thn (he.run pins s σ H _ I h) fun v s1 hv => ?_)
  obtain ⟨x, H1, I1, r1, i, rfl, h0, hz, q⟩ := hv
  obtain ⟨t, rfl⟩ := r1
  refine wpAny_JoinedStr_one ?_
  refine Calls.Constant_str ⟨("b" : Str), _, rfl, ?_⟩
  exact KXf.field_int (spec' := specB) (by decide +kernel) (by decide) (by decide) (fun u => meets_b h0 hz u) fun t' k => ⟨.str (binText i.natAbs), H1, (I1.tok _).tok _, ⟨_, rfl⟩, q⟩
end
end KA
namespace KA
open PySem PySem.Spec PyProof.Rows L2 PySem.W
/-! ### an exception that was caught, kept as a value -/
/-- an exception of the class cls with the own dict d stands at a -/
def ExV (cls : Value) (d : Option Addr) (a : Addr) : HO := .ext fun h => ∃ oe : Obj, h.get? a = some oe ∧ Zc cls d oe ∧ ∃ vs, oe.data = .fields vs
theorem exV_ok {P : Program} {w : World} {H : Hp} {h : Heap} {a : Addr} {cls : Value} {d : Option Addr} {oe : Obj} {vs : Array Value} (e : h.get? a = some oe) (z : Zc cls d oe) (f : oe.data = .fields vs) :
    ObjOk P w H h a (ExV cls d a) := ⟨⟨oe, e, z, vs, f⟩, ⟨oe, e⟩, fun _ _ ⟨o, q, r⟩ k => ⟨o, k o q, r⟩⟩
section
variable {X : Cx} {pins : List (Addr × Obj)} {σ : L2.St} {H : Hp} {s : Shared}
/-- what was pinned, and did not stand at the entry, is tracked from here on -/
theorem track {a : Addr} {oe : Obj} {φ : Heap → Prop} (J : Inv X ((a, oe) :: pins) σ H s) (ok : X.Ok) (n0 : X.s_0.heap.get? a = none) (np : ∀ p ∈ X.pn ++ pins, p.1 ≠ a)
    (new : ObjOk X.prog X.w (upd H a (.ext φ)) s.heap a (.ext φ)) : Inv X pins σ (upd H a (.ext φ)) s := by
  obtain ⟨ea, na, nL, notF, nc⟩ := J.pin (a, oe) (List.mem_append_right _ List.mem_cons_self)
  have nz : ∀ b u, H b = some u → b ≠ a := fun b u q => ne_of_none q na
  have cut : ∀ p, p ∈ X.pn ++ pins → p ∈ X.pn ++ (a, oe) :: pins := fun p hp => by
    rcases List.mem_append.mp hp with h | h
    · exact List.mem_append_left _ h
    · exact List.mem_append_right _ (List.mem_cons_of_mem _ h)
  have old : ∀ b o, X.s_0.heap.get? b = some o → b ≠ a := fun b o q z => by
    rw [z, n0] at q
    cases q
  have base : Un X.fs X.ex X.H_0 (upd H a (.ext φ)) X.s_0.heap s.heap :=
    { keep := J.base.keep, slot := J.base.slot, there := J.base.there
      free := fun b o q n hx => (upd_ne (old b o q)).trans (J.base.free b o q n hx)
      tups := fun b xs q => (upd_ne (nz b _ (J.base.tups b xs q))).trans (J.base.tups b xs q)
      frzs := fun b o u q => (upd_ne (nz b _ (J.base.frzs b o u q))).trans (J.base.frzs b o u q)
      tbls := fun b ps q => by
        obtain ⟨more, z⟩ := J.base.tbls b ps q
        exact ⟨more, (upd_ne (nz b _ z)).trans z⟩ }
  have apart : ∀ b, b ≠ a → H b = none → upd H a (.ext φ) b = none := fun b hb hn => (upd_ne hb).trans hn
  have ce : ∀ x c, X.env.cells.lookup x = some c → c ≠ a := fun x c q z => by
    obtain ⟨v, o, ho, hd⟩ := J.cell x c q
    rw [z, ea] at ho
    cases ho
    exact nc v hd
  have hk : HOk X.prog X.w (upd H a (.ext φ)) s.heap := fun b o q => by
    by_cases hb : b = a
    · subst hb
      rw [upd_same] at q
      cases q
      exact new
    · rw [upd_ne hb] at q
      exact (J.hok b o q).stay (fun c v _ r => r) (fun c r => (upd_ne (nz c _ r)).trans r) (fun c xs r => (upd_ne (nz c _ r)).trans r)
  have pk : ∀ p ∈ X.pn ++ pins, s.heap.get? p.1 = some p.2 ∧ upd H a (.ext φ) p.1 = none ∧ p.1 ≠ X.env.locals ∧ p.1 ∉ X.fs ∧ ∀ v, p.2.data ≠ .cell v := fun p hp => by
    obtain ⟨e1, e2, e3⟩ := J.pin p (cut p hp)
    exact ⟨e1, apart _ (np p hp) e2, e3⟩
  exact { ok := ok, os := J.os, bare := J.bare, base := base, loc := J.loc, cell := J.cell, free := apart _ (Ne.symm nL) J.free
          freeC := fun x c q => apart _ (ce x c q) (J.freeC x c q), pin := pk, hok := hk, len := J.len }
end
/-- what 'except x as n: m = n' wishes of an exception of the body: it is of the clause's class, and m holds it behind the try (slots: n in i, m in j) -/
def wKeep (K : PySem.W.Frag) (c : Value) (i j len : Nat) (D : Ends) : WX := fun cls d σ H =>
  PySem.W.exmOne K cls c = some true ∧ ∀ a, H a = none → σ.length = len → D.nx ((((σ.set i (some (.ref a))).set j (some (.ref a)))).set i none) (upd H a (ExV cls d a))
section
variable {X : Cx} {x n m : Str} {c : Value} {i j : Nat} {body : List Stmt} {np pm pr pa ph pt : Pos} {tb : WX → TS}
theorem ps_try_keep (hx : X.ex = []) (hs : X.stack = X.env :: X.outer) (hf : X.env.frame = some X.env.locals) (hN : X.N.Nodup) (hi : X.N[i]? = some n) (hj : X.N[j]? = some m) (hln : X.env.kindOf n = some .local) (hlm : X.env.kindOf m = some .local) (hc : Names X x c)
    (hd : (n == ("__debug__" : Str)) = false) (hcd : (n == ("__classdict__" : Str)) = false)
    (hb : ∀ (W : WX) (pn : List (Addr × Obj)) (xe : Value → Shared → Prop), Takes (X.tr pn xe) W → PassesOwn (model X.prog X.w) X.A X.env xe → PSs (X.tr pn xe) body (tb W)) :
    PS X (.Try body [.ExceptHandler (some (.Name x np)) (some n) [.Assign [.Name m pm] (.Name n pr) pa] ph] [] [] pt) (fun D σ H => tb (wKeep X.K c i j X.N.length D) D σ H) := by
  refine ⟨fun pins s σ H D I h => wpAny_Try_except ?_⟩
  have ok := I.ok
  have fr : X.A.frames = some (X.env :: X.outer) := ok.frames.trans (congrArg some hs)
  have ways : ∀ u s', XE (X.tr (X.pn ++ pins) (fun e s₁ => wpAny (model X.prog X.w) X.A (noteFrame e X.env)
      (fun _ s₂ => wpAny (model X.prog X.w) X.A (setFlight e none)
        (fun _ s₃ => wpAny (model X.prog X.w) X.A (handleBy e X.env [.ExceptHandler (some (.Name x np)) (some n) [.Assign [.Name m pm] (.Name n pr) pa] ph]) (SP X pins D) X.xe s₃) X.xe s₂) X.xe s₁)) (wKeep X.K c i j X.N.length D) u s' →
      wpAny (model X.prog X.w) X.A (noteFrame u X.env)
        (fun _ s₂ => wpAny (model X.prog X.w) X.A (setFlight u none)
          (fun _ s₃ => wpAny (model X.prog X.w) X.A (handleBy u X.env [.ExceptHandler (some (.Name x np)) (some n) [.Assign [.Name m pm] (.Name n pr) pa] ph]) (SP X pins D) X.xe s₃) X.xe s₂) X.xe s' := by
    rintro u s' ⟨a, B, sI, pins', σ', H', cls, d, rfl, Jt, nb, up, sky, na, os, ag, hyes, hgo⟩
    have J : Inv X pins σ' H' sI := Jt.ofTry ok
    have nb : ∀ b o, sI.heap.get? b = some o → b ∉ frs X.stack → B.get? b = some o := nb
    have sky : Sky B (X.env :: X.outer) a (Zc cls d) X.env.locals s'.heap := hs ▸ sky
    refine Sky.land Zc.steady fr hf sky fun h3 air3 grow3 => ?_
    have J3 : Inv X pins σ' H' { s' with heap := h3 } := J.landed nb air3.1 (up.trans grow3) os ag
    obtain ⟨o3, v3, e3, z3, f3⟩ := air3.there
    have away : a ∉ frs (X.env :: X.outer) := fun hm => by
      obtain ⟨_, o', e', hnf⟩ := air3.2.2.1.mem hm
      cases e3.symm.trans e'
      exact hnf _ f3
    have nL : a ≠ X.env.locals := fun z => away (List.mem_filterMap.mpr ⟨X.env, List.mem_cons_self, hf.trans (congrArg some z.symm)⟩)
    have notF : a ∉ X.fs := fun hm => by
      obtain ⟨e, inX, q⟩ := List.mem_filterMap.mp hm
      exact away (List.mem_filterMap.mpr ⟨e, List.mem_cons_of_mem _ inX, q⟩)
    have gone : sI.heap.get? a = none := by
      cases q : sI.heap.get? a with
      | none => rfl
      | some o =>
        have z := nb a o q (by rw [hs]; exact away)
        rw [air3.2.1] at z
        cases z
    have n0 : X.s_0.heap.get? a = none := by
      cases q : X.s_0.heap.get? a with
      | none => rfl
      | some o =>
        obtain ⟨o', z⟩ := J.base.there a o q (by rw [hx]; exact fun z => nomatch z)
        rw [gone] at z
        cases z
    have np' : ∀ p ∈ X.pn ++ pins, p.1 ≠ a := fun p hp z => by
      have q := (J.pin p hp).1
      rw [z, gone] at q
      cases q
    have S3 := J3.suite e3 f3 na nL notF
    refine wpAny_handleBy_cons (codeAny_handlers_test ?_) (by intro q; cases q)
    have LT : PySem.W.Looks (model X.prog X.w) h3 (typeOf (.ref a)) cls := fun A Q E s k q => wpAny_typeOf_ref (k _ _ e3) (z3.1.symm ▸ q)
    have LM := PySem.W.exm_one (M := model X.prog X.w) J3.kIn LT hyes
    have named : ∀ {Q E : Value → Shared → Prop}, Q c { s' with heap := h3 } →
        wpAny (model X.prog X.w) (X.A.mark (some (.ref a))) (eval (.Name x np) X.env) Q E { s' with heap := h3 } := fun {Q E} q => by
      obtain ⟨g, gd, gm | ⟨gm, gv, gn⟩⟩ := hc
      · exact ld_glob (X := X.suite a _) S3 g gm q gd
      · exact ld_blt (X := X.suite a _) S3 g gm gv q gn gd
    refine named (LM.here (codeAny_handlers_suite_as ?_))
    refine HandSPX.lands_againZ air3 fun h4 air4 grow4 => ?_
    have J4 : Inv X pins σ' H' { s' with heap := h4 } := J.landed nb air4.1 ((up.trans grow3).trans grow4) os ag
    obtain ⟨o4, v4, e4, z4, f4⟩ := air4.there
    refine store_ok (X := X.suite a ((a, o4) :: (X.pn ++ pins))) (v := .ref a) (J4.suite e4 f4 na nL notF) hN hi (.inl hln) rfl (fun s5 S5 => ?_) (.inr hln)
    have assign : PSs (X.suite a ((a, o4) :: (X.pn ++ pins))) [.Assign [.Name m pm] (.Name n pr) pa] (tAsg (tVar i) (gName j)) :=
      pss_one (ps_set (i := j) hN hj (.inl hlm) (pe_var hi (.inl hln) hd hcd) (hf := .inr hlm))
    have hlt : i < (σ'.set i (some (V.ref a))).length := by
      rw [List.length_set, J.len]
      exact (List.getElem?_eq_some_iff.mp hi).1
    refine wpAny_mono (assign.run [] s5 _ H' { D with nx := fun σ6 H6 => σ6 = (σ'.set i (some (.ref a))).set j (some (.ref a)) ∧ H6 = H', rt := fun _ _ => False, bk := fun _ _ => False, ct := fun _ _ => False } S5
      ⟨.ref a, by rw [List.getElem?_set_self (by simpa using hlt)], rfl, rfl⟩) (fun f s6 q6 => ?_) (fun _ _ z => z.elim)
    cases f with
    | next =>
      obtain ⟨σ6, H6, S6, eσ, eH⟩ := q6
      subst eσ
      subst eH
      have U : Inv X pins _ H6 s6 := S6.unsuite ok
      have P6 := S6.pin (a, o4) (List.mem_append_left _ List.mem_cons_self)
      have pin2 : ∀ p ∈ X.pn ++ (a, o4) :: pins, s6.heap.get? p.1 = some p.2 ∧ H6 p.1 = none ∧ p.1 ≠ X.env.locals ∧ p.1 ∉ X.fs ∧ ∀ v, p.2.data ≠ .cell v := fun p hp => by
        rcases List.mem_append.mp hp with h | h
        · exact U.pin p (List.mem_append_left _ h)
        · rcases List.mem_cons.mp h with e | h
          · rw [e]
            exact P6
          · exact U.pin p (List.mem_append_right _ h)
      have U2 : Inv X ((a, o4) :: pins) _ H6 s6 := { U with pin := pin2 }
      refine gone_ok U2 hN hi hln fun s7 J7 => ?_
      have P7 := (J7.pin (a, o4) (List.mem_append_right _ List.mem_cons_self)).1
      exact ⟨_, _, track J7 ok n0 np' (exV_ok P7 z4 f4), hgo a na J.len⟩
    | brk =>
      obtain ⟨_, _, _, z⟩ := q6
      exact z.elim
    | cont =>
      obtain ⟨_, _, _, z⟩ := q6
      exact z.elim
    | ret u =>
      obtain ⟨_, _, _, _, _, z⟩ := q6
      exact z.elim
  refine wpAny_mono ((hb (wKeep X.K c i j X.N.length D) (X.pn ++ pins) _ ways PassesOwn.looking).run [] s σ H D (I.toTry _) h) (fun f s1 q => ?_) fun _ _ z => z
  cases f with
  | next =>
    obtain ⟨σ1, H1, J1, q1⟩ := q
    exact wpAny_execs_nil ⟨σ1, H1, J1.ofTry ok, q1⟩
  | brk =>
    obtain ⟨σ1, H1, J1, q1⟩ := q
    exact ⟨σ1, H1, J1.ofTry ok, q1⟩
  | cont =>
    obtain ⟨σ1, H1, J1, q1⟩ := q
    exact ⟨σ1, H1, J1.ofTry ok, q1⟩
  | ret u =>
    obtain ⟨v, σ1, H1, J1, r, q1⟩ := q
    exact ⟨v, σ1, H1, J1.ofTry ok, r, q1⟩
end
end KA
namespace KA
open PySem PySem.Spec PyProof.Rows L2 PySem.W
/-- isinstance of an exception that is kept as a value, its class without fields of its own -/
def rIsV (K : PySem.W.Frag) : List V → Hp → VK → Prop := fun xs H Q => ∃ (a D : Addr) (c : V) (cv : Value) (b : Bool), xs = [.ref a, c] ∧ H a = some (ExV (.ref D) none a) ∧ ExcC K D ∧ ClsV c cv ∧ PySem.W.kitOne K (.ref D) cv = some b ∧ Q (.bl b) H
def rIs2 (K : PySem.W.Frag) : List V → Hp → VK → Prop := fun xs H Q => rIsi K xs H Q ∨ rIsV K xs H Q
section
variable {X : Cx}
theorem call_isV : CallR X (.builtin "isinstance") (rIsV X.K) := by
  intro pins s σ H xs us Q I r h
  obtain ⟨a, D, c, cv, b, rfl, ha, C, k, e, q⟩ := h
  obtain ⟨u1, u2, rfl, r1, r2⟩ := vals2 r
  cases k.eq r2
  cases (show u1 = Value.ref a from r1)
  obtain ⟨⟨oe, h1, ⟨z1, z2⟩, vs, z3⟩, _⟩ := I.hok a _ ha
  obtain ⟨oc, od, dt, sl⟩ := oe
  dsimp only at z1 z2 z3
  subst z1 z2 z3
  have J : PySem.W.InstAt s.heap a ⟨.ref D, none, .fields vs, sl⟩ D none := ⟨h1, rfl, rfl, trivial⟩
  exact PySem.W.kia_one (PySem.W.handS_kitx_exc C.hg C.hk C.hs C.hd C.ha C.hn C.ht C.hm) I.kIn J e (fun z => nomatch z) fun tk => ⟨.bl b, H, I.tok tk, rfl, q⟩
theorem call_is2 : CallR X (.builtin "isinstance") (rIs2 X.K) := by
  intro pins s σ H xs us Q I r h
  rcases h with h | h
  · exact call_isi pins s σ H xs us Q I r h
  · exact call_isV pins s σ H xs us Q I r h
/-- repr of data -/
def rRepr (K : PySem.W.Frag) : List V → Hp → VK → Prop := fun xs H Q => ∃ (x : Addr) (d : PyData), xs = [.ref x] ∧ Dp K H (.ref x) d ∧ d.showable = true ∧ d.hasDict = false ∧ d.depth ≤ 60 ∧ d.shown.length ≤ sizeLine ∧ Q (.str d.shown) H
theorem call_repr {k : Nat} (hg : X.A.guards = some []) (hr : Room k X.A) : CallR X (.builtin "repr") (rRepr X.K) := by
  intro pins s σ H xs us Q I r h
  obtain ⟨x, d, rfl, hd, hs, hn, hz, hl, q⟩ := h
  obtain ⟨u1, rfl, r1⟩ := vals1 r
  cases (show u1 = Value.ref x from r1)
  obtain ⟨as, rd⟩ := Dp.reads I d (.ref x) (.ref x) hd rfl
  have hu := hr.un
  refine repr_of_reads' rd hs (fun z => by rw [hn] at z; cases z) hg (by omega) (fun _ _ e => e) (fun h' u tk hk => ?_) hl
  exact ⟨.str d.shown, H, I.kept (t' := tk) hk, ⟨_, rfl⟩, q⟩
end
end KA
namespace KA
open PySem PySem.Spec PyProof.Rows L2 PySem.W LamX
section
variable {X : Cx}
/-- caught: what the lambda raises is kept and handed back, None if it raises nothing -/
def TCaught (K : PySem.W.Frag) (CS : Addr) : (XK → Hp → VK → Prop) → Hp → VK → Prop := fun tl H Q => ∀ Q1 : VK, (∀ v H', Q .non H' → Q1 v H') →
  tl (fun cls d H' => PySem.W.exmOne K cls (.ref CS) = some true ∧ ∀ a, H' a = none → Q (.ref a) (upd H' a (ExV cls d a))) H Q1
theorem caught_gives {a e n m q x : Str} {sg : Scope} {g CS : Addr} {cdg : Value} {j1 : Nat} {p1 p2 p3 p4 p5 p6 p7 p8 p9 pa pb pc pd pe : Pos} (S : FnScope [a, m, n] [a] sg)
    (la : sg.names.lookup a = some .local) (lm : sg.names.lookup m = some .local) (ln : sg.names.lookup n = some .local) (he : sg.names.lookup e = some .globalImplicit) (hme : X.mg e = some (.ref CS)) (hde : (e == ("__debug__" : Str)) = false)
    (d1 : (n == ("__debug__" : Str)) = false) (d2 : (n == ("__classdict__" : Str)) = false) (d3 : (m == ("__debug__" : Str)) = false) (d4 : (m == ("__classdict__" : Str)) = false) :
    GivesTo X [a, m, n] x sg g cdg
      [.Assign [.Name m p1] (.Constant .none j1 p2) p3,
       .Try [.Expr (.Call (.Name a p4) [] [] p5) p6] [.ExceptHandler (some (.Name e p7)) (some n) [.Assign [.Name m p8] (.Name n p9) pa] pb] [] [] pc,
       .Return (some (.Name m pd)) pe] a q (TCaught X.K CS) := by
  intro f c' s H Q tl act hc h
  have hgl : Gl (cxOf C8.CX0 X.prog X.w X.K X.mg X.base [a, m, n] x sg g cdg X.A X.stack s H C8.E0).nox e := he
  refine ⟨_, pss_cons (ps_set (i := 1) S.nd rfl (.inl lm) pe_non) (pss_cons (ps_try_keep (X := (cxOf C8.CX0 X.prog X.w X.K X.mg X.base [a, m, n] x sg g cdg X.A X.stack s H C8.E0).nox) (c := .ref CS) (i := 2) (j := 1)
      (tb := fun W D σ H => ∃ Eb : XK, (∀ cls d σ' H', Eb cls d H' → W cls d σ' H') ∧ σ[0]? = some (some (.ref f)) ∧ H c' = some (CodeO c' q) ∧ tl Eb H (fun _ H' => D.nx σ H'))
      rfl rfl rfl S.nd rfl rfl ln lm ⟨hgl, hde, .inl hme⟩ d1 d2 (fun W pn xe tk _ => ?_))
    (pss_one (ps_ret (pe_var (i := 1) rfl (.inl lm) d3 d4)))), ?_⟩
  · refine ⟨fun pins s' σ H' D I h' => ?_⟩
    obtain ⟨Eb, wish, h1, h2, h3⟩ := h'
    exact (pss_one (ps_expr (act W pn xe Eb p4 p5 tk wish))).run pins s' σ H' D I ⟨h1, h2, h3⟩
  · refine ⟨fun cls d H' => PySem.W.exmOne X.K cls (.ref CS) = some true ∧ ∀ a, H' a = none → Q (.ref a) (upd H' a (ExV cls d a)), fun cls d σ' H' ⟨e1, e2⟩ => ⟨e1, fun b hb hl => ?_⟩, rfl, hc, ?_⟩
    · match σ', hl with
      | [u, v, w], _ => exact ⟨_, rfl, e2 b hb⟩
    · exact h _ fun v H' z => ⟨_, rfl, z⟩
end
end KA
namespace KA
open PySem PySem.Spec PyProof.Rows L2 PySem.W LamX
/-! ### what the top has written, by name -/
/-- a def of the top -/
structure DefT (K : PySem.W.Frag) (mg : Str → Option Value) (x : Str) (st : Stmt) where
  a : Addr
  d : FuncData
  f : Fun K x x st a d
  m : mg x = some (.ref a)
abbrev veB : List Value := [.type "ValueError", .type "Exception", .type "BaseException", .type "object"]
/-- an exception class of the top over ReelError at R, without an __init__ of its own -/
structure ExcT (K : PySem.W.Frag) (mg : Str → Option Value) (x : Str) (R : Addr) where
  C : Addr
  g : mg x = some (.ref C)
  q : PySem.W.excIn K C veB "ValueError.__new__" = true
  k : PySem.W.keepIn K (.ref C) = true
  b : PySem.W.subIn K (.ref C) (.type "BaseException") = some true
  t : PySem.W.typeIn K (.ref C) = some (.type "type")
  r : PySem.W.subIn K (.ref C) (.ref R) = some true
  e : ExcC K C
/-- ReelError -/
structure ReelT (K : PySem.W.Frag) (mg : Str → Option Value) where
  C : Addr
  g : mg "ReelError" = some (.ref C)
  b : PySem.W.subIn K (.ref C) (.type "BaseException") = some true
  t : PySem.W.typeIn K (.ref C) = some (.type "type")
  d : PySem.W.hasDictIn K C = true
theorem ExcT.exm {K : PySem.W.Frag} {mg : Str → Option Value} {x : Str} (R : ReelT K mg) (T : ExcT K mg x R.C) : PySem.W.exmOne K (.ref T.C) (.ref R.C) = some true := PySem.W.exm_ref R.b R.d R.t T.r
/-- an int constant of the top -/
def CstT (mg : Str → Option Value) (x : Str) (n : Int) : Prop := ∃ t, mg x = some (.int n t)
abbrev C1 := L2.CX
theorem passE {X : Cx} : Passes (L2.CX X.prog X.w) X E0 := passL
section
variable {X : Cx} {E : XK}
/-- raise C('..') in a def that lets it out -/
theorem ps_raiseT {K : PySem.W.Frag} {mg : Str → Option Value} {x : Str} {R : Addr} {pos p1 p2 pc : Pos} {j : Nat} {m : Str} (hK : X.K = K) (hM : X.mg = mg) (T : ExcT K mg x R) (hg : Gl X x) (hc : X.calm = true) {W : WX} (tk : Takes X W)
    (hdb : (x == ("__debug__" : Str)) = false := by decide) :
    PS X (.Raise (some (.Call (.Name x p1) [.Constant (.str m) j pc] [] p2)) none pos) (fun _ σ H => W (.ref T.C) none σ H) := by
  subst hK
  subst hM
  exact ps_raise hc tk (pmk_own PySem.F.excBase_ValueError T.q T.g T.k (raises_own T.b T.t) hg hdb)
end
end KA
namespace KA
open PySem PySem.Spec PyProof.Rows L2 PySem.W LamX
/-! ### the law's own draws: their state -/
abbrev kLarge : Key := Sum.inr "large"
abbrev kCells : Key := Sum.inr "cells"
abbrev kLeft : Key := Sum.inr "left"
abbrev kTurn : Key := Sum.inr "turn"
def stKv (lg cl : Addr) (left turn : Int) : List (Key × V) := [(kLarge, .ref lg), (kCells, .ref cl), (kLeft, .int left), (kTurn, .int turn)]
section
variable {lg cl : Addr} {left turn : Int}
theorem k12 : ¬ kLarge = kCells := by decide +kernel
theorem k13 : ¬ kLarge = kLeft := by decide +kernel
theorem k14 : ¬ kLarge = kTurn := by decide +kernel
theorem k23 : ¬ kCells = kLeft := by decide +kernel
theorem k24 : ¬ kCells = kTurn := by decide +kernel
theorem k34 : ¬ kLeft = kTurn := by decide +kernel
theorem st_large : valV (stKv lg cl left turn) kLarge = some (.ref lg) := valV_pos rfl
theorem st_cells : valV (stKv lg cl left turn) kCells = some (.ref cl) := (valV_neg k12).trans (valV_pos rfl)
theorem st_left : valV (stKv lg cl left turn) kLeft = some (.int left) := (valV_neg k13).trans ((valV_neg k23).trans (valV_pos rfl))
theorem st_turn : valV (stKv lg cl left turn) kTurn = some (.int turn) := (valV_neg k14).trans ((valV_neg k24).trans ((valV_neg k34).trans (valV_pos rfl)))
theorem st_put_left (l : Int) : putK (stKv lg cl left turn) kLeft (.int l) = stKv lg cl l turn := by
  unfold putK
  rw [valV_any, st_left, Option.isSome_some, if_pos rfl]
  simp only [stKv, List.map_cons, List.map_nil, if_neg k13, if_neg k23, if_neg (Ne.symm k34), if_true]
theorem st_put_turn (t : Int) : putK (stKv lg cl left turn) kTurn (.int t) = stKv lg cl left t := by
  unfold putK
  rw [valV_any, st_turn, Option.isSome_some, if_pos rfl]
  simp only [stKv, List.map_cons, List.map_nil, if_neg k14, if_neg k24, if_neg k34, if_true]
end
/-- the state stands at st: the numbers that are left to draw from at lg, the script's at cl -/
structure StD (H : Hp) (st lg cl : Addr) (large cells : List Int) (left : Int) (turn : Nat) : Prop where
  d : H st = some (.dK (stKv lg cl left turn))
  l : H lg = some (.lst (large.map V.int))
  c : H cl = some (.lst (cells.map V.int))
  ne : lg ≠ cl
  pl : ∀ x ∈ large, 0 ≤ x
  p0 : 0 ≤ left
def StAt (H : Hp) (st lg cl : Addr) (n : Nat) : Prop := ∃ large cells left turn, StD H st lg cl large cells left turn ∧ turn ≤ n
/-- all but the state stands as it stood -/
def Kp (st lg : Addr) (H H' : Hp) : Prop := ∀ b o, H b = some o → b ≠ st → b ≠ lg → H' b = some o
theorem Kp.refl {st lg : Addr} {H : Hp} : Kp st lg H H := fun _ _ h _ _ => h
theorem Kp.trans {st lg : Addr} {H H1 H2 : Hp} (a : Kp st lg H H1) (b : Kp st lg H1 H2) : Kp st lg H H2 := fun c o h n1 n2 => b c o (a c o h n1 n2) n1 n2
theorem Kp.same {st lg : Addr} {H H1 : Hp} (a : Same H H1) : Kp st lg H H1 := fun c o h _ _ => a c o h
theorem Same.new {H : Hp} {p : Addr} {o : HO} (h : H p = none) : Same H (upd H p o) := fun b u e => by
  rw [upd_ne (ne_of_none e h)]
  exact e
theorem StD.same {H H' : Hp} {st lg cl : Addr} {large cells : List Int} {left : Int} {turn : Nat} (S : StD H st lg cl large cells left turn) (e : Same H H') : StD H' st lg cl large cells left turn :=
  { S with d := e _ _ S.d, l := e _ _ S.l, c := e _ _ S.c }
theorem StAt.same {H H' : Hp} {st lg cl : Addr} {n : Nat} (S : StAt H st lg cl n) (e : Same H H') : StAt H' st lg cl n := by
  obtain ⟨a, b, c, d, s, h⟩ := S
  exact ⟨a, b, c, d, s.same e, h⟩
theorem StAt.mono {H : Hp} {st lg cl : Addr} {n m : Nat} (S : StAt H st lg cl n) (h : n ≤ m) : StAt H st lg cl m := by
  obtain ⟨a, b, c, d, s, h'⟩ := S
  exact ⟨a, b, c, d, s, Nat.le_trans h' h⟩
theorem StD.st_lg {H : Hp} {st lg cl : Addr} {large cells : List Int} {left : Int} {turn : Nat} (S : StD H st lg cl large cells left turn) : st ≠ lg := ne_of S.d S.l (by intro z; cases z)
theorem StD.st_cl {H : Hp} {st lg cl : Addr} {large cells : List Int} {left : Int} {turn : Nat} (S : StD H st lg cl large cells left turn) : st ≠ cl := ne_of S.d S.c (by intro z; cases z)
/-- the state's dict is written -/
theorem StD.put {H : Hp} {st lg cl : Addr} {large cells : List Int} {left l : Int} {turn t : Nat} (S : StD H st lg cl large cells left turn) (h : 0 ≤ l) : StD (upd H st (.dK (stKv lg cl l t))) st lg cl large cells l t :=
  { d := upd_same, l := (upd_ne S.st_lg.symm).trans S.l, c := (upd_ne S.st_cl.symm).trans S.c, ne := S.ne, pl := S.pl, p0 := h }
theorem Kp.put {st lg : Addr} {H : Hp} {o : HO} : Kp st lg H (upd H st o) := fun b u e n _ => (upd_ne n).trans e
theorem Kp.put2 {st lg : Addr} {H : Hp} {o : HO} : Kp st lg H (upd H lg o) := fun b u e _ n => (upd_ne n).trans e
theorem dp_ints {K : PySem.W.Frag} {H : Hp} : ∀ ns : List Int, DpAll K H (ns.map V.int) (ns.map PyData.int)
  | [] => .nil
  | n :: r => .cons (.int n) (dp_ints r)
theorem dp_int_list {K : PySem.W.Frag} {H : Hp} {a : Addr} {ns : List Int} (h : H a = some (.lst (ns.map V.int))) : Dp K H (.ref a) (.list (ns.map PyData.int)) := .lst (SqL.of h) (dp_ints ns)
theorem dp_nil {K : PySem.W.Frag} {H : Hp} {a : Addr} (h : H a = some (.lst [])) : Dp K H (.ref a) (.list []) := .lst (SqL.of h) .nil
theorem lay_is : ∀ ns : List Int, PyData.canLayAll0 (ns.map PyData.int) = true ∧ PyData.depthAll (ns.map PyData.int) = 0
  | [] => ⟨rfl, rfl⟩
  | n :: r => by
    obtain ⟨h1, h2⟩ := lay_is r
    exact ⟨by simp [PyData.canLayAll0, PyData.canLay0, h1], by simp [PyData.depthAll, PyData.depth, h2]⟩
theorem shaped_is (ns : List Int) : SeqAt.shaped (.list (ns.map PyData.int)) = true := by
  obtain ⟨h1, h2⟩ := lay_is ns
  simp [SeqAt.shaped, PyData.canLay0, PyData.depth, h1, h2]
theorem shaped_nil : SeqAt.shaped (.list []) = true := shaped_is []
theorem eqv_ints_nil (ns : List Int) : PyData.eqv (.list (ns.map PyData.int)) (.list []) = ns.isEmpty := by
  cases ns <;> rfl
theorem st_merge (lg cl : Addr) (left turn : Int) : mergeK [] (stKv lg cl left turn) = stKv lg cl left turn := by
  unfold stKv mergeK
  simp only [List.foldl_cons, List.foldl_nil]
  rw [putK_new (kvs := []) _ valV_nil, List.nil_append]
  rw [putK_new (k := kCells) _ ((valV_neg (show ¬ kLarge = kCells from k12)).trans valV_nil), List.cons_append, List.nil_append]
  rw [putK_new (k := kLeft) _ ((valV_neg (show ¬ kLarge = kLeft from k13)).trans ((valV_neg (show ¬ kCells = kLeft from k23)).trans valV_nil)), List.cons_append, List.cons_append, List.nil_append]
  rw [putK_new (k := kTurn) _ ((valV_neg (show ¬ kLarge = kTurn from k14)).trans ((valV_neg (show ¬ kCells = kTurn from k24)).trans ((valV_neg (show ¬ kLeft = kTurn from k34)).trans valV_nil)))]
  rfl
theorem take_map_snoc {α β : Type} (f : α → β) (l : List α) (i : Nat) (x : α) (h : l[i]? = some x) : (l.take (i + 1)).map f = (l.take i).map f ++ [f x] := by
  rw [List.take_add_one, h]
  simp
theorem StAt.off {H : Hp} {st lg cl p : Addr} {n : Nat} (S : StAt H st lg cl n) (hp : H p = none) : p ≠ st ∧ p ≠ lg := by
  obtain ⟨_, _, _, _, S', _⟩ := S
  exact ⟨(ne_of_none S'.d hp).symm, (ne_of_none S'.l hp).symm⟩
end KA
namespace KA
open PySem PySem.Spec PyProof.Rows L2 PySem.W LamX
/-! ### calls by names alone; defs whose frame must know that no repr is running -/
section
variable {X : Cx} {CX : CXT} {k : Nat} {f : Addr} {fd : FuncData} {ps ks : List Str} {sp : Sp} {E : XK} {x : Str} {p pos : Pos} {kws : List Keyword} {tk : TA} {g : List Value → List Value → List Value} {gV : List V → List V → List V}
def tKw (m : Nat) (sp : Sp) (gV : List V → List V → List V) (E : XK) (tk : TA) : TE := fun σ H Q => tk σ H fun zs H2 => zs.length = m ∧ sp (gV [] zs) H2 Q E
/-- f(k = v, ..) -/
theorem pe_kw (F : FnOk X.prog X.w X.K X.mg X.base CX k f fd ps sp) (hr : Room k X.A) (hg : Gl X x) (hm : X.mg x = some (.ref f)) (hk : PySem.W.keepIn X.K (.ref f) = true) (hb : KBn X.K fd ps 0 ks g gV) (hx : Passes CX X E) (hkw : PK X kws tk)
    (named : (backToKw pos (keywordEach kws X.env)).all (·.1.isSome) = true := by rfl) (theirs : (backToKw pos (keywordEach kws X.env)).filterMap (·.1) = ks := by rfl) (hdb : (x == ("__debug__" : Str)) = false := by decide)
    (noStars : ((backTo pos (starEach [] X.env)).any (·.1) || (backToKw pos (keywordEach kws X.env)).any (·.1.isNone)) = false := by rfl) :
    PE X (.Call (.Name x p) [] kws pos) (tKw ks.length sp gV E tk) :=
  ⟨fun pins s σ H Q I h => wpAny_Call_Name_kw (ld_glob I hg hm (PySem.W.callWith_KW0 (h₀ := X.base) I.ok.mod.kin hk named (thn (hkw.run pos pins s σ H _ I h) fun ws s2 hw => by
    obtain ⟨zs, H2, I2, rz, l2, q2⟩ := hw
    refine ⟨I2.kIn, ?_⟩
    rw [theirs]
    exact run_fnN F hr hb hx I2 .nil rz rfl l2 q2) noStars) hdb)⟩
end
section
variable {K : PySem.W.Frag} {x qual : Str} {st : Stmt} {f : Addr} {fd : FuncData} {ps ks : List Str}
/-- one parameter, by its name -/
theorem Fun.kw1 {a : Str} (F : Fun K x qual st f fd) (h : ∀ (kV doc pm : Value) (an : Option Addr) (cdv ct u : Value), bindArgs (PySem.W.fnOf x qual (defArgs st) (defBody st) (defScope st) .none kV doc pm an cdv ct) ⟨[], [(a, u)]⟩ = pure [(a, u)]) :
    KBn K fd [a] 0 [a] (fun _ ws => ws) (fun _ zs => zs) := by
  obtain ⟨oc, od, kV, doc, pm, an, cdv, ct, osl, rfl, lk, hcd⟩ := F.ex
  refine ⟨fun s us ws X l1 l2 => ?_, fun _ r => r⟩
  match us, ws, l1, l2 with
  | [], [u], _, _ => exact .of_eq (h kV doc pm an cdv ct u)
/-- two parameters a, b, called as f(b = .., a = ..) -/
theorem Fun.kw2 {a b : Str} (F : Fun K x qual st f fd) (h : ∀ (kV doc pm : Value) (an : Option Addr) (cdv ct u v : Value), bindArgs (PySem.W.fnOf x qual (defArgs st) (defBody st) (defScope st) .none kV doc pm an cdv ct) ⟨[], [(b, u), (a, v)]⟩ = pure [(a, v), (b, u)]) :
    KBn K fd [a, b] 0 [b, a] (fun _ ws => ws.reverse) (fun _ zs => zs.reverse) := by
  obtain ⟨oc, od, kV, doc, pm, an, cdv, ct, osl, rfl, lk, hcd⟩ := F.ex
  refine ⟨fun s us ws X l1 l2 => ?_, fun {_ _ zs ws} _ r => ?_⟩
  · match us, ws, l1, l2 with
    | [], [u, v], _, _ => exact .of_eq (h kV doc pm an cdv ct u v)
  · clear h
    have rev : ∀ {zs : List V} {ws : List Value}, Vals zs ws → Vals zs.reverse ws.reverse := fun {zs ws} r => by
      induction r with
      | nil => exact .nil
      | cons h _ ih =>
        rw [List.reverse_cons, List.reverse_cons]
        exact ih.append (.cons h .nil)
    exact rev r
end
end KA
namespace KA
open PySem PySem.Spec PyProof.Rows L2 PySem.W LamX
/-- as FnOk, where no repr is running around the call -/
structure FnG (P : Program) (w : World) (K : PySem.W.Frag) (mg : Str → Option Value) (base : Heap) (CX : CXT) (k : Nat) (f : Addr) (fd : FuncData) (ps : List Str) (sp : Sp) : Prop where
  len : ∀ vs H Q E, sp vs H Q E → vs.length = ps.length
  run : ∀ (A : Around) (outer : List Env) (s : Shared) (H : Hp) (args : Args) (us : List Value) (vs : List V) (Q : VK) (E : XK), Room k A → A.guards = some [] →
    Env0 P w K mg base A outer s H → BindsTo s fd args (ps.zip us) → Vals vs us → sp vs H Q E → codeAny (model P w) A (.call (.ref f) args) (CR CX outer P w H s Q E) s
theorem fnG_of {CX : CXT} {P : Program} {w : World} {K : PySem.W.Frag} {mg : Str → Option Value} {base : Heap} {k : Nat} {f : Addr} {x qual : Str} {st : Stmt} {fd : FuncData} {N ps : List Str} {sp : Sp} (F : Fun K x qual st f fd) (S : FnScope N ps (defScope st))
    (len : ∀ vs H Q E, sp vs H Q E → vs.length = ps.length)
    (hbody : ∀ (cdv : Value) (A : Around) (outer : List Env) (s : Shared) (H : Hp) (vs : List V) (Q : VK) (E : XK), Room k (A.deeper (envOfC qual (defScope st) s.heap.objs.size f cdv)) → A.guards = some [] → sp vs H Q E →
      ∃ t, PSs (cxOf CX P w K mg base N qual (defScope st) f cdv A outer s H E) (defBody st) t ∧ t { nx := fun _ H' => Q .non H', rt := Q } (L2.start N vs) H) : FnG P w K mg base CX (k + 1) f fd ps sp := by
  obtain ⟨oc, od, kV, doc, pm, an, cdv, ct, osl, rfl, lk, hcd⟩ := F.ex
  exact ⟨len, fun A outer s H args us vs Q E hr hg e0 hb r h => run_ofS lk hcd S hr e0 hb r (len _ _ _ _ h) fun hr' => hbody cdv A outer s H vs Q E hr' hg h⟩
/-- what stands around the law's call: the script at a, the tables of cs (each a code object and its table) empty -/
structure Law (h : Heap) (mg mb : Str → Option Value) (K : PySem.W.Frag) (cs : List (Addr × Addr)) (a : Addr) (vs : List Value) (ns : List Int) : Prop where
  kx : K.In h
  nsM : h.Ns mainGlobals mg
  bn : h.Ns builtinsNs mb
  bb : ∀ x : Str, x ≠ "__name__" → mb x = bootBuiltins x
  lim : h.NoLimit
  tab : ∀ p ∈ cs, h.get? p.2 = some { cls := .none, data := .fields #[] }
  notab : ∀ p ∈ cs, K.lookup p.2 = none
  code : ∀ p ∈ cs, PySem.W.CodeHd h p.1 p.2
  bm : ∃ (bm : Addr) (ob : Obj), mg "__builtins__" = some (.ref bm) ∧ bm ≠ builtinsNs ∧ h.get? bm = some ob ∧ ob.cls = .type "module" ∧ ob.dict = some builtinsNs ∧ ob.data = .plain
  at_ : h.get? a = some { cls := .type "list", data := .seq vs.toArray }
  isI : IntsAre vs ns
  len : ns.length ≤ sizeLine
/-- the abstract heap at the law's call -/
def lawH (K : PySem.W.Frag) (cs : List (Addr × Addr)) (a : Addr) (vs : List Value) (ns : List Int) : Hp := fun b =>
  if b = a ∧ K.lookup a = none then some (.frz { cls := .type "list", data := .seq vs.toArray } (.lst (ns.map V.int)))
  else if b ∈ cs.map (·.2) then some (.tbl #[]) else none
section
variable {P : Program} {w : World} {K : PySem.W.Frag} {mg mb : Str → Option Value} {h : Heap} {cs : List (Addr × Addr)} {a : Addr} {vs : List Value} {ns : List Int}
theorem Law.tabAt (L : Law h mg mb K cs a vs ns) {b : Addr} (hb : b ∈ cs.map (·.2)) : h.get? b = some { cls := .none, data := .fields #[] } ∧ K.lookup b = none := by
  obtain ⟨p, hp, rfl⟩ := List.mem_map.mp hb
  exact ⟨L.tab p hp, L.notab p hp⟩
theorem Law.ne (L : Law h mg mb K cs a vs ns) {b : Addr} (hb : b ∈ cs.map (·.2)) : b ≠ a := fun z => by
  have q := (L.tabAt hb).1
  rw [z, L.at_] at q
  cases q
/-- what is tracked: the script, or a table -/
theorem Law.cases (L : Law h mg mb K cs a vs ns) {b : Addr} {u : HO} (e : lawH K cs a vs ns b = some u) :
    (b = a ∧ K.lookup a = none ∧ u = .frz { cls := .type "list", data := .seq vs.toArray } (.lst (ns.map V.int))) ∨ (b ∈ cs.map (·.2) ∧ u = .tbl #[]) := by
  unfold lawH at e
  split at e
  · rename_i c
    exact .inl ⟨c.1, c.2, (Option.some.inj e).symm⟩
  · split at e
    · rename_i c
      exact .inr ⟨c, (Option.some.inj e).symm⟩
    · cases e
theorem Law.tbl (L : Law h mg mb K cs a vs ns) {b : Addr} (hb : b ∈ cs.map (·.2)) : lawH K cs a vs ns b = some (.tbl #[]) := by
  unfold lawH
  rw [if_neg (fun z => L.ne hb z.1), if_pos hb]
theorem Law.seq (L : Law h mg mb K cs a vs ns) : SqL K (lawH K cs a vs ns) a (ns.map V.int) := by
  cases q : K.lookup a with
  | none => exact .inl (.inr ⟨_, by unfold lawH; rw [if_pos ⟨rfl, q⟩]⟩)
  | some o =>
    have e := L.kx a o q
    rw [L.at_] at e
    cases e
    exact .inr ⟨_, vs.toArray, _, q, rfl, rfl, rfl, by rw [List.size_toArray, L.isI.length]; exact L.len, by simpa using vals_ints L.isI⟩
theorem Law.hok (L : Law h mg mb K cs a vs ns) : HOk P w (lawH K cs a vs ns) h := fun b u e => by
  rcases L.cases e with ⟨rfl, _, rfl⟩ | ⟨hb, rfl⟩
  · exact ⟨L.at_, by rw [List.length_map]; exact L.len, vs, _, vals_ints L.isI, L.at_⟩
  · exact (L.tabAt hb).1
/-- an object that is neither a list nor an empty record is not tracked -/
theorem Law.free (L : Law h mg mb K cs a vs ns) {b : Addr} {o : Obj} (e : h.get? b = some o) (h1 : ∀ vs n, o.data ≠ .seq vs n) (h2 : o.data ≠ .fields #[]) : lawH K cs a vs ns b = none := by
  cases q : lawH K cs a vs ns b with
  | none => rfl
  | some u =>
    rcases L.cases q with ⟨rfl, _⟩ | ⟨hb, _⟩
    · rw [L.at_] at e
      cases e
      exact absurd rfl (h1 _ _)
    · rw [(L.tabAt hb).1] at e
      cases e
      exact absurd rfl h2
theorem Law.nsK (L : Law h mg mb K cs a vs ns) {b : Addr} {m : Str → Option Value} (x : h.Ns b m) : (hidT h (lawH K cs a vs ns)).Ns b m := by
  obtain ⟨o, es, ep, e, d, r⟩ := x
  refine ⟨o, es, ep, hidT_get e (L.free e (fun _ _ z => ?_) fun z => ?_), d, r⟩ <;> (rw [d] at z; cases z)
theorem Law.kin (L : Law h mg mb K cs a vs ns) : K.In (hidT h (lawH K cs a vs ns)) := fun b o e => hidT_get (L.kx b o e) (by
  cases q : lawH K cs a vs ns b with
  | none => rfl
  | some u =>
    rcases L.cases q with ⟨rfl, z, _⟩ | ⟨hb, _⟩
    · rw [z] at e
      cases e
    · rw [(L.tabAt hb).2] at e
      cases e)
theorem Law.mod (L : Law h mg mb K cs a vs ns) : L2.Mod K mg (hidT h (lawH K cs a vs ns)) := by
  obtain ⟨mc, h1, h2⟩ := L.lim
  exact ⟨L.kin, L.nsK L.nsM, ⟨mb, L.nsK L.bn, L.bb⟩, mc, L.nsK h1, h2⟩
theorem Law.main (L : Law h mg mb K cs a vs ns) {b : Addr} {o : Obj} (e : h.get? b = some o) (n : ∀ es ep, o.data ≠ .dict es ep) : b ≠ mainGlobals := fun z => by
  obtain ⟨o', es, ep, e', d, _⟩ := L.nsM
  rw [z, e'] at e
  cases e
  exact n _ _ d
theorem Law.tabs (L : Law h mg mb K cs a vs ns) : ∀ p ∈ cs, TabB (hidT h (lawH K cs a vs ns)) mg p.1 p.2 := fun p hp => by
  have hm : p.2 ∈ cs.map (·.2) := List.mem_map.mpr ⟨p, hp, rfl⟩
  have ht := (L.tabAt hm).1
  refine ⟨?_, ?_, fun z => L.main ht (fun _ _ q => by cases q) z.symm⟩
  · obtain ⟨o, us, file, tf, flags, tg, inF, text, tt, e1, r1, r2, r3, rest⟩ := L.code p hp
    refine ⟨o, us, file, tf, flags, tg, inF, text, tt, hidT_get e1 (L.free e1 (fun _ _ z => ?_) fun z => ?_), r1, r2, r3, rest⟩
    · rw [r2] at z
      cases z
    · rw [r2] at z
      cases z
      simp at r3
  · obtain ⟨bm, ob, b1, b2, b3, b4, b5, b6⟩ := L.bm
    refine ⟨bm, ob, b1, b2, L.main b3 (fun _ _ q => by rw [b6] at q; cases q), fun q => ?_, hidT_get b3 (L.free b3 (fun _ _ z => ?_) fun z => ?_), b4, b5, b6⟩
    · rw [q, ht] at b3
      cases b3
      cases b6
    · rw [b6] at z
      cases z
    · rw [b6] at z
      cases z
/-- an address of the heap at the call stands as it stood, or it is a table that has grown -/
theorem Law.stay (L : Law h mg mb K cs a vs ns) {s' : Shared} {H' : Hp} {b : Addr} {o : Obj} (un : Un [] [] (lawH K cs a vs ns) H' h s'.heap) (ok : HOk P w H' s'.heap) (e : h.get? b = some o) (nb : b ∉ cs.map (·.2)) : s'.heap.get? b = some o := by
  cases q : lawH K cs a vs ns b with
  | none => exact un.keep b o e q (by simp) (by simp)
  | some u =>
    rcases L.cases q with ⟨rfl, _, rfl⟩ | ⟨z, _⟩
    · have e2 := (ok b _ (un.frzs b _ _ q)).1
      rw [L.at_] at e
      rw [← e]
      exact e2
    · exact absurd z nb
theorem Law.grown (L : Law h mg mb K cs a vs ns) {s' : Shared} {H' : Hp} {b : Addr} (un : Un [] [] (lawH K cs a vs ns) H' h s'.heap) (ok : HOk P w H' s'.heap) (hb : b ∈ cs.map (·.2)) : ∃ more : Array Value, s'.heap.get? b = some { cls := .none, data := .fields more } := by
  obtain ⟨more, z⟩ := un.tbls b #[] (L.tbl hb)
  exact ⟨_, ok b _ z⟩
theorem Law.old (L : Law h mg mb K cs a vs ns) {s' : Shared} {H' : Hp} (un : Un [] [] (lawH K cs a vs ns) H' h s'.heap) (ok : HOk P w H' s'.heap) : OldK h s'.heap := by
  constructor
  · intro b o e
    by_cases hb : b ∈ cs.map (·.2)
    · obtain ⟨p, hp, rfl⟩ := List.mem_map.mp hb
      obtain ⟨more, hm⟩ := L.grown un ok hb
      have ht := L.tab p hp
      rw [ht] at e
      cases e
      refine .inr (.inl ⟨((L.code p hp).tab ht).isCodeTable, rfl, #[], more, rfl, ?_⟩)
      rw [Array.empty_append]
      exact hm
    · exact .inl (L.stay un ok e hb)
  · intro b o e
    by_cases hb : b ∈ cs.map (·.2)
    · obtain ⟨more, hm⟩ := L.grown un ok hb
      exact ⟨_, hm⟩
    · exact ⟨o, L.stay un ok e hb⟩
end
/-- the law, called with the script at a -/
theorem law_callG {P : Program} {w : World} {K : PySem.W.Frag} {mg mb : Str → Option Value} {CX : CXT} {k : Nat} {fa a : Addr} {cs : List (Addr × Addr)} {fd : FuncData} {x : Str} {sp : Sp} {s : Shared} {vs : List Value} {ns : List Int}
    (L : Law s.heap mg mb K cs a vs ns) (hg : s.gens = #[]) (hr : Room k callerA) (F : ∀ base : Heap, K.In base → base.Ns mainGlobals mg → (∀ p ∈ cs, TabB base mg p.1 p.2) → FnG P w K mg base CX k fa fd [x] sp)
    (hbind : ∀ (s : Shared) (u : Value), BindsTo s fd ⟨[u], []⟩ [(x, u)]) (hsp : ∀ H : Hp, (∀ p ∈ cs, H p.2 = some (.tbl #[])) → SqL K H a (ns.map V.int) → sp [.ref a] H (fun v _ => v = .bl true) fun _ _ _ => False)
    (hCX : ∀ H e s', CX [] H s (fun _ _ _ => False) e s' → False) :
    codeAny (model P w) callerA (.call (.ref fa) ⟨[.ref a], []⟩) (fun r s' => r = .ok (.ret (.bool true)) ∧ OldK s.heap s'.heap ∧ s'.os = s.os ∧ AllBare s'.gens) s := by
  have env : Env0 P w K mg (hidT s.heap (lawH K cs a vs ns)) callerA [] s (lawH K cs a vs ns) :=
    ⟨rfl, L.mod, fun _ _ => of_hidT, Nat.le_of_eq (hidT_size _ _), trivial, fun b hb => absurd (show b ∈ ([] : List Addr) from hb) List.not_mem_nil, L.hok, .of_eq hg⟩
  have pre := hsp (lawH K cs a vs ns) (fun p hp => L.tbl (List.mem_map.mpr ⟨p, hp, rfl⟩)) L.seq
  have run := (F _ L.kin (L.nsK L.nsM) L.tabs).run callerA [] s _ ⟨[.ref a], []⟩ [.ref a] [.ref a] _ _ hr rfl env (hbind s _) (.cons rfl .nil) pre
  refine codeAny_mono run fun r s' q => ?_
  match r, q with
  | .error e, q => exact (hCX _ e s' q).elim
  | .ok .next, q => exact False.elim q
  | .ok .brk, q => exact False.elim q
  | .ok .cont, q => exact False.elim q
  | .ok (.ret u), q =>
    obtain ⟨v, H', os, bare, un, ok, rv, e⟩ := q
    cases (show v = .bl true from e)
    cases (show u = Value.bool true from rv)
    exact ⟨rfl, L.old un ok, os, bare⟩
/-- what is known of the law at the head's heap h -/
def LawAtG (l : PySem.W.OpenLaw) (w : World) (K : PySem.W.Frag) (CX : CXT) (k n : Nat) (x : Str) (mg : Str → Option Value) (fa : Addr) (h : Heap) : Prop :=
  ∃ (fd : FuncData) (cs : List (Addr × Addr)) (sp : Sp), ((∀ p ∈ cs, h.get? p.2 = some { cls := .none, data := .fields #[] }) ∧ (∀ p ∈ cs, K.lookup p.2 = none) ∧ ∀ p ∈ cs, PySem.W.CodeHd h p.1 p.2) ∧
    (∀ (s : Shared) (u : Value), BindsTo s fd ⟨[u], []⟩ [(x, u)]) ∧
    (∀ (H : Hp) (a : Addr) (ns : List Int), ns.length ≤ n → (∀ p ∈ cs, H p.2 = some (.tbl #[])) → SqL K H a (ns.map V.int) → sp [.ref a] H (fun v _ => v = .bl true) fun _ _ _ => False) ∧
    ∀ base : Heap, K.In base → base.Ns mainGlobals mg → (∀ p ∈ cs, TabB base mg p.1 p.2) → FnG l.prog w K mg base CX k fa fd [x] sp
theorem walk_ofG {l : PySem.W.OpenLaw} {n k : Nat} {q : Program} {loose : List Str} {XP : (Str → Option Value) → Heap → Prop} {YP : World → Heap → Prop} {d : DefRec} {K : Params → PySem.W.Frag} {CX : World → CXT} {x : Str}
    (most : l.most = some n) (line : n ≤ sizeLine) (plain : d.params.defaults = []) (room : Room k callerA) (known : ∀ (w : World) (h : Heap), YP w h → (K w.params).In h)
    (at_ : ∀ (w : World) (mg : Str → Option Value) (fa : Addr) (h : Heap), YP w h → (K w.params).In h → h.Ns mainGlobals mg → mg d.name = some (.ref fa) → LawAtG l w (K w.params) (CX w) k n x mg fa h)
    (calm : ∀ (w : World) (H : Hp) (s : Shared) (e : Value) (s' : Shared), CX w [] H s (fun _ _ _ => False) e s' → False) : PySem.W.WalkO q loose XP YP l.row.toRowW d [] (fun f vs => PySem.call f vs) := by
  refine Att.attach_callB most plain fun w _ s mg mb fa _ _ _ _ a vs ns G Y _ _ _ name here isI short _ bare => ?_
  obtain ⟨fd, cs, sp, ⟨t1, t2, t3⟩, bind, pre, F⟩ := at_ w mg fa _ Y (known w _ Y) G.T.g name
  exact law_callG ⟨known w _ Y, G.T.g, G.T.b, G.T.builtins, G.T.nolimit, t1, t2, t3, G.T.bmain, here, isI, Nat.le_trans short line⟩ bare room F bind (fun H t S => pre H a ns short t S) fun H e s' => calm w H s e s'
end KA
namespace KU
open PySem PySem.W PySem.Calls PyProof.Rows PySem.HandSPX
/-! ### an own error whose __init__(self, f) says super().__init__(e) and self.f = f -/
abbrev upBody (f : Str) (e : Expr) (p0 p1 p2 p3 pe q1 q2 q3 q4 : Pos) : List Stmt :=
  [.Expr (.Call (.Attribute (.Call (.Name "super" p0) [] [] p1) "__init__" p2) [e] [] p3) pe, .Assign [.Attribute (.Name "self" q1) f q2] (.Name f q3) q4]
abbrev upArgs (f : Str) (r1 r2 : Pos) : Arguments := { posonlyargs := [], args := [{ arg := "self", annotation := none, pos := r1 }, { arg := f, annotation := none, pos := r2 }], vararg := none, kwonlyargs := [], kw_defaults := [], kwarg := none, defaults := [] }
abbrev upScope (f : Str) : Scope := { kind := .function, names := [(PySem.Str.ofString "self", .local), (f, .local), (PySem.Str.ofString "__class__", .free), (PySem.Str.ofString "super", .globalImplicit)], isGenerator := false, isCoroutine := false, more := [] }
/-- what the written part says of the class at C, of its __init__ at fI -/
structure UpTxt (P : Program) (K : Frag) (C fI cda cc : Addr) (qual f : Str) (e : Expr) : Prop where
  fn : ∃ (oc : Value) (od : Option Addr) (doc pm : Value) (an : Option Addr) (ct : Value) (osl : Array (Option Value)) (r1 r2 p0 p1 p2 p3 pe q1 q2 q3 q4 : Pos),
    K.lookup fI = some ⟨oc, od, .func (ksFn "__init__" qual (upArgs f r1 r2) (upBody f e p0 p1 p2 p3 pe q1 q2 q3 q4) (upScope f) .none .none doc pm an (.ref cda) ct cc), osl⟩ ∧
      (∀ a b : Value, bindArgs (ksFn "__init__" qual (upArgs f r1 r2) (upBody f e p0 p1 p2 p3 pe q1 q2 q3 q4) (upScope f) .none .none doc pm an (.ref cda) ct cc) ⟨[a, b], []⟩ = pure [(PySem.Str.ofString "self", a), (f, b)]) ∧
      (∀ L : Addr, swapsWith (.Name f q3) (some (.Attribute (.Name "self" q1) f q2)) q4.line (ksEnv qual (upScope f) L fI (.ref cda) cc) = pure false) ∧
      ∃ pl : Sem Bool, ∀ L : Addr, eval (.Call (.Attribute (.Call (.Name "super" p0) [] [] p1) "__init__" p2) [e] [] p3) (ksEnv qual (upScope f) L fI (.ref cda) cc) = (do
        let o ← attributeBase (.Call (.Name "super" p0) [] [] p1) "__init__" (ksEnv qual (upScope f) L fI (.ref cda) cc) (eval (.Call (.Name "super" p0) [] [] p1) (ksEnv qual (upScope f) L fI (.ref cda) cc))
        standAt p2.atName
        let (g, first) ← holding [o] (getMethod o "__init__" pl)
        callWith p3 g first (backTo p3 (starEach [e] (ksEnv qual (upScope f) L fI (.ref cda) cc))) [])
  star : ∀ env : Env, starEach [e] env = [(false, eval e env)]
  code : codeIn K (.ref cda) qual = true
  file : ∃ (cl : Value) (cdd : Option Addr) (vs : Array Value) (ccs : Array (Option Value)) (fl : Str) (tf : Tok), K.lookup cda = some ⟨cl, cdd, .fields vs, ccs⟩ ∧ vs[2]? = some (.str fl tf) ∧ ((P.main.file : Str) == fl) = true
  cell : ∃ (cl : Value) (cld : Option Addr) (csl : Array (Option Value)), K.lookup cc = some ⟨cl, cld, .cell (some (.ref C)), csl⟩
  cls : ∃ cd, clsIn K C = some cd ∧ refsVE cd.mro = true ∧ cd.hasDict = true
  self : mroIn K C (.ref C) = some true
  noSuper : nsIn K mainGlobals "super" = some none
  top : (P.main.scope.names.lookup ("super" : Str)).isSome = false
  third : nsIn K cStatics "thirdparty.any" = some none
  up : ks_superIn K C C "__init__" = some (some (.builtin "ValueError.__init__"))
  val : subIn K (.ref C) (.type "ValueError") = some true
  own : excInitIn K C [.type "ValueError", .type "Exception", .type "BaseException", .type "object"] "ValueError.__new__" = true
  set : findIn K (.ref C) "__setattr__" = some (some (.builtin "object.__setattr__"))
  noF : findIn K (.ref C) f = some none
  obj : ∃ (nm q : Str) (N : Addr) (bs bm : List Value) (sn : List Str) (sub : List Value) (ab : Bool) (col : Option Bool) (dd : Option Addr) (k0 k1 k2 k3 k5 : Option Value),
    K.lookup C = some (excClassObj nm q C N bs bm true sn sub ab col dd k0 k1 k2 k3 k5 "ValueError.__new__") ∧ refsVE bm = true
  iC : findIn K (.ref C) "__init__" = some (some (.ref fI))
  tC : typeIn K (.ref fI) = some (.type "function")
  ga : findIn K (.ref C) "__getattribute__" = some (some (.builtin "BaseException.__getattribute__"))
  gg : findIn K (.ref C) "__getattr__" = some none
  kC : keepIn K (.ref C) = true
  exC : subIn K (.ref C) (.type "BaseException") = some true
  tyC : typeIn K (.ref C) = some (.type "type")
  hdC : hasDictIn K C = true
  nf : f ≠ "self" ∧ f ≠ "__class__" ∧ f ≠ "super" ∧ f ≠ "__debug__"
/-- what it leaves of a fresh exception at x -/
structure UpEnd (h h' : Heap) (x C dx t1 : Addr) (f : Str) (v : Value) : Prop where
  keep : ∀ b o, b ≠ x → h.get? b = some o → h'.get? b = some o
  obj : h'.get? x = some { cls := .ref C, dict := some dx, data := .fields #[.ref t1, .none, .none, .none, .bool false, .none] }
  big : h.objs.size ≤ dx
  ne : dx ≠ x
  ns : h'.Ns1 dx (fun y => if y = f then some v else none)
section
variable {prog : Program} {w : World} {A : Around} {R : Result → Shared → Prop} {s : Shared} {K : Frag} {mg mb : Str → Option Value} {C fI cda cc : Addr} {qual f : Str} {e : Expr}
theorem up_init (T : UpTxt prog K C fI cda cc qual f e) {x t0 : Addr} {v : Value} (X : K.In s.heap) (hlim : s.heap.NoLimit) (hg : s.heap.Ns mainGlobals mg) (hb : s.heap.Ns builtinsNs mb) (hbb : ∀ y : Str, y ≠ "__name__" → mb y = bootBuiltins y)
    (hx : s.heap.get? x = some (excO C t0)) (hnx : K.lookup x = none) (hroom : A.depth < recursionLimit)
    (text : ∀ (A' : Around) (E : Value → Shared → Prop) (s' : Shared) (L : Addr) (m : Str → Option Value) (Q : Value → Shared → Prop), A'.units ≤ A.units + 4 → (∀ b o, s.heap.get? b = some o → s'.heap.get? b = some o) → s'.heap.Ns L m → m f = some v → (∀ (z : Str) (t : Tok) (h' : Heap) (t' : Tok), (∀ b o, s'.heap.get? b = some o → h'.get? b = some o) → Q (.str z t) { s' with heap := h', toks := t' }) → wpAny (model prog w) A' (eval e (ksEnv qual (upScope f) L fI (.ref cda) cc)) Q E s')
    (hq : ∀ h' tk dx t1, UpEnd s.heap h' x C dx t1 f v → R (.ok (.ret .none)) { s with heap := h', toks := tk }) :
    codeAny (model prog w) A (.call (.ref fI) ⟨[.ref x, v], []⟩) R s := by
  obtain ⟨hp, g, dr, tk, os⟩ := s
  dsimp only at X hlim hg hb hx
  obtain ⟨oc, od, doc, pm, an, ct, osl, r1, r2, p0, p1, p2, p3, pe, q1, q2, q3, q4, ho, hbd, hswap, pl, hcall⟩ := T.fn
  obtain ⟨n1, n2, n3, n4⟩ := T.nf
  have lf : (upScope f).names.lookup f = some .local := by
    show List.lookup f ((PySem.Str.ofString "self", NameKind.local) :: _) = _
    rw [List.lookup_cons]
    cases f == PySem.Str.ofString "self" with
    | true => rfl
    | false =>
      show List.lookup f ((f, NameKind.local) :: _) = _
      rw [List.lookup_cons, beq_self_eq_true]
  refine ks_codeAny_call_defAt (binds := [(PySem.Str.ofString "self", .ref x), (f, v)]) (body := upBody f e p0 p1 p2 p3 pe q1 q2 q3 q4) hroom (X _ _ ho) rfl hlim (codeRec_of X T.code) rfl ?bind ?cells ?locs (fun h₁ hns keep => ?_) rfl rfl rfl
  case bind => exact .of_eq (hbd _ _)
  case cells =>
    intro y hy
    simp only [List.mem_cons, List.not_mem_nil, or_false] at hy
    rcases hy with z | z | z | z <;> (subst z; exact fun q => by cases q)
  case locs =>
    intro y hy
    simp only [List.mem_cons, List.not_mem_nil, or_false] at hy
    rcases hy with z | z <;> subst z
    · rfl
    · exact lf
  have X1 : K.In h₁ := X.keeps keep
  have ms : (List.lookup (PySem.Str.ofString "self") [(PySem.Str.ofString "self", Value.ref x), (f, v)].reverse) = some (.ref x) := by
    show List.lookup (PySem.Str.ofString "self") [(f, v), (PySem.Str.ofString "self", Value.ref x)] = _
    rw [List.lookup_cons, beq_false_of_ne (Ne.symm n1)]
    rfl
  have mf : (List.lookup f [(PySem.Str.ofString "self", Value.ref x), (f, v)].reverse) = some v := by
    show List.lookup f [(f, v), (PySem.Str.ofString "self", Value.ref x)] = _
    rw [List.lookup_cons, beq_self_eq_true]
  obtain ⟨cd, hcd, hmro, hdict⟩ := T.cls
  obtain ⟨cl, cdd, vs, ccs, fl, tf, hcode, hvs, hfile⟩ := T.file
  obtain ⟨ccl, cld, csl, hcell⟩ := T.cell
  have hx1 := keep _ _ hx
  generalize hm : (fun y => List.lookup y [(PySem.Str.ofString "self", Value.ref x), (f, v)].reverse) = m at hns
  have ms' : m "self" = some (.ref x) := by rw [← hm]; exact ms
  have mf' : m f = some v := by rw [← hm]; exact mf
  clear ms mf hm
  show PySem.wpAt _ _ _ (execs (upBody f e p0 p1 p2 p3 pe q1 q2 q3 q4) (ksEnv qual (upScope f) hp.objs.size fI (.ref cda) cc)) _ _ _
  refine ks_wpAt_execs_cons (ks_wpAt_Expr_any (ks_wpAt_MethodCall (pl := pl) ?_ (hcall _)))
  obtain ⟨oC, hC1, hC2⟩ : ∃ oC, h₁.get? C = some oC ∧ oC.data = .cls cd := by
    unfold clsIn at hcd
    split at hcd
    · rename_i c d cd' sl z
      cases hcd
      exact ⟨_, X1 _ _ z, rfl⟩
    · cases hcd
  have k1 : (upScope f).names.lookup ("super" : Str) = some .globalImplicit := by
    show List.lookup (PySem.Str.ofString "super") ((f, NameKind.local) :: _) = _
    rw [List.lookup_cons, beq_false_of_ne (Ne.symm n3)]
    rfl
  have k2 : (upScope f).names.lookup ("__class__" : Str) = some .free := by
    show List.lookup (PySem.Str.ofString "__class__") ((f, NameKind.local) :: _) = _
    rw [List.lookup_cons, beq_false_of_ne (Ne.symm n2)]
    rfl
  refine ks_wpAt_super_base (env := ksEnv qual (upScope f) hp.objs.size fI (.ref cda) cc) k1 k2 rfl rfl (X1 _ _ ho) rfl rfl rfl (X1 _ _ hcode) rfl hvs hfile T.top ?_
  refine ks_loadName_global rfl k1 (loadGlobal_builtin (env := ksEnv qual (upScope f) hp.objs.size fI (.ref cda) cc) (hg.keeps keep) (mg_none_of X hg T.noSuper) (hb.keeps keep) ((hbb _ (by decide +kernel)).trans (show bootBuiltins "super" = some (.type "super") by kernel_rfl)) ⟨rfl, ?_⟩)
  refine wpAny_loadName_free rfl k2 rfl ⟨_, X1 _ _ hcell, rfl⟩ ?_
  refine wpAny_loadName_local rfl rfl hns ms' ?_
  refine ks_wpAny_isType_cls hC1 hC2 ⟨rfl, ?_⟩
  refine ks_wpAny_call_super hC1 hC2 hx1 rfl (fun c z => by cases z) (looks_mroIn X1 T.self) (fun h2 so keep2 => ?_)
  have X2 : K.In h2 := X1.keeps keep2
  have hx2 := keep2 _ _ hx1
  have I2 : InstAt h2 x (excO C t0) C none := ⟨hx2, rfl, rfl, trivial⟩
  have along : alongIn K "__init__" ((cd.mro.dropWhile (· != .ref C)).drop 1) = some (some (.builtin "ValueError.__init__")) := by
    have z := T.up
    unfold ks_superIn at z
    rw [hcd] at z
    exact z
  refine kxs_getMethod kxs_ValueError so (looks_opaque X2 T.third) (l₀ := cd.mro) (fun A Q E s k q => wpAny_bind ((looks_clsIn X2 hcd) A _ E s k (wpAny_pure q))) rfl X2 along (I2.type.andThen (looks_subIn X2 T.val)) (ks_ne X2 I2 hcd) rfl ?_
  have push3 : ∀ b o, h2.get? b = some o → (h2.push (kxs_mw "ValueError.__init__" x)).get? b = some o := fun b o z => Heap.get?_push_of_some _ z
  generalize hh3 : h2.push (kxs_mw "ValueError.__init__" x) = h3 at push3
  have hu : h3.get? h2.objs.size = some (kxs_mw "ValueError.__init__" x) := by
    rw [← hh3]
    exact Heap.get?_push_at rfl rfl
  generalize h2.objs.size = u at hu
  have X3 : K.In h3 := X2.keeps push3
  have hx3 := push3 _ _ hx2
  have hns3 : h3.Ns hp.objs.size m := (hns.keeps keep2).keeps push3
  rw [T.star]
  refine kxs_callWith (i := "ValueError.__init__") (x := x) (u := u) rfl (evalArgs_plain (spliced_cons ?_))
  refine text _ _ _ _ _ _ (by show A.units + 3 ≤ A.units + 4; omega) (fun b o z => push3 b o (keep2 b o (keep b o z))) hns3 mf' fun z zt h3' t' g3 => spliced_nil ⟨g3 _ _ hu, ?_⟩
  replace X3 := X3.keeps g3
  replace hx3 := g3 _ _ hx3
  replace hns3 := hns3.keeps g3
  replace hu := g3 _ _ hu
  replace push3 : ∀ b o, h2.get? b = some o → h3'.get? b = some o := fun b o z => g3 b o (push3 b o z)
  obtain ⟨nm, N', qn, bs, bm, hdct, sn, sub, ab, col, dd, kk0, kk1, kk2, kk3, kk5, hC, hT⟩ := excInit_of X3 T.own
  refine wpAny_call (codeAny_of_tree ?_)
  show wpAny _ (Around.in1 _) (callAny (.ref u) ⟨[.str z zt], []⟩) _ _ _
  simp only [callAny]
  refine wpAny_bind (wpAny_load hu ?_)
  simp only [kxs_mw, show (Value.type "method-wrapper" == Value.type "method" || Value.type "method-wrapper" == Value.type "builtin_function_or_method" || Value.type "method-wrapper" == Value.type "method-wrapper") = true by decide, if_true]
  have FB := F.excBase_ValueError
  refine KFB.if_so (by decide) (wpAny_bind (check_bound_init FB.toExcCallFacts hC hx3 rfl (wpAny_bind (wpAny_pure (wpAny_pure ⟨plainId_quiet FB.init.plain _, codeAny_builtin FB.initEntry ?_⟩)))))
  refine exc_init_tree (cls := .ref C) (t0 := t0) (dv := none) (c2 := .none) (c3 := .none) (b4 := .bool false) hx3 (by show 1 ≤ sizeLine; decide) fun h4 keep4 hx4 _ => ?_
  have X4 : K.In h4 := fun b o z => keep4 b o (fun q => by rw [q, hnx] at z; cases z) (X3 b o z)
  have hns4 : h4.Ns hp.objs.size m := by
    obtain ⟨oL, es, ep, hL, rest⟩ := hns3
    exact ⟨oL, es, ep, keep4 _ _ (Nat.ne_of_gt (Heap.lt_size hx)) hL, rest⟩
  refine wpAt_of_wpAny (wpAny_execs_cons (plainObj_wpAny_Assign_Attribute ?_ (hswap _)))
  have kf : (ksEnv qual (upScope f) hp.objs.size fI (.ref cda) cc).kindOf f = some .local := lf
  have ndb : (f == ("__debug__" : Str)) = false := beq_false_of_ne n4
  refine wpAny_Name (wpAny_loadName_local rfl kf hns4 mf' ?_) ndb
  refine wpAny_Name (wpAny_loadName_local rfl rfl hns4 ms' ?_) rfl
  refine set_plain X4 (ox := excO C h3'.objs.size) (od := none) ⟨hx4, rfl, rfl, trivial⟩ T.set ?_
  refine exc_osa X4 hx4 hcd hmro hdict T.noF fun h5 tk5 dx keep5 big ne5 hx5 hn5 => ?_
  refine wpAny_execs_nil (hq h5 tk5 dx h3'.objs.size ⟨fun b o hb z => keep5 b o hb (keep4 b o hb (push3 b o (keep2 b o (keep b o z)))), hx5, ?_, ne5, hn5⟩)
  exact Nat.le_of_lt (Nat.lt_of_lt_of_le hns4.lt big)
/-- a made one -/
structure UpMade (h h' : Heap) (e C d : Addr) (f : Str) (v : Value) : Prop where
  keep : ∀ b o, h.get? b = some o → h'.get? b = some o
  new : h.objs.size ≤ e
  obj : ∃ oe vs, h'.get? e = some oe ∧ oe.cls = .ref C ∧ oe.dict = some d ∧ oe.data = .fields vs ∧ vs[1]? = some .none
  big : h.objs.size ≤ d
  ne : d ≠ e
  ns : h'.Ns1 d (fun y => if y = f then some v else none)
theorem up_made (T : UpTxt prog K C fI cda cc qual f e) {v : Value} (X : K.In s.heap) (hlim : s.heap.NoLimit) (hg : s.heap.Ns mainGlobals mg) (hb : s.heap.Ns builtinsNs mb) (hbb : ∀ y : Str, y ≠ "__name__" → mb y = bootBuiltins y) (hroom : A.depth + 1 < recursionLimit)
    (text : ∀ (A' : Around) (E : Value → Shared → Prop) (s' : Shared) (L : Addr) (m : Str → Option Value) (Q : Value → Shared → Prop), A'.units ≤ A.units + 12 → (∀ b o, s.heap.get? b = some o → s'.heap.get? b = some o) → s'.heap.Ns L m → m f = some v → (∀ (z : Str) (t : Tok) (h' : Heap) (t' : Tok), (∀ b o, s'.heap.get? b = some o → h'.get? b = some o) → Q (.str z t) { s' with heap := h', toks := t' }) → wpAny (model prog w) A' (eval e (ksEnv qual (upScope f) L fI (.ref cda) cc)) Q E s')
    (hq : ∀ h' tk a d, UpMade s.heap h' a C d f v → R (.ok (.ret (.ref a))) { s with heap := h', toks := tk }) : codeAny (model prog w) A (.call (.ref C) ⟨[v], []⟩) R s := by
  obtain ⟨nm, q, N, bs, bm, sn, sub, ab, col, dd, k0, k1, k2, k3, k5, hC, hbm⟩ := T.obj
  obtain ⟨hp, g, dr, tk, os⟩ := s
  dsimp only at X hlim hg hb
  generalize hh : (hp.push (kdv_tup [v])).push (excO C hp.objs.size) = h1
  have k : ∀ b o, hp.get? b = some o → h1.get? b = some o := fun b o z => by
    rw [← hh]
    exact Heap.get?_push_of_some _ (Heap.get?_push_of_some _ z)
  have got : h1.get? (hp.objs.size + 1) = some (excO C hp.objs.size) := by
    rw [← hh]
    heap_get
  have fresh : K.lookup (hp.objs.size + 1) = none := by
    cases z : K.lookup (hp.objs.size + 1) with
    | none => rfl
    | some o => exact absurd (show hp.objs.size + 1 < hp.objs.size from Heap.lt_size (X _ _ z)) (Nat.not_lt.mpr (Nat.le_succ _))
  refine call_own F.excBase_ValueError (fun Y => refsVE_contains Y bm hbm) (X _ _ hC) (looks_findIn X T.iC) (fun self => bind_fn X self T.tC) (by show 1 ≤ sizeLine; decide) ?_
  rw [hh]
  refine up_init (s := ⟨h1, g, dr, tk, os⟩) T (X.keeps k) (hlim.keeps k) (hg.keeps k) (hb.keeps k) hbb got fresh hroom (fun A' E s' L m Q un kp => text A' E s' L m Q (Nat.le_trans un (by show A.units + 1 + 4 ≤ A.units + 12; omega)) fun b o z => kp b o (k b o z)) fun h' tk' dx t1 Z => ?_
  have size1 : hp.objs.size ≤ h1.objs.size := Nat.le_of_lt (Nat.lt_of_succ_lt (Heap.lt_size got))
  exact ⟨rfl, hq h' tk' (hp.objs.size + 1) dx ⟨fun b o z => Z.keep b o (Nat.ne_of_lt (Nat.lt_succ_of_lt (Heap.lt_size z))) (k b o z), Nat.le_succ _, ⟨_, _, Z.obj, rfl, rfl, rfl, rfl⟩, Nat.le_trans size1 Z.big, Z.ne, Z.ns⟩⟩
end
end KU
namespace KU
open PySem PySem.W PySem.Calls PyProof.Rows PySem.HandSPX
/-- what the error says of v can be told -/
abbrev Text (P : Program) (w : World) (fI cda cc : Addr) (qual f : Str) (e : Expr) (v : Value) : Prop :=
  ∀ (A' : Around) (E : Value → Shared → Prop) (s' : Shared) (L : Addr) (m : Str → Option Value) (Q : Value → Shared → Prop), s'.heap.Ns L m → m f = some v → (∀ (z : Str) (t t' : Tok), Q (.str z t) { s' with toks := t' }) →
    wpAny (model P w) A' (eval e (ksEnv qual (upScope f) L fI (.ref cda) cc)) Q E s'
theorem kind_f {f : Str} : (upScope f).names.lookup f = some .local := by
  show List.lookup f ((PySem.Str.ofString "self", NameKind.local) :: _) = _
  rw [List.lookup_cons]
  cases f == PySem.Str.ofString "self" with
  | true => rfl
  | false =>
    show List.lookup f ((f, NameKind.local) :: _) = _
    rw [List.lookup_cons, beq_self_eq_true]
/-- f'z{f}' of an int, of a text -/
theorem text_of {P : Program} {w : World} {fI cda cc : Addr} {qual f z : Str} {j : Nat} {pc pn pf pj : Pos} {v : Value} {y : Str} (hd : f ≠ "__debug__")
    (fld : ∀ (A' : Around) (E : Value → Shared → Prop) (s' : Shared) (Q : Value → Shared → Prop), (∀ (t t' : Tok), Q (.str y t) { s' with toks := t' }) → wpAny (model P w) A' (formatField v Str.empty) Q E s')
    (h1 : z.length ≤ sizeLine) (h2 : (z ++ y).length ≤ sizeLine) : Text P w fI cda cc qual f (.JoinedStr [.Constant (.str z) j pc, .FormattedValue (.Name f pn) (-1) none pf] pj) v := by
  intro A' E s' L m Q hn hm k
  refine wpAny_JoinedStr ?_
  have e0 : ∀ env : Env, evalEach [.Constant (.str z) j pc, .FormattedValue (.Name f pn) (-1) none pf] env = [eval (.Constant (.str z) j pc) env, eval (.FormattedValue (.Name f pn) (-1) none pf) env] := fun _ => by first | rfl | simp [evalEach]
  rw [e0]
  have e1 : Str.empty ++ z = z := by
    show (⟨#[] ++ z.cps⟩ : Str) = z
    rw [Array.empty_append]
  refine Calls.Constant_str ⟨z, _, rfl, by rw [e1]; exact h1, ?_⟩
  rw [e1]
  refine wpAny_FormattedValue_plain (wpAny_Name (wpAny_loadName_local rfl (show (ksEnv qual (upScope f) L fI (.ref cda) cc).kindOf f = some .local from kind_f) hn hm ?_) (beq_false_of_ne hd))
  exact fld _ _ _ _ fun t t' => ⟨y, t, rfl, h2, h2, k _ _ _⟩
theorem text_int {P : Program} {w : World} {fI cda cc : Addr} {qual f z : Str} {j : Nat} {pc pn pf pj : Pos} {i : Int} {t : Tok} (hd : f ≠ "__debug__") (hi : i.natAbs.log2 < 1920) (h1 : z.length ≤ sizeLine) (h2 : (z ++ (toString i : String)).length ≤ sizeLine) :
    Text P w fI cda cc qual f (.JoinedStr [.Constant (.str z) j pc, .FormattedValue (.Name f pn) (-1) none pf] pj) (.int i t) :=
  text_of hd (fun _ _ _ _ k => wpAny_formatField_int hi (k _ _)) h1 h2
theorem text_str {P : Program} {w : World} {fI cda cc : Addr} {qual f z y : Str} {j : Nat} {pc pn pf pj : Pos} {t : Tok} (hd : f ≠ "__debug__") (h1 : z.length ≤ sizeLine) (h2 : (z ++ y).length ≤ sizeLine) (h3 : y.length ≤ sizeLine) :
    Text P w fI cda cc qual f (.JoinedStr [.Constant (.str z) j pc, .FormattedValue (.Name f pn) (-1) none pf] pj) (.str y t) :=
  text_of hd (fun _ _ _ _ k => wpAny_formatField_str (k _ _) (k _ _) h3) h1 h2
end KU
namespace KU
open PySem PySem.Spec PyProof.Rows L2
theorem relO_up {v : V} {v' : Value} {n : Str} (r : RelV v v') (f : Str) : RelO (List.lookup f [(n, v)]) (if f = n then some v' else none) := by
  by_cases c : f = n
  · subst c
    rw [if_pos rfl, List.lookup_cons, beq_self_eq_true]
    exact r
  · rw [if_neg c, List.lookup_cons, beq_false_of_ne c]
    trivial
section
variable {X : Cx} {C fI cda cc : Addr} {qual f x : Str} {e : Expr}
/-- x(a), x the class's name -/
def tMkUp (T : Value → Prop) (C : Addr) (f : Str) (ta : TA) : L2.St → Hp → XK → Prop := fun σ H Q => ta σ H fun vs H1 => ∃ v, vs = [v] ∧ (∀ v', RelV v v' → T v') ∧ ∀ d, H1 d = none → Q (.ref C) (some d) (upd H1 d (.xd [(f, v)]))
theorem pmk_up {a : Expr} {ta : TA} {p pos : Pos} {k : Nat} (T : UpTxt X.prog X.K C fI cda cc qual f e) (gC : X.mg x = some (.ref C)) (hr : Room k X.A) (ha : PA X [a] ta) (hg : Gl X x) (hdb : (x == ("__debug__" : Str)) = false := by decide)
    (he : starEach (a :: []) X.env = (false, eval a X.env) :: starEach [] X.env := by rfl) (hpl : (backTo pos (starEach [] X.env)).any (·.1) = false := by rfl) :
    PMk X (.Call (.Name x p) [a] [] pos) (tMkUp (Text X.prog X.w fI cda cc qual f e) C f ta) := by
  intro pins s σ H Q I h
  refine wpAny_Call_Name_kw (ld_glob I hg gC ?_ hdb)
  refine PySem.W.callWith_K (h₀ := X.base) I.ok.mod.kin T.kC (thn (ha.run pos pins s σ H _ I h) fun us s1 hh => ?_) he hpl
  obtain ⟨vs, H1, I1, r1, v, rfl, ht, q1⟩ := hh
  refine ⟨I1.kIn, ?_⟩
  cases r1 with
  | cons rv rn =>
    rename_i v' us'
    cases rn
    show wpAny _ _ (call (.ref C) [v']) _ _ _
    obtain ⟨mb, b1, b2⟩ := I1.mod.blt
    have lim := I1.nolimit
    have glob := I1.mod.glob.keeps I1.bk
    have blt := b1.keeps I1.bk
    have dp := hr.dp
    obtain ⟨hp, g, dr, tk, os⟩ := s1
    refine wpAny_call (up_made T I1.kIn lim glob blt b2 (by omega) (fun A' E s' L m Q _ _ hn hm k => ht v' rv A' E s' L m Q hn hm fun z t t' => k z t s'.heap t' fun _ _ e => e) fun h' tk' a' d M => ?_)
    show MkP X pins σ Q (.ref a') ⟨h', g, dr, tk', os⟩
    obtain ⟨oe, fv, hoe, hc, hd, hdat, one⟩ := M.obj
    obtain ⟨G, in_, out⟩ := restrict h' fun b => decide (b ≠ a')
    have same : ∀ b, b ≠ a' → G.get? b = h'.get? b := fun b hb => in_ b (decide_eq_true hb)
    have gone : G.get? a' = none := out a' (by simp)
    have stay : ∀ b o, hp.get? b = some o → G.get? b = some o := fun b o z => (same b (Nat.ne_of_lt (Nat.lt_of_lt_of_le (Heap.lt_size z) M.new))).trans (M.keep b o z)
    have own : ObjOk X.prog X.w (upd H1 d (.xd [(f, v)])) G d (.xd [(f, v)]) := ⟨_, M.ns.at (fun o z => (same d M.ne).trans z), fun y => relO_up rv y⟩
    have J : Inv X pins σ (upd H1 d (.xd [(f, v)])) ⟨G, g, dr, tk', os⟩ := I1.laid (t' := tk') stay M.big own
    refine ⟨a', oe, fv, ⟨G, g, dr, tk', os⟩, _, .ref C, some d, rfl, J, fun b o z => ?_, gone, hoe, ⟨hc, hd⟩, hdat, one, ?_, rfl, I1.bare, raises_own T.exC T.tyC, q1 d (I1.hok.fresh M.big)⟩
    · have hb : b ≠ a' := fun y => by
        rw [y] at z
        exact absurd (gone.symm.trans z) (by simp)
      exact (same b hb).symm.trans z
    · rw [upd_ne (Ne.symm M.ne)]
      exact I1.hok.fresh M.new
/-- raise x(a) -/
theorem ps_raiseUp {a : Expr} {ta : TA} {W : WX} {p pos pos2 : Pos} {k : Nat} (hc : X.calm = true) (T : UpTxt X.prog X.K C fI cda cc qual f e) (gC : X.mg x = some (.ref C)) (hr : Room k X.A) (tk : Takes X W) (ha : PA X [a] ta) (hg : Gl X x) (hdb : (x == ("__debug__" : Str)) = false := by decide)
    (he : starEach (a :: []) X.env = (false, eval a X.env) :: starEach [] X.env := by rfl) (hpl : (backTo pos (starEach [] X.env)).any (·.1) = false := by rfl) :
    PS X (.Raise (some (.Call (.Name x p) [a] [] pos)) none pos2) (fun _ σ H => tMkUp (Text X.prog X.w fI cda cc qual f e) C f ta σ H fun cls d H' => W cls d σ H') := ps_raise hc tk (pmk_up T gC hr ha hg hdb he hpl)
/-- err.f, err an exception that is kept as a value -/
def tUpGet (C : Addr) (f : Str) (te : TE) : TE := fun σ H Q => te σ H fun x H1 => ∃ (a d : Addr) (v : V), x = .ref a ∧ H1 a = some (KA.ExV (.ref C) (some d) a) ∧ H1 d = some (.xd [(f, v)]) ∧ Q v H1
theorem pe_upGet {o : Expr} {te : TE} {pos : Pos} (T : UpTxt X.prog X.K C fI cda cc qual f e) (he : PE X o te) (hb : attributeBase o f X.env (eval o X.env) = eval o X.env := by rfl) :
    PE X (.Attribute o f pos) (tUpGet C f te) := by
  refine ⟨fun pins s σ H Q I h => ?_⟩
  refine attr_of hb (thn (he.run pins s σ H _ I h) fun u s1 hh => ?_)
  obtain ⟨x, H1, I1, rx, a, d, v, rfl, ha, hd, q⟩ := hh
  obtain rfl : u = Value.ref a := rx
  obtain ⟨⟨oe, got, z, vs, dat⟩, _⟩ := I1.hok a _ ha
  obtain ⟨mA, ns, rel⟩ := I1.hok d _ hd
  obtain ⟨od, at_, look⟩ := lookIn_ns ns
  have l : List.lookup f [(f, v)] = some v := by rw [List.lookup_cons, beq_self_eq_true]
  obtain ⟨u, hu, ru⟩ := RelO.some_of (v := v) (o := mA f) (by rw [← l]; exact rel f)
  have J : PySem.W.InstAt s1.heap a oe C (some od) := ⟨got, z.1, by unfold PySem.W.notCls; rw [dat] <;> rfl, by rw [z.2]; exact at_⟩
  exact HandSPX.exc_get I1.kIn J T.ga T.gg T.exC (PySem.W.findObj_own T.hdC T.noF rfl (by rw [look, hu])) (handed_of ru) ⟨v, H1, I1.tok _, ru, q⟩
end
end KU
namespace KW
open PySem PySem.Spec PyProof.Rows L2 PySem.W LamX
/-! ### a lambda without parameters that is handed on from def to def: it stands as it was made, whoever calls it -/
theorem un_comp {fs gs : List Addr} {H H1 H2 : Hp} {h h1 h2 : Heap} (a : Un fs [] H H1 h h1) (b : Un gs [] H1 H2 h1 h2) (sub : ∀ x ∈ gs, x ∈ fs ∨ h.get? x = none) : Un fs [] H H2 h h2 := by
  have no : ∀ {x : Addr} {o : Obj}, h.get? x = some o → x ∉ fs → x ∉ gs := fun e n z => by
    rcases sub _ z with q | q
    · exact n q
    · rw [q] at e
      cases e
  refine ⟨fun x o e n hx _ => ?_, fun x o e n hx _ => ?_, fun x o e n _ => ?_, fun x o e _ => ?_, fun x xs e => b.tups _ _ (a.tups _ _ e), fun x o u e => b.frzs _ _ _ (a.frzs _ _ _ e), fun x ps e => ?_⟩
  · exact b.keep x o (a.keep x o e n hx (by simp)) (a.free x o e n (by simp)) (no e hx) (by simp)
  · obtain ⟨sl, e1⟩ := a.slot x o e n hx (by simp)
    have n1 := a.free x o e n (by simp)
    by_cases hg : x ∈ gs
    · obtain ⟨sl2, e2⟩ := b.slot x _ e1 n1 hg (by simp)
      exact ⟨sl2, e2⟩
    · exact ⟨sl, b.keep x _ e1 n1 hg (by simp)⟩
  · obtain ⟨o1, e1⟩ := a.there x o e (by simp)
    exact b.free x o1 e1 (a.free x o e n (by simp)) (by simp)
  · obtain ⟨o1, e1⟩ := a.there x o e (by simp)
    exact b.there x o1 e1 (by simp)
  · obtain ⟨m1, e1⟩ := a.tbls x ps e
    obtain ⟨m2, e2⟩ := b.tbls x _ e1
    exact ⟨m1 ++ m2, by rw [e2, Array.append_assoc]⟩
/-- the lambda at f, its code object at c' of the name q, made where the heaps were H0, h0; fs: the frames that ran then; t: what it promises -/
structure Work (P : Program) (w : World) (K : PySem.W.Frag) (mg : Str → Option Value) (base : Heap) (k : Nat) (fs : List Addr) (H0 : Hp) (h0 : Heap) (f c' : Addr) (q : Str) (t : XK → Hp → VK → Prop) : Prop where
  obj : ∃ (params : Arguments) (body : Expr) (scope : Scope) (cl : List (Str × Addr)) (pm ctv : Value), h0.get? f = some (PySem.W.kla_obj "<lambda>" q params body scope cl pm c' ctv)
  free : H0 f = none
  out : f ∉ fs
  run : ∀ (A : Around) (outer : List Env) (s1 : Shared) (HZ : Hp) (Q : VK) (E : XK), Room (k + 1) A → Env0 P w K mg base A outer s1 HZ → Un fs [] H0 HZ h0 s1.heap → HZ c' = some (CodeO c' q) → t E HZ Q →
    codeAny (model P w) A (.call (.ref f) ⟨[], []⟩) (CR (L2.CX P w) outer P w HZ s1 Q E) s1
section
variable {X : Cx} {pins : List (Addr × Obj)} {σ : L2.St} {H : Hp} {s : Shared}
theorem work_of {k : Nat} {f c' : Addr} {pm ctv : Value} {params : Arguments} {body : Expr} {scope : Scope} {tb : XK → TE} (I : Inv X pins σ H s) (L : LamS X.env.scope scope)
    (hf : s.heap.get? f = some (PySem.W.kla_obj "<lambda>" (X.env.qual ++ "<lambda>") params body scope (cloFrom X.env.cells scope.names []) pm c' ctv)) (hfn : H f = none) (hfr : f ∉ frs X.stack)
    (hbind : bindArgs (PySem.W.kla_fn "<lambda>" (X.env.qual ++ "<lambda>") params body scope (cloFrom X.env.cells scope.names []) pm (.ref c') ctv) ⟨[], []⟩ = pure [])
    (hbody : ∀ (A : Around) (outer : List Env) (s1 : Shared) (HZ : Hp) (E : XK), Room k (A.deeper (lamEnv X scope s1.heap.objs.size f c')) → PE (lamCx X A outer s1 HZ E scope f c') body (tb E)) :
    Work X.prog X.w X.K X.mg X.base k (frs X.stack) H s.heap f c' (X.env.qual ++ "<lambda>") (fun E HZ Q => tb E σ HZ Q) := by
  refine ⟨⟨_, _, _, _, _, _, hf⟩, hfn, hfr, fun A outer s1 HZ Q E hr e0 un hc ht => ?_⟩
  have of1 := un.keep f _ hf hfn hfr (by simp)
  obtain ⟨⟨oc, vs, t, hoc, hdc, hvc⟩, _, _⟩ := e0.hok c' _ hc
  have lim : s1.heap.NoLimit := e0.mod.nolimit.keeps fun b o e => (e0.bs b o e).1
  refine PySem.W.kla_callFunE hr.depth of1 rfl L.co L.gen rfl ⟨c', oc, vs, t, rfl, hoc, hdc, hvc⟩ ?_
  rw [hbind]
  refine wpAny_pure (wpAny_newFunctionEnv (fun y hy => (L.own y hy).2) (fun y hy => absurd hy (by simp)) (fun h₁ hns hsb => ⟨lim.fresh _ hsb, ?_⟩) L.kind)
  show codeAny _ _ (.expr body (lamEnv X scope s1.heap.objs.size f c')) _ _
  have kp : ∀ b o, s1.heap.get? b = some o → h₁.get? b = some o := fun b o e => hsb.extBut b o (Nat.ne_of_lt (Heap.lt_size e)) (Heap.get?_push_of_some _ e)
  have J : Inv (lamCx X A outer s1 HZ E scope f c') [] σ HZ { s1 with heap := h₁, toks := s1.toks + ([] : List (Str × Value)).length } := lam_start2 I L e0 hr.hd un hns kp
  refine PySem.W.kla_codeExpr (wpAny_mono ((hbody A outer s1 HZ E (hr.deeper _)).run [] _ _ HZ Q J ht) (fun v s' hq => ?_) fun e s' hq => hq)
  obtain ⟨w', H', J', rv, q⟩ := hq
  exact ⟨w', H', J'.os, J'.bare, J'.base, J'.hok, rv, q⟩
end
section
variable {Z : Cx} {k : Nat} {fs : List Addr} {H0 : Hp} {h0 : Heap} {f c' : Addr} {q : Str} {t : XK → Hp → VK → Prop}
/-- where Z stands to the making -/
structure Since (Z : Cx) (fs : List Addr) (H0 : Hp) (h0 : Heap) : Prop where
  un : Un fs [] H0 Z.H_0 h0 Z.s_0.heap
  sub : ∀ b ∈ Z.fs, b ∈ fs ∨ h0.get? b = none
  ex : Z.ex = []
theorem Since.now {pins : List (Addr × Obj)} {σ : L2.St} {H : Hp} {s : Shared} (S : Since Z fs H0 h0) (I : Inv Z pins σ H s) : Un fs [] H0 H h0 s.heap := by
  have b := I.base
  rw [S.ex] at b
  exact un_comp S.un b S.sub
theorem Since.stk {pins : List (Addr × Obj)} {σ : L2.St} {H : Hp} {s : Shared} (S : Since Z fs H0 h0) (I : Inv Z pins σ H s) : ∀ b ∈ frs Z.stack, b ∈ fs ∨ h0.get? b = none := fun b hb => by
  rcases List.mem_cons.mp (I.stkSub b hb) with e | e
  · refine .inr ?_
    cases z : h0.get? b with
    | none => rfl
    | some o =>
      obtain ⟨o', z'⟩ := S.un.there b o z (by simp)
      have l := Heap.lt_size z'
      have a := I.ok.above
      rw [e] at l
      exact absurd l (Nat.not_lt.mpr a)
  · exact S.sub b e
/-- the slot's name is called: a work stands in it -/
theorem pe_work {i : Nat} {a : Str} {E : XK} {p1 p2 : Pos} (Wk : Work Z.prog Z.w Z.K Z.mg Z.base k fs H0 h0 f c' q t) (S : Since Z fs H0 h0) (hx : Passes (L2.CX Z.prog Z.w) Z E) (hr : Room (k + 1) Z.A) (hN : Z.N[i]? = some a) (hv : Vis Z.env.scope a)
    (hd : (a == ("__debug__" : Str)) = false := by decide) (hcd : (a == ("__classdict__" : Str)) = false := by decide) :
    PE Z (.Call (.Name a p1) [] [] p2) (fun σ H Q => σ[i]? = some (some (.ref f)) ∧ H c' = some (CodeO c' q) ∧ t E H Q) := by
  refine ⟨fun pins s σ H Q I h => ?_⟩
  obtain ⟨hs, hc, ht⟩ := h
  refine wpAny_Call_Name_kw (thn ((pe_var (pos := p1) (i := i) hN hv hd hcd).run pins s σ H (fun v H1 => v = .ref f ∧ H1 = H) I ⟨.ref f, hs, rfl, rfl⟩) fun u s1 ⟨v, H1, I1, r1, q1⟩ => ?_)
  obtain ⟨ev, eH⟩ := q1
  subst ev
  rw [eH] at I1
  obtain rfl : u = Value.ref f := r1
  obtain ⟨_, _, _, _, _, _, ob⟩ := Wk.obj
  have un := S.now I1
  have of1 := un.keep f _ ob Wk.free Wk.out (by simp)
  refine PySem.W.callWith_F0 ⟨_, _, _, _, of1⟩ ?_
  refine wpAny_call (codeAny_mono (Wk.run Z.A Z.stack s1 H Q E hr I1.env0 un hc ht) fun r s' hq => ?_)
  match r, hq with
  | .error e, hq => exact hx pins σ H s1 e s' I1 hq
  | .ok (.ret u), hq => exact I1.after hq
  | .ok .next, hq => exact False.elim hq
  | .ok .brk, hq => exact False.elim hq
  | .ok .cont, hq => exact False.elim hq
end
/-- the promise of a def that a work is handed to -/
structure FnW (P : Program) (w : World) (K : PySem.W.Frag) (mg : Str → Option Value) (base : Heap) (fs : List Addr) (H0 : Hp) (h0 : Heap) (CX : CXT) (k : Nat) (g : Addr) (fd : FuncData) (ps : List Str) (sp : Sp) : Prop where
  len : ∀ vs H Q E, sp vs H Q E → vs.length = ps.length
  run : ∀ (A : Around) (outer : List Env) (s : Shared) (H : Hp) (args : Args) (us : List Value) (vs : List V) (Q : VK) (E : XK), Room k A → A.guards = some [] → Env0 P w K mg base A outer s H → Un fs [] H0 H h0 s.heap → (∀ b ∈ frs outer, b ∈ fs ∨ h0.get? b = none) →
    BindsTo s fd args (ps.zip us) → Vals vs us → sp vs H Q E → codeAny (model P w) A (.call (.ref g) args) (CR CX outer P w H s Q E) s
theorem fnW_of {CX : CXT} {P : Program} {w : World} {K : PySem.W.Frag} {mg : Str → Option Value} {base : Heap} {fs : List Addr} {H0 : Hp} {h0 : Heap} {k : Nat} {f : Addr} {x qual : Str} {st : Stmt} {fd : FuncData} {N ps : List Str} {sp : Sp} (F : Fun K x qual st f fd) (S : FnScope N ps (defScope st))
    (len : ∀ vs H Q E, sp vs H Q E → vs.length = ps.length)
    (hbody : ∀ (cdv : Value) (A : Around) (outer : List Env) (s : Shared) (H : Hp) (vs : List V) (Q : VK) (E : XK), Room k (A.deeper (envOfC qual (defScope st) s.heap.objs.size f cdv)) → A.guards = some [] → Since (cxOf CX P w K mg base N qual (defScope st) f cdv A outer s H E) fs H0 h0 → sp vs H Q E →
      ∃ t, PSs (cxOf CX P w K mg base N qual (defScope st) f cdv A outer s H E) (defBody st) t ∧ t { nx := fun _ H' => Q .non H', rt := Q } (L2.start N vs) H) : FnW P w K mg base fs H0 h0 CX (k + 1) f fd ps sp := by
  obtain ⟨oc, od, kV, doc, pm, an, cdv, ct, osl, rfl, lk, hcd⟩ := F.ex
  exact ⟨len, fun A outer s H args us vs Q E hr hgd e0 un sub hb r h => run_ofS lk hcd S hr e0 hb r (len _ _ _ _ h) fun hr' => hbody cdv A outer s H vs Q E hr' hgd ⟨un, sub, rfl⟩ h⟩
section
variable {Z : Cx} {CX : CXT} {k : Nat} {fs : List Addr} {H0 : Hp} {h0 : Heap} {g : Addr} {fd : FuncData} {ps : List Str} {sp : Sp} {E : XK} {x : Str} {p pos : Pos} {e : Expr} {es : List Expr} {t : TA}
/-- x(a, ..) in a def that the work has been handed to, handed on -/
theorem pe_wcall (F : FnW Z.prog Z.w Z.K Z.mg Z.base fs H0 h0 CX k g fd ps sp) (S : Since Z fs H0 h0) (hr : Room k Z.A) (hgd : Z.A.guards = some []) (hg : Gl Z x) (hm : Z.mg x = some (.ref g)) (hk : PySem.W.keepIn Z.K (.ref g) = true) (hb : Binds Z.K fd ps []) (hx : Passes CX Z E) (ha : PA Z (e :: es) t)
    (hdb : (x == ("__debug__" : Str)) = false := by decide) (he : starEach (e :: es) Z.env = (false, eval e Z.env) :: starEach es Z.env := by rfl) (hpl : (backTo pos (starEach es Z.env)).any (·.1) = false := by rfl) :
    PE Z (.Call (.Name x p) (e :: es) [] pos) (tCall sp [] E t) := by
  refine ⟨fun pins s σ H Q I h => ?_⟩
  refine wpAny_Call_Name_kw (ld_glob I hg hm ?_ hdb)
  refine PySem.W.callWith_K (h₀ := Z.base) I.ok.mod.kin hk (thn (ha.run pos pins s σ H _ I h) fun us s1 ⟨vs, H1, I1, r, q⟩ => ⟨I1.kIn, ?_⟩) he hpl
  have q : sp (vs ++ []) H1 Q E := q
  rw [List.append_nil] at q
  have hl : us.length = ps.length := by rw [← r.length]; exact F.len _ _ _ _ q
  have bt := hb s1 us I1.kIn (by simpa using hl)
  rw [List.append_nil] at bt
  refine wpAny_call (codeAny_mono (F.run Z.A Z.stack s1 H1 ⟨us, []⟩ us vs Q E hr hgd I1.env0 (S.now I1) (S.stk I1) bt r q) fun rr s' hq => ?_)
  match rr, hq with
  | .error e, hq => exact hx pins σ H1 s1 e s' I1 hq
  | .ok (.ret u), hq => exact I1.after hq
  | .ok .next, hq => exact False.elim hq
  | .ok .brk, hq => exact False.elim hq
  | .ok .cont, hq => exact False.elim hq
end
section
variable {X : Cx} {T : List (Addr × Str)} {CX : CXT} {kb k : Nat} {g c P : Addr} {fd : FuncData} {ps : List Str} {E : XK} {x : Str} {params : Arguments} {body : Expr} {scope : Scope} {t : XK → TE} {p lpos pos : Pos} {es : List Expr} {ta : TA} {sp : Addr → Addr → (XK → Hp → VK → Prop) → Sp}
/-- x(lambda: body, ..), x a def that hands it on -/
theorem pe_lamW (FW : ∀ (H0 : Hp) (h0 : Heap) (f c' : Addr) (t' : XK → Hp → VK → Prop), Work X.prog X.w X.K X.mg X.base kb (frs X.stack) H0 h0 f c' (X.env.qual ++ "<lambda>") t' → FnW X.prog X.w X.K X.mg X.base (frs X.stack) H0 h0 CX k g fd ps (sp f c' t'))
    (hg : Gl X x) (hm : X.mg x = some (.ref g)) (hk : PySem.W.keepIn X.K (.ref g) = true) (hb : Binds X.K fd ps []) (hx : Passes CX X E) (hr : Room k X.A) (hgd : X.A.guards = some []) (TB : TabB X.base X.mg c P) (hcode : X.env.code = .ref c) (hmT : (P, X.env.qual ++ "<lambda>") ∈ T) (hu : ∀ p ∈ T, p.1 = P → p.2 = X.env.qual ++ "<lambda>")
    (L : LamS X.env.scope scope) (hdef : defaultsOf params X.env = ([], [])) (hbind : ∀ (q : Str) (cl : List (Str × Addr)) (pm cv ctv : Value), bindArgs (PySem.W.kla_fn "<lambda>" q params body scope cl pm cv ctv) ⟨[], []⟩ = pure [])
    (hbody : ∀ (A : Around) (outer : List Env) (s : Shared) (H : Hp) (E : XK) (f c' : Addr), Room kb (A.deeper (lamEnv X scope s.heap.objs.size f c')) → PE (lamCx X A outer s H E scope f c') body (t E)) (ha : PA X es ta)
    (hdb : (x == ("__debug__" : Str)) = false := by decide) (he : starEach (.Lambda params body scope lpos :: es) X.env = (false, eval (.Lambda params body scope lpos) X.env) :: starEach es X.env := by rfl) (hpl : (backTo pos (starEach es X.env)).any (·.1) = false := by rfl) :
    PE X (.Call (.Name x p) (.Lambda params body scope lpos :: es) [] pos) (fun σ H Q => Tabs T H ∧ ∀ H1, ExtN H H1 → Tabs T H1 → ∀ f c' : Addr, H1 c' = some (CodeO c' (X.env.qual ++ "<lambda>")) →
      ta σ H1 fun vs H2 => sp f c' (fun E H Q => t E σ H Q) (.ref f :: vs) H2 Q E) := by
  refine ⟨fun pins s σ H Q I h => ?_⟩
  obtain ⟨hT, h⟩ := h
  refine wpAny_Call_Name_kw (ld_glob I hg hm ?_ hdb)
  refine PySem.W.callWith_K (h₀ := X.base) I.ok.mod.kin hk ?_ he hpl
  rw [he]
  show wpAny _ _ (spliced ((false, eval (.Lambda params body scope lpos) X.env) :: backTo pos (starEach es X.env))) _ _ s
  refine Calls.spliced_cons (lam_make2 I TB hcode hmT hu hT hdef (L.has I.ok) fun f c' pm' ctv H1 s' I1 eN T1 hf hfn hfr hco => ?_)
  have fl : f ≠ X.env.locals := fun z => by
    obtain ⟨m, ⟨o, es', ep, e1, e2, _⟩, _⟩ := I1.loc
    rw [← z, hf] at e1
    cases e1
    cases e2
  have ff : f ∉ X.fs := fun z => hfr (by
    rcases I1.ok.stk with q | ⟨q, _⟩
    · rw [q]
      exact z
    · rw [q]
      obtain ⟨e, he', q'⟩ := List.mem_filterMap.mp z
      exact List.mem_filterMap.mpr ⟨e, List.mem_cons_of_mem _ he', q'⟩)
  have J1 : Inv X ((f, PySem.W.kla_obj "<lambda>" (X.env.qual ++ "<lambda>") params body scope (cloFrom X.env.cells scope.names []) pm' c' ctv) :: pins) σ H1 s' := I1.pins_of fun q hq => by
    rcases List.mem_cons.mp hq with z | z
    · rw [z]
      exact ⟨hf, hfn, fl, ff, fun v y => by cases y⟩
    · exact I1.pin q (List.mem_append_right _ z)
  refine thn (ha.run pos _ s' σ H1 _ J1 (h H1 eN T1 f c' hco)) fun us s2 ⟨vs, H2, J2, r, q⟩ => ⟨J2.kIn, ?_⟩
  have at2 := J2.pin (f, _) (List.mem_append_right _ List.mem_cons_self)
  have I2 : Inv X pins σ H2 s2 := J2.pins_of fun q hq => J2.pin q (List.mem_append_right _ (List.mem_cons_of_mem _ hq))
  have Wk := work_of (tb := t) I2 L at2.1 at2.2.1 hfr (hbind _ _ _ _ _) (fun A outer s1 HZ E hr2 => hbody A outer s1 HZ E f c' hr2)
  have F := FW H2 s2.heap f c' _ Wk
  have r2 : Vals (.ref f :: vs) (.ref f :: us) := .cons rfl r
  have hl : (Value.ref f :: us).length = ps.length := by rw [← r2.length]; exact F.len _ _ _ _ q
  have bt := hb s2 (.ref f :: us) I2.kIn (by simpa using hl)
  rw [List.append_nil] at bt
  refine wpAny_call (codeAny_mono (F.run X.A X.stack s2 H2 ⟨.ref f :: us, []⟩ (.ref f :: us) (.ref f :: vs) Q E hr hgd I2.env0 (Un.kept fun _ _ z => z) (fun b hb => .inl hb) bt r2 q) fun rr s3 hq => ?_)
  match rr, hq with
  | .error e, hq => exact hx pins σ H2 s2 e s3 I2 hq
  | .ok (.ret u), hq => exact I2.after hq
  | .ok .next, hq => exact False.elim hq
  | .ok .brk, hq => exact False.elim hq
  | .ok .cont, hq => exact False.elim hq
end
end KW
namespace KA
open PySem PySem.Spec PyProof.Rows L2 PySem.W LamX KW
/-- isinstance of an exception that is kept as a value, with fields of its own -/
def rIsD (K : PySem.W.Frag) : List V → Hp → VK → Prop := fun xs H Q => ∃ (a D d : Addr) (fs : List (Str × V)) (c : V) (cv : Value) (b : Bool), xs = [.ref a, c] ∧ H a = some (ExV (.ref D) (some d) a) ∧ H d = some (.xd fs) ∧ ExcC K D ∧ ClsV c cv ∧ PySem.W.kitOne K (.ref D) cv = some b ∧ Q (.bl b) H
def rIs3 (K : PySem.W.Frag) : List V → Hp → VK → Prop := fun xs H Q => rIs2 K xs H Q ∨ rIsD K xs H Q
section
variable {X : Cx}
theorem call_isD : CallR X (.builtin "isinstance") (rIsD X.K) := by
  intro pins s σ H xs us Q I r h
  obtain ⟨a, D, d, fs, c, cv, b, rfl, ha, hd, C, k, e, q⟩ := h
  obtain ⟨u1, u2, rfl, r1, r2⟩ := vals2 r
  cases k.eq r2
  obtain rfl : u1 = Value.ref a := r1
  obtain ⟨⟨oe, at1, z, vs, dat⟩, _⟩ := I.hok a _ ha
  obtain ⟨mA, ns, _⟩ := I.hok d _ hd
  obtain ⟨od, at2, _⟩ := lookIn_ns ns
  have J : PySem.W.InstAt s.heap a oe D (some od) := ⟨at1, z.1, by unfold PySem.W.notCls; rw [dat] <;> rfl, by rw [z.2]; exact at2⟩
  obtain ⟨cd, hc, _⟩ := any_some C.hd
  exact PySem.W.kia_one (kitx_exc (by rw [hc]; rfl) C.hg C.hk C.hs C.ha C.hn C.ht C.hm) I.kIn J e (fun z => nomatch z) fun tk => ⟨.bl b, H, I.tok tk, rfl, q⟩
theorem call_is3 : CallR X (.builtin "isinstance") (rIs3 X.K) := by
  intro pins s σ H xs us Q I r h
  rcases h with h | h
  · exact call_is2 pins s σ H xs us Q I r h
  · exact call_isD pins s σ H xs us Q I r h
end
/-- caught, of a work that was handed on: at f, its code object at c' -/
def spCaughtW (K : PySem.W.Frag) (CS : Addr) (f c' : Addr) (q : Str) (t : XK → Hp → VK → Prop) : Sp := fun vs H Q _ => vs = [.ref f] ∧ H c' = some (CodeO c' q) ∧ TCaught K CS t H Q
theorem caught_work {P : Program} {w : World} {K : PySem.W.Frag} {mg : Str → Option Value} {base : Heap} {fs : List Addr} {H0 : Hp} {h0 : Heap} {k : Nat} {f c' : Addr} {q : Str} {t : XK → Hp → VK → Prop} {g : Addr} {fd : FuncData} {x a e n m : Str} {st : Stmt} {CS : Addr} {j1 : Nat} {p1 p2 p3 p4 p5 p6 p7 p8 p9 pa pb pc pd pe : Pos}
    (Wk : Work P w K mg base k fs H0 h0 f c' q t) (F : Fun K x x st g fd) (S : FnScope [a, m, n] [a] (defScope st))
    (hb : defBody st = [.Assign [.Name m p1] (.Constant .none j1 p2) p3,
       .Try [.Expr (.Call (.Name a p4) [] [] p5) p6] [.ExceptHandler (some (.Name e p7)) (some n) [.Assign [.Name m p8] (.Name n p9) pa] pb] [] [] pc,
       .Return (some (.Name m pd)) pe])
    (la : (defScope st).names.lookup a = some .local) (lm : (defScope st).names.lookup m = some .local) (ln : (defScope st).names.lookup n = some .local) (he : (defScope st).names.lookup e = some .globalImplicit) (hme : mg e = some (.ref CS)) (hde : (e == ("__debug__" : Str)) = false)
    (d0 : (a == ("__debug__" : Str)) = false) (d00 : (a == ("__classdict__" : Str)) = false) (d1 : (n == ("__debug__" : Str)) = false) (d2 : (n == ("__classdict__" : Str)) = false) (d3 : (m == ("__debug__" : Str)) = false) (d4 : (m == ("__classdict__" : Str)) = false) :
    FnW P w K mg base fs H0 h0 (L2.CX P w) (k + 2) g fd [a] (spCaughtW K CS f c' q t) := by
  refine fnW_of F S (fun vs H Q E h => by rw [h.1]; rfl) (fun cdv A outer s H vs Q E hr _ Sn h => ?_)
  obtain ⟨rfl, hc, hT⟩ := h
  rw [hb]
  refine ⟨_, pss_cons (ps_set (i := 1) S.nd rfl (.inl lm) pe_non) (pss_cons (ps_try_keep (c := .ref CS) (i := 2) (j := 1)
      (tb := fun W D σ H => ∃ Eb : XK, (∀ cls d σ' H', Eb cls d H' → W cls d σ' H') ∧ σ[0]? = some (some (.ref f)) ∧ H c' = some (CodeO c' q) ∧ t Eb H (fun _ H' => D.nx σ H'))
      rfl rfl rfl S.nd rfl rfl ln lm ⟨he, hde, .inl hme⟩ d1 d2 (fun W pn xe tk _ => ?_))
    (pss_one (ps_ret (pe_var (i := 1) rfl (.inl lm) d3 d4)))), ?_⟩
  · refine ⟨fun pins s' σ H' D I h' => ?_⟩
    obtain ⟨Eb, wish, h1, h2, h3⟩ := h'
    exact (pss_one (ps_expr (pe_work (Z := (cxOf (L2.CX P w) P w K mg base [a, m, n] x (defScope st) g cdv A outer s H E).tr pn xe) (i := 0) Wk ⟨Sn.un, Sn.sub, Sn.ex⟩ (passes_call tk wish) hr rfl (.inl la) d0 d00))).run pins s' σ H' D I ⟨h1, h2, h3⟩
  · refine ⟨fun cls d H' => PySem.W.exmOne K cls (.ref CS) = some true ∧ ∀ b, H' b = none → Q (.ref b) (upd H' b (ExV cls d b)), fun cls d σ' H' ⟨e1, e2⟩ => ⟨e1, fun b hb hl => ?_⟩, rfl, hc, ?_⟩
    · match σ', hl with
      | [u, v, z], _ => exact ⟨_, rfl, e2 b hb⟩
    · exact hT _ fun v H' z => ⟨_, rfl, z⟩
end KA
namespace KL
open PySem PySem.Spec PyProof.Rows L2 PySem.W LamX KA KW
/-! ### a lambda without parameters as a value: kept in a list, a local name, and called later by a def it is handed to -/
/-- the lambda at f, its code object at c', as the def with the frame env made it -/
def LamO (env : Env) (params : Arguments) (body : Expr) (scope : Scope) (f c' : Addr) : HO :=
  .ext fun h => ∃ pm ctv : Value, h.get? f = some (PySem.W.kla_obj "<lambda>" (env.qual ++ "<lambda>") params body scope (cloFrom env.cells scope.names []) pm c' ctv)
theorem lamO_tbl {env : Env} {params : Arguments} {body : Expr} {scope : Scope} {f c' : Addr} (ps : Array Value) : LamO env params body scope f c' ≠ .tbl ps := fun z => by
  unfold LamO at z
  cases z
theorem lamO_lst {env : Env} {params : Arguments} {body : Expr} {scope : Scope} {f c' : Addr} (xs : List V) : LamO env params body scope f c' ≠ .lst xs := fun z => by
  unfold LamO at z
  cases z
section
variable {X : Cx} {pins : List (Addr × Obj)} {σ : L2.St} {H : Hp} {s : Shared}
theorem laidLam {env : Env} {params : Arguments} {body : Expr} {scope : Scope} {c' : Addr} {pm ctv : Value} {h' : Heap} {tk : Nat} (I : Inv X pins σ H { s with heap := h', toks := tk }) :
    Inv X pins σ (upd H h'.objs.size (LamO env params body scope h'.objs.size c')) { s with heap := h'.push (PySem.W.kla_obj "<lambda>" (env.qual ++ "<lambda>") params body scope (cloFrom env.cells scope.names []) pm c' ctv), toks := tk } :=
  I.laid (t' := tk) (fun b o e => Heap.get?_push_of_some _ e) (Nat.le_refl _) ⟨⟨pm, ctv, Heap.get?_push_size _ rfl⟩, ⟨_, Heap.get?_push_size _ rfl⟩, fun h1 h2 ⟨a, b, e⟩ st => ⟨a, b, st _ e⟩⟩
/-- it is made: a value of the heap -/
theorem lam_valF {T : List (Addr × Str)} {c P : Addr} {params : Arguments} {body : Expr} {scope : Scope} {pos : Pos} {E Q : Value → Shared → Prop} (I : Inv X pins σ H s) (TB : TabB X.base X.mg c P) (hcode : X.env.code = .ref c)
    (mem : (P, X.env.qual ++ "<lambda>") ∈ T) (one : ∀ p ∈ T, p.1 = P → p.2 = X.env.qual ++ "<lambda>") (hT : Tabs T H) (hdef : defaultsOf params X.env = ([], [])) (hfree : ∀ y ∈ scope.names, y.2 = .free → ∃ c, X.env.cells.lookup y.1 = some c)
    (k : ∀ (f c' : Addr) (H1 : Hp) (s' : Shared), ExtN H H1 → Tabs T H1 → H1 f = none → H1 c' = some (CodeO c' (X.env.qual ++ "<lambda>")) → Inv X pins σ (upd H1 f (LamO X.env params body scope f c')) s' → Q (.ref f) s') :
    wpAny (model X.prog X.w) X.A (eval (.Lambda params body scope pos) X.env) Q E s := by
  obtain ⟨tb, atP, tri, amg⟩ := hT _ mem
  have clo := closure_ok hfree
  have glob := I.mod.glob.keeps I.bk
  have code := TB.code.keeps I.bk
  have raw : s.heap.get? P = some { cls := .none, data := .fields tb } := I.hok P _ atP
  have bm := TB.bm.keeps I.bk
  refine PySem.W.kla_eval hdef ?_
  cases found : codeAmong pos tb.toList with
  | some cv =>
    obtain ⟨c', rfl, hco⟩ := amg pos cv found
    refine PySem.W.kla_makeFunctionHit clo I.ok.glob glob hcode code raw tri found bm ?_
    intro ctv h' tk hx hsz
    have J : Inv X pins σ H { s with heap := h', toks := tk } := I.kept fun b o e => hx b o e
    exact k _ c' H _ (ExtN.refl H) hT (I.hok.fresh hsz) hco (laidLam J)
  | none =>
    refine PySem.W.kla_makeFunction clo I.ok.glob glob hcode code raw tri found TB.gP bm ?_
    intro c' ctv h' tk hx hge hlt rec tbl
    obtain ⟨c2, oc, vs, t, ec, hoc, hd, hv⟩ := rec
    cases ec
    have free : H c' = none := I.hok.fresh hge
    have ne : P ≠ c' := ne_of_none atP free
    have J := inv_table (t' := tk) (more := #[rawInt pos.line, rawInt pos.col, .ref c']) (h' := h') I atP hx tbl hge ⟨oc, vs, t, hoc, hd, hv⟩
    generalize hH : upd (upd H P (.tbl (tb ++ #[rawInt pos.line, rawInt pos.col, .ref c']))) c' (CodeO c' (X.env.qual ++ "<lambda>")) = H1 at J
    have at1 : H1 c' = some (CodeO c' (X.env.qual ++ "<lambda>")) := by rw [← hH, upd_same]
    have at2 : H1 P = some (.tbl (tb ++ #[rawInt pos.line, rawInt pos.col, .ref c'])) := by rw [← hH, upd_ne ne, upd_same]
    have at3 : ∀ b, b ≠ P → b ≠ c' → H1 b = H b := fun b h1 h2 => by rw [← hH, upd_ne h2, upd_ne h1]
    have ext : ExtN H H1 := fun b o e n => by
      rw [at3 b (fun z => n tb (Option.some.inj (e.symm.trans (z ▸ atP)))) (ne_of_none e free)]
      exact e
    have eL : (tb ++ #[rawInt pos.line, rawInt pos.col, .ref c']).toList = tb.toList ++ [rawInt pos.line, rawInt pos.col, .ref c'] := by simp
    refine k _ c' H1 _ ext (fun p hp => ?_) (J.hok.fresh (Nat.le_refl _)) at1 (laidLam J)
    by_cases hb : p.1 = P
    · rw [one p hp hb, hb]
      refine ⟨_, at2, eL ▸ PySem.TriplesOk_snoc _ _ _ _ tri, fun p' cv hcv => ?_⟩
      rw [eL] at hcv
      cases among_app _ tri hcv with
      | inl z =>
        obtain ⟨c0, e1, e2⟩ := amg p' cv z
        exact ⟨c0, e1, ext _ _ e2 codeO_ne⟩
      | inr z => exact ⟨c', z, at1⟩
    · obtain ⟨ps', a1, a2, a3⟩ := hT p hp
      refine ⟨ps', (at3 p.1 hb (ne_of_none a1 free)).trans a1, a2, fun p' cv hcv => ?_⟩
      obtain ⟨c0, e1, e2⟩ := a3 p' cv hcv
      exact ⟨c0, e1, ext _ _ e2 codeO_ne⟩
end
def tLamV (T : List (Addr × Str)) (env : Env) (params : Arguments) (body : Expr) (scope : Scope) : TE := fun _ H Q => Tabs T H ∧ ∀ H1, ExtN H H1 → Tabs T H1 → ∀ f c' : Addr, H1 f = none → H1 c' = some (CodeO c' (env.qual ++ "<lambda>")) → Q (.ref f) (upd H1 f (LamO env params body scope f c'))
theorem pe_lamV {X : Cx} {T : List (Addr × Str)} {c P : Addr} {params : Arguments} {body : Expr} {scope : Scope} {pos : Pos} (TB : TabB X.base X.mg c P) (hcode : X.env.code = .ref c) (mem : (P, X.env.qual ++ "<lambda>") ∈ T) (one : ∀ p ∈ T, p.1 = P → p.2 = X.env.qual ++ "<lambda>")
    (L : LamS X.env.scope scope) (hdef : defaultsOf params X.env = ([], [])) : PE X (.Lambda params body scope pos) (tLamV T X.env params body scope) := by
  refine ⟨fun pins s σ H Q I h => ?_⟩
  obtain ⟨hT, h⟩ := h
  exact lam_valF I TB hcode mem one hT hdef (L.has I.ok) fun f c' H1 s' ext T1 fr co J => ⟨.ref f, _, J, rfl, h H1 ext T1 f c' fr co⟩
/-- the same, of a lambda with names of its own, which uses none of the def's -/
theorem pe_lamVF {X : Cx} {T : List (Addr × Str)} {c P : Addr} {params : Arguments} {body : Expr} {scope : Scope} {pos : Pos} (TB : TabB X.base X.mg c P) (hcode : X.env.code = .ref c) (mem : (P, X.env.qual ++ "<lambda>") ∈ T) (one : ∀ p ∈ T, p.1 = P → p.2 = X.env.qual ++ "<lambda>")
    (hn : ∀ y ∈ scope.names, y.2 ≠ .free) (hdef : defaultsOf params X.env = ([], [])) : PE X (.Lambda params body scope pos) (tLamV T X.env params body scope) := by
  refine ⟨fun pins s σ H Q I h => ?_⟩
  obtain ⟨hT, h⟩ := h
  exact lam_valF I TB hcode mem one hT hdef (fun y hy e => absurd e (hn y hy)) fun f c' H1 s' ext T1 fr co J => ⟨.ref f, _, J, rfl, h H1 ext T1 f c' fr co⟩
/-- what is known of a lambda that was handed on: pre tells that it stands, t what its call promises -/
structure WorkL (P : Program) (w : World) (K : PySem.W.Frag) (mg : Str → Option Value) (base : Heap) (k : Nat) (fs : List Addr) (H0 : Hp) (h0 : Heap) (f : Addr) (pre : Hp → Prop) (t : XK → Hp → VK → Prop) : Prop where
  fn : ∀ (HZ : Hp) (h1 : Heap), HOk P w HZ h1 → pre HZ → ∃ (qual : Str) (params : Arguments) (body : Expr) (scope : Scope) (cl : List (Str × Addr)) (pm : Value) (c' : Addr) (ctv : Value), h1.get? f = some (PySem.W.kla_obj "<lambda>" qual params body scope cl pm c' ctv)
  run : ∀ (A : Around) (outer : List Env) (s1 : Shared) (HZ : Hp) (Q : VK) (E : XK), Room (k + 1) A → Env0 P w K mg base A outer s1 HZ → Un fs [] H0 HZ h0 s1.heap → pre HZ → t E HZ Q →
    codeAny (model P w) A (.call (.ref f) ⟨[], []⟩) (CR (L2.CX P w) outer P w HZ s1 Q E) s1
section
variable {X : Cx} {pins : List (Addr × Obj)} {σ : L2.St} {H : Hp} {s : Shared}
theorem work_ofL {k : Nat} {f c' : Addr} {params : Arguments} {body : Expr} {scope : Scope} {tb : XK → TE} (I : Inv X pins σ H s) (L : LamS X.env.scope scope)
    (hbind : ∀ (q : Str) (cl : List (Str × Addr)) (pm cv ctv : Value), bindArgs (PySem.W.kla_fn "<lambda>" q params body scope cl pm cv ctv) ⟨[], []⟩ = pure [])
    (hbody : ∀ (A : Around) (outer : List Env) (s1 : Shared) (HZ : Hp) (E : XK), Room k (A.deeper (lamEnv X scope s1.heap.objs.size f c')) → PE (lamCx X A outer s1 HZ E scope f c') body (tb E)) :
    WorkL X.prog X.w X.K X.mg X.base k (frs X.stack) H s.heap f (fun HZ => HZ f = some (LamO X.env params body scope f c') ∧ HZ c' = some (CodeO c' (X.env.qual ++ "<lambda>"))) (fun E HZ Q => tb E σ HZ Q) := by
  refine ⟨fun HZ h1 ok pre => ?_, fun A outer s1 HZ Q E hr e0 un pre ht => ?_⟩
  · obtain ⟨⟨pm, ctv, e⟩, _⟩ := ok f _ pre.1
    exact ⟨_, _, _, _, _, _, _, _, e⟩
  · obtain ⟨pf, pc⟩ := pre
    obtain ⟨⟨pm, ctv, of1⟩, _⟩ := e0.hok f _ pf
    obtain ⟨⟨oc, vs, t, hoc, hdc, hvc⟩, _⟩ := e0.hok c' _ pc
    have lim : s1.heap.NoLimit := e0.mod.nolimit.keeps fun b o e => (e0.bs b o e).1
    refine PySem.W.kla_callFunE hr.depth of1 rfl L.co L.gen rfl ⟨c', oc, vs, t, rfl, hoc, hdc, hvc⟩ ?_
    rw [hbind]
    refine wpAny_pure (wpAny_newFunctionEnv (fun y hy => (L.own y hy).2) (fun y hy => absurd hy (by simp)) (fun h₁ hns hsb => ⟨lim.fresh _ hsb, ?_⟩) L.kind)
    show codeAny _ _ (.expr body (lamEnv X scope s1.heap.objs.size f c')) _ _
    have keep : ∀ b o, s1.heap.get? b = some o → h₁.get? b = some o := fun b o e => hsb.extBut b o (Nat.ne_of_lt (Heap.lt_size e)) (Heap.get?_push_of_some _ e)
    have J : Inv (lamCx X A outer s1 HZ E scope f c') [] σ HZ { s1 with heap := h₁, toks := s1.toks + ([] : List (Str × Value)).length } := lam_start2 I L e0 hr.hd un hns keep
    refine PySem.W.kla_codeExpr (wpAny_mono ((hbody A outer s1 HZ E (hr.deeper _)).run [] _ _ HZ Q J ht) (fun v s' hq => ?_) fun e s' hq => hq)
    obtain ⟨w', H', J', rv, q⟩ := hq
    exact ⟨w', H', J'.os, J'.bare, J'.base, J'.hok, rv, q⟩
end
section
variable {Z : Cx} {k : Nat} {fs : List Addr} {H0 : Hp} {h0 : Heap} {f : Addr} {pre : Hp → Prop} {t : XK → Hp → VK → Prop}
theorem pe_workL {i : Nat} {a : Str} {E : XK} {p1 p2 : Pos} (Wk : WorkL Z.prog Z.w Z.K Z.mg Z.base k fs H0 h0 f pre t) (S : Since Z fs H0 h0) (hx : Passes (L2.CX Z.prog Z.w) Z E) (hr : Room (k + 1) Z.A) (hN : Z.N[i]? = some a) (hv : Vis Z.env.scope a)
    (hd : (a == ("__debug__" : Str)) = false := by decide) (hcd : (a == ("__classdict__" : Str)) = false := by decide) :
    PE Z (.Call (.Name a p1) [] [] p2) (fun σ H Q => σ[i]? = some (some (.ref f)) ∧ pre H ∧ t E H Q) := by
  refine ⟨fun pins s σ H Q I h => ?_⟩
  obtain ⟨hs, hp, ht⟩ := h
  refine wpAny_Call_Name_kw (thn ((pe_var (pos := p1) (i := i) hN hv hd hcd).run pins s σ H (fun v H1 => v = .ref f ∧ H1 = H) I ⟨.ref f, hs, rfl, rfl⟩) fun u s1 ⟨v, H1, I1, r1, q1⟩ => ?_)
  obtain ⟨rfl, rfl⟩ := q1
  obtain rfl : u = Value.ref f := r1
  obtain ⟨_, _, _, _, _, _, _, _, ob⟩ := Wk.fn H1 s1.heap I1.hok hp
  refine PySem.W.callWith_F0 ⟨_, _, _, _, ob⟩ ?_
  refine wpAny_call (codeAny_mono (Wk.run Z.A Z.stack s1 H1 Q E hr I1.env0 (S.now I1) hp ht) fun r s' hq => ?_)
  match r, hq with
  | .error e, hq => exact hx pins σ H1 s1 e s' I1 hq
  | .ok (.ret u), hq => exact I1.after hq
  | .ok .next, hq => exact False.elim hq
  | .ok .brk, hq => exact False.elim hq
  | .ok .cont, hq => exact False.elim hq
end
/-- caught, of such a lambda -/
def spCaughtL (K : PySem.W.Frag) (CS : Addr) (f : Addr) (pre : Hp → Prop) (t : XK → Hp → VK → Prop) : Sp := fun vs H Q _ => vs = [.ref f] ∧ pre H ∧ TCaught K CS t H Q
theorem caught_workL {P : Program} {w : World} {K : PySem.W.Frag} {mg : Str → Option Value} {base : Heap} {fs : List Addr} {H0 : Hp} {h0 : Heap} {k : Nat} {f : Addr} {pre : Hp → Prop} {t : XK → Hp → VK → Prop} {g : Addr} {fd : FuncData} {x a e n m : Str} {st : Stmt} {CS : Addr} {j1 : Nat} {p1 p2 p3 p4 p5 p6 p7 p8 p9 pa pb pc pd pe : Pos}
    (Wk : WorkL P w K mg base k fs H0 h0 f pre t) (F : Fun K x x st g fd) (S : FnScope [a, m, n] [a] (defScope st))
    (hb : defBody st = [.Assign [.Name m p1] (.Constant .none j1 p2) p3,
       .Try [.Expr (.Call (.Name a p4) [] [] p5) p6] [.ExceptHandler (some (.Name e p7)) (some n) [.Assign [.Name m p8] (.Name n p9) pa] pb] [] [] pc,
       .Return (some (.Name m pd)) pe])
    (la : (defScope st).names.lookup a = some .local) (lm : (defScope st).names.lookup m = some .local) (ln : (defScope st).names.lookup n = some .local) (he : (defScope st).names.lookup e = some .globalImplicit) (hme : mg e = some (.ref CS)) (hde : (e == ("__debug__" : Str)) = false)
    (d0 : (a == ("__debug__" : Str)) = false) (d00 : (a == ("__classdict__" : Str)) = false) (d1 : (n == ("__debug__" : Str)) = false) (d2 : (n == ("__classdict__" : Str)) = false) (d3 : (m == ("__debug__" : Str)) = false) (d4 : (m == ("__classdict__" : Str)) = false) :
    FnW P w K mg base fs H0 h0 (L2.CX P w) (k + 2) g fd [a] (spCaughtL K CS f pre t) := by
  refine fnW_of F S (fun vs H Q E h => by rw [h.1]; rfl) (fun cdv A outer s H vs Q E hr _ Sn h => ?_)
  obtain ⟨rfl, hp, hT⟩ := h
  rw [hb]
  refine ⟨_, pss_cons (ps_set (i := 1) S.nd rfl (.inl lm) pe_non) (pss_cons (ps_try_keep (c := .ref CS) (i := 2) (j := 1)
      (tb := fun W D σ H => ∃ Eb : XK, (∀ cls d σ' H', Eb cls d H' → W cls d σ' H') ∧ σ[0]? = some (some (.ref f)) ∧ pre H ∧ t Eb H (fun _ H' => D.nx σ H'))
      rfl rfl rfl S.nd rfl rfl ln lm ⟨he, hde, .inl hme⟩ d1 d2 (fun W pn xe tk _ => ?_))
    (pss_one (ps_ret (pe_var (i := 1) rfl (.inl lm) d3 d4)))), ?_⟩
  · refine ⟨fun pins s' σ H' D I h' => ?_⟩
    obtain ⟨Eb, wish, h1, h2, h3⟩ := h'
    exact (pss_one (ps_expr (pe_workL (Z := (cxOf (L2.CX P w) P w K mg base [a, m, n] x (defScope st) g cdv A outer s H E).tr pn xe) (i := 0) Wk ⟨Sn.un, Sn.sub, Sn.ex⟩ (passes_call tk wish) hr rfl (.inl la) d0 d00))).run pins s' σ H' D I ⟨h1, h2, h3⟩
  · refine ⟨fun cls d H' => PySem.W.exmOne K cls (.ref CS) = some true ∧ ∀ b, H' b = none → Q (.ref b) (upd H' b (ExV cls d b)), fun cls d σ' H' ⟨e1, e2⟩ => ⟨e1, fun b hb hl => ?_⟩, rfl, hp, ?_⟩
    · match σ', hl with
      | [u, v, z], _ => exact ⟨_, rfl, e2 b hb⟩
    · exact hT _ fun v H' z => ⟨_, rfl, z⟩
/-- a lambda of a def, and what its body promises -/
structure LamD where
  params : Arguments
  body : Expr
  scope : Scope
  t : XK → TE
structure LamOk (X : Cx) (kb : Nat) (l : LamD) : Prop where
  L : LamS X.env.scope l.scope
  bind : ∀ (q : Str) (cl : List (Str × Addr)) (pm cv ctv : Value), bindArgs (PySem.W.kla_fn "<lambda>" q l.params l.body l.scope cl pm cv ctv) ⟨[], []⟩ = pure []
  run : ∀ (A : Around) (outer : List Env) (s : Shared) (H : Hp) (E : XK) (f c' : Addr), Room kb (A.deeper (lamEnv X l.scope s.heap.objs.size f c')) → PE (lamCx X A outer s H E l.scope f c') l.body (l.t E)
/-- x(work): work, a name of this def, stands for one of its lambdas -/
theorem pe_callL {X : Cx} {CX : CXT} {kb k i : Nat} {g : Addr} {fd : FuncData} {ps : List Str} {E : XK} {x a : Str} {p p' pos : Pos} {sp : Addr → (Hp → Prop) → (XK → Hp → VK → Prop) → Sp} (lams : List LamD) (ok : ∀ l ∈ lams, LamOk X kb l)
    (FW : ∀ (H0 : Hp) (h0 : Heap) (f : Addr) (pre : Hp → Prop) (t' : XK → Hp → VK → Prop), WorkL X.prog X.w X.K X.mg X.base kb (frs X.stack) H0 h0 f pre t' → FnW X.prog X.w X.K X.mg X.base (frs X.stack) H0 h0 CX k g fd ps (sp f pre t'))
    (hg : Gl X x) (hm : X.mg x = some (.ref g)) (hk : PySem.W.keepIn X.K (.ref g) = true) (hb : Binds X.K fd ps []) (hx : Passes CX X E) (hr : Room k X.A) (hgd : X.A.guards = some []) (hN : X.N[i]? = some a) (hv : Vis X.env.scope a)
    (hdb : (x == ("__debug__" : Str)) = false := by decide) (hd : (a == ("__debug__" : Str)) = false := by decide) (hcd : (a == ("__classdict__" : Str)) = false := by decide)
    (he : starEach [.Name a p'] X.env = (false, eval (.Name a p') X.env) :: starEach [] X.env := by rfl) (hpl : (backTo pos (starEach [] X.env)).any (·.1) = false := by rfl) :
    PE X (.Call (.Name x p) [.Name a p'] [] pos) (fun σ H Q => ∃ l ∈ lams, ∃ f c' : Addr, σ[i]? = some (some (.ref f)) ∧ H f = some (LamO X.env l.params l.body l.scope f c') ∧ H c' = some (CodeO c' (X.env.qual ++ "<lambda>")) ∧
      sp f (fun HZ => HZ f = some (LamO X.env l.params l.body l.scope f c') ∧ HZ c' = some (CodeO c' (X.env.qual ++ "<lambda>"))) (fun E H Q => l.t E σ H Q) [.ref f] H Q E) := by
  refine ⟨fun pins s σ H Q I h => ?_⟩
  obtain ⟨l, hl, f, c', hs, hf, hc, q⟩ := h
  have O := ok l hl
  refine wpAny_Call_Name_kw (ld_glob I hg hm ?_ hdb)
  refine PySem.W.callWith_K (h₀ := X.base) I.ok.mod.kin hk ?_ he hpl
  rw [he]
  refine Calls.spliced_cons (thn ((pe_var (pos := p') (i := i) hN hv hd hcd).run pins s σ H (fun v H1 => v = .ref f ∧ H1 = H) I ⟨.ref f, hs, rfl, rfl⟩) fun u s1 ⟨v, H1, I1, r1, q1⟩ => ?_)
  obtain ⟨rfl, rfl⟩ := q1
  obtain rfl : u = Value.ref f := r1
  refine Calls.spliced_nil ⟨I1.kIn, ?_⟩
  have Wk := work_ofL (tb := l.t) (f := f) (c' := c') I1 O.L O.bind (fun A outer s2 HZ E hr2 => O.run A outer s2 HZ E f c' hr2)
  have F := FW H1 s1.heap f _ _ Wk
  have hlen : [Value.ref f].length = ps.length := by
    have := F.len _ _ _ _ q
    exact this
  have bt := hb s1 [.ref f] I1.kIn (by simpa using hlen)
  rw [List.append_nil] at bt
  refine wpAny_call (codeAny_mono (F.run X.A X.stack s1 H1 ⟨[.ref f], []⟩ [.ref f] [.ref f] Q E hr hgd I1.env0 (Un.kept fun _ _ z => z) (fun b hb => .inl hb) bt (.cons rfl .nil) q) fun rr s3 hq => ?_)
  match rr, hq with
  | .error e, hq => exact hx pins σ H1 s1 e s3 I1 hq
  | .ok (.ret u), hq => exact I1.after hq
  | .ok .next, hq => exact False.elim hq
  | .ok .brk, hq => exact False.elim hq
  | .ok .cont, hq => exact False.elim hq
end KL
namespace K05
open PySem PySem.Spec PyProof.Rows L2 PySem.W LamX KA
def top (i : Nat) : Stmt := PySem.Challenge.pw_pricedreels_k05_guesses_within_a_picture.main.body.getD i (.Pass ⟨0, 0, 0, 0⟩)
abbrev s_is_number : Stmt := top 1
theorem sc_is_number : FnScope ["thing"] ["thing"] (defScope s_is_number) := ⟨rfl, rfl, rfl, by decide +kernel, rfl, by decide +kernel, by decide +kernel⟩
abbrev s_is_within : Stmt := top 2
theorem sc_is_within : FnScope ["thing", "low", "high"] ["thing", "low", "high"] (defScope s_is_within) := ⟨rfl, rfl, rfl, by decide +kernel, rfl, by decide +kernel, by decide +kernel⟩
abbrev s_is_tuple_of : Stmt := top 3
theorem sc_is_tuple_of : FnScope ["thing", "many"] ["thing", "many"] (defScope s_is_tuple_of) := ⟨rfl, rfl, rfl, by decide +kernel, rfl, by decide +kernel, by decide +kernel⟩
abbrev s_is_row : Stmt := top 4
theorem sc_is_row : FnScope ["thing", "part"] ["thing"] (defScope s_is_row) := ⟨rfl, rfl, rfl, by decide +kernel, rfl, by decide +kernel, by decide +kernel⟩
abbrev s_is_rows : Stmt := top 5
theorem sc_is_rows : FnScope ["thing", "row"] ["thing"] (defScope s_is_rows) := ⟨rfl, rfl, rfl, by decide +kernel, rfl, by decide +kernel, by decide +kernel⟩
abbrev s_are_between : Stmt := top 6
theorem sc_are_between : FnScope ["rows", "low", "high", "row"] ["rows", "low", "high"] (defScope s_are_between) := ⟨rfl, rfl, rfl, by decide +kernel, rfl, by decide +kernel, by decide +kernel⟩
abbrev s_check_shape : Stmt := top 20
theorem sc_check_shape : FnScope ["shape"] ["shape"] (defScope s_check_shape) := ⟨rfl, rfl, rfl, by decide +kernel, rfl, by decide +kernel, by decide +kernel⟩
abbrev s_check_plane : Stmt := top 21
theorem sc_check_plane : FnScope ["shape", "plane"] ["shape", "plane"] (defScope s_check_plane) := ⟨rfl, rfl, rfl, by decide +kernel, rfl, by decide +kernel, by decide +kernel⟩
abbrev s_check_block : Stmt := top 22
theorem sc_check_block : FnScope ["shape", "block"] ["shape", "block"] (defScope s_check_block) := ⟨rfl, rfl, rfl, by decide +kernel, rfl, by decide +kernel, by decide +kernel⟩
abbrev s_fits_shape : Stmt := top 23
theorem sc_fits_shape : FnScope ["shape", "thing"] ["shape", "thing"] (defScope s_fits_shape) := ⟨rfl, rfl, rfl, by decide +kernel, rfl, by decide +kernel, by decide +kernel⟩
abbrev s_is_block_of : Stmt := top 24
theorem sc_is_block_of : FnScope ["shape", "thing", "top", "left", "size"] ["shape", "thing"] (defScope s_is_block_of) := ⟨rfl, rfl, rfl, by decide +kernel, rfl, by decide +kernel, by decide +kernel⟩
abbrev s_rows_of : Stmt := top 25
theorem sc_rows_of : FnScope ["shape", "block"] ["shape", "block"] (defScope s_rows_of) := ⟨rfl, rfl, rfl, by decide +kernel, rfl, by decide +kernel, by decide +kernel⟩
abbrev s_columns_of : Stmt := top 26
theorem sc_columns_of : FnScope ["shape", "block"] ["shape", "block"] (defScope s_columns_of) := ⟨rfl, rfl, rfl, by decide +kernel, rfl, by decide +kernel, by decide +kernel⟩
abbrev s_spots_of : Stmt := top 27
theorem sc_spots_of : FnScope ["shape", "block", "y", "x"] ["shape", "block"] (defScope s_spots_of) := ⟨rfl, rfl, rfl, by decide +kernel, rfl, by decide +kernel, by decide +kernel⟩
abbrev s_modes_at : Stmt := top 29
theorem sc_modes_at : FnScope ["shape", "block", "kind"] ["shape", "block", "kind"] (defScope s_modes_at) := ⟨rfl, rfl, rfl, by decide +kernel, rfl, by decide +kernel, by decide +kernel⟩
abbrev s_guess : Stmt := top 30
theorem sc_guess : FnScope ["shape", "block", "mode", "plane"] ["shape", "block", "mode", "plane"] (defScope s_guess) := ⟨rfl, rfl, rfl, by decide +kernel, rfl, by decide +kernel, by decide +kernel⟩
abbrev s_reads_within : Stmt := top 31
theorem sc_reads_within : FnScope ["shape", "block", "mode"] ["shape", "block", "mode"] (defScope s_reads_within) := ⟨rfl, rfl, rfl, by decide +kernel, rfl, by decide +kernel, by decide +kernel⟩
abbrev s_check_mode : Stmt := top 32
theorem sc_check_mode : FnScope ["block", "mode"] ["block", "mode"] (defScope s_check_mode) := ⟨rfl, rfl, rfl, by decide +kernel, rfl, by decide +kernel, by decide +kernel⟩
abbrev s_modes_within : Stmt := top 33
theorem sc_modes_within : FnScope ["block", "top", "left", "_", "found"] ["block"] (defScope s_modes_within) := ⟨rfl, rfl, rfl, by decide +kernel, rfl, by decide +kernel, by decide +kernel⟩
abbrev s_modes_standing : Stmt := top 34
theorem sc_modes_standing : FnScope ["block", "kind", "found"] ["block", "kind"] (defScope s_modes_standing) := ⟨rfl, rfl, rfl, by decide +kernel, rfl, by decide +kernel, by decide +kernel⟩
abbrev s_left_edge : Stmt := top 35
theorem sc_left_edge : FnScope ["shape", "block", "y"] ["shape", "block"] (defScope s_left_edge) := ⟨rfl, rfl, rfl, by decide +kernel, rfl, by decide +kernel, by decide +kernel⟩
abbrev s_upper_edge : Stmt := top 36
theorem sc_upper_edge : FnScope ["shape", "block", "x"] ["shape", "block"] (defScope s_upper_edge) := ⟨rfl, rfl, rfl, by decide +kernel, rfl, by decide +kernel, by decide +kernel⟩
abbrev s_guesses_of : Stmt := top 37
theorem sc_guesses_of : FnScope ["shape", "block", "mode", "rows", "top", "left", "_", "all_spots", "corner", "edge", "y", "x"] ["shape", "block", "mode", "rows"] (defScope s_guesses_of) := ⟨rfl, rfl, rfl, by decide +kernel, rfl, by decide +kernel, by decide +kernel⟩
abbrev s__law_begun : Stmt := top 39
theorem sc__law_begun : FnScope ["script", "cells_here", "large", "cell"] ["script"] (defScope s__law_begun) := ⟨rfl, rfl, rfl, by decide +kernel, rfl, by decide +kernel, by decide +kernel⟩
abbrev s__law_draw : Stmt := top 40
theorem sc__law_draw : FnScope ["state", "size_here", "found", "turn", "cell", "mixed"] ["state", "size_here"] (defScope s__law_draw) := ⟨rfl, rfl, rfl, by decide +kernel, rfl, by decide +kernel, by decide +kernel⟩
abbrev s__law_pick : Stmt := top 41
theorem sc__law_pick : FnScope ["state", "several"] ["state", "several"] (defScope s__law_pick) := ⟨rfl, rfl, rfl, by decide +kernel, rfl, by decide +kernel, by decide +kernel⟩
abbrev s__law_mixed : Stmt := top 42
theorem sc__law_mixed : FnScope ["state", "several", "left", "found"] ["state", "several"] (defScope s__law_mixed) := ⟨rfl, rfl, rfl, by decide +kernel, rfl, by decide +kernel, by decide +kernel⟩
abbrev s__law_caught : Stmt := top 43
theorem sc__law_caught : FnScope ["work", "caught", "error"] ["work"] (defScope s__law_caught) := ⟨rfl, rfl, rfl, by decide +kernel, rfl, by decide +kernel, by decide +kernel⟩
abbrev s__law_scope : Stmt := top 44
theorem sc__law_scope : FnScope ["state", "some", "tall", "wide", "least", "most"] ["state"] (defScope s__law_scope) := ⟨rfl, rfl, rfl, by decide +kernel, rfl, by decide +kernel, by decide +kernel⟩
abbrev s__law_form : Stmt := top 45
theorem sc__law_form : FnScope ["scope"] ["scope"] (defScope s__law_form) := ⟨rfl, rfl, rfl, by decide +kernel, rfl, by decide +kernel, by decide +kernel⟩
abbrev s__law_within : Stmt := top 46
theorem sc__law_within : FnScope ["scope", "item"] ["scope", "item"] (defScope s__law_within) := ⟨rfl, rfl, rfl, by decide +kernel, rfl, by decide +kernel, by decide +kernel⟩
abbrev s__law_grain : Stmt := top 47
theorem sc__law_grain : FnScope ["state", "scope"] ["state", "scope"] (defScope s__law_grain) := ⟨rfl, rfl, rfl, by decide +kernel, rfl, by decide +kernel, by decide +kernel⟩
abbrev s__law_pane : Stmt := top 48
theorem sc__law_pane : FnScope ["state", "scope", "fashion", "base", "pair", "slope", "found", "y", "line", "x"] ["state", "scope"] (defScope s__law_pane) := ⟨rfl, rfl, rfl, by decide +kernel, rfl, by decide +kernel, by decide +kernel⟩
abbrev s__law_roots : Stmt := top 49
theorem sc__law_roots : FnScope ["scope", "found", "top", "left"] ["scope"] (defScope s__law_roots) := ⟨rfl, rfl, rfl, by decide +kernel, rfl, by decide +kernel, by decide +kernel⟩
abbrev s__law_parts : Stmt := top 50
theorem sc__law_parts : FnScope ["scope", "square", "top", "left", "side", "half", "some", "part"] ["scope", "square"] (defScope s__law_parts) := ⟨rfl, rfl, rfl, by decide +kernel, rfl, by decide +kernel, by decide +kernel⟩
abbrev s__law_dots : Stmt := top 51
theorem sc__law_dots : FnScope ["scope", "square", "top", "left", "side", "found", "y", "x"] ["scope", "square"] (defScope s__law_dots) := ⟨rfl, rfl, rfl, by decide +kernel, rfl, by decide +kernel, by decide +kernel⟩
abbrev s__law_squares : Stmt := top 52
theorem sc__law_squares : FnScope ["scope", "found", "left", "square"] ["scope"] (defScope s__law_squares) := ⟨rfl, rfl, rfl, by decide +kernel, rfl, by decide +kernel, by decide +kernel⟩
abbrev s__law_fashions : Stmt := top 53
theorem sc__law_fashions : FnScope [] [] (defScope s__law_fashions) := ⟨rfl, rfl, rfl, by decide +kernel, rfl, by decide +kernel, by decide +kernel⟩
abbrev s__law_stands : Stmt := top 54
theorem sc__law_stands : FnScope ["square", "fashion", "sort_here", "top", "left", "found"] ["square", "fashion", "sort_here"] (defScope s__law_stands) := ⟨rfl, rfl, rfl, by decide +kernel, rfl, by decide +kernel, by decide +kernel⟩
abbrev s__law_beside : Stmt := top 55
theorem sc__law_beside : FnScope ["scope", "square", "top", "left", "side", "lefts", "aboves", "y", "x"] ["scope", "square"] (defScope s__law_beside) := ⟨rfl, rfl, rfl, by decide +kernel, rfl, by decide +kernel, by decide +kernel⟩
abbrev s__law_aims : Stmt := top 56
theorem sc__law_aims : FnScope ["scope", "square", "fashion", "rows", "top", "left", "side", "lefts", "aboves", "y", "x", "some", "found"] ["scope", "square", "fashion", "rows"] (defScope s__law_aims) := ⟨rfl, rfl, rfl, by decide +kernel, rfl, by decide +kernel, by decide +kernel⟩
abbrev s__law_reads : Stmt := top 57
theorem sc__law_reads : FnScope ["scope", "square", "fashion", "lefts", "aboves", "corner", "found"] ["scope", "square", "fashion"] (defScope s__law_reads) := ⟨rfl, rfl, rfl, by decide +kernel, rfl, by decide +kernel, by decide +kernel⟩
abbrev s__law_filled : Stmt := top 58
theorem sc__law_filled : FnScope ["state", "scope", "pane", "dots", "found", "y", "x"] ["state", "scope", "pane", "dots"] (defScope s__law_filled) := ⟨rfl, rfl, rfl, by decide +kernel, rfl, by decide +kernel, by decide +kernel⟩
abbrev s__law_raised : Stmt := top 59
theorem sc__law_raised : FnScope ["state", "scope", "pane", "most", "lines", "line", "grain"] ["state", "scope", "pane", "most"] (defScope s__law_raised) := ⟨rfl, rfl, rfl, by decide +kernel, rfl, by decide +kernel, by decide +kernel⟩
abbrev s__law_refused : Stmt := top 60
theorem sc__law_refused : FnScope ["state", "form", "square", "pane", "some", "top", "left", "work", "caught", "bad", "fashion", "odd", "worse", "wrong", "each"] ["state", "form", "square", "pane"] (defScope s__law_refused) := ⟨rfl, rfl, rfl, by decide +kernel, rfl, by decide +kernel, by decide +kernel⟩
abbrev s_law : Stmt := top 61
theorem sc_law : FnScope ["script", "state", "turn", "scope", "form", "pane", "square", "sort_here", "due", "told", "fashion", "dots", "aims", "other", "most", "more", "each", "item", "aim"] ["script"] (defScope s_law) := ⟨rfl, rfl, rfl, by decide +kernel, rfl, by decide +kernel, by decide +kernel⟩
/-- what stands in a class -/
def inClass (st : Stmt) (i : Nat) : Stmt := match st with
  | .ClassDef _ _ _ body _ _ _ _ _ _ _ => body.getD i (.Pass ⟨0, 0, 0, 0⟩)
  | _ => .Pass ⟨0, 0, 0, 0⟩
abbrev s_Shape_init : Stmt := inClass (top 19) 0
theorem sc_Shape_init : FnScope ["self", "height", "width", "low", "high"] ["self", "height", "width", "low", "high"] (defScope s_Shape_init) := ⟨rfl, rfl, rfl, by decide +kernel, rfl, by decide +kernel, by decide +kernel⟩
/-- what the top has written -/
structure Top (K : PySem.W.Frag) (mg : Str → Option Value) where
  reel : ReelT K mg
  BadBlock : ExcT K mg "BadBlock" reel.C
  BadKind : ExcT K mg "BadKind" reel.C
  BadPlane : ExcT K mg "BadPlane" reel.C
  is_number : DefT K mg "is_number" s_is_number
  is_within : DefT K mg "is_within" s_is_within
  is_tuple_of : DefT K mg "is_tuple_of" s_is_tuple_of
  is_row : DefT K mg "is_row" s_is_row
  is_rows : DefT K mg "is_rows" s_is_rows
  are_between : DefT K mg "are_between" s_are_between
  check_shape : DefT K mg "check_shape" s_check_shape
  check_plane : DefT K mg "check_plane" s_check_plane
  check_block : DefT K mg "check_block" s_check_block
  fits_shape : DefT K mg "fits_shape" s_fits_shape
  is_block_of : DefT K mg "is_block_of" s_is_block_of
  rows_of : DefT K mg "rows_of" s_rows_of
  columns_of : DefT K mg "columns_of" s_columns_of
  spots_of : DefT K mg "spots_of" s_spots_of
  modes_at : DefT K mg "modes_at" s_modes_at
  guess : DefT K mg "guess" s_guess
  reads_within : DefT K mg "reads_within" s_reads_within
  check_mode : DefT K mg "check_mode" s_check_mode
  modes_within : DefT K mg "modes_within" s_modes_within
  modes_standing : DefT K mg "modes_standing" s_modes_standing
  left_edge : DefT K mg "left_edge" s_left_edge
  upper_edge : DefT K mg "upper_edge" s_upper_edge
  guesses_of : DefT K mg "guesses_of" s_guesses_of
  _law_begun : DefT K mg "_law_begun" s__law_begun
  _law_draw : DefT K mg "_law_draw" s__law_draw
  _law_pick : DefT K mg "_law_pick" s__law_pick
  _law_mixed : DefT K mg "_law_mixed" s__law_mixed
  _law_caught : DefT K mg "_law_caught" s__law_caught
  _law_scope : DefT K mg "_law_scope" s__law_scope
  _law_form : DefT K mg "_law_form" s__law_form
  _law_within : DefT K mg "_law_within" s__law_within
  _law_grain : DefT K mg "_law_grain" s__law_grain
  _law_pane : DefT K mg "_law_pane" s__law_pane
  _law_roots : DefT K mg "_law_roots" s__law_roots
  _law_parts : DefT K mg "_law_parts" s__law_parts
  _law_dots : DefT K mg "_law_dots" s__law_dots
  _law_squares : DefT K mg "_law_squares" s__law_squares
  _law_fashions : DefT K mg "_law_fashions" s__law_fashions
  _law_stands : DefT K mg "_law_stands" s__law_stands
  _law_beside : DefT K mg "_law_beside" s__law_beside
  _law_aims : DefT K mg "_law_aims" s__law_aims
  _law_reads : DefT K mg "_law_reads" s__law_reads
  _law_filled : DefT K mg "_law_filled" s__law_filled
  _law_raised : DefT K mg "_law_raised" s__law_raised
  _law_refused : DefT K mg "_law_refused" s__law_refused
  law : DefT K mg "law" s_law
  cLOWEST : CstT mg "LOWEST" (-512)
  cHIGHEST : CstT mg "HIGHEST" (511)
  cMOST_SPOTS : CstT mg "MOST_SPOTS" (16)
  b_isinstance : mg "isinstance" = none
  b_int : mg "int" = none
  b_bool : mg "bool" = none
  b_len : mg "len" = none
  b_abs : mg "abs" = none
  b_range : mg "range" = none
  b_min : mg "min" = none
  b_max : mg "max" = none
  b_repr : mg "repr" = none
  b_list : mg "list" = none
  b_tuple : mg "tuple" = none
  b_sorted : mg "sorted" = none
  b_sum : mg "sum" = none
  b_zip : mg "zip" = none
  b_all : mg "all" = none
  b_ValueError : mg "ValueError" = none
section
variable {K : PySem.W.Frag} {mg : Str → Option Value}
theorem bd_is_number (T : Top K mg) : Binds K T.is_number.d ["thing"] [] := T.is_number.f.binds fun _ _ _ _ _ _ us hl => match us, hl with | [_], _ => rfl
theorem bd_is_within (T : Top K mg) : Binds K T.is_within.d ["thing", "low", "high"] [] := T.is_within.f.binds fun _ _ _ _ _ _ us hl => match us, hl with | [_, _, _], _ => rfl
theorem bd_is_tuple_of (T : Top K mg) : Binds K T.is_tuple_of.d ["thing", "many"] [] := T.is_tuple_of.f.binds fun _ _ _ _ _ _ us hl => match us, hl with | [_, _], _ => rfl
theorem bd_is_row (T : Top K mg) : Binds K T.is_row.d ["thing"] [] := T.is_row.f.binds fun _ _ _ _ _ _ us hl => match us, hl with | [_], _ => rfl
theorem bd_is_rows (T : Top K mg) : Binds K T.is_rows.d ["thing"] [] := T.is_rows.f.binds fun _ _ _ _ _ _ us hl => match us, hl with | [_], _ => rfl
theorem bd_are_between (T : Top K mg) : Binds K T.are_between.d ["rows", "low", "high"] [] := T.are_between.f.binds fun _ _ _ _ _ _ us hl => match us, hl with | [_, _, _], _ => rfl
theorem bd_check_shape (T : Top K mg) : Binds K T.check_shape.d ["shape"] [] := T.check_shape.f.binds fun _ _ _ _ _ _ us hl => match us, hl with | [_], _ => rfl
theorem bd_check_plane (T : Top K mg) : Binds K T.check_plane.d ["shape", "plane"] [] := T.check_plane.f.binds fun _ _ _ _ _ _ us hl => match us, hl with | [_, _], _ => rfl
theorem bd_check_block (T : Top K mg) : Binds K T.check_block.d ["shape", "block"] [] := T.check_block.f.binds fun _ _ _ _ _ _ us hl => match us, hl with | [_, _], _ => rfl
theorem bd_fits_shape (T : Top K mg) : Binds K T.fits_shape.d ["shape", "thing"] [] := T.fits_shape.f.binds fun _ _ _ _ _ _ us hl => match us, hl with | [_, _], _ => rfl
theorem bd_is_block_of (T : Top K mg) : Binds K T.is_block_of.d ["shape", "thing"] [] := T.is_block_of.f.binds fun _ _ _ _ _ _ us hl => match us, hl with | [_, _], _ => rfl
theorem bd_rows_of (T : Top K mg) : Binds K T.rows_of.d ["shape", "block"] [] := T.rows_of.f.binds fun _ _ _ _ _ _ us hl => match us, hl with | [_, _], _ => rfl
theorem bd_columns_of (T : Top K mg) : Binds K T.columns_of.d ["shape", "block"] [] := T.columns_of.f.binds fun _ _ _ _ _ _ us hl => match us, hl with | [_, _], _ => rfl
theorem bd_spots_of (T : Top K mg) : Binds K T.spots_of.d ["shape", "block"] [] := T.spots_of.f.binds fun _ _ _ _ _ _ us hl => match us, hl with | [_, _], _ => rfl
theorem bd_modes_at (T : Top K mg) : Binds K T.modes_at.d ["shape", "block", "kind"] [] := T.modes_at.f.binds fun _ _ _ _ _ _ us hl => match us, hl with | [_, _, _], _ => rfl
theorem bd_guess (T : Top K mg) : Binds K T.guess.d ["shape", "block", "mode", "plane"] [] := T.guess.f.binds fun _ _ _ _ _ _ us hl => match us, hl with | [_, _, _, _], _ => rfl
theorem bd_reads_within (T : Top K mg) : Binds K T.reads_within.d ["shape", "block", "mode"] [] := T.reads_within.f.binds fun _ _ _ _ _ _ us hl => match us, hl with | [_, _, _], _ => rfl
theorem bd_check_mode (T : Top K mg) : Binds K T.check_mode.d ["block", "mode"] [] := T.check_mode.f.binds fun _ _ _ _ _ _ us hl => match us, hl with | [_, _], _ => rfl
theorem bd_modes_within (T : Top K mg) : Binds K T.modes_within.d ["block"] [] := T.modes_within.f.binds fun _ _ _ _ _ _ us hl => match us, hl with | [_], _ => rfl
theorem bd_modes_standing (T : Top K mg) : Binds K T.modes_standing.d ["block", "kind"] [] := T.modes_standing.f.binds fun _ _ _ _ _ _ us hl => match us, hl with | [_, _], _ => rfl
theorem bd_left_edge (T : Top K mg) : Binds K T.left_edge.d ["shape", "block"] [] := T.left_edge.f.binds fun _ _ _ _ _ _ us hl => match us, hl with | [_, _], _ => rfl
theorem bd_upper_edge (T : Top K mg) : Binds K T.upper_edge.d ["shape", "block"] [] := T.upper_edge.f.binds fun _ _ _ _ _ _ us hl => match us, hl with | [_, _], _ => rfl
theorem bd_guesses_of (T : Top K mg) : Binds K T.guesses_of.d ["shape", "block", "mode", "rows"] [] := T.guesses_of.f.binds fun _ _ _ _ _ _ us hl => match us, hl with | [_, _, _, _], _ => rfl
theorem bd__law_begun (T : Top K mg) : Binds K T._law_begun.d ["script"] [] := T._law_begun.f.binds fun _ _ _ _ _ _ us hl => match us, hl with | [_], _ => rfl
theorem bd__law_draw (T : Top K mg) : Binds K T._law_draw.d ["state", "size_here"] [] := T._law_draw.f.binds fun _ _ _ _ _ _ us hl => match us, hl with | [_, _], _ => rfl
theorem bd__law_pick (T : Top K mg) : Binds K T._law_pick.d ["state", "several"] [] := T._law_pick.f.binds fun _ _ _ _ _ _ us hl => match us, hl with | [_, _], _ => rfl
theorem bd__law_mixed (T : Top K mg) : Binds K T._law_mixed.d ["state", "several"] [] := T._law_mixed.f.binds fun _ _ _ _ _ _ us hl => match us, hl with | [_, _], _ => rfl
theorem bd__law_caught (T : Top K mg) : Binds K T._law_caught.d ["work"] [] := T._law_caught.f.binds fun _ _ _ _ _ _ us hl => match us, hl with | [_], _ => rfl
theorem bd__law_scope (T : Top K mg) : Binds K T._law_scope.d ["state"] [] := T._law_scope.f.binds fun _ _ _ _ _ _ us hl => match us, hl with | [_], _ => rfl
theorem bd__law_form (T : Top K mg) : Binds K T._law_form.d ["scope"] [] := T._law_form.f.binds fun _ _ _ _ _ _ us hl => match us, hl with | [_], _ => rfl
theorem bd__law_within (T : Top K mg) : Binds K T._law_within.d ["scope", "item"] [] := T._law_within.f.binds fun _ _ _ _ _ _ us hl => match us, hl with | [_, _], _ => rfl
theorem bd__law_grain (T : Top K mg) : Binds K T._law_grain.d ["state", "scope"] [] := T._law_grain.f.binds fun _ _ _ _ _ _ us hl => match us, hl with | [_, _], _ => rfl
theorem bd__law_pane (T : Top K mg) : Binds K T._law_pane.d ["state", "scope"] [] := T._law_pane.f.binds fun _ _ _ _ _ _ us hl => match us, hl with | [_, _], _ => rfl
theorem bd__law_roots (T : Top K mg) : Binds K T._law_roots.d ["scope"] [] := T._law_roots.f.binds fun _ _ _ _ _ _ us hl => match us, hl with | [_], _ => rfl
theorem bd__law_parts (T : Top K mg) : Binds K T._law_parts.d ["scope", "square"] [] := T._law_parts.f.binds fun _ _ _ _ _ _ us hl => match us, hl with | [_, _], _ => rfl
theorem bd__law_dots (T : Top K mg) : Binds K T._law_dots.d ["scope", "square"] [] := T._law_dots.f.binds fun _ _ _ _ _ _ us hl => match us, hl with | [_, _], _ => rfl
theorem bd__law_squares (T : Top K mg) : Binds K T._law_squares.d ["scope"] [] := T._law_squares.f.binds fun _ _ _ _ _ _ us hl => match us, hl with | [_], _ => rfl
theorem bd__law_fashions (T : Top K mg) : Binds K T._law_fashions.d [] [] := T._law_fashions.f.binds fun _ _ _ _ _ _ us hl => match us, hl with | [], _ => rfl
theorem bd__law_stands (T : Top K mg) : Binds K T._law_stands.d ["square", "fashion", "sort_here"] [] := T._law_stands.f.binds fun _ _ _ _ _ _ us hl => match us, hl with | [_, _, _], _ => rfl
theorem bd__law_beside (T : Top K mg) : Binds K T._law_beside.d ["scope", "square"] [] := T._law_beside.f.binds fun _ _ _ _ _ _ us hl => match us, hl with | [_, _], _ => rfl
theorem bd__law_aims (T : Top K mg) : Binds K T._law_aims.d ["scope", "square", "fashion", "rows"] [] := T._law_aims.f.binds fun _ _ _ _ _ _ us hl => match us, hl with | [_, _, _, _], _ => rfl
theorem bd__law_reads (T : Top K mg) : Binds K T._law_reads.d ["scope", "square", "fashion"] [] := T._law_reads.f.binds fun _ _ _ _ _ _ us hl => match us, hl with | [_, _, _], _ => rfl
theorem bd__law_filled (T : Top K mg) : Binds K T._law_filled.d ["state", "scope", "pane", "dots"] [] := T._law_filled.f.binds fun _ _ _ _ _ _ us hl => match us, hl with | [_, _, _, _], _ => rfl
theorem bd__law_raised (T : Top K mg) : Binds K T._law_raised.d ["state", "scope", "pane", "most"] [] := T._law_raised.f.binds fun _ _ _ _ _ _ us hl => match us, hl with | [_, _, _, _], _ => rfl
theorem bd__law_refused (T : Top K mg) : Binds K T._law_refused.d ["state", "form", "square", "pane"] [] := T._law_refused.f.binds fun _ _ _ _ _ _ us hl => match us, hl with | [_, _, _, _], _ => rfl
theorem bd_law (T : Top K mg) : Binds K T.law.d ["script"] [] := T.law.f.binds fun _ _ _ _ _ _ us hl => match us, hl with | [_], _ => rfl
end
end K05
namespace KA
open PySem
/-! ### numbers in bits: the mathematics -/
/-- n in k bits, as codes -/
def bitsL : Nat → Nat → List Nat
  | 0, _ => []
  | k + 1, n => bitsL k (n / 2) ++ [48 + n % 2]
theorem bitsL_len : ∀ k n, (bitsL k n).length = k
  | 0, _ => rfl
  | k + 1, n => by simp [bitsL, bitsL_len k]
def binL (n : Nat) : List Nat := (Nat.toDigits 2 n).map Char.toNat
theorem binL_lt {n : Nat} (h : n < 2) : binL n = [48 + n] := by
  unfold binL
  rw [Nat.toDigits_of_lt_base h]
  have : n = 0 ∨ n = 1 := by omega
  rcases this with rfl | rfl <;> rfl
theorem binL_ge {n : Nat} (h : 2 ≤ n) : binL n = binL (n / 2) ++ [48 + n % 2] := by
  unfold binL
  rw [Nat.toDigits_of_base_le (by decide) h, List.map_append]
  have : n % 2 = 0 ∨ n % 2 = 1 := by omega
  rcases this with e | e <;> rw [e] <;> rfl
/-- the digits behind the first one -/
def tailL (n : Nat) : List Nat := (binL n).drop 1
theorem binL_ne (n : Nat) : binL n ≠ [] := by
  unfold binL
  intro h
  exact Nat.toDigits_ne_nil (List.map_eq_nil_iff.mp h)
theorem tailL_lt {n : Nat} (h : n < 2) : tailL n = [] := by
  unfold tailL
  rw [binL_lt h]
  rfl
theorem tailL_ge {n : Nat} (h : 2 ≤ n) : tailL n = tailL (n / 2) ++ [48 + n % 2] := by
  unfold tailL
  rw [binL_ge h, List.drop_append_of_le_length]
  have := List.length_pos_iff.mpr (binL_ne (n / 2))
  omega
theorem binL_head : ∀ (n : Nat), 1 ≤ n → binL n = 49 :: tailL n := by
  intro n
  induction n using Nat.strongRecOn with
  | _ n ih =>
    intro h
    by_cases h2 : n < 2
    · have : n = 1 := by omega
      subst this
      rfl
    · rw [tailL_ge (by omega), binL_ge (by omega), ih (n / 2) (by omega) (by omega)]
      rfl
theorem binL_le : ∀ (k n : Nat), 0 < k → n < 2 ^ k → (binL n).length ≤ k
  | 0, _, h, _ => by omega
  | k + 1, n, _, h => by
    by_cases h2 : n < 2
    · rw [binL_lt h2]
      simp
    · rw [binL_ge (by omega), List.length_append]
      have hk : 0 < k := by
        rcases Nat.eq_zero_or_pos k with e | e
        · subst e
          simp at h
          omega
        · exact e
      have := binL_le k (n / 2) hk (by rw [Nat.pow_succ] at h; omega)
      simp
      omega
theorem bitsL_bin : ∀ (k n : Nat), 0 < k → n < 2 ^ k → List.replicate (k - (binL n).length) 48 ++ binL n = bitsL k n
  | 0, _, h, _ => by omega
  | k + 1, n, _, h => by
    rw [bitsL]
    by_cases h2 : n < 2
    · rw [binL_lt h2]
      have e : n / 2 = 0 := by omega
      have e2 : n % 2 = n := by omega
      rw [e, e2]
      have z : ∀ j, bitsL j 0 = List.replicate j 48 := fun j => by
        induction j with
        | zero => rfl
        | succ j ih => rw [bitsL, Nat.zero_div, ih, List.replicate_succ']
      rw [z]
      simp
    · have hk : 0 < k := by
        rcases Nat.eq_zero_or_pos k with e | e
        · subst e
          simp at h
          omega
        · exact e
      have hd : n / 2 < 2 ^ k := by
        rw [Nat.pow_succ] at h
        omega
      rw [← bitsL_bin k (n / 2) hk hd, binL_ge (by omega), List.length_append]
      have e : k + 1 - ((binL (n / 2)).length + [48 + n % 2].length) = k - (binL (n / 2)).length := by simp
      rw [e, List.append_assoc]
theorem binText_eq (n : Nat) : binText n = ⟨(binL n).toArray⟩ := rfl
theorem binText_len (n : Nat) : (binText n).length = (binL n).length := by simp [binText, binL, Str.length]
/-- n in m bits, as a text -/
def twosT (m n : Nat) : Str := ⟨(bitsL m n).toArray⟩
theorem zfill_bin {m n : Nat} (hm : 0 < m) (h : n < 2 ^ m) : Txt.zfill (binText n) (m : Int) = twosT m n := by
  have hl := binL_le m n hm h
  have hb := bitsL_bin m n hm h
  unfold Txt.zfill
  rw [binText_len]
  by_cases e : (m : Int) ≤ ((binL n).length : Nat)
  · rw [if_pos e]
    have : m - (binL n).length = 0 := by omega
    rw [this] at hb
    simp only [List.replicate_zero, List.nil_append] at hb
    rw [binText_eq, hb]
    rfl
  · rw [if_neg e]
    have h0 : (binText n).cps[0]? = some 48 ∨ (binText n).cps[0]? = some 49 := by
      rw [binText_eq]
      rcases Nat.eq_zero_or_pos n with z | z
      · subst z
        exact .inl rfl
      · rw [binL_head n z]
        exact .inr rfl
    have e2 : zfilled (binText n) ((m : Int).toNat - (binL n).length) = Builtin.Str.padded (binText n) ((m : Int).toNat - (binL n).length) 0 48 := by
      unfold zfilled
      rcases h0 with z | z
      · rw [z]
        rfl
      · rw [z]
        rfl
    rw [e2]
    unfold Builtin.Str.padded twosT
    rw [← hb, binText_eq]
    congr 1
    apply Array.toList_inj.mp
    simp
/-- n ones -/
def onesT (n : Nat) : Str := ⟨(List.replicate n 49).toArray⟩
theorem onesT_len (n : Nat) : (onesT n).length = n := by simp [onesT, Str.length]
theorem fold_ones (n : Nat) : ∀ acc : Array Nat, (List.replicate n (#[49] : Array Nat)).foldl (· ++ ·) acc = acc ++ (List.replicate n 49).toArray := by
  induction n with
  | zero => intro acc; simp
  | succ n ih =>
    intro acc
    rw [List.replicate_succ, List.foldl_cons, ih, List.replicate_succ]
    apply Array.toList_inj.mp
    simp
theorem mul_ones (n : Nat) : Txt.mul "1" (n : Int) = onesT n := by
  unfold Txt.mul
  by_cases h : (n : Int) < 1
  · rw [if_pos h]
    have : n = 0 := by omega
    subst this
    rfl
  · rw [if_neg h]
    by_cases h1 : n = 1
    · subst h1
      rfl
    · rw [if_neg (by
        have e : ((n : Int) == 1) = false := by
          rw [beq_eq_false_iff_ne]
          omega
        rw [e]
        decide)]
      show (⟨(List.replicate (n : Int).toNat (#[49] : Array Nat)).foldl (· ++ ·) #[]⟩ : Str) = _
      rw [Int.toNat_natCast, fold_ones]
      unfold onesT
      congr 1
      apply Array.toList_inj.mp
      simp
end KA
namespace K05
open PySem PySem.Spec PyProof.Rows L2 PySem.W LamX KA
/-! ### the promises -/
/-- a value whose type isinstance can tell; whether it is a number -/
inductive Pl (K : PySem.W.Frag) (H : Hp) : V → Bool → Prop where
  | int (i : Int) : Pl K H (.int i) true
  | bl (b : Bool) : Pl K H (.bl b) false
  | str (s : Str) : Pl K H (.str s) false
  | non : Pl K H .non false
  | tup {a : Addr} {xs : List V} (e : H a = some (.tup xs)) : Pl K H (.ref a) false
  | lst {a : Addr} {xs : List V} (e : H a = some (.lst xs)) : Pl K H (.ref a) false
  | dK {a : Addr} {kvs : List (Key × V)} (e : H a = some (.dK kvs)) : Pl K H (.ref a) false
theorem Pl.ty {K : PySem.W.Frag} {H : Hp} {x : V} {b : Bool} (h : Pl K H x b) : ∃ t : String, TyX K H x (.type t) ∧ kitB t "int" = some (b || (t == "bool")) ∧ kitB t "bool" = some (t == "bool") ∧ ((b || (t == "bool")) && !(t == "bool")) = b := by
  cases h with
  | int i => exact ⟨"int", .base (.int i), by decide +kernel, by decide +kernel, by decide⟩
  | bl i => exact ⟨"bool", .base (.bl i), by decide +kernel, by decide +kernel, by decide⟩
  | str i => exact ⟨"str", .base (.str i), by decide +kernel, by decide +kernel, by decide⟩
  | non => exact ⟨"NoneType", .base .non, by decide +kernel, by decide +kernel, by decide⟩
  | tup e => exact ⟨"tuple", .base (.tup e), by decide +kernel, by decide +kernel, by decide⟩
  | lst e => exact ⟨"list", .base (.lst e), by decide +kernel, by decide +kernel, by decide⟩
  | dK e => exact ⟨"dict", .base (.dK e), by decide +kernel, by decide +kernel, by decide⟩
def within (x : V) (lo hi : Int) : Bool := match x with
  | .int i => decide (lo ≤ i) && decide (i ≤ hi)
  | _ => false
def spNumber (K : PySem.W.Frag) : Sp := fun vs H Q _ => ∃ x b, vs = [x] ∧ Pl K H x b ∧ Q (.bl b) H
def spWithin (K : PySem.W.Frag) : Sp := fun vs H Q _ => ∃ x b lo hi, vs = [x, .int lo, .int hi] ∧ Pl K H x b ∧ Q (.bl (within x lo hi)) H
section
variable {P : Program} {w : World} {K : PySem.W.Frag} {mg : Str → Option Value} {base : Heap} (T : Top K mg)
abbrev pInt {X : Cx} {pos : Pos} (hg : Gl X "int") (hm : X.mg "int" = none) : PE X (.Name "int" pos) (tC (.ty "int")) := pe_bltn hg hm PyProof.Rows.boot_int rfl
theorem q_bl {Q : VK} {H : Hp} {a b : Bool} (k : Q (.bl b) H) (e : a = b) : Q (.bl a) H := e ▸ k
theorem q_int {Q : VK} {H : Hp} {a b : Int} (k : Q (.int b) H) (e : a = b) : Q (.int a) H := e ▸ k
theorem q_str {Q : VK} {H : Hp} {a b : Str} (k : Q (.str b) H) (e : a = b) : Q (.str a) H := e ▸ k
theorem ok_is_number : FnOk P w K mg base (L2.CX P w) 1 T.is_number.a T.is_number.d ["thing"] (spNumber K) := by
  refine T.is_number.f.okX sc_is_number (fun vs H Q E h => ?_) (fun cdv A outer s H vs Q E hr h => ?_)
  · obtain ⟨x, b, rfl, _⟩ := h
    rfl
  · obtain ⟨x, b, rfl, hp, k⟩ := h
    refine ⟨_, pss_one (ps_ret (pe_and
      (pe_callB call_isi (by rfl) T.b_isinstance PyProof.Rows.boot_isinstance (pa_cons (pv 0) (pa_cons (pe_bltn (v := .ty "int") (by rfl) T.b_int PyProof.Rows.boot_int rfl) pa_nil)))
      (pe_one (pe_not (pe_callB call_isi (by rfl) T.b_isinstance PyProof.Rows.boot_isinstance (pa_cons (pv 0) (pa_cons (pe_bltn (v := .ty "bool") (by rfl) T.b_bool (by decide +kernel) rfl) pa_nil))))))), ?_⟩
    obtain ⟨t, ht, h1, h2, h3⟩ := hp.ty
    refine ⟨_, rfl, x, _, _, _, _, rfl, .ty "int", ht, kit_ty h1, _, rfl, ?_⟩
    cases e : (b || (t == "bool"))
    · rw [e] at h3
      refine iteF ?_
      exact q_bl k h3
    · rw [e] at h3
      refine iteT ?_
      refine ⟨_, rfl, x, _, _, _, _, rfl, .ty "bool", ht, kit_ty h2, _, rfl, ?_⟩
      exact q_bl k (by simpa using h3)
theorem ok_is_within : FnOk P w K mg base (L2.CX P w) 2 T.is_within.a T.is_within.d ["thing", "low", "high"] (spWithin K) := by
  refine T.is_within.f.okX sc_is_within (fun vs H Q E h => ?_) (fun cdv A outer s H vs Q E hr h => ?_)
  · obtain ⟨x, b, lo, hi, rfl, _⟩ := h
    rfl
  · obtain ⟨x, b, lo, hi, rfl, hp, k⟩ := h
    refine ⟨_, pss_one (ps_ret (pe_and (pe_call (ok_is_number T) hr (by rfl) T.is_number.m T.is_number.f.kp (bd_is_number T) .nil passE (pa_cons (pv 0) pa_nil))
      (pe_one (pe_chain op_le op_le (pv 1) (pv 0) (pv 2))))), ?_⟩
    refine ⟨_, rfl, x, b, rfl, hp, b, rfl, ?_⟩
    cases hp with
    | int i =>
      refine iteT ⟨_, rfl, _, rfl, lo, i, rfl, rfl, _, rfl, ?_⟩
      by_cases h1 : lo ≤ i
      · rw [decide_eq_true h1]
        refine iteT ⟨_, rfl, i, hi, rfl, rfl, ?_⟩
        exact q_bl k (by simp [within, h1])
      · rw [decide_eq_false h1]
        refine iteF ?_
        exact q_bl k (by simp [within, h1])
    | _ => exact iteF k
def foldI (i : Int) : Int := if i > 0 then 2 * i - 1 else -2 * i
def spFold : Sp := fun vs H Q _ => ∃ i : Int, vs = [.int i] ∧ Q (.int (foldI i)) H
def unfoldI (n : Int) : Int := if Builtin.bitAnd n 1 != 0 then (n + 1) / 2 else -(n / 2)
def spUnfold : Sp := fun vs H Q _ => ∃ i : Int, vs = [.int i] ∧ Q (.int (unfoldI i)) H
/-- n in m bits, as the program writes it -/
theorem padOk {m : Int} (h0 : 0 ≤ m) (h1 : m ≤ 100) : PadOk m = true := by
  unfold PadOk fitsSsize Builtin.Str.tooLong
  have e : sizeLine = 16777216 := rfl
  rw [e]
  simp
  omega
def inBits (n m : Int) : Str := if m = 0 then "" else Txt.zfill (binText n.natAbs) m
def spInBits : Sp := fun vs H Q _ => ∃ n m : Int, vs = [.int n, .int m] ∧ 0 ≤ n ∧ (binText n.natAbs).length ≤ 100 ∧ 0 ≤ m ∧ m ≤ 100 ∧ Q (.str (inBits n m)) H
def spIsTold (K : PySem.W.Frag) : Sp := fun vs H Q _ => ∃ x b, vs = [x] ∧ Pl K H x b ∧ Q (.bl (within x (-32767) 32767)) H
/-- a check: nothing, or an error of the class at C -/
def spCheck (K : PySem.W.Frag) (lo hi : Int) (C : Addr) : Sp := fun vs H Q E => ∃ x b, vs = [x] ∧ Pl K H x b ∧ (within x lo hi = true → Q .non H) ∧ (within x lo hi = false → E (.ref C) none H)
theorem iteNot {A B : Prop} {b : Bool} (h1 : b = false → A) (h2 : b = true → B) : if (!b) = true then A else B := by
  cases b
  · exact h1 rfl
  · exact h2 rfl
theorem passX {X : Cx} {E : XK} (hs : X.stack = X.env :: X.outer) (hf : X.env.frame = some X.env.locals) (hex : X.ex = []) (hx : X.xe = fun e s' => wpAny (model X.prog X.w) X.A (leaving X.env e) (fun _ s'' => L2.CX X.prog X.w X.outer X.H_0 X.s_0 E e s'') (fun e' s'' => L2.CX X.prog X.w X.outer X.H_0 X.s_0 E e' s'') s') :
    Passes (L2.CX X.prog X.w) X E := passes_call (takes_of hs hf hex hx) fun _ _ _ _ h => h
theorem within_int {x : V} {lo hi : Int} (h : within x lo hi = true) : ∃ i, x = .int i ∧ lo ≤ i ∧ i ≤ hi := by
  cases x with
  | int i =>
    simp only [within, Bool.and_eq_true, decide_eq_true_eq] at h
    exact ⟨i, rfl, h⟩
  | _ => cases h
def spFolded (K : PySem.W.Frag) (C : Addr) : Sp := fun vs H Q E => ∃ x b, vs = [x] ∧ Pl K H x b ∧ (∀ i, x = .int i → -32767 ≤ i → i ≤ 32767 → Q (.int (foldI i)) H) ∧ (within x (-32767) 32767 = false → E (.ref C) none H)
def spUnfolded (K : PySem.W.Frag) (C : Addr) : Sp := fun vs H Q E => ∃ x b, vs = [x] ∧ Pl K H x b ∧ (∀ i, x = .int i → 0 ≤ i → i ≤ 65534 → Q (.int (unfoldI i)) H) ∧ (within x 0 65534 = false → E (.ref C) none H)
end
end K05
namespace K05
open PySem PySem.Spec PyProof.Rows L2 PySem.W LamX KA
section
variable {P : Program} {w : World} {K : PySem.W.Frag} {mg : Str → Option Value} {base : Heap} (T : Top K mg)
def isStr (x : V) : Bool := match x with
  | .str _ => true
  | _ => false
theorem Pl.str? {K : PySem.W.Frag} {H : Hp} {x : V} {b : Bool} (h : Pl K H x b) : ∃ t : String, TyX K H x (.type t) ∧ kitB t "str" = some (isStr x) := by
  cases h with
  | int i => exact ⟨"int", .base (.int i), (by decide +kernel : kitB "int" "str" = some false)⟩
  | bl i => exact ⟨"bool", .base (.bl i), (by decide +kernel : kitB "bool" "str" = some false)⟩
  | str i => exact ⟨"str", .base (.str i), (by decide +kernel : kitB "str" "str" = some true)⟩
  | non => exact ⟨"NoneType", .base .non, by decide +kernel⟩
  | tup e => exact ⟨"tuple", .base (.tup e), (by decide +kernel : kitB "tuple" "str" = some false)⟩
  | lst e => exact ⟨"list", .base (.lst e), (by decide +kernel : kitB "list" "str" = some false)⟩
  | dK e => exact ⟨"dict", .base (.dK e), (by decide +kernel : kitB "dict" "str" = some false)⟩
def isBits (x : V) : Bool := match x with
  | .str s => decide (V.str (Txt.stripChars s "01") = V.str "")
  | _ => false
def spIsBits (K : PySem.W.Frag) : Sp := fun vs H Q _ => ∃ x b, vs = [x] ∧ Pl K H x b ∧ (∀ s, x = .str s → s.length ≤ 1000) ∧ Q (.bl (isBits x)) H
def spFixed (K : PySem.W.Frag) (CM CN : Addr) : Sp := fun vs H Q E => ∃ x bx y «by», vs = [x, y] ∧ Pl K H x bx ∧ Pl K H y «by» ∧ (within y 1 16 = false → E (.ref CM) none H) ∧
  ∀ m : Nat, y = .int m → 1 ≤ m → m ≤ 16 → (within x 0 (2 ^ m - 1) = false → E (.ref CN) none H) ∧ ∀ n : Nat, x = .int n → n < 2 ^ m → Q (.str (twosT m n)) H
theorem pow16 {m : Nat} (h : m ≤ 16) : 2 ^ m ≤ 65536 := by
  have := Nat.pow_le_pow_right (n := 2) (by decide) h
  exact this
theorem binText_small {n : Nat} (h : n < 65536) : (binText n).length ≤ 100 := by
  rw [binText_len]
  have := binL_le 16 n (by decide) h
  omega
theorem inBits_eq {m n : Nat} (hm : 0 < m) (h : n < 2 ^ m) : inBits (n : Int) (m : Int) = twosT m n := by
  unfold inBits
  rw [if_neg (by omega), Int.natAbs_natCast]
  exact zfill_bin hm h
theorem cut_one {z : Str} (h : 1 ≤ z.length) : cutS z (some 1) none = ⟨(z.cps.toList.drop 1).toArray⟩ := by
  have e1 : HT.sIx z.length 0 (some 1) = 1 := (HT.sIx_nat z.length 0 1).trans (by omega)
  unfold cutS
  rw [e1, HT.sIx_none, List.take_of_length_le]
  simp [Str.length]
theorem len_app (x y : Str) : (x ++ y).length = x.length + y.length := Array.size_append
def longT (f : Nat) : Str := onesT (tailL (f + 1)).length ++ "0" ++ ⟨(tailL (f + 1)).toArray⟩
theorem foldI_nat {i : Int} (h1 : -32767 ≤ i) (h2 : i ≤ 32767) : ∃ f : Nat, foldI i = f ∧ f < 65535 := by
  refine ⟨(foldI i).toNat, ?_, ?_⟩ <;> (unfold foldI; split <;> omega)
def spLong (K : PySem.W.Frag) (C : Addr) : Sp := fun vs H Q E => ∃ x b, vs = [x] ∧ Pl K H x b ∧ (∀ i (f : Nat), x = .int i → foldI i = f → f < 65535 → Q (.str (longT f)) H) ∧ (within x (-32767) 32767 = false → E (.ref C) none H)
def gradeT (f g : Nat) : Str := if 12 ≤ f / 2 ^ g then onesT 12 ++ twosT 16 f else onesT (f / 2 ^ g) ++ "0" ++ twosT g (f % 2 ^ g)
theorem twosT_len (m n : Nat) : (twosT m n).length = m := by
  show ((bitsL m n).toArray).size = m
  simp [bitsL_len]
def spGrade (K : PySem.W.Frag) (CN CG : Addr) : Sp := fun vs H Q E => ∃ x b y yb, vs = [x, y] ∧ Pl K H x b ∧ Pl K H y yb ∧ (within x (-32767) 32767 = false → E (.ref CN) none H) ∧
  ∀ i (f : Nat), x = .int i → foldI i = f → f < 65535 → (within y 0 7 = false → E (.ref CG) none H) ∧ ∀ g : Nat, y = .int g → g ≤ 7 → Q (.str (gradeT f g)) H
end
end K05
namespace K05
open PySem PySem.Spec PyProof.Rows L2 PySem.W LamX KA
section
variable {P : Program} {w : World} {K : PySem.W.Frag} {mg : Str → Option Value} {base : Heap} (T : Top K mg)
def spTwo : Sp := fun vs H Q _ => ∃ n : Nat, vs = [.int n] ∧ n ≤ 1000 ∧ Q (.int ((2 ^ n : Nat) : Int)) H
theorem bitsL_front : ∀ (k n : Nat), bitsL (k + 1) n = (48 + (n / 2 ^ k) % 2) :: bitsL k n
  | 0, n => by simp [bitsL]
  | k + 1, n => by
    rw [bitsL, bitsL_front k (n / 2), Nat.div_div_eq_div_mul, ← Nat.pow_succ']
    simp [bitsL]
theorem bit_str (n : Nat) : (Str.ofString (toString ((n : Int) % 2)) : Str) = ⟨#[48 + n % 2]⟩ := by
  have h : (n : Int) % 2 = 0 ∧ n % 2 = 0 ∨ (n : Int) % 2 = 1 ∧ n % 2 = 1 := by omega
  rcases h with ⟨e1, e2⟩ | ⟨e1, e2⟩
  · rw [e1, e2]
    rfl
  · rw [e1, e2]
    rfl
theorem bit_log (n : Nat) : ((n : Int) % 2).natAbs.log2 < 1920 := by
  have h : (n : Int) % 2 = 0 ∨ (n : Int) % 2 = 1 := by omega
  rcases h with e | e <;> rw [e] <;> decide
theorem cons_str (d : Nat) (l : List Nat) : ((⟨#[d]⟩ : Str) ++ ⟨l.toArray⟩) = ⟨(d :: l).toArray⟩ := by
  show (⟨#[d] ++ l.toArray⟩ : Str) = _
  congr 1
  apply Array.toList_inj.mp
  simp
def spTwos : Sp := fun vs H Q _ => ∃ n m : Nat, vs = [.int n, .int m] ∧ m ≤ 100 ∧ Q (.str (twosT m n)) H
def spLLong : Sp := fun vs H Q _ => ∃ (i : Int) (f : Nat), vs = [.int i] ∧ foldI i = f ∧ f < 65535 ∧ Q (.str (longT f)) H
theorem tail_small {f : Nat} (h : f < 65536) : (tailL f).length ≤ 16 := by
  rcases Nat.eq_zero_or_pos f with z | z
  · subst z
    decide
  · have := binL_le 16 f (by decide) h
    rw [binL_head f z] at this
    simp at this
    omega
def spLGraded : Sp := fun vs H Q _ => ∃ (i : Int) (f g : Nat), vs = [.int i, .int g] ∧ foldI i = f ∧ f < 65535 ∧ g ≤ 7 ∧ Q (.str (gradeT f g)) H
end
end K05
namespace K05
open PySem PySem.Spec PyProof.Rows L2 PySem.W LamX KA
open Evl (pss_cut tCut)
def spDraw : Sp := fun vs H Q _ => ∃ (st lg cl : Addr) (n m : Nat), vs = [.ref st, .int n] ∧ 0 < n ∧ n < 2 ^ 100 ∧ m ≤ 1000000 ∧ StAt H st lg cl m ∧
  ∀ (r : Nat) (H' : Hp), r < n → StAt H' st lg cl (m + 1) → Kp st lg H H' → Q (.int r) H'
section
variable {P : Program} {w : World} {K : PySem.W.Frag} {mg : Str → Option Value} {base : Heap} (T : Top K mg)
theorem draw_div {n : Nat} (h0 : 0 < n) (h : n < 2 ^ 100) {i : Int} : CDivW i (n : Int) := wide_div (b := 100) (by omega) (by simpa using h) (by decide) (by decide)
theorem ok_draw : FnOk P w K mg base (L2.CX P w) 1 T._law_draw.a T._law_draw.d ["state", "size_here"] spDraw := by
  refine T._law_draw.f.okX sc__law_draw (fun vs H Q E h => ?_) (fun cdv A outer s H vs Q E hr h => ?_)
  · obtain ⟨st, lg, cl, n, m, rfl, _⟩ := h
    rfl
  · obtain ⟨st, lg, cl, n, m, rfl, hn, hn2, hm, ⟨large, cells, left, turn, S, ht⟩, k⟩ := h
    have hu := hu_of hr
    refine ⟨_, pss_cut (ps_while (passes_of rfl) (PW.pt (pw_and (pt_cmpR op_eq (pe_dget hu (pv 0) pe_str (fun _ _ => rfl)) pe_int (nomark _)) (pw_and1 (pt_cmpR (op_neD hr.units) (pe_dget hu (pv 0) pe_str (fun _ _ => rfl)) (pe_lst pa_nil) (nomark _)))))
        (pss_one (ps_dput hu (pv 0) pe_str (pe_bm PySem.F.plainAttrs_list PySem.F.slot_list_pop PySem.F.type_list_pop mt_popAt (pe_dget hu (pv 0) pe_str (fun _ _ => rfl)) (pa_cons pe_int pa_nil)) rfl)))
      (pss_cons (ps_if (pt_cmpR op_gt (pe_dget hu (pv 0) pe_str (fun _ _ => rfl)) pe_int (nomark _))
        (pss_cons (ps_set (i := 2) sc__law_draw.nd rfl (.inl rfl) (pe_op op_mod (pe_callTy call_int1 (by rfl) T.b_int PyProof.Rows.boot_int (pa_cons (pe_dget hu (pv 0) pe_str (fun _ _ => rfl)) pa_nil)) (pv 1)))
        (pss_cons (ps_dput hu (pv 0) pe_str (pe_op op_fdivW (pe_dget hu (pv 0) pe_str (fun _ _ => rfl)) (pv 1)) rfl)
        (pss_one (ps_ret (pv 2))))) pss_nil)
      (pss_cons (ps_set (i := 3) sc__law_draw.nd rfl (.inl rfl) (pe_op op_add (pe_dget hu (pv 0) pe_str (fun _ _ => rfl)) pe_int))
      (pss_cons (ps_dput hu (pv 0) pe_str (pv 3) rfl)
      (pss_cut (ps_set (i := 4) sc__law_draw.nd rfl (.inl rfl) (pe_ifExp (pt_cmpR (op_neD hr.units) (pe_dget hu (pv 0) pe_str (fun _ _ => rfl)) (pe_lst pa_nil) (nomark _))
        (pe_ix ix_list (pe_dget hu (pv 0) pe_str (fun _ _ => rfl)) (pe_op op_mod (pe_callTy call_int1 (by rfl) T.b_int PyProof.Rows.boot_int (pa_cons (pv 3) pa_nil)) (pe_callB call_len_seq (by rfl) T.b_len PySem.boot_len (pa_cons (pe_dget hu (pv 0) pe_str (fun _ _ => rfl)) pa_nil))) (fun _ _ => rfl))
        pe_int))
      (pss_cons (ps_set (i := 5) sc__law_draw.nd rfl (.inl rfl) (pe_op op_mod (pe_callTy call_int1 (by rfl) T.b_int PyProof.Rows.boot_int (pa_cons (pe_op op_pow (pe_op op_add (pe_op op_add (pe_op op_mod (pe_callTy call_int1 (by rfl) T.b_int PyProof.Rows.boot_int (pa_cons (pv 4) pa_nil)) pe_int) (pe_op op_mul pe_int (pv 3))) pe_int) pe_int) pa_nil)) pe_int))
      (pss_one (ps_ret (pe_op op_mod (pe_callTy call_int1 (by rfl) T.b_int PyProof.Rows.boot_int (pa_cons (pe_op op_fdiv (pe_op op_mod (pe_callTy call_int1 (by rfl) T.b_int PyProof.Rows.boot_int (pa_cons (pe_op op_pow (pe_op op_add (pv 5) (pe_op op_mul pe_int (pv 3))) pe_int) pa_nil)) pe_int) pe_int) pa_nil)) (pv 1))))))))), ?_⟩
    -- the while
    refine ⟨fun σ' H' => σ' = [some (.ref st), some (.int n), none, none, none, none] ∧ ∃ large' left', StD H' st lg cl large' cells left' turn ∧ Kp st lg H H', ?_, ?_⟩
    · refine ⟨fun μ σ' H' => σ' = [some (.ref st), some (.int n), none, none, none, none] ∧ ∃ large' left', large'.length = μ ∧ StD H' st lg cl large' cells left' turn ∧ Kp st lg H H',
        ⟨large.length, rfl, large, left, rfl, S, Kp.refl⟩, ?_⟩
      rintro μ σ' H1 ⟨rfl, large', left', hμ, S1, kp1⟩
      refine ⟨_, rfl, st, _, rfl, (show DGet H1 st (kV kLeft) _ from st_left ▸ DGet.k S1.d), rfl, _, rfl, ?_⟩
      by_cases c1 : left' = 0
      · subst c1
        refine iteT ⟨_, rfl, st, _, rfl, (show DGet H1 st (kV kLarge) _ from st_large ▸ DGet.k S1.d), by decide, fun p hp => ?_⟩
        have S2 := S1.same (Same.new (o := .lst []) hp)
        have kp2 := kp1.trans (Kp.same (Same.new (o := .lst []) hp))
        refine ⟨_, _, dp_int_list S2.l, dp_nil upd_same, shaped_is _, shaped_nil, _, rfl, ?_⟩
        rw [eqv_ints_nil]
        cases large' with
        | nil => exact iteF ⟨rfl, [], 0, S2, kp2⟩
        | cons x rest =>
          refine iteT ⟨fun σ' H' => σ' = [some (.ref st), some (.int n), none, none, none, none] ∧ ∃ large' left', large'.length = rest.length ∧ StD H' st lg cl large' cells left' turn ∧ Kp st lg H H',
            fun σ' H' ⟨e, l', lf, e2, r⟩ => ⟨rest.length, by rw [← hμ]; exact Nat.lt_succ_self _, e, l', lf, e2, r⟩, ?_⟩
          refine ⟨_, rfl, st, .ref lg, rfl, (show DGet _ st (kV kLarge) _ from st_large ▸ DGet.k S2.d), .inl ⟨rfl, _, SqL.of S2.l⟩, lg, _, 0, 0, .int x, rfl, rfl, S2.l, by decide, by decide, by simp [seqIndex?], rfl, ?_⟩
          have S3 : StD (upd (upd H1 p (.lst [])) lg (.lst (rest.map V.int))) st lg cl rest cells 0 turn :=
            { d := (upd_ne S2.st_lg).trans S2.d, l := upd_same, c := (upd_ne S2.ne.symm).trans S2.c, ne := S2.ne, pl := fun y hy => S2.pl y (List.mem_cons_of_mem _ hy), p0 := S2.p0 }
          have hx : 0 ≤ x := S2.pl x List.mem_cons_self
          refine ⟨_, rfl, st, _, rfl, (show DPut _ st (kV kLeft) _ _ from DPut.k S3.d (by show 4 < sizeLine; decide)), ?_⟩
          rw [st_put_left]
          exact ⟨rfl, rest, x, rfl, S3.put hx, (kp2.trans Kp.put2).trans Kp.put⟩
      · rw [show decide (V.int left' = V.int 0) = false from decide_eq_false fun z => c1 (V.int.inj z)]
        exact iteF ⟨rfl, large', left', S1, kp1⟩
    · rintro σ' H1 ⟨rfl, large', left', S1, kp1⟩
      refine ⟨_, rfl, st, _, rfl, (show DGet H1 st (kV kLeft) _ from st_left ▸ DGet.k S1.d), _, _, rfl, rfl, _, rfl, ?_⟩
      by_cases c1 : 0 < left'
      · rw [show decide ((0 : Int) < left') = true from decide_eq_true c1]
        refine iteT ⟨_, rfl, st, _, rfl, (show DGet H1 st (kV kLeft) _ from st_left ▸ DGet.k S1.d), .inl ⟨_, rfl, _, rfl, _, _, rfl, rfl, (by show (0 : Int) < (n : Int); omega), ?_⟩⟩
        refine ⟨_, rfl, st, _, rfl, (show DGet H1 st (kV kLeft) _ from st_left ▸ DGet.k S1.d), _, rfl, _, _, rfl, rfl, draw_div hn hn2, _, rfl, st, _, rfl, (show DPut _ st (kV kLeft) _ _ from DPut.k S1.d (by show 4 < sizeLine; decide)), ?_⟩
        rw [st_put_left]
        have hr0 := Int.emod_nonneg left' (show (n : Int) ≠ 0 by omega)
        have hr1 := Int.emod_lt_of_pos left' (show (0 : Int) < n by omega)
        have S3 := S1.put (t := turn) (l := left' / (n : Int)) (Int.ediv_nonneg (by omega) (by omega))
        exact ⟨_, rfl, q_int (k (left' % (n : Int)).toNat _ (by omega) ⟨_, _, _, _, S3, by omega⟩ (kp1.trans Kp.put)) (by omega)⟩
      · rw [show decide ((0 : Int) < left') = false from decide_eq_false c1]
        refine iteF ⟨_, rfl, st, _, rfl, (show DGet H1 st (kV kTurn) _ from st_turn ▸ DGet.k S1.d), _, _, rfl, rfl, _, rfl, _, rfl, st, _, rfl, (show DPut _ st (kV kTurn) _ _ from DPut.k S1.d (by show 4 < sizeLine; decide)), ?_⟩
        rw [st_put_turn]
        have S2 : StD (upd H1 st (.dK (stKv lg cl left' ((turn + 1 : Nat) : Int)))) st lg cl large' cells left' (turn + 1) := S1.put S1.p0
        have kp2 : Kp st lg H (upd H1 st (.dK (stKv lg cl left' ((turn + 1 : Nat) : Int)))) := kp1.trans Kp.put
        have e1 : ((turn : Int) + 1) = ((turn + 1 : Nat) : Int) := by omega
        rw [e1]
        generalize upd H1 st (.dK (stKv lg cl left' ((turn + 1 : Nat) : Int))) = H2 at S2 kp2 ⊢
        refine ⟨fun σ' H' => ∃ c : Int, σ' = [some (.ref st), some (.int n), none, some (.int ((turn + 1 : Nat) : Int)), some (.int c), none] ∧ StD H' st lg cl large' cells left' (turn + 1) ∧ Kp st lg H H', ?_, ?_⟩
        · refine ⟨_, rfl, st, .ref cl, rfl, (show DGet H2 st (kV kCells) _ from st_cells ▸ DGet.k S2.d), by decide, fun p hp => ?_⟩
          have S3 := S2.same (Same.new (o := .lst []) hp)
          have kp3 := kp2.trans (Kp.same (Same.new (o := .lst []) hp))
          refine ⟨_, _, dp_int_list S3.c, dp_nil upd_same, shaped_is _, shaped_nil, _, rfl, ?_⟩
          rw [eqv_ints_nil]
          generalize upd H2 p (.lst []) = H3 at S3 kp3 ⊢
          cases cells with
          | nil => exact iteF ⟨0, rfl, S3, kp3⟩
          | cons y ys =>
            refine iteT ⟨_, rfl, st, .ref cl, rfl, (show DGet H3 st (kV kCells) _ from st_cells ▸ DGet.k S3.d), _, rfl, .inl ⟨_, rfl, _, rfl, st, .ref cl, rfl, (show DGet H3 st (kV kCells) _ from st_cells ▸ DGet.k S3.d), cl, _, rfl, .inl (SqL.of S3.c), _, _, rfl, rfl, ?_, ?_⟩⟩
            · show (0 : Int) < ((((y :: ys).map V.int).length : Nat) : Int)
              simp
            · have hlen : ((y :: ys).map V.int).length = (y :: ys).length := List.length_map _
              have hz : (turn + 1) % (y :: ys).length < (y :: ys).length := Nat.mod_lt _ (by simp)
              obtain ⟨c, hc⟩ : ∃ c, (y :: ys)[(turn + 1) % (y :: ys).length]? = some c := ⟨_, List.getElem?_eq_getElem hz⟩
              refine ⟨cl, _, _, .int c, rfl, rfl, SqL.of S3.c, ?_, c, rfl, S3, kp3⟩
              rw [hlen, show (((turn : Int) + 1) % (((y :: ys).length : Nat) : Int)) = (((turn + 1) % (y :: ys).length : Nat) : Int) from rfl]
              exact atI_nat (by rw [List.getElem?_map, hc]; rfl)
        · rintro σ' H3 ⟨c, rfl, S3, kp3⟩
          have h1 := Int.emod_nonneg c (show (2147483563 : Int) ≠ 0 by decide)
          have h2 := Int.emod_lt_of_pos c (show (0 : Int) < 2147483563 by decide)
          refine ⟨_, rfl, .inl ⟨_, rfl, _, _, rfl, rfl, (by show (0 : Int) < 2147483563; decide), _, rfl, _, _, rfl, rfl, .inl ⟨by decide, by decide⟩, _, _, rfl, rfl, _, _, rfl, rfl, _, _, rfl, rfl, ⟨by decide, by decide, ?_⟩, .inl ⟨_, rfl, _, _, rfl, rfl, (by show (0 : Int) < 2147483629; decide), ?_⟩⟩⟩
          · generalize c % 2147483563 = c' at h1 h2 ⊢
            omega
          generalize (c % 2147483563 + 40692 * ((turn + 1 : Nat) : Int) + 24681) ^ (3 : Int).toNat = z
          have h3 := Int.emod_nonneg z (show (2147483629 : Int) ≠ 0 by decide)
          have h4 := Int.emod_lt_of_pos z (show (0 : Int) < 2147483629 by decide)
          dsimp only
          generalize z % 2147483629 = y at h3 h4 ⊢
          refine ⟨_, rfl, _, rfl, _, _, rfl, rfl, .inl ⟨by decide, by decide⟩, _, _, rfl, rfl, _, _, rfl, rfl, ⟨by decide, by decide, by omega⟩, .inl ⟨_, rfl, _, _, rfl, rfl, (by show (0 : Int) < 2147483579; decide), _, _, rfl, rfl, ⟨by decide, by decide⟩, .inl ⟨_, rfl, _, rfl, _, _, rfl, rfl, (by show (0 : Int) < (n : Int); omega), ?_⟩⟩⟩
          generalize (y + 104917 * ((turn + 1 : Nat) : Int)) ^ (5 : Int).toNat % 2147483579 / 29 = x
          have h5 := Int.emod_nonneg x (show (n : Int) ≠ 0 by omega)
          have h6 := Int.emod_lt_of_pos x (show (0 : Int) < n by omega)
          exact q_int (k (x % (n : Int)).toNat _ (by omega) ⟨_, _, _, _, S3, by omega⟩ kp3) (by omega)
end
end K05
namespace K05
open PySem PySem.Spec PyProof.Rows L2 PySem.W LamX KA
open Evl (pss_cut tCut)
def spPick : Sp := fun vs H Q _ => ∃ (st lg cl a : Addr) (xs : List V) (m : Nat), vs = [.ref st, .ref a] ∧ H a = some (.lst xs) ∧ a ≠ lg ∧ 0 < xs.length ∧ xs.length ≤ 1000 ∧ m ≤ 1000000 ∧ StAt H st lg cl m ∧
  ∀ (x : V) (H' : Hp), x ∈ xs → StAt H' st lg cl (m + 1) → Kp st lg H H' → Q x H'
section
variable {P : Program} {w : World} {K : PySem.W.Frag} {mg : Str → Option Value} {base : Heap} (T : Top K mg)
theorem ok_pick : FnOk P w K mg base (L2.CX P w) 2 T._law_pick.a T._law_pick.d ["state", "several"] spPick := by
  refine T._law_pick.f.okX sc__law_pick (fun vs H Q E h => ?_) (fun cdv A outer s H vs Q E hr h => ?_)
  · obtain ⟨st, lg, cl, a, xs, m, rfl, _⟩ := h
    rfl
  · obtain ⟨st, lg, cl, a, xs, m, rfl, ha, hal, h0, h1, hm, S, k⟩ := h
    have has : a ≠ st := by
      obtain ⟨_, _, _, _, S', _⟩ := S
      exact ne_of ha S'.d (by intro z; cases z)
    refine ⟨_, pss_one (ps_ret (pe_ix ix_list (pv 1) (pe_call (ok_draw T) hr (by rfl) T._law_draw.m T._law_draw.f.kp (bd__law_draw T) .nil passE (pa_cons (pv 0) (pa_cons (pe_callB call_len_seq (by rfl) T.b_len PySem.boot_len (pa_cons (pv 1) pa_nil)) pa_nil))) (fun _ _ => rfl))), ?_⟩
    refine ⟨_, rfl, _, rfl, _, rfl, a, xs, rfl, .inl (SqL.of ha), st, lg, cl, xs.length, m, rfl, h0, ?_, hm, S, fun r H' hr' S' kp => ?_⟩
    · exact Nat.lt_of_le_of_lt h1 (by decide)
    · obtain ⟨x, hx⟩ : ∃ x, xs[r]? = some x := ⟨_, List.getElem?_eq_getElem hr'⟩
      exact ⟨a, xs, _, x, rfl, rfl, SqL.of (kp a _ ha has hal), atI_nat hx, k x H' (List.mem_of_getElem? hx) S' kp⟩
def spBegun (K : PySem.W.Frag) : Sp := fun vs H Q _ => ∃ (a : Addr) (ns : List Int), vs = [.ref a] ∧ SqL K H a (ns.map V.int) ∧ ns.length ≤ 63 ∧
  ∀ (st lg cl : Addr) (H' : Hp), StAt H' st lg cl 0 → Same H H' → H st = none → H lg = none → Q (.ref st) H'
theorem ok_begun : FnOk P w K mg base (L2.CX P w) 1 T._law_begun.a T._law_begun.d ["script"] (spBegun K) := by
  refine T._law_begun.f.okX sc__law_begun (fun vs H Q E h => ?_) (fun cdv A outer s H vs Q E hr h => ?_)
  · obtain ⟨a, ns, rfl, _⟩ := h
    rfl
  · obtain ⟨a, ns, rfl, hS, hl, k⟩ := h
    refine ⟨_, pss_cons (ps_setLc (i := 1) (own := [("cell", 3)]) (g := gName 3) (tt := tYes) rfl sc__law_begun.nd rfl rfl (sw_true rfl rfl rfl (by decide +kernel)) (pi_list (pv 0)) (blkOk_by (own := [("cell", 3)]) (N := ["script", "cells_here", "large", "cell"]) (sc := defScope s__law_begun) (by decide +kernel))
        (fun _ _ _ _ _ => pg_name (i := 3) sc__law_begun.nd rfl (Or.inl rfl)) (fun _ _ _ _ _ => pts_nil) (fun _ _ _ _ _ => pe_callB call_abs (by rfl) T.b_abs (by decide +kernel) (pa_cons (pv 3) pa_nil)))
      (pss_cons (ps_setLc (i := 2) (own := [("cell", 3)]) (g := gName 3) rfl sc__law_begun.nd rfl rfl (sw_true rfl rfl rfl (by decide +kernel)) (pi_list (pv 1)) (blkOk_by (own := [("cell", 3)]) (N := ["script", "cells_here", "large", "cell"]) (sc := defScope s__law_begun) (by decide +kernel))
        (fun _ _ _ _ _ => pg_name (i := 3) sc__law_begun.nd rfl (Or.inl rfl)) (fun _ _ _ _ _ => pts_one (pt_cmpR op_ge (pv 3) (pe_op op_pow pe_int pe_int) (nomark _))) (fun _ _ _ _ _ => pe_op op_sub (pv 3) (pe_op op_pow pe_int pe_int)))
      (pss_one (ps_ret (pe_disp (pps_cons pe_str (pv 2) (pps_cons pe_str (pv 1) (pps_cons pe_str pe_int (pps_cons pe_str pe_int pps_nil)))) (by rfl) (by rfl) (fun z => by cases z) (by decide))))), ?_⟩
    refine ⟨_, rfl, a, rfl, ⟨_, hS⟩, fun cl hcl => lc_list (K := K) (a := a) (xs := ns.map V.int) (fun i H' => H' cl = some (.lst ((ns.take i).map fun n => V.int (if n < 0 then -n else n))) ∧ Same H H') ⟨upd_same, Same.new hcl⟩ (fun i H' _ h => h.2.seq hS) ?_ ?_⟩
    · rintro i x H' hx ⟨h1, h2⟩
      obtain ⟨n, hn, rfl⟩ : ∃ n, ns[i]? = some n ∧ x = V.int n := by
        rw [List.getElem?_map] at hx
        cases e : ns[i]? with
        | none => rw [e] at hx; cases hx
        | some n => rw [e] at hx; exact ⟨n, rfl, (Option.some.inj hx).symm⟩
      refine ⟨rfl, ?_⟩
      dsimp only [tYes]
      rw [if_pos rfl]
      refine ⟨_, rfl, n, rfl, _, h1, ?_, ?_, ?_⟩
      · rw [List.length_map, List.length_take]
        exact Nat.lt_of_le_of_lt (Nat.min_le_right _ _) (Nat.lt_of_le_of_lt hl (by decide))
      · rw [upd_same, take_map_snoc _ _ _ _ hn]
      · intro b o e
        rw [upd_ne (ne_of_none e hcl)]
        exact h2 b o e
    rintro H1 ⟨h1, h2⟩
    rw [List.length_map, List.take_length] at h1
    have h1 : H1 cl = some (.lst ((ns.map fun n => if n < 0 then -n else n).map V.int)) := by rw [h1, List.map_map]; rfl
    have hlc : (ns.map fun n => if n < 0 then -n else n).length ≤ 63 := by rw [List.length_map]; exact hl
    generalize (ns.map fun n => if n < 0 then -n else n) = cells at h1 hlc
    refine ⟨_, rfl, cl, rfl, ⟨_, SqL.of h1⟩, fun lg hlg => lc_list (K := K) (a := cl) (xs := cells.map V.int) (fun i H' => H' lg = some (.lst ((((cells.take i).filter fun c => decide ((1000000000000000000 : Int) ≤ c)).map fun c => c - 1000000000000000000).map V.int)) ∧ Same H1 H') ⟨upd_same, Same.new hlg⟩ (fun i H' _ h => h.2.seq (SqL.of h1)) ?_ ?_⟩
    · rintro i x H' hx ⟨h3, h4⟩
      obtain ⟨n, hn, rfl⟩ : ∃ n, cells[i]? = some n ∧ x = V.int n := by
        rw [List.getElem?_map] at hx
        cases e : cells[i]? with
        | none => rw [e] at hx; cases hx
        | some n => rw [e] at hx; exact ⟨n, rfl, (Option.some.inj hx).symm⟩
      have et : cells.take (i + 1) = cells.take i ++ [n] := by rw [List.take_add_one, hn]; rfl
      refine ⟨rfl, _, rfl, _, _, rfl, rfl, ⟨by decide, by decide, by decide⟩, _, _, rfl, rfl, _, rfl, ?_⟩
      rw [show ((10 : Int) ^ (18 : Int).toNat) = 1000000000000000000 by decide, et, List.filter_append]
      by_cases c : (1000000000000000000 : Int) ≤ n
      · rw [show decide ((1000000000000000000 : Int) ≤ n) = true from decide_eq_true c]
        dsimp only
        rw [if_pos rfl]
        refine ⟨_, rfl, _, _, rfl, rfl, ⟨by decide, by decide, by decide⟩, _, _, rfl, rfl, _, h3, ?_, ?_, ?_⟩
        · rw [List.length_map, List.length_map]
          refine Nat.lt_of_le_of_lt (Nat.le_trans (List.length_filter_le _ _) ?_) (show 63 < sizeLine by decide)
          rw [List.length_take]
          omega
        · rw [upd_same]
          simp [c]
        · intro b o e
          rw [upd_ne (ne_of_none e hlg)]
          exact h4 b o e
      · rw [show decide ((1000000000000000000 : Int) ≤ n) = false from decide_eq_false c]
        dsimp only
        rw [if_neg Bool.false_ne_true]
        refine ⟨?_, h4⟩
        simpa [c] using h3
    rintro H2 ⟨h3, h4⟩
    intro st hst
    refine ⟨_, rfl, _, rfl, upd_same, stKv lg cl 0 0, rfl, (by show 4 ≤ 15; decide), ?_⟩
    rw [st_merge]
    have hne : cl ≠ lg := ne_of_none h1 hlg
    have h5 := h4 cl _ h1
    rw [List.length_map, List.take_length] at h3
    have hp : ∀ x ∈ (cells.filter fun c => decide ((1000000000000000000 : Int) ≤ c)).map (fun c => c - 1000000000000000000), 0 ≤ x := by
      intro x hx
      obtain ⟨c, hc, rfl⟩ := List.mem_map.mp hx
      have := (List.mem_filter.mp hc).2
      simp at this
      omega
    generalize (cells.filter fun c => decide ((1000000000000000000 : Int) ≤ c)).map (fun c => c - 1000000000000000000) = large at h3 hp
    have n1 : lg ≠ st := ne_of_none h3 hst
    have n2 : cl ≠ st := ne_of_none h5 hst
    have same : Same H (upd (upd H2 st (.dK [])) st (.dK (stKv lg cl 0 0))) := fun b o e => by
      have e2 := h4 b o (h2 b o e)
      rw [upd_upd, upd_ne (ne_of_none e2 hst)]
      exact e2
    refine k st lg cl _ ⟨large, cells, 0, 0, ⟨upd_same, ?_, ?_, hne.symm, hp, Int.le_refl _⟩, Nat.le_refl _⟩ same ((h2.trans h4).free hst) (h2.free hlg)
    · rw [upd_upd, upd_ne n1]
      exact h3
    · rw [upd_upd, upd_ne n2]
      exact h5
end
end K05
namespace K05
open PySem PySem.Spec PyProof.Rows L2 PySem.W LamX KA KW KU KL
/-! ### the class of shapes, its error -/
structure BadShapeT (P : Program) (w : World) (K : PySem.W.Frag) (mg : Str → Option Value) (R : Addr) where
  C : Addr
  fI : Addr
  cda : Addr
  cc : Addr
  e : Expr
  g : mg "BadShape" = some (.ref C)
  u : UpTxt P K C fI cda cc "BadShape.__init__" "part" e
  r : PySem.W.subIn K (.ref C) (.ref R) = some true
  x : ExcC K C
  sayN : Text P w fI cda cc "BadShape.__init__" "part" e .none
  sayS : ∀ (y : Str) (t : Tok), y.length ≤ 1000 → Text P w fI cda cc "BadShape.__init__" "part" e (.str y t)
theorem exd_exm {P : Program} {w : World} {K : PySem.W.Frag} {mg : Str → Option Value} (R : ReelT K mg) (S : BadShapeT P w K mg R.C) : PySem.W.exmOne K (.ref S.C) (.ref R.C) = some true := PySem.W.exm_ref R.b R.d R.t S.r
structure ShapeT (K : PySem.W.Frag) (mg : Str → Option Value) where
  C : Addr
  f : Addr
  d : FuncData
  F : Fun K "__init__" "Shape.__init__" s_Shape_init f d
  M : Mk K C f
  g : mg "Shape" = some (.ref C)
  i : C8.InsC K C
  n1 : NoAttr K C "height"
  n2 : NoAttr K C "width"
  n3 : NoAttr K C "low"
  n4 : NoAttr K C "high"
  n5 : NoAttr K C "middle"
  kI : PySem.W.kitOne K (.type "int") (.ref C) = some false
  kS : PySem.W.kitOne K (.type "str") (.ref C) = some false
  kN : PySem.W.kitOne K (.type "NoneType") (.ref C) = some false
def shapeFs (h w lo hi : Int) : List (Str × V) := [("height", .int h), ("width", .int w), ("low", .int lo), ("high", .int hi), ("middle", .int ((lo + hi) / 2))]
/-- x is a shape with the ends lo and hi -/
def ShV (C : Addr) (H : Hp) (x : V) (lo hi : Int) : Prop := ∃ (a dx : Addr) (h w : Int), x = .ref a ∧ H a = some (.ins C dx (shapeFs h w lo hi)) ∧ -512 ≤ lo ∧ lo ≤ hi ∧ hi ≤ 511
theorem ShV.keep {C : Addr} {H H' : Hp} {x : V} {lo hi : Int} (h : ShV C H x lo hi) (e : ∀ a o, x = .ref a → H a = some o → H' a = some o) : ShV C H' x lo hi := by
  obtain ⟨a, dx, h, w, rfl, h1, h2⟩ := h
  exact ⟨a, dx, h, w, rfl, e a _ rfl h1, h2⟩
/-- no shape, and of a kind that isinstance tells -/
inductive OddS : V → Prop where
  | int (i : Int) : OddS (.int i)
  | str (s : Str) : OddS (.str s)
  | non : OddS .non
theorem OddS.ty {K : PySem.W.Frag} {mg : Str → Option Value} {H : Hp} {x : V} (S : ShapeT K mg) (h : OddS x) : ∃ t, TyX K H x t ∧ PySem.W.kitOne K t (.ref S.C) = some false := by
  cases h with
  | int i => exact ⟨_, .base (.int i), S.kI⟩
  | str i => exact ⟨_, .base (.str i), S.kS⟩
  | non => exact ⟨_, .base .non, S.kN⟩
theorem ShV.ty {K : PySem.W.Frag} {mg : Str → Option Value} {H : Hp} {x : V} {lo hi : Int} (S : ShapeT K mg) (h : ShV S.C H x lo hi) : TyX K H x (.ref S.C) := by
  obtain ⟨a, dx, _, _, rfl, h1, _⟩ := h
  exact .base (.ins h1 S.i.cl S.i.ha S.i.hn S.i.htk S.i.hm)
def clipI (lo hi n : Int) : Int := if (if hi < n then hi else n) > lo then (if hi < n then hi else n) else lo
theorem clip_eq {lo hi n : Int} (h : lo ≤ hi) : clipI lo hi n = if n < lo then lo else if hi < n then hi else n := by
  unfold clipI
  split <;> (repeat' split) <;> omega
def levelI (r l : Int) : Int := if 0 ≤ r then ((if r < 0 then -r else r) + l) / (2 * l + 1) else -(((if r < 0 then -r else r) + l) / (2 * l + 1))
section
variable {P : Program} {w : World} {K : PySem.W.Frag} {mg : Str → Option Value} {base : Heap} (T : Top K mg) (SH : ShapeT K mg) (BE : BadShapeT P w K mg T.reel.C)
/-- clipped -/
def spClip : Sp := fun vs H Q _ => ∃ n lo hi : Int, vs = [.int n, .int lo, .int hi] ∧ Q (.int (clipI lo hi n)) H
def spStep : Sp := fun vs H Q _ => ∃ l : Int, vs = [.int l] ∧ 0 ≤ l ∧ l ≤ 1000 ∧ Q (.int (2 * l + 1)) H
def spLevelFor : Sp := fun vs H Q _ => ∃ r l : Int, vs = [.int r, .int l] ∧ 0 ≤ l ∧ l ≤ 1000 ∧ Q (.int (levelI r l)) H
/-- a guess against a shape -/
def spCheckG (C CG : Addr) : Sp := fun vs H Q E => ∃ x y yb lo hi, vs = [x, y] ∧ ShV C H x lo hi ∧ Pl K H y yb ∧ (within y lo hi = true → Q .non H) ∧ (within y lo hi = false → E (.ref CG) none H)
/-- what comes of no shape -/
def noShape (CB : Addr) (H : Hp) (E : XK) : Prop := ∀ d, H d = none → E (.ref CB) (some d) (upd H d (.xd [("part", .non)]))
def spCheckS (C CB : Addr) : Sp := fun vs H Q E => ∃ x, vs = [x] ∧ ((∃ lo hi, ShV C H x lo hi ∧ Q .non H) ∨ (OddS x ∧ noShape CB H E))
theorem ok_check_shape : FnOk P w K mg base (L2.CX P w) 4 T.check_shape.a T.check_shape.d ["shape"] (spCheckS SH.C BE.C) := by
  refine T.check_shape.f.okX sc_check_shape (fun vs H Q E h => ?_) (fun cdv A outer s H vs Q E hr h => ?_)
  · obtain ⟨x, rfl, _⟩ := h
    rfl
  · obtain ⟨x, rfl, h⟩ := h
    refine ⟨_, pss_one (ps_if (pt_not (pt_val (pe_callB call_isi (by rfl) T.b_isinstance PyProof.Rows.boot_isinstance (pa_cons (pv 0) (pa_cons (pe_glob (v := .ref SH.C) (by rfl) SH.g rfl) pa_nil)))))
      (pss_one (ps_raiseUp rfl BE.u BE.g hr (takes_of rfl rfl rfl rfl) (pa_cons pe_non pa_nil) (by rfl))) pss_nil), ?_⟩
    rcases h with ⟨lo, hi, hs, k⟩ | ⟨ho, k⟩
    · exact ⟨_, rfl, x, _, _, _, true, rfl, .own _, hs.ty SH, SH.i.me, _, rfl, iteF k⟩
    · obtain ⟨t, ht, hk⟩ := ho.ty (H := H) SH
      refine ⟨_, rfl, x, _, _, _, false, rfl, .own _, ht, hk, _, rfl, iteT ⟨_, rfl, fun v' r => ?_, k⟩⟩
      cases r
      exact BE.sayN
end
end K05
namespace K05
open PySem PySem.Spec PyProof.Rows L2 PySem.W LamX KA KW KU KL
open Evl (pss_cut tCut)
section
variable {P : Program} {w : World} {K : PySem.W.Frag} {mg : Str → Option Value} {base : Heap} (T : Top K mg) (SH : ShapeT K mg) (BE : BadShapeT P w K mg T.reel.C)
/-! ### levels -/
def spLevelOf (K : PySem.W.Frag) (CN CL : Addr) : Sp := fun vs H Q E => ∃ x y xb yb, vs = [x, y] ∧ Pl K H x xb ∧ Pl K H y yb ∧ (within x (-32767) 32767 = false → E (.ref CN) none H) ∧
  (∀ r, x = .int r → -32767 ≤ r → r ≤ 32767 → (within y 0 7 = false → E (.ref CL) none H) ∧ ∀ l, y = .int l → 0 ≤ l → l ≤ 7 → Q (.int (levelI r l)) H)
/-- a shape and a guess, then as told -/
def spShG (K : PySem.W.Frag) (C CB CG : Addr) (sp : Int → Int → Int → Hp → VK → XK → Prop) : V → V → Hp → VK → XK → Prop := fun x y H Q E => ∃ yb, Pl K H y yb ∧ ((OddS x ∧ noShape CB H E) ∨ ∃ lo hi, ShV C H x lo hi ∧ (within y lo hi = false → E (.ref CG) none H) ∧
  ∀ g, y = .int g → lo ≤ g → g ≤ hi → sp lo hi g H Q E)
def spRebuilt (K : PySem.W.Frag) (C CB CG CN CL : Addr) : Sp := fun vs H Q E => ∃ x y u v ub vb, vs = [x, y, u, v] ∧ Pl K H u ub ∧ Pl K H v vb ∧ spShG K C CB CG (fun lo hi g H Q E => (within u (-32767) 32767 = false → E (.ref CN) none H) ∧
  ∀ m, u = .int m → -32767 ≤ m → m ≤ 32767 → (within v 0 7 = false → E (.ref CL) none H) ∧ ∀ l, v = .int l → 0 ≤ l → l ≤ 7 → Q (.int (clipI lo hi (g + m * (2 * l + 1)))) H) x y H Q E
def leastI (lo g s l : Int) : Int := if s = lo then -32767 else -((g - s) / (2 * l + 1))
def greatI (hi g s l : Int) : Int := if s = hi then 32767 else (s - g) / (2 * l + 1)
/-- the span of levels, None or a pair -/
def SpanQ (a b : Int) (H : Hp) (Q : VK) : Prop := (a ≤ b → ∀ p, H p = none → Q (.ref p) (upd H p (.tup [.int a, .int b]))) ∧ (b < a → Q .non H)
def spLevels (K : PySem.W.Frag) (C CB CG CN CL : Addr) : Sp := fun vs H Q E => ∃ x y u v ub vb, vs = [x, y, u, v] ∧ Pl K H u ub ∧ Pl K H v vb ∧ spShG K C CB CG (fun lo hi g H Q E => (within u lo hi = false → E (.ref CN) none H) ∧
  ∀ m, u = .int m → lo ≤ m → m ≤ hi → (within v 0 7 = false → E (.ref CL) none H) ∧ ∀ l, v = .int l → 0 ≤ l → l ≤ 7 → SpanQ (leastI lo g m l) (greatI hi g m l) H Q) x y H Q E
/-! ### a shape is made -/
def spInit (C : Addr) : Sp := fun vs H Q _ => ∃ (a dx : Addr) (h w lo hi : Int), vs = [.ref a, .int h, .int w, .int lo, .int hi] ∧ 1 ≤ h ∧ h ≤ 16 ∧ 1 ≤ w ∧ w ≤ 16 ∧ -512 ≤ lo ∧ lo ≤ hi ∧ hi ≤ 511 ∧ H a = some (.ins C dx []) ∧
  ∀ H', H' a = some (.ins C dx (shapeFs h w lo hi)) → (∀ b, b ≠ a → H' b = H b) → Q .non H'
include T BE in
theorem ok_init : FnOk P w K mg base (L2.CX P w) 4 SH.f SH.d ["self", "height", "width", "low", "high"] (spInit SH.C) := by
  refine SH.F.okX sc_Shape_init (fun vs H Q E h => ?_) (fun cdv A outer s H vs Q E hr h => ?_)
  · obtain ⟨a, dx, ht, wd, lo, hi, rfl, _⟩ := h
    rfl
  · obtain ⟨a, dx, ht, wd, lo, hi, rfl, h1, h2, h3, h4, h5, h6, h7, ha, k⟩ := h
    obtain ⟨t1, hc1⟩ := T.cMOST_SPOTS
    obtain ⟨t2, hc2⟩ := T.cLOWEST
    obtain ⟨t3, hc3⟩ := T.cHIGHEST
    refine ⟨_, pss_cons (ps_if (pt_not (pt_val (pe_call (ok_is_within T) (hr.mono (by decide)) (by rfl) T.is_within.m T.is_within.f.kp (bd_is_within T) .nil passE (pa_cons (pv 1) (pa_cons pe_int (pa_cons (pe_glob (v := .int 16) (by rfl) hc1 ⟨_, rfl⟩) pa_nil))))))
        (pss_one (ps_raiseUp rfl BE.u BE.g hr (takes_of rfl rfl rfl rfl) (pa_cons pe_str pa_nil) (by rfl))) pss_nil)
      (pss_cons (ps_if (pt_not (pt_val (pe_call (ok_is_within T) (hr.mono (by decide)) (by rfl) T.is_within.m T.is_within.f.kp (bd_is_within T) .nil passE (pa_cons (pv 2) (pa_cons pe_int (pa_cons (pe_glob (v := .int 16) (by rfl) hc1 ⟨_, rfl⟩) pa_nil))))))
        (pss_one (ps_raiseUp rfl BE.u BE.g hr (takes_of rfl rfl rfl rfl) (pa_cons pe_str pa_nil) (by rfl))) pss_nil)
      (pss_cons (ps_if (pt_not (pt_val (pe_call (ok_is_within T) (hr.mono (by decide)) (by rfl) T.is_within.m T.is_within.f.kp (bd_is_within T) .nil passE (pa_cons (pv 3) (pa_cons (pe_glob (v := .int (-512)) (by rfl) hc2 ⟨_, rfl⟩) (pa_cons (pe_glob (v := .int 511) (by rfl) hc3 ⟨_, rfl⟩) pa_nil))))))
        (pss_one (ps_raiseUp rfl BE.u BE.g hr (takes_of rfl rfl rfl rfl) (pa_cons pe_str pa_nil) (by rfl))) pss_nil)
      (pss_cons (ps_if (pt_not (pt_val (pe_call (ok_is_within T) (hr.mono (by decide)) (by rfl) T.is_within.m T.is_within.f.kp (bd_is_within T) .nil passE (pa_cons (pv 4) (pa_cons (pv 3) (pa_cons (pe_glob (v := .int 511) (by rfl) hc3 ⟨_, rfl⟩) pa_nil))))))
        (pss_one (ps_raiseUp rfl BE.u BE.g hr (takes_of rfl rfl rfl rfl) (pa_cons pe_str pa_nil) (by rfl))) pss_nil)
      (pss_cons (ps_fld (pv 0) (pv 1) rfl) (pss_cons (ps_fld (pv 0) (pv 2) rfl) (pss_cons (ps_fld (pv 0) (pv 3) rfl) (pss_cons (ps_fld (pv 0) (pv 4) rfl)
      (pss_one (ps_fld (pv 0) (pe_op op_fdiv (pe_op op_add (pv 3) (pv 4)) pe_int) rfl))))))))), ?_⟩
    have in_range : ∀ {i lo hi : Int}, lo ≤ i → i ≤ hi → within (.int i) lo hi = true := fun h1 h2 => by simp [within, h1, h2]
    refine ⟨_, rfl, _, true, _, _, rfl, .int ht, _, rfl, ?_⟩
    rw [in_range h1 h2]
    refine iteF ⟨_, rfl, _, true, _, _, rfl, .int wd, _, rfl, ?_⟩
    rw [in_range h3 h4]
    refine iteF ⟨_, rfl, _, true, _, _, rfl, .int lo, _, rfl, ?_⟩
    rw [in_range h5 (by omega)]
    refine iteF ⟨_, rfl, _, rfl, _, true, _, _, rfl, .int hi, _, rfl, ?_⟩
    rw [in_range h6 h7]
    refine iteF ⟨_, rfl, _, rfl, a, SH.C, dx, [], rfl, ha, SH.i.cl, SH.n1, by decide, _, rfl, _, rfl, a, SH.C, dx, _, rfl, upd_same, SH.i.cl, SH.n2, (by show 1 < 1000; decide), _, rfl, _, rfl, a, SH.C, dx, _, rfl, upd_same, SH.i.cl, SH.n3, (by show 2 < 1000; decide),
      _, rfl, _, rfl, a, SH.C, dx, _, rfl, upd_same, SH.i.cl, SH.n4, (by show 3 < 1000; decide), _, rfl, _, rfl, _, _, rfl, rfl, _, _, rfl, rfl, ⟨by decide, by decide⟩, _, rfl, a, SH.C, dx, _, rfl, upd_same, SH.i.cl, SH.n5, (by show 4 < 1000; decide), ?_⟩
    refine k _ upd_same fun b hb => ?_
    rw [upd_ne hb, upd_ne hb, upd_ne hb, upd_ne hb, upd_ne hb]
end
end K05
namespace K05
open PySem PySem.Spec PyProof.Rows L2 PySem.W LamX KA KW KU KL
open Evl (pss_cut tCut)
/-! ### the law's scope: a dict of sides and ends -/
abbrev kTall : Key := Sum.inr "tall"
abbrev kWide : Key := Sum.inr "wide"
abbrev kLeast : Key := Sum.inr "least"
abbrev kMost : Key := Sum.inr "most"
def scKv (t w lo hi : Int) : List (Key × V) := [(kTall, .int t), (kWide, .int w), (kLeast, .int lo), (kMost, .int hi)]
section
variable {t w lo hi : Int}
theorem kTW : ¬ kTall = kWide := by decide +kernel
theorem kTL : ¬ kTall = kLeast := by decide +kernel
theorem kTM : ¬ kTall = kMost := by decide +kernel
theorem kWL : ¬ kWide = kLeast := by decide +kernel
theorem kWM : ¬ kWide = kMost := by decide +kernel
theorem kLM : ¬ kLeast = kMost := by decide +kernel
theorem sc_tall : valV (scKv t w lo hi) kTall = some (.int t) := valV_pos rfl
theorem sc_wide : valV (scKv t w lo hi) kWide = some (.int w) := (valV_neg kTW).trans (valV_pos rfl)
theorem sc_least : valV (scKv t w lo hi) kLeast = some (.int lo) := (valV_neg kTL).trans ((valV_neg kWL).trans (valV_pos rfl))
theorem sc_most : valV (scKv t w lo hi) kMost = some (.int hi) := (valV_neg kTM).trans ((valV_neg kWM).trans ((valV_neg kLM).trans (valV_pos rfl)))
theorem sc_merge : mergeK [] (scKv t w lo hi) = scKv t w lo hi := by
  unfold scKv mergeK
  simp only [List.foldl_cons, List.foldl_nil]
  rw [putK_new (kvs := []) _ valV_nil, List.nil_append]
  rw [putK_new (k := kWide) _ ((valV_neg (show ¬ kTall = kWide from kTW)).trans valV_nil), List.cons_append, List.nil_append]
  rw [putK_new (k := kLeast) _ ((valV_neg (show ¬ kTall = kLeast from kTL)).trans ((valV_neg (show ¬ kWide = kLeast from kWL)).trans valV_nil)), List.cons_append, List.cons_append, List.nil_append]
  rw [putK_new (k := kMost) _ ((valV_neg (show ¬ kTall = kMost from kTM)).trans ((valV_neg (show ¬ kWide = kMost from kWM)).trans ((valV_neg (show ¬ kLeast = kMost from kLM)).trans valV_nil)))]
  rfl
end
/-- x is such a dict -/
structure ScV (H : Hp) (a : Addr) (t w lo hi : Int) : Prop where
  d : H a = some (.dK (scKv t w lo hi))
  t1 : 1 ≤ t
  t2 : t ≤ 16
  w1 : 1 ≤ w
  w2 : w ≤ 16
  l1 : -512 ≤ lo
  l2 : lo ≤ hi
  l3 : hi ≤ 511
theorem ScV.keep {H H' : Hp} {a : Addr} {t w lo hi : Int} (h : ScV H a t w lo hi) (e : ∀ o, H a = some o → H' a = some o) : ScV H' a t w lo hi := { h with d := e _ h.d }
def withI (lo hi n : Int) : Int := if hi < (if lo > n then lo else n) then hi else (if lo > n then lo else n)
theorem with_eq {lo hi n : Int} (h : lo ≤ hi) : withI lo hi n = if n < lo then lo else if hi < n then hi else n := by
  unfold withI
  split <;> (repeat' split) <;> omega
section
variable {P : Program} {w : World} {K : PySem.W.Frag} {mg : Str → Option Value} {base : Heap} (T : Top K mg) (SH : ShapeT K mg) (BE : BadShapeT P w K mg T.reel.C)
def spWithinL : Sp := fun vs H Q _ => ∃ (a : Addr) (t w lo hi n : Int), vs = [.ref a, .int n] ∧ ScV H a t w lo hi ∧ Q (.int (withI lo hi n)) H
theorem ok_lwithin : FnOk P w K mg base (L2.CX P w) 1 T._law_within.a T._law_within.d ["scope", "item"] spWithinL := by
  refine T._law_within.f.okX sc__law_within (fun vs H Q E h => ?_) (fun cdv A outer s H vs Q E hr h => ?_)
  · obtain ⟨a, t, w, lo, hi, n, rfl, _⟩ := h
    rfl
  · obtain ⟨a, t, w, lo, hi, n, rfl, h, k⟩ := h
    have hu := hu_of hr
    refine ⟨_, pss_one (ps_ret (pe_callB (call_min2 rfl) (by rfl) T.b_min PyProof.Rows.boot_min (pa_cons (pe_callB (call_max2 rfl) (by rfl) T.b_max PyProof.Rows.boot_max (pa_cons (pv 1) (pa_cons (pe_dget hu (pv 0) pe_str (fun _ _ => rfl)) pa_nil))) (pa_cons (pe_dget hu (pv 0) pe_str (fun _ _ => rfl)) pa_nil)))), ?_⟩
    exact ⟨_, rfl, _, rfl, a, _, rfl, (show DGet H a (kV kLeast) _ from sc_least ▸ DGet.k h.d), _, _, rfl, _, rfl, a, _, rfl, (show DGet H a (kV kMost) _ from sc_most ▸ DGet.k h.d), _, _, rfl, k⟩
def spGrain : Sp := fun vs H Q _ => ∃ (st lg cl a : Addr) (t w lo hi : Int) (m : Nat), vs = [.ref st, .ref a] ∧ ScV H a t w lo hi ∧ m ≤ 990000 ∧ StAt H st lg cl m ∧
  ∀ (i : Int) (H' : Hp), lo ≤ i → i ≤ hi → StAt H' st lg cl (m + 1) → Kp st lg H H' → Q (.int i) H'
theorem ok_grain : FnOk P w K mg base (L2.CX P w) 2 T._law_grain.a T._law_grain.d ["state", "scope"] spGrain := by
  refine T._law_grain.f.okX sc__law_grain (fun vs H Q E h => ?_) (fun cdv A outer s H vs Q E hr h => ?_)
  · obtain ⟨st, lg, cl, a, t, w, lo, hi, m, rfl, _⟩ := h
    rfl
  · obtain ⟨st, lg, cl, a, t, w, lo, hi, m, rfl, h, hm, S, k⟩ := h
    have hu := hu_of hr
    have b1 := h.l1
    have b2 := h.l2
    have b3 := h.l3
    refine ⟨_, pss_one (ps_ret (pe_op op_add (pe_dget hu (pv 1) pe_str (fun _ _ => rfl)) (pe_call (ok_draw T) hr (by rfl) T._law_draw.m T._law_draw.f.kp (bd__law_draw T) .nil passE (pa_cons (pv 0) (pa_cons (pe_op op_add (pe_op op_sub (pe_dget hu (pv 1) pe_str (fun _ _ => rfl)) (pe_dget hu (pv 1) pe_str (fun _ _ => rfl))) pe_int) pa_nil))))), ?_⟩
    obtain ⟨n, hn⟩ : ∃ n : Nat, hi - lo + 1 = n := ⟨(hi - lo + 1).toNat, by omega⟩
    refine ⟨_, rfl, a, _, rfl, (show DGet H a (kV kLeast) _ from sc_least ▸ DGet.k h.d), _, rfl, _, rfl, a, _, rfl, (show DGet H a (kV kMost) _ from sc_most ▸ DGet.k h.d), _, rfl, a, _, rfl, (show DGet H a (kV kLeast) _ from sc_least ▸ DGet.k h.d), _, _, rfl, rfl, _, _, rfl, rfl, ?_⟩
    exact ⟨st, lg, cl, n, m, (by show [V.ref st, V.int (hi - lo + 1)] = _; rw [hn]), by omega, Nat.lt_of_le_of_lt (show n ≤ 1024 by omega) (by decide), by omega, S, fun r H' hr' S' kp => ⟨_, _, rfl, rfl, k _ H' (by omega) (by omega) S' kp⟩⟩
def spLLevel : Sp := fun vs H Q _ => ∃ r l : Int, vs = [.int r, .int l] ∧ 0 ≤ l ∧ l ≤ 1000 ∧ Q (.int (levelI r l)) H
def spBuilt : Sp := fun vs H Q _ => ∃ (a : Addr) (t w lo hi g n l : Int), vs = [.ref a, .int g, .int n, .int l] ∧ ScV H a t w lo hi ∧ 0 ≤ l ∧ l ≤ 1000 ∧ Q (.int (withI lo hi (g + n * (2 * l + 1)))) H
/-- a shape by the scope -/
def spForm (C : Addr) : Sp := fun vs H Q _ => ∃ (a : Addr) (t w lo hi : Int), vs = [.ref a] ∧ ScV H a t w lo hi ∧ ∀ (x : Addr) (H' : Hp), ShV C H' (.ref x) lo hi → H x = none → Same H H' → (∀ tb, H' x ≠ some (.tbl tb)) → Q (.ref x) H'
include BE in
theorem ok_form : FnOk P w K mg base (L2.CX P w) 7 T._law_form.a T._law_form.d ["scope"] (spForm SH.C) := by
  refine T._law_form.f.okX sc__law_form (fun vs H Q E h => ?_) (fun cdv A outer s H vs Q E hr h => ?_)
  · obtain ⟨a, t, w, lo, hi, rfl, _⟩ := h
    rfl
  · obtain ⟨a, t, w, lo, hi, rfl, h, k⟩ := h
    have hu := hu_of hr
    refine ⟨_, pss_one (ps_ret (pe_make SH.M (ok_init T SH BE) (hr.mono (by decide)) (by rfl) SH.g (SH.F.binds fun _ _ _ _ _ _ us hl => match us, hl with | [_, _, _, _, _], _ => rfl) .nil passE (pa_cons (pe_dget hu (pv 0) pe_str (fun _ _ => rfl)) (pa_cons (pe_dget hu (pv 0) pe_str (fun _ _ => rfl)) (pa_cons (pe_dget hu (pv 0) pe_str (fun _ _ => rfl)) (pa_cons (pe_dget hu (pv 0) pe_str (fun _ _ => rfl)) pa_nil)))))), ?_⟩
    refine ⟨_, rfl, a, _, rfl, (show DGet H a (kV kTall) _ from sc_tall ▸ DGet.k h.d), _, rfl, a, _, rfl, (show DGet H a (kV kWide) _ from sc_wide ▸ DGet.k h.d), _, rfl, a, _, rfl, (show DGet H a (kV kLeast) _ from sc_least ▸ DGet.k h.d), _, rfl, a, _, rfl, (show DGet H a (kV kMost) _ from sc_most ▸ DGet.k h.d), fun x dx hx hdx ne => ?_⟩
    refine ⟨x, dx, t, w, lo, hi, rfl, h.t1, h.t2, h.w1, h.w2, h.l1, h.l2, h.l3, upd_same, fun H' e1 e2 => ⟨rfl, k x H' ⟨x, dx, t, w, rfl, e1, h.l1, h.l2, h.l3⟩ hx (fun b o e => ?_) (fun tb z => ?_)⟩⟩
    · have n1 : b ≠ x := ne_of_none e hx
      have n2 : b ≠ dx := ne_of_none e hdx
      rw [e2 b n1, upd_ne n1, upd_ne n2]
      exact e
    · rw [e1] at z
      cases z
end
end K05
namespace K05
open PySem PySem.Spec PyProof.Rows L2 PySem.W LamX KA KW KU KL
open Evl (pss_cut tCut)
/-! ### pairs of whole numbers in a list display -/
def tPairs0 : List (Int × Int) → TA
  | [] => tNil
  | c :: r => tCons (tTup (tCons (tC (.int c.1)) (tCons (tC (.int c.2)) tNil))) (tPairs0 r)
/-- the same, kept shut: what it is only these two rows tell -/
structure Shut where
  t : List (Int × Int) → TA
  nil : t [] = tNil
  cons : ∀ c r, t (c :: r) = tCons (tTup (tCons (tC (.int c.1)) (tCons (tC (.int c.2)) tNil))) (t r)
theorem shut_ex : Nonempty Shut := ⟨⟨tPairs0, rfl, fun _ _ => rfl⟩⟩
noncomputable def shut : Shut := Classical.choice shut_ex
noncomputable abbrev tPairs (l : List (Int × Int)) : TA := shut.t l
theorem pairs_read : ∀ (l : List (Int × Int)) (σ : L2.St) (H : Hp) (Q : List V → Hp → Prop), (∀ (ps : List Addr) (H' : Hp), Same H H' → ps.length = l.length → (∀ p ∈ ps, ∃ c ∈ l, H' p = some (.tup [.int c.1, .int c.2])) → Q (ps.map V.ref) H') → tPairs l σ H Q
  | [], σ, H, Q, k => by
    show shut.t [] σ H Q
    rw [shut.nil]
    exact k [] H (fun _ _ e => e) rfl fun p hp => nomatch hp
  | c :: r, σ, H, Q, k => by
    show shut.t (c :: r) σ H Q
    rw [shut.cons]
    refine ⟨(by show 2 ≤ sizeLine; decide), fun p hp => pairs_read r σ _ _ fun ps H' s hl h => k (p :: ps) H' ((Same.new hp).trans s) (by simp [hl]) fun q hq => ?_⟩
    rcases List.mem_cons.mp hq with e | e
    · subst e
      exact ⟨c, List.mem_cons_self, s _ _ upd_same⟩
    · obtain ⟨c', h1, h2⟩ := h q e
      exact ⟨c', List.mem_cons_of_mem _ h1, h2⟩
theorem pa_pair0 {X : Cx} : PA X [] (tPairs []) := by
  show PA X [] (shut.t [])
  rw [shut.nil]
  exact pa_nil
theorem pa_pair {X : Cx} {e : Expr} {es : List Expr} {a b : Int} {l : List (Int × Int)} (he : PE X e (tTup (tCons (tC (.int a)) (tCons (tC (.int b)) tNil)))) (h : PA X es (tPairs l)) (hs : starEach (e :: es) X.env = (false, eval e X.env) :: starEach es X.env := by rfl) : PA X (e :: es) (tPairs ((a, b) :: l)) := by
  show PA X (e :: es) (shut.t ((a, b) :: l))
  rw [shut.cons]
  exact pa_cons he h hs
section
variable {P : Program} {w : World} {K : PySem.W.Frag} {mg : Str → Option Value} {base : Heap} (T : Top K mg)
def spScope : Sp := fun vs H Q _ => ∃ (st lg cl : Addr) (m : Nat), vs = [.ref st] ∧ m ≤ 990000 ∧ StAt H st lg cl m ∧
  ∀ (a : Addr) (t w lo hi : Int) (H' : Hp), ScV H' a t w lo hi → a ≠ st → a ≠ lg → StAt H' st lg cl (m + 4) → Kp st lg H H' → Q (.ref a) H'
theorem ok_scope : FnOk P w K mg base (L2.CX P w) 3 T._law_scope.a T._law_scope.d ["state"] spScope := by
  refine T._law_scope.f.okX sc__law_scope (fun vs H Q E h => ?_) (fun cdv A outer s H vs Q E hr h => ?_)
  · obtain ⟨st, lg, cl, m, rfl, _⟩ := h
    rfl
  · obtain ⟨st, lg, cl, m, rfl, hm, S, k⟩ := h
    refine ⟨_, pss_cons (ps_set (i := 1) sc__law_scope.nd rfl (.inl rfl) (pe_lst (pa_pair (pe_tup (pa_cons pe_int (pa_cons pe_int pa_nil))) (pa_pair (pe_tup (pa_cons pe_int (pa_cons pe_int pa_nil))) (pa_pair (pe_tup (pa_cons pe_int (pa_cons pe_int pa_nil))) (pa_pair (pe_tup (pa_cons pe_int (pa_cons pe_int pa_nil))) (pa_pair (pe_tup (pa_cons pe_int (pa_cons pe_int pa_nil))) (pa_pair (pe_tup (pa_cons pe_int (pa_cons pe_int pa_nil))) (pa_pair (pe_tup (pa_cons pe_int (pa_cons pe_int pa_nil))) (pa_pair (pe_tup (pa_cons pe_int (pa_cons pe_int pa_nil))) (pa_pair (pe_tup (pa_cons pe_int (pa_cons pe_int pa_nil))) (pa_pair (pe_tup (pa_cons pe_int (pa_cons pe_int pa_nil))) (pa_pair (pe_tup (pa_cons pe_int (pa_cons pe_int pa_nil))) pa_pair0)))))))))))))
      (pss_cut (ps_set (i := 1) sc__law_scope.nd rfl (.inl rfl) (pe_ifExp (pt_cmpR op_gt (pe_call (ok_draw T) (hr.mono (by decide)) (by rfl) T._law_draw.m T._law_draw.f.kp (bd__law_draw T) .nil passE (pa_cons (pv 0) (pa_cons pe_int pa_nil))) pe_int (nomark _)) (pv 1) (pe_lst (pa_pair (pe_tup (pa_cons pe_int (pa_cons pe_int pa_nil))) (pa_pair (pe_tup (pa_cons pe_int (pa_cons pe_int pa_nil))) (pa_pair (pe_tup (pa_cons pe_int (pa_cons pe_int pa_nil))) (pa_pair (pe_tup (pa_cons pe_int (pa_cons pe_int pa_nil))) pa_pair0)))))))
      (pss_cons (ps_asg (pe_call (ok_pick T) (hr.mono (by decide)) (by rfl) T._law_pick.m T._law_pick.f.kp (bd__law_pick T) .nil passE (pa_cons (pv 0) (pa_cons (pv 1) pa_nil))) (pg_tup rfl (pgs_cons (pg_name (i := 2) sc__law_scope.nd rfl (.inl rfl)) (pgs_cons (pg_name (i := 3) sc__law_scope.nd rfl (.inl rfl)) pgs_nil))))
      (pss_cons (ps_set (i := 4) sc__law_scope.nd rfl (.inl rfl) (pe_call (ok_pick T) (hr.mono (by decide)) (by rfl) T._law_pick.m T._law_pick.f.kp (bd__law_pick T) .nil passE (pa_cons (pv 0) (pa_cons (pe_lst (pa_cons pe_int (pa_cons pe_int (pa_cons pe_int (pa_cons (pe_un un_neg pe_int) (pa_cons (pe_un un_neg pe_int) (pa_cons pe_int pa_nil))))))) pa_nil))))
      (pss_cons (ps_set (i := 5) sc__law_scope.nd rfl (.inl rfl) (pe_callB (call_min2 rfl) (by rfl) T.b_min PyProof.Rows.boot_min (pa_cons pe_int (pa_cons (pe_op op_add (pv 4) (pe_call (ok_pick T) (hr.mono (by decide)) (by rfl) T._law_pick.m T._law_pick.f.kp (bd__law_pick T) .nil passE (pa_cons (pv 0) (pa_cons (pe_lst (pa_cons pe_int (pa_cons pe_int (pa_cons pe_int (pa_cons pe_int (pa_cons pe_int (pa_cons pe_int (pa_cons pe_int pa_nil)))))))) pa_nil)))) pa_nil))))
      (pss_one (ps_ret (pe_disp (pps_cons pe_str (pv 2) (pps_cons pe_str (pv 3) (pps_cons pe_str (pv 4) (pps_cons pe_str (pv 5) pps_nil)))) (by rfl) (by rfl) (fun z => by cases z) (by decide)))))))), ?_⟩
    have ok1 : ∀ c ∈ [(1, 1), (2, 2), (2, 3), (3, 2), (4, 4), (1, 5), (5, 1), (3, 4), (2, 6), (5, 6), (9, 2)] ++ [(2, 10), (3, 16), (8, 8), (10, 9)], (1 : Int) ≤ c.1 ∧ c.1 ≤ 16 ∧ (1 : Int) ≤ c.2 ∧ c.2 ≤ 16 := by decide
    refine pairs_read [(1, 1), (2, 2), (2, 3), (3, 2), (4, 4), (1, 5), (5, 1), (3, 4), (2, 6), (5, 6), (9, 2)] _ H _ fun ps H1 s1 hl1 hp1 => ⟨?_, fun b hb => ?_⟩
    · rw [List.length_map, hl1]
      decide
    have S1 := (S.same s1).same (Same.new (o := .lst (ps.map V.ref)) hb)
    have kp1 : Kp st lg H (upd H1 b (.lst (ps.map V.ref))) := (Kp.same s1).trans (Kp.same (Same.new hb))
    have hp1 : ∀ p ∈ ps, ∃ c ∈ [(1, 1), (2, 2), (2, 3), (3, 2), (4, 4), (1, 5), (5, 1), (3, 4), (2, 6), (5, 6), (9, 2)] ++ [(2, 10), (3, 16), (8, 8), (10, 9)], (upd H1 b (.lst (ps.map V.ref))) p = some (.tup [V.int c.1, .int c.2]) := fun p hp => by
      obtain ⟨c, h1, h2⟩ := hp1 p hp
      exact ⟨c, List.mem_append_left _ h1, (Same.new hb) _ _ h2⟩
    have hb1 : (upd H1 b (.lst (ps.map V.ref))) b = some (.lst (ps.map V.ref)) := upd_same
    have nb := (S.same s1).off hb
    have lp : 0 < ps.length ∧ ps.length ≤ 11 := by
      rw [hl1]
      decide
    generalize upd H1 b (.lst (ps.map V.ref)) = H2 at S1 kp1 hp1 hb1 ⊢
    clear hb s1 hl1
    refine ⟨fun σ' H' => ∃ (b : Addr) (ps : List Addr), σ' = [some (.ref st), some (.ref b), none, none, none, none] ∧ StAt H' st lg cl (m + 1) ∧ Kp st lg H H' ∧ (∀ p ∈ ps, ∃ c ∈ [(1, 1), (2, 2), (2, 3), (3, 2), (4, 4), (1, 5), (5, 1), (3, 4), (2, 6), (5, 6), (9, 2)] ++ [(2, 10), (3, 16), (8, 8), (10, 9)], H' p = some (.tup [V.int c.1, .int c.2])) ∧ H' b = some (.lst (ps.map V.ref)) ∧ (b ≠ st ∧ b ≠ lg) ∧ 0 < ps.length ∧ ps.length ≤ 11, ?_, ?_⟩
    · refine ⟨_, rfl, st, lg, cl, 6, m, rfl, by decide, by decide, by omega, S1, fun r H3 hr3 S3 kp3 => ⟨_, _, rfl, rfl, _, rfl, ?_⟩⟩
      by_cases c : (0 : Int) < (r : Nat)
      · rw [decide_eq_true c]
        refine iteT ⟨_, rfl, b, ps, rfl, S3, kp1.trans kp3, fun p hp => ?_, kp3 _ _ hb1 nb.1 nb.2, nb, lp⟩
        obtain ⟨c, h1, h2⟩ := hp1 p hp
        have off : p ≠ st ∧ p ≠ lg := by
          obtain ⟨_, _, _, _, S', _⟩ := S1
          exact ⟨ne_of h2 S'.d (by intro z; cases z), ne_of h2 S'.l (by intro z; cases z)⟩
        exact ⟨c, h1, kp3 _ _ h2 off.1 off.2⟩
      · rw [decide_eq_false c]
        refine iteF (pairs_read [(2, 10), (3, 16), (8, 8), (10, 9)] _ H3 _ fun ps2 H4 s4 hl2 hp2 => ⟨?_, fun b2 hb2 => ⟨b2, ps2, rfl, (S3.same s4).same (Same.new hb2), ((kp1.trans kp3).trans (Kp.same s4)).trans (Kp.same (Same.new hb2)), fun p hp => ?_, upd_same, (S3.same s4).off hb2, ?_⟩⟩)
        · rw [List.length_map, hl2]
          decide
        · obtain ⟨c, h1, h2⟩ := hp2 p hp
          exact ⟨c, List.mem_append_right _ h1, (Same.new hb2) _ _ h2⟩
        · rw [hl2]
          decide
    clear S1 kp1 hp1 hb1 nb lp H2
    rintro σ H2 ⟨b, ps, rfl, S2, kp2, hp2, hb2, nb, lp1, lp2⟩
    -- tall, wide
    refine ⟨_, rfl, _, rfl, st, lg, cl, b, _, m + 1, rfl, hb2, nb.2, ?_, ?_, by omega, S2, fun x H3 hx S3 kp3 => ?_⟩
    · rw [List.length_map]
      exact lp1
    · rw [List.length_map]
      omega
    obtain ⟨p, hp, rfl⟩ := List.mem_map.mp hx
    obtain ⟨c, hc, h3⟩ := hp2 p hp
    obtain ⟨c1, c2, c3, c4⟩ := ok1 c hc
    have off : p ≠ st ∧ p ≠ lg := by
      obtain ⟨_, _, _, _, S', _⟩ := S2
      exact ⟨ne_of h3 S'.d (by intro z; cases z), ne_of h3 S'.l (by intro z; cases z)⟩
    have h4 := kp3 _ _ h3 off.1 off.2
    have kpA := kp2.trans kp3
    refine ⟨p, _, rfl, SqT.of h4, rfl, _, _, rfl, _, _, rfl, rfl, ?_⟩
    -- least
    refine ⟨_, rfl, _, rfl, _, rfl, (by show 6 ≤ sizeLine; decide), fun q hq => ⟨st, lg, cl, q, _, m + 2, rfl, upd_same, (S3.off hq).2, (by show 0 < 6; decide), (by show 6 ≤ 1000; decide), by omega, S3.same (Same.new hq), fun x H4 hx4 S4 kp4 => ?_⟩⟩
    obtain ⟨lo, rfl, lo1, lo2⟩ : ∃ lo : Int, x = .int lo ∧ -512 ≤ lo ∧ lo ≤ 3 := by
      simp only [List.mem_cons, List.not_mem_nil, or_false] at hx4
      rcases hx4 with h | h | h | h | h | h <;> exact ⟨_, h, by decide, by decide⟩
    have kpB := (kpA.trans (Kp.same (Same.new hq))).trans kp4
    -- most
    refine ⟨_, rfl, _, rfl, (by show 7 ≤ sizeLine; decide), fun q2 hq2 => ⟨st, lg, cl, q2, _, m + 3, rfl, upd_same, (S4.off hq2).2, (by show 0 < 7; decide), (by show 7 ≤ 1000; decide), by omega, S4.same (Same.new hq2), fun y H5 hx5 S5 kp5 => ?_⟩⟩
    obtain ⟨d, rfl, d1, d2⟩ : ∃ d : Int, y = .int d ∧ 0 ≤ d ∧ d ≤ 1023 := by
      simp only [List.mem_cons, List.not_mem_nil, or_false] at hx5
      rcases hx5 with h | h | h | h | h | h | h <;> exact ⟨_, h, by decide, by decide⟩
    have kpC := (kpB.trans (Kp.same (Same.new hq2))).trans kp5
    refine ⟨_, _, rfl, rfl, _, _, rfl, ?_⟩
    generalize hmost : (if lo + d < 511 then lo + d else (511 : Int)) = hi
    have hi1 : lo ≤ hi ∧ hi ≤ 511 := by
      rw [← hmost]
      split <;> omega
    -- the dict
    intro dt hdt
    refine ⟨_, rfl, _, rfl, _, rfl, _, rfl, upd_same, scKv c.1 c.2 lo hi, rfl, (by show 4 ≤ 15; decide), ?_⟩
    rw [sc_merge]
    have sm : Same H5 (upd (upd H5 dt (.dK [])) dt (.dK (scKv c.1 c.2 lo hi))) := fun b o e => by
      rw [upd_upd, upd_ne (ne_of_none e hdt)]
      exact e
    have nd := S5.off hdt
    exact k dt c.1 c.2 lo hi _ ⟨upd_same, c1, c2, c3, c4, lo1, hi1.1, hi1.2⟩ nd.1 nd.2 (S5.same sm) (kpC.trans (Kp.same sm))
end
end K05
namespace KT
open PySem PySem.Spec PyProof.Rows L2 PySem.W LamX KA KW
/-! ### min(t), max(t) of a tuple of ints; t[::-1]; t * n, n from 1 on -/
theorem alike_ints (ns : List Int) : AlikeAll (ns.map PyData.int) := by
  refine ⟨fun x hx y hy => ?_, fun x hx => ?_⟩
  · obtain ⟨i, _, rfl⟩ := List.mem_map.mp hx
    obtain ⟨j, _, rfl⟩ := List.mem_map.mp hy
    simp [alike]
  · obtain ⟨i, _, rfl⟩ := List.mem_map.mp hx
    exact fun z => by cases z
theorem dp_ints {K : PySem.W.Frag} {H : Hp} : ∀ ns : List Int, DpAll K H (ns.map V.int) (ns.map PyData.int)
  | [] => .nil
  | i :: ns => .cons (.int i) (dp_ints ns)
theorem depth_ints : ∀ ns : List Int, PyData.depthAll (ns.map PyData.int) ≤ 1
  | [] => by simp [PyData.depthAll]
  | i :: ns => by
    have := depth_ints ns
    simp only [List.map_cons, PyData.depthAll, PyData.depth]
    omega
theorem reads_int {h : Heap} {v : Value} {i : Int} {as : List Addr} (r : Reads h v (.int i) as) : ∃ t, v = .int i t := by
  cases r
  exact ⟨_, rfl⟩
theorem foldl_min_mem (n : Int) : ∀ ns : List Int, ns.foldl min n ∈ n :: ns := by
  intro ns
  induction ns generalizing n with
  | nil => simp
  | cons k r ih =>
    rw [List.foldl_cons]
    rcases List.mem_cons.mp (ih (min n k)) with e | e
    · rw [e]
      rcases Int.le_total n k with h | h
      · rw [Int.min_eq_left h]; exact List.mem_cons_self
      · rw [Int.min_eq_right h]; exact List.mem_cons_of_mem _ List.mem_cons_self
    · exact List.mem_cons_of_mem _ (List.mem_cons_of_mem _ e)
theorem foldl_min_le (n : Int) : ∀ (ns : List Int) (y : Int), y ∈ n :: ns → ns.foldl min n ≤ y := by
  intro ns
  induction ns generalizing n with
  | nil => intro y hy; simp at hy; subst hy; exact Int.le_refl _
  | cons k r ih =>
    intro y hy
    rw [List.foldl_cons]
    have h0 := ih (min n k) (min n k) List.mem_cons_self
    rcases List.mem_cons.mp hy with e | e
    · subst e; omega
    · rcases List.mem_cons.mp e with e | e
      · subst e; omega
      · exact ih (min n k) y (List.mem_cons_of_mem _ e)
theorem foldl_max_mem (n : Int) : ∀ ns : List Int, ns.foldl max n ∈ n :: ns := by
  intro ns
  induction ns generalizing n with
  | nil => simp
  | cons k r ih =>
    rw [List.foldl_cons]
    rcases List.mem_cons.mp (ih (max n k)) with e | e
    · rw [e]
      rcases Int.le_total n k with h | h
      · rw [Int.max_eq_right h]; exact List.mem_cons_of_mem _ List.mem_cons_self
      · rw [Int.max_eq_left h]; exact List.mem_cons_self
    · exact List.mem_cons_of_mem _ (List.mem_cons_of_mem _ e)
theorem foldl_max_ge (n : Int) : ∀ (ns : List Int) (y : Int), y ∈ n :: ns → y ≤ ns.foldl max n := by
  intro ns
  induction ns generalizing n with
  | nil => intro y hy; simp at hy; subst hy; exact Int.le_refl _
  | cons k r ih =>
    intro y hy
    rw [List.foldl_cons]
    have h0 := ih (max n k) (max n k) List.mem_cons_self
    rcases List.mem_cons.mp hy with e | e
    · subst e; omega
    · rcases List.mem_cons.mp e with e | e
      · subst e; omega
      · exact ih (max n k) y (List.mem_cons_of_mem _ e)
def rMinT (K : PySem.W.Frag) : List V → Hp → VK → Prop := fun vs H Q => ∃ (a : Addr) (ns : List Int), vs = [V.ref a] ∧ SqT K H a (ns.map V.int) ∧ 0 < ns.length ∧ ∀ m, m ∈ ns → (∀ y, y ∈ ns → m ≤ y) → Q (.int m) H
def rMaxT (K : PySem.W.Frag) : List V → Hp → VK → Prop := fun vs H Q => ∃ (a : Addr) (ns : List Int), vs = [V.ref a] ∧ SqT K H a (ns.map V.int) ∧ 0 < ns.length ∧ ∀ m, m ∈ ns → (∀ y, y ∈ ns → y ≤ m) → Q (.int m) H
section
variable {X : Cx}
theorem cr_minT (hc : X.calm = true) (hu : X.A.units + 2 < cLine) : CallR X (.builtin "min") (rMinT X.K) := by
  intro pins s σ H vs us Q I r h
  obtain ⟨a, ns, rfl, hs, hne, q⟩ := h
  obtain ⟨its, rv, hl, _⟩ := I.tuple hs
  rw [Vals.ref1 r]
  cases ns with
  | nil => cases hne
  | cons n ns =>
    obtain ⟨as, hr⟩ := Dp.readsAll I _ _ its (dp_ints (n :: ns)) rv
    refine min_tuple_data (x := .int n) (xs := ns.map .int) (I.ok.hd hc) hl hr (alike_ints (n :: ns)) ?_ fun i v h' tk bs _ rd hk => ?_
    · have := depth_ints (n :: ns)
      rw [List.map_cons] at this
      omega
    · rw [minD_ints] at rd
      obtain ⟨t, rfl⟩ := reads_int rd
      exact ⟨.int _, H, I.kept hk, ⟨_, rfl⟩, q _ (foldl_min_mem n ns) (foldl_min_le n ns)⟩
theorem cr_maxT (hc : X.calm = true) (hu : X.A.units + 2 < cLine) : CallR X (.builtin "max") (rMaxT X.K) := by
  intro pins s σ H vs us Q I r h
  obtain ⟨a, ns, rfl, hs, hne, q⟩ := h
  obtain ⟨its, rv, hl, _⟩ := I.tuple hs
  rw [Vals.ref1 r]
  cases ns with
  | nil => cases hne
  | cons n ns =>
    obtain ⟨as, hr⟩ := Dp.readsAll I _ _ its (dp_ints (n :: ns)) rv
    refine max_tuple_data (x := .int n) (xs := ns.map .int) (I.ok.hd hc) hl hr (alike_ints (n :: ns)) ?_ fun i v h' tk bs _ rd hk => ?_
    · have := depth_ints (n :: ns)
      rw [List.map_cons] at this
      omega
    · rw [maxD_ints] at rd
      obtain ⟨t, rfl⟩ := reads_int rd
      exact ⟨.int _, H, I.kept hk, ⟨_, rfl⟩, q _ (foldl_max_mem n ns) (foldl_max_ge n ns)⟩
/-- one call name, either a list or a tuple -/
def rOrC (r r' : List V → Hp → VK → Prop) : List V → Hp → VK → Prop := fun vs H Q => r vs H Q ∨ r' vs H Q
theorem cr_or {f : Value} {r r' : List V → Hp → VK → Prop} (h : CallR X f r) (h' : CallR X f r') : CallR X f (rOrC r r') := fun pins s σ H vs us Q I rv q => q.elim (h pins s σ H vs us Q I rv) (h' pins s σ H vs us Q I rv)
end
section
variable {prog : Program} {w : World} {A : Around} {E : Value → Shared → Prop} {s : Shared}
theorem adjust_rev (n : Nat) : Builtin.Slice.sliceAdjust none none (-1) (n : Int) = ((n : Int) - 1, -1) := rfl
theorem places_rev (n : Nat) : Builtin.Slice.slicePlaces ((n : Int) - 1) (-1) (-1) = n := by
  unfold Builtin.Slice.slicePlaces
  have h1 : ¬ ((-1 : Int) > 0) := by omega
  have h2 : (- -1 : Int) = 1 := by decide
  simp only [h1, if_false, h2, Int.ediv_one]
  split <;> omega
theorem sliceApplied_rev {sl : Addr} {vl vu vs : Value} {n : Nat} {Q : Int × Int × Nat → Shared → Prop} (hs : s.heap.IsSliceOf sl vl vu vs) (pl : IsPart vl none) (pu : IsPart vu none) (ps : IsPart vs (some (-1)))
    (h : Q ((n : Int) - 1, -1, n) s) : wpAny (model prog w) A (Builtin.Slice.sliceApplied (.ref sl) (pure (n : Int))) Q E s := by
  obtain ⟨os, hos, hcs, hds⟩ := id hs
  unfold Builtin.Slice.sliceApplied Builtin.Slice.sliceFields
  refine wpAny_bind (wpAny_bind (wpAny_field hos hds (x := vl) rfl (wpAny_bind (wpAny_field hos hds (x := vu) rfl (wpAny_bind (wpAny_field hos hds (x := vs) rfl (wpAny_pure ?_)))))))
  refine wpAny_bind (HT.slicePart_ ps ?_)
  show wpAny _ _ (if ((-1 : Int) == 0) = true then _ else _) _ _ s
  rw [if_neg (by decide)]
  refine wpAny_bind (HT.slicePart_ pl (wpAny_bind (HT.slicePart_ pu (wpAny_bind (wpAny_pure ?_)))))
  show wpAny _ _ (match Builtin.Slice.sliceAdjust none none (-1) (n : Int) with | (lo, hi) => pure (lo, (-1 : Int), Builtin.Slice.slicePlaces lo hi (-1))) _ _ s
  rw [adjust_rev n]
  show wpAny _ _ (pure ((n : Int) - 1, (-1 : Int), Builtin.Slice.slicePlaces ((n : Int) - 1) (-1) (-1))) _ _ s
  rw [places_rev]
  exact wpAny_pure h
theorem fm_congr {α β : Type} {f g : α → Option β} : ∀ {l : List α}, (∀ x, x ∈ l → f x = g x) → l.filterMap f = l.filterMap g
  | [], _ => rfl
  | x :: l, h => by
    have ih := fm_congr (l := l) fun y hy => h y (List.mem_cons_of_mem _ hy)
    rw [List.filterMap_cons, List.filterMap_cons, h x List.mem_cons_self, ih]
theorem pick_rev (xs : Array Value) : ((List.range xs.size).filterMap fun (m : Nat) => xs[(((xs.size : Int) - 1) + (m : Int) * (-1)).toNat]?).toArray = xs.toList.reverse.toArray := by
  have h := krv_pick xs
  unfold slicePick at h
  rw [krv_bounds] at h
  rw [← h]
  show _ = ((sliceRange ((xs.size : Int) - 1) (-1) (-1)).filterMap (xs[·]?)).toArray
  rw [krv_sliceRange, List.filterMap_map]
  congr 1
  apply fm_congr
  intro m hm
  have := List.mem_range.mp hm
  have e : (((xs.size : Int) - 1) + (m : Int) * (-1)).toNat = xs.size - 1 - m := by omega
  show xs[(((xs.size : Int) - 1) + (m : Int) * (-1)).toNat]? = xs[xs.size - 1 - m]?
  rw [e]
theorem getItem_tuple_rev {t sl : Addr} {items : Array Value} {vl vu vs : Value} {Q : Value → Shared → Prop} (ht : IsTup s.heap t items) (hs : s.heap.IsSliceOf sl vl vu vs) (pl : IsPart vl none) (pu : IsPart vu none) (ps : IsPart vs (some (-1)))
    (h : Q (.ref s.heap.objs.size) { s with heap := s.heap.push { cls := .type "tuple", data := .seq items.toList.reverse.toArray } })
    (hsz : items.size ≤ sizeLine) : wpAny (model prog w) A (getItem (.ref t) (.ref sl)) Q E s := by
  have htake : sizeOk (.seq items.toList.reverse.toArray) := by
    show items.toList.reverse.toArray.size ≤ sizeLine
    rw [List.size_toArray, List.length_reverse, Array.length_toList]
    exact hsz
  obtain ⟨os, hos, hcs, hds⟩ := id hs
  have hTs : s.TypeIs (.ref sl) "slice" := ⟨os, hos, hcs⟩
  unfold getItem
  try with_reducible refine wpAny_holding ?_
  first | refine wpAny_bind (wpAny_pure ?_) | skip
  refine wpAny_bind (wpAny_sequenceKey ht.typeIs (by decide) ?_)
  refine wpAny_bind (wpAny_callSpecial?_slot (name := Str.ofString "__getitem__") ht.typeIs PyProof.Rows.slot_tuple_getitem
    (wpAny_call_entry PyProof.Rows.slot_tuple_getitem ht.typeIs entry_tuple_getitem ?_ (args_tuple_getitem _ _)))
  show wpAny _ _ (Builtin.Tuple.tupleItemsOf (.ref t) >>= _) _ _ s
  refine wpAny_bind (tupleItemsOf_ ht ?_)
  refine wpAny_bind (wpAny_typeOf hTs ?_)
  rw [if_pos (by decide)]
  refine wpAny_bind (sliceApplied_rev hs pl pu ps ?_)
  have hno : ¬ ((((items.size : Int) - 1) == 0 && (-1 : Int) == 1 && items.size == items.size) = true) := by
    intro q
    rw [Bool.and_eq_true, Bool.and_eq_true] at q
    exact absurd q.1.2 (by decide)
  show wpAny _ _ (if (((items.size : Int) - 1) == 0 && (-1 : Int) == 1 && items.size == items.size) = true then _ else _) _ _ s
  rw [if_neg hno, pick_rev]
  first
    | exact wpAny_bind (m := Builtin.Tuple.tupleExact _) (wpAny_newObj_type (wpAny_pure ⟨_, rfl, wpAny_pure h⟩) htake)
    | exact wpAny_bind (m := Builtin.Tuple.tupleExact _) (wpAny_newObj_type (wpAny_bind (wpAny_pure (wpAny_pure ⟨_, rfl, wpAny_pure h⟩))) htake)
    | exact wpAny_bind (wpAny_bind (m := Builtin.Tuple.tupleExact _) (wpAny_newObj_type (wpAny_pure (wpAny_pure ⟨_, rfl, wpAny_pure h⟩)) htake))
    | exact wpAny_bind (wpAny_bind (m := Builtin.Tuple.tupleExact _) (wpAny_newObj_type (wpAny_pure ⟨_, rfl, wpAny_pure h⟩) htake))
end
section
variable {X : Cx}
def tRevT (K : PySem.W.Frag) (te : TE) : TE := fun σ H Q => te σ H fun x H1 => ∃ a xs, x = .ref a ∧ SqT K H1 a xs ∧ ∀ p, H1 p = none → Q (.ref p) (upd H1 p (.tup xs.reverse))
theorem pe_revT {e : Expr} {te : TE} {k : Nat} {p1 p2 p3 pos : Pos} (he : PE X e te) : PE X (.Subscript e (.Slice none none (some (.UnaryOp .USub (.Constant (.int 1) k p1) p2)) p3) pos) (tRevT X.K te) := by
  refine ⟨fun pins s σ H Q I h => ?_⟩
  refine Subscript_ (thn (he.run pins s σ H _ I h) fun v s1 ⟨x, H1, I1, r1, q1⟩ => ?_)
  obtain ⟨a, xs, ex, hx, q⟩ := q1
  subst ex
  cases r1
  have hst : PO X (some (.UnaryOp .USub (.Constant (.int 1) k p1) p2)) (tPart (tUn (rU fun i => .int (-i)) (tC (.int 1)))) := po_some (pe_un un_neg pe_int)
  refine wpAny_Slice (thn (po_none.run pins s1 σ H1 (fun o H2 => o = none ∧ H2 = H1) I1 ⟨rfl, rfl⟩) fun vl s2 ⟨l, H2, I2, pl, el, e2⟩ => ?_)
  subst el e2
  refine thn (po_none.run pins s2 σ H2 (fun o H3 => o = none ∧ H3 = H2) I2 ⟨rfl, rfl⟩) fun vu s3 ⟨u, H3, I3, pu, eu, e3⟩ => ?_
  subst eu e3
  refine thn (hst.run pins s3 σ H3 (fun o H4 => o = some (-1) ∧ H4 = H3) I3 ⟨1, rfl, -1, rfl, rfl, rfl⟩) fun vs s4 ⟨o, H4, I4, ps, eo, e4⟩ => ?_
  subst eo e4
  have I5 : Inv X pins σ H4 { s4 with heap := s4.heap.push { cls := .type "slice", data := .fields #[vl, vu, vs] } } := I4.kept (t' := s4.toks) fun b ob q => Heap.get?_push_of_some _ q
  obtain ⟨its, r, ht, hz⟩ := I5.tuple hx
  have hlen := r.length
  show wpAny (model X.prog X.w) X.A (subscriptTail e (.Slice none none (some (.UnaryOp .USub (.Constant (.int 1) k p1) p2)) p3) (.ref a) (.ref s4.heap.objs.size)) (EP X pins σ Q) X.xe { s4 with heap := s4.heap.push { cls := .type "slice", data := .fields #[vl, vu, vs] } }
  refine tail_any (ops := [.ref a, .ref s4.heap.objs.size]) ht.typeIs (PyProof.Rows.slot_tuple_getitem.lookup) ?_ (by with_unfolding_all rfl)
  refine getItem_tuple_rev ht (Heap.IsSliceOf.new _ vl vu vs) pl pu ps ?_ (by rw [List.size_toArray]; omega)
  refine ⟨.ref _, _, I5.laid (t' := s4.toks) (o := .tup xs.reverse) (fun b ob q => Heap.get?_push_of_some _ q) (Nat.le_refl _) ?_, rfl, q _ (I5.hok.fresh (Nat.le_refl _))⟩
  exact ⟨by rw [List.length_reverse]; exact hz, _, r.reverse, IsTup.new _ _⟩
end
section
theorem tuple_mul_one (l : Addr) (items : Array Value) (n : Nat) (dd : Option Addr) (sl : Array (Option Value)) (u : Tok) :
    Meets (Builtin.«tuple.__mul__» ⟨[.ref l, .int 1 u], []⟩) (fun _ R s => s.heap.get? l = some { cls := .type "tuple", dict := dd, data := .seq items n, slots := sl } ∧ R (.ok (.ret (Value.ref l))) s) :=
  .of_wp fun prog w A R s h => by
    obtain ⟨hp, g, d, tk, os⟩ := s
    obtain ⟨hl, h⟩ := h
    have f1 := AutoSeq1.idx_int
    have c0 : (decide ((1 : Int) < -(2 ^ 63)) || decide ((1 : Int) ≥ 2 ^ 63)) = false := by decide
    have c1 : (items.isEmpty || (1 : Int) == 1) = true := by
      cases items.isEmpty <;> rfl
    wp_walk using wpAny_loadPart' hl
    repeat (first
      | (refine wpAny_ite_false (decide_eq_false (by rw [c0]; exact Bool.false_ne_true)) ?_; wp_walk using wpAny_loadPart' hl)
      | (refine wpAny_ite_true (decide_eq_true c1) ?_; wp_walk using wpAny_loadPart' hl))
    exact ⟨_, rfl, h⟩
/-- t * k, k from 1 on: of 1 it is t itself -/
def rRepA (K : PySem.W.Frag) : R2 := fun x y H Q => ∃ l k xs, x = .ref l ∧ y = .int k ∧ SqT K H l xs ∧ xs ≠ [] ∧ 1 ≤ k ∧ k ≤ 1000 ∧ xs.length ≤ 1000 ∧ (k = 1 → Q (.ref l) H) ∧ (2 ≤ k → ∀ p, H p = none → Q (.ref p) (upd H p (.tup (List.replicate k.toNat xs).flatten)))
variable {X : Cx}
theorem op_repA : OpR X (binaryOp .Mult) (rRepA X.K) := by
  intro pins s σ H x y v u Q I rx ry h
  obtain ⟨l, k, xs, rfl, rfl, hT, hne, h1, h2, hz, q1, q2⟩ := h
  by_cases hk : k = 1
  · subst hk
    cases rx
    obtain ⟨t, rfl⟩ := ry
    obtain ⟨its, r, ⟨⟨cls, dd, data, sl⟩, ho, hc, n, hd⟩, hs⟩ := I.tuple hT
    simp only at hc hd
    subst hc hd
    refine wpAny_binaryOp_repeat_ref (T := "tuple") (U := "int") (by decide) ⟨_, ho, rfl⟩ (fun s' => typeIs_int s' 1 t) noFill_tuple_mul F.fills_int_mul F.slot_int_rmul repeat_tuple F.slot_int_index.lookup
      (call_meets F.slot_int_rmul (typeIs_int s 1 t) F.entry_int_rmul (F.args_int_rmul_2 _ _) (int_rmul_tuple 1 t l its.toArray n dd sl)
        ⟨ho, rfl, ⟨_, ho, rfl⟩, call_meets F.slot_tuple_mul ⟨_, ho, rfl⟩ F.entry_tuple_mul (F.args_tuple_mul_2 _ _) (tuple_mul_one l its.toArray n dd sl t) ⟨ho, ?_⟩⟩)
    exact ⟨.ref l, H, I, rfl, q1 rfl⟩
  · exact op_repT pins s σ H _ _ v u Q I rx ry ⟨l, k, xs, rfl, rfl, hT, hne, by omega, h2, hz, q2 (by omega)⟩
end
end KT
namespace K05
open PySem PySem.Spec PyProof.Rows L2 PySem.W LamX KA KW KU KL KT
open Evl (pss_cut tCut)
/-! ### rows and planes of any values -/
def isNum : V → Bool
  | .int _ => true
  | _ => false
theorem Pl.num {K : PySem.W.Frag} {H : Hp} {x : V} {b : Bool} (h : Pl K H x b) : isNum x = b := by cases h <;> rfl
theorem Pl.keep {K : PySem.W.Frag} {H H' : Hp} {x : V} {b : Bool} (h : Pl K H x b) (s : Same H H') : Pl K H' x b := by
  cases h with
  | int i => exact .int i
  | bl i => exact .bl i
  | str i => exact .str i
  | non => exact .non
  | tup e => exact .tup (s _ _ e)
  | lst e => exact .lst (s _ _ e)
  | dK e => exact .dK (s _ _ e)
/-- no tuple -/
inductive Nt (H : Hp) : V → Prop where
  | int (i : Int) : Nt H (.int i)
  | bl (b : Bool) : Nt H (.bl b)
  | str (s : Str) : Nt H (.str s)
  | non : Nt H .non
  | lst {a : Addr} {xs : List V} (e : H a = some (.lst xs)) : Nt H (.ref a)
  | dK {a : Addr} {kvs : List (Key × V)} (e : H a = some (.dK kvs)) : Nt H (.ref a)
theorem Nt.ty {K : PySem.W.Frag} {H : Hp} {x : V} (h : Nt H x) : ∃ t : String, TyX K H x (.type t) ∧ kitB t "tuple" = some false := by
  cases h with
  | int i => exact ⟨"int", .base (.int i), by decide +kernel⟩
  | bl i => exact ⟨"bool", .base (.bl i), by decide +kernel⟩
  | str i => exact ⟨"str", .base (.str i), by decide +kernel⟩
  | non => exact ⟨"NoneType", .base .non, by decide +kernel⟩
  | lst e => exact ⟨"list", .base (.lst e), by decide +kernel⟩
  | dK e => exact ⟨"dict", .base (.dK e), by decide +kernel⟩
theorem Nt.keep {H H' : Hp} {x : V} (h : Nt H x) (s : Same H H') : Nt H' x := by
  cases h with
  | int i => exact .int i
  | bl i => exact .bl i
  | str i => exact .str i
  | non => exact .non
  | lst e => exact .lst (s _ _ e)
  | dK e => exact .dK (s _ _ e)
theorem take_map_snoc' (xs : List V) (f : V → Bool) (i : Nat) (x : V) (h : xs[i]? = some x) : ((xs.take (i + 1)).map f).map V.bl = ((xs.take i).map f).map V.bl ++ [V.bl (f x)] := by
  rw [List.take_add_one, h, List.map_append, List.map_append]
  rfl
/-- a value as a row: its items, if it is a tuple -/
inductive Rw (K : PySem.W.Frag) (H : Hp) : V → Option (List V) → Prop where
  | no {x : V} (h : Nt H x) : Rw K H x none
  | tup {a : Addr} {xs : List V} (e : H a = some (.tup xs)) (p : ∀ x ∈ xs, ∃ b, Pl K H x b) (l : xs.length ≤ 1000) : Rw K H (.ref a) (some xs)
theorem Rw.keep {K : PySem.W.Frag} {H H' : Hp} {x : V} {o : Option (List V)} (h : Rw K H x o) (s : Same H H') : Rw K H' x o := by
  cases h with
  | no h => exact .no (h.keep s)
  | tup e p l => exact .tup (s _ _ e) (fun x hx => (p x hx).imp fun b h => h.keep s) l
def rowB : Option (List V) → Bool
  | none => false
  | some xs => decide (1 ≤ xs.length) && decide (xs.length ≤ 16) && xs.all isNum
def spRow (K : PySem.W.Frag) : Sp := fun vs H Q _ => ∃ x o, vs = [x] ∧ Rw K H x o ∧ ∀ H', Same H H' → Q (.bl (rowB o)) H'
section
variable {P : Program} {w : World} {K : PySem.W.Frag} {mg : Str → Option Value} {base : Heap} (T : Top K mg)
theorem ok_is_row : FnOk P w K mg base (L2.CX P w) 2 T.is_row.a T.is_row.d ["thing"] (spRow K) := by
  refine T.is_row.f.okX sc_is_row (fun vs H Q E h => ?_) (fun cdv A outer s H vs Q E hr h => ?_)
  · obtain ⟨x, o, rfl, _⟩ := h
    rfl
  · obtain ⟨x, o, rfl, hp, k⟩ := h
    refine ⟨_, pss_one (ps_ret (pe_and
      (pe_callB call_isi (by rfl) T.b_isinstance PyProof.Rows.boot_isinstance (pa_cons (pv 0) (pa_cons (pe_bltn (v := .ty "tuple") (by rfl) T.b_tuple (by decide +kernel) rfl) pa_nil)))
      (pe_and (pe_chain op_le op_le pe_int (pe_callB call_len_seq (by rfl) T.b_len PySem.boot_len (pa_cons (pv 0) pa_nil)) pe_int)
      (pe_one (pe_callB (cr_all rfl) (by rfl) T.b_all (by decide +kernel) (pa_cons (pe_lc (own := [("part", 1)]) (g := gName 1) (tt := tYes) rfl sc_is_row.nd (pi_tup (pv 0)) (blkOk_by (own := [("part", 1)]) (N := ["thing", "part"]) (sc := defScope s_is_row) (by decide +kernel))
        (fun _ _ _ _ _ => pg_name (i := 1) sc_is_row.nd rfl (Or.inl rfl)) (fun _ _ _ _ _ => pts_nil) (fun _ _ _ _ _ => pe_call (ok_is_number T) hr (by rfl) T.is_number.m T.is_number.f.kp (bd_is_number T) .nil passE (pa_cons (pv 1) pa_nil))) pa_nil)))))), ?_⟩
    cases hp with
    | no hn =>
      obtain ⟨t, ht, h1⟩ := hn.ty (K := K)
      refine ⟨_, rfl, x, _, _, _, _, rfl, .ty "tuple", ht, kit_ty h1, _, rfl, iteF ?_⟩
      exact k H fun _ _ e => e
    | tup e p l =>
      rename_i a xs
      refine ⟨_, rfl, _, _, _, _, true, rfl, .ty "tuple", .base (.tup e), kit_ty (by decide +kernel), _, rfl, iteT ?_⟩
      refine ⟨_, rfl, a, xs, rfl, .inr (SqT.of e), 1, ((xs.length : Nat) : Int), rfl, rfl, _, rfl, ?_⟩
      have go : ∀ c1 c2 : Bool, c1 = decide ((1 : Int) ≤ ((xs.length : Nat) : Int)) → c2 = decide (((xs.length : Nat) : Int) ≤ 16) → rowB (some xs) = (c1 && c2 && xs.all isNum) := fun c1 c2 e1 e2 => by
        subst e1 e2
        show (decide (1 ≤ xs.length) && decide (xs.length ≤ 16) && xs.all isNum) = _
        congr 1
        congr 1 <;> exact decide_eq_decide.mpr (by omega)
      by_cases c1 : (1 : Int) ≤ ((xs.length : Nat) : Int)
      · rw [decide_eq_true c1]
        refine iteT ⟨((xs.length : Nat) : Int), 16, rfl, rfl, _, rfl, ?_⟩
        by_cases c2 : ((xs.length : Nat) : Int) ≤ 16
        · rw [decide_eq_true c2]
          refine iteT ⟨_, rfl, a, rfl, ⟨_, SqT.of e⟩, fun D hD => lc_tup (K := K) (a := a) (xs := xs) (fun i H' => H' D = some (.lst (((xs.take i).map isNum).map V.bl)) ∧ Same H H') ⟨upd_same, Same.new hD⟩ (fun i H' _ h => SqT.of (h.2 _ _ e)) ?_ ?_⟩
          · rintro i x H' hx ⟨h1, h2⟩
            refine ⟨rfl, ?_⟩
            dsimp only [tYes]
            rw [if_pos rfl]
            obtain ⟨b, hb⟩ := p x (List.mem_of_getElem? hx)
            refine ⟨_, rfl, x, b, rfl, hb.keep h2, _, h1, ?_, ?_, ?_⟩
            · rw [List.length_map, List.length_map, List.length_take]
              exact Nat.lt_of_le_of_lt (Nat.min_le_right _ _) (Nat.lt_of_le_of_lt l (by decide))
            · rw [upd_same, take_map_snoc' _ _ _ _ hx, hb.num]
            · intro b' o e'
              rw [upd_ne (ne_of_none e' hD)]
              exact h2 b' o e'
          · rintro H1 ⟨h1, h2⟩
            rw [List.take_length] at h1
            refine ⟨D, _, rfl, SqL.of h1, ?_⟩
            refine q_bl (k H1 h2) ?_
            rw [go true true (decide_eq_true c1).symm (decide_eq_true c2).symm, List.all_map]
            rfl
        · rw [decide_eq_false c2]
          refine iteF ?_
          exact q_bl (k H fun _ _ e => e) (by rw [go true false (decide_eq_true c1).symm (decide_eq_false c2).symm]; rfl)
      · rw [decide_eq_false c1]
        refine iteF ⟨_, rfl, iteF ?_⟩
        exact q_bl (k H fun _ _ e => e) (by rw [go false _ (decide_eq_false c1).symm rfl]; rfl)
end
end K05
namespace K05
open PySem PySem.Spec PyProof.Rows L2 PySem.W LamX KA KW KU KL KT
open Evl (pss_cut tCut)
/-! ### planes of any values -/
def okAs (n : Nat) (o : Option (List V)) : Bool := rowB o && (match o with | some xs => xs.length == n | none => false)
def width0 : List (Option (List V)) → Nat
  | some xs :: _ => xs.length
  | _ => 0
def rowsB : Option (List (Option (List V))) → Bool
  | none => false
  | some os => decide (1 ≤ os.length) && decide (os.length ≤ 16) && os.all (okAs (width0 os))
/-- the items of a tuple as rows -/
def Rws (K : PySem.W.Frag) (H : Hp) (vs : List V) (os : List (Option (List V))) : Prop := vs.length = os.length ∧ ∀ (i : Nat) (v : V), vs[i]? = some v → ∃ o, os[i]? = some o ∧ Rw K H v o
theorem Rws.keep {K : PySem.W.Frag} {H H' : Hp} {vs : List V} {os : List (Option (List V))} (h : Rws K H vs os) (s : Same H H') : Rws K H' vs os :=
  ⟨h.1, fun i v e => by
    obtain ⟨o, q1, q2⟩ := h.2 i v e
    exact ⟨o, q1, q2.keep s⟩⟩
/-- a value as a plane -/
inductive Th (K : PySem.W.Frag) (H : Hp) : V → Option (List (Option (List V))) → Prop where
  | no {x : V} (h : Nt H x) : Th K H x none
  | tup {a : Addr} {vs : List V} {os : List (Option (List V))} (e : H a = some (.tup vs)) (p : Rws K H vs os) (l : vs.length ≤ 1000) : Th K H (.ref a) (some os)
theorem Th.keep {K : PySem.W.Frag} {H H' : Hp} {x : V} {o : Option (List (Option (List V)))} (h : Th K H x o) (s : Same H H') : Th K H' x o := by
  cases h with
  | no h => exact .no (h.keep s)
  | tup e p l => exact .tup (s _ _ e) (p.keep s) l
theorem rowB_some {o : Option (List V)} (h : rowB o = true) : ∃ xs, o = some xs ∧ 1 ≤ xs.length ∧ xs.length ≤ 16 ∧ xs.all isNum = true := by
  cases o with
  | none => cases h
  | some xs =>
    simp only [rowB, Bool.and_eq_true, decide_eq_true_eq] at h
    exact ⟨xs, rfl, h.1.1, h.1.2, h.2⟩
theorem all_false {α : Type} {l : List α} {f : α → Bool} {i : Nat} {x : α} (h : l[i]? = some x) (hf : f x = false) : l.all f = false := by
  rw [List.all_eq_false]
  exact ⟨x, List.mem_of_getElem? h, by rw [hf]; exact Bool.false_ne_true⟩
theorem all_take_succ {α : Type} {l : List α} {f : α → Bool} {i : Nat} {x : α} (h : l[i]? = some x) (h1 : (l.take i).all f = true) (hf : f x = true) : (l.take (i + 1)).all f = true := by
  rw [List.take_add_one, h, List.all_append, h1]
  simp [hf]
def spRows (K : PySem.W.Frag) : Sp := fun vs H Q _ => ∃ x o, vs = [x] ∧ Th K H x o ∧ ∀ H', Same H H' → Q (.bl (rowsB o)) H'
section
variable {P : Program} {w : World} {K : PySem.W.Frag} {mg : Str → Option Value} {base : Heap} (T : Top K mg)
theorem ok_is_rows : FnOk P w K mg base (L2.CX P w) 3 T.is_rows.a T.is_rows.d ["thing"] (spRows K) := by
  refine T.is_rows.f.okX sc_is_rows (fun vs H Q E h => ?_) (fun cdv A outer s H vs Q E hr h => ?_)
  · obtain ⟨x, o, rfl, _⟩ := h
    rfl
  · obtain ⟨x, o, rfl, hp, k⟩ := h
    refine ⟨_, pss_cons (ps_if (PW.pt (pw_or (pt_not (pt_val (pe_callB call_isi (by rfl) T.b_isinstance PyProof.Rows.boot_isinstance (pa_cons (pv 0) (pa_cons (pe_bltn (v := .ty "tuple") (by rfl) T.b_tuple (by decide +kernel) rfl) pa_nil)))))
        (pw_or1 (pt_not (pt_chain op_le op_le pe_int (pe_callB call_len_seq (by rfl) T.b_len PySem.boot_len (pa_cons (pv 0) pa_nil)) pe_int)))))
        (pss_one (ps_ret pe_bl)) pss_nil)
      (pss_cons (ps_for (passes_of rfl) rfl (pi_tup (pv 0)) (pg_name (i := 1) sc_is_rows.nd rfl (.inl rfl))
        (pss_one (ps_if (PW.pt (pw_or (pt_not (pt_val (pe_call (ok_is_row T) hr (by rfl) T.is_row.m T.is_row.f.kp (bd_is_row T) .nil passE (pa_cons (pv 1) pa_nil))))
          (pw_or1 (pt_cmpR op_ne (pe_callB call_len_seq (by rfl) T.b_len PySem.boot_len (pa_cons (pv 1) pa_nil)) (pe_callB call_len_seq (by rfl) T.b_len PySem.boot_len (pa_cons (pe_ix ix_tup (pv 0) pe_int (fun _ _ => rfl)) pa_nil)) (nomark _)))))
          (pss_one (ps_ret pe_bl)) pss_nil)))
      (pss_one (ps_ret pe_bl))), ?_⟩
    cases hp with
    | no hn =>
      obtain ⟨t, ht, h1⟩ := hn.ty (K := K)
      refine ⟨_, rfl, x, _, _, _, _, rfl, .ty "tuple", ht, kit_ty h1, _, rfl, ?_⟩
      exact iteT (iteT (k H fun _ _ e => e))
    | tup e p l =>
      rename_i a xs os
      refine ⟨_, rfl, _, _, _, _, true, rfl, .ty "tuple", .base (.tup e), kit_ty (by decide +kernel), _, rfl, iteF ⟨_, rfl, a, xs, rfl, .inr (SqT.of e), 1, ((xs.length : Nat) : Int), rfl, rfl, _, rfl, ?_⟩⟩
      have hlen := p.1
      have go : ∀ c1 c2 : Bool, c1 = decide ((1 : Int) ≤ ((xs.length : Nat) : Int)) → c2 = decide (((xs.length : Nat) : Int) ≤ 16) → rowsB (some os) = (c1 && c2 && os.all (okAs (width0 os))) := fun c1 c2 e1 e2 => by
        subst e1 e2
        show (decide (1 ≤ os.length) && decide (os.length ≤ 16) && os.all (okAs (width0 os))) = _
        congr 1
        congr 1 <;> exact decide_eq_decide.mpr (by omega)
      by_cases c1 : (1 : Int) ≤ ((xs.length : Nat) : Int)
      · rw [decide_eq_true c1]
        refine iteT ⟨((xs.length : Nat) : Int), 16, rfl, rfl, _, rfl, ?_⟩
        by_cases c2 : ((xs.length : Nat) : Int) ≤ 16
        · rw [decide_eq_true c2]
          have go' : rowsB (some os) = os.all (okAs (width0 os)) := by rw [go true true (decide_eq_true c1).symm (decide_eq_true c2).symm]; rfl
          clear go
          refine iteF ?_
          refine ⟨_, rfl, a, rfl, ⟨_, SqT.of e⟩, for_tup (K := K) (a := a) (xs := xs) (fun i σ H' => (∃ v1, σ = [some (.ref a), v1]) ∧ Same H H' ∧ (os.take i).all (okAs (width0 os)) = true) ⟨⟨none, rfl⟩, fun _ _ e => e, rfl⟩ (fun i σ H' _ h => SqT.of (h.2.1 _ _ e)) ?_ ?_⟩
          · rintro i x σ H' hx ⟨⟨v1, rfl⟩, sm, ht⟩
            obtain ⟨o, ho, hr2⟩ := p.2 i x hx
            have hr3 := hr2.keep sm
            refine ⟨_, rfl, x, o, rfl, hr3, fun H2 sm2 => ?_⟩
            have sm' : Same H H2 := sm.trans sm2
            have bad : okAs (width0 os) o = false → Q (.bl false) H2 := fun z => q_bl (k H2 sm') (by rw [go', all_false ho z])
            refine ⟨_, rfl, ?_⟩
            cases hb : rowB o with
            | false => exact iteT (iteT (bad (by simp [okAs, hb])))
            | true =>
              refine iteF ?_
              obtain ⟨ys, rfl, y1, y2, y3⟩ := rowB_some hb
              cases hr3 with
              | tup eb pb lb =>
                rename_i b
                -- the first row
                obtain ⟨v0, hv0⟩ : ∃ v0, xs[0]? = some v0 := ⟨_, List.getElem?_eq_getElem (by omega)⟩
                obtain ⟨o0, ho0, hr0⟩ := p.2 0 v0 hv0
                have hs0 : ∃ zs, o0 = some zs := by
                  cases i with
                  | zero =>
                    rw [ho] at ho0
                    exact ⟨ys, (Option.some.inj ho0).symm⟩
                  | succ i =>
                    rw [List.all_eq_true] at ht
                    have hm : o0 ∈ os.take (i + 1) := List.mem_of_getElem? (i := 0) (by rw [List.getElem?_take]; simpa using ho0)
                    have := ht o0 hm
                    simp only [okAs, Bool.and_eq_true] at this
                    obtain ⟨zs, h, _⟩ := rowB_some this.1
                    exact ⟨zs, h⟩
                obtain ⟨zs, rfl⟩ := hs0
                have hw0 : width0 os = zs.length := by
                  cases os with
                  | nil => cases ho0
                  | cons o1 os =>
                    have : o1 = some zs := by simpa using ho0
                    subst this
                    rfl
                have hr0' := hr0.keep sm'
                cases hr0' with
                | tup e0 p0 l0 =>
                  refine ⟨_, rfl, _, ys, rfl, .inr (SqT.of (sm2 _ _ eb)), _, rfl, a, xs, 0, _, rfl, rfl, SqT.of (sm' _ _ e), atI_nat (j := 0) hv0, _, zs, rfl, .inr (SqT.of e0), ?_⟩
                  refine ⟨rfl, _, rfl, ?_⟩
                  rw [dec_int]
                  by_cases c : ys.length = zs.length
                  · rw [show (((ys.length : Nat) : Int) == ((zs.length : Nat) : Int)) = true by simp [c]]
                    refine iteF ⟨⟨_, rfl⟩, sm', all_take_succ ho ht ?_⟩
                    simp [okAs, hb, hw0, c]
                  · rw [show (((ys.length : Nat) : Int) == ((zs.length : Nat) : Int)) = false from beq_eq_false_iff_ne.mpr (by omega)]
                    refine iteT (bad ?_)
                    simp [okAs, hb, hw0, c]
          · rintro σ H' ⟨⟨v1, rfl⟩, sm, ht⟩
            rw [hlen, List.take_length] at ht
            exact q_bl (k H' sm) (by rw [go', ht])
        · rw [decide_eq_false c2]
          refine iteT ?_
          exact q_bl (k H fun _ _ e => e) (by rw [go true false (decide_eq_true c1).symm (decide_eq_false c2).symm]; rfl)
      · rw [decide_eq_false c1]
        refine iteF ⟨_, rfl, ?_⟩
        refine iteT ?_
        exact q_bl (k H fun _ _ e => e) (by rw [go false _ (decide_eq_false c1).symm rfl]; rfl)
end
end K05
namespace K05
open PySem PySem.Spec PyProof.Rows L2 PySem.W LamX KA KW KU KL KT
open Evl (pss_cut tCut)
/-! ### planes of numbers -/
/-- a tuple of h rows of w numbers -/
structure Pn (H : Hp) (a : Addr) (nss : List (List Int)) (w : Nat) : Prop where
  at' : ∃ vs, H a = some (.tup vs) ∧ vs.length = nss.length ∧ ∀ (i : Nat) (v : V), vs[i]? = some v → ∃ b ns, v = .ref b ∧ nss[i]? = some ns ∧ H b = some (.tup (ns.map V.int))
  h1 : 1 ≤ nss.length
  h2 : nss.length ≤ 16
  w1 : 1 ≤ w
  w2 : w ≤ 16
  ws : ∀ ns ∈ nss, ns.length = w
theorem Pn.keep {H H' : Hp} {a : Addr} {nss : List (List Int)} {w : Nat} (p : Pn H a nss w) (s : Same H H') : Pn H' a nss w := by
  refine ⟨?_, p.h1, p.h2, p.w1, p.w2, p.ws⟩
  obtain ⟨vs, h, l, q⟩ := p.at'
  refine ⟨vs, s _ _ h, l, fun i v e => ?_⟩
  obtain ⟨b, ns, e1, e2, e3⟩ := q i v e
  exact ⟨b, ns, e1, e2, s _ _ e3⟩
theorem nums_map : ∀ {xs : List V}, xs.all isNum = true → ∃ ns : List Int, xs = ns.map V.int
  | [], _ => ⟨[], rfl⟩
  | x :: xs, h => by
    rw [List.all_cons, Bool.and_eq_true] at h
    obtain ⟨ns, rfl⟩ := nums_map h.2
    cases x with
    | int i => exact ⟨i :: ns, rfl⟩
    | _ => exact absurd h.1 (by simp [isNum])
theorem opts_map : ∀ {os : List (Option (List V))}, (∀ o ∈ os, rowB o = true) → ∃ nss : List (List Int), os = nss.map fun ns => some (ns.map V.int)
  | [], _ => ⟨[], rfl⟩
  | o :: os, h => by
    obtain ⟨nss, rfl⟩ := opts_map (os := os) fun o ho => h o (List.mem_cons_of_mem _ ho)
    obtain ⟨xs, rfl, _, _, hx⟩ := rowB_some (h o List.mem_cons_self)
    obtain ⟨ns, rfl⟩ := nums_map hx
    exact ⟨ns :: nss, rfl⟩
/-- of a value that is a tuple of rows of numbers -/
theorem Th.good {K : PySem.W.Frag} {H : Hp} {x : V} {o : Option (List (Option (List V)))} (h : Th K H x o) (g : rowsB o = true) : ∃ a nss w, x = .ref a ∧ Pn H a nss w ∧ o = some (nss.map fun ns => some (ns.map V.int)) := by
  cases h with
  | no h => cases g
  | tup e p l =>
    rename_i a vs os
    simp only [rowsB, Bool.and_eq_true, decide_eq_true_eq, List.all_eq_true, okAs] at g
    obtain ⟨⟨g1, g2⟩, g3⟩ := g
    obtain ⟨nss, rfl⟩ := opts_map fun o ho => (g3 o ho).1
    refine ⟨a, nss, width0 (nss.map fun ns => some (ns.map V.int)), rfl, ⟨⟨vs, e, ?_, fun i v hv => ?_⟩, ?_, ?_, ?_, ?_, fun ns hn => ?_⟩, rfl⟩
    · rw [p.1, List.length_map]
    · obtain ⟨o, ho, hr⟩ := p.2 i v hv
      rw [List.getElem?_map] at ho
      cases hn : nss[i]? with
      | none => rw [hn] at ho; cases ho
      | some ns =>
        rw [hn] at ho
        have := Option.some.inj ho
        subst this
        cases hr with
        | tup e' _ _ => exact ⟨_, ns, rfl, rfl, e'⟩
    · rw [List.length_map] at g1
      exact g1
    · rw [List.length_map] at g2
      exact g2
    · cases nss with
      | nil => rw [List.length_map] at g1; exact absurd g1 (by decide)
      | cons ns nss =>
        obtain ⟨xs, e1, e2, e3, _⟩ := rowB_some (g3 _ (by rw [List.map_cons]; exact List.mem_cons_self)).1
        have := Option.some.inj e1
        subst this
        exact e2
    · cases nss with
      | nil => rw [List.length_map] at g1; exact absurd g1 (by decide)
      | cons ns nss =>
        obtain ⟨xs, e1, e2, e3, _⟩ := rowB_some (g3 _ (by rw [List.map_cons]; exact List.mem_cons_self)).1
        have := Option.some.inj e1
        subst this
        exact e3
    · have := (g3 _ (List.mem_map_of_mem hn)).2
      simpa using this
def minL : List Int → Int
  | n :: r => r.foldl min n
  | [] => 0
def maxL : List Int → Int
  | n :: r => r.foldl max n
  | [] => 0
theorem minL_eq {ns : List Int} {m : Int} (h : m ∈ ns) (l : ∀ y ∈ ns, m ≤ y) : m = minL ns := by
  cases ns with
  | nil => cases h
  | cons n r =>
    have h1 := l _ (foldl_min_mem n r)
    have h2 := foldl_min_le n r m h
    show m = r.foldl min n
    omega
theorem maxL_eq {ns : List Int} {m : Int} (h : m ∈ ns) (l : ∀ y ∈ ns, y ≤ m) : m = maxL ns := by
  cases ns with
  | nil => cases h
  | cons n r =>
    have h1 := l _ (foldl_max_mem n r)
    have h2 := foldl_max_ge n r m h
    show m = r.foldl max n
    omega
theorem minL_le {ns : List Int} (h : 0 < ns.length) (lo : Int) : lo ≤ minL ns ↔ ∀ y ∈ ns, lo ≤ y := by
  cases ns with
  | nil => cases h
  | cons n r =>
    constructor
    · intro q y hy
      exact Int.le_trans q (foldl_min_le n r y hy)
    · intro q
      exact q _ (foldl_min_mem n r)
theorem maxL_ge {ns : List Int} (h : 0 < ns.length) (hi : Int) : maxL ns ≤ hi ↔ ∀ y ∈ ns, y ≤ hi := by
  cases ns with
  | nil => cases h
  | cons n r =>
    constructor
    · intro q y hy
      exact Int.le_trans (foldl_max_ge n r y hy) q
    · intro q
      exact q _ (foldl_max_mem n r)
def betB (nss : List (List Int)) (lo hi : Int) : Bool := nss.all fun ns => ns.all fun n => decide (lo ≤ n) && decide (n ≤ hi)
theorem betB_eq {nss : List (List Int)} (h : 0 < nss.length) (hw : ∀ ns ∈ nss, 0 < ns.length) (lo hi : Int) : betB nss lo hi = (decide (lo ≤ minL (nss.map minL)) && decide (maxL (nss.map maxL) ≤ hi)) := by
  rw [Bool.eq_iff_iff]
  simp only [betB, List.all_eq_true, Bool.and_eq_true, decide_eq_true_eq]
  rw [minL_le (by rw [List.length_map]; exact h), maxL_ge (by rw [List.length_map]; exact h)]
  constructor
  · intro q
    constructor
    · intro y hy
      obtain ⟨ns, hn, rfl⟩ := List.mem_map.mp hy
      exact (minL_le (hw ns hn) lo).mpr fun y hy => (q ns hn y hy).1
    · intro y hy
      obtain ⟨ns, hn, rfl⟩ := List.mem_map.mp hy
      exact (maxL_ge (hw ns hn) hi).mpr fun y hy => (q ns hn y hy).2
  · intro q ns hn n hnn
    exact ⟨(minL_le (hw ns hn) lo).mp (q.1 _ (List.mem_map_of_mem hn)) n hnn, (maxL_ge (hw ns hn) hi).mp (q.2 _ (List.mem_map_of_mem hn)) n hnn⟩
theorem take_map_snocI (xs : List (List Int)) (f : List Int → Int) (i : Nat) (x : List Int) (h : xs[i]? = some x) : ((xs.take (i + 1)).map f).map V.int = ((xs.take i).map f).map V.int ++ [V.int (f x)] := by
  rw [List.take_add_one, h, List.map_append, List.map_append]
  rfl
def spBetween : Sp := fun vs H Q _ => ∃ a nss w lo hi, vs = [.ref a, .int lo, .int hi] ∧ Pn H a nss w ∧ ∀ H', Same H H' → Q (.bl (betB nss lo hi)) H'
section
variable {P : Program} {w : World} {K : PySem.W.Frag} {mg : Str → Option Value} {base : Heap} (T : Top K mg)
theorem ok_are_between : FnOk P w K mg base (L2.CX P w) 2 T.are_between.a T.are_between.d ["rows", "low", "high"] spBetween := by
  refine T.are_between.f.okX sc_are_between (fun vs H Q E h => ?_) (fun cdv A outer s H vs Q E hr h => ?_)
  · obtain ⟨a, nss, w, lo, hi, rfl, _⟩ := h
    rfl
  · obtain ⟨a, nss, w, lo, hi, rfl, p, k⟩ := h
    have hu2 : ∀ {A' : Around}, Room 1 A' → A'.units + 2 < cLine := fun r => by
      have := r.units
      omega
    refine ⟨_, pss_one (ps_ret (pe_and
      (pe_cmpR op_le (pv 1) (pe_callB (cr_min rfl) (by rfl) T.b_min PyProof.Rows.boot_min (pa_cons (pe_lc (own := [("row", 3)]) (g := gName 3) (tt := tYes) rfl sc_are_between.nd (pi_tup (pv 0)) (blkOk_by (own := [("row", 3)]) (N := ["rows", "low", "high", "row"]) (sc := defScope s_are_between) (by decide +kernel))
        (fun _ _ _ _ _ => pg_name (i := 3) sc_are_between.nd rfl (Or.inl rfl)) (fun _ _ _ _ _ => pts_nil) (fun _ _ _ _ _ => pe_callB (show CallR _ _ (rMinT K) from cr_minT rfl (hu2 hr)) (by rfl) T.b_min PyProof.Rows.boot_min (pa_cons (pv 3) pa_nil))) pa_nil)) (nomark _))
      (pe_one (pe_cmpR op_le (pe_callB (cr_max rfl) (by rfl) T.b_max PyProof.Rows.boot_max (pa_cons (pe_lc (own := [("row", 3)]) (g := gName 3) (tt := tYes) rfl sc_are_between.nd (pi_tup (pv 0)) (blkOk_by (own := [("row", 3)]) (N := ["rows", "low", "high", "row"]) (sc := defScope s_are_between) (by decide +kernel))
        (fun _ _ _ _ _ => pg_name (i := 3) sc_are_between.nd rfl (Or.inl rfl)) (fun _ _ _ _ _ => pts_nil) (fun _ _ _ _ _ => pe_callB (show CallR _ _ (rMaxT K) from cr_maxT rfl (hu2 hr)) (by rfl) T.b_max PyProof.Rows.boot_max (pa_cons (pv 3) pa_nil))) pa_nil)) (pv 2) (nomark _))))), ?_⟩
    obtain ⟨vs, e, l, q⟩ := p.at'
    have hl1 : nss.length < sizeLine := Nat.lt_of_le_of_lt p.h2 (by decide)
    have nz : ∀ ns ∈ nss, 0 < ns.length := fun ns h => by rw [p.ws ns h]; exact p.w1
    have fin : ∀ c1 c2 : Bool, c1 = decide (lo ≤ minL (nss.map minL)) → c2 = decide (maxL (nss.map maxL) ≤ hi) → betB nss lo hi = (c1 && c2) := fun c1 c2 e1 e2 => by
      rw [betB_eq p.h1 nz, e1, e2]
    refine ⟨_, rfl, _, rfl, a, rfl, ⟨_, SqT.of e⟩, fun D hD => lc_tup (K := K) (a := a) (xs := vs) (fun i H' => H' D = some (.lst (((nss.take i).map minL).map V.int)) ∧ Same H H') ⟨upd_same, Same.new hD⟩ (fun i H' _ h => SqT.of (h.2 _ _ e)) ?_ ?_⟩
    · rintro i x H' hx ⟨h1, h2⟩
      refine ⟨rfl, ?_⟩
      dsimp only [tYes]
      rw [if_pos rfl]
      obtain ⟨b, ns, rfl, hn, hb⟩ := q i x hx
      refine ⟨_, rfl, b, ns, rfl, SqT.of (h2 _ _ hb), nz ns (List.mem_of_getElem? hn), fun m hm hm2 => ⟨_, h1, ?_, ?_, ?_⟩⟩
      · rw [List.length_map, List.length_map, List.length_take]
        exact Nat.lt_of_le_of_lt (Nat.min_le_right _ _) hl1
      · rw [upd_same, take_map_snocI _ _ _ _ hn, minL_eq hm hm2]
      · intro b' o e'
        rw [upd_ne (ne_of_none e' hD)]
        exact h2 b' o e'
    rintro H1 ⟨h1, s1⟩
    rw [l, List.take_length] at h1
    refine ⟨D, nss.map minL, rfl, SqL.of h1, by rw [List.length_map]; exact p.h1, fun m hm hm2 => ⟨_, _, rfl, rfl, _, rfl, ?_⟩⟩
    rw [minL_eq hm hm2]
    by_cases c1 : lo ≤ minL (nss.map minL)
    · rw [decide_eq_true c1]
      have e1 := s1 _ _ e
      refine iteT ⟨_, rfl, a, rfl, ⟨_, SqT.of e1⟩, fun D hD => lc_tup (K := K) (a := a) (xs := vs) (fun i H' => H' D = some (.lst (((nss.take i).map maxL).map V.int)) ∧ Same H1 H') ⟨upd_same, Same.new hD⟩ (fun i H' _ h => SqT.of (h.2 _ _ e1)) ?_ ?_⟩
      · rintro i x H' hx ⟨h1, h2⟩
        refine ⟨rfl, ?_⟩
        dsimp only [tYes]
        rw [if_pos rfl]
        obtain ⟨b, ns, rfl, hn, hb⟩ := q i x hx
        refine ⟨_, rfl, b, ns, rfl, SqT.of (h2 _ _ (s1 _ _ hb)), nz ns (List.mem_of_getElem? hn), fun m hm hm2 => ⟨_, h1, ?_, ?_, ?_⟩⟩
        · rw [List.length_map, List.length_map, List.length_take]
          exact Nat.lt_of_le_of_lt (Nat.min_le_right _ _) hl1
        · rw [upd_same, take_map_snocI _ _ _ _ hn, maxL_eq hm hm2]
        · intro b' o e'
          rw [upd_ne (ne_of_none e' hD)]
          exact h2 b' o e'
      rintro H2 ⟨h2, s2⟩
      rw [l, List.take_length] at h2
      refine ⟨D, nss.map maxL, rfl, SqL.of h2, by rw [List.length_map]; exact p.h1, fun m hm hm2 => ⟨_, rfl, _, _, rfl, rfl, ?_⟩⟩
      rw [maxL_eq hm hm2]
      exact q_bl (k H2 (s1.trans s2)) (by rw [fin true _ (decide_eq_true c1).symm rfl, Bool.true_and])
    · rw [decide_eq_false c1]
      exact iteF (q_bl (k H1 s1) (by rw [fin false _ (decide_eq_false c1).symm rfl, Bool.false_and]))
end
end K05
namespace K05
open PySem PySem.Spec PyProof.Rows L2 PySem.W LamX KA KW KU KL KT
open Evl (pss_cut tCut)
/-! ### == of shapes -/
/-- x is a shape with these parts -/
def Sh (C : Addr) (H : Hp) (x : V) (h w lo hi : Int) : Prop := ∃ (a dx : Addr), x = .ref a ∧ H a = some (.ins C dx (shapeFs h w lo hi))
theorem Sh.keep {C : Addr} {H H' : Hp} {x : V} {h w lo hi : Int} (p : Sh C H x h w lo hi) (s : Same H H') : Sh C H' x h w lo hi := by
  obtain ⟨a, dx, rfl, e⟩ := p
  exact ⟨a, dx, rfl, s _ _ e⟩
end K05
namespace K05
open PySem PySem.Spec PyProof.Rows L2 PySem.W LamX KA KW KU KL KT
open Evl (pss_cut tCut)
/-! ### planes of a shape -/
def allIn (lo hi : Int) : Option (List V) → Bool
  | some xs => xs.all fun x => within x lo hi
  | none => false
def planeB (o : Option (List (Option (List V)))) (h w lo hi : Int) : Bool := rowsB o && (match o with | some os => decide (((os.length : Nat) : Int) = h) && decide (((width0 os : Nat) : Int) = w) && os.all (allIn lo hi) | none => false)
theorem betB_in (nss : List (List Int)) (lo hi : Int) : (nss.map fun ns => some (ns.map V.int)).all (allIn lo hi) = betB nss lo hi := by
  rw [List.all_map]
  unfold betB
  congr 1
  funext ns
  show (ns.map V.int).all (fun x => within x lo hi) = _
  rw [List.all_map]
  rfl
theorem Pn.width {H : Hp} {a : Addr} {nss : List (List Int)} {w : Nat} (p : Pn H a nss w) : width0 (nss.map fun ns => some (ns.map V.int)) = w := by
  cases nss with
  | nil => exact absurd p.h1 (by simp)
  | cons ns nss =>
    show (ns.map V.int).length = w
    rw [List.length_map]
    exact p.ws ns List.mem_cons_self
theorem Pn.first {H : Hp} {a : Addr} {nss : List (List Int)} {w : Nat} (p : Pn H a nss w) : ∃ vs b ns, H a = some (.tup vs) ∧ vs.length = nss.length ∧ vs[0]? = some (.ref b) ∧ H b = some (.tup (ns.map V.int)) ∧ ns.length = w ∧ nss[0]? = some ns := by
  obtain ⟨vs, e, l, q⟩ := p.at'
  have h1 := p.h1
  obtain ⟨v0, hv0⟩ : ∃ v0, vs[0]? = some v0 := ⟨_, List.getElem?_eq_getElem (by omega)⟩
  obtain ⟨b, ns, rfl, hn, hb⟩ := q 0 v0 hv0
  exact ⟨vs, b, ns, e, l, hv0, hb, p.ws ns (List.mem_of_getElem? hn), hn⟩
def spFits (K : PySem.W.Frag) (C : Addr) : Sp := fun vs H Q _ => ∃ x y o h w lo hi, vs = [x, y] ∧ Sh C H x h w lo hi ∧ Th K H y o ∧ ∀ H', Same H H' → Q (.bl (planeB o h w lo hi)) H'
section
variable {P : Program} {w : World} {K : PySem.W.Frag} {mg : Str → Option Value} {base : Heap} (T : Top K mg) (SH : ShapeT K mg) (BE : BadShapeT P w K mg T.reel.C)
theorem ok_fits : FnOk P w K mg base (L2.CX P w) 4 T.fits_shape.a T.fits_shape.d ["shape", "thing"] (spFits K SH.C) := by
  refine T.fits_shape.f.okX sc_fits_shape (fun vs H Q E h => ?_) (fun cdv A outer s H vs Q E hr h => ?_)
  · obtain ⟨x, y, _, _, _, _, _, rfl, _⟩ := h
    rfl
  · obtain ⟨x, y, o, ht, wd, lo, hi, rfl, sh, th, k⟩ := h
    refine ⟨_, pss_one (ps_ret (pe_and (pe_call (ok_is_rows T) (hr.mono (by decide)) (by rfl) T.is_rows.m T.is_rows.f.kp (bd_is_rows T) .nil passE (pa_cons (pv 1) pa_nil))
      (pe_and (pe_cmpR op_eq (pe_callB call_len_seq (by rfl) T.b_len PySem.boot_len (pa_cons (pv 1) pa_nil)) (pe_fld (pv 0) rfl) (nomark _))
      (pe_and (pe_cmpR op_eq (pe_callB call_len_seq (by rfl) T.b_len PySem.boot_len (pa_cons (pe_ix ix_tup (pv 1) pe_int (fun _ _ => rfl)) pa_nil)) (pe_fld (pv 0) rfl) (nomark _))
      (pe_one (pe_call (ok_are_between T) (hr.mono (by decide)) (by rfl) T.are_between.m T.are_between.f.kp (bd_are_between T) .nil passE (pa_cons (pv 1) (pa_cons (pe_fld (pv 0) rfl) (pa_cons (pe_fld (pv 0) rfl) pa_nil))))))))), ?_⟩
    refine ⟨_, rfl, y, o, rfl, th, fun H1 s1 => ⟨_, rfl, ?_⟩⟩
    have sc : ∀ i j : Int, decide (V.int i = V.int j) = decide (i = j) := fun i j => decide_eq_decide.mpr ⟨fun z => V.int.inj z, fun z => by rw [z]⟩
    cases hg : rowsB o with
    | false => exact iteF (q_bl (k H1 s1) (by unfold planeB; rw [hg]; rfl))
    | true =>
      obtain ⟨a, nss, wn, rfl, pn, rfl⟩ := th.good hg
      have pn1 := pn.keep s1
      obtain ⟨b, dx, rfl, hb⟩ := sh.keep s1
      obtain ⟨vs, b0, ns, e, l, hv0, hb0, lw, hn⟩ := pn1.first
      have eq : planeB (some (nss.map fun ns => some (ns.map V.int))) ht wd lo hi = (decide (((nss.length : Nat) : Int) = ht) && decide (((wn : Nat) : Int) = wd) && betB nss lo hi) := by
        unfold planeB
        rw [hg, Bool.true_and]
        show (decide ((((nss.map fun ns => some (ns.map V.int)).length : Nat) : Int) = ht) && decide (((width0 (nss.map fun ns => some (ns.map V.int)) : Nat) : Int) = wd) && (nss.map fun ns => some (ns.map V.int)).all (allIn lo hi)) = _
        rw [betB_in, pn.width, List.length_map]
      rw [eq] at k
      refine iteT ⟨_, rfl, a, vs, rfl, .inr (SqT.of e), _, rfl, b, SH.C, dx, _, _, rfl, hb, SH.i.cl, SH.n1, rfl, rfl, _, rfl, ?_⟩
      rw [sc, l]
      by_cases c1 : ((nss.length : Nat) : Int) = ht
      case neg => rw [decide_eq_false c1]; exact iteF (q_bl (k H1 s1) (by rw [decide_eq_false c1]; rfl))
      rw [decide_eq_true c1]
      refine iteT ⟨_, rfl, a, vs, 0, _, rfl, rfl, SqT.of e, atI_nat (j := 0) hv0, _, ns.map V.int, rfl, .inr (SqT.of hb0), _, rfl, b, SH.C, dx, _, _, rfl, hb, SH.i.cl, SH.n2, rfl, rfl, _, rfl, ?_⟩
      rw [sc, List.length_map, lw]
      by_cases c2 : ((wn : Nat) : Int) = wd
      case neg => rw [decide_eq_false c2]; exact iteF (q_bl (k H1 s1) (by rw [decide_eq_false c2, Bool.and_false]; rfl))
      rw [decide_eq_true c2]
      refine iteT ⟨_, rfl, _, rfl, b, SH.C, dx, _, _, rfl, hb, SH.i.cl, SH.n3, rfl, _, rfl, b, SH.C, dx, _, _, rfl, hb, SH.i.cl, SH.n4, rfl, a, nss, wn, lo, hi, rfl, pn1, fun H2 s2 => ?_⟩
      exact q_bl (k H2 (s1.trans s2)) (by rw [decide_eq_true c1, decide_eq_true c2]; rfl)
end
end K05
namespace K05
open PySem PySem.Spec PyProof.Rows L2 PySem.W LamX KA KW KU KL KT
open Evl (pss_cut tCut)
/-! ### turned -/
def turnB (o : Option (List (Option (List V)))) : Bool := rowsB o && (match o with | some os => os.all (allIn (-512) 511) | none => false)
def trans (nss : List (List Int)) (w : Nat) : List (List Int) := (List.range w).map fun j => nss.map fun ns => ns.getD j 0
def rTupOf (K : PySem.W.Frag) : List V → Hp → VK → Prop := fun xs H Q => ∃ p ys, xs = [.ref p] ∧ ((SqL K H p ys ∧ ∀ l, H l = none → Q (.ref l) (upd H l (.tup ys))) ∨ (SqT K H p ys ∧ Q (.ref p) H))
/-- these values are tuples of these numbers -/
def Rows (H : Hp) (rs : List V) (mss : List (List Int)) : Prop := rs.length = mss.length ∧ ∀ (j : Nat) (v : V), rs[j]? = some v → ∃ b ns, v = .ref b ∧ mss[j]? = some ns ∧ H b = some (.tup (ns.map V.int))
theorem Rows.keep {H H' : Hp} {rs : List V} {mss : List (List Int)} (r : Rows H rs mss) (s : Same H H') : Rows H' rs mss := ⟨r.1, fun j v e => by
  obtain ⟨b, ns, e1, e2, e3⟩ := r.2 j v e
  exact ⟨b, ns, e1, e2, s _ _ e3⟩⟩
theorem Rows.put {H : Hp} {rs xs : List V} {mss : List (List Int)} {D : Addr} {o : HO} (r : Rows H rs mss) (h : H D = some (.lst xs)) : Rows (upd H D o) rs mss := ⟨r.1, fun j v e => by
  obtain ⟨b, ns, e1, e2, e3⟩ := r.2 j v e
  refine ⟨b, ns, e1, e2, ?_⟩
  rw [upd_ne (fun z => by rw [z, h] at e3; cases e3)]
  exact e3⟩
theorem Rows.snoc {H : Hp} {rs : List V} {mss : List (List Int)} {p : Addr} {ms : List Int} (r : Rows H rs mss) (h : H p = some (.tup (ms.map V.int))) : Rows H (rs ++ [.ref p]) (mss ++ [ms]) := by
  refine ⟨by simp [r.1], fun j v e => ?_⟩
  by_cases c : j < rs.length
  · rw [List.getElem?_append_left c] at e
    obtain ⟨b, ns, e1, e2, e3⟩ := r.2 j v e
    exact ⟨b, ns, e1, by rw [List.getElem?_append_left (by rw [← r.1]; exact c)]; exact e2, e3⟩
  · rw [List.getElem?_append_right (by omega)] at e
    have hj : j - rs.length = 0 := by
      rcases Nat.eq_zero_or_pos (j - rs.length) with h | h
      · exact h
      · rw [List.getElem?_eq_none (by simp; omega)] at e
        cases e
    rw [hj] at e
    have := Option.some.inj e
    subst this
    refine ⟨p, ms, rfl, ?_, h⟩
    rw [List.getElem?_append_right (by rw [← r.1]; omega), ← r.1, hj]
    rfl
theorem Rows.nil {H : Hp} : Rows H [] [] := ⟨rfl, fun j v e => by simp at e⟩
theorem Rows.pn {H : Hp} {rs : List V} {mss : List (List Int)} {a : Addr} {w : Nat} (r : Rows H rs mss) (e : H a = some (.tup rs)) (h1 : 1 ≤ mss.length) (h2 : mss.length ≤ 16) (w1 : 1 ≤ w) (w2 : w ≤ 16) (ws : ∀ ns ∈ mss, ns.length = w) : Pn H a mss w := ⟨⟨rs, e, r⟩, h1, h2, w1, w2, ws⟩
theorem Pn.rows {H : Hp} {a : Addr} {nss : List (List Int)} {w : Nat} (p : Pn H a nss w) : ∃ vs, H a = some (.tup vs) ∧ Rows H vs nss := p.at'
theorem Rows.rev {H : Hp} {rs : List V} {mss : List (List Int)} (r : Rows H rs mss) : Rows H rs.reverse mss.reverse := by
  refine ⟨by simp [r.1], fun j v e => ?_⟩
  have hj : j < rs.length := by
    rcases Nat.lt_or_ge j rs.length with h | h
    · exact h
    · rw [List.getElem?_eq_none (by simpa using h)] at e
      cases e
  rw [List.getElem?_reverse hj] at e
  obtain ⟨b, ns, e1, e2, e3⟩ := r.2 _ v e
  exact ⟨b, ns, e1, by rw [List.getElem?_reverse (by rw [← r.1]; exact hj), ← r.1]; exact e2, e3⟩
theorem take_snoc {α β : Type} {xs : List α} (f : α → β) {i : Nat} {x : α} (h : xs[i]? = some x) : (xs.take (i + 1)).map f = (xs.take i).map f ++ [f x] := by
  rw [List.take_add_one, h, List.map_append]
  rfl
theorem Same.put {H H' : Hp} {D : Addr} {o : HO} (s : Same H H') (h : H D = none) : Same H (upd H' D o) := fun b o e => by
  rw [upd_ne (ne_of_none e h)]
  exact s b o e
/-- what a plane is turned by -/
inductive Sc : V → Prop where
  | int (i : Int) : Sc (.int i)
  | str (s : Str) : Sc (.str s)
  | non : Sc .non
def Turn (H : Hp) (Q : VK) (nss : List (List Int)) (w : Nat) : Prop := ∀ (H' : Hp) (a : Addr), Same H H' → Pn H' a nss w → Q (.ref a) H'
def spTurned (K : PySem.W.Frag) (CP CW : Addr) : Sp := fun vs H Q E => ∃ x y o, vs = [x, y] ∧ Sc y ∧ Th K H x o ∧ (turnB o = false → ∀ H', Same H H' → E (.ref CP) none H') ∧
  ∀ a nss w, x = .ref a → Pn H a nss w → betB nss (-512) 511 = true → (y = .str "sideways" → Turn H Q (nss.map List.reverse) w) ∧ (y = .str "upside" → Turn H Q nss.reverse w) ∧ (y = .str "corner" → Turn H Q (trans nss w) nss.length) ∧
    (y ≠ .str "sideways" → y ≠ .str "upside" → y ≠ .str "corner" → ∀ H', Same H H' → E (.ref CW) none H')
section
variable {P : Program} {w : World} {K : PySem.W.Frag} {mg : Str → Option Value} {base : Heap} (T : Top K mg)
end
end K05
namespace K05
open PySem PySem.Spec PyProof.Rows L2 PySem.W LamX KA KW KU KL KT
open Evl (pss_cut tCut)
/-! ### a plane is drawn -/
theorem StAt.put' {H : Hp} {st lg cl L : Addr} {o : HO} {n : Nat} (S : StAt H st lg cl n) (h1 : L ≠ st) (h2 : L ≠ lg) (h3 : L ≠ cl) : StAt (upd H L o) st lg cl n := by
  obtain ⟨a, b, c, d, s, h⟩ := S
  exact ⟨a, b, c, d, { s with d := (upd_ne (Ne.symm h1)).trans s.d, l := (upd_ne (Ne.symm h2)).trans s.l, c := (upd_ne (Ne.symm h3)).trans s.c }, h⟩
theorem StAt.off3 {H : Hp} {st lg cl p : Addr} {n : Nat} (S : StAt H st lg cl n) (hp : H p = none) : p ≠ st ∧ p ≠ lg ∧ p ≠ cl := by
  obtain ⟨_, _, _, _, s, _⟩ := S
  exact ⟨(ne_of_none s.d hp).symm, (ne_of_none s.l hp).symm, (ne_of_none s.c hp).symm⟩
theorem Rows.kp {H H' : Hp} {st lg cl : Addr} {n : Nat} {rs : List V} {mss : List (List Int)} (r : Rows H rs mss) (S : StAt H st lg cl n) (k : Kp st lg H H') : Rows H' rs mss := ⟨r.1, fun j v e => by
  obtain ⟨b, ns, e1, e2, e3⟩ := r.2 j v e
  obtain ⟨_, _, _, _, s, _⟩ := S
  exact ⟨b, ns, e1, e2, k _ _ e3 (ne_of e3 s.d (by intro z; cases z)) (ne_of e3 s.l (by intro z; cases z))⟩⟩
theorem Pn.kp {H H' : Hp} {st lg cl : Addr} {n : Nat} {a : Addr} {nss : List (List Int)} {w : Nat} (p : Pn H a nss w) (S : StAt H st lg cl n) (k : Kp st lg H H') : Pn H' a nss w := by
  obtain ⟨vs, e, r⟩ := p.rows
  have r' := Rows.kp r S k
  obtain ⟨_, _, _, _, s, _⟩ := S
  exact Rows.pn r' (k _ _ e (ne_of e s.d (by intro z; cases z)) (ne_of e s.l (by intro z; cases z))) p.h1 p.h2 p.w1 p.w2 p.ws
/-- what stands while a plane is drawn -/
structure PB (st lg cl sa D p s : Addr) (H0 : Hp) (m : Nat) (h w lo hi b b2 s0 s1 : Int) (rs : List V) (mss : List (List Int)) (H' : Hp) : Prop where
  S : StAt H' st lg cl m
  K : Kp st lg H0 H'
  A : ScV H' sa h w lo hi
  D : H' D = some (.lst rs)
  R : Rows H' rs mss
  P : H' p = some (.lst [.int b, .int b2])
  L : H' s = some (.lst [.int s0, .int s1])
/-- the addresses are apart from the state -/
structure PA' (st lg sa D p s : Addr) : Prop where
  a : sa ≠ st ∧ sa ≠ lg
  d : D ≠ st ∧ D ≠ lg
  p : p ≠ st ∧ p ≠ lg
  s : s ≠ st ∧ s ≠ lg
section
variable {st lg cl sa D p s : Addr} {H0 H1 H2 : Hp} {m m' : Nat} {h w lo hi b b2 s0 s1 : Int} {rs : List V} {mss : List (List Int)}
theorem PB.same (B : PB st lg cl sa D p s H0 m h w lo hi b b2 s0 s1 rs mss H1) (e : Same H1 H2) : PB st lg cl sa D p s H0 m h w lo hi b b2 s0 s1 rs mss H2 :=
  ⟨B.S.same e, B.K.trans (Kp.same e), B.A.keep (e _), e _ _ B.D, B.R.keep e, e _ _ B.P, e _ _ B.L⟩
theorem PB.kp (B : PB st lg cl sa D p s H0 m h w lo hi b b2 s0 s1 rs mss H1) (N : PA' st lg sa D p s) (S : StAt H2 st lg cl m') (e : Kp st lg H1 H2) : PB st lg cl sa D p s H0 m' h w lo hi b b2 s0 s1 rs mss H2 :=
  ⟨S, B.K.trans e, B.A.keep fun o q => e _ _ q N.a.1 N.a.2, e _ _ B.D N.d.1 N.d.2, B.R.kp B.S e, e _ _ B.P N.p.1 N.p.2, e _ _ B.L N.s.1 N.s.2⟩
/-- a list of one's own is written -/
theorem PB.put {L : Addr} {xs : List V} {o : HO} (B : PB st lg cl sa D p s H0 m h w lo hi b b2 s0 s1 rs mss H1) (f : H0 L = none) (e : H1 L = some (.lst xs)) (n1 : L ≠ st ∧ L ≠ lg ∧ L ≠ cl) (n2 : L ≠ D ∧ L ≠ p ∧ L ≠ s) : PB st lg cl sa D p s H0 m h w lo hi b b2 s0 s1 rs mss (upd H1 L o) :=
  ⟨StAt.put' B.S n1.1 n1.2.1 n1.2.2, fun b' o' q a c => by rw [upd_ne (ne_of_none q f)]; exact B.K b' o' q a c, B.A.keep fun o' q => by rw [upd_ne (fun z => by rw [z, e] at q; have := B.A.d; rw [z, e] at this; cases this)]; exact q, (upd_ne n2.1.symm).trans B.D, B.R.put e, (upd_ne n2.2.1.symm).trans B.P, (upd_ne n2.2.2.symm).trans B.L⟩
end
theorem kp_none {st lg cl L : Addr} {m : Nat} {H H' : Hp} (k : Kp st lg H H') (S : StAt H' st lg cl m) (h : H' L = none) : H L = none := by
  cases e : H L with
  | none => rfl
  | some o =>
    obtain ⟨n1, n2, _⟩ := StAt.off3 S h
    have := k _ _ e n1 n2
    rw [h] at this
    cases this
def spPane : Sp := fun vs H Q _ => ∃ (st lg cl sa : Addr) (h w : Nat) (lo hi : Int) (m : Nat), vs = [.ref st, .ref sa] ∧ ScV H sa ((h : Nat) : Int) ((w : Nat) : Int) lo hi ∧ (sa ≠ st ∧ sa ≠ lg) ∧ m ≤ 980000 ∧ StAt H st lg cl m ∧
  ∀ (a : Addr) (nss : List (List Int)) (H' : Hp), Pn H' a nss w → nss.length = h → (∀ ns ∈ nss, ∀ n ∈ ns, lo ≤ n ∧ n ≤ hi) → StAt H' st lg cl (m + 300) → Kp st lg H H' → Q (.ref a) H'
theorem inAll_snoc {lo hi : Int} {ms : List Int} {n : Int} (h : ∀ k ∈ ms, lo ≤ k ∧ k ≤ hi) (h1 : lo ≤ n) (h2 : n ≤ hi) : ∀ k ∈ ms ++ [n], lo ≤ k ∧ k ≤ hi := fun k hk => by
  rcases List.mem_append.mp hk with q | q
  · exact h k q
  · simp only [List.mem_cons, List.not_mem_nil, or_false] at q
    subst q
    exact ⟨h1, h2⟩
section
variable {P : Program} {w : World} {K : PySem.W.Frag} {mg : Str → Option Value} {base : Heap} (T : Top K mg)
theorem ok_pane : FnOk P w K mg base (L2.CX P w) 3 T._law_pane.a T._law_pane.d ["state", "scope"] spPane := by
  refine T._law_pane.f.okX sc__law_pane (fun vs H Q E h => ?_) (fun cdv A outer s H vs Q E hr h => ?_)
  · obtain ⟨st, lg, cl, sa, h, w, lo, hi, m, rfl, _⟩ := h
    rfl
  · obtain ⟨st, lg, cl, sa, ht, wd, lo, hi, m, rfl, sc, na, hm, S, k⟩ := h
    have hu := hu_of hr
    refine ⟨_, pss_cons (ps_par (i := 2) (j := 3) rfl sc__law_pane.nd rfl rfl (by decide) rfl rfl (pa_cons (pe_call (ok_draw T) (hr.mono (by decide)) (by rfl) T._law_draw.m T._law_draw.f.kp (bd__law_draw T) .nil passE (pa_cons (pv 0) (pa_cons pe_int pa_nil))) (pa_cons (pe_call (ok_grain T) (hr.mono (by decide)) (by rfl) T._law_grain.m T._law_grain.f.kp (bd__law_grain T) .nil passE (pa_cons (pv 0) (pa_cons (pv 1) pa_nil))) pa_nil)) (by rfl))
      (pss_cons (ps_par (i := 4) (j := 5) rfl sc__law_pane.nd rfl rfl (by decide) rfl rfl (pa_cons (pe_lst (pa_cons (pv 3) (pa_cons (pe_call (ok_grain T) (hr.mono (by decide)) (by rfl) T._law_grain.m T._law_grain.f.kp (bd__law_grain T) .nil passE (pa_cons (pv 0) (pa_cons (pv 1) pa_nil))) pa_nil))) (pa_cons (pe_lst (pa_cons (pe_op op_sub (pe_call (ok_draw T) (hr.mono (by decide)) (by rfl) T._law_draw.m T._law_draw.f.kp (bd__law_draw T) .nil passE (pa_cons (pv 0) (pa_cons pe_int pa_nil))) pe_int) (pa_cons (pe_op op_sub (pe_call (ok_draw T) (hr.mono (by decide)) (by rfl) T._law_draw.m T._law_draw.f.kp (bd__law_draw T) .nil passE (pa_cons (pv 0) (pa_cons pe_int pa_nil))) pe_int) pa_nil))) pa_nil)) (by rfl))
      (pss_cut (ps_set (i := 6) sc__law_pane.nd rfl (.inl rfl) (pe_lst pa_nil))
      (pss_cons (ps_for (passes_of rfl) rfl (pi_range1 (by rfl) T.b_range (pa_cons (pe_dget hu (pv 1) pe_str (fun _ _ => rfl)) pa_nil)) (pg_name (i := 7) sc__law_pane.nd rfl (.inl rfl)) (pss_cut (ps_set (i := 8) sc__law_pane.nd rfl (.inl rfl) (pe_lst pa_nil)) (pss_cons (ps_for (passes_of rfl) rfl (pi_range1 (by rfl) T.b_range (pa_cons (pe_dget hu (pv 1) pe_str (fun _ _ => rfl)) pa_nil)) (pg_name (i := 9) sc__law_pane.nd rfl (.inl rfl)) (pss_one (ps_if (pt_cmpR op_eq (pv 2) pe_int (nomark _)) (pss_one (ps_expr (pe_bm PySem.F.plainAttrs_list PySem.F.slot_list_append PySem.F.type_list_append mt_append (pv 8) (pa_cons (pe_call (ok_grain T) (hr.mono (by decide)) (by rfl) T._law_grain.m T._law_grain.f.kp (bd__law_grain T) .nil passE (pa_cons (pv 0) (pa_cons (pv 1) pa_nil))) pa_nil)))) (pss_one (ps_if (pt_cmpR op_eq (pv 2) pe_int (nomark _)) (pss_one (ps_expr (pe_bm PySem.F.plainAttrs_list PySem.F.slot_list_append PySem.F.type_list_append mt_append (pv 8) (pa_cons (pe_call (ok_pick T) (hr.mono (by decide)) (by rfl) T._law_pick.m T._law_pick.f.kp (bd__law_pick T) .nil passE (pa_cons (pv 0) (pa_cons (pv 4) pa_nil))) pa_nil)))) (pss_one (ps_if (pt_cmpR op_eq (pv 2) pe_int (nomark _)) (pss_one (ps_expr (pe_bm PySem.F.plainAttrs_list PySem.F.slot_list_append PySem.F.type_list_append mt_append (pv 8) (pa_cons (pe_call (ok_lwithin T) (hr.mono (by decide)) (by rfl) T._law_within.m T._law_within.f.kp (bd__law_within T) .nil passE (pa_cons (pv 1) (pa_cons (pe_op op_add (pe_op op_add (pv 3) (pe_op op_mul (pe_ix ix_list (pv 5) pe_int (fun _ _ => rfl)) (pv 7))) (pe_op op_mul (pe_ix ix_list (pv 5) pe_int (fun _ _ => rfl)) (pv 9))) pa_nil))) pa_nil)))) (pss_one (ps_expr (pe_bm PySem.F.plainAttrs_list PySem.F.slot_list_append PySem.F.type_list_append mt_append (pv 8) (pa_cons (pe_ix ix_list (pv 4) (pe_callTy call_int1 (by rfl) T.b_int PyProof.Rows.boot_int (pa_cons (pe_cmpR op_eq (pe_call (ok_draw T) (hr.mono (by decide)) (by rfl) T._law_draw.m T._law_draw.f.kp (bd__law_draw T) .nil passE (pa_cons (pv 0) (pa_cons pe_int pa_nil))) pe_int (nomark _)) pa_nil)) (fun _ _ => rfl)) pa_nil))))))))))) (pss_one (ps_expr (pe_bm PySem.F.plainAttrs_list PySem.F.slot_list_append PySem.F.type_list_append mt_append (pv 6) (pa_cons (pe_callTy (show CallR _ _ (rTupOf K) from call_tuple_of) (by rfl) T.b_tuple (by decide +kernel) (pa_cons (pv 8) pa_nil)) pa_nil)))))))
      (pss_one (ps_ret (pe_callTy (show CallR _ _ (rTupOf K) from call_tuple_of) (by rfl) T.b_tuple (by decide +kernel) (pa_cons (pv 6) pa_nil))))))), ?_⟩
    have t1 := sc.t1
    have t2 := sc.t2
    have w1 := sc.w1
    have w2 := sc.w2
    have l1 := sc.l1
    have l2 := sc.l2
    have l3 := sc.l3
    refine ⟨_, rfl, st, lg, cl, 4, m, rfl, by decide, by decide, by omega, S, fun f H1 hf S1 kp1 => ⟨_, rfl, _, rfl, st, lg, cl, sa, _, _, lo, hi, m + 1, rfl, sc.keep fun o q => kp1 _ _ q na.1 na.2, by omega, S1, fun b H2 hb1 hb2 S2 kp2 => ⟨_, _, rfl, ?_⟩⟩⟩
    have kp12 := kp1.trans kp2
    refine ⟨_, rfl, _, rfl, _, rfl, st, lg, cl, sa, _, _, lo, hi, m + 2, rfl, sc.keep fun o q => kp12 _ _ q na.1 na.2, by omega, S2, fun b2 H3 hc1 hc2 S3 kp3 => ⟨(by show 2 ≤ sizeLine; decide), fun p hp => ?_⟩⟩
    have kp13 := kp12.trans kp3
    have S4 := S3.same (Same.new (o := .lst [V.int b, V.int b2]) hp)
    have P4 : (upd H3 p (.lst [V.int b, V.int b2])) p = some (.lst [V.int b, V.int b2]) := upd_same
    have np := S3.off hp
    have kp14 := kp13.trans (Kp.same (Same.new (o := .lst [V.int b, V.int b2]) hp))
    generalize upd H3 p (.lst [V.int b, V.int b2]) = H4 at S4 P4 kp14 ⊢
    refine ⟨_, rfl, st, lg, cl, 5, m + 3, rfl, by decide, by decide, by omega, S4, fun r0 H5 hr0 S5 kp5 => ⟨_, _, rfl, rfl, _, rfl, st, lg, cl, 5, m + 4, rfl, by decide, by decide, by omega, S5, fun r1 H6 hr1 S6 kp6 => ⟨_, _, rfl, rfl, (by show 2 ≤ sizeLine; decide), fun q hq => ⟨_, _, rfl, ?_⟩⟩⟩⟩
    have kp16 := (kp14.trans kp5).trans kp6
    have P6 := kp6 _ _ (kp5 _ _ P4 np.1 np.2) np.1 np.2
    have S7 := S6.same (Same.new (o := .lst [V.int ((r0 : Int) - 2), V.int ((r1 : Int) - 2)]) hq)
    have Q7 : (upd H6 q (.lst [V.int ((r0 : Int) - 2), V.int ((r1 : Int) - 2)])) q = some (.lst [V.int ((r0 : Int) - 2), V.int ((r1 : Int) - 2)]) := upd_same
    have nq := S6.off hq
    have P7 := (Same.new (o := .lst [V.int ((r0 : Int) - 2), V.int ((r1 : Int) - 2)]) hq) _ _ P6
    have kp17 := kp16.trans (Kp.same (Same.new (o := .lst [V.int ((r0 : Int) - 2), V.int ((r1 : Int) - 2)]) hq))
    generalize upd H6 q (.lst [V.int ((r0 : Int) - 2), V.int ((r1 : Int) - 2)]) = H7 at S7 Q7 P7 kp17 ⊢
    generalize ((r0 : Int) - 2) = s0 at Q7 ⊢
    generalize ((r1 : Int) - 2) = s1 at Q7 ⊢
    refine ⟨fun σ' H' => ∃ D : Addr, σ' = [some (.ref st), some (.ref sa), some (.int ((f : Nat) : Int)), some (.int b), some (.ref p), some (.ref q), some (.ref D), none, none, none] ∧ PA' st lg sa D p q ∧ H D = none ∧ (D ≠ cl ∧ D ≠ p ∧ D ≠ q) ∧ PB st lg cl sa D p q H (m + 5) ((ht : Nat) : Int) ((wd : Nat) : Int) lo hi b b2 s0 s1 [] [] H', ⟨(by decide), fun D hD => ⟨D, rfl, ⟨na, S7.off hD, np, nq⟩, kp_none kp17 S7 hD, ⟨(StAt.off3 S7 hD).2.2, (ne_of_none P7 hD).symm, (ne_of_none Q7 hD).symm⟩, ?_⟩⟩, ?_⟩
    · have e := Same.new (o := .lst []) hD
      have kk := kp17.trans (Kp.same e)
      exact ⟨S7.same e, kk, sc.keep fun o z => kk _ _ z na.1 na.2, upd_same, Rows.nil, e _ _ P7, e _ _ Q7⟩
    clear S1 S2 S3 S4 S5 S6 S7 kp1 kp2 kp12 kp3 kp13 kp14 kp5 kp6 kp16 kp17 P4 P6 P7 Q7 hp hq np nq
    rintro σ H8 ⟨D, rfl, N, fD, nc, B⟩
    refine ⟨_, rfl, sa, _, rfl, (show DGet H8 sa (kV kTall) _ from sc_tall ▸ DGet.k B.A.d), _, rfl, by omega, by omega, ?_⟩
    rw [Int.toNat_natCast]
    refine for_range (lo := 0) (n := ht) (fun y σ H' => (∃ v7 v8 v9, σ = [some (.ref st), some (.ref sa), some (.int ((f : Nat) : Int)), some (.int b), some (.ref p), some (.ref q), some (.ref D), v7, v8, v9]) ∧ ∃ rs mss, PB st lg cl sa D p q H (m + 5 + 16 * y) ((ht : Nat) : Int) ((wd : Nat) : Int) lo hi b b2 s0 s1 rs mss H' ∧ mss.length = y ∧ ∀ ns ∈ mss, ns.length = wd ∧ ∀ n ∈ ns, lo ≤ n ∧ n ≤ hi) ⟨⟨_, _, _, rfl⟩, [], [], B, rfl, fun ns hn => by cases hn⟩ ?_ ?_
    · clear B
      rintro y σ H1 hy ⟨⟨v7, v8, v9, rfl⟩, rs, mss, B, hl_eq, hall⟩
      refine ⟨fun σ' H' => ∃ L : Addr, σ' = [some (.ref st), some (.ref sa), some (.int ((f : Nat) : Int)), some (.int b), some (.ref p), some (.ref q), some (.ref D), some (.int (0 + (y : Int))), some (.ref L), v9] ∧ H L = none ∧ (L ≠ st ∧ L ≠ lg ∧ L ≠ cl) ∧ (L ≠ D ∧ L ≠ p ∧ L ≠ q) ∧ H' L = some (.lst []) ∧ PB st lg cl sa D p q H (m + 5 + 16 * y) ((ht : Nat) : Int) ((wd : Nat) : Int) lo hi b b2 s0 s1 rs mss H', ⟨(by decide), fun L hL => ⟨L, rfl, kp_none B.K B.S hL, StAt.off3 B.S hL, ⟨(ne_of_none B.D hL).symm, (ne_of_none B.P hL).symm, (ne_of_none B.L hL).symm⟩, upd_same, B.same (Same.new hL)⟩⟩, ?_⟩
      clear B H1
      rintro σ H1 ⟨L, rfl, fL, nL, nD, hL, B⟩
      refine ⟨_, rfl, sa, _, rfl, (show DGet H1 sa (kV kWide) _ from sc_wide ▸ DGet.k B.A.d), _, rfl, by omega, by omega, ?_⟩
      rw [Int.toNat_natCast]
      refine for_range (lo := 0) (n := wd) (fun x σ H' => (∃ v9, σ = [some (.ref st), some (.ref sa), some (.int ((f : Nat) : Int)), some (.int b), some (.ref p), some (.ref q), some (.ref D), some (.int (0 + (y : Int))), some (.ref L), v9]) ∧ (∃ ms : List Int, H' L = some (.lst (ms.map V.int)) ∧ ms.length = x ∧ ∀ n ∈ ms, lo ≤ n ∧ n ≤ hi) ∧ PB st lg cl sa D p q H (m + 5 + 16 * y + x) ((ht : Nat) : Int) ((wd : Nat) : Int) lo hi b b2 s0 s1 rs mss H') ⟨⟨_, rfl⟩, ⟨[], hL, rfl, fun n hn => by cases hn⟩, B⟩ ?_ ?_
      · clear B hL
        rintro x σ H2 hx ⟨⟨v9, rfl⟩, ⟨ms, hL, hml, hms⟩, B⟩
        have put : ∀ (H' : Hp) (n : Int), PB st lg cl sa D p q H (m + 5 + 16 * y + (x + 1)) ((ht : Nat) : Int) ((wd : Nat) : Int) lo hi b b2 s0 s1 rs mss H' → H' L = some (.lst (ms.map V.int)) → lo ≤ n → n ≤ hi →
            (∃ ms' : List Int, (upd H' L (.lst (ms.map V.int ++ [.int n]))) L = some (.lst (ms'.map V.int)) ∧ ms'.length = x + 1 ∧ ∀ k ∈ ms', lo ≤ k ∧ k ≤ hi) ∧ PB st lg cl sa D p q H (m + 5 + 16 * y + (x + 1)) ((ht : Nat) : Int) ((wd : Nat) : Int) lo hi b b2 s0 s1 rs mss (upd H' L (.lst (ms.map V.int ++ [.int n]))) := fun H' n B' e n1 n2 =>
          ⟨⟨ms ++ [n], by rw [upd_same, List.map_append]; rfl, by simp [hml], inAll_snoc hms n1 n2⟩, B'.put fL e nL nD⟩
        have sz : (ms.map V.int).length < sizeLine := by
          rw [List.length_map, hml]
          exact Nat.lt_of_lt_of_le hx (Nat.le_trans (by omega) (show 16 ≤ sizeLine by decide))
        refine ⟨_, rfl, rfl, _, rfl, ?_⟩
        by_cases c0 : f = 0
        · subst c0
          refine iteT ⟨_, rfl, .inl ⟨rfl, _, SqL.of hL⟩, _, rfl, _, rfl, st, lg, cl, sa, _, _, lo, hi, _, rfl, B.A, by omega, B.S, fun n H3 n1 n2 S3 kp3 => ⟨L, _, _, rfl, rfl, kp3 _ _ hL nL.1 nL.2.1, sz, ⟨_, rfl⟩, put H3 n (B.kp N S3 kp3) (kp3 _ _ hL nL.1 nL.2.1) n1 n2⟩⟩
        rw [show decide (V.int ((f : Nat) : Int) = V.int 0) = false from decide_eq_false fun z => c0 (by have := V.int.inj z; omega)]
        refine iteF ⟨_, rfl, rfl, _, rfl, ?_⟩
        by_cases c1 : f = 1
        · subst c1
          refine iteT ⟨_, rfl, .inl ⟨rfl, _, SqL.of hL⟩, _, rfl, _, rfl, st, lg, cl, p, _, _, rfl, B.P, N.p.2, (by show 0 < 2; decide), (by show 2 ≤ 1000; decide), by omega, B.S, fun v H3 hv S3 kp3 => ?_⟩
          obtain ⟨n, rfl, n1, n2⟩ : ∃ n : Int, v = .int n ∧ lo ≤ n ∧ n ≤ hi := by
            simp only [List.mem_cons, List.not_mem_nil, or_false] at hv
            rcases hv with h | h
            · exact ⟨_, h, hb1, hb2⟩
            · exact ⟨_, h, hc1, hc2⟩
          exact ⟨L, _, _, rfl, rfl, kp3 _ _ hL nL.1 nL.2.1, sz, ⟨_, rfl⟩, put H3 n (B.kp N S3 kp3) (kp3 _ _ hL nL.1 nL.2.1) n1 n2⟩
        rw [show decide (V.int ((f : Nat) : Int) = V.int 1) = false from decide_eq_false fun z => c1 (by have := V.int.inj z; omega)]
        refine iteF ⟨_, rfl, rfl, _, rfl, ?_⟩
        by_cases c2 : f = 2
        · subst c2
          have wi : lo ≤ withI lo hi (b + s0 * (0 + (y : Int)) + s1 * (0 + (x : Int))) ∧ withI lo hi (b + s0 * (0 + (y : Int)) + s1 * (0 + (x : Int))) ≤ hi := by
            generalize b + s0 * (0 + (y : Int)) + s1 * (0 + (x : Int)) = z
            rw [with_eq l2]
            split
            · omega
            · split <;> omega
          exact iteT ⟨_, rfl, .inl ⟨rfl, _, SqL.of hL⟩, _, rfl, _, rfl, _, rfl, q, _, 0, _, rfl, rfl, SqL.of B.L, atI_nat (j := 0) rfl, _, rfl, _, _, rfl, rfl, .inr ⟨by omega, by omega⟩, _, _, rfl, rfl, _, rfl, q, _, 1, _, rfl, rfl, SqL.of B.L, atI_nat (j := 1) rfl, _, rfl, _, _, rfl, rfl, .inr ⟨by omega, by omega⟩, _, _, rfl, rfl, sa, _, _, lo, hi, _, rfl, B.A, L, _, _, rfl, rfl, hL, sz, ⟨_, rfl⟩, put H2 _ { B with S := B.S.mono (by omega) } hL wi.1 wi.2⟩
        rw [show decide (V.int ((f : Nat) : Int) = V.int 2) = false from decide_eq_false fun z => c2 (by have := V.int.inj z; omega)]
        refine iteF ⟨_, rfl, .inl ⟨rfl, _, SqL.of hL⟩, _, rfl, _, rfl, st, lg, cl, 6, _, rfl, by decide, by decide, by omega, B.S, fun r H3 hr S3 kp3 => ⟨rfl, .inr ⟨_, rfl, ?_⟩⟩⟩
        have B3 := B.kp N S3 kp3
        have hL3 := kp3 _ _ hL nL.1 nL.2.1
        cases decide (V.int ((r : Nat) : Int) = V.int 0) with
        | true => exact ⟨p, _, 1, _, rfl, rfl, SqL.of B3.P, atI_nat (j := 1) rfl, L, _, _, rfl, rfl, hL3, sz, ⟨_, rfl⟩, put H3 _ B3 hL3 hc1 hc2⟩
        | false => exact ⟨p, _, 0, _, rfl, rfl, SqL.of B3.P, atI_nat (j := 0) rfl, L, _, _, rfl, rfl, hL3, sz, ⟨_, rfl⟩, put H3 _ B3 hL3 hb1 hb2⟩
      · clear B hL
        rintro σ H2 ⟨⟨v9, rfl⟩, ⟨ms, hL, hml, hms⟩, B⟩
        refine ⟨_, rfl, .inl ⟨rfl, _, SqL.of B.D⟩, _, rfl, L, _, rfl, .inl ⟨SqL.of hL, fun l hl => ?_⟩⟩
        have e := Same.new (o := .tup (ms.map V.int)) hl
        have B' := B.same e
        have T' : (upd H2 l (.tup (ms.map V.int))) l = some (.tup (ms.map V.int)) := upd_same
        generalize upd H2 l (.tup (ms.map V.int)) = H3 at B' T' ⊢
        refine ⟨D, _, _, rfl, rfl, B'.D, ?_, ⟨_, _, _, rfl⟩, rs ++ [.ref l], mss ++ [ms], ?_, by simp [hl_eq], fun ns hn => ?_⟩
        · rw [B.R.1, hl_eq]
          exact Nat.lt_of_lt_of_le hy (Nat.le_trans (by omega) (show 16 ≤ sizeLine by decide))
        · have S' := (StAt.put' (o := .lst (rs ++ [V.ref l])) B'.S N.d.1 N.d.2 nc.1).mono (show m + 5 + 16 * y + wd ≤ m + 5 + 16 * (y + 1) by omega)
          exact ⟨S', fun b' o' z a c => by rw [upd_ne (ne_of_none z fD)]; exact B'.K b' o' z a c, B'.A.keep fun o' z => by rw [upd_ne (fun u => by rw [u, B'.D] at z; have := B'.A.d; rw [u, B'.D] at this; cases this)]; exact z, upd_same, Rows.put (Rows.snoc B'.R T') B'.D, (upd_ne nc.2.1.symm).trans B'.P, (upd_ne nc.2.2.symm).trans B'.L⟩
        · rcases List.mem_append.mp hn with h | h
          · exact hall ns h
          · simp only [List.mem_cons, List.not_mem_nil, or_false] at h
            subst h
            exact ⟨hml, hms⟩
    · clear B
      rintro σ H1 ⟨⟨v7, v8, v9, rfl⟩, rs, mss, B, hl, hall⟩
      refine ⟨_, rfl, D, rs, rfl, .inl ⟨SqL.of B.D, fun l hl' => ?_⟩⟩
      have e := Same.new (o := .tup rs) hl'
      refine k l mss _ (Rows.pn (B.R.keep e) upd_same (by omega) (by omega) (by omega) (by omega) fun ns hn => (hall ns hn).1) hl (fun ns hn => (hall ns hn).2) ((B.S.same e).mono (by omega)) (B.K.trans (Kp.same e))
end
end K05
namespace K05
/-! ### blocks: the mathematics -/
structure Bk where
  t : Nat
  l : Nat
  s : Nat
  deriving DecidableEq
def rootsL (h w : Nat) : List Bk := ((List.range ((h + 7) / 8)).map fun i => (List.range ((w + 7) / 8)).map fun j => (⟨8 * i, 8 * j, 8⟩ : Bk)).flatten
def fourL (b : Bk) : List Bk := [⟨b.t, b.l, b.s / 2⟩, ⟨b.t, b.l + b.s / 2, b.s / 2⟩, ⟨b.t + b.s / 2, b.l, b.s / 2⟩, ⟨b.t + b.s / 2, b.l + b.s / 2, b.s / 2⟩]
def inSh (h w : Nat) (b : Bk) : Bool := decide (b.t < h) && decide (b.l < w)
def partsL (h w : Nat) (b : Bk) : List Bk := if b.s = 2 then [] else (fourL b).filter (inSh h w)
def cellsB (h w : Nat) : Nat → Bk → List Bk
  | 0, b => [b]
  | n + 1, b => (partsL h w b).flatMap (cellsB h w n)
def lev (b : Bk) : Nat := if b.s = 8 then 2 else if b.s = 4 then 1 else 0
def cellsOf (h w : Nat) (b : Bk) : List Bk := cellsB h w (lev b) b
def cellsL (h w : Nat) : List Bk := (rootsL h w).flatMap (cellsOf h w)
/-- a block of the shape -/
structure Vb (h w : Nat) (b : Bk) : Prop where
  s : b.s = 8 ∨ b.s = 4 ∨ b.s = 2
  mt : b.t % b.s = 0
  ml : b.l % b.s = 0
  lt : b.t < h
  ll : b.l < w
theorem roots_mem {h w : Nat} {b : Bk} : b ∈ rootsL h w ↔ b.s = 8 ∧ b.t % 8 = 0 ∧ b.l % 8 = 0 ∧ b.t < h ∧ b.l < w := by
  unfold rootsL
  rw [List.mem_flatten]
  constructor
  · rintro ⟨L, hL, hb⟩
    obtain ⟨i, hi, rfl⟩ := List.mem_map.mp hL
    obtain ⟨j, hj, rfl⟩ := List.mem_map.mp hb
    have := List.mem_range.mp hi
    have := List.mem_range.mp hj
    dsimp only
    omega
  · rintro ⟨a, b1, c, d, e⟩
    refine ⟨_, List.mem_map.mpr ⟨b.t / 8, List.mem_range.mpr (by omega), rfl⟩, List.mem_map.mpr ⟨b.l / 8, List.mem_range.mpr (by omega), ?_⟩⟩
    obtain ⟨t, l, s⟩ := b
    dsimp only at *
    congr 1 <;> omega
theorem roots_vb {h w : Nat} {b : Bk} (m : b ∈ rootsL h w) : Vb h w b := by
  obtain ⟨a, b1, c, d, e⟩ := roots_mem.mp m
  exact ⟨.inl a, by rw [a]; exact b1, by rw [a]; exact c, d, e⟩
theorem parts_mem {h w : Nat} {b p : Bk} (s2 : b.s ≠ 2) : p ∈ partsL h w b ↔ p.s = b.s / 2 ∧ (p.t = b.t ∨ p.t = b.t + b.s / 2) ∧ (p.l = b.l ∨ p.l = b.l + b.s / 2) ∧ p.t < h ∧ p.l < w := by
  unfold partsL fourL inSh
  rw [if_neg s2, List.mem_filter]
  obtain ⟨t, l, s⟩ := p
  simp only [List.mem_cons, Bk.mk.injEq, List.not_mem_nil, or_false, Bool.and_eq_true, decide_eq_true_eq]
  omega
theorem parts_none {h w : Nat} {b : Bk} (s2 : b.s = 2) : partsL h w b = [] := by
  unfold partsL
  rw [if_pos s2]
theorem parts_vb {h w : Nat} {b p : Bk} (v : Vb h w b) (m : p ∈ partsL h w b) : Vb h w p ∧ p.s * 2 = b.s ∧ lev b = lev p + 1 := by
  by_cases s2 : b.s = 2
  · rw [parts_none s2] at m
    cases m
  obtain ⟨a, c, d, e, f⟩ := (parts_mem s2).mp m
  have vs := v.s
  have vt := v.mt
  have vl := v.ml
  unfold lev
  rcases vs with z | z | z
  · rw [z] at a c d vt vl ⊢
    refine ⟨⟨.inr (.inl a), ?_, ?_, e, f⟩, ?_, ?_⟩
    · rw [a]; omega
    · rw [a]; omega
    · rw [a]
    · rw [a]; rfl
  · rw [z] at a c d vt vl ⊢
    refine ⟨⟨.inr (.inr a), ?_, ?_, e, f⟩, ?_, ?_⟩
    · rw [a]; omega
    · rw [a]; omega
    · rw [a]
    · rw [a]; rfl
  · exact absurd z s2
theorem parts_some {h w : Nat} {b : Bk} (v : Vb h w b) (s2 : b.s ≠ 2) : partsL h w b ≠ [] := fun z => by
  have : (⟨b.t, b.l, b.s / 2⟩ : Bk) ∈ partsL h w b := (parts_mem s2).mpr ⟨rfl, .inl rfl, .inl rfl, v.lt, v.ll⟩
  rw [z] at this
  cases this
theorem cells_step {h w : Nat} {b : Bk} (v : Vb h w b) (s2 : b.s ≠ 2) : cellsOf h w b = (partsL h w b).flatMap (cellsOf h w) := by
  have e : ∃ n, lev b = n + 1 := by
    unfold lev
    rcases v.s with z | z | z
    · exact ⟨1, by rw [z]; rfl⟩
    · exact ⟨0, by rw [z]; rfl⟩
    · exact absurd z s2
  obtain ⟨n, e⟩ := e
  unfold cellsOf
  rw [e]
  show (partsL h w b).flatMap (cellsB h w n) = _
  rw [List.flatMap_def, List.flatMap_def]
  congr 1
  refine List.map_congr_left fun p hp => ?_
  have := (parts_vb v hp).2.2
  rw [show lev p = n by omega]
theorem cells_one {h w : Nat} {b : Bk} (s2 : b.s = 2) : cellsOf h w b = [b] := by
  unfold cellsOf lev
  rw [s2]
  rfl
/-- downwards by halves -/
theorem vb_ind {h w : Nat} {p : Bk → Prop} (h1 : ∀ b, Vb h w b → b.s = 2 → p b) (h2 : ∀ b, Vb h w b → b.s ≠ 2 → (∀ q ∈ partsL h w b, p q) → p b) : ∀ b, Vb h w b → p b := by
  have go : ∀ n b, lev b = n → Vb h w b → p b := by
    intro n
    induction n with
    | zero =>
      intro b e v
      refine h1 b v ?_
      unfold lev at e
      rcases v.s with z | z | z
      · rw [z] at e; cases e
      · rw [z] at e; cases e
      · exact z
    | succ n ih =>
      intro b e v
      refine h2 b v (fun z => by rw [lev, z] at e; cases e) fun q hq => ?_
      obtain ⟨vq, _, lq⟩ := parts_vb v hq
      exact ih q (by omega) vq
  exact fun b v => go _ b rfl v
theorem cells_in {h w : Nat} : ∀ b, Vb h w b → ∀ c ∈ cellsOf h w b, Vb h w c ∧ c.s = 2 ∧ b.t ≤ c.t ∧ c.t < b.t + b.s ∧ b.l ≤ c.l ∧ c.l < b.l + b.s := by
  refine vb_ind (fun b v e c hc => ?_) fun b v e ih c hc => ?_
  · rw [cells_one e] at hc
    rw [List.mem_singleton.mp hc]
    exact ⟨v, e, by omega⟩
  · rw [cells_step v e] at hc
    obtain ⟨q, hq, hc⟩ := List.mem_flatMap.mp hc
    obtain ⟨a1, a2, a3, a4, a5, a6⟩ := ih q hq c hc
    obtain ⟨vq, sq, _⟩ := parts_vb v hq
    obtain ⟨b1, b2, b3, _⟩ := (parts_mem e).mp hq
    exact ⟨a1, a2, by omega⟩
theorem four_pair (b : Bk) (hs : 2 ≤ b.s) : (fourL b).Pairwise fun p q => p.t + b.s / 2 ≤ q.t ∨ p.l + b.s / 2 ≤ q.l ∨ q.l + b.s / 2 ≤ p.l := by
  unfold fourL
  simp only [List.pairwise_cons, List.mem_cons, List.not_mem_nil, or_false, forall_eq_or_imp, forall_eq, List.Pairwise.nil, and_true]
  refine ⟨⟨by omega, by omega, by omega⟩, ⟨by omega, by omega⟩, by omega, fun _ z => z.elim⟩
theorem cells_nodup {h w : Nat} : ∀ b, Vb h w b → (cellsOf h w b).Nodup := by
  refine vb_ind (fun b v e => ?_) fun b v e ih => ?_
  · rw [cells_one e]
    simp
  · rw [cells_step v e]
    unfold List.Nodup
    rw [List.pairwise_flatMap]
    refine ⟨fun q hq => ih q hq, ?_⟩
    have s2 : 2 ≤ b.s := by have := v.s; omega
    have P : (partsL h w b).Pairwise fun p q => p.t + b.s / 2 ≤ q.t ∨ p.l + b.s / 2 ≤ q.l ∨ q.l + b.s / 2 ≤ p.l := by
      unfold partsL
      rw [if_neg e]
      exact (four_pair b s2).filter _
    refine P.imp_of_mem fun {p q} hp hq r x hx y hy z => ?_
    subst z
    obtain ⟨vp, sp, _⟩ := parts_vb v hp
    obtain ⟨vq, sq, _⟩ := parts_vb v hq
    have a := cells_in p vp x hx
    have c := cells_in q vq x hy
    omega
theorem all_nodup {h w : Nat} : (cellsL h w).Nodup := by
  unfold cellsL List.Nodup
  rw [List.pairwise_flatMap]
  refine ⟨fun q hq => cells_nodup q (roots_vb hq), ?_⟩
  have P : (rootsL h w).Pairwise fun p q => p.t + 8 ≤ q.t ∨ p.l + 8 ≤ q.l := by
    unfold rootsL
    rw [List.pairwise_flatten]
    constructor
    · intro L hL
      obtain ⟨i, hi, rfl⟩ := List.mem_map.mp hL
      rw [List.pairwise_map]
      exact List.pairwise_lt_range.imp fun {a c} z => .inr (by dsimp only; omega)
    · rw [List.pairwise_map]
      refine List.pairwise_lt_range.imp fun {a c} z x hx y hy => ?_
      obtain ⟨j, _, rfl⟩ := List.mem_map.mp hx
      obtain ⟨k, _, rfl⟩ := List.mem_map.mp hy
      exact .inl (by dsimp only; omega)
  refine P.imp_of_mem fun {p q} hp hq r x hx y hy z => ?_
  subst z
  have ap := (roots_mem.mp hp).1
  have aq := (roots_mem.mp hq).1
  have a := cells_in p (roots_vb hp) x hx
  have c := cells_in q (roots_vb hq) x hy
  omega
theorem flatMap_split {α β : Type} {f : α → List β} {L : List α} {a : α} (m : a ∈ L) : ∃ pre post, L.flatMap f = pre ++ f a ++ post := by
  obtain ⟨s, t, rfl⟩ := List.append_of_mem m
  exact ⟨s.flatMap f, t.flatMap f, by simp⟩
/-- every block is a root or comes of one -/
theorem up_ind {h w : Nat} {p : Bk → Prop} (h1 : ∀ b ∈ rootsL h w, p b) (h2 : ∀ b q, Vb h w b → p b → q ∈ partsL h w b → p q) : ∀ b, Vb h w b → p b := by
  have eight : ∀ b, Vb h w b → b.s = 8 → p b := fun b v e => h1 b (roots_mem.mpr ⟨e, e ▸ v.mt, e ▸ v.ml, v.lt, v.ll⟩)
  have four : ∀ b, Vb h w b → b.s = 4 → p b := fun b v e => by
    have mt := v.mt
    have ml := v.ml
    have lt := v.lt
    have ll := v.ll
    rw [e] at mt ml
    have vq : Vb h w ⟨b.t / 8 * 8, b.l / 8 * 8, 8⟩ := ⟨.inl rfl, by show b.t / 8 * 8 % 8 = 0; omega, by show b.l / 8 * 8 % 8 = 0; omega, by show b.t / 8 * 8 < h; omega, by show b.l / 8 * 8 < w; omega⟩
    refine h2 _ b vq (eight _ vq rfl) ((parts_mem (by show ¬ 8 = 2; decide)).mpr ⟨by dsimp only; omega, ?_, ?_, lt, ll⟩)
    · dsimp only; omega
    · dsimp only; omega
  intro b v
  rcases v.s with e | e | e
  · exact eight b v e
  · exact four b v e
  · have mt := v.mt
    have ml := v.ml
    have lt := v.lt
    have ll := v.ll
    rw [e] at mt ml
    have vq : Vb h w ⟨b.t / 4 * 4, b.l / 4 * 4, 4⟩ := ⟨.inr (.inl rfl), by show b.t / 4 * 4 % 4 = 0; omega, by show b.l / 4 * 4 % 4 = 0; omega, by show b.t / 4 * 4 < h; omega, by show b.l / 4 * 4 < w; omega⟩
    refine h2 _ b vq (four _ vq rfl) ((parts_mem (by show ¬ 4 = 2; decide)).mpr ⟨by dsimp only; omega, ?_, ?_, lt, ll⟩)
    · dsimp only; omega
    · dsimp only; omega
/-- a block's cells stand together -/
theorem cells_part {h w : Nat} : ∀ b, Vb h w b → ∃ pre post, cellsL h w = pre ++ cellsOf h w b ++ post := by
  refine up_ind (fun b hb => flatMap_split hb) fun b q v ⟨pre, post, e⟩ hq => ?_
  have s2 : b.s ≠ 2 := fun z => by rw [parts_none z] at hq; cases hq
  rw [cells_step v s2] at e
  obtain ⟨p2, q2, e2⟩ := flatMap_split (f := cellsOf h w) hq
  exact ⟨pre ++ p2, q2 ++ post, by rw [e, e2]; simp⟩
theorem cells_first {h w : Nat} : ∀ b, Vb h w b → ∃ r, cellsOf h w b = ⟨b.t, b.l, 2⟩ :: r := by
  refine vb_ind (fun b v e => ⟨[], ?_⟩) fun b v e ih => ?_
  · rw [cells_one e]
    obtain ⟨t, l, s⟩ := b
    cases e
    rfl
  · have hm : (⟨b.t, b.l, b.s / 2⟩ : Bk) ∈ partsL h w b := (parts_mem e).mpr ⟨rfl, .inl rfl, .inl rfl, v.lt, v.ll⟩
    obtain ⟨r, er⟩ := ih _ hm
    have : ∃ R, partsL h w b = ⟨b.t, b.l, b.s / 2⟩ :: R := by
      unfold partsL fourL
      rw [if_neg e, List.filter_cons, if_pos (by unfold inSh; simp [v.lt, v.ll])]
      exact ⟨_, rfl⟩
    obtain ⟨R, eR⟩ := this
    rw [cells_step v e, eR, List.flatMap_cons, er]
    exact ⟨_, rfl⟩
def rowsN (h : Nat) (b : Bk) : Nat := min (b.t + b.s) h - b.t
def colsN (w : Nat) (b : Bk) : Nat := min (b.l + b.s) w - b.l
def manyC (h w : Nat) (b : Bk) : Nat := (rowsN h b + 1) / 2 * ((colsN w b + 1) / 2)
theorem cells_many {h w : Nat} : ∀ b, Vb h w b → (cellsOf h w b).length = manyC h w b := by
  refine vb_ind (fun b v e => ?_) fun b v e ih => ?_
  · rw [cells_one e]
    unfold manyC rowsN colsN
    have := v.lt
    have := v.ll
    rw [e]
    have e1 : (min (b.t + 2) h - b.t + 1) / 2 = 1 := by omega
    have e2 : (min (b.l + 2) w - b.l + 1) / 2 = 1 := by omega
    rw [e1, e2]
    rfl
  · rw [cells_step v e, List.length_flatMap, List.map_congr_left (g := manyC h w) ih]
    obtain ⟨u, hu⟩ : ∃ u, b.s = 4 * u ∧ 1 ≤ u := by
      rcases v.s with z | z | z
      · exact ⟨2, z, by decide⟩
      · exact ⟨1, z, by decide⟩
      · exact absurd z e
    have mt := v.mt
    have ml := v.ml
    have lt := v.lt
    have ll := v.ll
    unfold partsL fourL
    rw [if_neg e]
    have hf : b.s / 2 = 2 * u := by omega
    rw [hf]
    have ss : ∀ c : Bool, ∀ (x : Bk) (L : List Bk), ((if c = true then x :: L else L).map (manyC h w)).sum = (if c = true then manyC h w x else 0) + (L.map (manyC h w)).sum := fun c x L => by
      cases c <;> simp
    simp only [List.filter_cons, List.filter_nil]
    rw [ss, ss, ss, ss]
    unfold manyC inSh rowsN colsN
    rw [hu.1]
    dsimp only
    -- rows and columns by halves
    have R : (min (b.t + 4 * u) h - b.t + 1) / 2 = (min (b.t + 2 * u) h - b.t + 1) / 2 + (if b.t + 2 * u < h then (min (b.t + 2 * u + 2 * u) h - (b.t + 2 * u) + 1) / 2 else 0) := by
      split <;> omega
    have C : (min (b.l + 4 * u) w - b.l + 1) / 2 = (min (b.l + 2 * u) w - b.l + 1) / 2 + (if b.l + 2 * u < w then (min (b.l + 2 * u + 2 * u) w - (b.l + 2 * u) + 1) / 2 else 0) := by
      split <;> omega
    rw [R, C]
    generalize (min (b.t + 2 * u) h - b.t + 1) / 2 = r1
    generalize (min (b.t + 2 * u + 2 * u) h - (b.t + 2 * u) + 1) / 2 = r2
    generalize (min (b.l + 2 * u) w - b.l + 1) / 2 = c1
    generalize (min (b.l + 2 * u + 2 * u) w - (b.l + 2 * u) + 1) / 2 = c2
    by_cases x1 : b.t + 2 * u < h <;> by_cases x2 : b.l + 2 * u < w <;> simp [lt, ll, x1, x2, Nat.add_mul, Nat.mul_add] <;> omega
/-- the place where a block begins -/
def placeB (h w : Nat) (b : Bk) : Nat := (cellsL h w).idxOf ⟨b.t, b.l, 2⟩
theorem idx_of {α : Type} [DecidableEq α] {L : List α} (n : L.Nodup) {i : Nat} {x : α} (e : L[i]? = some x) : L.idxOf x = i := by
  obtain ⟨hi, hx⟩ := List.getElem?_eq_some_iff.mp e
  have m : x ∈ L := hx ▸ List.getElem_mem hi
  have q := List.idxOf_lt_length_of_mem m
  exact (List.getElem?_inj q n).mp (by rw [List.getElem?_eq_getElem q, List.getElem_idxOf, e])
theorem place_at {h w : Nat} {b : Bk} (v : Vb h w b) : ∀ i x, (cellsOf h w b)[i]? = some x → (cellsL h w)[placeB h w b + i]? = some x := fun i x e => by
  obtain ⟨pre, post, ea⟩ := cells_part b v
  obtain ⟨r, er⟩ := cells_first b v
  have p : placeB h w b = pre.length := idx_of all_nodup (by rw [ea, er]; simp)
  have hi := (List.getElem?_eq_some_iff.mp e).1
  rw [p, ea, List.append_assoc, List.getElem?_append_right (by omega), Nat.add_sub_cancel_left, List.getElem?_append_left hi]
  exact e
theorem place_le {h w : Nat} {b : Bk} (v : Vb h w b) : placeB h w b + manyC h w b ≤ (cellsL h w).length := by
  obtain ⟨pre, post, ea⟩ := cells_part b v
  obtain ⟨r, er⟩ := cells_first b v
  have p : placeB h w b = pre.length := idx_of all_nodup (by rw [ea, er]; simp)
  rw [← cells_many b v, ea, p, List.length_append, List.length_append]
  omega
theorem many_pos {h w : Nat} {b : Bk} (v : Vb h w b) : 1 ≤ manyC h w b := by
  obtain ⟨r, er⟩ := cells_first b v
  rw [← cells_many b v, er]
  simp
end K05
namespace K05
open PySem PySem.Spec PyProof.Rows L2 PySem.W LamX KA KW KU KL KT
open Evl (pss_cut tCut)
/-! ### blocks of any values -/
def bkV (b : Bk) : List V := [.int (b.t : Int), .int (b.l : Int), .int (b.s : Int)]
/-- x is a shape of h rows and w columns -/
def Shp (C : Addr) (H : Hp) (x : V) (h w : Nat) : Prop := ∃ (a dx : Addr) (lo hi : Int), x = .ref a ∧ H a = some (.ins C dx (shapeFs (h : Int) (w : Int) lo hi)) ∧ 1 ≤ h ∧ h ≤ 16 ∧ 1 ≤ w ∧ w ≤ 16 ∧ -512 ≤ lo ∧ lo ≤ hi ∧ hi ≤ 511
theorem Shp.keep {C : Addr} {H H' : Hp} {x : V} {h w : Nat} (p : Shp C H x h w) (s : Same H H') : Shp C H' x h w := by
  obtain ⟨a, dx, lo, hi, rfl, e, q⟩ := p
  exact ⟨a, dx, lo, hi, rfl, s _ _ e, q⟩
theorem Shp.v {C : Addr} {H : Hp} {x : V} {h w : Nat} (p : Shp C H x h w) : ∃ lo hi, ShV C H x lo hi := by
  obtain ⟨a, dx, lo, hi, rfl, e, _, _, _, _, q⟩ := p
  exact ⟨lo, hi, a, dx, _, _, rfl, e, q⟩
theorem Shp.b {C : Addr} {H : Hp} {x : V} {h w : Nat} (p : Shp C H x h w) : 1 ≤ h ∧ h ≤ 16 ∧ 1 ≤ w ∧ w ≤ 16 := by
  obtain ⟨a, dx, lo, hi, rfl, e, a1, a2, a3, a4, _⟩ := p
  exact ⟨a1, a2, a3, a4⟩
/-- the sizes that the top has written -/
structure SzT (K : PySem.W.Frag) (mg : Str → Option Value) where
  a : Addr
  m : mg "SIZES" = some (.ref a)
  q : ∀ H, SqT K H a [.int 8, .int 4, .int 2]
def tupOf (o : Option (List V)) (n : Nat) : Bool := match o with
  | some xs => decide (xs.length = n)
  | none => false
def modB : V → V → Bool
  | .int a, .int c => decide (a % c = 0)
  | _, _ => false
def inSz (z : V) : Bool := inV z [.int 8, .int 4, .int 2]
def blkB (h w : Nat) (o : Option (List V)) : Bool := match o with
  | some [x, y, z] => within z 2 8 && inSz z && (within x 0 ((h : Int) - 1) && within y 0 ((w : Int) - 1)) && (modB x z && modB y z)
  | _ => false
theorem inSz_int {c : Int} : inSz (.int c) = decide (c = 8 ∨ c = 4 ∨ c = 2) := by
  unfold inSz inV
  simp only [List.any_cons, List.any_nil, Bool.or_false]
  have e : ∀ k : Int, eqV (.int k) (.int c) = decide (k = c) := fun k => by
    show decide (k = c) = _
    rfl
  rw [e, e, e]
  rw [← Bool.decide_or, ← Bool.decide_or]
  exact decide_eq_decide.mpr (by omega)
theorem blkB_iff {h w : Nat} {o : Option (List V)} : blkB h w o = true ↔ ∃ b, Vb h w b ∧ o = some (bkV b) := by
  constructor
  · intro e
    unfold blkB at e
    split at e
    · next x y z =>
      simp only [Bool.and_eq_true] at e
      obtain ⟨⟨⟨e1, e2⟩, e3, e4⟩, e5, e6⟩ := e
      obtain ⟨c, rfl, c1, c2⟩ := within_int e1
      obtain ⟨a, rfl, a1, a2⟩ := within_int e3
      obtain ⟨b, rfl, b1, b2⟩ := within_int e4
      rw [inSz_int, decide_eq_true_eq] at e2
      unfold modB at e5 e6
      dsimp only at e5 e6
      rw [decide_eq_true_eq] at e5 e6
      refine ⟨⟨a.toNat, b.toNat, c.toNat⟩, ⟨by dsimp only; omega, ?_, ?_, by dsimp only; omega, by dsimp only; omega⟩, ?_⟩
      · dsimp only
        rcases e2 with z | z | z <;> subst z
        · show a.toNat % 8 = 0
          omega
        · show a.toNat % 4 = 0
          omega
        · show a.toNat % 2 = 0
          omega
      · dsimp only
        rcases e2 with z | z | z <;> subst z
        · show b.toNat % 8 = 0
          omega
        · show b.toNat % 4 = 0
          omega
        · show b.toNat % 2 = 0
          omega
      · unfold bkV
        rw [show ((a.toNat : Nat) : Int) = a by omega, show ((b.toNat : Nat) : Int) = b by omega, show ((c.toNat : Nat) : Int) = c by omega]
    · cases e
  · rintro ⟨b, v, rfl⟩
    have s := v.s
    have mt := v.mt
    have ml := v.ml
    have lt := v.lt
    have ll := v.ll
    show (within (.int (b.s : Int)) 2 8 && inSz (.int (b.s : Int)) && (within (.int (b.t : Int)) 0 ((h : Int) - 1) && within (.int (b.l : Int)) 0 ((w : Int) - 1)) && (modB (.int (b.t : Int)) (.int (b.s : Int)) && modB (.int (b.l : Int)) (.int (b.s : Int)))) = true
    have wi : ∀ i lo hi : Int, within (.int i) lo hi = (decide (lo ≤ i) && decide (i ≤ hi)) := fun _ _ _ => rfl
    have mo : ∀ i j : Int, modB (.int i) (.int j) = decide (i % j = 0) := fun _ _ => rfl
    rw [wi, wi, wi, mo, mo, inSz_int]
    simp only [Bool.and_eq_true, decide_eq_true_eq]
    refine ⟨⟨⟨⟨by omega, by omega⟩, by omega⟩, ⟨by omega, by omega⟩, by omega, by omega⟩, ?_, ?_⟩
    · rw [← Int.natCast_emod, mt]; rfl
    · rw [← Int.natCast_emod, ml]; rfl
def spTupOf (K : PySem.W.Frag) : Sp := fun vs H Q _ => ∃ (x : V) (o : Option (List V)) (n : Nat), vs = [x, .int (n : Int)] ∧ Rw K H x o ∧ Q (.bl (tupOf o n)) H
def spIsBlk (K : PySem.W.Frag) (C : Addr) : Sp := fun vs H Q _ => ∃ (sh x : V) (o : Option (List V)) (h w : Nat), vs = [sh, x] ∧ Shp C H sh h w ∧ Rw K H x o ∧ Q (.bl (blkB h w o)) H
def spChkBlk (K : PySem.W.Frag) (C CB : Addr) : Sp := fun vs H Q E => ∃ (sh x : V) (o : Option (List V)) (h w : Nat), vs = [sh, x] ∧ Shp C H sh h w ∧ Rw K H x o ∧ (blkB h w o = true → Q .non H) ∧ (blkB h w o = false → E (.ref CB) none H)
section
variable {P : Program} {w : World} {K : PySem.W.Frag} {mg : Str → Option Value} {base : Heap} (T : Top K mg) (SH : ShapeT K mg) (Z : SzT K mg)
theorem ok_is_tuple_of : FnOk P w K mg base (L2.CX P w) 1 T.is_tuple_of.a T.is_tuple_of.d ["thing", "many"] (spTupOf K) := by
  refine T.is_tuple_of.f.okX sc_is_tuple_of (fun vs H Q E h => ?_) (fun cdv A outer s H vs Q E hr h => ?_)
  · obtain ⟨x, o, n, rfl, _⟩ := h
    rfl
  · obtain ⟨x, o, n, rfl, hp, k⟩ := h
    refine ⟨_, pss_one (ps_ret (pe_and (pe_callB call_isi (by rfl) T.b_isinstance PyProof.Rows.boot_isinstance (pa_cons (pv 0) (pa_cons (pe_bltn (v := .ty "tuple") (by rfl) T.b_tuple (by decide +kernel) rfl) pa_nil)))
      (pe_one (pe_cmpR op_eq (pe_callB call_len_seq (by rfl) T.b_len PySem.boot_len (pa_cons (pv 0) pa_nil)) (pv 1) (nomark _))))), ?_⟩
    cases hp with
    | no hn =>
      obtain ⟨t, ht, h1⟩ := hn.ty (K := K)
      refine ⟨_, rfl, x, _, _, _, _, rfl, .ty "tuple", ht, kit_ty h1, _, rfl, ?_⟩
      exact iteF k
    | @tup a xs e p l =>
      refine ⟨_, rfl, _, _, _, _, true, rfl, .ty "tuple", .base (.tup e), kit_ty (by decide +kernel), _, rfl, iteT ⟨_, rfl, a, xs, rfl, .inr (SqT.of e), _, rfl, rfl, ?_⟩⟩
      refine q_bl k ?_
      show decide (V.int ((xs.length : Nat) : Int) = V.int ((n : Nat) : Int)) = decide (xs.length = n)
      exact decide_eq_decide.mpr ⟨fun z => by have := V.int.inj z; omega, fun z => by rw [z]⟩
include Z in
theorem ok_is_block_of : FnOk P w K mg base (L2.CX P w) 4 T.is_block_of.a T.is_block_of.d ["shape", "thing"] (spIsBlk K SH.C) := by
  refine T.is_block_of.f.okX sc_is_block_of (fun vs H Q E h => ?_) (fun cdv A outer s H vs Q E hr h => ?_)
  · obtain ⟨sh, x, o, h, w, rfl, _⟩ := h
    rfl
  · obtain ⟨sh, x, o, h, wn, rfl, shp, hp, k⟩ := h
    refine ⟨_, pss_cons (ps_if (pt_not (pt_val (pe_call (ok_is_tuple_of T) (hr.mono (by decide)) (by rfl) T.is_tuple_of.m T.is_tuple_of.f.kp (bd_is_tuple_of T) .nil passE (pa_cons (pv 1) (pa_cons pe_int pa_nil))))) (pss_one (ps_ret pe_bl)) pss_nil)
      (pss_cons (ps_asg (pv 1) (pg_tup rfl (pgs_cons (pg_name (i := 2) sc_is_block_of.nd rfl (.inl rfl)) (pgs_cons (pg_name (i := 3) sc_is_block_of.nd rfl (.inl rfl)) (pgs_cons (pg_name (i := 4) sc_is_block_of.nd rfl (.inl rfl)) pgs_nil)))))
      (pss_cons (ps_if (PW.pt (pw_or (pt_not (pt_val (pe_call (ok_is_within T) (hr.mono (by decide)) (by rfl) T.is_within.m T.is_within.f.kp (bd_is_within T) .nil passE (pa_cons (pv 4) (pa_cons pe_int (pa_cons pe_int pa_nil))))))
        (pw_or1 (pt_cmpR op_notIn_seq (pv 4) (pe_glob (v := .ref Z.a) (by rfl) Z.m rfl) (by rfl))))) (pss_one (ps_ret pe_bl)) pss_nil)
      (pss_cons (ps_if (PW.pt (pw_or (pt_not (pt_val (pe_call (ok_is_within T) (hr.mono (by decide)) (by rfl) T.is_within.m T.is_within.f.kp (bd_is_within T) .nil passE (pa_cons (pv 2) (pa_cons pe_int (pa_cons (pe_op op_sub (pe_fld (pv 0) rfl) pe_int) pa_nil))))))
        (pw_or1 (pt_not (pt_val (pe_call (ok_is_within T) (hr.mono (by decide)) (by rfl) T.is_within.m T.is_within.f.kp (bd_is_within T) .nil passE (pa_cons (pv 3) (pa_cons pe_int (pa_cons (pe_op op_sub (pe_fld (pv 0) rfl) pe_int) pa_nil))))))))) (pss_one (ps_ret pe_bl)) pss_nil)
      (pss_one (ps_ret (pe_and (pe_cmpR op_eq (pe_op op_mod (pv 2) (pv 4)) pe_int (nomark _)) (pe_one (pe_cmpR op_eq (pe_op op_mod (pv 3) (pv 4)) pe_int (nomark _))))))))), ?_⟩
    refine ⟨_, rfl, x, o, 3, rfl, hp, _, rfl, ?_⟩
    cases ht : tupOf o 3
    · refine iteT (q_bl k ?_)
      unfold tupOf at ht
      unfold blkB
      split at ht
      · next xs =>
        rw [decide_eq_false_iff_not] at ht
        split
        · next e => cases e; exact absurd rfl ht
        · rfl
      · rfl
    refine iteF ?_
    obtain ⟨a, ex, ey, ez, rfl, rfl, ea, pl⟩ : ∃ (a : Addr) (ex ey ez : V), x = .ref a ∧ o = some [ex, ey, ez] ∧ H a = some (.tup [ex, ey, ez]) ∧ ∀ x ∈ [ex, ey, ez], ∃ b, Pl K H x b := by
      cases hp with
      | no hn => cases ht
      | @tup a xs e p l =>
        have lx : xs.length = 3 := of_decide_eq_true ht
        match xs, lx, e, p with
        | [ex, ey, ez], _, e, p => exact ⟨a, ex, ey, ez, rfl, rfl, e, p⟩
    obtain ⟨bx, px⟩ := pl ex (by simp)
    obtain ⟨by', py⟩ := pl ey (by simp)
    obtain ⟨bz, pz⟩ := pl ez (by simp)
    obtain ⟨sa, dx, lo, hi, rfl, es, h1, h2, w1, w2, _⟩ := shp
    have kk : ∀ c, c = blkB h wn (some [ex, ey, ez]) → Q (.bl c) H := fun c e => q_bl k e
    have e0 : blkB h wn (some [ex, ey, ez]) = (within ez 2 8 && inSz ez && (within ex 0 ((h : Int) - 1) && within ey 0 ((wn : Int) - 1)) && (modB ex ez && modB ey ez)) := rfl
    rw [e0] at kk
    refine ⟨_, rfl, a, _, rfl, SqT.of ea, rfl, _, _, rfl, _, _, rfl, _, _, rfl, rfl, ?_⟩
    refine ⟨_, rfl, _, bz, _, _, rfl, pz, _, rfl, ?_⟩
    cases c1 : within ez 2 8
    · exact iteT (iteT (kk _ (by rw [c1]; rfl)))
    obtain ⟨z, rfl, z1, z2⟩ := within_int c1
    refine iteF ⟨_, rfl, Z.a, _, rfl, .inr (Z.q H), rfl, rfl, _, rfl, ?_⟩
    cases c2 : inSz (.int z)
    · rw [show (if true = true then !inV (V.int z) [V.int 8, .int 4, .int 2] else inV (V.int z) [V.int 8, .int 4, .int 2]) = true by unfold inSz at c2; rw [c2]; rfl]
      exact iteT (kk _ (by rw [c1, c2]; rfl))
    rw [show (if true = true then !inV (V.int z) [V.int 8, .int 4, .int 2] else inV (V.int z) [V.int 8, .int 4, .int 2]) = false by unfold inSz at c2; rw [c2]; rfl]
    refine iteF ?_
    refine ⟨_, rfl, _, rfl, sa, SH.C, dx, _, _, rfl, es, SH.i.cl, SH.n1, rfl, _, _, rfl, rfl, _, bx, _, _, rfl, px, _, rfl, ?_⟩
    cases c3 : within ex 0 ((h : Int) - 1)
    · exact iteT (iteT (kk _ (by rw [c1, c2, c3]; rfl)))
    obtain ⟨i, rfl, i1, i2⟩ := within_int c3
    refine iteF ⟨_, rfl, _, rfl, sa, SH.C, dx, _, _, rfl, es, SH.i.cl, SH.n2, rfl, _, _, rfl, rfl, _, by', _, _, rfl, py, _, rfl, ?_⟩
    cases c4 : within ey 0 ((wn : Int) - 1)
    · exact iteT (kk _ (by rw [c1, c2, c3, c4]; rfl))
    obtain ⟨j, rfl, j1, j2⟩ := within_int c4
    rw [c1, c2, c3, c4] at kk
    refine iteF ?_
    have zp : 0 < z := by omega
    have sc : ∀ i j : Int, decide (V.int i = V.int j) = decide (i = j) := fun i j => decide_eq_decide.mpr ⟨fun z => V.int.inj z, fun z => by rw [z]⟩
    refine ⟨_, rfl, _, rfl, _, _, rfl, rfl, zp, rfl, _, rfl, ?_⟩
    rw [sc]
    cases c5 : decide (i % z = 0)
    · exact iteF (kk _ (by show false = (true && (decide (i % z = 0) && _)); rw [c5]; rfl))
    refine iteT ⟨_, rfl, _, rfl, _, _, rfl, rfl, zp, rfl, ?_⟩
    rw [sc]
    exact kk _ (by show decide (j % z = 0) = (true && (decide (i % z = 0) && decide (j % z = 0))); rw [c5]; rfl)
end
end K05
namespace KY
open PySem PySem.Spec PyProof.Rows L2 PySem.W LamX KA KW
/-! ### x == y, x != y, where x is an instance whose class writes __eq__ and no __ne__ -/
section
variable {X : Cx} {CX : CXT} {n : Nat} {C f : Addr} {fd : FuncData} {ps : List Str} {sp : Sp} {E : XK}
theorem own_call {A : Around} {pins : List (Addr × Obj)} {σ : L2.St} {H : Hp} {s : Shared} {x y : V} {v u : Value} {R : Bool → Hp → Prop} (sb : L2.Sub X n A) (F : FnOk X.prog X.w X.K X.mg X.base CX n f fd ps sp) (hb : Binds X.K fd ps []) (hx : Passes CX X E)
    (I : Inv X pins σ H s) (rx : RelV x v) (ry : RelV y u) (hsp : sp [x, y] H (fun v H' => ∃ b, v = .bl b ∧ R b H') E) :
    wpAny (model X.prog X.w) A (call (.ref f) [v, u]) (fun r s' => ∃ b, r = .bool b ∧ ∃ H', Inv X pins σ H' s' ∧ R b H') X.xe s := by
  have e0 : Env0 X.prog X.w X.K X.mg X.base A X.stack s H := by
    have e := I.env0
    exact ⟨by rw [sb.fr]; exact e.frames, e.mod, e.bs, e.bsz, e.funs, e.frf, e.hok, e.bare⟩
  have hl := F.len _ _ _ _ hsp
  have r2 : L2.Vals [x, y] [v, u] := .cons rx (.cons ry .nil)
  refine wpAny_call (codeAny_mono (F.run A X.stack s H ⟨[v, u], []⟩ [v, u] [x, y] _ E sb.room e0 (by
    have := hb s [v, u] I.kIn (by simpa using hl)
    simpa using this) r2 hsp) fun r s' hq => ?_)
  cases r with
  | error e => exact hx pins σ H s e s' I hq
  | ok fl =>
    cases fl with
    | ret w =>
      obtain ⟨z, H', I', rz, b, ez, ex⟩ := I.after hq
      subst ez
      cases rz
      exact ⟨b, rfl, H', I', ex⟩
    | next => exact False.elim hq
    | brk => exact False.elim hq
    | cont => exact False.elim hq
def rEqI (K : PySem.W.Frag) (C : Addr) (sp : Sp) (E : XK) (g : Bool → Bool) : R2 := fun x y H Q => ∃ a dx fs tb, x = .ref a ∧ H a = some (.ins C dx fs) ∧ TyX K H y tb ∧ PySem.W.notFirst K C tb = true ∧ sp [x, y] H (fun v H' => ∃ b, v = .bl b ∧ Q (.bl (g b)) H') E
theorem op_eqI (F : FnOk X.prog X.w X.K X.mg X.base CX n f fd ps sp) (hr : Room n X.A) (hs : PySem.W.findIn X.K (.ref C) "__eq__" = some (some (.ref f))) (hf : PySem.W.isFn X.K (.ref f) = true) (hb : Binds X.K fd ps []) (hx : Passes CX X E) :
    OpR X (compareOp .Eq) (rEqI X.K C sp E fun b => b) := by
  intro pins s σ H x y v u Q I rx ry h
  obtain ⟨a, dx, fs, tb, rfl, ha, ty, nf, hsp⟩ := h
  cases rx
  obtain ⟨mA, J, _⟩ := ins_get I.hok ha
  obtain ⟨od, J, _⟩ := J.look
  obtain ⟨Pk, Z, pk, _⟩ := kit_of I ry ty
  obtain ⟨m, hF⟩ := I.fr
  show wpAny (model X.prog X.w) X.A (richCompare .Eq (.ref a) u) (EP X pins σ Q) X.xe s
  refine PySem.W.cmp_K (op := .Eq) hr.units0 hF I.ok.mod.kin J (Z.ty _ _ I.kIn pk) nf hs hf ?_
  refine wpAny_mono (own_call ⟨hr, rfl⟩ F hb hx I (x := .ref a) (show L2.RelV (.ref a) (.ref a) from rfl) ry hsp) (fun r s' hq => ?_) fun _ _ e => e
  obtain ⟨b, rfl, H', I', q⟩ := hq
  exact ⟨.bl b, H', I', rfl, q⟩
section
variable {M : Model} {prog : Program} {w : World} {A : Around} {E' : Value → Shared → Prop} {s : Shared} {K : PySem.W.Frag} {x : Addr} {ox : Obj} {od : Option Obj}
theorem ifBound_objNe {args : List Value} {Q : Option Value → Shared → Prop} (X : K.In s.heap) (I : PySem.W.InstAt s.heap x ox C od) (hs : PySem.W.findIn K (.ref C) "__ne__" = some (some (.builtin "object.__ne__")))
    (h : wpAny M A (call (.builtin "object.__ne__") (.ref x :: args)) (fun v => Q (some v)) E' s) : wpAny M A (callSpecialIfBound? (.ref x) "__ne__" args) Q E' s := by
  simp only [callSpecialIfBound?, bindSpecialIfBound?]
  refine wpAny_holding (wpAny_bind (wpAny_bind (wpAny_bind (I.type.here ((PySem.W.looks_findIn X hs).here ?_)))))
  refine wpAny_bind (wpAny_askSetting (wpAny_ite ?_))
  have fin : wpAny M A (call (.builtin "object.__ne__") ([.ref x] ++ args) >>= fun v => pure (some v)) Q E' s := wpAny_bind (wpAny_mono h (fun v s' h' => wpAny_pure h') fun _ _ h' => h')
  split
  · exact wpAny_bind (wpAny_of_eq (F.cmp_object.ne.bind _) (wpAny_pure (by exact fin)))
  · exact wpAny_tryCatch (wpAny_bind (wpAny_of_eq (F.cmp_object.ne.bind _) (wpAny_pure (by exact fin))))
theorem entry_ne {y : Value} {Q : Fin → Shared → Prop} (hu : A.units < cLine) (X : K.In s.heap) (I : PySem.W.InstAt s.heap x ox C od) (hs : PySem.W.findIn K (.ref C) "__eq__" = some (some (.ref f))) (hf : PySem.W.isFn K (.ref f) = true)
    (hcall : wpAny (model prog w) A (call (.ref f) [.ref x, y]) (fun v s' => ∃ b, v = .bool b ∧ Q (.done (.ret (.bool (!b)))) s') E' s) :
    wpAny (model prog w) A (Builtin.«object.__ne__» ⟨[.ref x, y], []⟩) Q E' s := by
  unfold Builtin.«object.__ne__»
  repeat (first
    | with_reducible refine wpAny_cRoomFor hu ?_
    | (refine wpAny_bind (m := callSpecialIfBound? (.ref x) (Str.ofString "__eq__") [y])
        (PySem.W.ifBound_K X I hs hf (wpAny_mono hcall (fun r s' hr => by
          obtain ⟨b, rfl, hq⟩ := hr
          repeat (first | exact hq | exact wpAny_pure hq | exact wpAny_truthy_bool hq | (refine wpAny_bind (m := truthy (.bool _)) (wpAny_truthy_bool ?_)) | wp_step)) fun _ _ e => e)))
    | wp_step)
theorem ne_K {L : Addr} {h₀ : Heap} {m : Str → Option Value} {b tb : Value} {Q : Value → Shared → Prop} (hu : A.units + 1 < cLine) (hF : Fr h₀ L s.heap m) (X₀ : K.In h₀) (I : PySem.W.InstAt s.heap x ox C od) (hb : PySem.W.Looks (model prog w) s.heap (typeOf b) tb) (hn : PySem.W.notFirst K C tb = true)
    (hne : PySem.W.findIn K (.ref C) "__ne__" = some (some (.builtin "object.__ne__"))) (hm : PySem.W.mroIn K C (.type "object") = some true) (hs : PySem.W.findIn K (.ref C) "__eq__" = some (some (.ref f))) (hf : PySem.W.isFn K (.ref f) = true)
    (h : wpAny (model prog w) A.in1 (call (.ref f) [.ref x, b]) (fun v s' => ∃ c, v = .bool c ∧ Q (.bool (!c)) s') E' s) : wpAny (model prog w) A (richCompare .NotEq (.ref x) b) Q E' s := by
  have X := X₀.keeps hF.keep
  have one : wpAny (model prog w) A (tryCompare (.ref x) "__ne__" b) (fun r s' => ∃ v, r = some v ∧ Q v s') E' s := by
    unfold tryCompare
    refine wpAny_bind (ifBound_objNe X I hne ?_)
    refine wpAny_call (codeAny_call_builtin F.cmp_object.ne.plain F.cmpEntry_ne (PySem.W.check_slot F.cmpKind_ne F.cmpSplit_ne (I.type.andThen (PySem.W.looks_mroIn X hm)) (F.cmpArgs_ne _ _) (entry_ne (A := A.in1) (by show A.units + 1 < cLine; exact hu) X I hs hf (wpAny_mono h (fun r s' hr => ?_) fun _ _ e => e))))
    obtain ⟨c, rfl, q⟩ := hr
    refine ⟨c, rfl, ?_⟩
    first
      | exact wpAny_pure ⟨_, rfl, q⟩
      | exact ⟨_, rfl, q⟩
  unfold richCompare
  simp only [oneThing_ref]
  refine wpAny_holding (wpAny_bind (wpAny_cRoomFor (by omega) ?_))
  refine wpAny_bind (I.type.here (wpAny_bind (hb.here ?_)))
  split
  · rename_i q
    have e : subIn K tb (.ref C) = some false := by
      rcases Bool.or_eq_true_iff.mp hn with e | e
      · rw [beq_iff_eq.mp e] at q; simp at q
      · exact beq_iff_eq.mp e
    refine wpAny_bind ((looks_subIn X e).here ?_)
    simp only [Bool.false_eq_true, if_false]
    refine wpAny_bind (wpAny_mono one (fun r s' z => ?_) fun _ _ e => e)
    obtain ⟨v, rfl, hq⟩ := z
    exact wpAny_pure hq
  · refine wpAny_bind (wpAny_pure ?_)
    simp only [Bool.false_eq_true, if_false]
    refine wpAny_bind (wpAny_mono one (fun r s' z => ?_) fun _ _ e => e)
    obtain ⟨v, rfl, hq⟩ := z
    exact wpAny_pure hq
end
theorem op_neI (F : FnOk X.prog X.w X.K X.mg X.base CX n f fd ps sp) (hr : Room (n + 1) X.A) (hs : PySem.W.findIn X.K (.ref C) "__eq__" = some (some (.ref f))) (hne : PySem.W.findIn X.K (.ref C) "__ne__" = some (some (.builtin "object.__ne__"))) (hm : PySem.W.mroIn X.K C (.type "object") = some true)
    (hf : PySem.W.isFn X.K (.ref f) = true) (hb : Binds X.K fd ps []) (hx : Passes CX X E) :
    OpR X (compareOp .NotEq) (rEqI X.K C sp E fun b => !b) := by
  intro pins s σ H x y v u Q I rx ry h
  obtain ⟨a, dx, fs, tb, rfl, ha, ty, nf, hsp⟩ := h
  cases rx
  obtain ⟨mA, J, _⟩ := ins_get I.hok ha
  obtain ⟨od, J, _⟩ := J.look
  obtain ⟨Pk, Z, pk, _⟩ := kit_of I ry ty
  obtain ⟨m, hF⟩ := I.fr
  show wpAny (model X.prog X.w) X.A (richCompare .NotEq (.ref a) u) (EP X pins σ Q) X.xe s
  have hu : X.A.units + 1 < cLine := by
    have := hr.units
    omega
  refine ne_K hu hF I.ok.mod.kin J (Z.ty _ _ I.kIn pk) nf hne hm hs hf ?_
  refine wpAny_mono (own_call (L2.Sub.in1 ⟨hr, rfl⟩) F hb hx I (x := .ref a) (show L2.RelV (.ref a) (.ref a) from rfl) ry hsp) (fun r s' hq => ?_) fun _ _ e => e
  obtain ⟨b, rfl, H', I', q⟩ := hq
  exact ⟨b, rfl, .bl (!b), H', I', rfl, q⟩
end
end KY
namespace K05
open PySem PySem.Spec PyProof.Rows L2 PySem.W LamX KA KW KU KL KT
open Evl (pss_cut tCut)
/-! ### lists of new tuples, loops within loops -/
/-- tuples stay -/
def Tp (H H' : Hp) : Prop := ∀ b xs, H b = some (.tup xs) → H' b = some (.tup xs)
theorem Tp.same {H H' : Hp} (s : Same H H') : Tp H H' := fun b xs e => s _ _ e
theorem Tp.trans {H H1 H2 : Hp} (a : Tp H H1) (b : Tp H1 H2) : Tp H H2 := fun c xs e => b _ _ (a _ _ e)
theorem Tp.put {H : Hp} {D : Addr} {xs : List V} {o : HO} (h : H D = some (.lst xs)) : Tp H (upd H D o) := fun b ys e => by
  rw [upd_ne (fun z => by rw [z, h] at e; cases e)]
  exact e
theorem Tp.kp {st lg cl : Addr} {m : Nat} {H H' : Hp} (S : StAt H st lg cl m) (k : Kp st lg H H') : Tp H H' := fun b xs e => by
  obtain ⟨_, _, _, _, s, _⟩ := S
  exact k _ _ e (ne_of e s.d (by intro z; cases z)) (ne_of e s.l (by intro z; cases z))
/-- v is the tuple of these values -/
def TupAt (H : Hp) (v : V) (xs : List V) : Prop := ∃ p, v = .ref p ∧ H p = some (.tup xs)
theorem TupAt.tp {H H' : Hp} {v : V} {xs : List V} (h : TupAt H v xs) (t : Tp H H') : TupAt H' v xs := by
  obtain ⟨p, e, q⟩ := h
  exact ⟨p, e, t _ _ q⟩
/-- these are tuples, as f tells -/
def RL {α : Type} (f : α → List V) (H : Hp) (vs : List V) (as : List α) : Prop := vs.length = as.length ∧ ∀ (i : Nat) (v : V), vs[i]? = some v → ∃ a, as[i]? = some a ∧ TupAt H v (f a)
section
variable {α : Type} {f : α → List V} {H H' : Hp} {vs us : List V} {as bs : List α}
theorem RL.nil : RL f H [] [] := ⟨rfl, fun i v h => by simp at h⟩
theorem RL.tp (r : RL f H vs as) (t : Tp H H') : RL f H' vs as := ⟨r.1, fun i v h => by
  obtain ⟨a, e, q⟩ := r.2 i v h
  exact ⟨a, e, q.tp t⟩⟩
theorem RL.same (r : RL f H vs as) (t : Same H H') : RL f H' vs as := r.tp (Tp.same t)
theorem RL.append (r : RL f H vs as) (q : RL f H us bs) : RL f H (vs ++ us) (as ++ bs) := ⟨by rw [List.length_append, List.length_append, r.1, q.1], fun i v h => by
  by_cases c : i < vs.length
  · rw [List.getElem?_append_left c] at h
    obtain ⟨a, e, z⟩ := r.2 i v h
    exact ⟨a, by rw [List.getElem?_append_left (by rw [← r.1]; exact c)]; exact e, z⟩
  · rw [List.getElem?_append_right (by omega)] at h
    obtain ⟨a, e, z⟩ := q.2 _ v h
    exact ⟨a, by rw [List.getElem?_append_right (by rw [← r.1]; omega), ← r.1]; exact e, z⟩⟩
theorem RL.one {v : V} {a : α} (h : TupAt H v (f a)) : RL f H [v] [a] := ⟨rfl, fun i u e => by
  match i, e with
  | 0, e => exact ⟨a, rfl, (Option.some.inj e) ▸ h⟩⟩
theorem RL.get (r : RL f H vs as) {i : Nat} {v : V} (h : vs[i]? = some v) : ∃ p a, v = .ref p ∧ as[i]? = some a ∧ H p = some (.tup (f a)) := by
  obtain ⟨a, e, p, q, z⟩ := r.2 i v h
  exact ⟨p, a, q, e, z⟩
theorem RL.at_ (r : RL f H vs as) {i : Nat} {a : α} (h : as[i]? = some a) : ∃ p, vs[i]? = some (.ref p) ∧ H p = some (.tup (f a)) := by
  have l := (List.getElem?_eq_some_iff.mp h).1
  obtain ⟨p, a', e1, e2, e3⟩ := r.get (List.getElem?_eq_getElem (l := vs) (i := i) (by rw [r.1]; exact l))
  rw [h] at e2
  cases e2
  exact ⟨p, by rw [List.getElem?_eq_getElem (by rw [r.1]; exact l), e1], e3⟩
end
/-- the list at D, made since H1 -/
def NI {α : Type} (f : α → List V) (H1 : Hp) (D : Addr) (as : List α) (H : Hp) : Prop := ∃ ws, H D = some (.lst ws) ∧ RL f H ws as ∧ Same H1 H
section
variable {α : Type} {f : α → List V} {H1 H H' : Hp} {D : Addr} {as bs : List α}
theorem NI.new (hD : H1 D = none) : NI f H1 D [] (upd H1 D (.lst [])) := ⟨[], upd_same, .nil, Same.new hD⟩
theorem NI.same (n : NI f H1 D as H) (s : Same H H') : NI f H1 D as H' := by
  obtain ⟨ws, a, b, c⟩ := n
  exact ⟨ws, s _ _ a, b.same s, c.trans s⟩
theorem NI.s (n : NI f H1 D as H) : Same H1 H := n.elim fun _ q => q.2.2
theorem NI.push {v : V} {a : α} (n : NI f H1 D as H) (hD : H1 D = none) (l : as.length < 100000) (q : TupAt H v (f a)) : ∃ acc, H D = some (.lst acc) ∧ acc.length < sizeLine ∧ NI f H1 D (as ++ [a]) (upd H D (.lst (acc ++ [v]))) := by
  obtain ⟨ws, e, r, s⟩ := n
  refine ⟨ws, e, Nat.lt_trans (by rw [r.1]; exact l) (by decide), ws ++ [v], upd_same, (r.append (.one q)).tp (Tp.put e), K05.Same.put s hD⟩
end
theorem walk_core {J : It} {n : Nat} {G : Hp → Prop} {Y : Nat → Hp → V → Hp → Prop} (w : Walk J n G Y) {H1 : Hp} {Stop : Hp → Prop} {Body : (Hp → Prop) → V → Hp → Prop} (Pv : Nat → Hp → Prop) (h0 : Pv 0 H1) (hG : ∀ i H, i ≤ n → Pv i H → G H)
    (hs : ∀ i x H H', i < n → Pv i H → Y i H x H' → Body (Pv (i + 1)) x H') (hd : ∀ H, Pv n H → Stop H) :
    ∃ W : Nat → Nat → Hp → Prop, (∃ m, W 0 m H1) ∧ ∀ i m H, W i m H → (J.stop i H ∧ Stop H) ∨ (J.go i H ∧ ∃ Nx : Hp → Prop, (∀ H', Nx H' → ∃ m', m' < m ∧ W (i + 1) m' H') ∧ ∀ x H', J.yld i H x H' → Body Nx x H') := by
  refine ⟨fun i m H => m = n - i ∧ i ≤ n ∧ Pv i H, ⟨n, by simp, Nat.zero_le _, h0⟩, ?_⟩
  rintro i m H ⟨rfl, hi, p⟩
  have q := hG i H hi p
  by_cases hlt : i < n
  · exact .inr ⟨w.goes i H hlt q, Pv (i + 1), fun H' p' => ⟨n - (i + 1), by omega, rfl, hlt, p'⟩, fun x H' y => hs i x H H' hlt p (w.yields i H x H' hlt q y)⟩
  · have e : i = n := by omega
    subst e
    exact .inl ⟨w.stops H q, hd H p⟩
/-- the inner loop of two, the list at D growing -/
theorem inn_it {J : It} {n : Nat} {G : Hp → Prop} {Y : Nat → Hp → V → Hp → Prop} (w : Walk J n G Y) {g : TG} {tt : TT} {te : TE} {vs : List Nat} {σ : L2.St} {H4 : Hp} {D : Addr} {Nx : Hp → Prop} (Pv : Nat → Hp → Prop) (h0 : Pv 0 H4) (hG : ∀ i H, i ≤ n → Pv i H → G H)
    (hs : ∀ i x H H', i < n → Pv i H → Y i H x H' → g x (wipe σ vs) H' fun σ3 H5 => wipe σ3 vs = wipe σ vs ∧ tt σ3 H5 fun b H6 => if b = true then te σ3 H6 fun y H7 => ∃ acc, H7 D = some (.lst acc) ∧ acc.length < sizeLine ∧ Pv (i + 1) (upd H7 D (.lst (acc ++ [y]))) else Pv (i + 1) H6)
    (hd : ∀ H, Pv n H → Nx H) :
    ∃ W1 : Nat → Nat → Hp → Prop, (∃ m, W1 0 m H4) ∧ ∀ j k H, W1 j k H → (J.stop j H ∧ Nx H) ∨ (J.go j H ∧ ∃ Nx1 : Hp → Prop, (∀ H', Nx1 H' → ∃ k', k' < k ∧ W1 (j + 1) k' H') ∧ ∀ x H', J.yld j H x H' → g x (wipe σ vs) H' fun σ3 H5 => wipe σ3 vs = wipe σ vs ∧ tt σ3 H5 fun b H6 =>
        if b = true then te σ3 H6 fun y H7 => ∃ acc, H7 D = some (.lst acc) ∧ acc.length < sizeLine ∧ Nx1 (upd H7 D (.lst (acc ++ [y]))) else Nx1 H6) :=
  walk_core w (Body := fun Nx1 x H' => g x (wipe σ vs) H' fun σ3 H5 => wipe σ3 vs = wipe σ vs ∧ tt σ3 H5 fun b H6 => if b = true then te σ3 H6 fun y H7 => ∃ acc, H7 D = some (.lst acc) ∧ acc.length < sizeLine ∧ Nx1 (upd H7 D (.lst (acc ++ [y]))) else Nx1 H6) Pv h0 hG hs hd
/-- the outer one -/
theorem out_it {J : It} {n : Nat} {G : Hp → Prop} {Y : Nat → Hp → V → Hp → Prop} (w : Walk J n G Y) {g : TG} {tt : TT} {wi1 : TI} {g1 : TG} {tt1 : TT} {te : TE} {vs vs1 : List Nat} {σ : L2.St} {H1 : Hp} {D : Addr} {Qd : Hp → Prop} (Pv : Nat → Hp → Prop) (h0 : Pv 0 (upd H1 D (.lst []))) (hG : ∀ i H, i ≤ n → Pv i H → G H)
    (hs : ∀ i x H H', i < n → Pv i H → Y i H x H' → g x (wipe σ vs) H' fun σ2 H2 => wipe σ2 vs = wipe σ vs ∧ tt σ2 H2 fun b H3 =>
      if b = true then wi1 σ2 H3 fun J1 H4 => ∃ W1 : Nat → Nat → Hp → Prop, (∃ m, W1 0 m H4) ∧ ∀ j k H, W1 j k H →
      (J1.stop j H ∧ Pv (i + 1) H) ∨ (J1.go j H ∧ ∃ Nx1 : Hp → Prop, (∀ H', Nx1 H' → ∃ k', k' < k ∧ W1 (j + 1) k' H') ∧ ∀ x H', J1.yld j H x H' → g1 x (wipe σ2 vs1) H' fun σ3 H5 => wipe σ3 vs1 = wipe σ2 vs1 ∧ tt1 σ3 H5 fun b H6 =>
        if b = true then te σ3 H6 fun y H7 => ∃ acc, H7 D = some (.lst acc) ∧ acc.length < sizeLine ∧ Nx1 (upd H7 D (.lst (acc ++ [y]))) else Nx1 H6) else Pv (i + 1) H3) (hd : ∀ H, Pv n H → Qd H) :
    ∃ W : Nat → Nat → Hp → Prop, (∃ m, W 0 m (upd H1 D (.lst []))) ∧ ∀ i m H, W i m H → (J.stop i H ∧ Qd H) ∨ (J.go i H ∧ ∃ Nx : Hp → Prop, (∀ H', Nx H' → ∃ m', m' < m ∧ W (i + 1) m' H') ∧ ∀ x H', J.yld i H x H' → g x (wipe σ vs) H' fun σ2 H2 => wipe σ2 vs = wipe σ vs ∧ tt σ2 H2 fun b H3 =>
      if b = true then wi1 σ2 H3 fun J1 H4 => ∃ W1 : Nat → Nat → Hp → Prop, (∃ m, W1 0 m H4) ∧ ∀ j k H, W1 j k H →
      (J1.stop j H ∧ Nx H) ∨ (J1.go j H ∧ ∃ Nx1 : Hp → Prop, (∀ H', Nx1 H' → ∃ k', k' < k ∧ W1 (j + 1) k' H') ∧ ∀ x H', J1.yld j H x H' → g1 x (wipe σ2 vs1) H' fun σ3 H5 => wipe σ3 vs1 = wipe σ2 vs1 ∧ tt1 σ3 H5 fun b H6 =>
        if b = true then te σ3 H6 fun y H7 => ∃ acc, H7 D = some (.lst acc) ∧ acc.length < sizeLine ∧ Nx1 (upd H7 D (.lst (acc ++ [y]))) else Nx1 H6) else Nx H3) :=
  walk_core w (Body := fun Nx x H' => g x (wipe σ vs) H' fun σ2 H2 => wipe σ2 vs = wipe σ vs ∧ tt σ2 H2 fun b H3 =>
      if b = true then wi1 σ2 H3 fun J1 H4 => ∃ W1 : Nat → Nat → Hp → Prop, (∃ m, W1 0 m H4) ∧ ∀ j k H, W1 j k H →
      (J1.stop j H ∧ Nx H) ∨ (J1.go j H ∧ ∃ Nx1 : Hp → Prop, (∀ H', Nx1 H' → ∃ k', k' < k ∧ W1 (j + 1) k' H') ∧ ∀ x H', J1.yld j H x H' → g1 x (wipe σ2 vs1) H' fun σ3 H5 => wipe σ3 vs1 = wipe σ2 vs1 ∧ tt1 σ3 H5 fun b H6 =>
        if b = true then te σ3 H6 fun y H7 => ∃ acc, H7 D = some (.lst acc) ∧ acc.length < sizeLine ∧ Nx1 (upd H7 D (.lst (acc ++ [y]))) else Nx1 H6) else Nx H3) Pv h0 hG hs hd
/-! ### rows, columns, spots -/
def dotV (d : Nat × Nat) : List V := [.int (d.1 : Int), .int (d.2 : Int)]
def dotsB (h w : Nat) (b : Bk) : List (Nat × Nat) := ((List.range (rowsN h b)).map fun i => (List.range (colsN w b)).map fun j => (b.t + i, b.l + j)).flatten
def rgN (a n : Nat) : List V := (List.range n).map fun i => V.int (((a + i : Nat)) : Int)
theorem rgV_N {a b : Nat} (h : a ≤ b) : rgV (a : Int) (b : Int) = rgN a (b - a) := by
  unfold rgV rgN
  rw [show ((b : Int) - (a : Int)).toNat = b - a by omega]
  refine List.map_congr_left fun i _ => ?_
  rw [Int.natCast_add]
theorem rgN_at {a n i : Nat} (h : i < n) : (rgN a n)[i]? = some (.int ((a + i : Nat) : Int)) := by
  unfold rgN
  rw [List.getElem?_map, List.getElem?_range h]
  rfl
theorem rgN_len {a n : Nat} : (rgN a n).length = n := by
  unfold rgN
  rw [List.length_map, List.length_range]
def spRowsOf (C : Addr) : Sp := fun vs H Q _ => ∃ (sh : V) (p : Addr) (b : Bk) (h w : Nat), vs = [sh, .ref p] ∧ Shp C H sh h w ∧ H p = some (.tup (bkV b)) ∧ Vb h w b ∧ ∀ q H', Same H H' → H q = none → H' q = some (.lst (rgN b.t (rowsN h b))) → Q (.ref q) H'
def spColsOf (C : Addr) : Sp := fun vs H Q _ => ∃ (sh : V) (p : Addr) (b : Bk) (h w : Nat), vs = [sh, .ref p] ∧ Shp C H sh h w ∧ H p = some (.tup (bkV b)) ∧ Vb h w b ∧ ∀ q H', Same H H' → H q = none → H' q = some (.lst (rgN b.l (colsN w b))) → Q (.ref q) H'
def spSpotsOf (C : Addr) : Sp := fun vs H Q _ => ∃ (sh : V) (p : Addr) (b : Bk) (h w : Nat), vs = [sh, .ref p] ∧ Shp C H sh h w ∧ H p = some (.tup (bkV b)) ∧ Vb h w b ∧ ∀ q us H', Same H H' → H q = none → H' q = some (.lst us) → RL dotV H' us (dotsB h w b) → Q (.ref q) H'
section
variable {P : Program} {w : World} {K : PySem.W.Frag} {mg : Str → Option Value} {base : Heap} (T : Top K mg) (SH : ShapeT K mg)
theorem ok_rows_of : FnOk P w K mg base (L2.CX P w) 1 T.rows_of.a T.rows_of.d ["shape", "block"] (spRowsOf SH.C) := by
  refine T.rows_of.f.okX sc_rows_of (fun vs H Q E h => ?_) (fun cdv A outer s H vs Q E hr h => ?_)
  · obtain ⟨sh, p, b, h, w, rfl, _⟩ := h
    rfl
  · obtain ⟨sh, p, b, h, wn, rfl, shp, hp, v, k⟩ := h
    refine ⟨_, pss_one (ps_ret (pe_listRg rfl (by rfl) T.b_list (prg_2 (by rfl) T.b_range (pe_ix ix_tup (pv 1) pe_int (fun _ _ => rfl)) (pe_callB (call_min2 rfl) (by rfl) T.b_min PyProof.Rows.boot_min (pa_cons (pe_op op_add (pe_ix ix_tup (pv 1) pe_int (fun _ _ => rfl)) (pe_ix ix_tup (pv 1) pe_int (fun _ _ => rfl))) (pa_cons (pe_fld (pv 0) rfl) pa_nil)))))), ?_⟩
    obtain ⟨sa, dx, lo, hi, rfl, es, h1, h2, w1, w2, _⟩ := shp
    have lt := v.lt
    have vs := v.s
    refine ⟨_, rfl, p, _, 0, _, rfl, rfl, SqT.of hp, atI_nat (j := 0) rfl, _, rfl, p, _, 0, _, rfl, rfl, SqT.of hp, atI_nat (j := 0) rfl, _, rfl, p, _, 2, _, rfl, rfl, SqT.of hp, atI_nat (j := 2) rfl, _, _, rfl, rfl, _, rfl, sa, SH.C, dx, _, _, rfl, es, SH.i.cl, SH.n1, rfl, _, _, rfl, _, _, rfl, rfl, ?_⟩
    have e : (if (h : Int) < (b.t : Int) + (b.s : Int) then (h : Int) else (b.t : Int) + (b.s : Int)) = ((min (b.t + b.s) h : Nat) : Int) := by
      split <;> omega
    rw [e]
    refine ⟨RgOk.of_le (by omega) (by omega) (by omega) (by omega), fun q hq => ?_⟩
    rw [rgV_N (by omega)]
    exact k q _ (Same.new hq) hq upd_same
theorem ok_cols_of : FnOk P w K mg base (L2.CX P w) 1 T.columns_of.a T.columns_of.d ["shape", "block"] (spColsOf SH.C) := by
  refine T.columns_of.f.okX sc_columns_of (fun vs H Q E h => ?_) (fun cdv A outer s H vs Q E hr h => ?_)
  · obtain ⟨sh, p, b, h, w, rfl, _⟩ := h
    rfl
  · obtain ⟨sh, p, b, h, wn, rfl, shp, hp, v, k⟩ := h
    refine ⟨_, pss_one (ps_ret (pe_listRg rfl (by rfl) T.b_list (prg_2 (by rfl) T.b_range (pe_ix ix_tup (pv 1) pe_int (fun _ _ => rfl)) (pe_callB (call_min2 rfl) (by rfl) T.b_min PyProof.Rows.boot_min (pa_cons (pe_op op_add (pe_ix ix_tup (pv 1) pe_int (fun _ _ => rfl)) (pe_ix ix_tup (pv 1) pe_int (fun _ _ => rfl))) (pa_cons (pe_fld (pv 0) rfl) pa_nil)))))), ?_⟩
    obtain ⟨sa, dx, lo, hi, rfl, es, h1, h2, w1, w2, _⟩ := shp
    have ll := v.ll
    have vs := v.s
    refine ⟨_, rfl, p, _, 1, _, rfl, rfl, SqT.of hp, atI_nat (j := 1) rfl, _, rfl, p, _, 1, _, rfl, rfl, SqT.of hp, atI_nat (j := 1) rfl, _, rfl, p, _, 2, _, rfl, rfl, SqT.of hp, atI_nat (j := 2) rfl, _, _, rfl, rfl, _, rfl, sa, SH.C, dx, _, _, rfl, es, SH.i.cl, SH.n2, rfl, _, _, rfl, _, _, rfl, rfl, ?_⟩
    have e : (if (wn : Int) < (b.l : Int) + (b.s : Int) then (wn : Int) else (b.l : Int) + (b.s : Int)) = ((min (b.l + b.s) wn : Nat) : Int) := by
      split <;> omega
    rw [e]
    refine ⟨RgOk.of_le (by omega) (by omega) (by omega) (by omega), fun q hq => ?_⟩
    rw [rgV_N (by omega)]
    exact k q _ (Same.new hq) hq upd_same
end
end K05
namespace K05
open PySem PySem.Spec PyProof.Rows L2 PySem.W LamX KA KW KU KL KT
open Evl (pss_cut tCut)
/-! ### spots, roots, quarters -/
theorem rg8 : ∀ h : Nat, h ≤ 16 → RgC 0 (h : Int) 8 ((h + 7) / 8) := by
  have q : ∀ h : Fin 17, Builtin.Range.small 0 ((h.val : Nat) : Int) 8 = true ∧ Builtin.Range.rangeSize 0 ((h.val : Nat) : Int) 8 = ((((h.val + 7) / 8 : Nat)) : Int) := by decide +kernel
  intro h hh
  obtain ⟨a, b⟩ := q ⟨h, by omega⟩
  exact ⟨by decide, by decide, a, b⟩
theorem flat_snoc {α : Type} (f : Nat → List α) (i : Nat) : ((List.range (i + 1)).map f).flatten = ((List.range i).map f).flatten ++ f i := by
  rw [List.range_succ, List.map_append, List.flatten_append]
  simp
theorem flat_le {α : Type} {f : Nat → List α} {m : Nat} (hf : ∀ i, (f i).length ≤ m) : ∀ n, (((List.range n).map f).flatten).length ≤ n * m
  | 0 => by simp
  | n + 1 => by
    rw [flat_snoc, List.length_append, Nat.succ_mul]
    have := flat_le hf n
    have := hf n
    omega
theorem two_int (a b : Nat) : V.int ((a : Int) + (b : Int)) = V.int (((a + b : Nat)) : Int) := by rw [Int.natCast_add]
def spRootsOf (C : Addr) : Sp := fun vs H Q _ => ∃ (sh : V) (h w : Nat), vs = [sh] ∧ Shp C H sh h w ∧ ∀ q us H', Same H H' → H q = none → H' q = some (.lst us) → RL bkV H' us (rootsL h w) → Q (.ref q) H'
def spQuartersOf (C : Addr) : Sp := fun vs H Q _ => ∃ (sh : V) (p : Addr) (b : Bk) (h w : Nat), vs = [sh, .ref p] ∧ Shp C H sh h w ∧ H p = some (.tup (bkV b)) ∧ Vb h w b ∧ ∀ q us H', Same H H' → H q = none → H' q = some (.lst us) → RL bkV H' us (partsL h w b) → Q (.ref q) H'
section
variable {P : Program} {w : World} {K : PySem.W.Frag} {mg : Str → Option Value} {base : Heap} (T : Top K mg) (SH : ShapeT K mg)
theorem ok_spots_of : FnOk P w K mg base (L2.CX P w) 2 T.spots_of.a T.spots_of.d ["shape", "block"] (spSpotsOf SH.C) := by
  refine T.spots_of.f.okX sc_spots_of (fun vs H Q E h => ?_) (fun cdv A outer s H vs Q E hr h => ?_)
  · obtain ⟨sh, p, b, h, w, rfl, _⟩ := h
    rfl
  · obtain ⟨sh, p, b, h, wn, rfl, shp, hp, v, k⟩ := h
    refine ⟨_, pss_one (ps_ret (show PE _ _ (tLc2 (iList K (tCall (spRowsOf SH.C) [] E0 (tCons (tVar 0) (tCons (tVar 1) tNil)))) (gName 2) tYes (iList K (tCall (spColsOf SH.C) [] E0 (tCons (tVar 0) (tCons (tVar 1) tNil)))) (gName 3) tYes (tTup (tCons (tVar 2) (tCons (tVar 3) tNil))) [2, 3] [3]) from pe_lc2 (wi1 := (iList K (tCall (spColsOf SH.C) [] E0 (tCons (tVar 0) (tCons (tVar 1) tNil))))) (te := (tTup (tCons (tVar 2) (tCons (tVar 3) tNil)))) (tt1 := tYes) (own := [("y", 2), ("x", 3)]) (vs1 := [3]) (g := gName 2) (g1 := gName 3) (tt := tYes) rfl sc_spots_of.nd (pi_list (pe_call (ok_rows_of T SH) (hr.mono (by decide)) (by rfl) T.rows_of.m T.rows_of.f.kp (bd_rows_of T) .nil passE (pa_cons (pv 0) (pa_cons (pv 1) pa_nil)))) (blkOk_by (own := [("y", 2), ("x", 3)]) (N := ["shape", "block", "y", "x"]) (sc := defScope s_spots_of) (by decide +kernel)) (by decide)
      (fun _ _ _ _ _ => pg_name (i := 2) sc_spots_of.nd rfl (Or.inl rfl)) (fun _ _ _ _ _ => pts_nil) (fun _ _ _ _ _ => pi_list (pe_call (ok_cols_of T SH) (hr.mono (by decide)) (by rfl) T.columns_of.m T.columns_of.f.kp (bd_columns_of T) .nil passE (pa_cons (pv 0) (pa_cons (pv 1) pa_nil)))) (fun _ _ _ _ _ => pg_name (i := 3) sc_spots_of.nd rfl (Or.inl rfl)) (fun _ _ _ _ _ => pts_nil) (fun _ _ _ _ _ => pe_tup (pa_cons (pv 2) (pa_cons (pv 3) pa_nil))))), ?_⟩
    have hb := shp.b
    have rn : rowsN h b ≤ 8 := by
      unfold rowsN
      have := v.s
      omega
    have cn : colsN wn b ≤ 8 := by
      unfold colsN
      have := v.s
      omega
    refine ⟨_, rfl, _, rfl, sh, p, b, h, wn, rfl, shp, hp, v, fun q H1 s1 nq lq => ⟨q, rfl, ⟨_, SqL.of lq⟩, fun D hD => ?_⟩⟩
    refine out_it walk_list (fun i H' => NI dotV H1 D (((List.range i).map fun i => (List.range (colsN wn b)).map fun j => (b.t + i, b.l + j)).flatten) H') (NI.new hD) (fun _ H' _ q' => SqL.of (q'.s _ _ lq)) ?_ ?_
    · rintro i x H3 H2 hi n ⟨rfl, hx⟩
      rw [rgN_len] at hi
      rw [rgN_at hi] at hx
      cases hx
      have s13 := s1.trans n.s
      refine ⟨rfl, ?_⟩
      dsimp only [tYes]
      rw [if_pos rfl]
      refine ⟨_, rfl, _, rfl, sh, p, b, h, wn, rfl, shp.keep s13, s13 _ _ hp, v, fun q2 H4 s4 nq2 lq2 => ⟨q2, rfl, ⟨_, SqL.of lq2⟩, ?_⟩⟩
      have nD : q2 ≠ D := fun z => by
        obtain ⟨ws, e, _⟩ := n
        rw [z, e] at nq2
        cases nq2
      rw [flat_snoc]
      have al := flat_le (f := fun i => (List.range (colsN wn b)).map fun j => (b.t + i, b.l + j)) (m := 8) (fun i => by simpa using cn) i
      generalize ((List.range i).map fun i => (List.range (colsN wn b)).map fun j => (b.t + i, b.l + j)).flatten = A at n al ⊢
      refine inn_it walk_list (g := gName 3) (tt := tYes) (te := tTup (tCons (tVar 2) (tCons (tVar 3) tNil))) (vs := [3]) (fun j H' => NI dotV H1 D (A ++ (List.range j).map fun j => (b.t + i, b.l + j)) H' ∧ H' q2 = some (.lst (rgN b.l (colsN wn b)))) ⟨by simpa using n.same s4, lq2⟩ (fun _ H' _ q' => SqL.of q'.2) ?_ ?_
      · rintro j y H6 H5 hj ⟨n5, l5⟩ ⟨rfl, hy⟩
        rw [rgN_len] at hj
        rw [rgN_at hj] at hy
        cases hy
        refine ⟨rfl, ?_⟩
        dsimp only [tYes]
        rw [if_pos rfl]
        refine ⟨_, rfl, _, rfl, (by show 2 ≤ sizeLine; decide), fun z hz => ?_⟩
        have tz := Same.new (o := .tup [V.int (((b.t + i : Nat)) : Int), .int (((b.l + j : Nat)) : Int)]) hz
        obtain ⟨acc, e1, e2, e3⟩ := (n5.same tz).push (a := (b.t + i, b.l + j)) hD (by rw [List.length_append, List.length_map, List.length_range]; omega) ⟨z, rfl, upd_same⟩
        refine ⟨acc, e1, e2, ?_, by rw [upd_ne nD]; exact tz _ _ l5⟩
        rw [List.range_succ, List.map_append, ← List.append_assoc]
        exact e3
      · rintro H5 ⟨n5, _⟩
        rw [rgN_len] at n5
        exact n5
    · rintro H2 ⟨ws, e, r, s2⟩
      rw [rgN_len] at r
      exact k D ws H2 (s1.trans s2) (s1.free hD) e r
theorem filt_one {α : Type} (p : α → Bool) (a : α) : [a].filter p = if p a = true then [a] else [] := by
  cases h : p a <;> simp [h]
end
end K05
namespace K05
open PySem PySem.Spec PyProof.Rows L2 PySem.W LamX KA KW KU KL KT
theorem parts_len {h w : Nat} {b : Bk} : (partsL h w b).length ≤ 4 := by
  unfold partsL
  split
  · simp
  · exact List.length_filter_le _ (fourL b)
theorem roots_len {h w : Nat} (hh : h ≤ 16) (hw : w ≤ 16) : (rootsL h w).length ≤ 4 := by
  unfold rootsL
  refine Nat.le_trans (flat_le (m := 2) (fun i => by simp; omega) ((h + 7) / 8)) ?_
  have : (h + 7) / 8 ≤ 2 := by omega
  omega
end K05
namespace K05
open PySem PySem.Spec PyProof.Rows L2 PySem.W LamX KA KW KU KL KT
open Evl (pss_cut tCut)
/-! ### places -/
def bkD (b : Bk) : PyData := .tuple [.int (b.t : Int), .int (b.l : Int), .int (b.s : Int)]
theorem eqv_bk (a b : Bk) : PyData.eqv (bkD a) (bkD b) = decide (a = b) := by
  show PyData.eqvAll [.int (a.t : Int), .int (a.l : Int), .int (a.s : Int)] [.int (b.t : Int), .int (b.l : Int), .int (b.s : Int)] = _
  show (((a.t : Int) == (b.t : Int)) && (((a.l : Int) == (b.l : Int)) && (((a.s : Int) == (b.s : Int)) && true))) = _
  obtain ⟨t, l, s⟩ := a
  obtain ⟨t', l', s'⟩ := b
  rw [Bool.and_true, Bool.beq_eq_decide_eq, Bool.beq_eq_decide_eq, Bool.beq_eq_decide_eq, ← Bool.decide_and, ← Bool.decide_and]
  refine decide_eq_decide.mpr ⟨fun z => ?_, fun z => ?_⟩
  · dsimp only at z
    congr 1 <;> omega
  · cases z
    exact ⟨rfl, rfl, rfl⟩
theorem dp_bk {K : PySem.W.Frag} {H : Hp} {p : Addr} {b : Bk} (e : H p = some (.tup (bkV b))) : Dp K H (.ref p) (bkD b) := .tup (SqT.of e) (.cons (.int _) (.cons (.int _) (.cons (.int _) .nil)))
theorem dp_bks {K : PySem.W.Frag} {H : Hp} : ∀ {us : List V} {bs : List Bk}, RL bkV H us bs → DpAll K H us (bs.map bkD)
  | [], [], _ => .nil
  | [], _ :: _, r => by cases r.1
  | _ :: _, [], r => by cases r.1
  | u :: us, b :: bs, r => by
    obtain ⟨p, a, e1, e2, e3⟩ := r.get (i := 0) (v := u) rfl
    have : b = a := Option.some.inj e2
    subst this e1
    refine .cons (dp_bk e3) (dp_bks ⟨by simpa using r.1, fun j v e => ?_⟩)
    exact r.2 (j + 1) v (by simpa using e)
theorem bk_lay (b : Bk) : (bkD b).canLay0 = true ∧ (bkD b).depth ≤ 2 := by
  refine ⟨by simp [bkD, PyData.canLay0, PyData.canLayAll0], by simp [bkD, PyData.depth, PyData.depthAll]⟩
theorem bks_lay (bs : List Bk) : SeqAt.shaped (.list (bs.map bkD)) = true := by
  have all : ∀ bs : List Bk, PyData.canLayAll0 (bs.map bkD) = true ∧ PyData.depthAll (bs.map bkD) ≤ 2 := fun bs => by
    induction bs with
    | nil => exact ⟨rfl, Nat.zero_le _⟩
    | cons b bs ih =>
      obtain ⟨a, c⟩ := bk_lay b
      refine ⟨by simp [PyData.canLayAll0, a, ih.1], ?_⟩
      simp only [List.map_cons, PyData.depthAll]
      omega
  obtain ⟨h1, h2⟩ := all bs
  simp [SeqAt.shaped, PyData.canLay0, PyData.depth, h1]
  omega
theorem bk_shaped (b : Bk) : SeqAt.shaped (bkD b) = true := by
  obtain ⟨a, c⟩ := bk_lay b
  simp [SeqAt.shaped, a]
  omega
theorem hu65 {k : Nat} {A : Around} (r : Room k A) : A.units + 65 < cLine := by have := r.un; omega
def sizesL (t l : Nat) : List Nat := [8, 4, 2].filter fun s => decide (t % s = 0) && decide (l % s = 0)
def spMany (C : Addr) : Sp := fun vs H Q _ => ∃ (sh : V) (p : Addr) (b : Bk) (h w : Nat), vs = [sh, .ref p] ∧ Shp C H sh h w ∧ H p = some (.tup (bkV b)) ∧ Vb h w b ∧ ∀ H', Same H H' → Q (.int (manyC h w b : Nat)) H'
def spPlaceEnd (C : Addr) : Sp := fun vs H Q _ => ∃ (sh : V) (p : Addr) (b : Bk) (h w : Nat), vs = [sh, .ref p] ∧ Shp C H sh h w ∧ H p = some (.tup (bkV b)) ∧ Vb h w b ∧ ∀ q H', Same H H' → H' q = some (.tup [.int (placeB h w b : Nat), .int ((placeB h w b + manyC h w b : Nat) : Int)]) → Q (.ref q) H'
def spSizesAt : Sp := fun vs H Q _ => ∃ t l : Nat, vs = [.int (t : Int), .int (l : Int)] ∧ ∀ q H', Same H H' → H' q = some (.lst ((sizesL t l).map fun s => V.int ((s : Nat) : Int))) → Q (.ref q) H'
section
variable {P : Program} {w : World} {K : PySem.W.Frag} {mg : Str → Option Value} {base : Heap} (T : Top K mg) (SH : ShapeT K mg) (Z : SzT K mg)
include Z in
theorem ok_check_block : FnOk P w K mg base (L2.CX P w) 5 T.check_block.a T.check_block.d ["shape", "block"] (spChkBlk K SH.C T.BadBlock.C) := by
  refine T.check_block.f.okX sc_check_block (fun vs H Q E h => ?_) (fun cdv A outer s H vs Q E hr h => ?_)
  · obtain ⟨sh, x, o, h, w, rfl, _⟩ := h
    rfl
  · obtain ⟨sh, x, o, h, wn, rfl, shp, hx, k1, k2⟩ := h
    refine ⟨_, pss_one (ps_if (pt_not (pt_val (pe_call (ok_is_block_of T SH Z) (hr.mono (by decide)) (by rfl) T.is_block_of.m T.is_block_of.f.kp (bd_is_block_of T) .nil passE (pa_cons (pv 0) (pa_cons (pv 1) pa_nil))))) (pss_one (ps_raiseT rfl rfl T.BadBlock (by rfl) rfl (takes_of rfl rfl rfl rfl))) pss_nil), ?_⟩
    refine ⟨_, rfl, _, rfl, sh, x, o, h, wn, rfl, shp, hx, _, rfl, ?_⟩
    cases e : blkB h wn o
    · exact iteT (k2 e)
    · exact iteF (k1 e)
end
end K05
namespace K05
open PySem PySem.Spec PyProof.Rows L2 PySem.W LamX KA KW KU KL KT
open Evl (pss_cut tCut)
/-! ### samples that are read; the edges of a block -/
def gAt (nss : List (List Int)) (y x : Nat) : Int := (nss.getD y []).getD x 0
theorem Pn.read {H : Hp} {a : Addr} {nss : List (List Int)} {w : Nat} (p : Pn H a nss w) {y x : Nat} (hy : y < nss.length) (hx : x < w) : ∃ (vs : List V) (b : Addr) (ns : List Int), H a = some (.tup vs) ∧ vs[y]? = some (.ref b) ∧ H b = some (.tup (ns.map V.int)) ∧ (ns.map V.int)[x]? = some (.int (gAt nss y x)) := by
  obtain ⟨vs, e, l, q⟩ := p.at'
  obtain ⟨v0, hv0⟩ : ∃ v0, vs[y]? = some v0 := ⟨_, List.getElem?_eq_getElem (by omega)⟩
  obtain ⟨b, ns, rfl, hn, hb⟩ := q y v0 hv0
  have lw := p.ws ns (List.mem_of_getElem? hn)
  refine ⟨vs, b, ns, e, hv0, hb, ?_⟩
  have e1 : nss.getD y [] = ns := by
    rw [List.getD_eq_getElem?_getD, hn]
    rfl
  unfold gAt
  rw [e1, List.getElem?_map, List.getD_eq_getElem?_getD, List.getElem?_eq_getElem (by omega)]
  rfl
def leftE (h : Nat) (b : Bk) : List (Nat × Nat) := if 0 < b.l then (List.range (rowsN h b)).map fun i => (b.t + i, b.l - 1) else []
def upE (w : Nat) (b : Bk) : List (Nat × Nat) := if 0 < b.t then (List.range (colsN w b)).map fun j => (b.t - 1, b.l + j) else []
def spEdge (C : Addr) (f : Nat → Nat → Bk → List (Nat × Nat)) : Sp := fun vs H Q _ => ∃ (sh : V) (p : Addr) (b : Bk) (h w : Nat), vs = [sh, .ref p] ∧ Shp C H sh h w ∧ H p = some (.tup (bkV b)) ∧ Vb h w b ∧ ∀ q us H', Same H H' → H q = none → H' q = some (.lst us) → RL dotV H' us (f h w b) → Q (.ref q) H'
theorem range_snoc (n : Nat) : List.range (n + 1) = List.range n ++ [n] := List.range_succ
section
variable {P : Program} {w : World} {K : PySem.W.Frag} {mg : Str → Option Value} {base : Heap} (T : Top K mg) (SH : ShapeT K mg) (BE : BadShapeT P w K mg T.reel.C) (Z : SzT K mg)
theorem ok_left_edge : FnOk P w K mg base (L2.CX P w) 2 T.left_edge.a T.left_edge.d ["shape", "block"] (spEdge SH.C (fun h _ b => leftE h b)) := by
  refine T.left_edge.f.okX sc_left_edge (fun vs H Q E h => ?_) (fun cdv A outer s H vs Q E hr h => ?_)
  · obtain ⟨sh, p, b, h, w, rfl, _⟩ := h
    rfl
  · obtain ⟨sh, p, b, h, wn, rfl, shp, hp, v, k⟩ := h
    refine ⟨_, pss_one (ps_ret (pe_lc (own := [("y", 2)]) (g := gName 2) rfl sc_left_edge.nd (pi_list (pe_call (ok_rows_of T SH) (hr.mono (by decide)) (by rfl) T.rows_of.m T.rows_of.f.kp (bd_rows_of T) .nil passE (pa_cons (pv 0) (pa_cons (pv 1) pa_nil)))) (blkOk_by (own := [("y", 2)]) (N := ["shape", "block", "y"]) (sc := defScope s_left_edge) (by decide +kernel))
        (fun _ _ _ _ _ => pg_name (i := 2) sc_left_edge.nd rfl (Or.inl rfl)) (fun _ _ _ _ _ => pts_one (pt_cmpR op_gt (pe_ix (show IxR _ (rIxT K) from ix_tup) (pv 1) pe_int (fun _ _ => rfl)) pe_int (nomark _))) (fun _ _ _ _ _ => (pe_tup (pa_cons (pv 2) (pa_cons (pe_op (show OpR _ _ (rI0 fun i j => .int (i - j)) from op_sub) (pe_ix (show IxR _ (rIxT K) from ix_tup) (pv 1) pe_int (fun _ _ => rfl)) pe_int) pa_nil)))))), ?_⟩
    have vs := v.s
    have hb := shp.b
    have lt := v.lt
    have ll := v.ll
    have rn : rowsN h b ≤ 8 := by unfold rowsN ; omega
    refine ⟨_, rfl, _, rfl, sh, p, b, h, wn, rfl, shp, hp, v, fun q Ha sa nq eq => ⟨q, rfl, ⟨_, SqL.of eq⟩, fun D hD => lc_it walk_list (fun i H' => NI dotV Ha D (if 0 < b.l then (List.range i).map fun i => (b.t + i, b.l - 1) else []) H') (by
        have e : (if 0 < b.l then (List.range 0).map fun i => (b.t + i, b.l - 1) else []) = ([] : List (Nat × Nat)) := by split <;> rfl
        rw [e]
        exact NI.new hD) (fun _ H' _ q' => SqL.of (q'.s _ _ eq)) ?_ ?_⟩⟩
    · rintro i x Hq Hr hi n ⟨rfl, hx⟩
      have hi : i < rowsN h b := by rw [rgN_len] at hi; exact hi
      rw [rgN_at hi] at hx
      cases hx
      refine ⟨rfl, ?_⟩
      have hp1 := n.s _ _ (sa _ _ hp)
      refine ⟨_, rfl, p, _, 1, _, rfl, rfl, SqT.of hp1, atI_nat (j := 1) rfl, _, _, rfl, rfl, _, rfl, ?_⟩
      by_cases c : 0 < b.l
      · rw [decide_eq_true (show (0 : Int) < (b.l : Int) by omega)]
        refine iteT ?_
        rw [if_pos c] at n ⊢
        refine ⟨_, rfl, _, rfl, p, _, 1, _, rfl, rfl, SqT.of hp1, atI_nat (j := 1) rfl, _, _, rfl, rfl, (by show 2 ≤ sizeLine; decide), fun z hz => ?_⟩
        have tz := Same.new (o := .tup [V.int ((b.t + i : Nat) : Int), .int ((b.l : Int) - 1)]) hz
        have n2 := n.same tz
        obtain ⟨acc, f1, f2, f3⟩ := n2.push (v := .ref z) (a := (b.t + i, b.l - 1)) hD (by rw [List.length_map, List.length_range]; omega) ⟨z, rfl, by
          rw [upd_same]
          unfold dotV
          dsimp only
          rw [show ((b.l - 1 : Nat) : Int) = (b.l : Int) - 1 by omega]⟩
        refine ⟨acc, f1, f2, ?_⟩
        rw [range_snoc, List.map_append]
        exact f3
      · rw [decide_eq_false (show ¬ (0 : Int) < (b.l : Int) by omega)]
        rw [if_neg c] at n ⊢
        exact iteF n
    rintro H2 ⟨ws, ews, rws, s2⟩
    rw [rgN_len] at rws
    exact k D ws H2 (sa.trans s2) (sa.free hD) ews rws
theorem ok_upper_edge : FnOk P w K mg base (L2.CX P w) 2 T.upper_edge.a T.upper_edge.d ["shape", "block"] (spEdge SH.C (fun _ w b => upE w b)) := by
  refine T.upper_edge.f.okX sc_upper_edge (fun vs H Q E h => ?_) (fun cdv A outer s H vs Q E hr h => ?_)
  · obtain ⟨sh, p, b, h, w, rfl, _⟩ := h
    rfl
  · obtain ⟨sh, p, b, h, wn, rfl, shp, hp, v, k⟩ := h
    refine ⟨_, pss_one (ps_ret (pe_lc (own := [("x", 2)]) (g := gName 2) rfl sc_upper_edge.nd (pi_list (pe_call (ok_cols_of T SH) (hr.mono (by decide)) (by rfl) T.columns_of.m T.columns_of.f.kp (bd_columns_of T) .nil passE (pa_cons (pv 0) (pa_cons (pv 1) pa_nil)))) (blkOk_by (own := [("x", 2)]) (N := ["shape", "block", "x"]) (sc := defScope s_upper_edge) (by decide +kernel))
        (fun _ _ _ _ _ => pg_name (i := 2) sc_upper_edge.nd rfl (Or.inl rfl)) (fun _ _ _ _ _ => pts_one (pt_cmpR op_gt (pe_ix (show IxR _ (rIxT K) from ix_tup) (pv 1) pe_int (fun _ _ => rfl)) pe_int (nomark _))) (fun _ _ _ _ _ => (pe_tup (pa_cons (pe_op (show OpR _ _ (rI0 fun i j => .int (i - j)) from op_sub) (pe_ix (show IxR _ (rIxT K) from ix_tup) (pv 1) pe_int (fun _ _ => rfl)) pe_int) (pa_cons (pv 2) pa_nil)))))), ?_⟩
    have vs := v.s
    have hb := shp.b
    have lt := v.lt
    have ll := v.ll
    have rn : colsN wn b ≤ 8 := by unfold colsN ; omega
    refine ⟨_, rfl, _, rfl, sh, p, b, h, wn, rfl, shp, hp, v, fun q Ha sa nq eq => ⟨q, rfl, ⟨_, SqL.of eq⟩, fun D hD => lc_it walk_list (fun i H' => NI dotV Ha D (if 0 < b.t then (List.range i).map fun i => (b.t - 1, b.l + i) else []) H') (by
        have e : (if 0 < b.t then (List.range 0).map fun i => (b.t - 1, b.l + i) else []) = ([] : List (Nat × Nat)) := by split <;> rfl
        rw [e]
        exact NI.new hD) (fun _ H' _ q' => SqL.of (q'.s _ _ eq)) ?_ ?_⟩⟩
    · rintro i x Hq Hr hi n ⟨rfl, hx⟩
      have hi : i < colsN wn b := by rw [rgN_len] at hi; exact hi
      rw [rgN_at hi] at hx
      cases hx
      refine ⟨rfl, ?_⟩
      have hp1 := n.s _ _ (sa _ _ hp)
      refine ⟨_, rfl, p, _, 0, _, rfl, rfl, SqT.of hp1, atI_nat (j := 0) rfl, _, _, rfl, rfl, _, rfl, ?_⟩
      by_cases c : 0 < b.t
      · rw [decide_eq_true (show (0 : Int) < (b.t : Int) by omega)]
        refine iteT ?_
        rw [if_pos c] at n ⊢
        refine ⟨_, rfl, p, _, 0, _, rfl, rfl, SqT.of hp1, atI_nat (j := 0) rfl, _, _, rfl, rfl, _, rfl, (by show 2 ≤ sizeLine; decide), fun z hz => ?_⟩
        have tz := Same.new (o := .tup [V.int ((b.t : Int) - 1), .int ((b.l + i : Nat) : Int)]) hz
        have n2 := n.same tz
        obtain ⟨acc, f1, f2, f3⟩ := n2.push (v := .ref z) (a := (b.t - 1, b.l + i)) hD (by rw [List.length_map, List.length_range]; omega) ⟨z, rfl, by
          rw [upd_same]
          unfold dotV
          dsimp only
          rw [show ((b.t - 1 : Nat) : Int) = (b.t : Int) - 1 by omega]⟩
        refine ⟨acc, f1, f2, ?_⟩
        rw [range_snoc, List.map_append]
        exact f3
      · rw [decide_eq_false (show ¬ (0 : Int) < (b.t : Int) by omega)]
        rw [if_neg c] at n ⊢
        exact iteF n
    rintro H2 ⟨ws, ews, rws, s2⟩
    rw [rgN_len] at rws
    exact k D ws H2 (sa.trans s2) (sa.free hD) ews rws
end
end K05
namespace K05
open PySem PySem.Spec PyProof.Rows L2 PySem.W LamX KA KW KU KL KT
open Evl (pss_cut tCut)
/-! ### the modes that can stand -/
def modesW (b : Bk) : List V := [V.str "flat"] ++ (if 0 < b.l then [V.str "left"] else []) ++ (if 0 < b.t then [V.str "up"] else []) ++ (if 0 < b.l ∧ 0 < b.t then [V.str "middle"] else []) ++ (if 0 < b.l ∨ 0 < b.t then [V.str "mean"] else [])
def modesS (b : Bk) (k : Nat) : List V := modesW b ++ (if 0 < k then [V.str "copy"] else []) ++ (if 1 < k then [V.str "both"] else []) ++ (if 0 < k then [V.str "still"] else [])
theorem modesW_len (b : Bk) : (modesW b).length ≤ 5 := by
  unfold modesW
  simp only [List.length_append, List.length_singleton]
  have h1 : ∀ (c : Prop) [Decidable c] (x : V), (if c then [x] else []).length ≤ 1 := fun c _ x => by split <;> simp
  have a1 := h1 (0 < b.l) (V.str "left")
  have a2 := h1 (0 < b.t) (V.str "up")
  have a3 := h1 (0 < b.l ∧ 0 < b.t) (V.str "middle")
  have a4 := h1 (0 < b.l ∨ 0 < b.t) (V.str "mean")
  omega
theorem putN {H H' : Hp} {D : Addr} {o : HO} (s : Same H H') (h : H D = none) : Same H (upd H' D o) := K05.Same.put s h
def spModesW : Sp := fun vs H Q _ => ∃ (p : Addr) (b : Bk), vs = [.ref p] ∧ H p = some (.tup (bkV b)) ∧ ∀ q H', Same H H' → H q = none → H' q = some (.lst (modesW b)) → Q (.ref q) H'
def spModesS : Sp := fun vs H Q _ => ∃ (p : Addr) (b : Bk) (n : Nat), vs = [.ref p, .int (n : Int)] ∧ H p = some (.tup (bkV b)) ∧ ∀ q H', Same H H' → H q = none → H' q = some (.lst (modesS b n)) → Q (.ref q) H'
section
variable {P : Program} {w : World} {K : PySem.W.Frag} {mg : Str → Option Value} {base : Heap} (T : Top K mg) (SH : ShapeT K mg) (BE : BadShapeT P w K mg T.reel.C) (Z : SzT K mg)
theorem ok_modes_within : FnOk P w K mg base (L2.CX P w) 1 T.modes_within.a T.modes_within.d ["block"] spModesW := by
  refine T.modes_within.f.okX sc_modes_within (fun vs H Q E h => ?_) (fun cdv A outer s H vs Q E hr h => ?_)
  · obtain ⟨p, b, rfl, _⟩ := h
    rfl
  · obtain ⟨p, b, rfl, hp, k⟩ := h
    refine ⟨_, (pss_cons (ps_asg (pv 0) (pg_tup rfl (pgs_cons (pg_name (i := 1) sc_modes_within.nd rfl (by first | exact .inl rfl | exact .inr rfl)) (pgs_cons (pg_name (i := 2) sc_modes_within.nd rfl (by first | exact .inl rfl | exact .inr rfl)) (pgs_cons (pg_name (i := 3) sc_modes_within.nd rfl (by first | exact .inl rfl | exact .inr rfl)) pgs_nil)))))
      (pss_cons (ps_set (i := 4) sc_modes_within.nd rfl (.inl rfl) (pe_lst (pa_cons pe_str pa_nil)))
      (pss_cut (ps_if (pt_cmpR op_gt (pv 2) pe_int (nomark _)) (pss_one (ps_expr (pe_bm PySem.F.plainAttrs_list PySem.F.slot_list_append PySem.F.type_list_append mt_append (pv 4) (pa_cons pe_str pa_nil)))) pss_nil)
      (pss_cut (ps_if (pt_cmpR op_gt (pv 1) pe_int (nomark _)) (pss_one (ps_expr (pe_bm PySem.F.plainAttrs_list PySem.F.slot_list_append PySem.F.type_list_append mt_append (pv 4) (pa_cons pe_str pa_nil)))) pss_nil)
      (pss_cut (ps_if (PW.pt (pw_and (pt_cmpR op_gt (pv 2) pe_int (nomark _)) (pw_and1 (pt_cmpR op_gt (pv 1) pe_int (nomark _))))) (pss_one (ps_expr (pe_bm PySem.F.plainAttrs_list PySem.F.slot_list_append PySem.F.type_list_append mt_append (pv 4) (pa_cons pe_str pa_nil)))) pss_nil)
      (pss_cut (ps_if (PW.pt (pw_or (pt_cmpR op_gt (pv 2) pe_int (nomark _)) (pw_or1 (pt_cmpR op_gt (pv 1) pe_int (nomark _))))) (pss_one (ps_expr (pe_bm PySem.F.plainAttrs_list PySem.F.slot_list_append PySem.F.type_list_append mt_append (pv 4) (pa_cons pe_str pa_nil)))) pss_nil)
      (pss_one (ps_ret (pv 4))))))))), ?_⟩
    refine ⟨_, rfl, p, _, rfl, SqT.of hp, rfl, _, _, rfl, _, _, rfl, _, _, rfl, rfl, (by show 1 ≤ sizeLine; decide), fun D hD => ?_⟩
    have s : Same H (upd H D (.lst [V.str "flat"])) := Same.new hD
    have e : (upd H D (.lst [V.str "flat"])) D = some (.lst [V.str "flat"]) := upd_same
    generalize upd H D (.lst [V.str "flat"]) = H1 at s e ⊢
    clear hr
    refine ⟨fun σ' H' => σ' = [some (.ref p), some (.int (b.t : Int)), some (.int (b.l : Int)), some (.int (b.s : Int)), some (.ref D)] ∧ H' D = some (.lst ([V.str "flat"] ++ (if 0 < b.l then [V.str "left"] else []))) ∧ Same H H', ?_, ?_⟩
    · refine ⟨_, rfl, _, _, rfl, rfl, _, rfl, ?_⟩
      by_cases c : 0 < b.l
      · rw [decide_eq_true (show (0 : Int) < (b.l : Int) by omega)]
        refine iteT ⟨_, rfl, .inl ⟨rfl, _, SqL.of e⟩, D, _, _, rfl, rfl, e, (by have := modesW_len b; unfold modesW at this; simp only [List.length_append] at this ⊢; exact Nat.lt_of_le_of_lt (show _ ≤ 5 by omega) (by decide)), ?_⟩
        exact ⟨rfl, by rw [if_pos c]; exact upd_same, putN s hD⟩
      · rw [decide_eq_false (show ¬ (0 : Int) < (b.l : Int) by omega)]
        exact iteF ⟨rfl, by rw [if_neg c, List.append_nil]; exact e, s⟩
    clear e s
    rintro σ1 H1 ⟨rfl, e, s⟩
    refine ⟨fun σ' H' => σ' = [some (.ref p), some (.int (b.t : Int)), some (.int (b.l : Int)), some (.int (b.s : Int)), some (.ref D)] ∧ H' D = some (.lst ([V.str "flat"] ++ (if 0 < b.l then [V.str "left"] else []) ++ (if 0 < b.t then [V.str "up"] else []))) ∧ Same H H', ?_, ?_⟩
    · refine ⟨_, rfl, _, _, rfl, rfl, _, rfl, ?_⟩
      by_cases c : 0 < b.t
      · rw [decide_eq_true (show (0 : Int) < (b.t : Int) by omega)]
        refine iteT ⟨_, rfl, .inl ⟨rfl, _, SqL.of e⟩, D, _, _, rfl, rfl, e, (by have := modesW_len b; unfold modesW at this; simp only [List.length_append] at this ⊢; exact Nat.lt_of_le_of_lt (show _ ≤ 5 by omega) (by decide)), ?_⟩
        exact ⟨rfl, by rw [if_pos c]; exact upd_same, putN s hD⟩
      · rw [decide_eq_false (show ¬ (0 : Int) < (b.t : Int) by omega)]
        exact iteF ⟨rfl, by rw [if_neg c, List.append_nil]; exact e, s⟩
    clear e s
    rintro σ1 H1 ⟨rfl, e, s⟩
    refine ⟨fun σ' H' => σ' = [some (.ref p), some (.int (b.t : Int)), some (.int (b.l : Int)), some (.int (b.s : Int)), some (.ref D)] ∧ H' D = some (.lst ([V.str "flat"] ++ (if 0 < b.l then [V.str "left"] else []) ++ (if 0 < b.t then [V.str "up"] else []) ++ (if 0 < b.l ∧ 0 < b.t then [V.str "middle"] else []))) ∧ Same H H', ?_, ?_⟩
    · refine ⟨_, rfl, _, _, rfl, rfl, _, rfl, ?_⟩
      by_cases c : 0 < b.l
      · rw [decide_eq_true (show (0 : Int) < (b.l : Int) by omega)]
        refine iteT ⟨_, rfl, _, _, rfl, rfl, _, rfl, ?_⟩
        by_cases c2 : 0 < b.t
        · rw [decide_eq_true (show (0 : Int) < (b.t : Int) by omega)]
          refine iteT ⟨_, rfl, .inl ⟨rfl, _, SqL.of e⟩, D, _, _, rfl, rfl, e, (by have := modesW_len b; unfold modesW at this; simp only [List.length_append] at this ⊢; exact Nat.lt_of_le_of_lt (show _ ≤ 5 by omega) (by decide)), ?_⟩
          exact ⟨rfl, by rw [if_pos (show 0 < b.l ∧ 0 < b.t from ⟨c, c2⟩)]; exact upd_same, putN s hD⟩
        · rw [decide_eq_false (show ¬ (0 : Int) < (b.t : Int) by omega)]
          refine iteF ?_
          exact ⟨rfl, by rw [if_neg (show ¬ (0 < b.l ∧ 0 < b.t) from fun z => c2 z.2), List.append_nil]; exact e, s⟩
      · rw [decide_eq_false (show ¬ (0 : Int) < (b.l : Int) by omega)]
        refine iteF (iteF ?_)
        exact ⟨rfl, by rw [if_neg (show ¬ (0 < b.l ∧ 0 < b.t) from fun z => c z.1), List.append_nil]; exact e, s⟩
    clear e s
    rintro σ1 H1 ⟨rfl, e, s⟩
    refine ⟨fun σ' H' => σ' = [some (.ref p), some (.int (b.t : Int)), some (.int (b.l : Int)), some (.int (b.s : Int)), some (.ref D)] ∧ H' D = some (.lst ([V.str "flat"] ++ (if 0 < b.l then [V.str "left"] else []) ++ (if 0 < b.t then [V.str "up"] else []) ++ (if 0 < b.l ∧ 0 < b.t then [V.str "middle"] else []) ++ (if 0 < b.l ∨ 0 < b.t then [V.str "mean"] else []))) ∧ Same H H', ?_, ?_⟩
    · refine ⟨_, rfl, _, _, rfl, rfl, _, rfl, ?_⟩
      by_cases c : 0 < b.l
      · rw [decide_eq_true (show (0 : Int) < (b.l : Int) by omega)]
        refine iteT <| iteT ⟨_, rfl, .inl ⟨rfl, _, SqL.of e⟩, D, _, _, rfl, rfl, e, (by have := modesW_len b; unfold modesW at this; simp only [List.length_append] at this ⊢; exact Nat.lt_of_le_of_lt (show _ ≤ 5 by omega) (by decide)), ?_⟩
        exact ⟨rfl, by rw [if_pos (show 0 < b.l ∨ 0 < b.t from .inl c)]; exact upd_same, putN s hD⟩
      · rw [decide_eq_false (show ¬ (0 : Int) < (b.l : Int) by omega)]
        refine iteF ⟨_, rfl, _, _, rfl, rfl, _, rfl, ?_⟩
        by_cases c2 : 0 < b.t
        · rw [decide_eq_true (show (0 : Int) < (b.t : Int) by omega)]
          refine iteT ⟨_, rfl, .inl ⟨rfl, _, SqL.of e⟩, D, _, _, rfl, rfl, e, (by have := modesW_len b; unfold modesW at this; simp only [List.length_append] at this ⊢; exact Nat.lt_of_le_of_lt (show _ ≤ 5 by omega) (by decide)), ?_⟩
          exact ⟨rfl, by rw [if_pos (show 0 < b.l ∨ 0 < b.t from .inr c2)]; exact upd_same, putN s hD⟩
        · rw [decide_eq_false (show ¬ (0 : Int) < (b.t : Int) by omega)]
          refine iteF ?_
          exact ⟨rfl, by rw [if_neg (show ¬ (0 < b.l ∨ 0 < b.t) from fun z => z.elim c c2), List.append_nil]; exact e, s⟩
    clear e s
    rintro σ1 H1 ⟨rfl, e, s⟩
    exact ⟨_, rfl, k D _ s hD e⟩
theorem ok_modes_standing : FnOk P w K mg base (L2.CX P w) 2 T.modes_standing.a T.modes_standing.d ["block", "kind"] spModesS := by
  refine T.modes_standing.f.okX sc_modes_standing (fun vs H Q E h => ?_) (fun cdv A outer s H vs Q E hr h => ?_)
  · obtain ⟨p, b, n, rfl, _⟩ := h
    rfl
  · obtain ⟨p, b, n, rfl, hp, k⟩ := h
    refine ⟨_, (pss_cons (ps_set (i := 2) sc_modes_standing.nd rfl (.inl rfl) (pe_call (ok_modes_within T) (hr.mono (by decide)) (by rfl) T.modes_within.m T.modes_within.f.kp (bd_modes_within T) .nil passE (pa_cons (pv 0) pa_nil)))
      (pss_cut (ps_if (pt_cmpR op_gt (pv 1) pe_int (nomark _)) (pss_one (ps_expr (pe_bm PySem.F.plainAttrs_list PySem.F.slot_list_append PySem.F.type_list_append mt_append (pv 2) (pa_cons pe_str pa_nil)))) pss_nil)
      (pss_cut (ps_if (pt_cmpR op_gt (pv 1) pe_int (nomark _)) (pss_one (ps_expr (pe_bm PySem.F.plainAttrs_list PySem.F.slot_list_append PySem.F.type_list_append mt_append (pv 2) (pa_cons pe_str pa_nil)))) pss_nil)
      (pss_cut (ps_if (pt_cmpR op_gt (pv 1) pe_int (nomark _)) (pss_one (ps_expr (pe_bm PySem.F.plainAttrs_list PySem.F.slot_list_append PySem.F.type_list_append mt_append (pv 2) (pa_cons pe_str pa_nil)))) pss_nil)
      (pss_one (ps_ret (pv 2))))))), ?_⟩
    have l5 := modesW_len b
    have h1 : ∀ (c : Prop) [Decidable c] (x : V), (if c then [x] else []).length ≤ 1 := fun c _ x => by split <;> simp
    refine ⟨_, rfl, p, b, rfl, hp, fun D H1 s hD e => ?_⟩
    refine ⟨fun σ' H' => σ' = [some (.ref p), some (.int (n : Int)), some (.ref D)] ∧ H' D = some (.lst (modesW b ++ (if 0 < n then [V.str "copy"] else []))) ∧ Same H H', ?_, ?_⟩
    · refine ⟨_, rfl, _, _, rfl, rfl, _, rfl, ?_⟩
      by_cases c : 0 < n
      · rw [decide_eq_true (show (0 : Int) < (n : Int) by omega)]
        refine iteT ⟨_, rfl, .inl ⟨rfl, _, SqL.of e⟩, D, _, _, rfl, rfl, e, (by (try simp only [List.length_append]); have q1 := h1 (0 < n) (V.str "copy"); have q2 := h1 (1 < n) (V.str "both"); exact Nat.lt_of_le_of_lt (show _ ≤ 7 by omega) (by decide)), ?_⟩
        exact ⟨rfl, by rw [show (if 0 < n then [V.str "copy"] else []) = [V.str "copy"] from if_pos c]; exact upd_same, putN s hD⟩
      · rw [decide_eq_false (show ¬ (0 : Int) < (n : Int) by omega)]
        exact iteF ⟨rfl, by rw [show (if 0 < n then [V.str "copy"] else []) = [] from if_neg c, List.append_nil]; exact e, s⟩
    clear e s
    rintro σ1 H1 ⟨rfl, e, s⟩
    refine ⟨fun σ' H' => σ' = [some (.ref p), some (.int (n : Int)), some (.ref D)] ∧ H' D = some (.lst (modesW b ++ (if 0 < n then [V.str "copy"] else []) ++ (if 1 < n then [V.str "both"] else []))) ∧ Same H H', ?_, ?_⟩
    · refine ⟨_, rfl, _, _, rfl, rfl, _, rfl, ?_⟩
      by_cases c : 1 < n
      · rw [decide_eq_true (show (1 : Int) < (n : Int) by omega)]
        refine iteT ⟨_, rfl, .inl ⟨rfl, _, SqL.of e⟩, D, _, _, rfl, rfl, e, (by (try simp only [List.length_append]); have q1 := h1 (0 < n) (V.str "copy"); have q2 := h1 (1 < n) (V.str "both"); exact Nat.lt_of_le_of_lt (show _ ≤ 7 by omega) (by decide)), ?_⟩
        exact ⟨rfl, by rw [show (if 1 < n then [V.str "both"] else []) = [V.str "both"] from if_pos c]; exact upd_same, putN s hD⟩
      · rw [decide_eq_false (show ¬ (1 : Int) < (n : Int) by omega)]
        exact iteF ⟨rfl, by rw [show (if 1 < n then [V.str "both"] else []) = [] from if_neg c, List.append_nil]; exact e, s⟩
    clear e s
    rintro σ1 H1 ⟨rfl, e, s⟩
    refine ⟨fun σ' H' => σ' = [some (.ref p), some (.int (n : Int)), some (.ref D)] ∧ H' D = some (.lst (modesW b ++ (if 0 < n then [V.str "copy"] else []) ++ (if 1 < n then [V.str "both"] else []) ++ (if 0 < n then [V.str "still"] else []))) ∧ Same H H', ?_, ?_⟩
    · refine ⟨_, rfl, _, _, rfl, rfl, _, rfl, ?_⟩
      by_cases c : 0 < n
      · rw [decide_eq_true (show (0 : Int) < (n : Int) by omega)]
        refine iteT ⟨_, rfl, .inl ⟨rfl, _, SqL.of e⟩, D, _, _, rfl, rfl, e, (by (try simp only [List.length_append]); have q1 := h1 (0 < n) (V.str "copy"); have q2 := h1 (1 < n) (V.str "both"); exact Nat.lt_of_le_of_lt (show _ ≤ 7 by omega) (by decide)), ?_⟩
        exact ⟨rfl, by rw [show (if 0 < n then [V.str "still"] else []) = [V.str "still"] from if_pos c]; exact upd_same, putN s hD⟩
      · rw [decide_eq_false (show ¬ (0 : Int) < (n : Int) by omega)]
        exact iteF ⟨rfl, by rw [show (if 0 < n then [V.str "still"] else []) = [] from if_neg c, List.append_nil]; exact e, s⟩
    clear e s
    rintro σ1 H1 ⟨rfl, e, s⟩
    exact ⟨_, rfl, k D _ s hD e⟩
end
end K05
namespace K05
open PySem PySem.Spec PyProof.Rows L2 PySem.W LamX KA KW KU KL KT
open Evl (pss_cut tCut)
/-! ### the guesses -/
/-- the modes within -/
inductive Md where
  | flat | left | up | middle | mean
  deriving DecidableEq
def Md.s : Md → Str
  | .flat => "flat"
  | .left => "left"
  | .up => "up"
  | .middle => "middle"
  | .mean => "mean"
def Md.ok (b : Bk) : Md → Prop
  | .flat => True
  | .left => 0 < b.l
  | .up => 0 < b.t
  | .middle => 0 < b.l ∧ 0 < b.t
  | .mean => 0 < b.l ∨ 0 < b.t
def med3 (a b c : Int) : Int := max (min a b) (min (max a b) c)
theorem med3_of {ns : List Int} {a b c : Int} (p : ns.Perm [a, b, c]) (s : ns.Pairwise (· ≤ ·)) : ns[1]? = some (med3 a b c) := by
  have go : ∀ {x y z : Int}, ns = [x, y, z] → (y = med3 a b c) → ns[1]? = some (med3 a b c) := fun e1 e2 => by
    rw [e1, e2]
    rfl
  have le : ∀ {x y z : Int}, ns = [x, y, z] → x ≤ y ∧ y ≤ z := fun e => by
    rw [e] at s
    simp at s
    omega
  rcases PyProof.Rows.ksk_perm3 p with e | e | e | e | e | e
  all_goals
    obtain ⟨h1, h2⟩ := le e
    refine go e ?_
    unfold med3
    omega
def edgesU (h w : Nat) (b : Bk) : List (Nat × Nat) := upE w b ++ leftE h b
def guessM (m : Md) (h w : Nat) (mid : Int) (b : Bk) (nss : List (List Int)) : List Int := match m with
  | .flat => List.replicate (dotsB h w b).length mid
  | .left => (dotsB h w b).map fun d => gAt nss d.1 (b.l - 1)
  | .up => (dotsB h w b).map fun d => gAt nss (b.t - 1) d.2
  | .middle => (dotsB h w b).map fun d => med3 (gAt nss d.1 (b.l - 1)) (gAt nss (b.t - 1) d.2) (gAt nss (b.t - 1) (b.l - 1))
  | .mean => List.replicate (dotsB h w b).length (((edgesU h w b).map fun d => gAt nss d.1 d.2).sum / ((edgesU h w b).length : Int))
def NZ (H1 : Hp) (D : Addr) (xs : List Int) (H : Hp) : Prop := H D = some (.lst (xs.map V.int)) ∧ Same H1 H
theorem NZ.new {H1 : Hp} {D : Addr} (hD : H1 D = none) : NZ H1 D [] (upd H1 D (.lst [])) := ⟨upd_same, Same.new hD⟩
theorem NZ.same {H1 H H' : Hp} {D : Addr} {xs : List Int} (n : NZ H1 D xs H) (s : Same H H') : NZ H1 D xs H' := ⟨s _ _ n.1, n.2.trans s⟩
theorem NZ.push {H1 H : Hp} {D : Addr} {xs : List Int} {i : Int} (n : NZ H1 D xs H) (hD : H1 D = none) (l : xs.length < 100000) : ∃ acc, H D = some (.lst acc) ∧ acc.length < sizeLine ∧ NZ H1 D (xs ++ [i]) (upd H D (.lst (acc ++ [.int i]))) := by
  refine ⟨_, n.1, ?_, ?_, putN n.2 hD⟩
  · rw [List.length_map]
    exact Nat.lt_of_lt_of_le l (by decide)
  · rw [upd_same, List.map_append]
    rfl
theorem dots_len {h w : Nat} {b : Bk} (v : Vb h w b) : (dotsB h w b).length ≤ 64 := by
  have vs := v.s
  have e : (dotsB h w b).length = rowsN h b * colsN w b := by
    unfold dotsB
    rw [← List.flatMap_def, List.length_flatMap]
    simp only [List.length_map, List.length_range]
    rw [List.map_const', List.sum_replicate_nat, List.length_range]
  rw [e]
  have a : rowsN h b ≤ 8 := by unfold rowsN; omega
  have c : colsN w b ≤ 8 := by unfold colsN; omega
  exact Nat.mul_le_mul a c
theorem dots_pos {h w : Nat} {b : Bk} (v : Vb h w b) : 1 ≤ (dotsB h w b).length := by
  have vs := v.s
  have lt := v.lt
  have ll := v.ll
  have e : (dotsB h w b).length = rowsN h b * colsN w b := by
    unfold dotsB
    rw [← List.flatMap_def, List.length_flatMap]
    simp only [List.length_map, List.length_range]
    rw [List.map_const', List.sum_replicate_nat, List.length_range]
  rw [e]
  have a : 0 < rowsN h b := by unfold rowsN; omega
  have c : 0 < colsN w b := by unfold colsN; omega
  exact Nat.mul_pos a c
theorem dots_in {h w : Nat} {b : Bk} (v : Vb h w b) {d : Nat × Nat} (m : d ∈ dotsB h w b) : b.t ≤ d.1 ∧ d.1 < b.t + b.s ∧ d.1 < h ∧ b.l ≤ d.2 ∧ d.2 < b.l + b.s ∧ d.2 < w := by
  unfold dotsB at m
  obtain ⟨L, hL, hd⟩ := List.mem_flatten.mp m
  obtain ⟨i, hi, rfl⟩ := List.mem_map.mp hL
  obtain ⟨j, hj, rfl⟩ := List.mem_map.mp hd
  have hi := List.mem_range.mp hi
  have hj := List.mem_range.mp hj
  unfold rowsN at hi
  unfold colsN at hj
  dsimp only
  omega
theorem edges_in {h w : Nat} {b : Bk} (v : Vb h w b) {d : Nat × Nat} (m : d ∈ edgesU h w b) : d.1 < h ∧ d.2 < w := by
  have lt := v.lt
  have ll := v.ll
  unfold edgesU upE leftE at m
  rcases List.mem_append.mp m with m | m
  · split at m
    · obtain ⟨j, hj, rfl⟩ := List.mem_map.mp m
      have hj := List.mem_range.mp hj
      unfold colsN at hj
      dsimp only
      omega
    · simp at m
  · split at m
    · obtain ⟨j, hj, rfl⟩ := List.mem_map.mp m
      have hj := List.mem_range.mp hj
      unfold rowsN at hj
      dsimp only
      omega
    · simp at m
theorem edges_len {h w : Nat} {b : Bk} (v : Vb h w b) : (edgesU h w b).length ≤ 16 := by
  have vs := v.s
  have a : rowsN h b ≤ 8 := by unfold rowsN; omega
  have c : colsN w b ≤ 8 := by unfold colsN; omega
  unfold edgesU upE leftE
  rw [List.length_append]
  split <;> split <;> simp <;> omega
theorem edges_pos {h w : Nat} {b : Bk} (v : Vb h w b) (c : 0 < b.l ∨ 0 < b.t) : 0 < (edgesU h w b).length := by
  have vs := v.s
  have lt := v.lt
  have ll := v.ll
  have a : 0 < rowsN h b := by unfold rowsN; omega
  have c' : 0 < colsN w b := by unfold colsN; omega
  unfold edgesU upE leftE
  rw [List.length_append]
  split <;> split <;> simp <;> omega
theorem atI_sub {xs : List V} {n : Nat} {v : V} (h : xs[n - 1]? = some v) (c : 0 < n) : atI xs ((n : Int) - 1) = some v := by
  rw [show ((n : Int) - 1) = ((n - 1 : Nat) : Int) by omega]
  exact atI_nat h
theorem rep_one {n : Nat} {x : V} : (List.replicate n [x]).flatten = List.replicate n x := by
  induction n with
  | zero => rfl
  | succ n ih =>
    rw [List.replicate_succ, List.flatten_cons, ih, List.replicate_succ]
    rfl
theorem take_map1 {α β : Type} {L : List α} {i : Nat} {d : α} (hd : L[i]? = some d) (f : α → β) : (L.take (i + 1)).map f = (L.take i).map f ++ [f d] := by
  rw [List.take_add_one, hd, List.map_append]
  rfl
def spGuesses (C : Addr) : Sp := fun vs H Q _ => ∃ (sh : V) (p a : Addr) (b : Bk) (h w : Nat) (lo hi : Int) (m : Md) (nss : List (List Int)), vs = [sh, .ref p, .str m.s, .ref a] ∧ Sh C H sh (h : Int) (w : Int) lo hi ∧ Shp C H sh h w ∧ H p = some (.tup (bkV b)) ∧ Vb h w b ∧ m.ok b ∧ Pn H a nss w ∧ nss.length = h ∧
  ∀ q H', Same H H' → H q = none ∨ True → H' q = some (.tup ((guessM m h w ((lo + hi) / 2) b nss).map V.int)) → Q (.ref q) H'
section
variable {P : Program} {w : World} {K : PySem.W.Frag} {mg : Str → Option Value} {base : Heap} (T : Top K mg) (SH : ShapeT K mg) (BE : BadShapeT P w K mg T.reel.C) (Z : SzT K mg)
theorem ok_guesses_of : FnOk P w K mg base (L2.CX P w) 4 T.guesses_of.a T.guesses_of.d ["shape", "block", "mode", "rows"] (spGuesses SH.C) := by
  refine T.guesses_of.f.okX sc_guesses_of (fun vs H Q E h => ?_) (fun cdv A outer s H vs Q E hr h => ?_)
  · obtain ⟨sh, p, a, b, h, w, lo, hi, m, nss, rfl, _⟩ := h
    rfl
  · obtain ⟨sh, p, a, b, h, wn, lo, hi', m, nss, rfl, sv, shp, hp, v, mk, pn, ln, k⟩ := h
    refine ⟨_, (pss_cons (ps_asg (pv 1) (pg_tup rfl (pgs_cons (pg_name (i := 4) sc_guesses_of.nd rfl (by first | exact .inl rfl | exact .inr rfl)) (pgs_cons (pg_name (i := 5) sc_guesses_of.nd rfl (by first | exact .inl rfl | exact .inr rfl)) (pgs_cons (pg_name (i := 6) sc_guesses_of.nd rfl (by first | exact .inl rfl | exact .inr rfl)) pgs_nil)))))
      (pss_cons (ps_set (i := 7) sc_guesses_of.nd rfl (by first | exact .inl rfl | exact .inr rfl) (pe_call (ok_spots_of T SH) (hr.mono (by decide)) (by rfl) T.spots_of.m T.spots_of.f.kp (bd_spots_of T) .nil passE (pa_cons (pv 0) (pa_cons (pv 1) pa_nil))))
      (pss_cons (ps_if (pt_cmpR op_eq (pv 2) pe_str (nomark _)) (pss_one (ps_ret (pe_callTy call_tuple_of (by rfl) T.b_tuple (by decide +kernel) (pa_cons (pe_lc (own := [("y", 10), ("_", 6)]) (g := gTup K 2 (gCons (gName 10) (gCons (gName 6) gNil))) (tt := tYes) rfl sc_guesses_of.nd (pi_list (pv 7)) (blkOk_by (own := [("y", 10), ("_", 6)]) (N := ["shape", "block", "mode", "rows", "top", "left", "_", "all_spots", "corner", "edge", "y", "x"]) (sc := defScope s_guesses_of) (by decide +kernel))
        (fun _ _ _ _ _ => pg_tup rfl (pgs_cons (pg_name (i := 10) sc_guesses_of.nd rfl (Or.inl rfl)) (pgs_cons (pg_name (i := 6) sc_guesses_of.nd rfl (Or.inl rfl)) pgs_nil))) (fun _ _ _ _ _ => pts_nil) (fun _ _ _ _ _ => (pe_ix (show IxR _ (rIxT K) from ix_tup) (pe_ix (show IxR _ (rIxT K) from ix_tup) (pv 3) (pv 10) (fun _ _ => rfl)) (pe_op (show OpR _ _ (rI0 fun i j => .int (i - j)) from op_sub) (pv 5) pe_int) (fun _ _ => rfl)))) pa_nil)))) pss_nil)
      (pss_cons (ps_if (pt_cmpR op_eq (pv 2) pe_str (nomark _)) (pss_one (ps_ret (pe_callTy call_tuple_of (by rfl) T.b_tuple (by decide +kernel) (pa_cons (pe_lc (own := [("_", 6), ("x", 11)]) (g := gTup K 2 (gCons (gName 6) (gCons (gName 11) gNil))) (tt := tYes) rfl sc_guesses_of.nd (pi_list (pv 7)) (blkOk_by (own := [("_", 6), ("x", 11)]) (N := ["shape", "block", "mode", "rows", "top", "left", "_", "all_spots", "corner", "edge", "y", "x"]) (sc := defScope s_guesses_of) (by decide +kernel))
        (fun _ _ _ _ _ => pg_tup rfl (pgs_cons (pg_name (i := 6) sc_guesses_of.nd rfl (Or.inl rfl)) (pgs_cons (pg_name (i := 11) sc_guesses_of.nd rfl (Or.inl rfl)) pgs_nil))) (fun _ _ _ _ _ => pts_nil) (fun _ _ _ _ _ => (pe_ix (show IxR _ (rIxT K) from ix_tup) (pe_ix (show IxR _ (rIxT K) from ix_tup) (pv 3) (pe_op (show OpR _ _ (rI0 fun i j => .int (i - j)) from op_sub) (pv 4) pe_int) (fun _ _ => rfl)) (pv 11) (fun _ _ => rfl)))) pa_nil)))) pss_nil)
      (pss_cons (ps_if (pt_cmpR op_eq (pv 2) pe_str (nomark _)) (pss_cons (ps_set (i := 8) sc_guesses_of.nd rfl (by first | exact .inl rfl | exact .inr rfl) (pe_ix ix_tup (pe_ix ix_tup (pv 3) (pe_op op_sub (pv 4) pe_int) (fun _ _ => rfl)) (pe_op op_sub (pv 5) pe_int) (fun _ _ => rfl)))
      (pss_one (ps_ret (pe_callTy call_tuple_of (by rfl) T.b_tuple (by decide +kernel) (pa_cons (pe_lc (own := [("y", 10), ("x", 11)]) (g := gTup K 2 (gCons (gName 10) (gCons (gName 11) gNil))) (tt := tYes) rfl sc_guesses_of.nd (pi_list (pv 7)) (blkOk_by (own := [("y", 10), ("x", 11)]) (N := ["shape", "block", "mode", "rows", "top", "left", "_", "all_spots", "corner", "edge", "y", "x"]) (sc := defScope s_guesses_of) (by decide +kernel))
        (fun _ _ _ _ _ => pg_tup rfl (pgs_cons (pg_name (i := 10) sc_guesses_of.nd rfl (Or.inl rfl)) (pgs_cons (pg_name (i := 11) sc_guesses_of.nd rfl (Or.inl rfl)) pgs_nil))) (fun _ _ _ _ _ => pts_nil) (fun _ _ _ _ _ => (pe_ix (show IxR _ (rIxL K) from ix_list) (pe_callB (show CallR _ _ (rSorted K) from cr_sorted) (by rfl) T.b_sorted PyProof.Rows.boot_sorted (pa_cons (pe_lst (pa_cons (pe_ix (show IxR _ (rIxT K) from ix_tup) (pe_ix (show IxR _ (rIxT K) from ix_tup) (pv 3) (pv 10) (fun _ _ => rfl)) (pe_op (show OpR _ _ (rI0 fun i j => .int (i - j)) from op_sub) (pv 5) pe_int) (fun _ _ => rfl)) (pa_cons (pe_ix (show IxR _ (rIxT K) from ix_tup) (pe_ix (show IxR _ (rIxT K) from ix_tup) (pv 3) (pe_op (show OpR _ _ (rI0 fun i j => .int (i - j)) from op_sub) (pv 4) pe_int) (fun _ _ => rfl)) (pv 11) (fun _ _ => rfl)) (pa_cons (pv 8) pa_nil)))) pa_nil)) pe_int (fun _ _ => rfl)))) pa_nil))))) pss_nil)
      (pss_cons (ps_if (pt_cmpR op_eq (pv 2) pe_str (nomark _)) (pss_cons (ps_set (i := 9) sc_guesses_of.nd rfl (by first | exact .inl rfl | exact .inr rfl) (pe_op op_cat (pe_call (ok_upper_edge T SH) (hr.mono (by decide)) (by rfl) T.upper_edge.m T.upper_edge.f.kp (bd_upper_edge T) .nil passE (pa_cons (pv 0) (pa_cons (pv 1) pa_nil))) (pe_call (ok_left_edge T SH) (hr.mono (by decide)) (by rfl) T.left_edge.m T.left_edge.f.kp (bd_left_edge T) .nil passE (pa_cons (pv 0) (pa_cons (pv 1) pa_nil)))))
      (pss_one (ps_ret (pe_op KT.op_repA (pe_tup (pa_cons (pe_op op_fdiv (pe_callB (cr_sum rfl) (by rfl) T.b_sum (by decide +kernel) (pa_cons (pe_lc (own := [("y", 10), ("x", 11)]) (g := gTup K 2 (gCons (gName 10) (gCons (gName 11) gNil))) (tt := tYes) rfl sc_guesses_of.nd (pi_list (pv 9)) (blkOk_by (own := [("y", 10), ("x", 11)]) (N := ["shape", "block", "mode", "rows", "top", "left", "_", "all_spots", "corner", "edge", "y", "x"]) (sc := defScope s_guesses_of) (by decide +kernel))
        (fun _ _ _ _ _ => pg_tup rfl (pgs_cons (pg_name (i := 10) sc_guesses_of.nd rfl (Or.inl rfl)) (pgs_cons (pg_name (i := 11) sc_guesses_of.nd rfl (Or.inl rfl)) pgs_nil))) (fun _ _ _ _ _ => pts_nil) (fun _ _ _ _ _ => (pe_ix (show IxR _ (rIxT K) from ix_tup) (pe_ix (show IxR _ (rIxT K) from ix_tup) (pv 3) (pv 10) (fun _ _ => rfl)) (pv 11) (fun _ _ => rfl)))) pa_nil)) (pe_callB call_len_seq (by rfl) T.b_len PySem.boot_len (pa_cons (pv 9) pa_nil))) pa_nil)) (pe_callB call_len_seq (by rfl) T.b_len PySem.boot_len (pa_cons (pv 7) pa_nil)))))) pss_nil)
      (pss_one (ps_ret (pe_op KT.op_repA (pe_tup (pa_cons (pe_fld (pv 0) rfl) pa_nil)) (pe_callB call_len_seq (by rfl) T.b_len PySem.boot_len (pa_cons (pv 7) pa_nil))))))))))), ?_⟩
    have l64 := dots_len v
    have lt := v.lt
    have ll := v.ll
    have hb := shp.b
    refine ⟨_, rfl, p, _, rfl, SqT.of hp, rfl, _, _, rfl, _, _, rfl, _, _, rfl, rfl, _, rfl, _, rfl, sh, p, b, h, wn, rfl, shp, hp, v, fun q us H1 s1 nq lq rq => ?_⟩
    cases m with
    | left =>
      have mk : 0 < b.l := mk
      refine ⟨_, rfl, rfl, _, rfl, ?_⟩
      rw [show decide (V.str (Md.s .left) = V.str "left") = true by decide]
      refine iteT ?_
      refine ⟨_, rfl, q, rfl, ⟨_, SqL.of lq⟩, fun D hD => lc_it walk_list (fun i H' => NZ H1 D (((dotsB h wn b).take i).map fun d => gAt nss d.1 (b.l - 1)) H') (NZ.new hD) (fun _ H' _ q' => SqL.of (q'.2 _ _ lq)) ?_ ?_⟩
      · rintro i x Hq Hr hi n ⟨rfl, hx⟩
        obtain ⟨pd, d, rfl, hd, ed⟩ := (rq.same n.2).get hx
        have di := dots_in v (List.mem_of_getElem? hd)
        refine ⟨pd, _, rfl, SqT.of ed, rfl, _, _, rfl, _, _, rfl, rfl, rfl, ?_⟩
        dsimp only [tYes]
        rw [if_pos rfl]
        have al : ((((dotsB h wn b).take i).map fun d => gAt nss d.1 (b.l - 1)) : List Int).length < 100000 := by
          rw [List.length_map, List.length_take]
          omega
        obtain ⟨vs1, b1, ns1, ea1, hy1, eb1, hx1⟩ := (pn.keep (s1.trans n.2)).read (y := d.1) (x := b.l - 1) (by omega) (by omega)
        obtain ⟨acc, f1, f2, f3⟩ := n.push (i := gAt nss d.1 (b.l - 1)) hD al
        exact ⟨_, rfl, _, rfl, a, vs1, _, _, rfl, rfl, SqT.of ea1, atI_nat hy1, _, rfl, _, _, rfl, rfl, b1, _, _, _, rfl, rfl, SqT.of eb1, atI_sub hx1 mk, acc, f1, f2, (by rw [take_map1 hd]; exact f3)⟩
      rintro H2 ⟨e2, s2⟩
      rw [List.take_of_length_le (by rw [rq.1]; exact Nat.le_refl _)] at e2
      refine ⟨D, _, rfl, .inl ⟨SqL.of e2, fun z hz => ?_⟩⟩
      exact k z _ ((s1.trans s2).trans (Same.new hz)) (.inr trivial) upd_same
    | up =>
      have mk : 0 < b.t := mk
      refine ⟨_, rfl, rfl, _, rfl, ?_⟩
      rw [show decide (V.str (Md.s .up) = V.str "left") = false by decide]
      refine iteF ?_
      refine ⟨_, rfl, rfl, _, rfl, ?_⟩
      rw [show decide (V.str (Md.s .up) = V.str "up") = true by decide]
      refine iteT ?_
      refine ⟨_, rfl, q, rfl, ⟨_, SqL.of lq⟩, fun D hD => lc_it walk_list (fun i H' => NZ H1 D (((dotsB h wn b).take i).map fun d => gAt nss (b.t - 1) d.2) H') (NZ.new hD) (fun _ H' _ q' => SqL.of (q'.2 _ _ lq)) ?_ ?_⟩
      · rintro i x Hq Hr hi n ⟨rfl, hx⟩
        obtain ⟨pd, d, rfl, hd, ed⟩ := (rq.same n.2).get hx
        have di := dots_in v (List.mem_of_getElem? hd)
        refine ⟨pd, _, rfl, SqT.of ed, rfl, _, _, rfl, _, _, rfl, rfl, rfl, ?_⟩
        dsimp only [tYes]
        rw [if_pos rfl]
        have al : ((((dotsB h wn b).take i).map fun d => gAt nss (b.t - 1) d.2) : List Int).length < 100000 := by
          rw [List.length_map, List.length_take]
          omega
        obtain ⟨vs1, b1, ns1, ea1, hy1, eb1, hx1⟩ := (pn.keep (s1.trans n.2)).read (y := b.t - 1) (x := d.2) (by omega) (by omega)
        obtain ⟨acc, f1, f2, f3⟩ := n.push (i := gAt nss (b.t - 1) d.2) hD al
        exact ⟨_, rfl, _, rfl, _, _, rfl, rfl, a, vs1, _, _, rfl, rfl, SqT.of ea1, atI_sub hy1 mk, _, rfl, b1, _, _, _, rfl, rfl, SqT.of eb1, atI_nat hx1, acc, f1, f2, (by rw [take_map1 hd]; exact f3)⟩
      rintro H2 ⟨e2, s2⟩
      rw [List.take_of_length_le (by rw [rq.1]; exact Nat.le_refl _)] at e2
      refine ⟨D, _, rfl, .inl ⟨SqL.of e2, fun z hz => ?_⟩⟩
      exact k z _ ((s1.trans s2).trans (Same.new hz)) (.inr trivial) upd_same
    | middle =>
      have mk : 0 < b.l ∧ 0 < b.t := mk
      refine ⟨_, rfl, rfl, _, rfl, ?_⟩
      rw [show decide (V.str (Md.s .middle) = V.str "left") = false by decide]
      refine iteF ?_
      refine ⟨_, rfl, rfl, _, rfl, ?_⟩
      rw [show decide (V.str (Md.s .middle) = V.str "up") = false by decide]
      refine iteF ?_
      refine ⟨_, rfl, rfl, _, rfl, ?_⟩
      rw [show decide (V.str (Md.s .middle) = V.str "middle") = true by decide]
      refine iteT ?_
      obtain ⟨vs0, b0, ns0, ea0, hy0, eb0, hx0⟩ := (pn.keep s1).read (y := b.t - 1) (x := b.l - 1) (by omega) (by omega)
      refine ⟨_, rfl, _, rfl, _, _, rfl, rfl, a, vs0, _, _, rfl, rfl, SqT.of ea0, atI_sub hy0 mk.2, _, rfl, _, _, rfl, rfl, b0, _, _, _, rfl, rfl, SqT.of eb0, atI_sub hx0 mk.1, ?_⟩
      refine ⟨_, rfl, q, rfl, ⟨_, SqL.of lq⟩, fun D hD => lc_it walk_list (fun i H' => NZ H1 D (((dotsB h wn b).take i).map fun d => med3 (gAt nss d.1 (b.l - 1)) (gAt nss (b.t - 1) d.2) (gAt nss (b.t - 1) (b.l - 1))) H') (NZ.new hD) (fun _ H' _ q' => SqL.of (q'.2 _ _ lq)) ?_ ?_⟩
      · rintro i x Hq Hr hi n ⟨rfl, hx⟩
        obtain ⟨pd, d, rfl, hd, ed⟩ := (rq.same n.2).get hx
        have di := dots_in v (List.mem_of_getElem? hd)
        refine ⟨pd, _, rfl, SqT.of ed, rfl, _, _, rfl, _, _, rfl, rfl, rfl, ?_⟩
        dsimp only [tYes]
        rw [if_pos rfl]
        have al : ((((dotsB h wn b).take i).map fun d => med3 (gAt nss d.1 (b.l - 1)) (gAt nss (b.t - 1) d.2) (gAt nss (b.t - 1) (b.l - 1))) : List Int).length < 100000 := by
          rw [List.length_map, List.length_take]
          omega
        obtain ⟨vs1, b1, ns1, ea1, hy1, eb1, hx1⟩ := (pn.keep (s1.trans n.2)).read (y := d.1) (x := b.l - 1) (by omega) (by omega)
        obtain ⟨vs2, b2, ns2, ea2, hy2, eb2, hx2⟩ := (pn.keep (s1.trans n.2)).read (y := b.t - 1) (x := d.2) (by omega) (by omega)
        refine ⟨_, rfl, _, rfl, a, vs1, _, _, rfl, rfl, SqT.of ea1, atI_nat hy1, _, rfl, _, _, rfl, rfl, b1, _, _, _, rfl, rfl, SqT.of eb1, atI_sub hx1 mk.1, _, rfl, _, rfl, _, _, rfl, rfl, a, vs2, _, _, rfl, rfl, SqT.of ea2, atI_sub hy2 mk.2, _, rfl, b2, _, _, _, rfl, rfl, SqT.of eb2, atI_nat hx2, _, rfl, (by show 3 ≤ sizeLine; decide), fun g hg => ?_⟩
        have tg := Same.new (o := .lst [V.int (gAt nss d.1 (b.l - 1)), .int (gAt nss (b.t - 1) d.2), .int (gAt nss (b.t - 1) (b.l - 1))]) hg
        refine ⟨g, [gAt nss d.1 (b.l - 1), gAt nss (b.t - 1) d.2, gAt nss (b.t - 1) (b.l - 1)], rfl, SqL.of upd_same, by show 3 < 64; decide, fun ns' g2 pm so hg2 => ?_⟩
        have t2 := Same.new (o := .lst (ns'.map V.int)) hg2
        have m3 := med3_of pm so
        have n := (n.same tg).same t2
        obtain ⟨acc, f1, f2, f3⟩ := n.push (i := med3 (gAt nss d.1 (b.l - 1)) (gAt nss (b.t - 1) d.2) (gAt nss (b.t - 1) (b.l - 1))) hD al
        exact ⟨g2, _, _, _, rfl, rfl, SqL.of upd_same, atI_nat (j := 1) (by rw [List.getElem?_map, m3]; rfl), acc, f1, f2, (by rw [take_map1 hd]; exact f3)⟩
      rintro H2 ⟨e2, s2⟩
      rw [List.take_of_length_le (by rw [rq.1]; exact Nat.le_refl _)] at e2
      refine ⟨D, _, rfl, .inl ⟨SqL.of e2, fun z hz => ?_⟩⟩
      exact k z _ ((s1.trans s2).trans (Same.new hz)) (.inr trivial) upd_same
    | mean =>
      have mk : 0 < b.l ∨ 0 < b.t := mk
      refine ⟨_, rfl, rfl, _, rfl, ?_⟩
      rw [show decide (V.str (Md.s .mean) = V.str "left") = false by decide]
      refine iteF ?_
      refine ⟨_, rfl, rfl, _, rfl, ?_⟩
      rw [show decide (V.str (Md.s .mean) = V.str "up") = false by decide]
      refine iteF ?_
      refine ⟨_, rfl, rfl, _, rfl, ?_⟩
      rw [show decide (V.str (Md.s .mean) = V.str "middle") = false by decide]
      refine iteF ?_
      refine ⟨_, rfl, rfl, _, rfl, ?_⟩
      rw [show decide (V.str (Md.s .mean) = V.str "mean") = true by decide]
      refine iteT ?_
      refine ⟨_, rfl, _, rfl, sh, p, b, h, wn, rfl, shp.keep s1, s1 _ _ hp, v, fun qu uu Hu su nu lu ru => ⟨_, rfl, _, rfl, sh, p, b, h, wn, rfl, (shp.keep s1).keep su, su _ _ (s1 _ _ hp), v, fun ql ul Hl sl nl lel rl => ?_⟩⟩
      have ru := ru.same sl
      have rr := ru.append rl
      have el := edges_len (h := h) (w := wn) v
      have ep := edges_pos (h := h) (w := wn) v mk
      have rlen : (uu ++ ul).length = (edgesU h wn b).length := rr.1
      have s64 : 64 < sizeLine := by decide
      refine ⟨qu, ql, uu, ul, rfl, rfl, sl _ _ lu, lel, by rw [← List.length_append, rlen]; omega, fun g hg => ?_⟩
      have tg := Same.new (o := .lst (uu ++ ul)) hg
      have eg : (upd Hl g (.lst (uu ++ ul))) g = some (.lst (uu ++ ul)) := upd_same
      have rr := rr.same tg
      have s3 := s1.trans (su.trans (sl.trans tg))
      have lq3 := (su.trans (sl.trans tg)) _ _ lq
      generalize upd Hl g (.lst (uu ++ ul)) = H3 at eg rr s3 lq3 ⊢
      refine ⟨_, rfl, g, rfl, ⟨_, SqL.of eg⟩, fun D hD => lc_it walk_list (fun i H' => NZ H3 D (((edgesU h wn b).take i).map fun d => gAt nss d.1 d.2) H') (NZ.new hD) (fun _ H' _ q' => SqL.of (q'.2 _ _ eg)) ?_ ?_⟩
      · rintro i x Hq Hr hi n ⟨rfl, hx⟩
        obtain ⟨pd, d, rfl, hd, ed⟩ := (rr.same n.2).get hx
        have hd : (edgesU h wn b)[i]? = some d := hd
        have di := edges_in v (List.mem_of_getElem? hd)
        refine ⟨pd, _, rfl, SqT.of ed, rfl, _, _, rfl, _, _, rfl, rfl, rfl, ?_⟩
        dsimp only [tYes]
        rw [if_pos rfl]
        have al : ((((edgesU h wn b).take i).map fun d => gAt nss d.1 d.2) : List Int).length < 100000 := by
          rw [List.length_map, List.length_take]
          omega
        obtain ⟨vs1, b1, ns1, ea1, hy1, eb1, hx1⟩ := (pn.keep (s3.trans n.2)).read (y := d.1) (x := d.2) (by omega) (by omega)
        obtain ⟨acc, f1, f2, f3⟩ := n.push (i := gAt nss d.1 d.2) hD al
        exact ⟨_, rfl, _, rfl, a, vs1, _, _, rfl, rfl, SqT.of ea1, atI_nat hy1, _, rfl, b1, _, _, _, rfl, rfl, SqT.of eb1, atI_nat hx1, acc, f1, f2, (by rw [take_map1 hd]; exact f3)⟩
      rintro H4 ⟨e4, s4⟩
      rw [List.take_of_length_le (by rw [rr.1]; exact Nat.le_refl _)] at e4
      refine ⟨D, _, rfl, SqL.of e4, _, rfl, g, _, rfl, .inl (SqL.of (s4 _ _ eg)), _, _, rfl, rfl, ⟨by rw [rlen]; omega, by rw [rlen]; omega⟩, ?_⟩
      dsimp only
      rw [rlen]
      refine ⟨(by show 1 ≤ sizeLine; decide), fun p1 hp1 => ?_⟩
      generalize hval : ((edgesU h wn b).map fun d => gAt nss d.1 d.2).sum / ((edgesU h wn b).length : Int) = val at hp1 ⊢
      have hg : guessM .mean h wn ((lo + hi') / 2) b nss = List.replicate (dotsB h wn b).length val := by
        unfold guessM
        dsimp only
        rw [hval]
      have k : ∀ q H', Same H H' → H q = none ∨ True → H' q = some (.tup ((List.replicate (dotsB h wn b).length val).map V.int)) → Q (.ref q) H' := fun q H' a1 a2 a3 => k q H' a1 a2 (by rw [hg]; exact a3)
      have tp := Same.new (o := .tup [V.int val]) hp1
      have t1 : (upd H4 p1 (.tup [V.int val])) p1 = some (.tup [.int val]) := upd_same
      have SS := s3.trans (s4.trans tp)
      have LQ := (s4.trans tp) _ _ lq3
      generalize upd H4 p1 (.tup [V.int val]) = H5 at t1 SS LQ ⊢
      have lus := rq.1
      have dp := dots_pos v
      refine ⟨_, rfl, q, us, rfl, .inl (SqL.of LQ), p1, (us.length : Int), [V.int val], rfl, rfl, SqT.of t1, by simp, by omega, by omega, by simp, fun c => ?_, fun c p2 hp2 => ?_⟩
      · refine k p1 _ SS (.inr trivial) ?_
        rw [t1]
        have e1 : (dotsB h wn b).length = 1 := by omega
        show _ = some (HO.tup ((List.replicate (dotsB h wn b).length (val)).map V.int))
        rw [e1]
        rfl
      · refine k p2 _ (SS.trans (Same.new hp2)) (.inr trivial) ?_
        rw [upd_same, rep_one]
        show _ = some (HO.tup ((List.replicate (dotsB h wn b).length (val)).map V.int))
        rw [List.map_replicate, Int.toNat_natCast, rq.1]
    | flat =>
      refine ⟨_, rfl, rfl, _, rfl, ?_⟩
      rw [show decide (V.str (Md.s .flat) = V.str "left") = false by decide]
      refine iteF ?_
      refine ⟨_, rfl, rfl, _, rfl, ?_⟩
      rw [show decide (V.str (Md.s .flat) = V.str "up") = false by decide]
      refine iteF ?_
      refine ⟨_, rfl, rfl, _, rfl, ?_⟩
      rw [show decide (V.str (Md.s .flat) = V.str "middle") = false by decide]
      refine iteF ?_
      refine ⟨_, rfl, rfl, _, rfl, ?_⟩
      rw [show decide (V.str (Md.s .flat) = V.str "mean") = false by decide]
      refine iteF ?_
      obtain ⟨sa, dx, rfl, es⟩ := sv
      refine ⟨_, rfl, sa, SH.C, dx, _, _, rfl, s1 _ _ es, SH.i.cl, SH.n5, rfl, (by show 1 ≤ sizeLine; decide), fun p1 hp1 => ?_⟩
      have tp := Same.new (o := .tup [V.int ((lo + hi') / 2)]) hp1
      have t1 : (upd H1 p1 (.tup [V.int ((lo + hi') / 2)])) p1 = some (.tup [.int ((lo + hi') / 2)]) := upd_same
      have SS := s1.trans tp
      have LQ := tp _ _ lq
      generalize upd H1 p1 (.tup [V.int ((lo + hi') / 2)]) = H5 at t1 SS LQ ⊢
      have lus := rq.1
      have dp := dots_pos v
      refine ⟨_, rfl, q, us, rfl, .inl (SqL.of LQ), p1, (us.length : Int), [V.int ((lo + hi') / 2)], rfl, rfl, SqT.of t1, by simp, by omega, by omega, by simp, fun c => ?_, fun c p2 hp2 => ?_⟩
      · refine k p1 _ SS (.inr trivial) ?_
        rw [t1]
        have e1 : (dotsB h wn b).length = 1 := by omega
        show _ = some (HO.tup ((List.replicate (dotsB h wn b).length ((lo + hi') / 2)).map V.int))
        rw [e1]
        rfl
      · refine k p2 _ (SS.trans (Same.new hp2)) (.inr trivial) ?_
        rw [upd_same, rep_one]
        show _ = some (HO.tup ((List.replicate (dotsB h wn b).length ((lo + hi') / 2)).map V.int))
        rw [List.map_replicate, Int.toNat_natCast, rq.1]
end
end K05
namespace KU
open PySem PySem.W PySem.Calls PyProof.Rows PySem.HandSPX
/-! ### an own error of a value of the heap: what it says of it, whatever is being shown -/
abbrev TextAt (P : Program) (w : World) (fI cda cc : Addr) (qual f : Str) (e : Expr) (u0 : Nat) (h0 : Heap) (v : Value) : Prop :=
  ∀ (A' : Around) (E : Value → Shared → Prop) (s' : Shared) (L : Addr) (m : Str → Option Value) (Q : Value → Shared → Prop), A'.units ≤ u0 + 12 → (∀ b o, h0.get? b = some o → s'.heap.get? b = some o) → s'.heap.Ns L m → m f = some v →
    (∀ (z : Str) (t : Tok) (h' : Heap) (t' : Tok), (∀ b o, s'.heap.get? b = some o → h'.get? b = some o) → Q (.str z t) { s' with heap := h', toks := t' }) → wpAny (model P w) A' (eval e (ksEnv qual (upScope f) L fI (.ref cda) cc)) Q E s'
theorem Text.at_ {P : Program} {w : World} {fI cda cc : Addr} {qual f : Str} {e : Expr} {v : Value} (t : Text P w fI cda cc qual f e v) (u0 : Nat) (h0 : Heap) : TextAt P w fI cda cc qual f e u0 h0 v := fun A' E s' L m Q _ _ hn hm k => t A' E s' L m Q hn hm fun z t t' => k z t s'.heap t' fun _ _ e => e
/-- f'z{f}': a short text, the heap may grow -/
theorem textAt_of {P : Program} {w : World} {fI cda cc : Addr} {qual f z : Str} {j : Nat} {pc pn pf pj : Pos} {v : Value} {u0 : Nat} {h0 : Heap} (hd : f ≠ "__debug__")
    (fld : ∀ (A' : Around) (E : Value → Shared → Prop) (s' : Shared) (Q : Value → Shared → Prop), A'.units ≤ u0 + 12 → (∀ b o, h0.get? b = some o → s'.heap.get? b = some o) → (∀ (y : Str) (t : Tok) (h' : Heap) (t' : Tok), y.length ≤ 1000 → (∀ b o, s'.heap.get? b = some o → h'.get? b = some o) → Q (.str y t) { s' with heap := h', toks := t' }) → wpAny (model P w) A' (formatField v Str.empty) Q E s')
    (h1 : z.length ≤ 1000) : TextAt P w fI cda cc qual f (.JoinedStr [.Constant (.str z) j pc, .FormattedValue (.Name f pn) (-1) none pf] pj) u0 h0 v := by
  intro A' E s' L m Q hu hk hn hm k
  refine wpAny_JoinedStr ?_
  have e0 : ∀ env : Env, evalEach [.Constant (.str z) j pc, .FormattedValue (.Name f pn) (-1) none pf] env = [eval (.Constant (.str z) j pc) env, eval (.FormattedValue (.Name f pn) (-1) none pf) env] := fun _ => by first | rfl | simp [evalEach]
  rw [e0]
  have e1 : Str.empty ++ z = z := by
    show (⟨#[] ++ z.cps⟩ : Str) = z
    rw [Array.empty_append]
  have line : 2000 ≤ sizeLine := by decide
  refine Calls.Constant_str ⟨z, _, rfl, by rw [e1]; omega, ?_⟩
  rw [e1]
  refine wpAny_FormattedValue_plain (wpAny_Name (wpAny_loadName_local rfl (show (ksEnv qual (upScope f) L fI (.ref cda) cc).kindOf f = some .local from kind_f) hn hm ?_) (beq_false_of_ne hd))
  refine fld _ _ _ _ hu hk fun y t h' t' hy kp => ?_
  have h2 : (z ++ y).length ≤ sizeLine := by
    have e : (z ++ y).length = z.length + y.length := Array.size_append
    rw [e]
    omega
  exact ⟨y, t, rfl, h2, h2, k _ _ _ _ kp⟩
section
variable {prog : Program} {w : World} {A : Around} {E : Value → Shared → Prop} {s : Shared}
/-- list.__repr__, whatever is under way -/
theorem list_head_any {M : Model} {Q : Fin → Shared → Prop} {a : Addr} {o : Obj} {x : Value} {l : List Value} {n b : Nat} (hget : s.heap.get? a = some o) (hd : o.data = .seq (x :: l).toArray n)
    (h0 : Q (.done (.ret (.str "[...]" s.toks))) { s with toks := s.toks + 1 })
    (h : wpAny M A (do again (.builtin "list.__repr__.loop" ⟨[.ref a, rawInt 0, ← newList [], rawInt b], []⟩)) Q E s) : wpAny M A (Builtin.listReprAt b ⟨[.ref a], []⟩) Q E s := by
  intro Γ p hΓ
  have h1 := h Γ p hΓ
  unfold Builtin.listReprAt
  simp [slotArgs, Builtin.List.listItems, seqItems?, Sem.wp_load_of (h := hget), hd, stack]
  show Sem.wp M Γ (if (Γ.below.any _) = true then _ else _) _ _ p s
  split
  · simp [rule, retStr, ret]
    exact h0
  · exact h1
theorem list_repr_any {Q : Value → Shared → Prop} {a : Addr} {o : Obj} {x : Value} {l : List Value} {n : Nat} {ts : List Str} (ha : s.heap.get? a = some o) (hc : o.cls = .type "list") (hd : o.data = .seq (x :: l).toArray n) (hlen : ts.length = (x :: l).toArray.size)
    (hT : ∀ (i : Nat) (y : Value), (x :: l).toArray[i]? = some y → ∃ t, ts[i]? = some t ∧ ReprIs prog w y t) (hsz : (listText ts).length ≤ 900)
    (h : ∀ (m : Str) (u : Tok) (h' : Heap) (tk : Nat), m.length ≤ 1000 → (∀ b o, s.heap.get? b = some o → h'.get? b = some o) → Q (.str m u) { s with heap := h', toks := tk }) : wpAny (model prog w) A (call (.builtin "list.__repr__") [.ref a]) Q E s := by
  have line : 2000 ≤ sizeLine := by decide
  refine wpAny_call (codeAny_call_builtin F.slot_list_repr.plain F.entry_list_repr (F.slot_list_repr.check _ _ _ _ _ _ _ _ ⟨o, ha, hc⟩ (F.args_list_repr_1 _) (list_head_any (A := A.in1) (b := 0) ha hd ?_ ?_)))
  · exact h "[...]" _ s.heap _ (by decide +kernel) fun _ _ e => e
  · refine wpAny_bind (m := newList []) (wpAny_newObj_type ?_)
    refine wpAny_pure ⟨F.quiet_list_repr_loop _, ?_⟩
    refine codeAny_list_repr_start (P := s.heap.objs.size) (Nat.ne_of_lt (Heap.lt_size ha)) hlen hT (Heap.get?_push_of_some _ ha) hd (Heap.get?_push_size _ rfl) (fun h' u tk hk => ?_) (by omega)
    exact h _ u h' tk (by omega) fun b o e => hk b o (Nat.ne_of_lt (Heap.lt_size e)) (Heap.get?_push_of_some _ e)
/-- dict.__repr__ of an empty dict, whatever is under way -/
theorem dict_repr_any {Q : Value → Shared → Prop} {a : Addr} {o : Obj} {n : Nat} (ha : s.heap.get? a = some o) (hc : o.cls = .type "dict") (hd : o.data = .dict #[] n) (hsys : (a == sysModules) = false)
    (h : ∀ (m : Str) (u tk : Tok), m.length ≤ 1000 → Q (.str m u) { s with toks := tk }) : wpAny (model prog w) A (call (.builtin "dict.__repr__") [.ref a]) Q E s := by
  have hTy : s.TypeIs (.ref a) "dict" := ⟨o, ha, hc⟩
  have line : 2000 ≤ sizeLine := by decide
  refine wpAny_call (codeAny_call_builtin_own (Code.quiet_builtin _ (by decide +kernel)) F.entry_dict_repr (F.slot_dict_repr.check _ _ _ _ _ _ _ _ ⟨o, ha, hc⟩ (F.args_dict_repr_1 _) (wpOwn_of_wpAny ?_)))
  show wpAny _ _ (Builtin.dictReprAt 0 ⟨[.ref a], []⟩) _ _ s
  unfold Builtin.dictReprAt
  refine wpAny_bind ?_
  unfold Builtin.Dict.dictSlotNone
  refine wpAny_bind (wpAny_notOrdered_dict hTy ?_)
  show wpAny _ _ (pure (Value.ref a)) _ _ s
  refine wpAny_pure ?_
  rw [dictReprRunning_eq]
  refine wpAny_bind (wpAny_bind (wpAny_stack_any fun st => wpAny_pure ?_))
  generalize (st.tail.any (dictGuardF (.ref a))) = b
  cases b with
  | true =>
    refine PySem.W.KFB.if_so rfl ?_
    refine wpAny_bind (wpAny_rule ?_)
    refine wpAny_bind (wpAny_mkStr (wpAny_pure ?_) (by decide +kernel))
    exact h "{...}" _ _ (by decide +kernel)
  | false =>
    refine PySem.W.KFB.if_not rfl ?_
    show wpAny _ _ (Builtin.Dict.addrOf (.ref a) >>= _) _ _ s
    refine wpAny_bind (wpAny_pure ?_)
    show wpAny _ _ (Builtin.Dict.showsAll a >>= _) _ _ s
    unfold Builtin.Dict.showsAll
    rw [if_neg (by rw [hsys]; exact Bool.false_ne_true)]
    refine wpAny_bind (wpAny_pure ?_)
    refine wpAny_bind (wpAny_dictEpoch ha hd ?_)
    refine wpAny_bind (wpAny_dictEntries ha hd ?_)
    refine wpAny_bind ?_
    rw [Std.Legacy.Range.forIn_eq_forIn_range']
    refine wpAny_pure ?_
    refine wpAny_bind (wpAny_mkStr (wpAny_pure ?_) (by decide +kernel))
    exact h "{}" _ _ (by decide +kernel)
/-! ### in an f-string -/
theorem field_list {Q : Value → Shared → Prop} {a : Addr} {o : Obj} {x : Value} {l : List Value} {n : Nat} {ts : List Str} (hu : A.units + 2 < cLine) (ha : s.heap.get? a = some o) (hc : o.cls = .type "list") (hd : o.data = .seq (x :: l).toArray n) (hlen : ts.length = (x :: l).toArray.size)
    (hT : ∀ (i : Nat) (y : Value), (x :: l).toArray[i]? = some y → ∃ t, ts[i]? = some t ∧ ReprIs prog w y t) (hsz : (listText ts).length ≤ 900)
    (h : ∀ (m : Str) (u : Tok) (h' : Heap) (tk : Nat), m.length ≤ 1000 → (∀ b o, s.heap.get? b = some o → h'.get? b = some o) → Q (.str m u) { s with heap := h', toks := tk }) : wpAny (model prog w) A (formatField (.ref a) Str.empty) Q E s :=
  wpAny_formatField_slot (fun _ _ => nofun) hu ⟨o, ha, hc⟩ F.slot_list_format F.slot_list_str F.slot_list_repr.toG
    (list_repr_any (s := { s with toks := s.toks + 1 }) ha hc hd hlen hT hsz fun m u h' tk hm kp => ⟨m, u, rfl, h m u h' tk hm kp⟩)
theorem field_dict {Q : Value → Shared → Prop} {a : Addr} {o : Obj} {n : Nat} (hu : A.units + 2 < cLine) (ha : s.heap.get? a = some o) (hc : o.cls = .type "dict") (hd : o.data = .dict #[] n) (hsys : (a == sysModules) = false)
    (h : ∀ (m : Str) (u tk : Tok), m.length ≤ 1000 → Q (.str m u) { s with toks := tk }) : wpAny (model prog w) A (formatField (.ref a) Str.empty) Q E s :=
  wpAny_formatField_slot (fun _ _ => nofun) hu ⟨o, ha, hc⟩ F.slot_dict_format F.slot_dict_str F.slot_dict_repr
    (dict_repr_any (s := { s with toks := s.toks + 1 }) ha hc hd hsys fun m u tk hm => ⟨m, u, rfl, h m u tk hm⟩)
theorem field_tuple {Q : Value → Shared → Prop} {a : Addr} {o : Obj} {items : Array Value} {n : Nat} {ts : List Str} (hu : A.units + 2 < cLine) (ha : s.heap.get? a = some o) (hc : o.cls = .type "tuple") (hd : o.data = .seq items n) (hT : ReprAll prog w items.toList ts) (hsz : (tupleText ts).length ≤ 900)
    (h : ∀ (m : Str) (u tk : Tok), m.length ≤ 1000 → Q (.str m u) { s with toks := tk }) : wpAny (model prog w) A (formatField (.ref a) Str.empty) Q E s := by
  have line : 2000 ≤ sizeLine := by decide
  exact fmt_tuple hu ha hc hd hT (by omega) fun m u tk hm => h m u tk (by omega)
end
end KU
namespace KU
open PySem PySem.Spec PyProof.Rows L2
section
variable {X : Cx} {C fI cda cc : Addr} {qual f x : Str} {e : Expr}
/-- x(a), x the class's name, of any value that can be told -/
def tMkUpH (P : Program) (w : World) (T : Heap → Value → Prop) (C : Addr) (f : Str) (ta : TA) : L2.St → Hp → XK → Prop := fun σ H Q => ta σ H fun vs H1 => ∃ v, vs = [v] ∧ (∀ (h0 : Heap) v', HOk P w H1 h0 → RelV v v' → T h0 v') ∧ ∀ d, H1 d = none → Q (.ref C) (some d) (upd H1 d (.xd [(f, v)]))
theorem pmk_upH {a : Expr} {ta : TA} {p pos : Pos} {k : Nat} (T : UpTxt X.prog X.K C fI cda cc qual f e) (gC : X.mg x = some (.ref C)) (hr : Room k X.A) (ha : PA X [a] ta) (hg : Gl X x) (hdb : (x == ("__debug__" : Str)) = false := by decide)
    (he : starEach (a :: []) X.env = (false, eval a X.env) :: starEach [] X.env := by rfl) (hpl : (backTo pos (starEach [] X.env)).any (·.1) = false := by rfl) :
    PMk X (.Call (.Name x p) [a] [] pos) (tMkUpH X.prog X.w (fun h0 v => ∀ u0, u0 + 14 < cLine → TextAt X.prog X.w fI cda cc qual f e u0 h0 v) C f ta) := by
  intro pins s σ H Q I h
  refine wpAny_Call_Name_kw (ld_glob I hg gC ?_ hdb)
  refine PySem.W.callWith_K (h₀ := X.base) I.ok.mod.kin T.kC (thn (ha.run pos pins s σ H _ I h) fun us s1 hh => ?_) he hpl
  obtain ⟨vs, H1, I1, r1, v, rfl, ht, q1⟩ := hh
  refine ⟨I1.kIn, ?_⟩
  cases r1 with
  | cons rv rn =>
    rename_i v' us'
    cases rn
    show wpAny _ _ (call (.ref C) [v']) _ _ _
    obtain ⟨mb, b1, b2⟩ := I1.mod.blt
    have lim := I1.nolimit
    have glob := I1.mod.glob.keeps I1.bk
    have blt := b1.keeps I1.bk
    have dp := hr.dp
    have un := hr.un
    have hok := I1.hok
    obtain ⟨hp, g, dr, tk, os⟩ := s1
    refine wpAny_call (up_made T I1.kIn lim glob blt b2 (by omega) (ht _ v' hok rv X.A.units (by omega)) fun h' tk' a' d M => ?_)
    show MkP X pins σ Q (.ref a') ⟨h', g, dr, tk', os⟩
    obtain ⟨oe, fv, hoe, hc, hd, hdat, one⟩ := M.obj
    obtain ⟨G, in_, out⟩ := restrict h' fun b => decide (b ≠ a')
    have same : ∀ b, b ≠ a' → G.get? b = h'.get? b := fun b hb => in_ b (decide_eq_true hb)
    have gone : G.get? a' = none := out a' (by simp)
    have stay : ∀ b o, hp.get? b = some o → G.get? b = some o := fun b o z => (same b (Nat.ne_of_lt (Nat.lt_of_lt_of_le (Heap.lt_size z) M.new))).trans (M.keep b o z)
    have own : ObjOk X.prog X.w (upd H1 d (.xd [(f, v)])) G d (.xd [(f, v)]) := ⟨_, M.ns.at (fun o z => (same d M.ne).trans z), fun y => relO_up rv y⟩
    have J : Inv X pins σ (upd H1 d (.xd [(f, v)])) ⟨G, g, dr, tk', os⟩ := I1.laid (t' := tk') stay M.big own
    refine ⟨a', oe, fv, ⟨G, g, dr, tk', os⟩, _, .ref C, some d, rfl, J, fun b o z => ?_, gone, hoe, ⟨hc, hd⟩, hdat, one, ?_, rfl, I1.bare, raises_own T.exC T.tyC, q1 d (I1.hok.fresh M.big)⟩
    · have hb : b ≠ a' := fun y => by
        rw [y] at z
        exact absurd (gone.symm.trans z) (by simp)
      exact (same b hb).symm.trans z
    · rw [upd_ne (Ne.symm M.ne)]
      exact I1.hok.fresh M.new
/-- raise x(a) -/
theorem ps_raiseUpH {a : Expr} {ta : TA} {W : WX} {p pos pos2 : Pos} {k : Nat} (hc : X.calm = true) (T : UpTxt X.prog X.K C fI cda cc qual f e) (gC : X.mg x = some (.ref C)) (hr : Room k X.A) (tk : Takes X W) (ha : PA X [a] ta) (hg : Gl X x) (hdb : (x == ("__debug__" : Str)) = false := by decide)
    (he : starEach (a :: []) X.env = (false, eval a X.env) :: starEach [] X.env := by rfl) (hpl : (backTo pos (starEach [] X.env)).any (·.1) = false := by rfl) :
    PS X (.Raise (some (.Call (.Name x p) [a] [] pos)) none pos2) (fun _ σ H => tMkUpH X.prog X.w (fun h0 v => ∀ u0, u0 + 14 < cLine → TextAt X.prog X.w fI cda cc qual f e u0 h0 v) C f ta σ H fun cls d H' => W cls d σ H') := ps_raise hc tk (pmk_upH T gC hr ha hg hdb he hpl)
/-- a value of some kind that an error may tell of -/
inductive Sy (H : Hp) : V → Prop where
  | non : Sy H .non
  | zero : Sy H (.int 0)
  | str (y : Str) (h : y.length ≤ 100) : Sy H (.str y)
  | tup {a : Addr} {y : Str} (e : H a = some (.tup [.str y])) (h : (tupleText [reprText y]).length ≤ 900) : Sy H (.ref a)
  | lst {a : Addr} {y : Str} (e : H a = some (.lst [.str y])) (h : (listText [reprText y]).length ≤ 900) : Sy H (.ref a)
  | dK {a : Addr} (e : H a = some (.dK [])) : Sy H (.ref a)
theorem Sy.text {P : Program} {w : World} {H : Hp} {v : V} (s : Sy H v) {fI cda cc : Addr} {qual f z : Str} {j : Nat} {pc pn pf pj : Pos} (hd : f ≠ "__debug__") (h1 : z.length ≤ 1000) {h0 : Heap} {v' : Value} (ok : HOk P w H h0) (r : RelV v v') (u0 : Nat) (hu : u0 + 14 < cLine) :
    TextAt P w fI cda cc qual f (.JoinedStr [.Constant (.str z) j pc, .FormattedValue (.Name f pn) (-1) none pf] pj) u0 h0 v' := by
  have line : 2000 ≤ sizeLine := by decide
  cases s with
  | non =>
    obtain rfl : v' = Value.none := r
    exact textAt_of hd (fun A' E s' Q _ _ k => wpAny_formatField_none (k "None" _ s'.heap _ (by decide +kernel) fun _ _ e => e)) h1
  | zero =>
    obtain ⟨t, rfl⟩ := r
    exact textAt_of hd (fun A' E s' Q _ _ k => wpAny_formatField_int (by decide) (k _ _ s'.heap _ (by decide +kernel) fun _ _ e => e)) h1
  | str y h =>
    obtain ⟨t, rfl⟩ := r
    exact textAt_of hd (fun A' E s' Q _ _ k => wpAny_formatField_str (k _ _ s'.heap s'.toks (by omega) fun _ _ e => e) (k _ _ s'.heap _ (by omega) fun _ _ e => e) (by omega)) h1
  | tup e h =>
    obtain rfl : v' = Value.ref _ := r
    obtain ⟨_, its, rv, o, ho, hc, n, hdd⟩ := ok _ _ e
    obtain ⟨u, rfl, ru⟩ := vals1 rv
    obtain ⟨t, rfl⟩ := ru
    refine textAt_of hd (fun A' E s' Q hu' kp k => field_tuple (by omega) (kp _ _ ho) hc hdd (.cons (ReprIs.str _ t (Nat.le_trans (tupleText_mem_le (List.mem_singleton.mpr rfl)) (by omega))) .nil) h fun m u tk hm => k m u s'.heap tk hm fun _ _ e => e) h1
  | lst e h =>
    obtain rfl : v' = Value.ref _ := r
    obtain ⟨_, its, n, rv, ho⟩ := ok _ _ e
    obtain ⟨u, rfl, ru⟩ := vals1 rv
    obtain ⟨t, rfl⟩ := ru
    refine textAt_of hd (fun A' E s' Q hu' kp k => field_list (by omega) (kp _ _ ho) rfl rfl (ts := [_]) rfl (fun i y hy => ?_) h fun m u h' tk hm kp' => k m u h' tk hm kp') h1
    rcases i with _ | i
    · have hy := Option.some.inj hy
      subst hy
      exact ⟨_, rfl, ReprIs.str _ t (Nat.le_trans (listText_mem_le (List.mem_singleton.mpr rfl)) (by omega))⟩
    · simp at hy
  | dK e =>
    obtain rfl : v' = Value.ref _ := r
    obtain ⟨_, hsys, vs, rv, o, es, ep, ho, ed, hdd, ko, pr, nd⟩ := ok _ _ e
    cases rv
    have ee : es = #[] := by
      obtain ⟨l⟩ := es
      have pr : Pairs _ l [] := pr
      cases pr
      rfl
    subst ee
    exact textAt_of hd (fun A' E s' Q hu' kp k => field_dict (by omega) (kp _ _ ho) ed.1 hdd hsys fun m u tk hm => k m u s'.heap tk hm fun _ _ e => e) h1
end
end KU
/-! a text and a dict are not equal; x in texts, x of any kind that an error may tell of -/
namespace KEQ
open PySem PySem.Spec PyProof.Rows L2
open AutoSeq1 (wpAny_loadPart')
open SeqAt MeetsSeq MeetsSeq2 MeetsSeq3 SeqRoads2
theorem sub_dict_str : isSubtype (.type "dict") (.type "str") = pure false := by rw [isSubtype_type]; kernel_rfl
theorem str_eq_declines_dict (b : Str) (u : Tok) (l : Addr) (es : Array DictEntry) (n : Nat) (dd : Option Addr) (sl : Array (Option Value)) :
    Meets (Builtin.«str.__eq__» ⟨[.str b u, .ref l], []⟩) (fun _ R s => s.heap.get? l = some { cls := .type "dict", dict := dd, data := .dict es n, slots := sl } ∧ R (.ok (.ret .notImplemented)) s) :=
  .of_wp fun prog w A R s h => by obtain ⟨hp, g, d, tk, os⟩ := s; obtain ⟨hl, h⟩ := h; have f1 := sub_dict_str; wp_walk using wpAny_loadPart' hl, wpAny_load hl; exact ⟨_, rfl, h⟩
theorem dict_eq_declines_str (l : Addr) (es : Array DictEntry) (n : Nat) (dd : Option Addr) (sl : Array (Option Value)) (b : Str) (u : Tok) :
    Meets (Builtin.«dict.__eq__» ⟨[.ref l, .str b u], []⟩) (fun _ R s => s.heap.get? l = some { cls := .type "dict", dict := dd, data := .dict es n, slots := sl } ∧ R (.ok (.ret .notImplemented)) s) :=
  .of_wp fun prog w A R s h => by obtain ⟨hp, g, d, tk, os⟩ := s; obtain ⟨hl, h⟩ := h; have f1 := F.sub_str_dict; wp_walk using wpAny_loadPart' hl; exact ⟨_, rfl, h⟩
section
variable {A : Around} {s : Shared}
theorem rc_str_dict {l : Addr} {o : Obj} {es : Array DictEntry} {n : Nat} (b : Str) (u : Tok) (ho : s.heap.get? l = some o) (hc : o.cls = .type "dict") (hd : o.data = .dict es n) (hu : A.units < cLine) : RcAt A s (.str b u) (.ref l) false := fun prog w E Q h => by
  obtain ⟨cls, dd, data, sl⟩ := o
  simp only at hc hd
  subst hc hd
  exact rc_eq_decline_or (k := false) (typeIs_str s b u) ⟨_, ho, rfl⟩ (by decide) sub_dict_str F.slot_str_eq F.slot_dict_eq_refl
    (fun _ hq => call_meets F.slot_str_eq (typeIs_str s b u) F.entry_str_eq (F.args_str_eq_2 _ _) (str_eq_declines_dict b u l es n dd sl) ⟨ho, hq⟩)
    (fun _ hq => call_meets F.slot_dict_eq_refl ⟨_, ho, rfl⟩ F.entry_dict_eq (F.args_dict_eq_2 _ _) (dict_eq_declines_str l es n dd sl b u) ⟨ho, hq⟩)
    (fun _ hq => wpAny_of_eq (rfl : isSame (.str b u) (.ref l) = pure false) hq) (.inr hu) h
theorem eq_str_dict {l : Addr} {o : Obj} {es : Array DictEntry} {n : Nat} (b : Str) (u : Tok) (ho : s.heap.get? l = some o) (hc : o.cls = .type "dict") (hd : o.data = .dict es n) (hu : A.units < cLine) : EqAt A s (.str b u) (.ref l) false := fun prog w E Q h => by
  unfold eqBool
  refine wpAny_holding ?_
  refine wpAny_ite_split (fun hab => absurd (eq_of_beq hab) nofun) (fun _ => ?_)
  exact wpAny_bind (rc_str_dict b u ho hc hd hu prog w E _ (wpAny_truthy_bool h))
end
/-- x is one of these texts -/
def inY (x : V) (ms : List Str) : Bool := match x with
  | .str z => ms.any fun y => y == z
  | _ => false
def eY (x : V) : Value → Bool
  | .str b _ => (match x with | .str z => b == z | _ => false)
  | _ => false
theorem any_eY {x : V} : ∀ {ms : List Str} {its : List Value}, Vals (ms.map V.str) its → its.any (eY x) = inY x ms
  | [], [], _ => by cases x <;> rfl
  | m :: ms, _, .cons r t => by
    obtain ⟨k, rfl⟩ := r
    rw [List.any_cons, any_eY t]
    cases x with
    | str z =>
      show ((m == z) || (ms.any fun y => y == z)) = ((m :: ms).any fun y => y == z)
      rw [List.any_cons]
    | _ => rfl
theorem eY_at {X : Cx} {A : Around} {pins : List (Addr × Obj)} {σ : L2.St} {H : Hp} {s : Shared} {x : V} {v : Value} (I : Inv X pins σ H s) (rx : RelV x v) (sy : KU.Sy H x) (hu : A.units < cLine) {b : Str} {u : Tok} : EqAt A s (.str b u) v (eY x (.str b u)) := by
  cases sy with
  | non =>
    obtain rfl : v = Value.none := rx
    exact EqAt.str_none b u
  | zero =>
    obtain ⟨t, rfl⟩ := rx
    exact EqAt.str_int b u _ _
  | str y h =>
    obtain ⟨t, rfl⟩ := rx
    exact EqAt.str_str b u _ _
  | tup e h =>
    obtain rfl : v = Value.ref _ := rx
    obtain ⟨_, its, rv, tt⟩ := I.hok _ _ e
    exact EqAt.str_tuple b u tt hu
  | lst e h =>
    obtain rfl : v = Value.ref _ := rx
    obtain ⟨its, rv, pl, _⟩ := I.list (SqL.of e)
    exact EqAt.str_list b u pl.isList hu
  | dK e =>
    obtain rfl : v = Value.ref _ := rx
    obtain ⟨_, hsys, vs, rv, o, es, ep, ho, ed, hdd, _⟩ := I.hok _ _ e
    exact eq_str_dict b u ho ed.1 hdd hu
def rNotInY (K : PySem.W.Frag) : R2 := fun x y H Q => ∃ p ms, y = .ref p ∧ SqL K H p (ms.map V.str) ∧ KU.Sy H x ∧ Q (.bl (!inY x ms)) H
theorem op_notInY {X : Cx} (hu : X.A.units + 65 < cLine) : OpR X (compareOp .NotIn) (rNotInY X.K) := by
  intro pins s σ H x y v u Q I rx ry h
  obtain ⟨p, ms, rfl, hq, sy, q⟩ := h
  cases ry
  obtain ⟨its, r, pl, hz⟩ := I.list hq
  refine SeqAt.notIn_listAt (eY x) pl.isList (fun w hw => ?_) ⟨.bl _, H, I, rfl, ?_⟩
  · have hw : w ∈ its := by simpa using hw
    obtain ⟨i, hi, e⟩ := List.mem_iff_getElem.mp hw
    have hi2 : i < (ms.map V.str).length := by rw [r.length]; exact hi
    obtain ⟨w', e1, r1⟩ := r.get (i := i) (List.getElem?_eq_getElem hi2)
    rw [List.getElem?_eq_getElem hi] at e1
    have e2 := Option.some.inj e1
    rw [e] at e2
    subst e2
    rw [List.getElem_map] at r1
    obtain ⟨t, rfl⟩ := r1
    exact eY_at I rx sy (by show X.A.units + 1 < cLine; omega)
  · rw [show its.toArray.any (eY x) = its.any (eY x) by simp, any_eY r]
    exact q
end KEQ
namespace K05
open PySem PySem.Spec PyProof.Rows L2 PySem.W LamX KA KW KU KL KT
open Evl (pss_cut tCut)
/-! ### what is checked -/
/-- x is a shape with these parts -/
def Sv (C : Addr) (H : Hp) (x : V) (h w : Nat) (lo hi : Int) : Prop := ∃ (a dx : Addr), x = .ref a ∧ H a = some (.ins C dx (shapeFs (h : Int) (w : Int) lo hi)) ∧ 1 ≤ h ∧ h ≤ 16 ∧ 1 ≤ w ∧ w ≤ 16 ∧ -512 ≤ lo ∧ lo ≤ hi ∧ hi ≤ 511
theorem Sv.keep {C : Addr} {H H' : Hp} {x : V} {h w : Nat} {lo hi : Int} (p : Sv C H x h w lo hi) (s : Same H H') : Sv C H' x h w lo hi := by
  obtain ⟨a, dx, rfl, e, q⟩ := p
  exact ⟨a, dx, rfl, s _ _ e, q⟩
theorem Sv.sh {C : Addr} {H : Hp} {x : V} {h w : Nat} {lo hi : Int} (p : Sv C H x h w lo hi) : Sh C H x (h : Int) (w : Int) lo hi := by
  obtain ⟨a, dx, rfl, e, q⟩ := p
  exact ⟨a, dx, rfl, e⟩
theorem Sv.shp {C : Addr} {H : Hp} {x : V} {h w : Nat} {lo hi : Int} (p : Sv C H x h w lo hi) : Shp C H x h w := by
  obtain ⟨a, dx, rfl, e, q⟩ := p
  exact ⟨a, dx, lo, hi, rfl, e, q⟩
theorem Sv.b {C : Addr} {H : Hp} {x : V} {h w : Nat} {lo hi : Int} (p : Sv C H x h w lo hi) : 1 ≤ h ∧ h ≤ 16 ∧ 1 ≤ w ∧ w ≤ 16 ∧ -512 ≤ lo ∧ lo ≤ hi ∧ hi ≤ 511 := by
  obtain ⟨a, dx, rfl, e, q⟩ := p
  exact q
/-- no shape -/
inductive NoS (H : Hp) : V → Prop where
  | int (i : Int) : NoS H (.int i)
  | str (s : Str) : NoS H (.str s)
  | non : NoS H .non
  | tup {a : Addr} {xs : List V} (e : H a = some (.tup xs)) : NoS H (.ref a)
theorem NoS.keep {H H' : Hp} {x : V} (h : NoS H x) (s : Same H H') : NoS H' x := by
  cases h with
  | int i => exact .int i
  | str i => exact .str i
  | non => exact .non
  | tup e => exact .tup (s _ _ e)
theorem NoS.ty {K : PySem.W.Frag} {mg : Str → Option Value} {H : Hp} {x : V} (S : ShapeT K mg) (kT : PySem.W.kitOne K (.type "tuple") (.ref S.C) = some false) (h : NoS H x) : ∃ t, TyX K H x t ∧ PySem.W.kitOne K t (.ref S.C) = some false := by
  cases h with
  | int i => exact ⟨_, .base (.int i), S.kI⟩
  | str i => exact ⟨_, .base (.str i), S.kS⟩
  | non => exact ⟨_, .base .non, S.kN⟩
  | tup e => exact ⟨_, .base (.tup e), kT⟩
def ShOr (C CB : Addr) (good : Nat → Nat → Int → Int → Prop) (x : V) (H : Hp) (E : XK) : Prop := (∃ h w lo hi, Sv C H x h w lo hi ∧ good h w lo hi) ∨ (NoS H x ∧ noShape CB H E)
/-- what is known of the error of a mode -/
structure BadModeT (P : Program) (w : World) (K : PySem.W.Frag) (mg : Str → Option Value) (R : Addr) where
  C : Addr
  fI : Addr
  cda : Addr
  cc : Addr
  e : Expr
  g : mg "BadMode" = some (.ref C)
  u : UpTxt P K C fI cda cc "BadMode.__init__" "mode" e
  r : PySem.W.subIn K (.ref C) (.ref R) = some true
  x : ExcC K C
  say : ∀ {H : Hp} {v : V} {h0 : Heap} {v' : Value}, Sy H v → HOk P w H h0 → RelV v v' → ∀ u0, u0 + 14 < cLine → TextAt P w fI cda cc "BadMode.__init__" "mode" e u0 h0 v'
theorem bm_exm {P : Program} {w : World} {K : PySem.W.Frag} {mg : Str → Option Value} (R : ReelT K mg) (S : BadModeT P w K mg R.C) : PySem.W.exmOne K (.ref S.C) (.ref R.C) = some true := PySem.W.exm_ref R.b R.d R.t S.r
/-- the modes as texts -/
def modesX (b : Bk) : List Str := [("flat" : Str)] ++ (if 0 < b.l then [("left" : Str)] else []) ++ (if 0 < b.t then [("up" : Str)] else []) ++ (if 0 < b.l ∧ 0 < b.t then [("middle" : Str)] else []) ++ (if 0 < b.l ∨ 0 < b.t then [("mean" : Str)] else [])
theorem modesX_V (b : Bk) : (modesX b).map V.str = modesW b := by
  have h1 : ∀ (c : Prop) [Decidable c] (x : Str), (if c then [x] else []).map V.str = if c then [V.str x] else [] := fun c _ x => by split <;> rfl
  unfold modesX modesW
  rw [List.map_append, List.map_append, List.map_append, List.map_append, h1, h1, h1, h1]
  rfl
theorem inY_iff {b : Bk} {x : V} : KEQ.inY x (modesX b) = true ↔ ∃ m : Md, x = .str m.s ∧ m.ok b := by
  constructor
  · intro e
    cases x with
    | str z =>
      have e : ((modesX b).any fun y => y == z) = true := e
      obtain ⟨y, hy, ey⟩ := List.any_eq_true.mp e
      have ey : y = z := eq_of_beq ey
      subst ey
      have one : ∀ (c : Prop) [Decidable c] (x : Str), y ∈ (if c then [x] else []) → c ∧ y = x := fun c _ x h => by
        split at h
        · rename_i hc
          exact ⟨hc, List.mem_singleton.mp h⟩
        · simp at h
      unfold modesX at hy
      rcases List.mem_append.mp hy with hy | hy
      · rcases List.mem_append.mp hy with hy | hy
        · rcases List.mem_append.mp hy with hy | hy
          · rcases List.mem_append.mp hy with hy | hy
            · exact ⟨.flat, by rw [List.mem_singleton.mp hy]; rfl, trivial⟩
            · obtain ⟨c, rfl⟩ := one _ _ hy
              exact ⟨.left, rfl, c⟩
          · obtain ⟨c, rfl⟩ := one _ _ hy
            exact ⟨.up, rfl, c⟩
        · obtain ⟨c, rfl⟩ := one _ _ hy
          exact ⟨.middle, rfl, c⟩
      · obtain ⟨c, rfl⟩ := one _ _ hy
        exact ⟨.mean, rfl, c⟩
    | _ => cases e
  · rintro ⟨m, rfl, ok⟩
    show ((modesX b).any fun y => y == m.s) = true
    refine List.any_eq_true.mpr ⟨m.s, ?_, beq_self_eq_true _⟩
    unfold modesX
    cases m with
    | flat => exact List.mem_append_left _ (List.mem_append_left _ (List.mem_append_left _ (List.mem_append_left _ (List.mem_singleton.mpr rfl))))
    | left => exact List.mem_append_left _ (List.mem_append_left _ (List.mem_append_left _ (List.mem_append_right _ (by rw [if_pos (show 0 < b.l from ok)]; exact List.mem_singleton.mpr rfl))))
    | up => exact List.mem_append_left _ (List.mem_append_left _ (List.mem_append_right _ (by rw [if_pos (show 0 < b.t from ok)]; exact List.mem_singleton.mpr rfl)))
    | middle => exact List.mem_append_left _ (List.mem_append_right _ (by rw [if_pos (show 0 < b.l ∧ 0 < b.t from ok)]; exact List.mem_singleton.mpr rfl))
    | mean => exact List.mem_append_right _ (by rw [if_pos (show 0 < b.l ∨ 0 < b.t from ok)]; exact List.mem_singleton.mpr rfl)
def spCheckS5 (C CB : Addr) : Sp := fun vs H Q E => ∃ x, vs = [x] ∧ ShOr C CB (fun _ _ _ _ => Q .non H) x H E
def spCheckM (CM : Addr) : Sp := fun vs H Q E => ∃ (p : Addr) (b : Bk) (x : V), vs = [.ref p, x] ∧ H p = some (.tup (bkV b)) ∧ Sy H x ∧ (KEQ.inY x (modesX b) = true → ∀ H', Same H H' → Q .non H') ∧ (KEQ.inY x (modesX b) = false → ∀ H' d, Same H H' → H' d = none → E (.ref CM) (some d) (upd H' d (.xd [("mode", x)])))
def spCheckP (K : PySem.W.Frag) (C CP : Addr) : Sp := fun vs H Q E => ∃ (x y : V) (o : Option (List (Option (List V)))) (h w : Nat) (lo hi : Int), vs = [x, y] ∧ Sv C H x h w lo hi ∧ Th K H y o ∧ (planeB o h w lo hi = true → ∀ H', Same H H' → Q .non H') ∧ (planeB o h w lo hi = false → ∀ H', Same H H' → E (.ref CP) none H')
section
variable {P : Program} {w : World} {K : PySem.W.Frag} {mg : Str → Option Value} {base : Heap} (T : Top K mg) (SH : ShapeT K mg) (BE : BadShapeT P w K mg T.reel.C) (Z : SzT K mg)
variable (BM : BadModeT P w K mg T.reel.C) (kT : PySem.W.kitOne K (.type "tuple") (.ref SH.C) = some false)
include kT in
theorem ok_check5 : FnOk P w K mg base (L2.CX P w) 4 T.check_shape.a T.check_shape.d ["shape"] (spCheckS5 SH.C BE.C) := by
  refine T.check_shape.f.okX sc_check_shape (fun vs H Q E h => ?_) (fun cdv A outer s H vs Q E hr h => ?_)
  · obtain ⟨x, rfl, _⟩ := h
    rfl
  · obtain ⟨x, rfl, h⟩ := h
    refine ⟨_, pss_one (ps_if (pt_not (pt_val (pe_callB call_isi (by rfl) T.b_isinstance PyProof.Rows.boot_isinstance (pa_cons (pv 0) (pa_cons (pe_glob (v := .ref SH.C) (by rfl) SH.g rfl) pa_nil)))))
      (pss_one (ps_raiseUp rfl BE.u BE.g hr (takes_of rfl rfl rfl rfl) (pa_cons pe_non pa_nil) (by rfl))) pss_nil), ?_⟩
    rcases h with ⟨ht, wd, lo, hi, ⟨a, dx, rfl, ha, _⟩, k⟩ | ⟨ho, k⟩
    · exact ⟨_, rfl, _, _, _, _, true, rfl, .own _, .base (.ins ha SH.i.cl SH.i.ha SH.i.hn SH.i.htk SH.i.hm), SH.i.me, _, rfl, iteF k⟩
    · obtain ⟨t, ht, hk⟩ := ho.ty SH kT
      refine ⟨_, rfl, x, _, _, _, false, rfl, .own _, ht, hk, _, rfl, iteT ⟨_, rfl, fun v' r => ?_, k⟩⟩
      cases r
      exact BE.sayN
theorem ok_check_mode : FnOk P w K mg base (L2.CX P w) 5 T.check_mode.a T.check_mode.d ["block", "mode"] (spCheckM BM.C) := by
  refine T.check_mode.f.okX sc_check_mode (fun vs H Q E h => ?_) (fun cdv A outer s H vs Q E hr h => ?_)
  · obtain ⟨p, b, x, rfl, _⟩ := h
    rfl
  · obtain ⟨p, b, x, rfl, hp, sy, k1, k2⟩ := h
    refine ⟨_, pss_one (ps_if (pt_cmpR (KEQ.op_notInY (hu65 hr)) (pv 1) (pe_call (ok_modes_within T) (hr.mono (by decide)) (by rfl) T.modes_within.m T.modes_within.f.kp (bd_modes_within T) .nil passE (pa_cons (pv 0) pa_nil)) (by rfl))
      (pss_one (ps_raiseUpH rfl BM.u BM.g hr (takes_of rfl rfl rfl rfl) (pa_cons (pv 1) pa_nil) (by rfl))) pss_nil), ?_⟩
    refine ⟨_, rfl, _, rfl, p, b, rfl, hp, fun q H' s' nq eq => ?_⟩
    have sy' : Sy H' x := by
      cases sy with
      | non => exact .non
      | zero => exact .zero
      | str y h => exact .str y h
      | tup e h => exact .tup (s' _ _ e) h
      | lst e h => exact .lst (s' _ _ e) h
      | dK e => exact .dK (s' _ _ e)
    refine ⟨q, modesX b, rfl, by rw [modesX_V]; exact SqL.of eq, sy', _, rfl, ?_⟩
    cases hI : KEQ.inY x (modesX b)
    · exact iteT ⟨_, rfl, _, rfl, fun h0 v' ok r => BM.say sy' ok r, fun d hd => k2 hI H' d s' hd⟩
    · exact iteF (k1 hI H' s')
theorem ok_check_plane : FnOk P w K mg base (L2.CX P w) 5 T.check_plane.a T.check_plane.d ["shape", "plane"] (spCheckP K SH.C T.BadPlane.C) := by
  refine T.check_plane.f.okX sc_check_plane (fun vs H Q E h => ?_) (fun cdv A outer s H vs Q E hr h => ?_)
  · obtain ⟨x, y, o, h, w, lo, hi, rfl, _⟩ := h
    rfl
  · obtain ⟨x, y, o, h, wn, lo, hi, rfl, sv, th, k1, k2⟩ := h
    refine ⟨_, pss_one (ps_if (pt_not (pt_val (pe_call (ok_fits T SH) (hr.mono (by decide)) (by rfl) T.fits_shape.m T.fits_shape.f.kp (bd_fits_shape T) .nil passE (pa_cons (pv 0) (pa_cons (pv 1) pa_nil))))) (pss_one (ps_raiseT rfl rfl T.BadPlane (by rfl) rfl (takes_of rfl rfl rfl rfl))) pss_nil), ?_⟩
    refine ⟨_, rfl, _, rfl, x, y, o, _, _, lo, hi, rfl, sv.sh, th, fun H' s' => ⟨_, rfl, ?_⟩⟩
    cases hI : planeB o h wn lo hi
    · exact iteT (k2 hI H' s')
    · exact iteF (k1 hI H' s')
end
end K05
namespace K05
open PySem PySem.Spec PyProof.Rows L2 PySem.W LamX KA KW KU KL KT
open Evl (pss_cut tCut)
/-! ### what the law calls -/
theorem rw_bk {K : PySem.W.Frag} {H : Hp} {y : V} {b : Bk} (r : Rw K H y (some (bkV b))) : ∃ p, y = .ref p ∧ H p = some (.tup (bkV b)) := by
  cases r with
  | tup e _ _ => exact ⟨_, rfl, e⟩
theorem plane_good {K : PySem.W.Frag} {H : Hp} {x : V} {o : Option (List (Option (List V)))} {h w : Nat} {lo hi : Int} (t : Th K H x o) (g : planeB o (h : Int) (w : Int) lo hi = true) : ∃ a nss, x = .ref a ∧ Pn H a nss w ∧ nss.length = h ∧ betB nss lo hi = true ∧ o = some (nss.map fun ns => some (ns.map V.int)) := by
  have g' := g
  unfold planeB at g'
  rw [Bool.and_eq_true] at g'
  obtain ⟨a, nss, wn, rfl, pn, rfl⟩ := t.good g'.1
  have g2 := g'.2
  dsimp only at g2
  rw [betB_in, pn.width, List.length_map, Bool.and_eq_true, Bool.and_eq_true, decide_eq_true_eq, decide_eq_true_eq] at g2
  obtain ⟨⟨g3, g4⟩, g5⟩ := g2
  have e : wn = w := by omega
  subst e
  exact ⟨a, nss, rfl, pn, by omega, g5, rfl⟩
/-- the spots that are read -/
def readsM (m : Md) (h w : Nat) (b : Bk) : List (Nat × Nat) := match m with
  | .flat => []
  | .left => leftE h b
  | .up => upE w b
  | .middle => [(b.t - 1, b.l - 1)] ++ upE w b ++ leftE h b
  | .mean => upE w b ++ leftE h b
/-- a block, or what raises that it is none -/
def BkOr (K : PySem.W.Frag) (CK : Addr) (h w : Nat) (y : V) (H : Hp) (E : XK) (good : Addr → Bk → Prop) : Prop := ∃ o, Rw K H y o ∧ (blkB h w o = false → E (.ref CK) none H) ∧ ∀ p b, y = .ref p → H p = some (.tup (bkV b)) → Vb h w b → good p b
/-- a mode, or what raises that it is none -/
def MdOr (CM : Addr) (b : Bk) (x : V) (H : Hp) (E : XK) (good : Md → Prop) : Prop := Sy H x ∧ (KEQ.inY x (modesX b) = false → ∀ H' d, Same H H' → H' d = none → E (.ref CM) (some d) (upd H' d (.xd [("mode", x)]))) ∧ ∀ m : Md, x = .str m.s → m.ok b → good m
def spModesAt (K : PySem.W.Frag) (C CB CK CN : Addr) : Sp := fun vs H Q E => ∃ x y z, vs = [x, y, z] ∧ ShOr C CB (fun h w _ _ => BkOr K CK h w y H E fun p b => ∃ zb, Pl K H z zb ∧ (within z 0 2 = false → E (.ref CN) none H) ∧ ∀ n : Nat, z = .int (n : Int) → n ≤ 2 → ∀ q H', Same H H' → H q = none → H' q = some (.lst (modesS b n)) → Q (.ref q) H') x H E
def spGuess (K : PySem.W.Frag) (C CB CK CM CP : Addr) : Sp := fun vs H Q E => ∃ x y md pl, vs = [x, y, md, pl] ∧ ShOr C CB (fun h w lo hi => BkOr K CK h w y H E fun p b => MdOr CM b md H E fun m => ∃ op, Th K H pl op ∧ (planeB op h w lo hi = false → ∀ H', Same H H' → E (.ref CP) none H') ∧
  ∀ a nss, pl = .ref a → Pn H a nss w → nss.length = h → betB nss lo hi = true → ∀ q H', Same H H' → H' q = some (.tup ((guessM m h w ((lo + hi) / 2) b nss).map V.int)) → Q (.ref q) H') x H E
def spReads (K : PySem.W.Frag) (C CB CK CM : Addr) : Sp := fun vs H Q E => ∃ x y md, vs = [x, y, md] ∧ ShOr C CB (fun h w _ _ => BkOr K CK h w y H E fun p b => MdOr CM b md H E fun m => ∀ q us H', Same H H' → H q = none → H' q = some (.lst us) → RL dotV H' us (readsM m h w b) → Q (.ref q) H') x H E
section
variable {P : Program} {w : World} {K : PySem.W.Frag} {mg : Str → Option Value} {base : Heap} (T : Top K mg) (SH : ShapeT K mg) (BE : BadShapeT P w K mg T.reel.C) (Z : SzT K mg)
variable (BM : BadModeT P w K mg T.reel.C) (kT : PySem.W.kitOne K (.type "tuple") (.ref SH.C) = some false)
include BE Z kT
theorem ok_modes_at : FnOk P w K mg base (L2.CX P w) 6 T.modes_at.a T.modes_at.d ["shape", "block", "kind"] (spModesAt K SH.C BE.C T.BadBlock.C T.BadKind.C) := by
  refine T.modes_at.f.okX sc_modes_at (fun vs H Q E h => ?_) (fun cdv A outer s H vs Q E hr h => ?_)
  · obtain ⟨x, y, z, rfl, _⟩ := h
    rfl
  · obtain ⟨x, y, z, rfl, h⟩ := h
    refine ⟨_, (pss_cons (ps_expr (pe_call (ok_check5 T SH BE kT) (hr.mono (by decide)) (by rfl) T.check_shape.m T.check_shape.f.kp (bd_check_shape T) .nil (passX rfl rfl rfl rfl) (pa_cons (pv 0) pa_nil)))
      (pss_cons (ps_expr (pe_call (ok_check_block T SH Z) (hr.mono (by decide)) (by rfl) T.check_block.m T.check_block.f.kp (bd_check_block T) .nil (passX rfl rfl rfl rfl) (pa_cons (pv 0) (pa_cons (pv 1) pa_nil))))
      (pss_cons (ps_if (pt_not (pt_val (pe_call (ok_is_within T) (hr.mono (by decide)) (by rfl) T.is_within.m T.is_within.f.kp (bd_is_within T) .nil passE (pa_cons (pv 2) (pa_cons pe_int (pa_cons pe_int pa_nil)))))) (pss_one (ps_raiseT rfl rfl T.BadKind (by rfl) rfl (takes_of rfl rfl rfl rfl))) pss_nil)
      (pss_one (ps_ret (pe_call (ok_modes_standing T) (hr.mono (by decide)) (by rfl) T.modes_standing.m T.modes_standing.f.kp (bd_modes_standing T) .nil passE (pa_cons (pv 1) (pa_cons (pv 2) pa_nil)))))))), ?_⟩
    rcases h with ⟨h, wn, lo, hi, sv, k⟩ | ⟨os, k⟩
    case inr => exact ⟨_, rfl, x, rfl, .inr ⟨os, k⟩⟩
    refine ⟨_, rfl, x, rfl, .inl ⟨h, wn, lo, hi, sv, ?_⟩⟩
    obtain ⟨o, ro, k1, k2⟩ := k
    refine ⟨_, rfl, _, rfl, x, y, o, h, wn, rfl, sv.shp, ro, fun e => ?_, k1⟩
    obtain ⟨b, vb, rfl⟩ := blkB_iff.mp e
    obtain ⟨p, rfl, ep⟩ := rw_bk ro
    obtain ⟨zb, pz, k3, k4⟩ := k2 p b rfl ep vb
    refine ⟨_, rfl, z, zb, 0, 2, rfl, pz, _, rfl, ?_⟩
    cases hw : within z 0 2
    · exact iteT (k3 hw)
    · obtain ⟨i, rfl, i1, i2⟩ := within_int hw
      obtain ⟨n, rfl⟩ : ∃ n : Nat, i = (n : Int) := ⟨i.toNat, by omega⟩
      exact iteF ⟨_, rfl, _, rfl, p, b, n, rfl, ep, fun q H' s n' e' => k4 n rfl (by omega) q H' s n' e'⟩
include BM
theorem ok_guess : FnOk P w K mg base (L2.CX P w) 6 T.guess.a T.guess.d ["shape", "block", "mode", "plane"] (spGuess K SH.C BE.C T.BadBlock.C BM.C T.BadPlane.C) := by
  refine T.guess.f.okX sc_guess (fun vs H Q E h => ?_) (fun cdv A outer s H vs Q E hr h => ?_)
  · obtain ⟨x, y, md, pl, rfl, _⟩ := h
    rfl
  · obtain ⟨x, y, md, pl, rfl, h⟩ := h
    refine ⟨_, (pss_cons (ps_expr (pe_call (ok_check5 T SH BE kT) (hr.mono (by decide)) (by rfl) T.check_shape.m T.check_shape.f.kp (bd_check_shape T) .nil (passX rfl rfl rfl rfl) (pa_cons (pv 0) pa_nil)))
      (pss_cons (ps_expr (pe_call (ok_check_block T SH Z) (hr.mono (by decide)) (by rfl) T.check_block.m T.check_block.f.kp (bd_check_block T) .nil (passX rfl rfl rfl rfl) (pa_cons (pv 0) (pa_cons (pv 1) pa_nil))))
      (pss_cons (ps_expr (pe_call (ok_check_mode T BM) (hr.mono (by decide)) (by rfl) T.check_mode.m T.check_mode.f.kp (bd_check_mode T) .nil (passX rfl rfl rfl rfl) (pa_cons (pv 1) (pa_cons (pv 2) pa_nil))))
      (pss_cons (ps_expr (pe_call (ok_check_plane T SH) (hr.mono (by decide)) (by rfl) T.check_plane.m T.check_plane.f.kp (bd_check_plane T) .nil (passX rfl rfl rfl rfl) (pa_cons (pv 0) (pa_cons (pv 3) pa_nil))))
      (pss_one (ps_ret (pe_call (ok_guesses_of T SH) (hr.mono (by decide)) (by rfl) T.guesses_of.m T.guesses_of.f.kp (bd_guesses_of T) .nil passE (pa_cons (pv 0) (pa_cons (pv 1) (pa_cons (pv 2) (pa_cons (pv 3) pa_nil))))))))))), ?_⟩
    rcases h with ⟨h, wn, lo, hi, sv, k⟩ | ⟨os, k⟩
    case inr => exact ⟨_, rfl, x, rfl, .inr ⟨os, k⟩⟩
    refine ⟨_, rfl, x, rfl, .inl ⟨h, wn, lo, hi, sv, ?_⟩⟩
    obtain ⟨o, ro, k1, k2⟩ := k
    refine ⟨_, rfl, _, rfl, x, y, o, h, wn, rfl, sv.shp, ro, fun e => ?_, k1⟩
    obtain ⟨b, vb, rfl⟩ := blkB_iff.mp e
    obtain ⟨p, rfl, ep⟩ := rw_bk ro
    obtain ⟨sy, k3, k4⟩ := k2 p b rfl ep vb
    refine ⟨_, rfl, _, rfl, p, b, md, rfl, ep, sy, fun hI H1 s1 => ?_, fun hI H' d s' hd => k3 hI H' d s' hd⟩
    obtain ⟨m, rfl, mk⟩ := inY_iff.mp hI
    obtain ⟨op, th, k5, k6⟩ := k4 m rfl mk
    refine ⟨_, rfl, _, rfl, x, pl, op, h, wn, lo, hi, rfl, sv.keep s1, th.keep s1, fun hp H2 s2 => ?_, fun hp H2 s2 => k5 hp H2 (s1.trans s2)⟩
    obtain ⟨a, nss, rfl, pn, ln, bt, _⟩ := plane_good th hp
    have s12 := s1.trans s2
    exact ⟨_, rfl, _, rfl, _, rfl, _, rfl, x, p, a, b, h, wn, lo, hi, m, nss, rfl, (sv.keep s12).sh, (sv.keep s12).shp, s12 _ _ ep, vb, mk, pn.keep s12, ln, fun q H' s' _ e' => k6 a nss rfl pn ln bt q H' (s12.trans s') e'⟩
theorem ok_reads_within : FnOk P w K mg base (L2.CX P w) 6 T.reads_within.a T.reads_within.d ["shape", "block", "mode"] (spReads K SH.C BE.C T.BadBlock.C BM.C) := by
  refine T.reads_within.f.okX sc_reads_within (fun vs H Q E h => ?_) (fun cdv A outer s H vs Q E hr h => ?_)
  · obtain ⟨x, y, md, rfl, _⟩ := h
    rfl
  · obtain ⟨x, y, md, rfl, h⟩ := h
    refine ⟨_, (pss_cons (ps_expr (pe_call (ok_check5 T SH BE kT) (hr.mono (by decide)) (by rfl) T.check_shape.m T.check_shape.f.kp (bd_check_shape T) .nil (passX rfl rfl rfl rfl) (pa_cons (pv 0) pa_nil)))
      (pss_cons (ps_expr (pe_call (ok_check_block T SH Z) (hr.mono (by decide)) (by rfl) T.check_block.m T.check_block.f.kp (bd_check_block T) .nil (passX rfl rfl rfl rfl) (pa_cons (pv 0) (pa_cons (pv 1) pa_nil))))
      (pss_cons (ps_expr (pe_call (ok_check_mode T BM) (hr.mono (by decide)) (by rfl) T.check_mode.m T.check_mode.f.kp (bd_check_mode T) .nil (passX rfl rfl rfl rfl) (pa_cons (pv 1) (pa_cons (pv 2) pa_nil))))
      (pss_cons (ps_if (pt_cmpR op_eq (pv 2) pe_str (nomark _)) (pss_one (ps_ret (pe_call (ok_left_edge T SH) (hr.mono (by decide)) (by rfl) T.left_edge.m T.left_edge.f.kp (bd_left_edge T) .nil passE (pa_cons (pv 0) (pa_cons (pv 1) pa_nil))))) pss_nil)
      (pss_cons (ps_if (pt_cmpR op_eq (pv 2) pe_str (nomark _)) (pss_one (ps_ret (pe_call (ok_upper_edge T SH) (hr.mono (by decide)) (by rfl) T.upper_edge.m T.upper_edge.f.kp (bd_upper_edge T) .nil passE (pa_cons (pv 0) (pa_cons (pv 1) pa_nil))))) pss_nil)
      (pss_cons (ps_if (pt_cmpR op_eq (pv 2) pe_str (nomark _)) (pss_one (ps_ret (pe_op op_cat (pe_op op_cat (pe_lst (pa_cons (pe_tup (pa_cons (pe_op op_sub (pe_ix ix_tup (pv 1) pe_int (fun _ _ => rfl)) pe_int) (pa_cons (pe_op op_sub (pe_ix ix_tup (pv 1) pe_int (fun _ _ => rfl)) pe_int) pa_nil))) pa_nil)) (pe_call (ok_upper_edge T SH) (hr.mono (by decide)) (by rfl) T.upper_edge.m T.upper_edge.f.kp (bd_upper_edge T) .nil passE (pa_cons (pv 0) (pa_cons (pv 1) pa_nil)))) (pe_call (ok_left_edge T SH) (hr.mono (by decide)) (by rfl) T.left_edge.m T.left_edge.f.kp (bd_left_edge T) .nil passE (pa_cons (pv 0) (pa_cons (pv 1) pa_nil)))))) pss_nil)
      (pss_cons (ps_if (pt_cmpR op_eq (pv 2) pe_str (nomark _)) (pss_one (ps_ret (pe_op op_cat (pe_call (ok_upper_edge T SH) (hr.mono (by decide)) (by rfl) T.upper_edge.m T.upper_edge.f.kp (bd_upper_edge T) .nil passE (pa_cons (pv 0) (pa_cons (pv 1) pa_nil))) (pe_call (ok_left_edge T SH) (hr.mono (by decide)) (by rfl) T.left_edge.m T.left_edge.f.kp (bd_left_edge T) .nil passE (pa_cons (pv 0) (pa_cons (pv 1) pa_nil)))))) pss_nil)
      (pss_one (ps_ret (pe_lst pa_nil)))))))))), ?_⟩
    rcases h with ⟨h, wn, lo, hi, sv, k⟩ | ⟨os, k⟩
    case inr => exact ⟨_, rfl, x, rfl, .inr ⟨os, k⟩⟩
    refine ⟨_, rfl, x, rfl, .inl ⟨h, wn, lo, hi, sv, ?_⟩⟩
    obtain ⟨o, ro, k1, k2⟩ := k
    refine ⟨_, rfl, _, rfl, x, y, o, h, wn, rfl, sv.shp, ro, fun e => ?_, k1⟩
    obtain ⟨b, vb, rfl⟩ := blkB_iff.mp e
    obtain ⟨p, rfl, ep⟩ := rw_bk ro
    obtain ⟨sy, k3, k4⟩ := k2 p b rfl ep vb
    refine ⟨_, rfl, _, rfl, p, b, md, rfl, ep, sy, fun hI H1 s1 => ?_, fun hI H' d s' hd => k3 hI H' d s' hd⟩
    obtain ⟨m, rfl, mk⟩ := inY_iff.mp hI
    have k := k4 m rfl mk
    have shp := sv.shp.keep s1
    have hp := s1 _ _ ep
    have bb := shp.b
    have el := edges_len (h := h) (w := wn) vb
    have s64 : 64 < sizeLine := by decide
    cases m with
    | left =>
      refine ⟨_, rfl, rfl, _, rfl, ?_⟩
      rw [show decide (V.str (Md.s .left) = V.str "left") = true by decide]
      refine iteT ?_
      exact ⟨_, rfl, _, rfl, x, p, b, h, wn, rfl, shp, hp, vb, fun q us H' s n l r => k q us H' (s1.trans s) (s1.free n) l r⟩
    | up =>
      refine ⟨_, rfl, rfl, _, rfl, ?_⟩
      rw [show decide (V.str (Md.s .up) = V.str "left") = false by decide]
      refine iteF ?_
      refine ⟨_, rfl, rfl, _, rfl, ?_⟩
      rw [show decide (V.str (Md.s .up) = V.str "up") = true by decide]
      refine iteT ?_
      exact ⟨_, rfl, _, rfl, x, p, b, h, wn, rfl, shp, hp, vb, fun q us H' s n l r => k q us H' (s1.trans s) (s1.free n) l r⟩
    | mean =>
      refine ⟨_, rfl, rfl, _, rfl, ?_⟩
      rw [show decide (V.str (Md.s .mean) = V.str "left") = false by decide]
      refine iteF ?_
      refine ⟨_, rfl, rfl, _, rfl, ?_⟩
      rw [show decide (V.str (Md.s .mean) = V.str "up") = false by decide]
      refine iteF ?_
      refine ⟨_, rfl, rfl, _, rfl, ?_⟩
      rw [show decide (V.str (Md.s .mean) = V.str "middle") = false by decide]
      refine iteF ?_
      refine ⟨_, rfl, rfl, _, rfl, ?_⟩
      rw [show decide (V.str (Md.s .mean) = V.str "mean") = true by decide]
      refine iteT ?_
      refine ⟨_, rfl, _, rfl, x, p, b, h, wn, rfl, shp, hp, vb, fun qu uu Hu su nu lu ru => ⟨_, rfl, _, rfl, x, p, b, h, wn, rfl, shp.keep su, su _ _ hp, vb, fun ql ul Hl sl nl lel rl => ?_⟩⟩
      have rr := (ru.same sl).append rl
      have rlen : (uu ++ ul).length = (edgesU h wn b).length := rr.1
      refine ⟨qu, ql, uu, ul, rfl, rfl, sl _ _ lu, lel, by rw [← List.length_append, rlen]; omega, fun g hg => ?_⟩
      have ss := s1.trans (su.trans sl)
      exact k g _ _ (ss.trans (Same.new hg)) (ss.free hg) upd_same (rr.same (Same.new hg))
    | flat =>
      refine ⟨_, rfl, rfl, _, rfl, ?_⟩
      rw [show decide (V.str (Md.s .flat) = V.str "left") = false by decide]
      refine iteF ?_
      refine ⟨_, rfl, rfl, _, rfl, ?_⟩
      rw [show decide (V.str (Md.s .flat) = V.str "up") = false by decide]
      refine iteF ?_
      refine ⟨_, rfl, rfl, _, rfl, ?_⟩
      rw [show decide (V.str (Md.s .flat) = V.str "middle") = false by decide]
      refine iteF ?_
      refine ⟨_, rfl, rfl, _, rfl, ?_⟩
      rw [show decide (V.str (Md.s .flat) = V.str "mean") = false by decide]
      refine iteF ?_
      exact ⟨(by show 0 ≤ sizeLine; decide), fun g hg => k g [] _ (s1.trans (Same.new hg)) (s1.free hg) upd_same .nil⟩
    | middle =>
      have mk : 0 < b.l ∧ 0 < b.t := mk
      refine ⟨_, rfl, rfl, _, rfl, ?_⟩
      rw [show decide (V.str (Md.s .middle) = V.str "left") = false by decide]
      refine iteF ?_
      refine ⟨_, rfl, rfl, _, rfl, ?_⟩
      rw [show decide (V.str (Md.s .middle) = V.str "up") = false by decide]
      refine iteF ?_
      refine ⟨_, rfl, rfl, _, rfl, ?_⟩
      rw [show decide (V.str (Md.s .middle) = V.str "middle") = true by decide]
      refine iteT ?_
      refine ⟨_, rfl, p, _, 0, _, rfl, rfl, SqT.of hp, atI_nat (j := 0) rfl, _, _, rfl, rfl, _, rfl, p, _, 1, _, rfl, rfl, SqT.of hp, atI_nat (j := 1) rfl, _, _, rfl, rfl, (by show 2 ≤ sizeLine; decide), fun z hz => ⟨(by show 1 ≤ sizeLine; decide), fun z2 hz2 => ?_⟩⟩
      have tz := Same.new (o := .tup [V.int ((b.t : Int) - 1), .int ((b.l : Int) - 1)]) hz
      have ez : (upd H1 z (.tup [V.int ((b.t : Int) - 1), .int ((b.l : Int) - 1)])) z = some (.tup [V.int ((b.t : Int) - 1), .int ((b.l : Int) - 1)]) := upd_same
      generalize upd H1 z (.tup [V.int ((b.t : Int) - 1), .int ((b.l : Int) - 1)]) = H2 at tz ez hz2 ⊢
      have tz2 := Same.new (o := .lst [V.ref z]) hz2
      have ez2 : (upd H2 z2 (.lst [V.ref z])) z2 = some (.lst [V.ref z]) := upd_same
      have ez := tz2 _ _ ez
      generalize upd H2 z2 (.lst [V.ref z]) = H3 at tz2 ez ez2 ⊢
      have t3 := tz.trans tz2
      have rc : RL dotV H3 [V.ref z] [(b.t - 1, b.l - 1)] := RL.one ⟨z, rfl, by
        rw [ez]
        unfold dotV
        dsimp only
        rw [show ((b.t - 1 : Nat) : Int) = (b.t : Int) - 1 by omega, show ((b.l - 1 : Nat) : Int) = (b.l : Int) - 1 by omega]⟩
      refine ⟨_, rfl, _, rfl, x, p, b, h, wn, rfl, shp.keep t3, t3 _ _ hp, vb, fun qu uu Hu su nu lu ru => ?_⟩
      have r1 := (rc.same su).append ru
      have lu8 : uu.length ≤ 16 := by
        have : uu.length = (upE wn b).length := ru.1
        have := (show (edgesU h wn b).length = (upE wn b).length + (leftE h b).length from List.length_append)
        omega
      refine ⟨z2, qu, [.ref z], uu, rfl, rfl, su _ _ ez2, lu, by show 1 + uu.length ≤ _; omega, fun g hg => ?_⟩
      have tg := Same.new (o := .lst ([V.ref z] ++ uu)) hg
      have eg : (upd Hu g (.lst ([V.ref z] ++ uu))) g = some (.lst ([V.ref z] ++ uu)) := upd_same
      have r1 := r1.same tg
      generalize upd Hu g (.lst ([V.ref z] ++ uu)) = H5 at tg eg r1 ⊢
      have t5 := t3.trans (su.trans tg)
      refine ⟨_, rfl, _, rfl, x, p, b, h, wn, rfl, shp.keep t5, t5 _ _ hp, vb, fun ql ul Hl sl nl lel rl => ?_⟩
      have r2 := (r1.same sl).append rl
      have ll8 : ul.length ≤ 16 := by
        have : ul.length = (leftE h b).length := rl.1
        have := (show (edgesU h wn b).length = (upE wn b).length + (leftE h b).length from List.length_append)
        omega
      refine ⟨g, ql, _, ul, rfl, rfl, sl _ _ eg, lel, by simp only [List.length_append, List.length_singleton]; omega, fun g2 hg2 => ?_⟩
      have ss := s1.trans (t5.trans sl)
      exact k g2 _ _ (ss.trans (Same.new hg2)) (ss.free hg2) upd_same (r2.same (Same.new hg2))
end
end K05
namespace K05
open PySem PySem.Spec PyProof.Rows L2 PySem.W LamX KA KW KU KL KT
open Evl (pss_cut tCut)
/-! ### the law's own blocks -/
/-- a scope of h rows and w columns -/
def ScW (H : Hp) (a : Addr) (h w : Nat) : Prop := ∃ lo hi, ScV H a (h : Int) (w : Int) lo hi
theorem ScW.keep {H H' : Hp} {a : Addr} {h w : Nat} (p : ScW H a h w) (s : Same H H') : ScW H' a h w := by
  obtain ⟨lo, hi, q⟩ := p
  exact ⟨lo, hi, q.keep fun o e => s _ _ e⟩
theorem ScW.b {H : Hp} {a : Addr} {h w : Nat} (p : ScW H a h w) : 1 ≤ h ∧ h ≤ 16 ∧ 1 ≤ w ∧ w ≤ 16 := by
  obtain ⟨lo, hi, q⟩ := p
  have := q.t1
  have := q.t2
  have := q.w1
  have := q.w2
  omega
theorem ScW.tall {H : Hp} {a : Addr} {h w : Nat} (p : ScW H a h w) : DGet H a (.str "tall") (some (.int (h : Int))) := by
  obtain ⟨lo, hi, q⟩ := p
  exact (show DGet H a (kV kTall) _ from sc_tall ▸ DGet.k q.d)
theorem ScW.wide {H : Hp} {a : Addr} {h w : Nat} (p : ScW H a h w) : DGet H a (.str "wide") (some (.int (w : Int))) := by
  obtain ⟨lo, hi, q⟩ := p
  exact (show DGet H a (kV kWide) _ from sc_wide ▸ DGet.k q.d)
def spLFn {α : Type} (f : α → List V) (g : Nat → Nat → List α) : Sp := fun vs H Q _ => ∃ (a : Addr) (h w : Nat), vs = [.ref a] ∧ ScW H a h w ∧ ∀ q us H', Same H H' → H q = none → H' q = some (.lst us) → RL f H' us (g h w) → Q (.ref q) H'
def spLBk {α : Type} (f : α → List V) (g : Nat → Nat → Bk → List α) : Sp := fun vs H Q _ => ∃ (a p : Addr) (b : Bk) (h w : Nat), vs = [.ref a, .ref p] ∧ ScW H a h w ∧ H p = some (.tup (bkV b)) ∧ Vb h w b ∧ ∀ q us H', Same H H' → H q = none → H' q = some (.lst us) → RL f H' us (g h w b) → Q (.ref q) H'
/-- a list that grows by lists -/
def Gr {α : Type} (f : α → List V) (H : Hp) (fa : Addr) (as : List α) (H' : Hp) : Prop := ∃ us, Same H H' ∧ H fa = none ∧ H' fa = some (.lst us) ∧ RL f H' us as
theorem Gr.same {α : Type} {f : α → List V} {H H1 H2 : Hp} {fa : Addr} {as : List α} (g : Gr f H fa as H1) (s : Same H1 H2) : Gr f H fa as H2 := by
  obtain ⟨us, a, b, c, d⟩ := g
  exact ⟨us, a.trans s, b, s _ _ c, d.same s⟩
theorem Gr.s {α : Type} {f : α → List V} {H H1 : Hp} {fa : Addr} {as : List α} (g : Gr f H fa as H1) : Same H H1 := g.elim fun _ q => q.1
section
variable {P : Program} {w : World} {K : PySem.W.Frag} {mg : Str → Option Value} {base : Heap} (T : Top K mg)
theorem ok_lroots : FnOk P w K mg base (L2.CX P w) 1 T._law_roots.a T._law_roots.d ["scope"] (spLFn bkV rootsL) := by
  refine T._law_roots.f.okX sc__law_roots (fun vs H Q E h => ?_) (fun cdv A outer s H vs Q E hr h => ?_)
  · obtain ⟨a, h, w, rfl, _⟩ := h
    rfl
  · obtain ⟨a, h, wn, rfl, sc, k⟩ := h
    have hu := hu_of hr
    refine ⟨_, pss_cons (ps_set (i := 1) sc__law_roots.nd rfl (.inl rfl) (pe_lst pa_nil))
      (pss_cons (ps_for (passes_of rfl) rfl (pi_range3 (by rfl) T.b_range (pa_cons pe_int (pa_cons (pe_dget hu (pv 0) pe_str (fun _ _ => rfl)) (pa_cons pe_int pa_nil)))) (pg_name (i := 2) sc__law_roots.nd rfl (by first | exact .inl rfl | exact .inr rfl))
        (pss_one (ps_set (i := 1) sc__law_roots.nd rfl (.inl rfl) (pe_op op_cat (pv 1) (pe_lc (own := [("left", 3)]) (g := gName 3) (tt := tYes) rfl sc__law_roots.nd (pi_range3 (by rfl) T.b_range (pa_cons pe_int (pa_cons (pe_dget hu (pv 0) pe_str (fun _ _ => rfl)) (pa_cons pe_int pa_nil)))) (blkOk_by (own := [("left", 3)]) (N := ["scope", "found", "top", "left"]) (sc := defScope s__law_roots) (by decide +kernel))
          (fun _ _ _ _ _ => pg_name (i := 3) sc__law_roots.nd rfl (Or.inl rfl)) (fun _ _ _ _ _ => pts_nil) (fun _ _ _ _ _ => pe_tup (pa_cons (pv 2) (pa_cons (pv 3) (pa_cons pe_int pa_nil)))))))))
      (pss_one (ps_ret (pv 1)))), ?_⟩
    have hb := sc.b
    refine ⟨(by show 0 ≤ sizeLine; decide), fun f0 hf0 => ?_⟩
    have t0 := Same.new (o := .lst []) hf0
    have g0 : Gr bkV H f0 ([] : List Bk) (upd H f0 (.lst [])) := ⟨[], t0, hf0, upd_same, .nil⟩
    generalize upd H f0 (.lst []) = H1 at t0 g0 ⊢
    refine ⟨_, rfl, a, _, rfl, (sc.keep t0).tall, _, _, _, _, rfl, rg8 h hb.2.1, for_it walk_rangeC (fun i σ H' => ∃ fa v2, σ = [some (.ref a), some (.ref fa), v2, none] ∧ Gr bkV H fa (((List.range i).map fun i => (List.range ((wn + 7) / 8)).map fun j => (⟨8 * i, 8 * j, 8⟩ : Bk)).flatten) H') ⟨f0, none, rfl, g0⟩ (fun _ _ _ _ _ => trivial) ?_ fun σ H' q' => ?_⟩
    · rintro i x σ H3 H2 hi ⟨fa, v2, rfl, gr⟩ ⟨rfl, rfl⟩
      refine ⟨_, rfl, _, rfl, a, _, rfl, (sc.keep gr.s).wide, _, _, _, _, rfl, rg8 wn hb.2.2.2, fun D hD => lc_it walk_rangeC (fun j H' => NI bkV H2 D ((List.range j).map fun j => (⟨8 * i, 8 * j, 8⟩ : Bk)) H') (NI.new hD) (fun _ _ _ _ => trivial) ?_ ?_⟩
      · rintro j y H5 H4 hj n ⟨rfl, rfl⟩
        refine ⟨rfl, ?_⟩
        dsimp only [tYes]
        rw [if_pos rfl]
        refine ⟨_, rfl, _, rfl, (by show 3 ≤ sizeLine; decide), fun z hz => ?_⟩
        have tz := Same.new (o := .tup [V.int (0 + ((i : Nat) : Int) * 8), .int (0 + ((j : Nat) : Int) * 8), .int 8]) hz
        obtain ⟨acc, e1, e2, e3⟩ := (n.same tz).push (a := (⟨8 * i, 8 * j, 8⟩ : Bk)) hD (by rw [List.length_map, List.length_range]; omega) ⟨z, rfl, by
          rw [upd_same]
          show some (HO.tup [V.int (0 + ((i : Nat) : Int) * 8), .int (0 + ((j : Nat) : Int) * 8), .int 8]) = some (HO.tup [V.int (((8 * i : Nat)) : Int), .int (((8 * j : Nat)) : Int), .int ((8 : Nat) : Int)])
          rw [show (0 : Int) + ((i : Nat) : Int) * 8 = ((8 * i : Nat) : Int) by omega, show (0 : Int) + ((j : Nat) : Int) * 8 = ((8 * j : Nat) : Int) by omega]
          rfl⟩
        refine ⟨acc, e1, e2, ?_⟩
        rw [List.range_succ, List.map_append]
        exact e3
      · rintro H4 ⟨ws, e, r, s4⟩
        obtain ⟨us, a1, a2, a3, a4⟩ := gr
        have al := flat_le (f := fun i => (List.range ((wn + 7) / 8)).map fun j => (⟨8 * i, 8 * j, 8⟩ : Bk)) (m := 2) (fun i => by simp; omega) i
        refine ⟨fa, D, us, ws, rfl, rfl, s4 _ _ a3, e, ?_, fun g hg => ⟨g, _, rfl, us ++ ws, (a1.trans s4).trans (Same.new hg), (a1.trans s4).free hg, upd_same, ?_⟩⟩
        · rw [a4.1, r.1, List.length_map, List.length_range]
          exact Nat.le_trans (show _ ≤ 300 by omega) (by decide)
        · rw [flat_snoc]
          exact ((a4.same s4).append r).same (Same.new hg)
    · obtain ⟨fa, v2, rfl, us, a1, a2, a3, a4⟩ := q'
      exact ⟨_, rfl, k fa us H' a1 a2 a3 a4⟩
theorem ok_lparts : FnOk P w K mg base (L2.CX P w) 1 T._law_parts.a T._law_parts.d ["scope", "square"] (spLBk bkV partsL) := by
  refine T._law_parts.f.okX sc__law_parts (fun vs H Q E h => ?_) (fun cdv A outer s H vs Q E hr h => ?_)
  · obtain ⟨a, p, b, h, w, rfl, _⟩ := h
    rfl
  · obtain ⟨a, p, b, h, wn, rfl, sc, hp, v, k⟩ := h
    have hu := hu_of hr
    refine ⟨_, pss_cons (ps_asg (pv 1) (pg_tup rfl (pgs_cons (pg_name (i := 2) sc__law_parts.nd rfl (by first | exact .inl rfl | exact .inr rfl)) (pgs_cons (pg_name (i := 3) sc__law_parts.nd rfl (by first | exact .inl rfl | exact .inr rfl)) (pgs_cons (pg_name (i := 4) sc__law_parts.nd rfl (by first | exact .inl rfl | exact .inr rfl)) pgs_nil)))))
      (pss_cons (ps_set (i := 5) sc__law_parts.nd rfl (by first | exact .inl rfl | exact .inr rfl) (pe_op op_fdiv (pv 4) pe_int))
      (pss_cons (ps_set (i := 6) sc__law_parts.nd rfl (by first | exact .inl rfl | exact .inr rfl) (pe_lst (pa_cons (pe_tup (pa_cons (pv 2) (pa_cons (pv 3) (pa_cons (pv 5) pa_nil)))) (pa_cons (pe_tup (pa_cons (pv 2) (pa_cons (pe_op op_add (pv 3) (pv 5)) (pa_cons (pv 5) pa_nil)))) (pa_cons (pe_tup (pa_cons (pe_op op_add (pv 2) (pv 5)) (pa_cons (pv 3) (pa_cons (pv 5) pa_nil)))) (pa_cons (pe_tup (pa_cons (pe_op op_add (pv 2) (pv 5)) (pa_cons (pe_op op_add (pv 3) (pv 5)) (pa_cons (pv 5) pa_nil)))) pa_nil))))))
      (pss_one (ps_ret (pe_lc (own := [("part", 7)]) (g := gName 7) rfl sc__law_parts.nd (pi_list (pv 6)) (blkOk_by (own := [("part", 7)]) (N := ["scope", "square", "top", "left", "side", "half", "some", "part"]) (sc := defScope s__law_parts) (by decide +kernel))
        (fun _ _ _ _ _ => pg_name (i := 7) sc__law_parts.nd rfl (Or.inl rfl)) (fun _ _ _ _ _ => pts_one (PW.pt (pw_and (pt_cmpR op_gt (pv 4) pe_int (nomark _)) (pw_and (pt_cmpR op_lt (pe_ix (show IxR _ (rIxT K) from ix_tup) (pv 7) pe_int (fun _ _ => rfl)) (pe_dget hu (pv 0) pe_str (fun _ _ => rfl)) (nomark _)) (pw_and1 (pt_cmpR op_lt (pe_ix (show IxR _ (rIxT K) from ix_tup) (pv 7) pe_int (fun _ _ => rfl)) (pe_dget hu (pv 0) pe_str (fun _ _ => rfl)) (nomark _))))))) (fun _ _ _ _ _ => pv 7)))))), ?_⟩
    refine ⟨_, rfl, p, _, rfl, SqT.of hp, rfl, _, _, rfl, _, _, rfl, _, _, rfl, rfl, ?_⟩
    refine ⟨_, rfl, _, _, rfl, rfl, ⟨by decide, by decide⟩, ?_⟩
    dsimp only
    rw [show ((b.s : Nat) : Int) / 2 = ((b.s / 2 : Nat) : Int) by omega]
    have i1 : ((b.l : Nat) : Int) + ((b.s / 2 : Nat) : Int) = ((b.l + b.s / 2 : Nat) : Int) := by omega
    have i2 : ((b.t : Nat) : Int) + ((b.s / 2 : Nat) : Int) = ((b.t + b.s / 2 : Nat) : Int) := by omega
    refine ⟨_, rfl, _, rfl, _, rfl, (by show 3 ≤ sizeLine; decide), fun y1 v1 => ⟨_, rfl, _, rfl, _, rfl, _, _, rfl, rfl, _, rfl, (by show 3 ≤ sizeLine; decide), fun y2 v2 => ?_⟩⟩
    dsimp only
    rw [i1]
    refine ⟨_, rfl, _, rfl, _, _, rfl, rfl, _, rfl, _, rfl, (by show 3 ≤ sizeLine; decide), fun y3 v3 => ?_⟩
    dsimp only
    rw [i2]
    refine ⟨_, rfl, _, rfl, _, _, rfl, rfl, _, rfl, _, rfl, _, _, rfl, rfl, _, rfl, (by show 3 ≤ sizeLine; decide), fun y4 v4 => ⟨(by show 4 ≤ sizeLine; decide), fun y5 v5 => ?_⟩⟩
    dsimp only
    rw [i1, i2]
    have u1 := Same.new (o := .tup (bkV ⟨b.t, b.l, b.s / 2⟩)) v1
    have u2 := Same.new (o := .tup (bkV ⟨b.t, b.l + b.s / 2, b.s / 2⟩)) v2
    have u3 := Same.new (o := .tup (bkV ⟨b.t + b.s / 2, b.l, b.s / 2⟩)) v3
    have u4 := Same.new (o := .tup (bkV ⟨b.t + b.s / 2, b.l + b.s / 2, b.s / 2⟩)) v4
    have u5 := Same.new (o := .lst [V.ref y1, .ref y2, .ref y3, .ref y4]) v5
    have d1 := (u2.trans (u3.trans (u4.trans u5))) y1 _ upd_same
    have d2 := (u3.trans (u4.trans u5)) y2 _ upd_same
    have d3 := (u4.trans u5) y3 _ upd_same
    have d4 := u5 y4 _ upd_same
    have rl := (RL.one (f := bkV) (a := (⟨b.t, b.l, b.s / 2⟩ : Bk)) ⟨y1, rfl, d1⟩).append ((RL.one (f := bkV) (a := (⟨b.t, b.l + b.s / 2, b.s / 2⟩ : Bk)) ⟨y2, rfl, d2⟩).append ((RL.one (f := bkV) (a := (⟨b.t + b.s / 2, b.l, b.s / 2⟩ : Bk)) ⟨y3, rfl, d3⟩).append (RL.one (f := bkV) (a := (⟨b.t + b.s / 2, b.l + b.s / 2, b.s / 2⟩ : Bk)) ⟨y4, rfl, d4⟩)))
    have s05 := ((u1.trans u2).trans u3).trans (u4.trans u5)
    refine ⟨_, rfl, y5, rfl, ⟨_, SqL.of upd_same⟩, fun D hD => lc_it walk_list (fun i H' => NI bkV _ D (((fourL b).take i).filter fun c => decide (2 < b.s) && inSh h wn c) H') (NI.new hD) (fun _ H' _ q' => SqL.of (q'.s _ _ upd_same)) ?_ ?_⟩
    · rintro i x H4 H3 hi n ⟨rfl, hx⟩
      obtain ⟨pc, c, rfl, hc, ec⟩ := (rl.same n.s).get hx
      have hc : (fourL b)[i]? = some c := hc
      have sck := (sc.keep s05).keep n.s
      have al : ((((fourL b).take i).filter fun c => decide (2 < b.s) && inSh h wn c)).length ≤ 4 := by
        refine Nat.le_trans (List.length_filter_le _ _) ?_
        rw [List.length_take]
        exact Nat.min_le_right _ _
      rw [List.take_add_one, hc, List.filter_append]
      have e1 : ((some c).toList.filter fun c => decide (2 < b.s) && inSh h wn c) = if (decide (2 < b.s) && inSh h wn c) = true then [c] else [] := filt_one (fun c => decide (2 < b.s) && inSh h wn c) c
      rw [e1]
      generalize ((fourL b).take i).filter (fun c => decide (2 < b.s) && inSh h wn c) = B at n al ⊢
      have no : (decide (2 < b.s) && inSh h wn c) = false → NI bkV _ D (B ++ (if (decide (2 < b.s) && inSh h wn c) = true then [c] else [])) H3 := fun z => by
        rw [z, if_neg Bool.false_ne_true, List.append_nil]
        exact n
      refine ⟨rfl, ?_⟩
      refine ⟨_, rfl, _, _, rfl, rfl, _, rfl, ?_⟩
      by_cases c0 : 2 < b.s
      case neg =>
        rw [decide_eq_false (show ¬ (2 : Int) < ((b.s : Nat) : Int) by omega)]
        exact iteF (iteF (no (by rw [decide_eq_false c0]; rfl)))
      rw [decide_eq_true (show (2 : Int) < ((b.s : Nat) : Int) by omega)]
      refine iteT ⟨_, rfl, pc, _, 0, _, rfl, rfl, SqT.of ec, atI_nat (j := 0) rfl, _, rfl, a, _, rfl, sck.tall, _, _, rfl, rfl, _, rfl, ?_⟩
      by_cases c1 : c.t < h
      case neg =>
        rw [decide_eq_false (show ¬ ((c.t : Nat) : Int) < ((h : Nat) : Int) by omega)]
        exact iteF (iteF (no (by unfold inSh; rw [decide_eq_false c1, Bool.false_and, Bool.and_false])))
      rw [decide_eq_true (show ((c.t : Nat) : Int) < ((h : Nat) : Int) by omega)]
      refine iteT ⟨_, rfl, pc, _, 1, _, rfl, rfl, SqT.of ec, atI_nat (j := 1) rfl, _, rfl, a, _, rfl, sck.wide, _, _, rfl, rfl, _, rfl, ?_⟩
      by_cases c2 : c.l < wn
      case neg =>
        rw [decide_eq_false (show ¬ ((c.l : Nat) : Int) < ((wn : Nat) : Int) by omega)]
        exact iteF (no (by unfold inSh; rw [decide_eq_false c2, Bool.and_false, Bool.and_false]))
      rw [decide_eq_true (show ((c.l : Nat) : Int) < ((wn : Nat) : Int) by omega)]
      have yes : (decide (2 < b.s) && inSh h wn c) = true := by unfold inSh; simp [c0, c1, c2]
      obtain ⟨acc, e1', e2', e3'⟩ := n.push (a := c) hD (by omega) ⟨pc, rfl, ec⟩
      refine iteT ⟨_, rfl, acc, e1', e2', ?_⟩
      rw [yes, if_pos rfl]
      exact e3'
    · rintro H4 ⟨ws, e, r, s4⟩
      refine k D ws H4 (s05.trans s4) (s05.free hD) e ?_
      have : ((fourL b).take 4).filter (fun c => decide (2 < b.s) && inSh h wn c) = partsL h wn b := by
        unfold partsL
        by_cases s2 : b.s = 2
        · rw [if_pos s2, s2]
          simp
        · rw [if_neg s2]
          have : decide (2 < b.s) = true := decide_eq_true (by have := v.s; omega)
          rw [this]
          simp only [Bool.true_and]
          rfl
      rw [← this]
      exact r
end
end K05
namespace K05
open PySem PySem.Spec PyProof.Rows L2 PySem.W LamX KA KW KU KL KT
open Evl (pss_cut tCut)
/-! ### the law's own spots and numbers of covers -/
section
variable {P : Program} {w : World} {K : PySem.W.Frag} {mg : Str → Option Value} {base : Heap} (T : Top K mg)
theorem ok_ldots : FnOk P w K mg base (L2.CX P w) 1 T._law_dots.a T._law_dots.d ["scope", "square"] (spLBk dotV dotsB) := by
  refine T._law_dots.f.okX sc__law_dots (fun vs H Q E h => ?_) (fun cdv A outer s H vs Q E hr h => ?_)
  · obtain ⟨a, p, b, h, w, rfl, _⟩ := h
    rfl
  · obtain ⟨a, p, b, h, wn, rfl, sc, hp, v, k⟩ := h
    have hu := hu_of hr
    refine ⟨_, pss_cons (ps_asg (pv 1) (pg_tup rfl (pgs_cons (pg_name (i := 2) sc__law_dots.nd rfl (by first | exact .inl rfl | exact .inr rfl)) (pgs_cons (pg_name (i := 3) sc__law_dots.nd rfl (by first | exact .inl rfl | exact .inr rfl)) (pgs_cons (pg_name (i := 4) sc__law_dots.nd rfl (by first | exact .inl rfl | exact .inr rfl)) pgs_nil)))))
      (pss_cons (ps_set (i := 5) sc__law_dots.nd rfl (.inl rfl) (pe_lst pa_nil))
      (pss_cons (ps_for (passes_of rfl) rfl (pi_range2 (by rfl) T.b_range (pa_cons (pv 2) (pa_cons (pe_callB (call_min2 rfl) (by rfl) T.b_min PyProof.Rows.boot_min (pa_cons (pe_op op_add (pv 2) (pv 4)) (pa_cons (pe_dget hu (pv 0) pe_str (fun _ _ => rfl)) pa_nil))) pa_nil))) (pg_name (i := 6) sc__law_dots.nd rfl (by first | exact .inl rfl | exact .inr rfl))
        (pss_one (ps_set (i := 5) sc__law_dots.nd rfl (.inl rfl) (pe_op op_cat (pv 5) (pe_lc (own := [("x", 7)]) (g := gName 7) (tt := tYes) rfl sc__law_dots.nd (pi_range2 (by rfl) T.b_range (pa_cons (pv 3) (pa_cons (pe_callB (call_min2 rfl) (by rfl) T.b_min PyProof.Rows.boot_min (pa_cons (pe_op op_add (pv 3) (pv 4)) (pa_cons (pe_dget hu (pv 0) pe_str (fun _ _ => rfl)) pa_nil))) pa_nil))) (blkOk_by (own := [("x", 7)]) (N := ["scope", "square", "top", "left", "side", "found", "y", "x"]) (sc := defScope s__law_dots) (by decide +kernel))
          (fun _ _ _ _ _ => pg_name (i := 7) sc__law_dots.nd rfl (Or.inl rfl)) (fun _ _ _ _ _ => pts_nil) (fun _ _ _ _ _ => pe_tup (pa_cons (pv 6) (pa_cons (pv 7) pa_nil))))))))
      (pss_one (ps_ret (pv 5))))), ?_⟩
    have hb := sc.b
    have vs' := v.s
    have lt := v.lt
    have ll := v.ll
    refine ⟨_, rfl, p, _, rfl, SqT.of hp, rfl, _, _, rfl, _, _, rfl, _, _, rfl, rfl, ?_⟩
    refine ⟨(by show 0 ≤ sizeLine; decide), fun f0 hf0 => ?_⟩
    have t0 := Same.new (o := .lst []) hf0
    have g0 : Gr dotV H f0 ([] : List (Nat × Nat)) (upd H f0 (.lst [])) := ⟨[], t0, hf0, upd_same, .nil⟩
    generalize upd H f0 (.lst []) = H1 at t0 g0 ⊢
    have e1 : (if (h : Int) < (b.t : Int) + (b.s : Int) then (h : Int) else (b.t : Int) + (b.s : Int)) = ((min (b.t + b.s) h : Nat) : Int) := by
      split <;> omega
    have e2 : (if (wn : Int) < (b.l : Int) + (b.s : Int) then (wn : Int) else (b.l : Int) + (b.s : Int)) = ((min (b.l + b.s) wn : Nat) : Int) := by
      split <;> omega
    have rn : rowsN h b ≤ 8 := by unfold rowsN; omega
    have cn : colsN wn b ≤ 8 := by unfold colsN; omega
    refine ⟨_, rfl, _, rfl, _, rfl, _, _, rfl, rfl, _, rfl, a, _, rfl, (sc.keep t0).tall, _, _, rfl, ?_⟩
    rw [e1]
    have n1 : (((min (b.t + b.s) h : Nat) : Int) - (b.t : Int)).toNat = rowsN h b := by unfold rowsN; omega
    have n2 : (((min (b.l + b.s) wn : Nat) : Int) - (b.l : Int)).toNat = colsN wn b := by unfold colsN; omega
    refine ⟨_, _, rfl, ⟨by omega, by omega, by omega, by omega⟩, for_it walk_range (fun i σ H' => ∃ fa v6, σ = [some (.ref a), some (.ref p), some (.int (b.t : Int)), some (.int (b.l : Int)), some (.int (b.s : Int)), some (.ref fa), v6, none] ∧ Gr dotV H fa (((List.range i).map fun i => (List.range (colsN wn b)).map fun j => (b.t + i, b.l + j)).flatten) H') ⟨f0, none, rfl, g0⟩ (fun _ _ _ _ _ => trivial) ?_ fun σ H' q' => ?_⟩
    · rintro i x σ H3 H2 hi ⟨fa, v2, rfl, gr⟩ ⟨rfl, rfl⟩
      rw [n1] at hi
      refine ⟨_, rfl, _, rfl, _, rfl, _, rfl, _, _, rfl, rfl, _, rfl, a, _, rfl, (sc.keep gr.s).wide, _, _, rfl, ?_⟩
      rw [e2]
      refine ⟨_, _, rfl, ⟨by omega, by omega, by omega, by omega⟩, fun D hD => lc_it walk_range (fun j H' => NI dotV H2 D ((List.range j).map fun j => (b.t + i, b.l + j)) H') (NI.new hD) (fun _ _ _ _ => trivial) ?_ ?_⟩
      · rintro j y H5 H4 hj n ⟨rfl, rfl⟩
        rw [n2] at hj
        refine ⟨rfl, ?_⟩
        dsimp only [tYes]
        rw [if_pos rfl]
        refine ⟨_, rfl, _, rfl, (by show 2 ≤ sizeLine; decide), fun z hz => ?_⟩
        have tz := Same.new (o := .tup [V.int ((b.t : Int) + ((i : Nat) : Int)), .int ((b.l : Int) + ((j : Nat) : Int))]) hz
        obtain ⟨acc, e1, e2, e3⟩ := (n.same tz).push (a := (b.t + i, b.l + j)) hD (by rw [List.length_map, List.length_range]; omega) ⟨z, rfl, by
          rw [upd_same]
          unfold dotV
          rw [Int.natCast_add, Int.natCast_add]⟩
        refine ⟨acc, e1, e2, ?_⟩
        rw [List.range_succ, List.map_append]
        exact e3
      · rintro H4 ⟨ws, e, r, s4⟩
        rw [n2] at r
        obtain ⟨us, a1, a2, a3, a4⟩ := gr
        have al := flat_le (f := fun i => (List.range (colsN wn b)).map fun j => (b.t + i, b.l + j)) (m := 8) (fun i => by simpa using cn) i
        refine ⟨fa, D, us, ws, rfl, rfl, s4 _ _ a3, e, ?_, fun g hg => ⟨g, _, rfl, us ++ ws, (a1.trans s4).trans (Same.new hg), (a1.trans s4).free hg, upd_same, ?_⟩⟩
        · rw [a4.1, r.1, List.length_map, List.length_range]
          exact Nat.le_trans (show _ ≤ 300 by omega) (by decide)
        · rw [flat_snoc]
          exact ((a4.same s4).append r).same (Same.new hg)
    · obtain ⟨fa, v2, rfl, us, a1, a2, a3, a4⟩ := q'
      rw [n1] at a4
      exact ⟨_, rfl, k fa us H' a1 a2 a3 a4⟩
end
end K05
namespace K05
/-! ### a block and all that come of it -/
def descB (h w : Nat) : Nat → Bk → List Bk
  | 0, b => [b]
  | n + 1, b => b :: (partsL h w b).flatMap (descB h w n)
def descOf (h w : Nat) (b : Bk) : List Bk := descB h w (lev b) b
def everyL (h w : Nat) : List Bk := (rootsL h w).flatMap (descOf h w)
theorem desc_step {h w : Nat} {b : Bk} (v : Vb h w b) : descOf h w b = b :: (partsL h w b).flatMap (descOf h w) := by
  by_cases s2 : b.s = 2
  · rw [parts_none s2]
    unfold descOf lev
    rw [s2]
    rfl
  have e : ∃ n, lev b = n + 1 := by
    unfold lev
    rcases v.s with z | z | z
    · exact ⟨1, by rw [z]; rfl⟩
    · exact ⟨0, by rw [z]; rfl⟩
    · exact absurd z s2
  obtain ⟨n, e⟩ := e
  unfold descOf
  rw [e]
  show b :: (partsL h w b).flatMap (descB h w n) = _
  rw [List.flatMap_def, List.flatMap_def]
  congr 2
  refine List.map_congr_left fun p hp => ?_
  have := (parts_vb v hp).2.2
  rw [show lev p = n by omega]
theorem desc_self {h w : Nat} {b : Bk} (v : Vb h w b) : b ∈ descOf h w b := by
  rw [desc_step v]
  exact List.mem_cons_self
theorem desc_in {h w : Nat} : ∀ b, Vb h w b → ∀ c ∈ descOf h w b, Vb h w c ∧ c.s ≤ b.s ∧ b.t ≤ c.t ∧ c.t < b.t + b.s ∧ b.l ≤ c.l ∧ c.l < b.l + b.s := by
  refine vb_ind (fun b v e c hc => ?_) fun b v e ih c hc => ?_
  · rw [desc_step v, parts_none e] at hc
    rw [List.mem_singleton.mp hc]
    exact ⟨v, by omega, by omega, by omega, by omega, by omega⟩
  · rw [desc_step v] at hc
    rcases List.mem_cons.mp hc with rfl | hc
    · have := v.s
      exact ⟨v, by omega, by omega, by omega, by omega, by omega⟩
    obtain ⟨q, hq, hc⟩ := List.mem_flatMap.mp hc
    obtain ⟨a1, a2, a3, a4, a5, a6⟩ := ih q hq c hc
    obtain ⟨vq, sq, _⟩ := parts_vb v hq
    obtain ⟨b1, b2, b3, _⟩ := (parts_mem e).mp hq
    exact ⟨a1, by omega, by omega, by omega, by omega, by omega⟩
theorem desc_trans {h w : Nat} {a : Bk} : ∀ b, Vb h w b → b ∈ descOf h w a → Vb h w a → ∀ q ∈ partsL h w b, q ∈ descOf h w a := by
  have : ∀ a, Vb h w a → ∀ b, Vb h w b → b ∈ descOf h w a → ∀ q ∈ partsL h w b, q ∈ descOf h w a := by
    refine vb_ind (fun a va e b vb hb q hq => ?_) fun a va e ih b vb hb q hq => ?_
    · rw [desc_step va, parts_none e] at hb
      rw [List.mem_singleton.mp hb, parts_none e] at hq
      cases hq
    · rw [desc_step va] at hb ⊢
      rcases List.mem_cons.mp hb with rfl | hb
      · exact List.mem_cons_of_mem _ (List.mem_flatMap.mpr ⟨q, hq, desc_self (parts_vb va hq).1⟩)
      · obtain ⟨c, hc, hb⟩ := List.mem_flatMap.mp hb
        exact List.mem_cons_of_mem _ (List.mem_flatMap.mpr ⟨c, hc, ih c hc b vb hb q hq⟩)
  exact fun b vb hb va => this a va b vb hb
theorem every_mem {h w : Nat} {b : Bk} : b ∈ everyL h w ↔ Vb h w b := by
  constructor
  · intro m
    obtain ⟨r, hr, hb⟩ := List.mem_flatMap.mp m
    exact (desc_in r (roots_vb hr) b hb).1
  · refine fun v => up_ind (p := fun b => b ∈ everyL h w) (fun b hb => List.mem_flatMap.mpr ⟨b, hb, desc_self (roots_vb hb)⟩) (fun b q v hb hq => ?_) b v
    obtain ⟨r, hr, hb⟩ := List.mem_flatMap.mp hb
    exact List.mem_flatMap.mpr ⟨r, hr, desc_trans b v hb (roots_vb hr) q hq⟩
theorem desc_len {h w : Nat} {b : Bk} (v : Vb h w b) : (descOf h w b).length ≤ 21 := by
  have flat : ∀ (L : List Bk) (m : Nat), (∀ p ∈ L, (descOf h w p).length ≤ m) → (L.flatMap (descOf h w)).length ≤ L.length * m := by
    intro L m
    induction L with
    | nil => intro _; simp
    | cons a L ih =>
      intro e
      rw [List.flatMap_cons, List.length_append, List.length_cons, Nat.add_one_mul]
      have := e a List.mem_cons_self
      have := ih fun p hp => e p (List.mem_cons_of_mem _ hp)
      omega
  have pl : ∀ b, (partsL h w b).length ≤ 4 := fun b => by
    unfold partsL
    split
    · exact Nat.zero_le _
    · exact Nat.le_trans (List.length_filter_le _ _) (by show 4 ≤ 4; decide)
  have l0 : ∀ b, Vb h w b → lev b = 0 → (descOf h w b).length = 1 := fun b v e => by unfold descOf; rw [e]; rfl
  have l1 : ∀ b, Vb h w b → lev b ≤ 1 → (descOf h w b).length ≤ 5 := fun b v e => by
    by_cases z : lev b = 0
    · rw [l0 b v z]; decide
    rw [desc_step v, List.length_cons]
    have := flat (partsL h w b) 1 fun p hp => by
      have := (parts_vb v hp).2.2
      rw [l0 p (parts_vb v hp).1 (by omega)]
      decide
    have := pl b
    omega
  by_cases z : lev b ≤ 1
  · have := l1 b v z
    omega
  · have l2 : lev b ≤ 2 := by
      unfold lev
      split
      · decide
      · split <;> decide
    rw [desc_step v, List.length_cons]
    have := flat (partsL h w b) 5 fun p hp => by
      have := (parts_vb v hp).2.2
      exact l1 p (parts_vb v hp).1 (by omega)
    have := pl b
    omega
theorem desc_pos {h w : Nat} {b : Bk} (v : Vb h w b) : 1 ≤ (descOf h w b).length := by
  rw [desc_step v, List.length_cons]
  omega
theorem four_nodup (b : Bk) (hs : 2 ≤ b.s) : (fourL b).Nodup := by
  unfold fourL
  simp only [List.nodup_cons, List.mem_cons, Bk.mk.injEq, List.not_mem_nil, or_false, not_or, not_false_eq_true, List.nodup_nil, and_true]
  omega
theorem parts_nodup {h w : Nat} {b : Bk} (v : Vb h w b) : (partsL h w b).Nodup := by
  unfold partsL
  split
  · exact List.nodup_nil
  · exact (four_nodup b (by have := v.s; omega)).filter _
theorem flat_nodup {α β : Type} {f : α → List β} : ∀ {L : List α}, (∀ a ∈ L, (f a).Nodup) → (L.Pairwise fun a b => ∀ x, x ∈ f a → x ∈ f b → False) → (L.flatMap f).Nodup
  | [], _, _ => List.nodup_nil
  | a :: L, e, p => by
    rw [List.flatMap_cons, List.nodup_append]
    refine ⟨e a List.mem_cons_self, flat_nodup (fun b hb => e b (List.mem_cons_of_mem _ hb)) (List.pairwise_cons.mp p).2, fun x hx y hy z => ?_⟩
    obtain ⟨b, hb, hy⟩ := List.mem_flatMap.mp hy
    exact (List.pairwise_cons.mp p).1 b hb x hx (z ▸ hy)
theorem desc_nodup {h w : Nat} : ∀ b, Vb h w b → (descOf h w b).Nodup := by
  refine vb_ind (fun b v e => ?_) fun b v e ih => ?_
  · rw [desc_step v, parts_none e]
    exact List.nodup_cons.mpr ⟨by simp, List.nodup_nil⟩
  · rw [desc_step v, List.nodup_cons]
    refine ⟨fun m => ?_, flat_nodup ih ?_⟩
    · obtain ⟨q, hq, hm⟩ := List.mem_flatMap.mp m
      obtain ⟨vq, sq, _⟩ := parts_vb v hq
      have := (desc_in q vq b hm).2.1
      have := v.s
      omega
    · refine List.Pairwise.imp_of_mem (R := fun a b => a ≠ b) (fun {a c} ha hc ne x hx hy => ?_) (parts_nodup v)
      obtain ⟨va, sa, _⟩ := parts_vb v ha
      obtain ⟨vc, sc, _⟩ := parts_vb v hc
      obtain ⟨_, _, a1, a2, a3, a4⟩ := desc_in a va x hx
      obtain ⟨_, _, c1, c2, c3, c4⟩ := desc_in c vc x hy
      obtain ⟨p1, p2, p3, _⟩ := (parts_mem e).mp ha
      obtain ⟨q1, q2, q3, _⟩ := (parts_mem e).mp hc
      have vs := v.s
      refine ne ?_
      obtain ⟨t, l, s⟩ := a
      obtain ⟨t', l', s'⟩ := c
      dsimp only at *
      have : t = t' := by omega
      have : l = l' := by omega
      have : s = s' := by omega
      subst_vars
      rfl
theorem roots_nodup {h w : Nat} : (rootsL h w).Nodup := by
  unfold rootsL
  rw [← List.flatMap_def]
  refine flat_nodup (fun i _ => ?_) ?_
  · refine List.Pairwise.map _ (fun a b ne e => ne ?_) List.nodup_range
    have := congrArg Bk.l e
    dsimp only at this
    omega
  · refine List.Pairwise.imp (fun {a b} ne x hx hy => ne ?_) (List.nodup_range (n := (h + 7) / 8))
    obtain ⟨i, _, rfl⟩ := List.mem_map.mp hx
    obtain ⟨j, _, e⟩ := List.mem_map.mp hy
    have := congrArg Bk.t e
    dsimp only at this
    omega
theorem every_nodup {h w : Nat} : (everyL h w).Nodup := by
  refine flat_nodup (fun b hb => desc_nodup b (roots_vb hb)) ?_
  refine List.Pairwise.imp_of_mem (R := fun a b => a ≠ b) (fun {a c} ha hc ne x hx hy => ne ?_) roots_nodup
  obtain ⟨_, _, a1, a2, a3, a4⟩ := desc_in a (roots_vb ha) x hx
  obtain ⟨_, _, c1, c2, c3, c4⟩ := desc_in c (roots_vb hc) x hy
  obtain ⟨p1, p2, p3, _⟩ := roots_mem.mp ha
  obtain ⟨q1, q2, q3, _⟩ := roots_mem.mp hc
  obtain ⟨t, l, s⟩ := a
  obtain ⟨t', l', s'⟩ := c
  dsimp only at *
  have : t = t' := by omega
  have : l = l' := by omega
  have : s = s' := by omega
  subst_vars
  rfl
theorem every_len {h w : Nat} (hh : h ≤ 16) (hw : w ≤ 16) : (everyL h w).length ≤ 84 := by
  have rl : (rootsL h w).length ≤ 4 := by
    unfold rootsL
    rw [← List.flatMap_def, List.length_flatMap]
    simp only [List.length_map, List.length_range]
    have a : (h + 7) / 8 ≤ 2 := by omega
    have b : (w + 7) / 8 ≤ 2 := by omega
    generalize (h + 7) / 8 = m at a
    generalize (w + 7) / 8 = n at b
    have : ((List.range m).map fun _ => n).sum = m * n := by
      rw [List.map_const', List.sum_replicate_nat, List.length_range]
    rw [this]
    exact Nat.mul_le_mul a b
  have flat : ∀ (L : List Bk) (m : Nat), (∀ p ∈ L, (descOf h w p).length ≤ m) → (L.flatMap (descOf h w)).length ≤ L.length * m := by
    intro L m
    induction L with
    | nil => intro _; simp
    | cons a L ih =>
      intro e
      rw [List.flatMap_cons, List.length_append, List.length_cons, Nat.add_one_mul]
      have := e a List.mem_cons_self
      have := ih fun p hp => e p (List.mem_cons_of_mem _ hp)
      omega
  have := flat (rootsL h w) 21 fun p hp => desc_len (roots_vb hp)
  unfold everyL
  omega
/-- one more is found, what comes of it is left -/
theorem perm_step {h w : Nat} {F L : List Bk} {b : Bk} (v : Vb h w b) : ((F ++ [b]) ++ (L ++ partsL h w b).flatMap (descOf h w)).Perm (F ++ (L ++ [b]).flatMap (descOf h w)) := by
  rw [List.flatMap_append, List.flatMap_append, List.flatMap_cons, List.flatMap_nil, List.append_nil, desc_step v, List.append_assoc]
  refine List.Perm.append_left F ?_
  show (b :: (L.flatMap (descOf h w) ++ (partsL h w b).flatMap (descOf h w))).Perm _
  exact List.perm_middle.symm
end K05
namespace K05
open PySem PySem.Spec PyProof.Rows L2 PySem.W LamX KA KW KU KL KT
open Evl (pss_cut tCut)
/-! ### the law's own squares -/
theorem eqv_bks_nil (bs : List Bk) : PyData.eqv (.list (bs.map bkD)) (.list []) = bs.isEmpty := by
  cases bs <;> rfl
theorem RL.snoc_inv {α : Type} {f : α → List V} {H : Hp} {vs : List V} {as : List α} {a : α} (r : RL f H vs (as ++ [a])) : ∃ us p, vs = us ++ [.ref p] ∧ RL f H us as ∧ H p = some (.tup (f a)) := by
  obtain ⟨l, e⟩ := r
  rw [List.length_append, List.length_singleton] at l
  have : vs = vs.take as.length ++ vs.drop as.length := (List.take_append_drop _ _).symm
  obtain ⟨v, hv⟩ : ∃ v, vs.drop as.length = [v] := by
    have : (vs.drop as.length).length = 1 := by rw [List.length_drop]; omega
    exact List.length_eq_one_iff.mp this
  rw [hv] at this
  generalize hu : vs.take as.length = us at this
  have lu : us.length = as.length := by rw [← hu, List.length_take]; omega
  subst this
  have hl := e as.length v (by rw [List.getElem?_append_right (by omega), lu, Nat.sub_self]; rfl)
  rw [List.getElem?_append_right (Nat.le_refl _), Nat.sub_self] at hl
  obtain ⟨a', ea, p, rfl, hp⟩ := hl
  cases ea
  refine ⟨us, p, rfl, ⟨lu, fun i u hi => ?_⟩, hp⟩
  have hil := (List.getElem?_eq_some_iff.mp hi).1
  obtain ⟨b, eb, q⟩ := e i u (by rw [List.getElem?_append_left hil]; exact hi)
  rw [List.getElem?_append_left (by omega)] at eb
  exact ⟨b, eb, q⟩
theorem last_snoc {α : Type} (us : List α) (v : α) : (us ++ [v])[(us ++ [v]).length - 1]? = some v := by
  rw [List.length_append, List.length_singleton, Nat.add_sub_cancel, List.getElem?_append_right (Nat.le_refl _), Nat.sub_self]
  rfl
theorem snoc_of {α : Type} {l : List α} (h : l ≠ []) : ∃ r a, l = r ++ [a] := ⟨l.dropLast, l.getLast h, (List.dropLast_concat_getLast h).symm⟩
theorem isEmpty_snoc {α : Type} (l : List α) (a : α) : (l ++ [a]).isEmpty = false := by cases l <;> rfl
def spLSquares : Sp := fun vs H Q _ => ∃ (a : Addr) (h w : Nat), vs = [.ref a] ∧ ScW H a h w ∧ ∀ q us bs H', Same H H' → H q = none → H' q = some (.lst us) → RL bkV H' us bs → bs.Perm (everyL h w) → Q (.ref q) H'
section
variable {P : Program} {w : World} {K : PySem.W.Frag} {mg : Str → Option Value} {base : Heap} (T : Top K mg)
theorem ok_lsquares : FnOk P w K mg base (L2.CX P w) 2 T._law_squares.a T._law_squares.d ["scope"] spLSquares := by
  refine T._law_squares.f.okX sc__law_squares (fun vs H Q E h => ?_) (fun cdv A outer s H vs Q E hr h => ?_)
  · obtain ⟨a, h, w, rfl, _⟩ := h
    rfl
  · obtain ⟨a, h, wn, rfl, sc, k⟩ := h
    refine ⟨_, pss_cons (ps_par (i := 1) (j := 2) rfl sc__law_squares.nd rfl rfl (by decide) rfl rfl (pa_cons (pe_lst pa_nil) (pa_cons (pe_call (ok_lroots T) (hr.mono (by decide)) (by rfl) T._law_roots.m T._law_roots.f.kp (bd__law_roots T) .nil passE (pa_cons (pv 0) pa_nil)) pa_nil)) (by rfl))
      (pss_cons (ps_while (passes_of rfl) (pt_cmpR (op_neD hr.units) (pv 2) (pe_lst pa_nil) (nomark _))
        (pss_cons (ps_set (i := 3) sc__law_squares.nd rfl (.inl rfl) (pe_bm0 PySem.F.plainAttrs_list PySem.F.slot_list_pop PySem.F.type_list_pop mt_pop (pv 2)))
        (pss_cons (ps_expr (pe_bm PySem.F.plainAttrs_list PySem.F.slot_list_append PySem.F.type_list_append mt_append (pv 1) (pa_cons (pv 3) pa_nil)))
        (pss_one (ps_set (i := 2) sc__law_squares.nd rfl (.inl rfl) (pe_op op_cat (pv 2) (pe_call (ok_lparts T) (hr.mono (by decide)) (by rfl) T._law_parts.m T._law_parts.f.kp (bd__law_parts T) .nil passE (pa_cons (pv 0) (pa_cons (pv 3) pa_nil)))))))))
      (pss_one (ps_ret (pv 1)))), ?_⟩
    have hb := sc.b
    refine ⟨(by show 0 ≤ sizeLine; decide), fun f0 hf0 => ?_⟩
    have t0 := Same.new (o := .lst []) hf0
    have v0 : (upd H f0 (.lst [])) f0 = some (.lst []) := upd_same
    generalize upd H f0 (.lst []) = H0 at t0 v0 ⊢
    refine ⟨_, rfl, a, h, wn, rfl, sc.keep t0, fun q us H1 s1 nq lq r0 => ⟨_, _, rfl, ?_⟩⟩
    refine ⟨fun μ σ' Hx => ∃ (la : Addr) (v3 : Option V) (us ws : List V) (F L : List Bk), σ' = [some (.ref a), some (.ref f0), some (.ref la), v3] ∧ Same H Hx ∧ H la = none ∧ f0 ≠ la ∧ Hx f0 = some (.lst us) ∧ Hx la = some (.lst ws) ∧ RL bkV Hx us F ∧ RL bkV Hx ws L ∧ (∀ b ∈ L, Vb h wn b) ∧ (F ++ L.flatMap (descOf h wn)).Perm (everyL h wn) ∧ (L.flatMap (descOf h wn)).length = μ,
      ⟨_, q, _, [], us, [], rootsL h wn, rfl, t0.trans s1, t0.free nq, ne_of_none v0 nq, s1 _ _ v0, lq, .nil, r0, fun b hb => roots_vb hb, List.Perm.refl _, rfl⟩, ?_⟩
    rintro μ σ' Hx ⟨la, v3, us', ws, F, L, rfl, sx, nla, nfl, ef, el, rf, rl, vb, pm, eμ⟩
    refine ⟨_, rfl, (by show 0 ≤ sizeLine; decide), fun p hp => ?_⟩
    have tp := Same.new (o := .lst []) hp
    have e0 : (upd Hx p (.lst [])) p = some (.lst []) := upd_same
    generalize upd Hx p (.lst []) = Hy at tp e0 ⊢
    have sy := sx.trans tp
    have ef := tp _ _ ef
    have el := tp _ _ el
    have rf := rf.same tp
    have rl := rl.same tp
    refine ⟨_, _, .lst (SqL.of el) (dp_bks rl), dp_nil e0, bks_lay _, shaped_nil, _, rfl, ?_⟩
    rw [eqv_bks_nil]
    have len := pm.length_eq
    rw [List.length_append] at len
    have el84 := every_len (h := h) (w := wn) hb.2.1 hb.2.2.2
    by_cases c : L = []
    · subst c
      rw [List.flatMap_nil, List.append_nil] at pm
      exact iteF ⟨_, rfl, k f0 us' F Hy sy hf0 ef rf pm⟩
    obtain ⟨L0, b, rfl⟩ := snoc_of c
    rw [isEmpty_snoc]
    obtain ⟨ws0, pb, rfl, rl0, epb⟩ := rl.snoc_inv
    have vbb := vb b (List.mem_append_right _ List.mem_cons_self)
    have pm2 := (perm_step (F := F) (L := L0) vbb).trans pm
    have dl := desc_pos vbb
    have lL : (L0.flatMap (descOf h wn)).length + (descOf h wn b).length = μ := by
      rw [← eμ, List.flatMap_append, List.length_append, List.flatMap_cons, List.flatMap_nil, List.append_nil]
    have fl : F.length + μ ≤ 84 := by omega
    have l0 : L0.length ≤ (L0.flatMap (descOf h wn)).length := by
      have : ∀ (M : List Bk), (∀ b ∈ M, Vb h wn b) → M.length ≤ (M.flatMap (descOf h wn)).length := by
        intro M
        induction M with
        | nil => intro _; exact Nat.zero_le _
        | cons m M ih =>
          intro e
          rw [List.flatMap_cons, List.length_append, List.length_cons]
          have := desc_pos (e m List.mem_cons_self)
          have := ih fun b hb => e b (List.mem_cons_of_mem _ hb)
          omega
      exact this L0 fun b hb => vb b (List.mem_append_left _ hb)
    have s84 : 84 + 84 < sizeLine := by decide
    refine iteT ⟨fun σ' H' => ∃ (la : Addr) (v3 : Option V) (us ws : List V) (F L : List Bk), σ' = [some (.ref a), some (.ref f0), some (.ref la), v3] ∧ Same H H' ∧ H la = none ∧ f0 ≠ la ∧ H' f0 = some (.lst us) ∧ H' la = some (.lst ws) ∧ RL bkV H' us F ∧ RL bkV H' ws L ∧ (∀ b ∈ L, Vb h wn b) ∧ (F ++ L.flatMap (descOf h wn)).Perm (everyL h wn) ∧ (L.flatMap (descOf h wn)).length + 1 = μ,
      fun σ' H' ⟨la, v3, us, ws, F, L, z1, z2, z3, z4, z5, z6, z7, z8, z9, z10, z11⟩ => ⟨_, by omega, la, v3, us, ws, F, L, z1, z2, z3, z4, z5, z6, z7, z8, z9, z10, rfl⟩, ?_⟩
    refine ⟨_, rfl, .inl ⟨rfl, _, SqL.of el⟩, la, _, .ref pb, rfl, rfl, el, last_snoc _ _, ?_⟩
    rw [List.dropLast_concat]
    have tq := Tp.put (o := .lst ws0) el
    have sz := K05.Same.put (D := la) (o := .lst ws0) sy nla
    have ef2 : (upd Hy la (.lst ws0)) f0 = some (.lst us') := (upd_ne nfl).trans ef
    have el2 : (upd Hy la (.lst ws0)) la = some (.lst ws0) := upd_same
    have rf2 := rf.tp tq
    have rl2 := rl0.tp tq
    have ep2 := tq _ _ epb
    generalize upd Hy la (.lst ws0) = Hz at sz ef2 el2 rf2 rl2 ep2 ⊢
    refine ⟨_, rfl, .inl ⟨rfl, _, SqL.of ef2⟩, _, rfl, f0, us', .ref pb, rfl, rfl, ef2, by rw [rf2.1]; omega, ?_⟩
    have tw := Tp.put (o := .lst (us' ++ [.ref pb])) ef2
    have sw := K05.Same.put (D := f0) (o := .lst (us' ++ [.ref pb])) sz hf0
    have ef3 : (upd Hz f0 (.lst (us' ++ [.ref pb]))) f0 = some (.lst (us' ++ [.ref pb])) := upd_same
    have el3 : (upd Hz f0 (.lst (us' ++ [.ref pb]))) la = some (.lst ws0) := (upd_ne nfl.symm).trans el2
    have rf3 := (rf2.tp tw).append (RL.one (f := bkV) (a := b) ⟨pb, rfl, tw _ _ ep2⟩)
    have rl3 := rl2.tp tw
    have ep3 := tw _ _ ep2
    generalize upd Hz f0 (.lst (us' ++ [.ref pb])) = Hw at sw ef3 el3 rf3 rl3 ep3 ⊢
    refine ⟨_, rfl, _, rfl, _, rfl, a, pb, b, h, wn, rfl, sc.keep sw, ep3, vbb, fun q2 us2 H4 s4 nq2 lq2 r2 => ?_⟩
    have pl := parts_len (h := h) (w := wn) (b := b)
    refine ⟨la, q2, ws0, us2, rfl, rfl, s4 _ _ el3, lq2, by rw [rl3.1, r2.1]; omega, fun g hg => ?_⟩
    have tg := Same.new (o := .lst (ws0 ++ us2)) hg
    have s4g := s4.trans tg
    refine ⟨g, _, us' ++ [.ref pb], ws0 ++ us2, F ++ [b], L0 ++ partsL h wn b, rfl, sw.trans s4g, (sw.trans s4).free hg, ne_of_none (s4 _ _ ef3) hg, s4g _ _ ef3, upd_same, rf3.same s4g, ((rl3.same s4).append r2).same tg, fun b' hb' => ?_, pm2, ?_⟩
    · rcases List.mem_append.mp hb' with z | z
      · exact vb b' (List.mem_append_left _ z)
      · exact (parts_vb vbb z).1
    · rw [List.flatMap_append, List.length_append, ← lL, desc_step vbb, List.length_cons]
      omega
end
end K05
namespace K05
open PySem PySem.Spec PyProof.Rows L2 PySem.W LamX KA KW KU KL KT
open Evl (pss_cut tCut)
/-! ### the law's own covers -/
theorem RL.rev {α : Type} {f : α → List V} {H : Hp} {vs : List V} {as : List α} (r : RL f H vs as) : RL f H vs.reverse as.reverse := by
  obtain ⟨l, e⟩ := r
  refine ⟨by rw [List.length_reverse, List.length_reverse, l], fun i v hi => ?_⟩
  have hl := (List.getElem?_eq_some_iff.mp hi).1
  rw [List.length_reverse] at hl
  rw [List.getElem?_reverse hl] at hi
  obtain ⟨a, ea, q⟩ := e _ v hi
  exact ⟨a, by rw [List.getElem?_reverse (by omega), ← l]; exact ea, q⟩
theorem flat_rev_len {α β : Type} (f : α → List β) : ∀ L : List α, (L.reverse.flatMap f).length = (L.flatMap f).length
  | [] => rfl
  | a :: L => by
    rw [List.reverse_cons, List.flatMap_append, List.length_append, List.flatMap_cons, List.flatMap_cons, List.flatMap_nil, List.append_nil, List.length_append, flat_rev_len f L]
    omega
theorem ScW.kp {H H' : Hp} {a st lg : Addr} {h w : Nat} (p : ScW H a h w) (k : Kp st lg H H') (n1 : a ≠ st) (n2 : a ≠ lg) : ScW H' a h w := by
  obtain ⟨lo, hi, q⟩ := p
  exact ⟨lo, hi, q.keep fun o e => k _ _ e n1 n2⟩
theorem Kp.put3 {st lg D : Addr} {H H' : Hp} {o : HO} (k : Kp st lg H H') (hD : H D = none) : Kp st lg H (upd H' D o) := fun b u e n1 n2 => by
  rw [upd_ne (fun z => by rw [z, hD] at e; cases e)]
  exact k _ _ e n1 n2
theorem offc {H : Hp} {st lg cl p : Addr} {n : Nat} (S : StAt H st lg cl n) (hp : H p = none) : p ≠ cl := by
  obtain ⟨_, _, _, _, S', _⟩ := S
  exact (ne_of_none S'.c hp).symm
theorem stAt_put {H : Hp} {st lg cl e : Addr} {n : Nat} {ys : List V} (S : StAt H st lg cl n) (h1 : e ≠ st) (h2 : e ≠ lg) (h3 : e ≠ cl) : StAt (upd H e (.lst ys)) st lg cl n := by
  obtain ⟨a, b, c, d, s, h'⟩ := S
  exact ⟨a, b, c, d, { s with d := (upd_ne h1.symm).trans s.d, l := (upd_ne h2.symm).trans s.l, c := (upd_ne h3.symm).trans s.c }, h'⟩
theorem StAt.here {H : Hp} {st lg cl p : Addr} {n : Nat} (S : StAt H st lg cl n) {k : Hp} (kp : Kp st lg H k) (hp : k p = none) (n1 : p ≠ st) (n2 : p ≠ lg) : H p = none := by
  cases z : H p with
  | none => rfl
  | some o =>
    have := kp p o z n1 n2
    rw [hp] at this
    cases this
theorem desc_le {h w : Nat} : ∀ (M : List Bk), (∀ b ∈ M, Vb h w b) → M.length ≤ (M.flatMap (descOf h w)).length := by
  intro M
  induction M with
  | nil => intro _; exact Nat.zero_le _
  | cons m M ih =>
    intro e
    rw [List.flatMap_cons, List.length_append, List.length_cons]
    have := desc_pos (e m List.mem_cons_self)
    have := ih fun b hb => e b (List.mem_cons_of_mem _ hb)
    omega
end K05
namespace K05
open PySem PySem.Spec PyProof.Rows L2 PySem.W LamX KA KW KU KL KT
open Evl (pss_cut tCut)
/-! ### the law's own mixing -/
/-- a number or a block -/
def El (H : Hp) (v : V) : Prop := (∃ i, v = .int i) ∨ ∃ p b, v = .ref p ∧ H p = some (.tup (bkV b))
theorem El.tp {H H' : Hp} {v : V} (e : El H v) (t : Tp H H') : El H' v := by
  rcases e with z | ⟨p, b, z, q⟩
  · exact .inl z
  · exact .inr ⟨p, b, z, t _ _ q⟩
theorem dp_els {K : PySem.W.Frag} {H : Hp} : ∀ {us : List V}, (∀ v ∈ us, El H v) → ∃ ds, DpAll K H us ds ∧ PyData.canLayAll0 ds = true ∧ PyData.depthAll ds ≤ 2 ∧ ds.isEmpty = us.isEmpty
  | [], _ => ⟨[], .nil, rfl, Nat.zero_le _, rfl⟩
  | u :: us, e => by
    obtain ⟨ds, a, b, c, _⟩ := dp_els (us := us) fun v hv => e v (List.mem_cons_of_mem _ hv)
    rcases e u List.mem_cons_self with ⟨i, rfl⟩ | ⟨p, bk, rfl, q⟩
    · exact ⟨.int i :: ds, .cons (.int i) a, by simp [PyData.canLayAll0, PyData.canLay0, b], by simp only [PyData.depthAll, PyData.depth]; omega, rfl⟩
    · obtain ⟨l1, l2⟩ := bk_lay bk
      exact ⟨bkD bk :: ds, .cons (dp_bk q) a, by simp [PyData.canLayAll0, l1, b], by simp only [PyData.depthAll]; omega, rfl⟩
theorem els_shaped {ds : List PyData} (h1 : PyData.canLayAll0 ds = true) (h2 : PyData.depthAll ds ≤ 2) : SeqAt.shaped (.list ds) = true := by
  simp [SeqAt.shaped, PyData.canLay0, PyData.depth, h1]
  omega
theorem eqv_list_nil (ds : List PyData) : PyData.eqv (.list ds) (.list []) = ds.isEmpty := by
  cases ds <;> rfl
section
variable {P : Program} {w : World} {K : PySem.W.Frag} {mg : Str → Option Value} {base : Heap} (T : Top K mg)
def spMixed (K : PySem.W.Frag) : Sp := fun vs H Q _ => ∃ (st lg cl a : Addr) (is : List V) (m : Nat), vs = [.ref st, .ref a] ∧ SqL K H a is ∧ is.length ≤ 1000 ∧ (∀ v ∈ is, El H v) ∧ m ≤ 900000 ∧ StAt H st lg cl m ∧
  ∀ (p : Addr) (js : List V) (H' : Hp), (∀ j ∈ js, j ∈ is) → js.length = is.length → H' p = some (.lst js) → H p = none → StAt H' st lg cl (m + is.length) → Kp st lg H H' → Q (.ref p) H'
theorem ok_mixed : FnOk P w K mg base (L2.CX P w) 2 T._law_mixed.a T._law_mixed.d ["state", "several"] (spMixed K) := by
  refine T._law_mixed.f.okX sc__law_mixed (fun vs H Q E h => ?_) (fun cdv A outer s H vs Q E hr h => ?_)
  · obtain ⟨st, lg, cl, a, is, m, rfl, _⟩ := h
    rfl
  · obtain ⟨st, lg, cl, a, is, m, rfl, ha, hl, hel, hm, S, k⟩ := h
    refine ⟨_, pss_cons (ps_par (i := 2) (j := 3) rfl sc__law_mixed.nd rfl rfl (by decide) rfl rfl (pa_cons (pe_callTy call_list_of (by rfl) T.b_list (by decide +kernel) (pa_cons (pv 1) pa_nil)) (pa_cons (pe_lst pa_nil) pa_nil)) (by rfl))
      (pss_cons (ps_while (passes_of rfl) (pt_cmpR (op_neD hr.units) (pv 2) (pe_lst pa_nil) (nomark _))
        (pss_one (ps_expr (pe_bm PySem.F.plainAttrs_list PySem.F.slot_list_append PySem.F.type_list_append mt_append (pv 3) (pa_cons (pe_bm PySem.F.plainAttrs_list PySem.F.slot_list_pop PySem.F.type_list_pop mt_popAt (pv 2)
          (pa_cons (pe_call (ok_draw T) hr (by rfl) T._law_draw.m T._law_draw.f.kp (bd__law_draw T) .nil passE (pa_cons (pv 0) (pa_cons (pe_callB call_len_seq (by rfl) T.b_len PySem.boot_len (pa_cons (pv 2) pa_nil)) pa_nil))) pa_nil)) pa_nil)))))
      (pss_one (ps_ret (pv 3)))), ?_⟩
    refine ⟨_, rfl, a, _, rfl, .inl ha, fun q hq => ⟨(by show 0 ≤ sizeLine; decide), fun r hr' => ⟨_, _, rfl, ?_⟩⟩⟩
    have sq := Same.new (o := .lst is) hq
    have S1 := S.same sq
    have sr := Same.new (o := .lst []) hr'
    have S2 := S1.same sr
    have q1 := (S.off hq).1
    have q2 := (S.off hq).2
    have q3 := offc S hq
    have r1 := (S1.off hr').1
    have r2 := (S1.off hr').2
    have r3 := offc S1 hr'
    have qr : q ≠ r := ne_of_none upd_same hr'
    have hr0 : H r = none := sq.free hr'
    refine ⟨fun μ σ' H1 => σ' = [some (.ref st), some (.ref a), some (.ref q), some (.ref r)] ∧ ∃ (L M : List V), L.length = μ ∧ L.length + M.length = is.length ∧ (∀ j ∈ L, j ∈ is) ∧ (∀ j ∈ M, j ∈ is) ∧ H1 q = some (.lst L) ∧ H1 r = some (.lst M) ∧ StAt H1 st lg cl (m + M.length) ∧
      Kp st lg H H1, ⟨is.length, rfl, is, [], rfl, by simp, fun j h => h, (fun j h => by cases h), (upd_ne qr).trans upd_same, upd_same, S2, (Kp.same sq).trans (Kp.same sr)⟩, ?_⟩
    clear S1 S2 sr hr'
    rintro μ σ' H1 ⟨rfl, L, M, rfl, e1, e2, e3, e4, e5, S1, kp⟩
    refine ⟨_, rfl, (by show 0 ≤ sizeLine; decide), fun p hp => ?_⟩
    have nq : q ≠ p := ne_of_none e4 hp
    have nr : r ≠ p := ne_of_none e5 hp
    have e4' : (upd H1 p (.lst [])) q = some (.lst L) := (upd_ne nq).trans e4
    have e5' : (upd H1 p (.lst [])) r = some (.lst M) := (upd_ne nr).trans e5
    have S2 := S1.same (Same.new (o := .lst []) hp)
    have kp2 := kp.trans (Kp.same (Same.new (o := .lst []) hp))
    have tt := Tp.kp S kp2
    obtain ⟨ds, d1, d2, d3, d4⟩ := dp_els (K := K) (H := upd H1 p (.lst [])) (us := L) fun v hv => (hel v (e2 v hv)).tp tt
    refine ⟨_, _, .lst (SqL.of e4') d1, dp_nil upd_same, els_shaped d2 d3, shaped_nil, _, rfl, ?_⟩
    rw [eqv_list_nil, d4]
    clear d1 d2 d3 d4 tt
    generalize upd H1 p (.lst []) = H2 at e4' e5' S2 kp2
    cases L with
    | nil =>
      refine iteF ⟨_, rfl, ?_⟩
      have : M.length = is.length := by simpa using e1
      exact k r M H2 e3 this e5' hr0 (this ▸ S2) kp2
    | cons x rest =>
      refine iteT ⟨fun σ' H' => σ' = [some (.ref st), some (.ref a), some (.ref q), some (.ref r)] ∧ ∃ (L' M' : List V), L'.length = rest.length ∧ L'.length + M'.length = is.length ∧ (∀ j ∈ L', j ∈ is) ∧ (∀ j ∈ M', j ∈ is) ∧ H' q = some (.lst L') ∧ H' r = some (.lst M') ∧ StAt H' st lg cl (m + M'.length) ∧ Kp st lg H H',
        fun σ' H' ⟨e, L', M', f1, f2⟩ => ⟨rest.length, by simp, e, L', M', f1, f2⟩, ?_⟩
      refine ⟨_, rfl, .inl ⟨rfl, _, SqL.of e5'⟩, _, rfl, .inl ⟨rfl, _, SqL.of e4'⟩, _, rfl, _, rfl, q, _, rfl, .inl (SqL.of e4'), st, lg, cl, (x :: rest).length, m + M.length, rfl, by simp, ?_, ?_, S2, fun d H3 hd S3 kp3 => ?_⟩
      · exact Nat.lt_of_le_of_lt (show _ ≤ 1000 from by omega) (by decide)
      · omega
      have g4 := kp3 q _ e4' q1 q2
      have g5 := kp3 r _ e5' r1 r2
      obtain ⟨y, hy⟩ : ∃ y, (x :: rest)[d]? = some y := ⟨_, List.getElem?_eq_getElem hd⟩
      have le : d < 1001 := by omega
      refine ⟨q, _, (d : Int), d, y, rfl, rfl, g4, by omega, by omega, ?_, hy, ?_⟩
      · have hd2 : d < rest.length + 1 := by simpa using hd
        unfold seqIndex?
        rw [if_neg (show ¬ (d : Int) < 0 by omega), if_pos ?_, Int.toNat_natCast]
        rw [Bool.and_eq_true, decide_eq_true_eq, decide_eq_true_eq, List.length_cons]
        omega
      have g6 : (upd H3 q (.lst ((x :: rest).eraseIdx d))) r = some (.lst M) := (upd_ne qr.symm).trans g5
      refine ⟨r, _, y, rfl, rfl, g6, ?_, rfl, (x :: rest).eraseIdx d, M ++ [y], ?_, ?_, ?_, ?_, ?_, ?_, ?_, ?_⟩
      · exact Nat.lt_of_le_of_lt (show M.length ≤ 1000 by omega) (by decide)
      · rw [List.length_eraseIdx_of_lt hd]
        simp
      · rw [List.length_eraseIdx_of_lt hd, List.length_append]
        simp at e1 ⊢
        omega
      · exact fun j hj => e2 j (List.mem_of_mem_eraseIdx hj)
      · intro j hj
        rcases List.mem_append.mp hj with z | z
        · exact e3 j z
        · rw [List.mem_singleton.mp z]
          exact e2 y (List.mem_of_getElem? hy)
      · rw [upd_ne qr, upd_same]
      · exact upd_same
      · have := stAt_put (ys := M ++ [y]) (stAt_put (ys := (x :: rest).eraseIdx d) S3 q1 q2 q3) r1 r2 r3
        rw [List.length_append]
        exact this
      · exact Kp.put3 (Kp.put3 (kp2.trans kp3) (by first | exact hq)) hr0
end
end K05
namespace KDU
open PySem PySem.Spec PyProof.Rows L2
/-! d.update(other): both dicts of ints and texts -/
def rUpdate : V → List V → Hp → VK → Prop := fun x xs H Q => ∃ (a o : Addr) (kvs more : List (L2.Key × V)), x = .ref a ∧ xs = [.ref o] ∧ H a = some (.dK kvs) ∧ H o = some (.dK more) ∧ a ≠ o ∧ kvs.length + more.length ≤ sizeLine ∧ Q .non (upd H a (.dK (mergeK kvs more)))
theorem mt_update {X : Cx} : MtR X "dict.update" rUpdate := by
  intro pins s σ H x xs v us Q I rx rxs h
  obtain ⟨a, o, kvs, more, rfl, rfl, ha, ho, hne, hz, q⟩ := h
  cases rx
  obtain ⟨u, rfl, ru⟩ := rxs.one
  cases ru
  obtain ⟨z, hd, vs, rel, dd⟩ := dk_of I.hok ha
  obtain ⟨z2, hd2, vs2, rel2, dd2⟩ := dk_of I.hok ho
  refine call_meetsIn PySem.F.slot_dict_update dd.typeIs PySem.F.entry_dict_update (PySem.F.args_dict_update_2 _ _) (meets_dict_update (mixKind X.prog X.w) a o hne hd2)
    ⟨vs, vs2, dd, dd2, by rw [← rel.length, ← rel2.length]; exact hz, fun h' dd' _ hs => ?_⟩
  have he : ∃ q, h'.get? a = some q := let ⟨q, _, _, hq, _⟩ := dd'; ⟨q, hq⟩
  refine ⟨.non, _, d_write (t' := s.toks) I (by rw [ha]; exact True.intro) hs he (dk_new (Nat.le_trans (length_mergeK more kvs) hz) hd (KV.merge rel2 rel) dd'), rfl, q⟩
end KDU
namespace K05
open PySem PySem.Spec PyProof.Rows L2 PySem.W LamX KA KW KU KL
open Evl (pss_cut tCut)
/-! ### the law's own scopes, wide -/
section
variable {P : Program} {w : World} {K : PySem.W.Frag} {mg : Str → Option Value} {base : Heap} (T : Top K mg)
def spScopeF : Sp := fun vs H Q _ => ∃ (st lg cl : Addr) (m : Nat), vs = [.ref st] ∧ m ≤ 990000 ∧ StAt H st lg cl m ∧
  ∀ (a : Addr) (t w lo hi : Int) (H' : Hp), ScV H' a t w lo hi → H a = none → a ≠ st → a ≠ lg → StAt H' st lg cl (m + 4) → Kp st lg H H' → Q (.ref a) H'
theorem ok_scopeF : FnOk P w K mg base (L2.CX P w) 3 T._law_scope.a T._law_scope.d ["state"] spScopeF := by
  refine T._law_scope.f.okX sc__law_scope (fun vs H Q E h => ?_) (fun cdv A outer s H vs Q E hr h => ?_)
  · obtain ⟨st, lg, cl, m, rfl, _⟩ := h
    rfl
  · obtain ⟨st, lg, cl, m, rfl, hm, S, k⟩ := h
    refine ⟨_, pss_cons (ps_set (i := 1) sc__law_scope.nd rfl (.inl rfl) (pe_lst (pa_pair (pe_tup (pa_cons pe_int (pa_cons pe_int pa_nil))) (pa_pair (pe_tup (pa_cons pe_int (pa_cons pe_int pa_nil))) (pa_pair (pe_tup (pa_cons pe_int (pa_cons pe_int pa_nil))) (pa_pair (pe_tup (pa_cons pe_int (pa_cons pe_int pa_nil))) (pa_pair (pe_tup (pa_cons pe_int (pa_cons pe_int pa_nil))) (pa_pair (pe_tup (pa_cons pe_int (pa_cons pe_int pa_nil))) (pa_pair (pe_tup (pa_cons pe_int (pa_cons pe_int pa_nil))) (pa_pair (pe_tup (pa_cons pe_int (pa_cons pe_int pa_nil))) (pa_pair (pe_tup (pa_cons pe_int (pa_cons pe_int pa_nil))) (pa_pair (pe_tup (pa_cons pe_int (pa_cons pe_int pa_nil))) (pa_pair (pe_tup (pa_cons pe_int (pa_cons pe_int pa_nil))) pa_pair0)))))))))))))
      (pss_cut (ps_set (i := 1) sc__law_scope.nd rfl (.inl rfl) (pe_ifExp (pt_cmpR op_gt (pe_call (ok_draw T) (hr.mono (by decide)) (by rfl) T._law_draw.m T._law_draw.f.kp (bd__law_draw T) .nil passE (pa_cons (pv 0) (pa_cons pe_int pa_nil))) pe_int (nomark _)) (pv 1) (pe_lst (pa_pair (pe_tup (pa_cons pe_int (pa_cons pe_int pa_nil))) (pa_pair (pe_tup (pa_cons pe_int (pa_cons pe_int pa_nil))) (pa_pair (pe_tup (pa_cons pe_int (pa_cons pe_int pa_nil))) (pa_pair (pe_tup (pa_cons pe_int (pa_cons pe_int pa_nil))) pa_pair0)))))))
      (pss_cons (ps_asg (pe_call (ok_pick T) (hr.mono (by decide)) (by rfl) T._law_pick.m T._law_pick.f.kp (bd__law_pick T) .nil passE (pa_cons (pv 0) (pa_cons (pv 1) pa_nil))) (pg_tup rfl (pgs_cons (pg_name (i := 2) sc__law_scope.nd rfl (.inl rfl)) (pgs_cons (pg_name (i := 3) sc__law_scope.nd rfl (.inl rfl)) pgs_nil))))
      (pss_cons (ps_set (i := 4) sc__law_scope.nd rfl (.inl rfl) (pe_call (ok_pick T) (hr.mono (by decide)) (by rfl) T._law_pick.m T._law_pick.f.kp (bd__law_pick T) .nil passE (pa_cons (pv 0) (pa_cons (pe_lst (pa_cons pe_int (pa_cons pe_int (pa_cons pe_int (pa_cons (pe_un un_neg pe_int) (pa_cons (pe_un un_neg pe_int) (pa_cons pe_int pa_nil))))))) pa_nil))))
      (pss_cons (ps_set (i := 5) sc__law_scope.nd rfl (.inl rfl) (pe_callB (call_min2 rfl) (by rfl) T.b_min PyProof.Rows.boot_min (pa_cons pe_int (pa_cons (pe_op op_add (pv 4) (pe_call (ok_pick T) (hr.mono (by decide)) (by rfl) T._law_pick.m T._law_pick.f.kp (bd__law_pick T) .nil passE (pa_cons (pv 0) (pa_cons (pe_lst (pa_cons pe_int (pa_cons pe_int (pa_cons pe_int (pa_cons pe_int (pa_cons pe_int (pa_cons pe_int (pa_cons pe_int pa_nil)))))))) pa_nil)))) pa_nil))))
      (pss_one (ps_ret (pe_disp (pps_cons pe_str (pv 2) (pps_cons pe_str (pv 3) (pps_cons pe_str (pv 4) (pps_cons pe_str (pv 5) pps_nil)))) (by rfl) (by rfl) (fun z => by cases z) (by decide)))))))), ?_⟩
    have ok1 : ∀ c ∈ [(1, 1), (2, 2), (2, 3), (3, 2), (4, 4), (1, 5), (5, 1), (3, 4), (2, 6), (5, 6), (9, 2)] ++ [(2, 10), (3, 16), (8, 8), (10, 9)], (1 : Int) ≤ c.1 ∧ c.1 ≤ 16 ∧ (1 : Int) ≤ c.2 ∧ c.2 ≤ 16 := by decide
    refine pairs_read [(1, 1), (2, 2), (2, 3), (3, 2), (4, 4), (1, 5), (5, 1), (3, 4), (2, 6), (5, 6), (9, 2)] _ H _ fun ps H1 s1 hl1 hp1 => ⟨?_, fun b hb => ?_⟩
    · rw [List.length_map, hl1]
      decide
    have S1 := (S.same s1).same (Same.new (o := .lst (ps.map V.ref)) hb)
    have kp1 : Kp st lg H (upd H1 b (.lst (ps.map V.ref))) := (Kp.same s1).trans (Kp.same (Same.new hb))
    have hp1 : ∀ p ∈ ps, ∃ c ∈ [(1, 1), (2, 2), (2, 3), (3, 2), (4, 4), (1, 5), (5, 1), (3, 4), (2, 6), (5, 6), (9, 2)] ++ [(2, 10), (3, 16), (8, 8), (10, 9)], (upd H1 b (.lst (ps.map V.ref))) p = some (.tup [V.int c.1, .int c.2]) := fun p hp => by
      obtain ⟨c, h1, h2⟩ := hp1 p hp
      exact ⟨c, List.mem_append_left _ h1, (Same.new hb) _ _ h2⟩
    have hb1 : (upd H1 b (.lst (ps.map V.ref))) b = some (.lst (ps.map V.ref)) := upd_same
    have nb := (S.same s1).off hb
    have lp : 0 < ps.length ∧ ps.length ≤ 11 := by
      rw [hl1]
      decide
    generalize upd H1 b (.lst (ps.map V.ref)) = H2 at S1 kp1 hp1 hb1 ⊢
    clear hb s1 hl1
    refine ⟨fun σ' H' => ∃ (b : Addr) (ps : List Addr), σ' = [some (.ref st), some (.ref b), none, none, none, none] ∧ StAt H' st lg cl (m + 1) ∧ Kp st lg H H' ∧ (∀ p ∈ ps, ∃ c ∈ [(1, 1), (2, 2), (2, 3), (3, 2), (4, 4), (1, 5), (5, 1), (3, 4), (2, 6), (5, 6), (9, 2)] ++ [(2, 10), (3, 16), (8, 8), (10, 9)], H' p = some (.tup [V.int c.1, .int c.2])) ∧ H' b = some (.lst (ps.map V.ref)) ∧ (b ≠ st ∧ b ≠ lg) ∧ 0 < ps.length ∧ ps.length ≤ 11, ?_, ?_⟩
    · refine ⟨_, rfl, st, lg, cl, 6, m, rfl, by decide, by decide, by omega, S1, fun r H3 hr3 S3 kp3 => ⟨_, _, rfl, rfl, _, rfl, ?_⟩⟩
      by_cases c : (0 : Int) < (r : Nat)
      · rw [decide_eq_true c]
        refine iteT ⟨_, rfl, b, ps, rfl, S3, kp1.trans kp3, fun p hp => ?_, kp3 _ _ hb1 nb.1 nb.2, nb, lp⟩
        obtain ⟨c, h1, h2⟩ := hp1 p hp
        have off : p ≠ st ∧ p ≠ lg := by
          obtain ⟨_, _, _, _, S', _⟩ := S1
          exact ⟨ne_of h2 S'.d (by intro z; cases z), ne_of h2 S'.l (by intro z; cases z)⟩
        exact ⟨c, h1, kp3 _ _ h2 off.1 off.2⟩
      · rw [decide_eq_false c]
        refine iteF (pairs_read [(2, 10), (3, 16), (8, 8), (10, 9)] _ H3 _ fun ps2 H4 s4 hl2 hp2 => ⟨?_, fun b2 hb2 => ⟨b2, ps2, rfl, (S3.same s4).same (Same.new hb2), ((kp1.trans kp3).trans (Kp.same s4)).trans (Kp.same (Same.new hb2)), fun p hp => ?_, upd_same, (S3.same s4).off hb2, ?_⟩⟩)
        · rw [List.length_map, hl2]
          decide
        · obtain ⟨c, h1, h2⟩ := hp2 p hp
          exact ⟨c, List.mem_append_right _ h1, (Same.new hb2) _ _ h2⟩
        · rw [hl2]
          decide
    clear S1 kp1 hp1 hb1 nb lp H2
    rintro σ H2 ⟨b, ps, rfl, S2, kp2, hp2, hb2, nb, lp1, lp2⟩
    -- tall, wide
    refine ⟨_, rfl, _, rfl, st, lg, cl, b, _, m + 1, rfl, hb2, nb.2, ?_, ?_, by omega, S2, fun x H3 hx S3 kp3 => ?_⟩
    · rw [List.length_map]
      exact lp1
    · rw [List.length_map]
      omega
    obtain ⟨p, hp, rfl⟩ := List.mem_map.mp hx
    obtain ⟨c, hc, h3⟩ := hp2 p hp
    obtain ⟨c1, c2, c3, c4⟩ := ok1 c hc
    have off : p ≠ st ∧ p ≠ lg := by
      obtain ⟨_, _, _, _, S', _⟩ := S2
      exact ⟨ne_of h3 S'.d (by intro z; cases z), ne_of h3 S'.l (by intro z; cases z)⟩
    have h4 := kp3 _ _ h3 off.1 off.2
    have kpA := kp2.trans kp3
    refine ⟨p, _, rfl, SqT.of h4, rfl, _, _, rfl, _, _, rfl, rfl, ?_⟩
    -- least
    refine ⟨_, rfl, _, rfl, _, rfl, (by show 6 ≤ sizeLine; decide), fun q hq => ⟨st, lg, cl, q, _, m + 2, rfl, upd_same, (S3.off hq).2, (by show 0 < 6; decide), (by show 6 ≤ 1000; decide), by omega, S3.same (Same.new hq), fun x H4 hx4 S4 kp4 => ?_⟩⟩
    obtain ⟨lo, rfl, lo1, lo2⟩ : ∃ lo : Int, x = .int lo ∧ -512 ≤ lo ∧ lo ≤ 3 := by
      simp only [List.mem_cons, List.not_mem_nil, or_false] at hx4
      rcases hx4 with h | h | h | h | h | h <;> exact ⟨_, h, by decide, by decide⟩
    have kpB := (kpA.trans (Kp.same (Same.new hq))).trans kp4
    -- most
    refine ⟨_, rfl, _, rfl, (by show 7 ≤ sizeLine; decide), fun q2 hq2 => ⟨st, lg, cl, q2, _, m + 3, rfl, upd_same, (S4.off hq2).2, (by show 0 < 7; decide), (by show 7 ≤ 1000; decide), by omega, S4.same (Same.new hq2), fun y H5 hx5 S5 kp5 => ?_⟩⟩
    obtain ⟨d, rfl, d1, d2⟩ : ∃ d : Int, y = .int d ∧ 0 ≤ d ∧ d ≤ 1023 := by
      simp only [List.mem_cons, List.not_mem_nil, or_false] at hx5
      rcases hx5 with h | h | h | h | h | h | h <;> exact ⟨_, h, by decide, by decide⟩
    have kpC := (kpB.trans (Kp.same (Same.new hq2))).trans kp5
    refine ⟨_, _, rfl, rfl, _, _, rfl, ?_⟩
    generalize hmost : (if lo + d < 511 then lo + d else (511 : Int)) = hi
    have hi1 : lo ≤ hi ∧ hi ≤ 511 := by
      rw [← hmost]
      split <;> omega
    -- the dict
    intro dt hdt
    refine ⟨_, rfl, _, rfl, _, rfl, _, rfl, upd_same, scKv c.1 c.2 lo hi, rfl, (by show 4 ≤ 15; decide), ?_⟩
    rw [sc_merge]
    have sm : Same H5 (upd (upd H5 dt (.dK [])) dt (.dK (scKv c.1 c.2 lo hi))) := fun b o e => by
      rw [upd_upd, upd_ne (ne_of_none e hdt)]
      exact e
    have nd := S5.off hdt
    exact k dt c.1 c.2 lo hi _ ⟨upd_same, c1, c2, c3, c4, lo1, hi1.1, hi1.2⟩ (K05.StAt.here S kpC hdt nd.1 nd.2) nd.1 nd.2 (S5.same sm) (kpC.trans (Kp.same sm))
theorem sc_put_tall {t w lo hi x : Int} : putK (scKv t w lo hi) kTall (.int x) = scKv x w lo hi := by
  unfold putK
  rw [valV_any, sc_tall, Option.isSome_some, if_pos rfl]
  simp only [scKv, List.map_cons, List.map_nil, if_neg (Ne.symm kTW), if_neg (Ne.symm kTL), if_neg (Ne.symm kTM), if_true]
theorem sc_put_wide {t w lo hi x : Int} : putK (scKv t w lo hi) kWide (.int x) = scKv t x lo hi := by
  unfold putK
  rw [valV_any, sc_wide, Option.isSome_some, if_pos rfl]
  simp only [scKv, List.map_cons, List.map_nil, if_neg kTW, if_neg (Ne.symm kWL), if_neg (Ne.symm kWM), if_true]
theorem two_merge {x y : Int} : mergeK [] [(kTall, V.int x), (kWide, V.int y)] = [(kTall, V.int x), (kWide, V.int y)] := by
  unfold mergeK
  simp only [List.foldl_cons, List.foldl_nil]
  rw [putK_new (kvs := []) _ valV_nil, List.nil_append]
  rw [putK_new (k := kWide) _ ((valV_neg (show ¬ kTall = kWide from kTW)).trans valV_nil)]
  rfl
theorem sc_merge2 {t w lo hi x y : Int} : mergeK (scKv t w lo hi) [(kTall, V.int x), (kWide, V.int y)] = scKv x y lo hi := by
  unfold mergeK
  simp only [List.foldl_cons, List.foldl_nil]
  rw [sc_put_tall, sc_put_wide]
theorem stAt_putO {H : Hp} {st lg cl e : Addr} {n : Nat} {o : HO} (S : StAt H st lg cl n) (h1 : e ≠ st) (h2 : e ≠ lg) (h3 : e ≠ cl) : StAt (upd H e o) st lg cl n := by
  obtain ⟨a, b, c, d, s, h'⟩ := S
  exact ⟨a, b, c, d, { s with d := (upd_ne h1.symm).trans s.d, l := (upd_ne h2.symm).trans s.l, c := (upd_ne h3.symm).trans s.c }, h'⟩
def spWide : Sp := fun vs H Q _ => ∃ (st lg cl : Addr) (m : Nat), vs = [.ref st] ∧ m ≤ 980000 ∧ StAt H st lg cl m ∧
  ∀ (a : Addr) (h w : Nat) (H' : Hp), ScW H' a h w → H a = none → a ≠ st → a ≠ lg → StAt H' st lg cl (m + 7) → Kp st lg H H' → Q (.ref a) H'
end
end K05
namespace K05
open PySem PySem.Spec PyProof.Rows L2 PySem.W LamX KA KW KU KL KT
open Evl (pss_cut tCut)
/-! ### the law's own form, fashions, what stands -/
def spForm5 (C : Addr) : Sp := fun vs H Q _ => ∃ (a : Addr) (h w : Nat) (lo hi : Int), vs = [.ref a] ∧ ScV H a (h : Int) (w : Int) lo hi ∧ ∀ (x : Addr) (H' : Hp), Sv C H' (.ref x) h w lo hi → H x = none → Same H H' → (∀ tb, H' x ≠ some (.tbl tb)) → Q (.ref x) H'
def fashS : List Str := ["flat", "left", "up", "middle", "mean", "copy", "both", "still"]
def fashL : List V := fashS.map V.str
def spFash : Sp := fun vs H Q _ => vs = [] ∧ ∀ q H', Same H H' → H q = none → H' q = some (.lst fashL) → Q (.ref q) H'
def kS (s : Str) : Key := Sum.inr s
def stands1 (b : Bk) : List (Key × V) := [(kS "flat", .bl true), (kS "left", .bl (decide (0 < b.l))), (kS "up", .bl (decide (0 < b.t))), (kS "middle", .bl (decide (0 < b.l) && decide (0 < b.t)))]
def stands2 (b : Bk) (k : Nat) : List (Key × V) := [(kS "mean", .bl (decide (0 < b.l) || decide (0 < b.t))), (kS "copy", .bl (decide (0 < k)))]
def stands3 (k : Nat) : List (Key × V) := [(kS "both", .bl (decide (k = 2))), (kS "still", .bl (decide (0 < k)))]
def standsD (b : Bk) (k : Nat) : List (Key × V) := stands1 b ++ stands2 b k ++ stands3 k
theorem valV_notin {kvs : List (Key × V)} {k : Key} (h : ¬ k ∈ kvs.map (·.1)) : valV kvs k = none := by
  cases e : valV kvs k with
  | none => rfl
  | some v => exact absurd (valV_in e) h
theorem merge_new : ∀ (more kvs : List (Key × V)), (kvs.map (·.1) ++ more.map (·.1)).Nodup → mergeK kvs more = kvs ++ more
  | [], kvs, _ => (List.append_nil _).symm
  | p :: r, kvs, h => by
    have n : ¬ p.1 ∈ kvs.map (·.1) := fun m => by
      have := (List.nodup_append.mp h).2.2 p.1 m p.1 (by rw [List.map_cons]; exact List.mem_cons_self)
      exact this rfl
    show mergeK (putK kvs p.1 p.2) r = _
    rw [putK_new _ (valV_notin n), merge_new r (kvs ++ [(p.1, p.2)])]
    · rw [List.append_assoc]
      rfl
    · rw [List.map_append, List.append_assoc]
      exact h
theorem stands_m1 {b : Bk} : mergeK [] (stands1 b) = stands1 b := merge_new _ _ (by show ([] ++ [kS "flat", kS "left", kS "up", kS "middle"] : List Key).Nodup; decide +kernel)
theorem stands_m2 {b : Bk} {k : Nat} : mergeK [] (stands2 b k) = stands2 b k := merge_new _ _ (by show ([] ++ [kS "mean", kS "copy"] : List Key).Nodup; decide +kernel)
theorem stands_m3 {k : Nat} : mergeK [] (stands3 k) = stands3 k := merge_new _ _ (by show ([] ++ [kS "both", kS "still"] : List Key).Nodup; decide +kernel)
theorem stands_m12 {b : Bk} {k : Nat} : mergeK (stands1 b) (stands2 b k) = stands1 b ++ stands2 b k := merge_new _ _ (by show ([kS "flat", kS "left", kS "up", kS "middle"] ++ [kS "mean", kS "copy"] : List Key).Nodup; decide +kernel)
theorem stands_m123 {b : Bk} {k : Nat} : mergeK (stands1 b ++ stands2 b k) (stands3 k) = standsD b k := merge_new _ _ (by show ([kS "flat", kS "left", kS "up", kS "middle", kS "mean", kS "copy"] ++ [kS "both", kS "still"] : List Key).Nodup; decide +kernel)
theorem and_pure {tb : TE} {σ : L2.St} {H : Hp} {Q : VK} {c d : Bool} (hb : ∀ Q : VK, Q (.bl d) H → tb σ H Q) (h : Q (.bl (c && d)) H) : ∃ c', V.bl c = .bl c' ∧ if c' = true then tb σ H Q else Q (.bl false) H := by
  refine ⟨c, rfl, ?_⟩
  cases c
  · exact iteF h
  · exact iteT (hb Q (by rw [Bool.true_and] at h; exact h))
theorem or_pure {tb : TE} {σ : L2.St} {H : Hp} {Q : VK} {c d : Bool} (hb : ∀ Q : VK, Q (.bl d) H → tb σ H Q) (h : Q (.bl (c || d)) H) : ∃ c', V.bl c = .bl c' ∧ if c' = true then Q (.bl true) H else tb σ H Q := by
  refine ⟨c, rfl, ?_⟩
  cases c
  · exact iteF (hb Q (by rw [Bool.false_or] at h; exact h))
  · exact iteT h
def spStands : Sp := fun vs H Q _ => ∃ (p : Addr) (b : Bk) (f : Str) (k : Nat) (r : Bool), vs = [.ref p, .str f, .int (k : Int)] ∧ H p = some (.tup (bkV b)) ∧ valV (standsD b k) (kS f) = some (.bl r) ∧ ∀ H', Same H H' → Q (.bl r) H'
section
variable {P : Program} {w : World} {K : PySem.W.Frag} {mg : Str → Option Value} {base : Heap} (T : Top K mg) (SH : ShapeT K mg) (BE : BadShapeT P w K mg T.reel.C) (Z : SzT K mg)
include BE in
theorem ok_form5 : FnOk P w K mg base (L2.CX P w) 7 T._law_form.a T._law_form.d ["scope"] (spForm5 SH.C) := by
  refine T._law_form.f.okX sc__law_form (fun vs H Q E h => ?_) (fun cdv A outer s H vs Q E hr h => ?_)
  · obtain ⟨a, h, w, lo, hi, rfl, _⟩ := h
    rfl
  · obtain ⟨a, ht, wd, lo, hi, rfl, h, k⟩ := h
    have hu := hu_of hr
    have b1 := h.t1
    have b2 := h.t2
    have b3 := h.w1
    have b4 := h.w2
    refine ⟨_, pss_one (ps_ret (pe_make SH.M (ok_init T SH BE) (hr.mono (by decide)) (by rfl) SH.g (SH.F.binds fun _ _ _ _ _ _ us hl => match us, hl with | [_, _, _, _, _], _ => rfl) .nil passE (pa_cons (pe_dget hu (pv 0) pe_str (fun _ _ => rfl)) (pa_cons (pe_dget hu (pv 0) pe_str (fun _ _ => rfl)) (pa_cons (pe_dget hu (pv 0) pe_str (fun _ _ => rfl)) (pa_cons (pe_dget hu (pv 0) pe_str (fun _ _ => rfl)) pa_nil)))))), ?_⟩
    refine ⟨_, rfl, a, _, rfl, (show DGet H a (kV kTall) _ from sc_tall ▸ DGet.k h.d), _, rfl, a, _, rfl, (show DGet H a (kV kWide) _ from sc_wide ▸ DGet.k h.d), _, rfl, a, _, rfl, (show DGet H a (kV kLeast) _ from sc_least ▸ DGet.k h.d), _, rfl, a, _, rfl, (show DGet H a (kV kMost) _ from sc_most ▸ DGet.k h.d), fun x dx hx hdx ne => ?_⟩
    refine ⟨x, dx, _, _, lo, hi, rfl, h.t1, h.t2, h.w1, h.w2, h.l1, h.l2, h.l3, upd_same, fun H' e1 e2 => ⟨rfl, k x H' ⟨x, dx, rfl, e1, by omega, by omega, by omega, by omega, h.l1, h.l2, h.l3⟩ hx (fun b o e => ?_) (fun tb z => ?_)⟩⟩
    · have n1 : b ≠ x := ne_of_none e hx
      have n2 : b ≠ dx := ne_of_none e hdx
      rw [e2 b n1, upd_ne n1, upd_ne n2]
      exact e
    · rw [e1] at z
      cases z
theorem ok_fash : FnOk P w K mg base (L2.CX P w) 1 T._law_fashions.a T._law_fashions.d [] spFash := by
  refine T._law_fashions.f.okX sc__law_fashions (fun vs H Q E h => ?_) (fun cdv A outer s H vs Q E hr h => ?_)
  · obtain ⟨rfl, _⟩ := h
    rfl
  · obtain ⟨rfl, k⟩ := h
    refine ⟨_, pss_one (ps_ret (pe_lst (pa_cons pe_str (pa_cons pe_str (pa_cons pe_str (pa_cons pe_str (pa_cons pe_str (pa_cons pe_str (pa_cons pe_str (pa_cons pe_str pa_nil)))))))))), ?_⟩
    exact ⟨(by show 8 ≤ sizeLine; decide), fun q hq => k q _ (Same.new hq) hq upd_same⟩
theorem ok_stands : FnOk P w K mg base (L2.CX P w) 1 T._law_stands.a T._law_stands.d ["square", "fashion", "sort_here"] spStands := by
  refine T._law_stands.f.okX sc__law_stands (fun vs H Q E h => ?_) (fun cdv A outer s H vs Q E hr h => ?_)
  · obtain ⟨p, b, f, k, r, rfl, _⟩ := h
    rfl
  · obtain ⟨p, b, f, kn, r, rfl, hp, hv, k⟩ := h
    have hu := hu_of hr
    refine ⟨_, (pss_cons (ps_par (i := 3) (j := 4) rfl sc__law_stands.nd rfl rfl (by decide) rfl rfl (pa_cons (pe_ix (show IxR _ (rIxT K) from ix_tup) (pv 0) pe_int (fun _ _ => rfl)) (pa_cons (pe_ix (show IxR _ (rIxT K) from ix_tup) (pv 0) pe_int (fun _ _ => rfl)) pa_nil)) (by rfl))
      (pss_cons (ps_set (i := 5) sc__law_stands.nd rfl (by first | exact .inl rfl | exact .inr rfl) (pe_disp (pps_cons pe_str pe_bl (pps_cons pe_str (pe_cmpR op_gt (pv 4) pe_int (nomark _)) (pps_cons pe_str (pe_cmpR op_gt (pv 3) pe_int (nomark _)) (pps_cons pe_str (pe_and (pe_cmpR op_gt (pv 4) pe_int (nomark _)) (pe_one (pe_cmpR op_gt (pv 3) pe_int (nomark _)))) pps_nil)))) (by rfl) (by rfl) (fun z => by cases z) (by decide)))
      (pss_cons (ps_expr (pe_bm PySem.F.plainAttrs_dict PySem.F.slot_dict_update PySem.F.type_dict_update KDU.mt_update (pv 5) (pa_cons (pe_disp (pps_cons pe_str (pe_or (pe_cmpR op_gt (pv 4) pe_int (nomark _)) (pe_one (pe_cmpR op_gt (pv 3) pe_int (nomark _)))) (pps_cons pe_str (pe_cmpR op_gt (pv 2) pe_int (nomark _)) pps_nil)) (by rfl) (by rfl) (fun z => by cases z) (by decide)) pa_nil)))
      (pss_cons (ps_expr (pe_bm PySem.F.plainAttrs_dict PySem.F.slot_dict_update PySem.F.type_dict_update KDU.mt_update (pv 5) (pa_cons (pe_disp (pps_cons pe_str (pe_cmpR op_eq (pv 2) pe_int (nomark _)) (pps_cons pe_str (pe_cmpR op_gt (pv 2) pe_int (nomark _)) pps_nil)) (by rfl) (by rfl) (fun z => by cases z) (by decide)) pa_nil)))
      (pss_one (ps_ret (pe_dget hu (pv 5) (pv 1) (fun _ _ => rfl)))))))), ?_⟩
    have gl : decide ((0 : Int) < (b.l : Int)) = decide (0 < b.l) := by simp
    have gt : decide ((0 : Int) < (b.t : Int)) = decide (0 < b.t) := by simp
    have gk : decide ((0 : Int) < (kn : Int)) = decide (0 < kn) := by simp
    have g2 : decide (V.int (kn : Int) = V.int 2) = decide (kn = 2) := by
      by_cases c : kn = 2
      · subst c
        rfl
      · rw [decide_eq_false c, decide_eq_false (fun z => c (by injection z; omega))]
    refine ⟨_, rfl, p, _, 0, _, rfl, rfl, SqT.of hp, atI_nat (j := 0) rfl, _, rfl, p, _, 1, _, rfl, rfl, SqT.of hp, atI_nat (j := 1) rfl, ?_⟩
    refine ⟨_, _, rfl, fun dt hdt => ?_⟩
    have e0 : (upd H dt (.dK [])) dt = some (.dK []) := upd_same
    refine ⟨_, rfl, _, _, rfl, rfl, _, rfl, _, _, rfl, rfl, _, rfl, _, _, rfl, rfl, and_pure (d := decide (0 < b.t)) (fun Q h => ⟨_, rfl, _, _, rfl, rfl, by dsimp only; rw [gt]; exact h⟩) ?_⟩
    dsimp only
    rw [gl, gt]
    refine ⟨e0, stands1 b, rfl, (by show 4 ≤ 15; decide), ?_⟩
    rw [stands_m1]
    have e1 : (upd (upd H dt (.dK [])) dt (.dK (stands1 b))) dt = some (.dK (stands1 b)) := upd_same
    have s1 : Same H (upd (upd H dt (.dK [])) dt (.dK (stands1 b))) := putN (Same.new hdt) hdt
    generalize upd (upd H dt (.dK [])) dt (.dK (stands1 b)) = H1 at e1 s1 ⊢
    refine ⟨_, rfl, .inr (.inr (.inl ⟨rfl, .inl ⟨_, e1⟩⟩)), fun d2 hd2 => ?_⟩
    have e0 : (upd H1 d2 (.dK [])) d2 = some (.dK []) := upd_same
    refine ⟨_, rfl, _, _, rfl, rfl, or_pure (d := decide (0 < b.t)) (fun Q h => ⟨_, rfl, _, _, rfl, rfl, by dsimp only; rw [gt]; exact h⟩) ?_⟩
    dsimp only
    rw [gl]
    refine ⟨_, rfl, _, _, rfl, rfl, ?_⟩
    dsimp only
    rw [gk]
    refine ⟨e0, stands2 b kn, rfl, (by show 2 ≤ 15; decide), ?_⟩
    rw [stands_m2]
    have nd : dt ≠ d2 := ne_of_none e1 hd2
    have e2 : (upd (upd H1 d2 (.dK [])) d2 (.dK (stands2 b kn))) d2 = some (.dK (stands2 b kn)) := upd_same
    have e3 : (upd (upd H1 d2 (.dK [])) d2 (.dK (stands2 b kn))) dt = some (.dK (stands1 b)) := by rw [upd_ne nd, upd_ne nd]; exact e1
    have s2 : Same H (upd (upd H1 d2 (.dK [])) d2 (.dK (stands2 b kn))) := s1.trans (putN (Same.new hd2) hd2)
    generalize upd (upd H1 d2 (.dK [])) d2 (.dK (stands2 b kn)) = H2 at e2 e3 s2 ⊢
    refine ⟨dt, d2, _, _, rfl, rfl, e3, e2, nd, (by show 4 + 2 ≤ sizeLine; decide), ?_⟩
    rw [stands_m12]
    have s1 := putN (o := .dK (stands1 b ++ stands2 b kn)) s2 hdt
    have e1 : (upd H2 dt (.dK (stands1 b ++ stands2 b kn))) dt = some (.dK (stands1 b ++ stands2 b kn)) := upd_same
    generalize upd H2 dt (.dK (stands1 b ++ stands2 b kn)) = H1 at e1 s1 ⊢
    refine ⟨_, rfl, .inr (.inr (.inl ⟨rfl, .inl ⟨_, e1⟩⟩)), fun d3 hd3 => ?_⟩
    have e0 : (upd H1 d3 (.dK [])) d3 = some (.dK []) := upd_same
    refine ⟨_, rfl, rfl, ?_⟩
    rw [g2]
    refine ⟨_, rfl, _, _, rfl, rfl, ?_⟩
    dsimp only
    rw [gk]
    refine ⟨e0, stands3 kn, rfl, (by show 2 ≤ 15; decide), ?_⟩
    rw [stands_m3]
    have nd : dt ≠ d3 := ne_of_none e1 hd3
    have e2 : (upd (upd H1 d3 (.dK [])) d3 (.dK (stands3 kn))) d3 = some (.dK (stands3 kn)) := upd_same
    have e3 : (upd (upd H1 d3 (.dK [])) d3 (.dK (stands3 kn))) dt = some (.dK (stands1 b ++ stands2 b kn)) := by rw [upd_ne nd, upd_ne nd]; exact e1
    have s2 : Same H (upd (upd H1 d3 (.dK [])) d3 (.dK (stands3 kn))) := s1.trans (putN (Same.new hd3) hd3)
    generalize upd (upd H1 d3 (.dK [])) d3 (.dK (stands3 kn)) = H2 at e2 e3 s2 ⊢
    refine ⟨dt, d3, _, _, rfl, rfl, e3, e2, nd, (by show 6 + 2 ≤ sizeLine; decide), ?_⟩
    rw [show mergeK (stands1 b ++ stands2 b kn) (stands3 kn) = stands1 b ++ stands2 b kn ++ stands3 kn from stands_m123]
    have s1 := putN (o := .dK (stands1 b ++ stands2 b kn ++ stands3 kn)) s2 hdt
    have e1 : (upd H2 dt (.dK (stands1 b ++ stands2 b kn ++ stands3 kn))) dt = some (.dK (stands1 b ++ stands2 b kn ++ stands3 kn)) := upd_same
    generalize upd H2 dt (.dK (stands1 b ++ stands2 b kn ++ stands3 kn)) = H1 at e1 s1 ⊢
    exact ⟨_, rfl, _, rfl, dt, _, rfl, (show DGet H1 dt (kV (kS f)) _ from hv ▸ DGet.k e1), k H1 s1⟩
end
end K05
namespace KST
open PySem PySem.Spec PyProof.Rows L2 PySem.W
/-! ### sorted(xs), xs a list of pairs of ints: in their order -/
def pairLe (p q : Int × Int) : Prop := p.1 < q.1 ∨ (p.1 = q.1 ∧ p.2 ≤ q.2)
theorem each_refs : ∀ (bs : List (Addr × Int × Int)) {us : List Value}, Vals (bs.map fun b => V.ref b.1) us → EachIs (fun v (b : Addr × Int × Int) => v = Value.ref b.1) us bs
  | [], _, r => by cases r; exact .nil
  | b :: bs, _, r => by
    cases r with
    | cons r1 r2 => exact .cons r1 (each_refs bs r2)
theorem refs_each : ∀ {us : List Value} {bs : List (Addr × Int × Int)}, EachIs (fun v (b : Addr × Int × Int) => v = Value.ref b.1) us bs → Vals (bs.map fun b => V.ref b.1) us
  | _, _, .nil => .nil
  | _, _, .cons h t => .cons h (refs_each t)
def enc (b : Addr × Int × Int) : PyData := .tuple [.int b.2.1, .int b.2.2]
theorem pair_uniq : ∀ (xs ys : List (Int × Int)), xs.Perm ys → xs.Pairwise pairLe → ys.Pairwise pairLe → xs = ys
  | [], ys, p, _, _ => by rw [List.nil_perm.mp p]
  | x :: xs, ys, p, h1, h2 => by
    cases ys with
    | nil => exact absurd p.length_eq (by simp)
    | cons y ys =>
      have e : x = y := by
        have m1 : x ∈ y :: ys := p.mem_iff.mp List.mem_cons_self
        have m2 : y ∈ x :: xs := p.symm.mem_iff.mp List.mem_cons_self
        rcases List.mem_cons.mp m1 with z | z
        · exact z
        · rcases List.mem_cons.mp m2 with z2 | z2
          · exact z2.symm
          · have a := (List.pairwise_cons.mp h2).1 x z
            have b := (List.pairwise_cons.mp h1).1 y z2
            unfold pairLe at a b
            obtain ⟨x1, x2⟩ := x
            obtain ⟨y1, y2⟩ := y
            simp only [Prod.mk.injEq]
            dsimp only at a b
            omega
      subst e
      rw [pair_uniq xs ys (List.Perm.cons_inv p) (List.pairwise_cons.mp h1).2 (List.pairwise_cons.mp h2).2]
section
variable {X : Cx}
def rSortedT (K : PySem.W.Frag) : List V → Hp → VK → Prop := fun vs H Q => ∃ (a : Addr) (bs : List (Addr × Int × Int)), vs = [V.ref a] ∧ SqL K H a (bs.map fun b => V.ref b.1) ∧ (∀ b ∈ bs, H b.1 = some (.tup [.int b.2.1, .int b.2.2])) ∧
  ∀ (bs' : List (Addr × Int × Int)) (q : Addr), bs'.Perm bs → (bs'.map (·.2)).Pairwise pairLe → H q = none → Q (.ref q) (upd H q (.lst (bs'.map fun b => V.ref b.1)))
theorem cr_sortedT (hu : X.A.units + 4 < cLine) : CallR X (.builtin "sorted") (rSortedT X.K) := by
  intro pins s σ H vs us Q I r h
  obtain ⟨a, bs, rfl, hs, hx, q⟩ := h
  obtain ⟨its, rv, hl, hz⟩ := I.list hs
  rw [Vals.ref1 r]
  have e := each_refs bs rv
  have lb : its.length = bs.length := by
    have := rv.length
    rw [List.length_map] at this
    exact this.symm
  have er : EachIs (fun v b => ∃ as, Reads s.heap v (enc b) as) its bs := by
    have go : ∀ (cs : List (Addr × Int × Int)) (ws : List Value), (∀ b ∈ cs, b ∈ bs) → EachIs (fun v (b : Addr × Int × Int) => v = Value.ref b.1) ws cs → EachIs (fun v b => ∃ as, Reads s.heap v (enc b) as) ws cs := by
      intro cs ws hm e
      induction e with
      | nil => exact .nil
      | @cons v b vs bs' h1 t ih =>
        refine .cons ?_ (ih fun b hb => hm b (List.mem_cons_of_mem _ hb))
        exact Dp.reads I (enc b) (.ref b.1) v (.tup (SqT.of (hx b (hm b List.mem_cons_self))) (.cons (.int _) (.cons (.int _) .nil))) h1
    exact go bs its (fun _ h => h) e
  refine sorted_data (enc := enc) (R := fun v (b : Addr × Int × Int) => v = Value.ref b.1) hl.isList e er (AllAlike.of fun _ _ => by simp [alike, alikeAll, enc]) (Sortable.tuples fun _ => ⟨_, _, rfl⟩) (by rw [← lb, ← rv.length]; exact hz) (fun b _ => ?_) fun out lo eo => ?_
  · show X.A.units + 2 + (PyData.tuple [.int b.2.1, .int b.2.2]).depth < cLine
    have : (PyData.tuple [.int b.2.1, .int b.2.2]).depth ≤ 1 := by simp [PyData.depth, PyData.depthAll]
    omega
  · have en : dataLe false enc = fun p q : Addr × Int × Int => decide (p.2.1 < q.2.1 ∨ (p.2.1 = q.2.1 ∧ p.2.2 ≤ q.2.2)) := dataLe_ii (fun b : Addr × Int × Int => b.2.1) (fun b => b.2.2)
    obtain ⟨ep, he'⟩ := PyProof.Rows.sortedAll_at s.heap its out.toArray
    have pm := List.mergeSort_perm bs (dataLe false enc)
    have pw : ((bs.mergeSort (dataLe false enc)).map (·.2)).Pairwise pairLe := by
      rw [List.pairwise_map, en]
      refine (List.pairwise_mergeSort (fun a b c h1 h2 => ?_) (fun a b => ?_) bs).imp fun h => ?_
      · simp only [decide_eq_true_eq] at h1 h2 ⊢
        omega
      · simp only [Bool.or_eq_true, decide_eq_true_eq]
        omega
      · exact (decide_eq_true_eq (p := _ ∨ _)).mp h
    refine ⟨.ref _, upd H (s.heap.objs.size + 1) (.lst ((bs.mergeSort (dataLe false enc)).map fun b => V.ref b.1)), I.laid (t' := s.toks) (fun _ _ => PyProof.Rows.sortedAll_old) (Nat.le_succ _) ⟨?_, out, ep, refs_each eo, he'⟩, rfl, q _ _ pm pw (I.hok.fresh (Nat.le_succ _))⟩
    rw [List.length_map, pm.length_eq, ← lb, ← rv.length]
    exact hz
end
end KST
namespace K05
open PySem PySem.Spec PyProof.Rows L2 PySem.W LamX KA KW KU KL KT
open Evl (pss_cut tCut)
/-! ### the law's own edges, reads, aims -/
def spBeside : Sp := fun vs H Q _ => ∃ (a p : Addr) (b : Bk) (h w : Nat), vs = [.ref a, .ref p] ∧ ScW H a h w ∧ H p = some (.tup (bkV b)) ∧ Vb h w b ∧ ∀ t q1 q2 u1 u2 H', Same H H' → H t = none → H' t = some (.tup [.ref q1, .ref q2]) → H' q1 = some (.lst u1) → RL dotV H' u1 (leftE h b) → H' q2 = some (.lst u2) → RL dotV H' u2 (upE w b) → Q (.ref t) H'
section
variable {P : Program} {w : World} {K : PySem.W.Frag} {mg : Str → Option Value} {base : Heap} (T : Top K mg) (SH : ShapeT K mg) (BE : BadShapeT P w K mg T.reel.C) (Z : SzT K mg)
theorem ok_beside : FnOk P w K mg base (L2.CX P w) 1 T._law_beside.a T._law_beside.d ["scope", "square"] spBeside := by
  refine T._law_beside.f.okX sc__law_beside (fun vs H Q E h => ?_) (fun cdv A outer s H vs Q E hr h => ?_)
  · obtain ⟨a, p, b, h, w, rfl, _⟩ := h
    rfl
  · obtain ⟨a, p, b, h, wn, rfl, sc, hp, v, k⟩ := h
    have hu := hu_of hr
    refine ⟨_, (pss_cons (ps_asg (pv 1) (pg_tup rfl (pgs_cons (pg_name (i := 2) sc__law_beside.nd rfl (by first | exact .inl rfl | exact .inr rfl)) (pgs_cons (pg_name (i := 3) sc__law_beside.nd rfl (by first | exact .inl rfl | exact .inr rfl)) (pgs_cons (pg_name (i := 4) sc__law_beside.nd rfl (by first | exact .inl rfl | exact .inr rfl)) pgs_nil)))))
      (pss_cons (ps_setLc (i := 5) (own := [("y", 7)]) (g := gName 7) rfl sc__law_beside.nd rfl rfl rfl ( (pi_range2 (by rfl) T.b_range (pa_cons (pv 2) (pa_cons (pe_callB (call_min2 rfl) (by rfl) T.b_min PyProof.Rows.boot_min (pa_cons (pe_op op_add (pv 2) (pv 4)) (pa_cons (pe_dget hu (pv 0) pe_str (fun _ _ => rfl)) pa_nil))) pa_nil)))) (blkOk_by (own := [("y", 7)]) (N := ["scope", "square", "top", "left", "side", "lefts", "aboves", "y", "x"]) (sc := defScope s__law_beside) (by decide +kernel))
        (fun _ _ _ _ _ => pg_name (i := 7) sc__law_beside.nd rfl (Or.inl rfl)) (fun _ _ _ _ _ => pts_one (pt_cmpR op_gt (pv 3) pe_int (nomark _))) (fun _ _ _ _ _ => (pe_tup (pa_cons (pv 7) (pa_cons (pe_op (show OpR _ _ (rI0 fun i j => .int (i - j)) from op_sub) (pv 3) pe_int) pa_nil)))))
      (pss_cons (ps_setLc (i := 6) (own := [("x", 8)]) (g := gName 8) rfl sc__law_beside.nd rfl rfl rfl ( (pi_range2 (by rfl) T.b_range (pa_cons (pv 3) (pa_cons (pe_callB (call_min2 rfl) (by rfl) T.b_min PyProof.Rows.boot_min (pa_cons (pe_op op_add (pv 3) (pv 4)) (pa_cons (pe_dget hu (pv 0) pe_str (fun _ _ => rfl)) pa_nil))) pa_nil)))) (blkOk_by (own := [("x", 8)]) (N := ["scope", "square", "top", "left", "side", "lefts", "aboves", "y", "x"]) (sc := defScope s__law_beside) (by decide +kernel))
        (fun _ _ _ _ _ => pg_name (i := 8) sc__law_beside.nd rfl (Or.inl rfl)) (fun _ _ _ _ _ => pts_one (pt_cmpR op_gt (pv 2) pe_int (nomark _))) (fun _ _ _ _ _ => (pe_tup (pa_cons (pe_op (show OpR _ _ (rI0 fun i j => .int (i - j)) from op_sub) (pv 2) pe_int) (pa_cons (pv 8) pa_nil)))))
      (pss_one (ps_ret (pe_tup (pa_cons (pv 5) (pa_cons (pv 6) pa_nil)))))))), ?_⟩
    have hb := sc.b
    have vs' := v.s
    have lt := v.lt
    have ll := v.ll
    refine ⟨_, rfl, p, _, rfl, SqT.of hp, rfl, _, _, rfl, _, _, rfl, _, _, rfl, rfl, ?_⟩
    have e1 : (if (h : Int) < (b.t : Int) + (b.s : Int) then (h : Int) else (b.t : Int) + (b.s : Int)) = ((min (b.t + b.s) h : Nat) : Int) := by
      split <;> omega
    have e2 : (if (wn : Int) < (b.l : Int) + (b.s : Int) then (wn : Int) else (b.l : Int) + (b.s : Int)) = ((min (b.l + b.s) wn : Nat) : Int) := by
      split <;> omega
    have rn : rowsN h b ≤ 8 := by unfold rowsN; omega
    have cn : colsN wn b ≤ 8 := by unfold colsN; omega
    have n1 : (((min (b.t + b.s) h : Nat) : Int) - (b.t : Int)).toNat = rowsN h b := by unfold rowsN; omega
    have n2 : (((min (b.l + b.s) wn : Nat) : Int) - (b.l : Int)).toNat = colsN wn b := by unfold colsN; omega
    refine ⟨_, rfl, _, rfl, _, rfl, _, _, rfl, rfl, _, rfl, a, _, rfl, sc.tall, _, _, rfl, ?_⟩
    rw [e1]
    refine ⟨_, _, rfl, ⟨by omega, by omega, by omega, by omega⟩, fun D hD => lc_it walk_range (fun i H' => NI dotV H D (if 0 < b.l then (List.range i).map fun i => (b.t + i, b.l - 1) else []) H') (by
        have e : (if 0 < b.l then (List.range 0).map fun i => (b.t + i, b.l - 1) else []) = ([] : List (Nat × Nat)) := by split <;> rfl
        rw [e]
        exact NI.new hD) (fun _ _ _ _ => trivial) ?_ ?_⟩
    · rintro i x Hq Hr hi n ⟨rfl, rfl⟩
      rw [n1] at hi
      refine ⟨rfl, ?_⟩
      refine ⟨_, rfl, _, _, rfl, rfl, _, rfl, ?_⟩
      by_cases c : 0 < b.l
      · rw [decide_eq_true (show (0 : Int) < (b.l : Int) by omega)]
        refine iteT ?_
        rw [if_pos c] at n ⊢
        refine ⟨_, rfl, _, rfl, _, _, rfl, rfl, (by show 2 ≤ sizeLine; decide), fun z hz => ?_⟩
        have tz := Same.new (o := .tup [V.int ((b.t : Int) + ((i : Nat) : Int)), .int ((b.l : Int) - 1)]) hz
        have n2 := n.same tz
        obtain ⟨acc, f1, f2, f3⟩ := n2.push (v := .ref z) (a := (b.t + i, b.l - 1)) hD (by rw [List.length_map, List.length_range]; omega) ⟨z, rfl, by
          rw [upd_same]
          unfold dotV
          dsimp only
          rw [Int.natCast_add, show ((b.l - 1 : Nat) : Int) = (b.l : Int) - 1 by omega]⟩
        refine ⟨acc, f1, f2, ?_⟩
        rw [range_snoc, List.map_append]
        exact f3
      · rw [decide_eq_false (show ¬ (0 : Int) < (b.l : Int) by omega)]
        rw [if_neg c] at n ⊢
        exact iteF n
    rintro H2 ⟨us1, le1, r1, s2⟩
    rw [n1] at r1
    have r1 : RL dotV H2 us1 (leftE h b) := r1
    have sc2 := sc.keep s2
    have hD1 := hD
    refine ⟨_, rfl, _, rfl, _, rfl, _, _, rfl, rfl, _, rfl, a, _, rfl, sc2.wide, _, _, rfl, ?_⟩
    rw [e2]
    refine ⟨_, _, rfl, ⟨by omega, by omega, by omega, by omega⟩, fun D2 hD => lc_it walk_range (fun i H' => NI dotV H2 D2 (if 0 < b.t then (List.range i).map fun i => (b.t - 1, b.l + i) else []) H') (by
        have e : (if 0 < b.t then (List.range 0).map fun i => (b.t - 1, b.l + i) else []) = ([] : List (Nat × Nat)) := by split <;> rfl
        rw [e]
        exact NI.new hD) (fun _ _ _ _ => trivial) ?_ ?_⟩
    · rintro i x Hq Hr hi n ⟨rfl, rfl⟩
      rw [n2] at hi
      refine ⟨rfl, ?_⟩
      refine ⟨_, rfl, _, _, rfl, rfl, _, rfl, ?_⟩
      by_cases c : 0 < b.t
      · rw [decide_eq_true (show (0 : Int) < (b.t : Int) by omega)]
        refine iteT ?_
        rw [if_pos c] at n ⊢
        refine ⟨_, rfl, _, _, rfl, rfl, _, rfl, (by show 2 ≤ sizeLine; decide), fun z hz => ?_⟩
        have tz := Same.new (o := .tup [V.int ((b.t : Int) - 1), .int ((b.l : Int) + ((i : Nat) : Int))]) hz
        have n2 := n.same tz
        obtain ⟨acc, f1, f2, f3⟩ := n2.push (v := .ref z) (a := (b.t - 1, b.l + i)) hD (by rw [List.length_map, List.length_range]; omega) ⟨z, rfl, by
          rw [upd_same]
          unfold dotV
          dsimp only
          rw [Int.natCast_add, show ((b.t - 1 : Nat) : Int) = (b.t : Int) - 1 by omega]⟩
        refine ⟨acc, f1, f2, ?_⟩
        rw [range_snoc, List.map_append]
        exact f3
      · rw [decide_eq_false (show ¬ (0 : Int) < (b.t : Int) by omega)]
        rw [if_neg c] at n ⊢
        exact iteF n
    rintro H3 ⟨us2, le2, r2, s3⟩
    rw [n2] at r2
    have r2 : RL dotV H3 us2 (upE wn b) := r2
    refine ⟨_, rfl, _, rfl, (by show 2 ≤ sizeLine; decide), fun t ht => ?_⟩
    have st := Same.new (o := .tup [V.ref D, .ref D2]) ht
    exact k t D D2 us1 us2 _ ((s2.trans s3).trans st) ((s2.trans s3).free ht) upd_same ((s3.trans st) _ _ le1) (r1.same (s3.trans st)) (st _ _ le2) (r2.same st)
end
end K05
namespace K05
open PySem PySem.Spec PyProof.Rows L2 PySem.W LamX KA KW KU KL KT
open Evl (pss_cut tCut)
/-! ### the law's own reads -/
def ci (d : Nat × Nat) : Int × Int := ((d.1 : Int), (d.2 : Int))
theorem rl_pairs {H : Hp} : ∀ {us : List V} {ds : List (Nat × Nat)}, RL dotV H us ds → ∃ bs : List (Addr × Int × Int), us = bs.map (fun b => V.ref b.1) ∧ bs.map (·.2) = ds.map ci ∧ ∀ b ∈ bs, H b.1 = some (.tup [.int b.2.1, .int b.2.2])
  | [], ds, r => by
    have e : ds = [] := List.eq_nil_of_length_eq_zero (by rw [← r.1]; rfl)
    subst e
    exact ⟨[], rfl, rfl, fun b hb => by cases hb⟩
  | u :: us, [], r => by
    have := r.1
    cases this
  | u :: us, d :: ds, r => by
    obtain ⟨p, d', e1, e2, e3⟩ := r.get (i := 0) rfl
    have e2 : d = d' := Option.some.inj e2
    subst e2
    have r' : RL dotV H us ds := ⟨Nat.succ.inj r.1, fun i v h => r.2 (i + 1) v h⟩
    obtain ⟨bs, f1, f2, f3⟩ := rl_pairs r'
    refine ⟨(p, ci d) :: bs, by rw [e1, f1]; rfl, by rw [List.map_cons, List.map_cons, f2], fun b hb => ?_⟩
    rcases List.mem_cons.mp hb with z | z
    · subst z
      exact e3
    · exact f3 b z
theorem pairs_rl {H : Hp} : ∀ {bs : List (Addr × Int × Int)} {ds : List (Nat × Nat)}, bs.map (·.2) = ds.map ci → (∀ b ∈ bs, H b.1 = some (.tup [.int b.2.1, .int b.2.2])) → RL dotV H (bs.map fun b => V.ref b.1) ds
  | [], [], _, _ => .nil
  | [], d :: ds, e, _ => by cases e
  | b :: bs, [], e, _ => by cases e
  | b :: bs, d :: ds, e, h => by
    rw [List.map_cons, List.map_cons] at e
    obtain ⟨e1, e2⟩ := List.cons.inj e
    have r := pairs_rl e2 fun b hb => h b (List.mem_cons_of_mem _ hb)
    have one : RL dotV H [V.ref b.1] [d] := RL.one ⟨b.1, rfl, by
      rw [h b List.mem_cons_self, e1]
      rfl⟩
    exact one.append r
/-- as the law lists them -/
def readsL (m : Md) (h w : Nat) (b : Bk) : List (Nat × Nat) := match m with
  | .flat => []
  | .left => leftE h b
  | .up => upE w b
  | .middle => leftE h b ++ upE w b ++ [(b.t - 1, b.l - 1)]
  | .mean => leftE h b ++ upE w b
theorem reads_perm {m : Md} {h w : Nat} {b : Bk} : (readsL m h w b).Perm (readsM m h w b) := by
  cases m with
  | flat => exact .refl _
  | left => exact .refl _
  | up => exact .refl _
  | middle =>
    show (leftE h b ++ upE w b ++ [(b.t - 1, b.l - 1)]).Perm ([(b.t - 1, b.l - 1)] ++ upE w b ++ leftE h b)
    rw [List.append_assoc]
    exact List.perm_append_comm.trans (List.Perm.append_right _ List.perm_append_comm)
  | mean => exact List.perm_append_comm
theorem left_ci {h : Nat} {b : Bk} {x : Int × Int} (m : x ∈ (leftE h b).map ci) : (b.t : Int) ≤ x.1 ∧ x.2 = ((b.l - 1 : Nat) : Int) := by
  obtain ⟨d, hd, rfl⟩ := List.mem_map.mp m
  unfold leftE at hd
  split at hd
  · obtain ⟨i, hi, rfl⟩ := List.mem_map.mp hd
    unfold ci
    dsimp only
    omega
  · cases hd
theorem up_ci {w : Nat} {b : Bk} {x : Int × Int} (m : x ∈ (upE w b).map ci) : x.1 = (b.t : Int) - 1 ∧ (b.l : Int) ≤ x.2 := by
  obtain ⟨d, hd, rfl⟩ := List.mem_map.mp m
  unfold upE at hd
  split at hd
  · obtain ⟨i, hi, rfl⟩ := List.mem_map.mp hd
    unfold ci
    dsimp only
    omega
  · cases hd
theorem range_pw {R : Int × Int → Int × Int → Prop} {f : Nat → Nat × Nat} (n : Nat) (hf : ∀ i j, i < j → R (ci (f i)) (ci (f j))) : (((List.range n).map f).map ci).Pairwise R := by
  rw [List.map_map, List.pairwise_map]
  exact List.Pairwise.imp (fun h => hf _ _ h) List.pairwise_lt_range
theorem left_pw {h : Nat} {b : Bk} : ((leftE h b).map ci).Pairwise KST.pairLe := by
  unfold leftE
  split
  · exact range_pw _ fun i j hij => .inl (by unfold ci; dsimp only; omega)
  · exact .nil
theorem up_pw {w : Nat} {b : Bk} : ((upE w b).map ci).Pairwise KST.pairLe := by
  unfold upE
  split
  · exact range_pw _ fun i j hij => .inr (by unfold ci; dsimp only; omega)
  · exact .nil
theorem reads_pw {m : Md} {h w : Nat} {b : Bk} (ok : m.ok b) : ((readsM m h w b).map ci).Pairwise KST.pairLe := by
  have ul : ((upE w b ++ leftE h b).map ci).Pairwise KST.pairLe := by
    rw [List.map_append, List.pairwise_append]
    refine ⟨up_pw, left_pw, fun x hx y hy => .inl ?_⟩
    have a := up_ci hx
    have c := left_ci hy
    omega
  cases m with
  | flat => exact .nil
  | left => exact left_pw
  | up => exact up_pw
  | middle =>
    show (((b.t - 1, b.l - 1) :: (upE w b ++ leftE h b)).map ci).Pairwise _
    rw [List.map_cons, List.pairwise_cons]
    refine ⟨fun y hy => ?_, ul⟩
    have ok : 0 < b.l ∧ 0 < b.t := ok
    rw [List.map_append] at hy
    unfold KST.pairLe ci
    rcases List.mem_append.mp hy with z | z
    · have a := up_ci z
      dsimp only
      omega
    · have a := left_ci z
      dsimp only
      omega
  | mean => exact ul
theorem reads_len {m : Md} {h w : Nat} {b : Bk} (v : Vb h w b) : (readsL m h w b).length ≤ 17 := by
  have e := edges_len (h := h) (w := w) v
  have e' := (show (edgesU h w b).length = (upE w b).length + (leftE h b).length from List.length_append)
  cases m with
  | flat => exact Nat.zero_le _
  | left => show (leftE h b).length ≤ 17; omega
  | up => show (upE w b).length ≤ 17; omega
  | middle =>
    show (leftE h b ++ upE w b ++ [(b.t - 1, b.l - 1)]).length ≤ 17
    simp only [List.length_append, List.length_singleton]
    omega
  | mean =>
    show (leftE h b ++ upE w b).length ≤ 17
    simp only [List.length_append]
    omega
def spReadsL : Sp := fun vs H Q _ => ∃ (a p : Addr) (b : Bk) (h w : Nat) (m : Md), vs = [.ref a, .ref p, .str m.s] ∧ ScW H a h w ∧ H p = some (.tup (bkV b)) ∧ Vb h w b ∧ m.ok b ∧ ∀ q us H', Same H H' → H q = none → H' q = some (.lst us) → RL dotV H' us (readsM m h w b) → Q (.ref q) H'
theorem reads_merge {z q1 q2 q3 q4 : V} : mergeK [] [(kS "flat", z), (kS "left", q1), (kS "up", q2), (kS "middle", q3), (kS "mean", q4)] = [(kS "flat", z), (kS "left", q1), (kS "up", q2), (kS "middle", q3), (kS "mean", q4)] := merge_new _ _ (by show ([] ++ [kS "flat", kS "left", kS "up", kS "middle", kS "mean"] : List Key).Nodup; decide +kernel)
section
variable {P : Program} {w : World} {K : PySem.W.Frag} {mg : Str → Option Value} {base : Heap} (T : Top K mg) (SH : ShapeT K mg) (BE : BadShapeT P w K mg T.reel.C) (Z : SzT K mg)
theorem ok_lreads : FnOk P w K mg base (L2.CX P w) 4 T._law_reads.a T._law_reads.d ["scope", "square", "fashion"] spReadsL := by
  refine T._law_reads.f.okX sc__law_reads (fun vs H Q E h => ?_) (fun cdv A outer s H vs Q E hr h => ?_)
  · obtain ⟨a, p, b, h, w, m, rfl, _⟩ := h
    rfl
  · obtain ⟨a, p, b, h, wn, m, rfl, sc, hp, v, mk, k⟩ := h
    have hu := hu_of hr
    refine ⟨_, (pss_cons (ps_asg (pe_call (ok_beside T) (hr.mono (by decide)) (by rfl) T._law_beside.m T._law_beside.f.kp (bd__law_beside T) .nil passE (pa_cons (pv 0) (pa_cons (pv 1) pa_nil))) (pg_tup rfl (pgs_cons (pg_name (i := 3) sc__law_reads.nd rfl (by first | exact .inl rfl | exact .inr rfl)) (pgs_cons (pg_name (i := 4) sc__law_reads.nd rfl (by first | exact .inl rfl | exact .inr rfl)) pgs_nil))))
      (pss_cons (ps_set (i := 5) sc__law_reads.nd rfl (by first | exact .inl rfl | exact .inr rfl) (pe_lst (pa_cons (pe_tup (pa_cons (pe_op op_sub (pe_ix ix_tup (pv 1) pe_int (fun _ _ => rfl)) pe_int) (pa_cons (pe_op op_sub (pe_ix ix_tup (pv 1) pe_int (fun _ _ => rfl)) pe_int) pa_nil))) pa_nil)))
      (pss_cons (ps_set (i := 6) sc__law_reads.nd rfl (by first | exact .inl rfl | exact .inr rfl) (pe_disp (pps_cons pe_str (pe_lst pa_nil) (pps_cons pe_str (pv 3) (pps_cons pe_str (pv 4) (pps_cons pe_str (pe_op op_cat (pe_op op_cat (pv 3) (pv 4)) (pv 5)) (pps_cons pe_str (pe_op op_cat (pv 3) (pv 4)) pps_nil))))) (by rfl) (by rfl) (fun z => by cases z) (by decide)))
      (pss_one (ps_ret (pe_callB (show CallR _ _ (KST.rSortedT K) from KST.cr_sortedT (show (A.deeper _).units + 4 < cLine by have := hu65 hr; omega)) (by rfl) T.b_sorted PyProof.Rows.boot_sorted (pa_cons (pe_dget hu (pv 6) (pv 2) (fun _ _ => rfl)) pa_nil))))))), ?_⟩
    have el := edges_len (h := h) (w := wn) v
    have el' := (show (edgesU h wn b).length = (upE wn b).length + (leftE h b).length from List.length_append)
    have s64 : 64 < sizeLine := by decide
    refine ⟨_, rfl, _, rfl, a, p, b, h, wn, rfl, sc, hp, v, fun t q1 q2 u1 u2 H1 s1 nt et e1 r1 e2 r2 => ⟨t, _, rfl, SqT.of et, rfl, _, _, rfl, _, _, rfl, rfl, ?_⟩⟩
    have hp1 := s1 _ _ hp
    refine ⟨_, rfl, p, _, 0, _, rfl, rfl, SqT.of hp1, atI_nat (j := 0) rfl, _, _, rfl, rfl, _, rfl, p, _, 1, _, rfl, rfl, SqT.of hp1, atI_nat (j := 1) rfl, _, _, rfl, rfl, (by show 2 ≤ sizeLine; decide), fun z1 hz1 => ⟨(by show 1 ≤ sizeLine; decide), fun z2 hz2 => ?_⟩⟩
    have t1 := Same.new (o := .tup [V.int ((b.t : Int) - 1), .int ((b.l : Int) - 1)]) hz1
    have ez : (upd H1 z1 (.tup [V.int ((b.t : Int) - 1), .int ((b.l : Int) - 1)])) z1 = some (.tup [V.int ((b.t : Int) - 1), .int ((b.l : Int) - 1)]) := upd_same
    generalize upd H1 z1 (.tup [V.int ((b.t : Int) - 1), .int ((b.l : Int) - 1)]) = H2 at t1 ez hz2 ⊢
    have t2 := Same.new (o := .lst [V.ref z1]) hz2
    have ez2 : (upd H2 z2 (.lst [V.ref z1])) z2 = some (.lst [V.ref z1]) := upd_same
    have ez := t2 _ _ ez
    have nz2 := (s1.trans t1).free hz2
    generalize upd H2 z2 (.lst [V.ref z1]) = H3 at t2 ez ez2 ⊢
    have s3 := s1.trans (t1.trans t2)
    have e1 := (t1.trans t2) _ _ e1
    have e2 := (t1.trans t2) _ _ e2
    have r1 := r1.same (t1.trans t2)
    have r2 := r2.same (t1.trans t2)
    clear t1 t2 et hz1 hz2
    -- the display
    intro dt hdt
    have td := Same.new (o := .dK []) hdt
    have ed : (upd H3 dt (.dK [])) dt = some (.dK []) := upd_same
    generalize upd H3 dt (.dK []) = H4 at td ed ⊢
    refine ⟨(by show 0 ≤ sizeLine; decide), fun z0 hz0 => ?_⟩
    have t0 := Same.new (o := .lst []) hz0
    have e0 : (upd H4 z0 (.lst [])) z0 = some (.lst []) := upd_same
    generalize upd H4 z0 (.lst []) = H5 at t0 e0 ⊢
    have ed := t0 _ _ ed
    have t35 := td.trans t0
    have l1 := r1.1
    have l2 := r2.1
    refine ⟨_, rfl, _, rfl, _, rfl, _, rfl, q1, q2, u1, u2, rfl, rfl, t35 _ _ e1, t35 _ _ e2, by omega, fun g hg => ?_⟩
    have tg := Same.new (o := .lst (u1 ++ u2)) hg
    have eg : (upd H5 g (.lst (u1 ++ u2))) g = some (.lst (u1 ++ u2)) := upd_same
    generalize upd H5 g (.lst (u1 ++ u2)) = H6 at tg eg ⊢
    have ed := tg _ _ ed
    have e0 := tg _ _ e0
    have t36 := t35.trans tg
    refine ⟨_, rfl, g, z2, _, _, rfl, rfl, eg, t36 _ _ ez2, by rw [List.length_append]; show _ + 1 ≤ _; omega, fun g2 hg2 => ?_⟩
    have tg2 := Same.new (o := .lst (u1 ++ u2 ++ [V.ref z1])) hg2
    have eg2 : (upd H6 g2 (.lst (u1 ++ u2 ++ [V.ref z1]))) g2 = some (.lst (u1 ++ u2 ++ [V.ref z1])) := upd_same
    generalize upd H6 g2 (.lst (u1 ++ u2 ++ [V.ref z1])) = H7 at tg2 eg2 ⊢
    have ed := tg2 _ _ ed
    have e0 := tg2 _ _ e0
    have t37 := t36.trans tg2
    refine ⟨_, rfl, _, rfl, q1, q2, u1, u2, rfl, rfl, t37 _ _ e1, t37 _ _ e2, by omega, fun g3 hg3 => ?_⟩
    have tg3 := Same.new (o := .lst (u1 ++ u2)) hg3
    have eg3 : (upd H7 g3 (.lst (u1 ++ u2))) g3 = some (.lst (u1 ++ u2)) := upd_same
    generalize upd H7 g3 (.lst (u1 ++ u2)) = H8 at tg3 eg3 ⊢
    have ed := tg3 _ _ ed
    have e0 := tg3 _ _ e0
    have eg2 := tg3 _ _ eg2
    have t38 := t37.trans tg3
    refine ⟨ed, [(kS "flat", .ref z0), (kS "left", .ref q1), (kS "up", .ref q2), (kS "middle", .ref g2), (kS "mean", .ref g3)], rfl, (by show 5 ≤ 15; decide), ?_⟩
    rw [reads_merge]
    have sx := putN (o := .dK [(kS "flat", .ref z0), (kS "left", .ref q1), (kS "up", .ref q2), (kS "middle", .ref g2), (kS "mean", .ref g3)]) t38 hdt
    have nn : ∀ {x : Addr} {ys : List V}, H8 x = some (.lst ys) → (upd H8 dt (.dK [(kS "flat", .ref z0), (kS "left", .ref q1), (kS "up", .ref q2), (kS "middle", .ref g2), (kS "mean", .ref g3)])) x = some (.lst ys) := fun {x ys} e => by
      rw [upd_ne (ne_of e ed (by intro z; cases z))]
      exact e
    have e0 := nn e0
    have eg2 := nn eg2
    have eg3 := nn eg3
    have e1 := nn (t38 _ _ e1)
    have e2 := nn (t38 _ _ e2)
    have ez := sx _ _ ez
    have r1 := r1.same sx
    have r2 := r2.same sx
    have dd : (upd H8 dt (.dK [(kS "flat", .ref z0), (kS "left", .ref q1), (kS "up", .ref q2), (kS "middle", .ref g2), (kS "mean", .ref g3)])) dt = some (.dK [(kS "flat", .ref z0), (kS "left", .ref q1), (kS "up", .ref q2), (kS "middle", .ref g2), (kS "mean", .ref g3)]) := upd_same
    have S := s3.trans sx
    generalize upd H8 dt (.dK [(kS "flat", .ref z0), (kS "left", .ref q1), (kS "up", .ref q2), (kS "middle", .ref g2), (kS "mean", .ref g3)]) = H9 at e0 eg2 eg3 e1 e2 ez r1 r2 dd S ⊢
    have fin : ∀ (x : Addr) (us : List V), H9 x = some (.lst us) → RL dotV H9 us (readsL m h wn b) → KST.rSortedT K [V.ref x] H9 Q := fun x us ex rx => by
      obtain ⟨bs, f1, f2, f3⟩ := rl_pairs rx
      refine ⟨x, bs, rfl, SqL.of (f1 ▸ ex), f3, fun bs' q pm pw hq => ?_⟩
      have tq := Same.new (o := .lst (bs'.map fun b => V.ref b.1)) hq
      refine k q _ _ (S.trans tq) (S.free hq) upd_same (pairs_rl ?_ fun b hb => tq _ _ (f3 b (pm.mem_iff.mp hb)))
      refine KST.pair_uniq _ _ ?_ pw (reads_pw mk)
      have p1 := pm.map (·.2)
      rw [f2] at p1
      exact p1.trans (reads_perm.map ci)
    have rc : RL dotV H9 [V.ref z1] [(b.t - 1, b.l - 1)] ∨ ¬ (0 < b.l ∧ 0 < b.t) := by
      by_cases c : 0 < b.l ∧ 0 < b.t
      · refine .inl (RL.one ⟨z1, rfl, ?_⟩)
        rw [ez]
        unfold dotV
        dsimp only
        rw [show ((b.t - 1 : Nat) : Int) = (b.t : Int) - 1 by omega, show ((b.l - 1 : Nat) : Int) = (b.l : Int) - 1 by omega]
      · exact .inr c
    have get : ∀ x, valV [(kS "flat", V.ref z0), (kS "left", .ref q1), (kS "up", .ref q2), (kS "middle", .ref g2), (kS "mean", .ref g3)] (kS m.s) = some x → DGet H9 dt (.str m.s) (some x) := fun x e => (show DGet H9 dt (kV (kS m.s)) _ from e ▸ DGet.k dd)
    cases m with
    | flat => exact ⟨_, rfl, _, rfl, dt, _, rfl, get _ rfl, fin z0 [] e0 .nil⟩
    | left => exact ⟨_, rfl, _, rfl, dt, _, rfl, get _ rfl, fin q1 u1 e1 r1⟩
    | up => exact ⟨_, rfl, _, rfl, dt, _, rfl, get _ rfl, fin q2 u2 e2 r2⟩
    | middle => exact ⟨_, rfl, _, rfl, dt, _, rfl, get _ rfl, fin g2 _ eg2 ((r1.append r2).append (rc.resolve_right fun z => z mk))⟩
    | mean => exact ⟨_, rfl, _, rfl, dt, _, rfl, get _ rfl, fin g3 _ eg3 (r1.append r2)⟩
end
end K05
namespace K05
open PySem PySem.Spec PyProof.Rows L2 PySem.W LamX KA KW KU KL KT
open Evl (pss_cut tCut)
/-! ### the law's own guesses -/
def gpt (m : Md) (h w : Nat) (mid : Int) (b : Bk) (nss : List (List Int)) (d : Nat × Nat) : Int := match m with
  | .flat => mid
  | .left => gAt nss d.1 (b.l - 1)
  | .up => gAt nss (b.t - 1) d.2
  | .middle => med3 (gAt nss d.1 (b.l - 1)) (gAt nss (b.t - 1) d.2) (gAt nss (b.t - 1) (b.l - 1))
  | .mean => ((edgesU h w b).map fun d => gAt nss d.1 d.2).sum / ((edgesU h w b).length : Int)
theorem guess_pt {m : Md} {h w : Nat} {mid : Int} {b : Bk} {nss : List (List Int)} : guessM m h w mid b nss = (dotsB h w b).map (gpt m h w mid b nss) := by
  cases m with
  | flat => exact (List.map_const' ..).symm
  | left => rfl
  | up => rfl
  | middle => rfl
  | mean => exact (List.map_const' ..).symm
def edgesL (h w : Nat) (b : Bk) : List (Nat × Nat) := leftE h b ++ upE w b
theorem edgesL_perm {h w : Nat} {b : Bk} : (edgesL h w b).Perm (edgesU h w b) := List.perm_append_comm
theorem sum_perm {xs ys : List Int} (p : xs.Perm ys) : xs.sum = ys.sum := by
  induction p with
  | nil => rfl
  | cons x _ ih => rw [List.sum_cons, List.sum_cons, ih]
  | swap x y l => simp only [List.sum_cons]; omega
  | trans _ _ h1 h2 => exact h1.trans h2
def spAims : Sp := fun vs H Q _ => ∃ (a p ra : Addr) (b : Bk) (h w : Nat) (lo hi : Int) (m : Md) (nss : List (List Int)), vs = [.ref a, .ref p, .str m.s, .ref ra] ∧ ScV H a (h : Int) (w : Int) lo hi ∧ H p = some (.tup (bkV b)) ∧ Vb h w b ∧ m.ok b ∧ Pn H ra nss w ∧ nss.length = h ∧
  ∀ q H', Same H H' → H q = none → H' q = some (.lst ((guessM m h w ((lo + hi) / 2) b nss).map V.int)) → Q (.ref q) H'
section
variable {P : Program} {w : World} {K : PySem.W.Frag} {mg : Str → Option Value} {base : Heap} (T : Top K mg) (SH : ShapeT K mg) (BE : BadShapeT P w K mg T.reel.C) (Z : SzT K mg)
theorem ok_laims : FnOk P w K mg base (L2.CX P w) 4 T._law_aims.a T._law_aims.d ["scope", "square", "fashion", "rows"] spAims := by
  refine T._law_aims.f.okX sc__law_aims (fun vs H Q E h => ?_) (fun cdv A outer s H vs Q E hr h => ?_)
  · obtain ⟨a, p, ra, b, h, w, lo, hi, m, nss, rfl, _⟩ := h
    rfl
  · obtain ⟨a, p, ra, b, h, wn, lo, hi, m, nss, rfl, scv, hp, v, mk, pn, lns, k⟩ := h
    have hu := hu_of hr
    have sc : ScW H a h wn := ⟨lo, hi, scv⟩
    have hb := sc.b
    refine ⟨_, (pss_cons (ps_asg (pv 1) (pg_tup rfl (pgs_cons (pg_name (i := 4) sc__law_aims.nd rfl (by first | exact .inl rfl | exact .inr rfl)) (pgs_cons (pg_name (i := 5) sc__law_aims.nd rfl (by first | exact .inl rfl | exact .inr rfl)) (pgs_cons (pg_name (i := 6) sc__law_aims.nd rfl (by first | exact .inl rfl | exact .inr rfl)) pgs_nil)))))
      (pss_cons (ps_asg (pe_call (ok_beside T) (hr.mono (by decide)) (by rfl) T._law_beside.m T._law_beside.f.kp (bd__law_beside T) .nil passE (pa_cons (pv 0) (pa_cons (pv 1) pa_nil))) (pg_tup rfl (pgs_cons (pg_name (i := 7) sc__law_aims.nd rfl (by first | exact .inl rfl | exact .inr rfl)) (pgs_cons (pg_name (i := 8) sc__law_aims.nd rfl (by first | exact .inl rfl | exact .inr rfl)) pgs_nil))))
      (pss_cons (ps_par (i := 11) (j := 12) rfl sc__law_aims.nd rfl rfl (by decide) rfl rfl (pa_cons (pe_lc (own := [("y", 9), ("x", 10)]) (g := gTup K 2 (gCons (gName 9) (gCons (gName 10) gNil))) (tt := tYes) rfl sc__law_aims.nd (pi_list (pe_op op_cat (pv 7) (pv 8))) (blkOk_by (own := [("y", 9), ("x", 10)]) (N := ["scope", "square", "fashion", "rows", "top", "left", "side", "lefts", "aboves", "y", "x", "some", "found"]) (sc := defScope s__law_aims) (by decide +kernel))
        (fun _ _ _ _ _ => pg_tup rfl (pgs_cons (pg_name (i := 9) sc__law_aims.nd rfl (Or.inl rfl)) (pgs_cons (pg_name (i := 10) sc__law_aims.nd rfl (Or.inl rfl)) pgs_nil))) (fun _ _ _ _ _ => pts_nil) (fun _ _ _ _ _ => (pe_ix (show IxR _ (rIxT K) from ix_tup) (pe_ix (show IxR _ (rIxT K) from ix_tup) (pv 3) (pv 9) (fun _ _ => rfl)) (pv 10) (fun _ _ => rfl)))) (pa_cons (pe_lst pa_nil) pa_nil)) (by rfl))
      (pss_cons (ps_for (passes_of rfl) rfl (pi_list (pe_call (ok_ldots T) (hr.mono (by decide)) (by rfl) T._law_dots.m T._law_dots.f.kp (bd__law_dots T) .nil passE (pa_cons (pv 0) (pa_cons (pv 1) pa_nil)))) (pg_tup rfl (pgs_cons (pg_name (i := 9) sc__law_aims.nd rfl (by first | exact .inl rfl | exact .inr rfl)) (pgs_cons (pg_name (i := 10) sc__law_aims.nd rfl (by first | exact .inl rfl | exact .inr rfl)) pgs_nil))) (pss_one (ps_if (pt_cmpR op_eq (pv 2) pe_str (nomark _)) (pss_one (ps_expr (pe_bm PySem.F.plainAttrs_list PySem.F.slot_list_append PySem.F.type_list_append mt_append (pv 12) (pa_cons (pe_op op_fdiv (pe_op op_add (pe_dget hu (pv 0) pe_str (fun _ _ => rfl)) (pe_dget hu (pv 0) pe_str (fun _ _ => rfl))) pe_int) pa_nil)))) (pss_one (ps_if (pt_cmpR op_eq (pv 2) pe_str (nomark _)) (pss_one (ps_expr (pe_bm PySem.F.plainAttrs_list PySem.F.slot_list_append PySem.F.type_list_append mt_append (pv 12) (pa_cons (pe_ix ix_tup (pe_ix ix_tup (pv 3) (pv 9) (fun _ _ => rfl)) (pe_op op_sub (pv 5) pe_int) (fun _ _ => rfl)) pa_nil)))) (pss_one (ps_if (pt_cmpR op_eq (pv 2) pe_str (nomark _)) (pss_one (ps_expr (pe_bm PySem.F.plainAttrs_list PySem.F.slot_list_append PySem.F.type_list_append mt_append (pv 12) (pa_cons (pe_ix ix_tup (pe_ix ix_tup (pv 3) (pe_op op_sub (pv 4) pe_int) (fun _ _ => rfl)) (pv 10) (fun _ _ => rfl)) pa_nil)))) (pss_one (ps_if (pt_cmpR op_eq (pv 2) pe_str (nomark _)) (pss_one (ps_expr (pe_bm PySem.F.plainAttrs_list PySem.F.slot_list_append PySem.F.type_list_append mt_append (pv 12) (pa_cons (pe_ix ix_list (pe_callB (show CallR _ _ (rSorted K) from cr_sorted) (by rfl) T.b_sorted PyProof.Rows.boot_sorted (pa_cons (pe_lst (pa_cons (pe_ix ix_tup (pe_ix ix_tup (pv 3) (pv 9) (fun _ _ => rfl)) (pe_op op_sub (pv 5) pe_int) (fun _ _ => rfl)) (pa_cons (pe_ix ix_tup (pe_ix ix_tup (pv 3) (pe_op op_sub (pv 4) pe_int) (fun _ _ => rfl)) (pv 10) (fun _ _ => rfl)) (pa_cons (pe_ix ix_tup (pe_ix ix_tup (pv 3) (pe_op op_sub (pv 4) pe_int) (fun _ _ => rfl)) (pe_op op_sub (pv 5) pe_int) (fun _ _ => rfl)) pa_nil)))) pa_nil)) pe_int (fun _ _ => rfl)) pa_nil)))) (pss_one (ps_expr (pe_bm PySem.F.plainAttrs_list PySem.F.slot_list_append PySem.F.type_list_append mt_append (pv 12) (pa_cons (pe_op op_fdiv (pe_callB (cr_sum rfl) (by rfl) T.b_sum (by decide +kernel) (pa_cons (pv 11) pa_nil)) (pe_callB call_len_seq (by rfl) T.b_len PySem.boot_len (pa_cons (pv 11) pa_nil))) pa_nil)))))))))))))
      (pss_one (ps_ret (pv 12))))))), ?_⟩
    have el := edges_len (h := h) (w := wn) v
    have el' := (show (edgesU h wn b).length = (upE wn b).length + (leftE h b).length from List.length_append)
    have s64 : 64 < sizeLine := by decide
    have l64 := dots_len v
    have lt := v.lt
    have ll := v.ll
    refine ⟨_, rfl, p, _, rfl, SqT.of hp, rfl, _, _, rfl, _, _, rfl, _, _, rfl, rfl, ?_⟩
    refine ⟨_, rfl, _, rfl, a, p, b, h, wn, rfl, sc, hp, v, fun t q1 q2 u1 u2 H1 s1 nt et e1 r1 e2 r2 => ⟨t, _, rfl, SqT.of et, rfl, _, _, rfl, _, _, rfl, rfl, ?_⟩⟩
    have l1 := r1.1
    have l2 := r2.1
    refine ⟨_, rfl, _, rfl, q1, q2, u1, u2, rfl, rfl, e1, e2, by omega, fun g hg => ?_⟩
    have tg := Same.new (o := .lst (u1 ++ u2)) hg
    have eg : (upd H1 g (.lst (u1 ++ u2))) g = some (.lst (u1 ++ u2)) := upd_same
    have rr := (r1.append r2).same tg
    have s2 := s1.trans tg
    generalize upd H1 g (.lst (u1 ++ u2)) = H2 at tg eg rr s2 ⊢
    have rr : RL dotV H2 (u1 ++ u2) (edgesL h wn b) := rr
    have eLU : (edgesL h wn b).length = (edgesU h wn b).length := edgesL_perm.length_eq
    refine ⟨g, rfl, ⟨_, SqL.of eg⟩, fun D hD => lc_it walk_list (fun i H' => NZ H2 D (((edgesL h wn b).take i).map fun d => gAt nss d.1 d.2) H') (NZ.new hD) (fun _ H' _ q' => SqL.of (q'.2 _ _ eg)) ?_ ?_⟩
    · rintro i x Hq Hr hi n ⟨rfl, hx⟩
      obtain ⟨pd, d, rfl, hd, ed⟩ := (rr.same n.2).get hx
      have hd : (edgesL h wn b)[i]? = some d := hd
      have di := edges_in v (edgesL_perm.mem_iff.mp (List.mem_of_getElem? hd))
      refine ⟨pd, _, rfl, SqT.of ed, rfl, _, _, rfl, _, _, rfl, rfl, rfl, ?_⟩
      dsimp only [tYes]
      rw [if_pos rfl]
      have al : ((((edgesL h wn b).take i).map fun d => gAt nss d.1 d.2) : List Int).length < 100000 := by
        rw [List.length_map, List.length_take]
        omega
      obtain ⟨vs1, b1, ns1, ea1, hy1, eb1, hx1⟩ := (pn.keep (s2.trans n.2)).read (y := d.1) (x := d.2) (by omega) (by omega)
      obtain ⟨acc, f1, f2, f3⟩ := n.push (i := gAt nss d.1 d.2) hD al
      exact ⟨_, rfl, _, rfl, ra, vs1, _, _, rfl, rfl, SqT.of ea1, atI_nat hy1, _, rfl, b1, _, _, _, rfl, rfl, SqT.of eb1, atI_nat hx1, acc, f1, f2, (by rw [take_map1 hd]; exact f3)⟩
    rintro H3 ⟨e3, s3⟩
    rw [List.take_of_length_le (by rw [rr.1]; exact Nat.le_refl _)] at e3
    have nD := s2.free hD
    have sA := s2.trans s3
    clear s3 rr tg eg e1 r1 e2 r2 et
    refine ⟨(by show 0 ≤ sizeLine; decide), fun f0 hf0 => ⟨_, _, rfl, ?_⟩⟩
    have tf := Same.new (o := .lst []) hf0
    have D0 : D ≠ f0 := ne_of_none e3 hf0
    have ef : (upd H3 f0 (.lst [])) f0 = some (.lst []) := upd_same
    have sB := sA.trans tf
    have nf := sA.free hf0
    have e3 := tf _ _ e3
    generalize upd H3 f0 (.lst []) = H4 at tf ef sB e3 ⊢
    refine ⟨_, rfl, _, rfl, a, p, b, h, wn, rfl, sc.keep sB, sB _ _ hp, v, fun qd ud H5 s5 nd5 ld5 rd5 => ?_⟩
    have sC := sB.trans s5
    refine ⟨qd, rfl, ⟨_, SqL.of ld5⟩, for_list (xs := ud) (fun i σ H' => (∃ v9 v10, σ = [some (.ref a), some (.ref p), some (.str m.s), some (.ref ra), some (.int (b.t : Int)), some (.int (b.l : Int)), some (.int (b.s : Int)), some (.ref q1), some (.ref q2), v9, v10, some (.ref D), some (.ref f0)]) ∧ Same H H' ∧ H' qd = some (.lst ud) ∧ RL dotV H' ud (dotsB h wn b) ∧ H' D = some (.lst (((edgesL h wn b).map fun d => gAt nss d.1 d.2).map V.int)) ∧ H' f0 = some (.lst ((((dotsB h wn b).take i).map (gpt m h wn ((lo + hi) / 2) b nss)).map V.int))) ⟨⟨none, none, rfl⟩, sC, ld5, rd5, s5 _ _ e3, s5 _ _ ef⟩ (fun i σ H' _ h => SqL.of h.2.2.1) ?_ fun σ' H' ⟨⟨v9, v10, e⟩, S, _, r', _, fe⟩ => ?_⟩
    case refine_2 =>
      subst e
      rw [List.take_of_length_le (by rw [r'.1]; exact Nat.le_refl _)] at fe
      exact ⟨_, rfl, k f0 H' S nf (by rw [guess_pt]; exact fe)⟩
    rintro i x σ H' hx ⟨⟨v9, v10, rfl⟩, S, lq, r', eD, nz⟩
    obtain ⟨pd, d, rfl, hd, ed⟩ := r'.get hx
    have di := dots_in v (List.mem_of_getElem? hd)
    have pn' := pn.keep S
    have al : (((((dotsB h wn b).take i).map (gpt m h wn ((lo + hi) / 2) b nss))).map V.int).length < sizeLine := by
      rw [List.length_map, List.length_map, List.length_take]
      omega
    have Q0 : qd ≠ f0 := fun z => by
      rw [z, ef] at nd5
      cases nd5
    have fin : ∀ z H'', z = gpt m h wn ((lo + hi) / 2) b nss d → Same H' H'' → (fun (i : Nat) (σ : L2.St) (H' : Hp) => (∃ v9 v10, σ = [some (.ref a), some (.ref p), some (.str m.s), some (.ref ra), some (.int (b.t : Int)), some (.int (b.l : Int)), some (.int (b.s : Int)), some (.ref q1), some (.ref q2), v9, v10, some (.ref D), some (.ref f0)]) ∧ Same H H' ∧ H' qd = some (.lst ud) ∧ RL dotV H' ud (dotsB h wn b) ∧ H' D = some (.lst (((edgesL h wn b).map fun d => gAt nss d.1 d.2).map V.int)) ∧ H' f0 = some (.lst ((((dotsB h wn b).take i).map (gpt m h wn ((lo + hi) / 2) b nss)).map V.int))) (i + 1) [some (.ref a), some (.ref p), some (.str m.s), some (.ref ra), some (.int (b.t : Int)), some (.int (b.l : Int)), some (.int (b.s : Int)), some (.ref q1), some (.ref q2), some (.int (d.1 : Int)), some (.int (d.2 : Int)), some (.ref D), some (.ref f0)] (upd H'' f0 (.lst ((((dotsB h wn b).take i).map (gpt m h wn ((lo + hi) / 2) b nss)).map V.int ++ [.int z]))) := fun z H'' ez s' => by
      have nz2 := s' _ _ nz
      refine ⟨⟨_, _, rfl⟩, putN (S.trans s') nf, (upd_ne Q0).trans (s' _ _ lq), (r'.same s').tp fun b xs e => (upd_ne (ne_of e nz2 (by intro z; cases z))).trans e, (upd_ne D0).trans (s' _ _ eD), ?_⟩
      rw [upd_same, take_map1 hd, ez, List.map_append]
      rfl
    refine ⟨pd, _, rfl, SqT.of ed, rfl, _, _, rfl, _, _, rfl, rfl, ?_⟩
    have sc' := scv.keep (H' := H') fun o e => S _ _ e
    cases m with
    | flat =>
      refine ⟨_, rfl, rfl, _, rfl, ?_⟩
      rw [show decide (V.str (Md.s .flat) = V.str "flat") = true by decide]
      refine iteT ?_
      exact ⟨_, rfl, .inl ⟨rfl, _, SqL.of nz⟩, _, rfl, a, _, rfl, (show DGet H' a (kV kLeast) _ from sc_least ▸ DGet.k sc'.d), _, rfl, a, _, rfl, (show DGet H' a (kV kMost) _ from sc_most ▸ DGet.k sc'.d), _, _, rfl, rfl, _, _, rfl, rfl, ⟨by decide, by decide⟩, f0, _, _, rfl, rfl, nz, al, fin _ _ rfl (fun _ _ e => e)⟩
    | left =>
      have mk : 0 < b.l := mk
      refine ⟨_, rfl, rfl, _, rfl, ?_⟩
      rw [show decide (V.str (Md.s .left) = V.str "flat") = false by decide]
      refine iteF ?_
      refine ⟨_, rfl, rfl, _, rfl, ?_⟩
      rw [show decide (V.str (Md.s .left) = V.str "left") = true by decide]
      refine iteT ?_
      obtain ⟨vs1, b1, ns1, ea1, hy1, eb1, hx1⟩ := pn'.read (y := d.1) (x := b.l - 1) (by omega) (by omega)
      exact ⟨_, rfl, .inl ⟨rfl, _, SqL.of nz⟩, _, rfl, _, rfl, ra, vs1, _, _, rfl, rfl, SqT.of ea1, atI_nat hy1, _, rfl, _, _, rfl, rfl, b1, _, _, _, rfl, rfl, SqT.of eb1, atI_sub hx1 mk, f0, _, _, rfl, rfl, nz, al, fin _ _ rfl (fun _ _ e => e)⟩
    | up =>
      have mk : 0 < b.t := mk
      refine ⟨_, rfl, rfl, _, rfl, ?_⟩
      rw [show decide (V.str (Md.s .up) = V.str "flat") = false by decide]
      refine iteF ?_
      refine ⟨_, rfl, rfl, _, rfl, ?_⟩
      rw [show decide (V.str (Md.s .up) = V.str "left") = false by decide]
      refine iteF ?_
      refine ⟨_, rfl, rfl, _, rfl, ?_⟩
      rw [show decide (V.str (Md.s .up) = V.str "up") = true by decide]
      refine iteT ?_
      obtain ⟨vs1, b1, ns1, ea1, hy1, eb1, hx1⟩ := pn'.read (y := b.t - 1) (x := d.2) (by omega) (by omega)
      exact ⟨_, rfl, .inl ⟨rfl, _, SqL.of nz⟩, _, rfl, _, rfl, _, _, rfl, rfl, ra, vs1, _, _, rfl, rfl, SqT.of ea1, atI_sub hy1 mk, _, rfl, b1, _, _, _, rfl, rfl, SqT.of eb1, atI_nat hx1, f0, _, _, rfl, rfl, nz, al, fin _ _ rfl (fun _ _ e => e)⟩
    | middle =>
      have mk : 0 < b.l ∧ 0 < b.t := mk
      refine ⟨_, rfl, rfl, _, rfl, ?_⟩
      rw [show decide (V.str (Md.s .middle) = V.str "flat") = false by decide]
      refine iteF ?_
      refine ⟨_, rfl, rfl, _, rfl, ?_⟩
      rw [show decide (V.str (Md.s .middle) = V.str "left") = false by decide]
      refine iteF ?_
      refine ⟨_, rfl, rfl, _, rfl, ?_⟩
      rw [show decide (V.str (Md.s .middle) = V.str "up") = false by decide]
      refine iteF ?_
      refine ⟨_, rfl, rfl, _, rfl, ?_⟩
      rw [show decide (V.str (Md.s .middle) = V.str "middle") = true by decide]
      refine iteT ?_
      obtain ⟨vs1, b1, ns1, ea1, hy1, eb1, hx1⟩ := pn'.read (y := d.1) (x := b.l - 1) (by omega) (by omega)
      obtain ⟨vs2, b2, ns2, ea2, hy2, eb2, hx2⟩ := pn'.read (y := b.t - 1) (x := d.2) (by omega) (by omega)
      obtain ⟨vs3, b3, ns3, ea3, hy3, eb3, hx3⟩ := pn'.read (y := b.t - 1) (x := b.l - 1) (by omega) (by omega)
      refine ⟨_, rfl, .inl ⟨rfl, _, SqL.of nz⟩, _, rfl, _, rfl, ra, vs1, _, _, rfl, rfl, SqT.of ea1, atI_nat hy1, _, rfl, _, _, rfl, rfl, b1, _, _, _, rfl, rfl, SqT.of eb1, atI_sub hx1 mk.1, _, rfl, _, rfl, _, _, rfl, rfl, ra, vs2, _, _, rfl, rfl, SqT.of ea2, atI_sub hy2 mk.2, _, rfl, b2, _, _, _, rfl, rfl, SqT.of eb2, atI_nat hx2, _, rfl, _, rfl, _, _, rfl, rfl, ra, vs3, _, _, rfl, rfl, SqT.of ea3, atI_sub hy3 mk.2, _, rfl, _, _, rfl, rfl, b3, _, _, _, rfl, rfl, SqT.of eb3, atI_sub hx3 mk.1, (by show 3 ≤ sizeLine; decide), fun g hg => ?_⟩
      have tg := Same.new (o := .lst [V.int (gAt nss d.1 (b.l - 1)), .int (gAt nss (b.t - 1) d.2), .int (gAt nss (b.t - 1) (b.l - 1))]) hg
      refine ⟨g, [gAt nss d.1 (b.l - 1), gAt nss (b.t - 1) d.2, gAt nss (b.t - 1) (b.l - 1)], rfl, SqL.of upd_same, by show 3 < 64; decide, fun ns' g2 pm so hg2 => ?_⟩
      have t2 := tg.trans (Same.new (o := .lst (ns'.map V.int)) hg2)
      have m3 := med3_of pm so
      exact ⟨g2, _, _, _, rfl, rfl, SqL.of upd_same, atI_nat (j := 1) (by rw [List.getElem?_map, m3]; rfl), f0, _, _, rfl, rfl, t2 _ _ nz, al, fin _ _ rfl t2⟩
    | mean =>
      have mk : 0 < b.l ∨ 0 < b.t := mk
      refine ⟨_, rfl, rfl, _, rfl, ?_⟩
      rw [show decide (V.str (Md.s .mean) = V.str "flat") = false by decide]
      refine iteF ?_
      refine ⟨_, rfl, rfl, _, rfl, ?_⟩
      rw [show decide (V.str (Md.s .mean) = V.str "left") = false by decide]
      refine iteF ?_
      refine ⟨_, rfl, rfl, _, rfl, ?_⟩
      rw [show decide (V.str (Md.s .mean) = V.str "up") = false by decide]
      refine iteF ?_
      refine ⟨_, rfl, rfl, _, rfl, ?_⟩
      rw [show decide (V.str (Md.s .mean) = V.str "middle") = false by decide]
      refine iteF ?_
      have ep := edges_pos (h := h) (w := wn) v mk
      have ln : ((((edgesL h wn b).map fun d => gAt nss d.1 d.2).map V.int).length) = (edgesU h wn b).length := by rw [List.length_map, List.length_map, eLU]
      refine ⟨_, rfl, .inl ⟨rfl, _, SqL.of nz⟩, _, rfl, D, _, rfl, SqL.of eD, _, rfl, D, _, rfl, .inl (SqL.of eD), _, _, rfl, rfl, ⟨by rw [ln]; omega, by rw [ln]; omega⟩, f0, _, _, rfl, rfl, nz, al, fin _ _ ?_ (fun _ _ e => e)⟩
      rw [ln, sum_perm (edgesL_perm.map _)]
      rfl
end
end K05
namespace K05
open PySem PySem.Spec PyProof.Rows L2 PySem.W LamX KA KW KU KL KT
open Evl (pss_cut tCut)
/-! ### the law's own other planes -/
def dotD (d : Nat × Nat) : PyData := .tuple [.int (d.1 : Int), .int (d.2 : Int)]
theorem eqv_dot (a b : Nat × Nat) : PyData.eqv (dotD a) (dotD b) = decide (a = b) := by
  show PyData.eqvAll [.int (a.1 : Int), .int (a.2 : Int)] [.int (b.1 : Int), .int (b.2 : Int)] = _
  show (((a.1 : Int) == (b.1 : Int)) && (((a.2 : Int) == (b.2 : Int)) && true)) = _
  obtain ⟨t, l⟩ := a
  obtain ⟨t', l'⟩ := b
  rw [Bool.and_true, Bool.beq_eq_decide_eq, Bool.beq_eq_decide_eq, ← Bool.decide_and]
  refine decide_eq_decide.mpr ⟨fun z => ?_, fun z => ?_⟩
  · dsimp only at z
    congr 1 <;> omega
  · cases z
    exact ⟨rfl, rfl⟩
theorem dp_rl {α : Type} {K : PySem.W.Frag} {H : Hp} {f : α → List V} {g : α → PyData} (hfg : ∀ p a, H p = some (.tup (f a)) → Dp K H (.ref p) (g a)) : ∀ {us : List V} {as : List α}, RL f H us as → DpAll K H us (as.map g)
  | [], [], _ => .nil
  | [], _ :: _, r => by cases r.1
  | _ :: _, [], r => by cases r.1
  | u :: us, b :: bs, r => by
    obtain ⟨p, a, e1, e2, e3⟩ := r.get (i := 0) (v := u) rfl
    have : b = a := Option.some.inj e2
    subst this e1
    refine .cons (hfg _ _ e3) (dp_rl hfg ⟨by simpa using r.1, fun j v e => ?_⟩)
    exact r.2 (j + 1) v (by simpa using e)
theorem dp_dot {K : PySem.W.Frag} {H : Hp} (p : Addr) (d : Nat × Nat) (e : H p = some (.tup (dotV d))) : Dp K H (.ref p) (dotD d) := .tup (SqT.of e) (.cons (.int _) (.cons (.int _) .nil))
theorem dot_lay (d : Nat × Nat) : (dotD d).canLay0 = true ∧ (dotD d).depth ≤ 2 := by
  refine ⟨by simp [dotD, PyData.canLay0, PyData.canLayAll0], by simp [dotD, PyData.depth, PyData.depthAll]⟩
theorem dots_lay (ds : List (Nat × Nat)) : SeqAt.shaped (.list (ds.map dotD)) = true := by
  have all : ∀ bs : List (Nat × Nat), PyData.canLayAll0 (bs.map dotD) = true ∧ PyData.depthAll (bs.map dotD) ≤ 2 := fun bs => by
    induction bs with
    | nil => exact ⟨rfl, Nat.zero_le _⟩
    | cons b bs ih =>
      obtain ⟨a, c⟩ := dot_lay b
      refine ⟨by simp [PyData.canLayAll0, a, ih.1], ?_⟩
      simp only [List.map_cons, PyData.depthAll]
      omega
  obtain ⟨h1, h2⟩ := all ds
  simp [SeqAt.shaped, PyData.canLay0, PyData.depth, h1]
  omega
theorem dot_shaped (d : Nat × Nat) : SeqAt.shaped (dotD d) = true := by
  obtain ⟨a, c⟩ := dot_lay d
  simp [SeqAt.shaped, a]
  omega
theorem any_dot (d : Nat × Nat) (ds : List (Nat × Nat)) : ((ds.map dotD).any fun z => PyData.eqv z (dotD d)) = decide (d ∈ ds) := by
  rw [List.any_map]
  induction ds with
  | nil => rfl
  | cons e ds ih =>
    rw [List.any_cons, ih]
    show (PyData.eqv (dotD e) (dotD d) || decide (d ∈ ds)) = _
    rw [eqv_dot]
    by_cases c : e = d
    · subst c
      simp
    · have : ¬ d = e := fun z => c z.symm
      simp [c, this]
theorem Kp.tp {st lg cl : Addr} {m : Nat} {H H' : Hp} (S : StAt H st lg cl m) (k : Kp st lg H H') : Tp H H' := fun b xs e => by
  obtain ⟨_, _, _, _, S', _⟩ := S
  exact k b _ e (ne_of e S'.d (by intro z; cases z)) (ne_of e S'.l (by intro z; cases z))
/-- a list that grows while things are drawn -/
structure FI (st lg cl F : Addr) (H1 : Hp) (m : Nat) (vs : List V) (H : Hp) : Prop where
  S : StAt H st lg cl m
  K : Kp st lg H1 H
  D : H F = some (.lst vs)
section
variable {st lg cl F : Addr} {H1 H H2 : Hp} {m m' : Nat} {vs : List V} {v : V}
theorem FI.new (S : StAt H1 st lg cl m) (h : H1 F = none) : FI st lg cl F H1 m [] (upd H1 F (.lst [])) := ⟨S.same (Same.new h), Kp.same (Same.new h), upd_same⟩
theorem FI.kp (f : FI st lg cl F H1 m vs H) (n : F ≠ st ∧ F ≠ lg ∧ F ≠ cl) (S : StAt H2 st lg cl m') (k : Kp st lg H H2) : FI st lg cl F H1 m' vs H2 := ⟨S, f.K.trans k, k _ _ f.D n.1 n.2.1⟩
theorem FI.same (f : FI st lg cl F H1 m vs H) (s : Same H H2) : FI st lg cl F H1 m vs H2 := ⟨f.S.same s, f.K.trans (Kp.same s), s _ _ f.D⟩
theorem FI.push (f : FI st lg cl F H1 m vs H) (h : H1 F = none) (n : F ≠ st ∧ F ≠ lg ∧ F ≠ cl) : FI st lg cl F H1 m (vs ++ [v]) (upd H F (.lst (vs ++ [v]))) := ⟨StAt.put' f.S n.1 n.2.1 n.2.2, Kp.put3 f.K h, upd_same⟩
theorem FI.mono (f : FI st lg cl F H1 m vs H) (l : m ≤ m') : FI st lg cl F H1 m' vs H := { f with S := f.S.mono l }
end
/-- a row that is filled -/
def RowOk (ds : List (Nat × Nat)) (nss : List (List Int)) (lo hi : Int) (i : Nat) (ns : List Int) : Prop := (∀ n ∈ ns, lo ≤ n ∧ n ≤ hi) ∧ ∀ (x : Nat) (n : Int), ns[x]? = some n → (i, x) ∈ ds → n = gAt nss i x
theorem row_snoc {ds : List (Nat × Nat)} {nss : List (List Int)} {lo hi : Int} {i : Nat} {ns : List Int} {n : Int} (r : RowOk ds nss lo hi i ns) (h1 : lo ≤ n) (h2 : n ≤ hi) (h : (i, ns.length) ∈ ds → n = gAt nss i ns.length) : RowOk ds nss lo hi i (ns ++ [n]) := by
  refine ⟨inAll_snoc r.1 h1 h2, fun x k hk hm => ?_⟩
  by_cases c : x < ns.length
  · rw [List.getElem?_append_left c] at hk
    exact r.2 x k hk hm
  · have hx : x = ns.length := by
      have := (List.getElem?_eq_some_iff.mp hk).1
      rw [List.length_append, List.length_singleton] at this
      omega
    subst hx
    rw [List.getElem?_append_right (Nat.le_refl _), Nat.sub_self] at hk
    cases hk
    exact h hm
theorem gAt_in {nss : List (List Int)} {w : Nat} {lo hi : Int} (hb : ∀ ns ∈ nss, ∀ n ∈ ns, lo ≤ n ∧ n ≤ hi) (hw : ∀ ns ∈ nss, ns.length = w) {y x : Nat} (hy : y < nss.length) (hx : x < w) : lo ≤ gAt nss y x ∧ gAt nss y x ≤ hi := by
  have e : nss.getD y [] = nss[y] := by rw [List.getD_eq_getElem?_getD, List.getElem?_eq_getElem hy]; rfl
  have m := List.getElem_mem hy
  have l := hw _ m
  unfold gAt
  rw [e, List.getD_eq_getElem?_getD, List.getElem?_eq_getElem (by omega)]
  exact hb _ m _ (List.getElem_mem _)
def spFilled : Sp := fun vs H Q _ => ∃ (st lg cl sa pa da : Addr) (h w : Nat) (lo hi : Int) (m : Nat) (nss : List (List Int)) (us : List V) (ds : List (Nat × Nat)), vs = [.ref st, .ref sa, .ref pa, .ref da] ∧ ScV H sa (h : Int) (w : Int) lo hi ∧ (sa ≠ st ∧ sa ≠ lg) ∧ (da ≠ st ∧ da ≠ lg) ∧ m ≤ 980000 ∧ StAt H st lg cl m ∧
  Pn H pa nss w ∧ nss.length = h ∧ (∀ ns ∈ nss, ∀ n ∈ ns, lo ≤ n ∧ n ≤ hi) ∧ H da = some (.lst us) ∧ RL dotV H us ds ∧
  ∀ (a : Addr) (mss : List (List Int)) (H' : Hp), Pn H' a mss w → mss.length = h → (∀ ns ∈ mss, ∀ n ∈ ns, lo ≤ n ∧ n ≤ hi) → (∀ y x, (y, x) ∈ ds → y < h → x < w → gAt mss y x = gAt nss y x) → StAt H' st lg cl (m + 256) → Kp st lg H H' → Q (.ref a) H'
section
variable {P : Program} {w : World} {K : PySem.W.Frag} {mg : Str → Option Value} {base : Heap} (T : Top K mg) (SH : ShapeT K mg) (BE : BadShapeT P w K mg T.reel.C) (Z : SzT K mg)
theorem ok_filled : FnOk P w K mg base (L2.CX P w) 3 T._law_filled.a T._law_filled.d ["state", "scope", "pane", "dots"] spFilled := by
  refine T._law_filled.f.okX sc__law_filled (fun vs H Q E h => ?_) (fun cdv A outer s H vs Q E hr h => ?_)
  · obtain ⟨st, lg, cl, sa, pa, da, h, w, lo, hi, m, nss, us, ds, rfl, _⟩ := h
    rfl
  · obtain ⟨st, lg, cl, sa, pa, da, ht, wd, lo, hi, m, nss, us, ds, rfl, sc, na, nda, hm, S, pn, ln, hb, ed, rd, k⟩ := h
    have hu := hu_of hr
    refine ⟨_, (pss_cons (ps_set (i := 4) sc__law_filled.nd rfl (by first | exact .inl rfl | exact .inr rfl) (pe_lst pa_nil))
      (pss_cons (ps_for (passes_of rfl) rfl (pi_range1 (by rfl) T.b_range (pa_cons (pe_dget hu (pv 1) pe_str (fun _ _ => rfl)) pa_nil)) (pg_name (i := 5) sc__law_filled.nd rfl (by first | exact .inl rfl | exact .inr rfl)) (pss_one (ps_expr (pe_bm PySem.F.plainAttrs_list PySem.F.slot_list_append PySem.F.type_list_append mt_append (pv 4) (pa_cons (pe_callTy (show CallR _ _ (rTupOf K) from call_tuple_of) (by rfl) T.b_tuple (by decide +kernel) (pa_cons (pe_lc (own := [("x", 6)]) (g := gName 6) (tt := tYes) rfl sc__law_filled.nd ( (pi_range1 (by rfl) T.b_range (pa_cons (pe_dget hu (pv 1) pe_str (fun _ _ => rfl)) pa_nil))) (blkOk_by (own := [("x", 6)]) (N := ["state", "scope", "pane", "dots", "found", "y", "x"]) (sc := defScope s__law_filled) (by decide +kernel))
        (fun _ _ _ _ _ => pg_name (i := 6) sc__law_filled.nd rfl (Or.inl rfl)) (fun _ _ _ _ _ => pts_nil) (fun _ _ _ _ _ => (pe_ifExp (pt_cmpR (show OpR _ _ (rInD K) from op_inD (hu65 hr)) (pe_tup (pa_cons (pv 5) (pa_cons (pv 6) pa_nil))) (pv 3) (by rfl)) (pe_ix (show IxR _ (rIxT K) from ix_tup) (pe_ix (show IxR _ (rIxT K) from ix_tup) (pv 2) (pv 5) (fun _ _ => rfl)) (pv 6) (fun _ _ => rfl)) (pe_call (ok_grain T) (hr.mono (by decide)) (by rfl) T._law_grain.m T._law_grain.f.kp (bd__law_grain T) .nil passE (pa_cons (pv 0) (pa_cons (pv 1) pa_nil)))))) pa_nil)) pa_nil)))))
      (pss_one (ps_ret (pe_callTy (show CallR _ _ (rTupOf K) from call_tuple_of) (by rfl) T.b_tuple (by decide +kernel) (pa_cons (pv 4) pa_nil)))))), ?_⟩
    have t1 := sc.t1
    have t2 := sc.t2
    have w1 := sc.w1
    have w2 := sc.w2
    have s64 : 64 < sizeLine := by decide
    refine ⟨(by show 0 ≤ sizeLine; decide), fun F hF => ?_⟩
    have B := FI.new S hF
    have nF := StAt.off3 S hF
    generalize upd H F (.lst []) = H1 at B ⊢
    refine ⟨_, rfl, sa, _, rfl, (show DGet H1 sa (kV kTall) _ from sc_tall ▸ DGet.k (B.K _ _ sc.d na.1 na.2)), _, rfl, by omega, by omega, ?_⟩
    rw [Int.toNat_natCast]
    refine for_range (lo := 0) (n := ht) (fun y σ H' => (∃ v5 v6, σ = [some (.ref st), some (.ref sa), some (.ref pa), some (.ref da), some (.ref F), v5, v6]) ∧ ∃ rs mss, FI st lg cl F H (m + 16 * y) rs H' ∧ Rows H' rs mss ∧ mss.length = y ∧ ∀ i ns, mss[i]? = some ns → ns.length = wd ∧ RowOk ds nss lo hi i ns) ⟨⟨_, _, rfl⟩, [], [], B, Rows.nil, rfl, fun i ns e => by simp at e⟩ ?_ ?_
    · clear B
      rintro y σ H1 hy ⟨⟨v5, v6, rfl⟩, rs, mss, B, rw', hl, hall⟩
      rw [Int.zero_add]
      refine ⟨_, rfl, .inl ⟨rfl, _, SqL.of B.D⟩, _, rfl, sa, _, rfl, (show DGet H1 sa (kV kWide) _ from sc_wide ▸ DGet.k (B.K _ _ sc.d na.1 na.2)), _, rfl, by omega, by omega, ?_⟩
      rw [Int.toNat_natCast]
      intro D hD
      have nD := StAt.off3 B.S hD
      have DF : F ≠ D := ne_of_none B.D hD
      refine lc_it walk_range (fun x H' => ∃ ms : List Int, FI st lg cl D H1 (m + 16 * y + x) (ms.map V.int) H' ∧ ms.length = x ∧ RowOk ds nss lo hi y ms) ⟨[], FI.new B.S hD, rfl, fun n hn => by simp at hn, fun x n e => by simp at e⟩ (fun _ _ _ _ => trivial) ?_ ?_
      · rintro x z Hq Hr hx ⟨ms, f, lm, rok⟩ ⟨rfl, rfl⟩
        refine ⟨rfl, ?_⟩
        dsimp only [tYes]
        rw [if_pos rfl, Int.zero_add]
        have kH := B.K.trans f.K
        have al : (ms.map V.int).length < sizeLine := by rw [List.length_map]; omega
        refine ⟨_, rfl, _, rfl, (by show 2 ≤ sizeLine; decide), fun z hz => ?_⟩
        have tz := Same.new (o := .tup [V.int (y : Int), .int (x : Int)]) hz
        have ez : (upd Hr z (.tup [V.int (y : Int), .int (x : Int)])) z = some (.tup (dotV (y, x))) := upd_same
        have f := f.same tz
        have kH := kH.trans (Kp.same tz)
        generalize upd Hr z (.tup [V.int (y : Int), .int (x : Int)]) = H3 at tz ez f kH ⊢
        refine ⟨_, rfl, dotD (y, x), ds.map dotD, dp_dot z _ ez, .lst (SqL.of (kH _ _ ed nda.1 nda.2)) (dp_rl dp_dot (rd.tp (Kp.tp S kH))), dot_shaped _, dots_lay _, _, rfl, ?_⟩
        rw [any_dot]
        by_cases c : (y, x) ∈ ds
        · rw [decide_eq_true c]
          refine iteT ?_
          have pn' := pn.kp S kH
          obtain ⟨vs1, b1, ns1, ea1, hy1, eb1, hx1⟩ := pn'.read (y := y) (x := x) (by omega) (by omega)
          have gi := gAt_in hb pn.ws (y := y) (x := x) (by omega) (by omega)
          refine ⟨_, rfl, _, rfl, pa, vs1, _, _, rfl, rfl, SqT.of ea1, atI_nat hy1, _, rfl, b1, _, _, _, rfl, rfl, SqT.of eb1, atI_nat hx1, _, f.D, al, ms ++ [gAt nss y x], ?_, by rw [List.length_append, lm]; rfl, row_snoc rok gi.1 gi.2 fun _ => by rw [lm]⟩
          rw [List.map_append]
          exact (f.push hD nD).mono (by omega)
        · rw [decide_eq_false c]
          refine iteF ⟨_, rfl, _, rfl, st, lg, cl, sa, _, _, lo, hi, _, rfl, sc.keep fun o q => kH _ _ q na.1 na.2, by omega, f.S, fun n H4 n1 n2 S4 kp4 => ?_⟩
          have f4 := f.kp nD S4 kp4
          refine ⟨_, f4.D, al, ms ++ [n], ?_, by rw [List.length_append, lm]; rfl, row_snoc rok n1 n2 fun hm => by rw [lm] at hm; exact absurd hm c⟩
          rw [List.map_append]
          exact (f4.push hD nD).mono (by omega)
      · rintro H2 ⟨ms, f, lm, rok⟩
        refine ⟨D, _, rfl, .inl ⟨SqL.of f.D, fun l hl' => ?_⟩⟩
        have tl := Same.new (o := .tup (ms.map V.int)) hl'
        have el : (upd H2 l (.tup (ms.map V.int))) l = some (.tup (ms.map V.int)) := upd_same
        have f := f.same tl
        generalize upd H2 l (.tup (ms.map V.int)) = H3 at tl el f ⊢
        have B3 := B.kp nF f.S f.K
        have rw3 := rw'.kp B.S f.K
        refine ⟨F, _, _, rfl, rfl, B3.D, ?_, ⟨_, _, rfl⟩, rs ++ [.ref l], mss ++ [ms], (B3.push hF nF).mono (by omega), Rows.put (Rows.snoc rw3 el) B3.D, by rw [List.length_append, hl]; rfl, fun i ns e => ?_⟩
        · have := rw'.1
          omega
        · by_cases c : i < mss.length
          · rw [List.getElem?_append_left c] at e
            exact hall i ns e
          · have hi' : i = mss.length := by
              have := (List.getElem?_eq_some_iff.mp e).1
              rw [List.length_append, List.length_singleton] at this
              omega
            subst hi'
            rw [List.getElem?_append_right (Nat.le_refl _), Nat.sub_self] at e
            cases e
            rw [hl]
            exact ⟨lm, rok⟩
    · clear B
      rintro σ H1 ⟨⟨v5, v6, rfl⟩, rs, mss, B, rw', hl, hall⟩
      refine ⟨_, rfl, F, rs, rfl, .inl ⟨SqL.of B.D, fun l hl' => ?_⟩⟩
      have e := Same.new (o := .tup rs) hl'
      have each : ∀ ns ∈ mss, ∃ i, mss[i]? = some ns := fun ns hn => List.mem_iff_getElem?.mp hn
      refine k l mss _ (Rows.pn (rw'.keep e) upd_same (by omega) (by omega) (by omega) (by omega) fun ns hn => ?_) hl (fun ns hn => ?_) (fun y x hd hy hx => ?_) ((B.S.same e).mono (by omega)) (B.K.trans (Kp.same e))
      · obtain ⟨i, hi'⟩ := each ns hn
        exact (hall i ns hi').1
      · obtain ⟨i, hi'⟩ := each ns hn
        exact (hall i ns hi').2.1
      · have hy' : y < mss.length := by omega
        have g := hall y mss[y] (List.getElem?_eq_getElem hy')
        have e1 : mss.getD y [] = mss[y] := by rw [List.getD_eq_getElem?_getD, List.getElem?_eq_getElem hy']; rfl
        have hx' : x < mss[y].length := by rw [g.1]; exact hx
        have e2 : gAt mss y x = mss[y][x] := by
          unfold gAt
          rw [e1, List.getD_eq_getElem?_getD, List.getElem?_eq_getElem hx']
          rfl
        rw [e2]
        exact g.2.2 x _ (List.getElem?_eq_getElem hx') hd
end
end K05
namespace K05
open PySem PySem.Spec PyProof.Rows L2 PySem.W LamX KA KW KU KL KT
open Evl (pss_cut tCut)
/-! ### the law's own raised planes -/
def lcOf : Expr → Scope
  | .ListComp _ _ s _ => s
  | _ => defScope s__law_raised
def eltE : Expr → Expr
  | .ListComp e _ _ _ => e
  | e => e
def eR : Expr := match (defBody s__law_raised).getD 0 (.Pass ⟨0, 0, 0, 0⟩) with
  | .Assign _ e _ => e
  | _ => .Name "x" ⟨0, 0, 0, 0⟩
/-- lists of ints in a list -/
def LRows (st lg D : Addr) (H : Hp) (rs : List V) (mss : List (List Int)) : Prop := rs.length = mss.length ∧ ∀ (j : Nat) (v : V), rs[j]? = some v → ∃ b ns, v = .ref b ∧ mss[j]? = some ns ∧ H b = some (.lst (ns.map V.int)) ∧ b ≠ st ∧ b ≠ lg ∧ b ≠ D
def spRaised : Sp := fun vs H Q _ => ∃ (st lg cl sa pa : Addr) (h w : Nat) (lo hi : Int) (m most : Nat) (nss : List (List Int)), vs = [.ref st, .ref sa, .ref pa, .int (most : Int)] ∧ ScV H sa (h : Int) (w : Int) lo hi ∧ (sa ≠ st ∧ sa ≠ lg) ∧ m ≤ 980000 ∧ StAt H st lg cl m ∧
  Pn H pa nss w ∧ nss.length = h ∧ (∀ ns ∈ nss, ∀ n ∈ ns, lo ≤ n ∧ n ≤ hi) ∧ most ≤ 1000 ∧
  ∀ (a : Addr) (mss : List (List Int)) (H' : Hp), Pn H' a mss w → mss.length = h → (∀ ns ∈ mss, ∀ n ∈ ns, lo ≤ n ∧ n ≤ hi) → (∀ y x, y < h → x < w → gAt nss y x ≤ gAt mss y x ∧ gAt mss y x ≤ gAt nss y x + (most : Int)) → StAt H' st lg cl (m + 256) → Kp st lg H H' → Q (.ref a) H'
section
variable {P : Program} {w : World} {K : PySem.W.Frag} {mg : Str → Option Value} {base : Heap} (T : Top K mg) (SH : ShapeT K mg) (BE : BadShapeT P w K mg T.reel.C) (Z : SzT K mg)
theorem ok_raised : FnOk P w K mg base (L2.CX P w) 3 T._law_raised.a T._law_raised.d ["state", "scope", "pane", "most"] spRaised := by
  refine T._law_raised.f.okX sc__law_raised (fun vs H Q E h => ?_) (fun cdv A outer s H vs Q E hr h => ?_)
  · obtain ⟨st, lg, cl, sa, pa, h, w, lo, hi, m, most, nss, rfl, _⟩ := h
    rfl
  · obtain ⟨st, lg, cl, sa, pa, ht, wd, lo, hi, m, most, nss, rfl, sc, na, hm, S, pn, ln, hb, hmo, k⟩ := h
    have hu := hu_of hr
    have inR : ∀ (sI : Shared) (HI : Hp) (C : Addr) (cl : List (Str × Addr)) (fp : List Addr), PE ((cxOf (L2.CX P w) P w K mg base ["state", "scope", "pane", "most", "lines", "line", "grain"] "_law_raised" (defScope s__law_raised) T._law_raised.a cdv A outer s H E).blk sI HI (lcOf eR) (compEnvC (lcOf eR) cl C (cxOf (L2.CX P w) P w K mg base ["state", "scope", "pane", "most", "lines", "line", "grain"] "_law_raised" (defScope s__law_raised) T._law_raised.a cdv A outer s H E).env) fp) (eltE eR) (tLc (iTup K (tVar 5)) (gName 6) tYes (tCall spWithinL [] E0 (tCons (tVar 1) (tCons (tOp (rI0 fun i j => .int (i + j)) (tVar 6) (tCall spDraw [] E0 (tCons (tVar 0) (tCons (tOp (rI0 fun i j => .int (i + j)) (tVar 3) (tC (.int 1))) tNil)))) tNil))) [6]) := by
      intro sI HI C cl fp
      refine pe_lc (own := [("grain", 6)]) (g := gName 6) (tt := tYes) rfl sc__law_raised.nd ?_ ?_ ?_ ?_ ?_
      · exact pi_tup (pv 5)
      · exact blkOk_by (N := ["state", "scope", "pane", "most", "lines", "line", "grain"]) (sc := relS (lcOf eR) (defScope s__law_raised)) (by decide +kernel)
      · exact fun _ _ _ _ _ => pg_name (i := 6) sc__law_raised.nd rfl (Or.inl rfl)
      · exact fun _ _ _ _ _ => pts_nil
      · exact fun _ _ _ _ _ => (pe_call (ok_lwithin T) (hr.mono (by decide)) (by rfl) T._law_within.m T._law_within.f.kp (bd__law_within T) .nil passE (pa_cons (pv 1) (pa_cons (pe_op (show OpR _ _ (rI0 fun i j => .int (i + j)) from op_add) (pv 6) (pe_call (ok_draw T) (hr.mono (by decide)) (by rfl) T._law_draw.m T._law_draw.f.kp (bd__law_draw T) .nil passE (pa_cons (pv 0) (pa_cons (pe_op (show OpR _ _ (rI0 fun i j => .int (i + j)) from op_add) (pv 3) pe_int) pa_nil)))) pa_nil)))
    refine ⟨_, (pss_cons (ps_setLc (i := 4) (own := [("line", 5)]) (g := gName 5) (tt := tYes) rfl sc__law_raised.nd rfl rfl rfl (pi_tup (pv 2)) (blkOk_by (own := [("line", 5)]) (N := ["state", "scope", "pane", "most", "lines", "line", "grain"]) (sc := defScope s__law_raised) (by decide +kernel))
        (fun _ _ _ _ _ => pg_name (i := 5) sc__law_raised.nd rfl (Or.inl rfl)) (fun _ _ _ _ _ => pts_nil) inR)
      (pss_one (ps_ret (pe_callTy (show CallR _ _ (rTupOf K) from call_tuple_of) (by rfl) T.b_tuple (by decide +kernel) (pa_cons (pe_lc (own := [("line", 5)]) (g := gName 5) (tt := tYes) rfl sc__law_raised.nd (pi_list (pv 4)) (blkOk_by (own := [("line", 5)]) (N := ["state", "scope", "pane", "most", "lines", "line", "grain"]) (sc := defScope s__law_raised) (by decide +kernel))
        (fun _ _ _ _ _ => pg_name (i := 5) sc__law_raised.nd rfl (Or.inl rfl)) (fun _ _ _ _ _ => pts_nil) (fun _ _ _ _ _ => (pe_callTy (show CallR _ _ (rTupOf K) from call_tuple_of) (by rfl) T.b_tuple (by decide +kernel) (pa_cons (pv 5) pa_nil)))) pa_nil))))), ?_⟩
    have t1 := sc.t1
    have t2 := sc.t2
    have w1 := sc.w1
    have w2 := sc.w2
    have s64 : 64 < sizeLine := by decide
    obtain ⟨vs, ea, r0⟩ := pn.rows
    have pnt : ∀ H', Kp st lg H H' → H' pa = some (.tup vs) := fun H' kk => Kp.tp S kk _ _ ea
    refine ⟨_, rfl, pa, rfl, ⟨_, SqT.of ea⟩, fun D hD => ?_⟩
    have nD := StAt.off3 S hD
    have lvs : vs.length = ht := by rw [r0.1, ln]
    refine lc_it walk_tup (fun i H' => ∃ rs mss, FI st lg cl D H (m + 16 * i) rs H' ∧ LRows st lg D H' rs mss ∧ mss.length = i ∧ ∀ (y : Nat) (ns' : List Int), mss[y]? = some ns' → ns'.length = wd ∧ ∃ ns, nss[y]? = some ns ∧ ∀ (x : Nat) (n : Int), ns'[x]? = some n → lo ≤ n ∧ n ≤ hi ∧ ∃ k, ns[x]? = some k ∧ k ≤ n ∧ n ≤ k + (most : Int)) ⟨[], [], FI.new S hD, ⟨rfl, fun j v e => by simp at e⟩, rfl, fun y ns e => by simp at e⟩ (fun _ H' _ q' => by
      obtain ⟨_, _, f, _⟩ := q'
      exact SqT.of (pnt _ f.K)) ?_ ?_
    · rintro i x Hq Hr hi' ⟨rs, mss, f, lr, lm, hup⟩ ⟨rfl, hx⟩
      obtain ⟨b1, ns, rfl, hn, _⟩ := r0.2 i x hx
      have eb : Hr b1 = some (.tup (ns.map V.int)) := by
        obtain ⟨b', ns', z1, z2, z3⟩ := (r0.kp S f.K).2 i _ hx
        cases z1
        rw [hn] at z2
        cases z2
        exact z3
      have lw : ns.length = wd := pn.ws ns (List.mem_of_getElem? hn)
      have bn := hb ns (List.mem_of_getElem? hn)
      have hi' : i < ht := by omega
      refine ⟨rfl, ?_⟩
      dsimp only [tYes]
      rw [if_pos rfl]
      refine ⟨_, rfl, b1, rfl, ⟨_, SqT.of eb⟩, fun D2 hD2 => ?_⟩
      have nD2 := StAt.off3 f.S hD2
      have DD : D ≠ D2 := ne_of_none f.D hD2
      refine lc_it walk_tup (fun j H' => ∃ ms : List Int, FI st lg cl D2 Hr (m + 16 * i + j) (ms.map V.int) H' ∧ ms.length = j ∧ ∀ (x : Nat) (n : Int), ms[x]? = some n → lo ≤ n ∧ n ≤ hi ∧ ∃ k, ns[x]? = some k ∧ k ≤ n ∧ n ≤ k + (most : Int)) ⟨[], FI.new f.S hD2, rfl, fun x n e => by simp at e⟩ (fun _ H' _ q' => by
        obtain ⟨_, f2, _⟩ := q'
        exact SqT.of (Kp.tp f.S f2.K _ _ eb)) ?_ ?_
      · rintro j y Hq2 Hr2 hj ⟨ms, f2, lj, ok⟩ ⟨rfl, hy⟩
        obtain ⟨kk, hk, rfl⟩ : ∃ kk, ns[j]? = some kk ∧ V.int kk = y := by
          rw [List.getElem?_map] at hy
          cases e : ns[j]? with
          | none =>
            rw [e] at hy
            cases hy
          | some kk =>
            rw [e] at hy
            exact ⟨kk, rfl, Option.some.inj hy⟩
        have hkk := bn kk (List.mem_of_getElem? hk)
        have hj : j < wd := by rw [List.length_map] at hj; omega
        have kH := f.K.trans f2.K
        refine ⟨rfl, ?_⟩
        dsimp only [tYes]
        rw [if_pos rfl]
        refine ⟨_, rfl, _, rfl, _, rfl, _, rfl, _, _, rfl, rfl, st, lg, cl, most + 1, _, (by rw [Int.natCast_add]; rfl), by omega, Nat.lt_of_le_of_lt (show most + 1 ≤ 1001 by omega) (by decide), by omega, f2.S, fun r H3 hr3 S3 kp3 => ⟨_, _, rfl, rfl, sa, _, _, lo, hi, _, rfl, sc.keep fun o q => kp3 _ _ (kH _ _ q na.1 na.2) na.1 na.2, ?_⟩⟩
        have f3 := f2.kp nD2 S3 kp3
        have wi : kk ≤ withI lo hi (kk + ((r : Nat) : Int)) ∧ withI lo hi (kk + ((r : Nat) : Int)) ≤ kk + (most : Int) ∧ lo ≤ withI lo hi (kk + ((r : Nat) : Int)) ∧ withI lo hi (kk + ((r : Nat) : Int)) ≤ hi := by
          have := sc.l2
          rw [with_eq sc.l2]
          split
          · omega
          · split <;> omega
        generalize withI lo hi (kk + ((r : Nat) : Int)) = z at wi ⊢
        refine ⟨_, f3.D, by rw [List.length_map]; omega, ms ++ [z], ?_, by rw [List.length_append, lj]; rfl, fun x n hxn => ?_⟩
        · rw [List.map_append]
          exact (f3.push hD2 nD2).mono (by omega)
        · by_cases c : x < ms.length
          · rw [List.getElem?_append_left c] at hxn
            exact ok x n hxn
          · have hx' : x = ms.length := by
              have := (List.getElem?_eq_some_iff.mp hxn).1
              rw [List.length_append, List.length_singleton] at this
              omega
            subst hx'
            rw [List.getElem?_append_right (Nat.le_refl _), Nat.sub_self] at hxn
            cases hxn
            exact ⟨wi.2.2.1, wi.2.2.2, kk, by rw [lj]; exact hk, wi.1, wi.2.1⟩
      · rintro H2 ⟨ms, f2, lj, ok⟩
        rw [List.length_map, lw] at lj
        have f' := f.kp nD f2.S f2.K
        have := lr.1
        refine ⟨_, f'.D, by omega, rs ++ [.ref D2], mss ++ [ms], (f'.push hD nD).mono (by rw [List.length_map]; omega), ⟨by rw [List.length_append, List.length_append, lr.1]; rfl, fun y v e => ?_⟩, by rw [List.length_append, lm]; rfl, fun y ns' e => ?_⟩
        · by_cases c : y < rs.length
          · rw [List.getElem?_append_left c] at e
            obtain ⟨b, ns2, e1, e2, e3, n1, n2, n3⟩ := lr.2 y v e
            refine ⟨b, ns2, e1, by rw [List.getElem?_append_left (by omega)]; exact e2, (upd_ne n3).trans (f2.K _ _ e3 n1 n2), n1, n2, n3⟩
          · have hy : y = rs.length := by
              have := (List.getElem?_eq_some_iff.mp e).1
              rw [List.length_append, List.length_singleton] at this
              omega
            subst hy
            rw [List.getElem?_append_right (Nat.le_refl _), Nat.sub_self] at e
            cases e
            refine ⟨D2, ms, rfl, by rw [lr.1, List.getElem?_append_right (Nat.le_refl _), Nat.sub_self]; rfl, (upd_ne DD.symm).trans f2.D, nD2.1, nD2.2.1, DD.symm⟩
        · by_cases c : y < mss.length
          · rw [List.getElem?_append_left c] at e
            exact hup y ns' e
          · have hy : y = mss.length := by
              have := (List.getElem?_eq_some_iff.mp e).1
              rw [List.length_append, List.length_singleton] at this
              omega
            subst hy
            rw [List.getElem?_append_right (Nat.le_refl _), Nat.sub_self] at e
            cases e
            exact ⟨lj, ns, by rw [lm]; exact hn, ok⟩
    rintro H2 ⟨rs, mss, f, lr, lm, hup⟩
    rw [lvs] at lm f
    refine ⟨_, rfl, D, rfl, ⟨_, SqL.of f.D⟩, fun D3 hD3 => ?_⟩
    refine lc_it walk_list (fun i H' => ∃ rs', H' D3 = some (.lst rs') ∧ Same H2 H' ∧ Rows H' rs' (mss.take i)) ⟨[], upd_same, Same.new hD3, Rows.nil⟩ (fun _ H' _ q' => by
      obtain ⟨_, _, s', _⟩ := q'
      exact SqL.of (s' _ _ f.D)) ?_ ?_
    · rintro i x Hq Hr hi' ⟨rs', e, s', r⟩ ⟨rfl, hx⟩
      obtain ⟨b, ns, rfl, hn, eb, _⟩ := lr.2 i x hx
      refine ⟨rfl, ?_⟩
      dsimp only [tYes]
      rw [if_pos rfl]
      refine ⟨_, rfl, b, _, rfl, .inl ⟨SqL.of (s' _ _ eb), fun l hl => ?_⟩⟩
      have tl := Same.new (o := .tup (ns.map V.int)) hl
      have el : (upd Hr l (.tup (ns.map V.int))) l = some (.tup (ns.map V.int)) := upd_same
      have lr' := r.1
      have lt' : (mss.take i).length ≤ 16 := by rw [List.length_take]; omega
      refine ⟨rs', tl _ _ e, by omega, rs' ++ [.ref l], upd_same, putN (s'.trans tl) hD3, ?_⟩
      rw [List.take_add_one, hn]
      exact Rows.put (Rows.snoc (r.keep tl) el) (tl _ _ e)
    rintro H3 ⟨rs', e, s', r⟩
    rw [List.take_of_length_le (by rw [lr.1]; exact Nat.le_refl _)] at r
    refine ⟨D3, rs', rfl, .inl ⟨SqL.of e, fun l hl => ?_⟩⟩
    have tl := Same.new (o := .tup rs') hl
    have kF := f.K.trans (Kp.same (s'.trans tl))
    have each : ∀ ns ∈ mss, ∃ i, mss[i]? = some ns := fun ns hn => List.mem_iff_getElem?.mp hn
    refine k l mss _ (Rows.pn (r.keep tl) upd_same (by omega) (by omega) (by omega) (by omega) fun ns hn => ?_) lm (fun ns hn n hnn => ?_) (fun y x hy hx => ?_) ((f.S.same (s'.trans tl)).mono (by omega)) kF
    · obtain ⟨i, hi'⟩ := each ns hn
      exact (hup i ns hi').1
    · obtain ⟨i, hi'⟩ := each ns hn
      obtain ⟨x, hx⟩ := List.mem_iff_getElem?.mp hnn
      obtain ⟨_, ns0, _, q⟩ := hup i ns hi'
      exact ⟨(q x n hx).1, (q x n hx).2.1⟩
    · have hy' : y < mss.length := by omega
      obtain ⟨g1, ns0, g2, g3⟩ := hup y mss[y] (List.getElem?_eq_getElem hy')
      have e1 : mss.getD y [] = mss[y] := by rw [List.getD_eq_getElem?_getD, List.getElem?_eq_getElem hy']; rfl
      have hx' : x < mss[y].length := by rw [g1]; exact hx
      have e2 : gAt mss y x = mss[y][x] := by
        unfold gAt
        rw [e1, List.getD_eq_getElem?_getD, List.getElem?_eq_getElem hx']
        rfl
      obtain ⟨_, _, k0, g4, g5, g6⟩ := g3 x _ (List.getElem?_eq_getElem hx')
      have e3 : gAt nss y x = k0 := by
        unfold gAt
        rw [show nss.getD y [] = ns0 by rw [List.getD_eq_getElem?_getD, g2]; rfl, List.getD_eq_getElem?_getD, g4]
        rfl
      rw [e2, e3]
      exact ⟨g5, g6⟩
end
end K05
namespace K05
open PySem PySem.Spec PyProof.Rows L2 PySem.W LamX KA KW KU KL KT
/-! ### what repr shows of a block, it shows of nothing else -/
def jn : List (List Nat) → List Nat
  | [] => []
  | [a] => a
  | a :: b :: r => a ++ 44 :: 32 :: jn (b :: r)
theorem join_jn : ∀ ts : List Str, (Str.join ", " ts).cps.toList = jn (ts.map fun t => t.cps.toList)
  | [] => rfl
  | [a] => rfl
  | a :: b :: r => by
    have e : ((", " : String) : Str).cps.toList = [44, 32] := by decide
    rw [show Str.join ", " (a :: b :: r) = a ++ ((", " : String) : Str) ++ Str.join ", " (b :: r) from rfl, cps_toList_append, cps_toList_append, join_jn (b :: r), e]
    show a.cps.toList ++ [44, 32] ++ _ = a.cps.toList ++ 44 :: 32 :: _
    rw [List.append_assoc]
    rfl
theorem cut_at {k : Nat} : ∀ {a a' x x' : List Nat}, k ∉ a → k ∉ a' → a ++ k :: x = a' ++ k :: x' → a = a' ∧ x = x'
  | [], [], _, _, _, _, e => ⟨rfl, (List.cons.inj e).2⟩
  | [], c :: _, _, _, _, h, e => absurd ((List.cons.inj e).1 ▸ List.mem_cons_self) h
  | c :: _, [], _, _, h, _, e => absurd ((List.cons.inj e).1 ▸ List.mem_cons_self) h
  | c :: a, d :: a', x, x', h, h', e => by
    obtain ⟨e1, e2⟩ := List.cons.inj e
    obtain ⟨r1, r2⟩ := cut_at (fun z => h (List.mem_cons_of_mem _ z)) (fun z => h' (List.mem_cons_of_mem _ z)) e2
    exact ⟨by rw [e1, r1], r2⟩
theorem jn_inj : ∀ {ts us : List (List Nat)}, (∀ t ∈ ts, 44 ∉ t) → (∀ u ∈ us, 44 ∉ u) → ts ≠ [] → us ≠ [] → jn ts = jn us → ts = us
  | [], _, _, _, h, _, _ => absurd rfl h
  | _, [], _, _, _, h, _ => absurd rfl h
  | [a], [b], _, _, _, _, e => congrArg (fun x => [x]) e
  | [a], b :: c :: r, h, _, _, _, e => by
    have : 44 ∈ a := by
      rw [show a = b ++ 44 :: 32 :: jn (c :: r) from e]
      simp
    exact absurd this (h a List.mem_cons_self)
  | b :: c :: r, [a], _, h, _, _, e => by
    have : 44 ∈ a := by
      rw [show a = b ++ 44 :: 32 :: jn (c :: r) from e.symm]
      simp
    exact absurd this (h a List.mem_cons_self)
  | a :: b :: r, a' :: b' :: r', h, h', _, _, e => by
    obtain ⟨e1, e2⟩ := cut_at (h a List.mem_cons_self) (h' a' List.mem_cons_self) (show a ++ 44 :: (32 :: jn (b :: r)) = a' ++ 44 :: (32 :: jn (b' :: r')) from e)
    have := jn_inj (ts := b :: r) (us := b' :: r') (fun t ht => h t (List.mem_cons_of_mem _ ht)) (fun t ht => h' t (List.mem_cons_of_mem _ ht)) (by simp) (by simp) (List.cons.inj e2).2
    rw [e1, this]
def txt (d : PyData) : List Nat := d.shown.cps.toList
/-- a small number, True, False, None, or the text 2 -/
def At (d : PyData) : Prop := (∃ i : Int, d = .int i ∧ -8 ≤ i ∧ i ≤ 16) ∨ (∃ b, d = .bool b) ∨ d = .none ∨ d = .str "2"
theorem txt_two : txt (.str "2") = [39, 50, 39] := by decide +kernel
theorem at_free {d : PyData} (h : At d) : 44 ∉ txt d := by
  rcases h with ⟨i, rfl, _⟩ | ⟨b, rfl⟩ | rfl | rfl
  · exact shown_int_free' ⟨by decide, by decide⟩ i
  · exact shown_bool_free (by decide) b
  · exact shown_none_free (by decide)
  · rw [txt_two]
    decide
theorem int_txt : ∀ i ∈ List.range 25, ∀ j ∈ List.range 25, txt (.int ((i : Int) - 8)) = txt (.int ((j : Int) - 8)) → i = j := by decide +kernel
theorem at_int {d : PyData} {j : Int} (h : At d) (h1 : -8 ≤ j) (h2 : j ≤ 16) (e : txt d = txt (.int j)) : d = .int j := by
  rcases h with ⟨i, rfl, i1, i2⟩ | ⟨b, rfl⟩ | rfl | rfl
  · have := int_txt (i + 8).toNat (List.mem_range.mpr (by omega)) (j + 8).toNat (List.mem_range.mpr (by omega)) (by
      rw [show (((i + 8).toNat : Nat) : Int) - 8 = i by omega, show (((j + 8).toNat : Nat) : Int) - 8 = j by omega]
      exact e)
    rw [show i = j by omega]
  · have m : 101 ∈ txt (.bool b) := by
      cases b <;> decide +kernel
    rw [e] at m
    exact absurd m (shown_int_free' ⟨by decide, by decide⟩ j)
  · have m : 101 ∈ txt .none := by decide +kernel
    rw [e] at m
    exact absurd m (shown_int_free' ⟨by decide, by decide⟩ j)
  · have m : 39 ∈ txt (.str "2") := by rw [txt_two]; decide
    rw [e] at m
    exact absurd m (shown_int_free' ⟨by decide, by decide⟩ j)
theorem all_map : ∀ xs : List PyData, (PyData.shownAll xs).map (fun t => t.cps.toList) = xs.map txt
  | [] => rfl
  | x :: xs => by
    show txt x :: (PyData.shownAll xs).map (fun t => t.cps.toList) = txt x :: xs.map txt
    rw [all_map xs]
theorem txt_list (xs : List PyData) : ∃ r, txt (.list xs) = 91 :: r := by
  refine ⟨(Str.join ", " (PyData.shownAll xs)).cps.toList ++ [93], ?_⟩
  unfold txt
  rw [PyData.shown_list, cps_toList_append, cps_toList_append]
  rfl
theorem txt_tuple {xs : List PyData} (h : xs.length ≠ 1) : txt (.tuple xs) = 40 :: (jn (xs.map txt) ++ [41]) := by
  unfold txt
  rw [PyData.shown_tuple, if_neg (by simpa using h), cps_toList_append, cps_toList_append, join_jn, all_map]
  rfl
theorem txt_none : txt .none = [78, 111, 110, 101] := by decide +kernel
/-- what the law compares with its blocks -/
def Itm (d : PyData) : Prop := d = .none ∨ (∃ xs, d = .list xs) ∨ ∃ xs, d = .tuple xs ∧ xs.length ≠ 1 ∧ ∀ x ∈ xs, At x
structure Sml (b : Bk) : Prop where
  t : b.t ≤ 16
  l : b.l ≤ 16
  s : b.s ≤ 16
theorem at_nat {n : Nat} (h : n ≤ 16) : At (.int (n : Int)) := .inl ⟨n, rfl, by omega, by omega⟩
theorem txt_bk {d : PyData} {b : Bk} (h : Itm d) (s : Sml b) (e : txt d = txt (bkD b)) : d = bkD b := by
  have eb : txt (bkD b) = 40 :: (jn ([PyData.int (b.t : Int), .int (b.l : Int), .int (b.s : Int)].map txt) ++ [41]) := txt_tuple (by show ¬ 3 = 1; decide)
  rw [eb] at e
  rcases h with rfl | ⟨xs, rfl⟩ | ⟨xs, rfl, hl, ha⟩
  · rw [txt_none] at e
    cases e
  · obtain ⟨r, er⟩ := txt_list xs
    rw [er] at e
    cases e
  · rw [txt_tuple hl] at e
    have e2 := List.append_cancel_right (List.cons.inj e).2
    have nx : xs ≠ [] := fun z => by
      rw [z] at e2
      have : ([] : List Nat) = txt (.int (b.t : Int)) ++ 44 :: 32 :: jn ([PyData.int (b.l : Int), .int (b.s : Int)].map txt) := e2
      have := congrArg List.length this
      rw [List.length_append] at this
      simp at this
    have e3 := jn_inj (fun t ht => by
      obtain ⟨x, hx, rfl⟩ := List.mem_map.mp ht
      exact at_free (ha x hx)) (fun t ht => by
      obtain ⟨x, hx, rfl⟩ := List.mem_map.mp ht
      simp only [List.mem_cons, List.not_mem_nil, or_false] at hx
      rcases hx with rfl | rfl | rfl
      · exact at_free (at_nat s.t)
      · exact at_free (at_nat s.l)
      · exact at_free (at_nat s.s)) (by simpa using nx) (by simp) e2
    have l3 := congrArg List.length e3
    rw [List.length_map] at l3
    match xs, l3, ha, e3 with
    | [x, y, z], _, ha, e3 =>
      simp only [List.map_cons, List.map_nil, List.cons.injEq, and_true] at e3
      obtain ⟨a1, a2, a3⟩ := e3
      have st := s.t
      have sl := s.l
      have ss := s.s
      rw [at_int (ha x (by simp)) (by omega) (by omega) a1, at_int (ha y (by simp)) (by omega) (by omega) a2, at_int (ha z (by simp)) (by omega) (by omega) a3]
      rfl
theorem shown_bk {d : PyData} {b : Bk} (h : Itm d) (s : Sml b) : d.shown = (bkD b).shown ↔ d = bkD b :=
  ⟨fun e => txt_bk h s (by unfold txt; rw [e]), fun e => by rw [e]⟩
end K05
namespace K05
open PySem PySem.Spec PyProof.Rows L2 PySem.W LamX KA KW KU KL KT
open Evl (pss_cut tCut)
/-! ### data small enough to be shown and compared; repr of any value -/
structure Sm (n z : Nat) (d : PyData) : Prop where
  l : d.leavesShort 13 = true
  w : d.weight ≤ n
  s : d.showable = true
  n : d.hasDict = false
  z : d.depth ≤ z
  c : d.canLay0 = true
theorem small_fits {d : PyData} (hl : d.leavesShort 13 = true) (hw : d.weight ≤ 2 ^ 20) : d.shown.length ≤ sizeLine := PyData.shown_fits (by decide) (by decide) hl hw
theorem int_small {i : Int} (h1 : -65535 ≤ i) (h2 : i ≤ 65535) : (PyData.int i).leavesShort 13 = true ∧ (PyData.int i).weight ≤ 17 ∧ (PyData.int i).showable = true := by
  have hn : i.natAbs < 2 ^ 17 := by omega
  have hl : i.natAbs.log2 ≤ 17 := by
    rcases Nat.eq_zero_or_pos i.natAbs with z | z
    · rw [z]
      decide
    · exact Nat.le_of_lt ((Nat.log2_lt (by omega)).mpr hn)
  have hl2 : i.natAbs.log2 < 17 ∨ i.natAbs = 0 := by
    rcases Nat.eq_zero_or_pos i.natAbs with z | z
    · exact .inr z
    · exact .inl ((Nat.log2_lt (by omega)).mpr hn)
  refine ⟨?_, ?_, ?_⟩
  · simp only [PyData.leavesShort, decide_eq_true_eq]
    exact PyData.shown_int_le (by omega)
  · simp only [PyData.weight]
    split
    · omega
    · rename_i c
      rcases hl2 with q | q
      · omega
      · exact absurd (by simpa using q) c
  · simp only [PyData.showable, decide_eq_true_eq]
    omega
theorem Sm.mono {n m z y : Nat} {d : PyData} (h : Sm n z d) (h1 : n ≤ m) (h2 : z ≤ y) : Sm m y d := ⟨h.l, Nat.le_trans h.w h1, h.s, h.n, Nat.le_trans h.z h2, h.c⟩
theorem sm_int {i : Int} (h1 : -65535 ≤ i) (h2 : i ≤ 65535) : Sm 17 0 (.int i) := by
  obtain ⟨a, b, c⟩ := int_small h1 h2
  exact ⟨a, b, c, rfl, Nat.le_refl _, rfl⟩
theorem sm_bool {b : Bool} : Sm 17 0 (.bool b) := ⟨rfl, Nat.zero_le _, rfl, rfl, Nat.le_refl _, rfl⟩
theorem sm_all {n z : Nat} : ∀ ds : List PyData, (∀ d ∈ ds, Sm n z d) → PyData.leavesShortAll 13 ds = true ∧ PyData.weightAll ds ≤ (n + 1) * ds.length ∧ PyData.showableAll ds = true ∧ PyData.hasDictAll ds = false ∧ PyData.depthAll ds ≤ z ∧ PyData.canLayAll0 ds = true
  | [], _ => ⟨rfl, Nat.zero_le _, rfl, rfl, Nat.zero_le _, rfl⟩
  | d :: r, h => by
    obtain ⟨a, b, c, e, f, g⟩ := sm_all r fun x hx => h x (List.mem_cons_of_mem _ hx)
    obtain ⟨a', b', c', e', f', g'⟩ := h d List.mem_cons_self
    refine ⟨by simp [PyData.leavesShortAll, a, a'], ?_, by simp [PyData.showableAll, c, c'], by simp [PyData.hasDictAll, e, e'], ?_, by simp [PyData.canLayAll0, g, g']⟩
    · simp only [PyData.weightAll, List.length_cons, Nat.mul_add, Nat.mul_one]
      omega
    · simp only [PyData.depthAll]
      omega
theorem sm_tuple {n z k : Nat} {ds : List PyData} (h : ∀ d ∈ ds, Sm n z d) (hl : ds.length ≤ k) : Sm ((n + 1) * k) (z + 1) (.tuple ds) := by
  obtain ⟨a, b, c, e, f, g⟩ := sm_all ds h
  have hk : (n + 1) * ds.length ≤ (n + 1) * k := Nat.mul_le_mul_left _ hl
  refine ⟨by simpa only [PyData.leavesShort] using a, ?_, by simpa only [PyData.showable] using c, by simpa only [PyData.hasDict] using e, ?_, by simpa only [PyData.canLay0] using g⟩
  · simp only [PyData.weight]
    omega
  · simp only [PyData.depth]
    omega
theorem sm_list {n z k : Nat} {ds : List PyData} (h : ∀ d ∈ ds, Sm n z d) (hl : ds.length ≤ k) : Sm ((n + 1) * k) (z + 1) (.list ds) := by
  obtain ⟨a, b, c, e, f, g⟩ := sm_all ds h
  have hk : (n + 1) * ds.length ≤ (n + 1) * k := Nat.mul_le_mul_left _ hl
  refine ⟨by simpa only [PyData.leavesShort] using a, ?_, by simpa only [PyData.showable] using c, by simpa only [PyData.hasDict] using e, ?_, by simpa only [PyData.canLay0] using g⟩
  · simp only [PyData.weight]
    omega
  · simp only [PyData.depth]
    omega
theorem Sm.repr {n z : Nat} {d : PyData} (h : Sm n z d) (h1 : n ≤ 2 ^ 20) (h2 : z ≤ 60) : d.showable = true ∧ d.hasDict = false ∧ d.depth ≤ 60 ∧ d.shown.length ≤ sizeLine := ⟨h.s, h.n, Nat.le_trans h.z h2, small_fits h.l (Nat.le_trans h.w h1)⟩
theorem Sm.shaped {n z : Nat} {d : PyData} (h : Sm n z d) (h2 : z ≤ 60) : SeqAt.shaped d = true := by
  unfold SeqAt.shaped
  rw [h.c, Bool.true_and, decide_eq_true_eq]
  exact Nat.le_trans h.z (Nat.le_trans h2 (by decide))
theorem sm_none : Sm 17 0 .none := ⟨rfl, Nat.zero_le _, rfl, rfl, Nat.le_refl _, rfl⟩
theorem sm_two : Sm 17 0 (.str "2") := ⟨by decide +kernel, by decide +kernel, rfl, rfl, Nat.le_refl _, by decide +kernel⟩
theorem sm_at {d : PyData} (h : At d) : Sm 17 0 d := by
  rcases h with ⟨i, rfl, h1, h2⟩ | ⟨b, rfl⟩ | rfl | rfl
  · exact sm_int (by omega) (by omega)
  · exact sm_bool
  · exact sm_none
  · exact sm_two
/-- a small item: None, or up to four small values in a list or a tuple -/
def ItS (d : PyData) : Prop := d = .none ∨ (∃ xs, d = .list xs ∧ xs.length ≤ 4 ∧ ∀ x ∈ xs, At x) ∨ ∃ xs, d = .tuple xs ∧ xs.length ≠ 1 ∧ xs.length ≤ 4 ∧ ∀ x ∈ xs, At x
theorem ItS.itm {d : PyData} (h : ItS d) : Itm d := by
  rcases h with z | ⟨xs, z, _⟩ | ⟨xs, z, a, _, b⟩
  · exact .inl z
  · exact .inr (.inl ⟨xs, z⟩)
  · exact .inr (.inr ⟨xs, z, a, b⟩)
theorem ItS.sm {d : PyData} (h : ItS d) : Sm 72 1 d := by
  rcases h with rfl | ⟨xs, rfl, l, a⟩ | ⟨xs, rfl, _, l, a⟩
  · exact sm_none.mono (by decide) (by decide)
  · exact sm_list (n := 17) (z := 0) (k := 4) (fun d hd => sm_at (a d hd)) l
  · exact sm_tuple (n := 17) (z := 0) (k := 4) (fun d hd => sm_at (a d hd)) l
theorem its_bk {b : Bk} (s : Sml b) : ItS (bkD b) := .inr (.inr ⟨_, rfl, by show ¬ 3 = 1; decide, by show 3 ≤ 4; decide, fun x hx => by
  simp only [List.mem_cons, List.not_mem_nil, or_false] at hx
  rcases hx with rfl | rfl | rfl
  · exact at_nat s.t
  · exact at_nat s.l
  · exact at_nat s.s⟩)
theorem vb_sml {h w : Nat} {b : Bk} (v : Vb h w b) (hh : h ≤ 16) (hw : w ≤ 16) : Sml b := by
  have := v.lt
  have := v.ll
  have := v.s
  exact ⟨by omega, by omega, by omega⟩
/-- repr of data, or of None -/
def rReprA (K : PySem.W.Frag) : List V → Hp → VK → Prop := fun xs H Q => ∃ (x : V) (d : PyData), xs = [x] ∧ ((∃ p, x = .ref p) ∨ x = .non) ∧ Dp K H x d ∧ d.showable = true ∧ d.hasDict = false ∧ d.depth ≤ 60 ∧ d.shown.length ≤ sizeLine ∧ Q (.str d.shown) H
theorem call_reprA {X : Cx} {k : Nat} (hg : X.A.guards = some []) (hr : Room k X.A) : CallR X (.builtin "repr") (rReprA X.K) := by
  intro pins s σ H xs us Q I r h
  obtain ⟨x, d, rfl, kind, hd, hs, hn, hz, hl, q⟩ := h
  rcases kind with ⟨p, rfl⟩ | rfl
  · exact call_repr hg hr pins s σ H [.ref p] us Q I r ⟨p, d, rfl, hd, hs, hn, hz, hl, q⟩
  · obtain ⟨u1, rfl, r1⟩ := vals1 r
    cases (show u1 = Value.none from r1)
    cases hd
    refine PySem.P.repr_of_none ⟨.str "None", H, I.tok _, ⟨_, rfl⟩, ?_⟩
    rw [PyData.shown_none] at q
    exact q
theorem sm_repr {K : PySem.W.Frag} {H : Hp} {x : V} {d : PyData} {n z : Nat} {Q : VK} (kind : (∃ p, x = .ref p) ∨ x = .non) (hd : Dp K H x d) (s : Sm n z d) (h1 : n ≤ 2 ^ 20) (h2 : z ≤ 60) (q : Q (.str d.shown) H) : rReprA K [x] H Q := by
  obtain ⟨a, b, c, e⟩ := s.repr h1 h2
  exact ⟨x, d, rfl, kind, hd, a, b, c, e, q⟩
end K05
namespace KRY
open PySem PySem.Spec PyProof.Rows L2 PySem.W KA KU
/-! ### repr of a value of some kind that an error may tell of -/
inductive YT (H : Hp) : V → Str → Prop where
  | non : YT H .non "None"
  | zero : YT H (.int 0) "0"
  | str (y : Str) (h : (reprText y).length ≤ sizeLine) : YT H (.str y) (reprText y)
  | tup {a : Addr} (y : Str) (e : H a = some (.tup [.str y])) (h : (PyData.tuple [.str y]).shown.length ≤ sizeLine) : YT H (.ref a) (PyData.tuple [.str y]).shown
  | lst {a : Addr} (y : Str) (e : H a = some (.lst [.str y])) (h : (PyData.list [.str y]).shown.length ≤ sizeLine) : YT H (.ref a) (PyData.list [.str y]).shown
  | dK {a : Addr} (e : H a = some (.dK [])) : YT H (.ref a) (PyData.dict []).shown
def rReprY : List V → Hp → VK → Prop := fun xs H Q => ∃ (x : V) (s : Str), xs = [x] ∧ YT H x s ∧ Q (.str s) H
theorem call_reprY {X : Cx} {k : Nat} (hg : X.A.guards = some []) (hr : Room k X.A) : CallR X (.builtin "repr") rReprY := by
  intro pins s σ H xs us Q I r h
  obtain ⟨x, t, rfl, y, q⟩ := h
  obtain ⟨u1, rfl, r1⟩ := vals1 r
  have hu := hr.un
  cases y with
  | non =>
    cases (show u1 = Value.none from r1)
    exact PySem.P.repr_of_none ⟨.str "None", H, I.tok _, ⟨_, rfl⟩, q⟩
  | zero =>
    obtain ⟨k, rfl⟩ := r1
    exact PySem.P.repr_of_int (by decide) ⟨.str "0", H, I.tok _, ⟨_, rfl⟩, q⟩
  | str y h =>
    obtain ⟨k, rfl⟩ := r1
    exact PySem.P.repr_of_str ⟨.str (reprText y), H, I.tok _, ⟨_, rfl⟩, q⟩ h
  | tup y e h =>
    cases (show u1 = Value.ref _ from r1)
    obtain ⟨as, rd⟩ := Dp.reads I (.tuple [.str y]) _ _ (.tup (SqT.of e) (.cons (.str y) .nil)) rfl
    refine repr_of_reads' rd rfl (fun z => by cases z) hg (by show X.A.units + ((PyData.tuple [.str y]).depth + 1) < cLine; simp [PyData.depth, PyData.depthAll]; omega) (fun _ _ e => e) (fun h' u tk hk => ?_) h
    exact ⟨.str _, H, I.kept (t' := tk) hk, ⟨_, rfl⟩, q⟩
  | lst y e h =>
    cases (show u1 = Value.ref _ from r1)
    obtain ⟨as, rd⟩ := Dp.reads I (.list [.str y]) _ _ (.lst (SqL.of e) (.cons (.str y) .nil)) rfl
    refine repr_of_reads' rd rfl (fun z => by cases z) hg (by show X.A.units + ((PyData.list [.str y]).depth + 1) < cLine; simp [PyData.depth, PyData.depthAll]; omega) (fun _ _ e => e) (fun h' u tk hk => ?_) h
    exact ⟨.str _, H, I.kept (t' := tk) hk, ⟨_, rfl⟩, q⟩
  | dK e =>
    cases (show u1 = Value.ref _ from r1)
    obtain ⟨_, hsys, vs, rv, o, es, ep, ho, ed, hdd, ko, pr, nd⟩ := I.hok _ _ e
    cases rv
    have ee : es = #[] := by
      obtain ⟨l⟩ := es
      have pr : Pairs _ l [] := pr
      cases pr
      rfl
    subst ee
    have rd : Reads s.heap (.ref _) (.dict []) _ := Reads.dict ho ed.1 hdd .nil .nil
    refine repr_of_reads' rd rfl (fun _ m => ?_) hg (by show X.A.units + ((PyData.dict []).depth + 1) < cLine; show X.A.units + ((0 + 1) + 1) < cLine; omega) (fun _ _ e => e) (fun h' u tk hk => ?_) (by decide +kernel)
    · simp at m
      subst m
      simp at hsys
    · exact ⟨.str _, H, I.kept (t' := tk) hk, ⟨_, rfl⟩, q⟩
end KRY
namespace K05
open PySem PySem.Spec PyProof.Rows L2 PySem.W LamX KA KW KU KL
open Evl (pss_cut tCut)
/-- the code object of a def that makes lambdas, and its table -/
structure LamT (K : PySem.W.Frag) (x : Str) (st : Stmt) (a : Addr) (d : FuncData) (c P : Addr) : Prop where
  ex : ∃ (oc : Value) (od : Option Addr) (kV doc pm : Value) (an : Option Addr) (ct : Value) (osl : Array (Option Value)),
    d = PySem.W.fnOf x x (defArgs st) (defBody st) (defScope st) .none kV doc pm an (.ref c) ct ∧ K.lookup a = some ⟨oc, od, .func d, osl⟩ ∧ PySem.W.codeIn K (.ref c) x = true
/-- all but the state and the tables stands as it stood -/
def KpN (st lg : Addr) (H H' : Hp) : Prop := ∀ b o, H b = some o → b ≠ st → b ≠ lg → (∀ ps, o ≠ .tbl ps) → H' b = some o
theorem KpN.refl {st lg : Addr} {H : Hp} : KpN st lg H H := fun _ _ h _ _ _ => h
theorem KpN.trans {st lg : Addr} {H H1 H2 : Hp} (a : KpN st lg H H1) (b : KpN st lg H1 H2) : KpN st lg H H2 := fun c o h n1 n2 n3 => b c o (a c o h n1 n2 n3) n1 n2 n3
theorem KpN.kp {st lg : Addr} {H H1 : Hp} (a : Kp st lg H H1) : KpN st lg H H1 := fun c o h n1 n2 _ => a c o h n1 n2
theorem KpN.ext {st lg : Addr} {H H1 : Hp} (a : ExtN H H1) : KpN st lg H H1 := fun c o h _ _ n => a c o h n
theorem KpN.new {st lg p : Addr} {H : Hp} {o : HO} (h : H p = none) : KpN st lg H (upd H p o) := .kp (.same (Same.new h))
abbrev lamQ : Str := (envOfC "_law_refused" (defScope s__law_refused) 0 0 .none).qual ++ "<lambda>"
abbrev tabs (Pt : Addr) : List (Addr × Str) := [(Pt, lamQ)]
theorem tabs_kp {st lg cl : Addr} {n : Nat} {L : List (Addr × Str)} {H H' : Hp} (t : Tabs L H) (S : StAt H st lg cl n) (e : Kp st lg H H') : Tabs L H' := by
  obtain ⟨_, _, _, _, S', _⟩ := S
  intro p hp
  obtain ⟨ps, h1, h2, h3⟩ := t p hp
  refine ⟨ps, e _ _ h1 (ne_of h1 S'.d (by intro z; cases z)) (ne_of h1 S'.l (by intro z; cases z)), h2, fun pos cv hc => ?_⟩
  obtain ⟨c, e1, e2⟩ := h3 pos cv hc
  exact ⟨c, e1, e _ _ e2 (ne_of e2 S'.d (by intro z; unfold CodeO at z; cases z)) (ne_of e2 S'.l (by intro z; unfold CodeO at z; cases z))⟩
theorem stAt_ext {H H' : Hp} {st lg cl : Addr} {n : Nat} (S : StAt H st lg cl n) (e : ExtN H H') : StAt H' st lg cl n := by
  obtain ⟨a, b, c, d, s, h⟩ := S
  exact ⟨a, b, c, d, { s with d := e _ _ s.d (fun _ z => by cases z), l := e _ _ s.l (fun _ z => by cases z), c := e _ _ s.c (fun _ z => by cases z) }, h⟩
theorem exV_tbl {c : Value} {d : Option Addr} {a : Addr} (ps : Array Value) : ExV c d a ≠ .tbl ps := fun z => by
  unfold ExV at z
  cases z
theorem exV_lst {c : Value} {d : Option Addr} {a : Addr} (xs : List V) : ExV c d a ≠ .lst xs := fun z => by
  unfold ExV at z
  cases z
theorem kit_self {K : PySem.W.Frag} {C : Addr} : PySem.W.kitOne K (.ref C) (.ref C) = some true := by
  unfold PySem.W.kitOne
  rw [if_pos (by simp)]
/-- the law's code object, and its table: FnG of a def that makes lambdas -/
theorem fnG_ofC {CX : CXT} {P : Program} {w : World} {K : PySem.W.Frag} {mg : Str → Option Value} {base : Heap} {k : Nat} {f c Pt : Addr} {x : Str} {st : Stmt} {fd : FuncData} {N ps : List Str} {sp : Sp} (LT : LamT K x st f fd c Pt) (S : FnScope N ps (defScope st))
    (len : ∀ vs H Q E, sp vs H Q E → vs.length = ps.length)
    (hbody : ∀ (A : Around) (outer : List Env) (s : Shared) (H : Hp) (vs : List V) (Q : VK) (E : XK), Room k (A.deeper (envOfC x (defScope st) s.heap.objs.size f (.ref c))) → A.guards = some [] → sp vs H Q E →
      ∃ t, PSs (cxOf CX P w K mg base N x (defScope st) f (.ref c) A outer s H E) (defBody st) t ∧ t { nx := fun _ H' => Q .non H', rt := Q } (L2.start N vs) H) : FnG P w K mg base CX (k + 1) f fd ps sp := by
  obtain ⟨oc, od, kV, doc, pm, an, ct, osl, rfl, lk, hcd⟩ := LT.ex
  exact ⟨len, fun A outer s H args us vs Q E hr hg e0 hb r h => run_ofS lk hcd S hr e0 hb r (len _ _ _ _ h) fun hr' => hbody A outer s H vs Q E hr' hg h⟩
/-! ### the lambdas of _law_refused -/
def lamP : Expr → Arguments
  | .Lambda p _ _ _ => p
  | _ => ⟨[], [], none, [], [], none, []⟩
def lamB : Expr → Expr
  | .Lambda _ b _ _ => b
  | e => e
def lamSc : Expr → Scope
  | .Lambda _ _ s _ => s
  | _ => defScope s__law_refused
def itOf : Stmt → Expr
  | .For _ it _ _ _ => it
  | _ => .Constant .none 0 ⟨0, 0, 0, 0⟩
def valOf : Stmt → Expr
  | .Assign _ v _ => v
  | _ => .Constant .none 0 ⟨0, 0, 0, 0⟩
def elt : Expr → Nat → Expr
  | .List es _, i => es.getD i (.Constant .none 0 ⟨0, 0, 0, 0⟩)
  | e, _ => e
def rgt : Expr → Expr
  | .BinOp _ _ r _ => r
  | e => e
def stR (i : Nat) : Stmt := (defBody s__law_refused).getD i (.Pass ⟨0, 0, 0, 0⟩)
theorem ok_nil {X : Cx} {kb : Nat} : ∀ l ∈ ([] : List LamD), LamOk X kb l := fun _ h => nomatch h
theorem ok_cons {X : Cx} {kb : Nat} {l : LamD} {ls : List LamD} (h : LamOk X kb l) (r : ∀ l ∈ ls, LamOk X kb l) : ∀ x ∈ l :: ls, LamOk X kb x := fun x hx => by
  rcases List.mem_cons.mp hx with e | e
  · rw [e]
    exact h
  · exact r x e
/-- what stands while lambdas are called -/
structure Bun (Pt st lg cl : Addr) (m : Nat) (H0 H : Hp) (fa : Addr) (F : HO) : Prop where
  S : StAt H st lg cl m
  Tb : Tabs (tabs Pt) H
  F : H fa = some F
  k : KpN st lg H0 H
theorem Bun.same {Pt st lg cl : Addr} {m : Nat} {H0 H H' : Hp} {fa : Addr} {F : HO} (B : Bun Pt st lg cl m H0 H fa F) (e : Same H H') : Bun Pt st lg cl m H0 H' fa F := ⟨B.S.same e, B.Tb.ext e, e _ _ B.F, B.k.trans (.kp (.same e))⟩
theorem Bun.ext {Pt st lg cl : Addr} {m : Nat} {H0 H H' : Hp} {fa : Addr} {F : HO} (B : Bun Pt st lg cl m H0 H fa F) (nt : ∀ tb, F ≠ .tbl tb) (e : ExtN H H') (T : Tabs (tabs Pt) H') : Bun Pt st lg cl m H0 H' fa F := ⟨stAt_ext B.S e, T, e _ _ B.F nt, B.k.trans (.ext e)⟩
/-- a lambda stands -/
structure Lm (H : Hp) (f c' : Addr) (L : HO) (q : Str) : Prop where
  f : H f = some L
  c : H c' = some (CodeO c' q)
theorem Lm.same {H H' : Hp} {f c' : Addr} {L : HO} {q : Str} (l : Lm H f c' L q) (e : Same H H') : Lm H' f c' L q := ⟨e _ _ l.f, e _ _ l.c⟩
theorem Lm.ext {H H' : Hp} {f c' : Addr} {L : HO} {q : Str} (l : Lm H f c' L q) (nt : ∀ ps, L ≠ .tbl ps) (e : ExtN H H') : Lm H' f c' L q := ⟨e _ _ l.f nt, e _ _ l.c codeO_ne⟩
/-- a further lambda is made -/
theorem lam_step {Pt st lg cl : Addr} {m : Nat} {H0 H Ha : Hp} {fa f1 c1 : Addr} {F L1 : HO} {q : Str} (B : Bun Pt st lg cl m H0 H fa F) (nt : ∀ tb, F ≠ .tbl tb) (ea : ExtN H Ha) (Ta : Tabs (tabs Pt) Ha) (hf1 : Ha f1 = none) (hc1 : Ha c1 = some (CodeO c1 q)) :
    Bun Pt st lg cl m H0 (upd Ha f1 L1) fa F ∧ Lm (upd Ha f1 L1) f1 c1 L1 q := ⟨(B.ext nt ea Ta).same (Same.new hf1), upd_same, (Same.new hf1) _ _ hc1⟩
abbrev e60 : Expr := elt (itOf (stR 6)) 0
abbrev e61 : Expr := elt (itOf (stR 6)) 1
abbrev e62 : Expr := elt (itOf (stR 6)) 2
abbrev e70 : Expr := elt (itOf (stR 7)) 0
abbrev e71 : Expr := elt (itOf (stR 7)) 1
abbrev e72 : Expr := elt (itOf (stR 7)) 2
abbrev e90 : Expr := elt (itOf (stR 9)) 0
abbrev e91 : Expr := elt (itOf (stR 9)) 1
theorem KpN.tp {st lg cl : Addr} {m : Nat} {H H' : Hp} (S : StAt H st lg cl m) (k : KpN st lg H H') : Tp H H' := fun b xs e => by
  obtain ⟨_, _, _, _, S', _⟩ := S
  exact k b _ e (ne_of e S'.d (by intro z; cases z)) (ne_of e S'.l (by intro z; cases z)) (fun _ z => by cases z)
theorem Sv.kn {C st lg cl : Addr} {n : Nat} {H H' : Hp} {x : V} {h w : Nat} {lo hi : Int} (p : Sv C H x h w lo hi) (S : StAt H st lg cl n) (k : KpN st lg H H') : Sv C H' x h w lo hi := by
  obtain ⟨a, dx, rfl, e, q⟩ := p
  obtain ⟨_, _, _, _, S', _⟩ := S
  exact ⟨a, dx, rfl, k _ _ e (ne_of e S'.d (by intro z; cases z)) (ne_of e S'.l (by intro z; cases z)) (fun _ z => by cases z), q⟩
theorem Rows.tp {H H' : Hp} {rs : List V} {mss : List (List Int)} (r : Rows H rs mss) (t : Tp H H') : Rows H' rs mss := ⟨r.1, fun j v e => by
  obtain ⟨b, ns, e1, e2, e3⟩ := r.2 j v e
  exact ⟨b, ns, e1, e2, t _ _ e3⟩⟩
theorem Pn.tp {H H' : Hp} {a : Addr} {nss : List (List Int)} {w : Nat} (p : Pn H a nss w) (t : Tp H H') : Pn H' a nss w := by
  obtain ⟨vs, e, r⟩ := p.rows
  exact Rows.pn (r.tp t) (t _ _ e) p.h1 p.h2 p.w1 p.w2 p.ws
/-- what stands in _law_refused -/
structure RB (C Pt st lg cl fa p pa : Addr) (h w : Nat) (lo hi : Int) (b : Bk) (nss : List (List Int)) (m : Nat) (H : Hp) : Prop where
  S : StAt H st lg cl m
  Tb : Tabs (tabs Pt) H
  sv : Sv C H (.ref fa) h w lo hi
  hp : H p = some (.tup (bkV b))
  pn : Pn H pa nss w
section
variable {C Pt st lg cl fa p pa : Addr} {h w : Nat} {lo hi : Int} {b : Bk} {nss : List (List Int)} {m m' : Nat} {H H' : Hp}
theorem RB.kn (B : RB C Pt st lg cl fa p pa h w lo hi b nss m H) (k : KpN st lg H H') (S : StAt H' st lg cl m') (Tb : Tabs (tabs Pt) H') : RB C Pt st lg cl fa p pa h w lo hi b nss m' H' :=
  ⟨S, Tb, B.sv.kn B.S k, KpN.tp B.S k _ _ B.hp, B.pn.tp (KpN.tp B.S k)⟩
theorem RB.kp (B : RB C Pt st lg cl fa p pa h w lo hi b nss m H) (k : Kp st lg H H') (S : StAt H' st lg cl m') : RB C Pt st lg cl fa p pa h w lo hi b nss m' H' := B.kn (.kp k) S (tabs_kp B.Tb B.S k)
theorem RB.same (B : RB C Pt st lg cl fa p pa h w lo hi b nss m H) (k : Same H H') : RB C Pt st lg cl fa p pa h w lo hi b nss m H' := B.kp (.same k) (B.S.same k)
theorem lam_stepR {f1 c1 : Addr} {L1 : HO} {q : Str} (B : RB C Pt st lg cl fa p pa h w lo hi b nss m H) (ea : ExtN H H') (Ta : Tabs (tabs Pt) H') (hf1 : H' f1 = none) (hc1 : H' c1 = some (CodeO c1 q)) :
    RB C Pt st lg cl fa p pa h w lo hi b nss m (upd H' f1 L1) ∧ Lm (upd H' f1 L1) f1 c1 L1 q ∧ KpN st lg H (upd H' f1 L1) := ⟨(B.kn (.ext ea) (stAt_ext B.S ea) Ta).same (Same.new hf1), ⟨upd_same, (Same.new hf1) _ _ hc1⟩, (KpN.ext ea).trans (.new hf1)⟩
end
/-! ### values that stay -/
def NoN (st lg : Addr) (H : Hp) (x : V) : Prop := ∀ H', KpN st lg H H' → NoS H' x
def WrN (K : PySem.W.Frag) (h w : Nat) (st lg : Addr) (H : Hp) (y : V) : Prop := ∃ o, blkB h w o = false ∧ ∀ H', KpN st lg H H' → Rw K H' y o
def BadV (b : Bk) (st lg : Addr) (H : Hp) (x : V) : Prop := KEQ.inY x (modesX b) = false ∧ ∃ s, ∀ H', KpN st lg H H' → Sy H' x ∧ KRY.YT H' x s
def ThN (K : PySem.W.Frag) (st lg : Addr) (H : Hp) (x : V) (op : Option (List (Option (List V)))) : Prop := ∀ H', KpN st lg H H' → Th K H' x op
section
variable {K : PySem.W.Frag} {st lg : Addr} {H H' : Hp} {x : V} {h w : Nat} {b : Bk} {op : Option (List (Option (List V)))}
theorem NoN.kn (q : NoN st lg H x) (k : KpN st lg H H') : NoN st lg H' x := fun H2 k2 => q H2 (k.trans k2)
theorem NoN.at_ (q : NoN st lg H x) : NoS H x := q H .refl
theorem WrN.kn (q : WrN K h w st lg H x) (k : KpN st lg H H') : WrN K h w st lg H' x := by
  obtain ⟨o, e, q⟩ := q
  exact ⟨o, e, fun H2 k2 => q H2 (k.trans k2)⟩
theorem BadV.kn (q : BadV b st lg H x) (k : KpN st lg H H') : BadV b st lg H' x := by
  obtain ⟨e, s, q⟩ := q
  exact ⟨e, s, fun H2 k2 => q H2 (k.trans k2)⟩
theorem ThN.kn (q : ThN K st lg H x op) (k : KpN st lg H H') : ThN K st lg H' x op := fun H2 k2 => q H2 (k.trans k2)
end
/-- which modes stand -/
def standB (b : Bk) : Md → Bool
  | .flat => true
  | .left => decide (0 < b.l)
  | .up => decide (0 < b.t)
  | .middle => decide (0 < b.l) && decide (0 < b.t)
  | .mean => decide (0 < b.l) || decide (0 < b.t)
theorem stands_val {b : Bk} {k : Nat} {m : Md} : valV (standsD b k) (kS m.s) = some (.bl (standB b m)) := by
  cases m <;> rfl
theorem standB_iff {b : Bk} {m : Md} : standB b m = true ↔ m.ok b := by
  cases m with
  | flat => exact ⟨fun _ => trivial, fun _ => rfl⟩
  | left => exact decide_eq_true_iff
  | up => exact decide_eq_true_iff
  | middle =>
    show (decide (0 < b.l) && decide (0 < b.t)) = true ↔ (0 < b.l ∧ 0 < b.t)
    rw [Bool.and_eq_true, decide_eq_true_iff, decide_eq_true_iff]
  | mean =>
    show (decide (0 < b.l) || decide (0 < b.t)) = true ↔ (0 < b.l ∨ 0 < b.t)
    rw [Bool.or_eq_true, decide_eq_true_iff, decide_eq_true_iff]
theorem not_mode {b : Bk} {z : Str} (h : ∀ m : Md, z ≠ m.s) : KEQ.inY (.str z) (modesX b) = false := by
  cases e : KEQ.inY (.str z) (modesX b) with
  | false => rfl
  | true =>
    obtain ⟨m, e2, _⟩ := inY_iff.mp e
    exact absurd (V.str.inj e2) (h m)
theorem not_ok {b : Bk} {m : Md} (h : standB b m = false) : KEQ.inY (.str m.s) (modesX b) = false := by
  cases e : KEQ.inY (.str m.s) (modesX b) with
  | false => rfl
  | true =>
    obtain ⟨m2, e2, ok⟩ := inY_iff.mp e
    have : m = m2 := by
      have := V.str.inj e2
      revert this
      cases m <;> cases m2 <;> decide
    subst this
    rw [standB_iff.mpr ok] at h
    cases h
/-- the lambda in the call itself, beside all tables -/
theorem pe_caught1 {X : Cx} (T : Top X.K X.mg) {TT : List (Addr × Str)} {c Pt : Addr} {k : Nat} {params : Arguments} {body : Expr} {scope : Scope} {t : XK → TE} {p lpos pos : Pos} (TB : TabB X.base X.mg c Pt) (hcode : X.env.code = .ref c) (hr : Room (k + 2) X.A) (hg : Gl X "_law_caught")
    (mem : (Pt, X.env.qual ++ "<lambda>") ∈ TT) (one : ∀ q ∈ TT, q.1 = Pt → q.2 = X.env.qual ++ "<lambda>") (L : LamS X.env.scope scope)
    (hdef : defaultsOf params X.env = ([], [])) (hbind : ∀ (q : Str) (cl : List (Str × Addr)) (pm cv ctv : Value), bindArgs (PySem.W.kla_fn "<lambda>" q params body scope cl pm cv ctv) ⟨[], []⟩ = pure [])
    (hbody : ∀ (A : Around) (outer : List Env) (s : Shared) (H : Hp) (E : XK) (f c' : Addr), Room k (A.deeper (lamEnv X scope s.heap.objs.size f c')) → PE (lamCx X A outer s H E scope f c') body (t E)) :
    PE X (.Call (.Name "_law_caught" p) [.Lambda params body scope lpos] [] pos) (tLam TT (TCaught X.K T.reel.C) t) := by
  obtain ⟨oc, od, kV, doc, pm, an, cdv, ct, osl, ed, lk, hcd⟩ := T._law_caught.f.ex
  have hb := bd__law_caught T
  rw [ed] at lk hb
  exact pe_lamcall (T := TT) hg T._law_caught.m T._law_caught.f.kp lk hcd hb sc__law_caught rfl (.inl rfl)
    (caught_gives sc__law_caught rfl rfl rfl rfl T.reel.g (by decide) (by decide) (by decide) (by decide) (by decide)) TB hcode mem one hr L hdef hbind hbody
theorem caught_err1 {K : PySem.W.Frag} {mg : Str → Option Value} (T : Top K mg) {n : Str} (X : ExcT K mg n T.reel.C) {Pt st lg cl : Addr} {m m' : Nat} {t : XK → TE} {σ : L2.St} {H : Hp} {Q : VK} (hT : Tabs (tabs Pt) H) (S : StAt H st lg cl m)
    (A : ∀ (H1 : Hp) (E : XK) (Q1 : VK), ExtN H H1 → StAt H1 st lg cl m → (∀ H2, Kp st lg H1 H2 → StAt H2 st lg cl m' → E (.ref X.C) none H2) → t E σ H1 Q1)
    (k : ∀ a H', StAt H' st lg cl m' → Tabs (tabs Pt) H' → KpN st lg H H' → H' a = some (ExV (.ref X.C) none a) → a ≠ st → a ≠ lg → Q (.ref a) H') : tLam (tabs Pt) (TCaught K T.reel.C) t σ H Q := by
  refine ⟨hT, fun H1 e1 t1 Q1 hQ1 => A H1 _ Q1 e1 (stAt_ext S e1) fun H2 kp S2 => ⟨X.exm T.reel, fun a ha => ?_⟩⟩
  have t2 := tabs_kp t1 (stAt_ext S e1) kp
  exact k a _ (S2.same (Same.new ha)) (t2.ext (Same.new ha)) (((KpN.ext e1).trans (.kp kp)).trans (.new ha)) upd_same (S2.off ha).1 (S2.off ha).2
theorem one_q {Pt : Addr} : ∀ q ∈ tabs Pt, q.1 = Pt → q.2 = lamQ := fun q hq e => by
  rcases List.mem_singleton.mp hq with rfl
  rfl
theorem off_tup {H : Hp} {st lg cl p : Addr} {m : Nat} {xs : List V} (S : StAt H st lg cl m) (e : H p = some (.tup xs)) : p ≠ st ∧ p ≠ lg := by
  obtain ⟨_, _, _, _, S', _⟩ := S
  exact ⟨ne_of e S'.d (by intro z; cases z), ne_of e S'.l (by intro z; cases z)⟩
end K05
namespace K05
open PySem PySem.Spec PyProof.Rows L2 PySem.W LamX KA KW KU KL
open Evl (pss_cut tCut)
/-! ### what is refused: what is picked -/
abbrev sr (st fa p pa : Addr) (v4 v5 v6 v7 v8 v9 v10 v11 v12 v13 v14 : Option V) : L2.St := [some (.ref st), some (.ref fa), some (.ref p), some (.ref pa), v4, v5, v6, v7, v8, v9, v10, v11, v12, v13, v14]
abbrev RX (P : Program) (w : World) {K : PySem.W.Frag} {mg : Str → Option Value} (base : Heap) (T : Top K mg) (c : Addr) (A : Around) (outer : List Env) (s0 : Shared) (H0 : Hp) (E0 : XK) : Cx :=
  cxOf (L2.CX P w) P w K mg base ["state", "form", "square", "pane", "some", "top", "left", "work", "caught", "bad", "fashion", "odd", "worse", "wrong", "each"] "_law_refused" (defScope s__law_refused) T._law_refused.a (.ref c) A outer s0 H0 E0
theorem plI {K : PySem.W.Frag} {H : Hp} {xs : List Int} : ∀ x ∈ xs.map V.int, ∃ b, Pl K H x b := fun x hx => by
  obtain ⟨i, _, rfl⟩ := List.mem_map.mp hx
  exact ⟨_, .int _⟩
section
variable {P : Program} {w : World} {K : PySem.W.Frag} {mg : Str → Option Value} {base : Heap} (T : Top K mg) (SH : ShapeT K mg) (BE : BadShapeT P w K mg T.reel.C) (Z : SzT K mg)
variable (BM : BadModeT P w K mg T.reel.C) (kT : PySem.W.kitOne K (.type "tuple") (.ref SH.C) = some false)
variable {c : Addr} {A : Around} {outer : List Env} {s0 : Shared} {H0 : Hp} {E0 : XK} (hr : Room 9 (A.deeper (envOfC "_law_refused" (defScope s__law_refused) s0.heap.objs.size T._law_refused.a (.ref c)))) (hg : A.guards = some [])
include hr in
theorem segR0 {Pt : Addr} : ∃ t, PS (RX P w base T c A outer s0 H0 E0) (stR 0) t ∧ ∀ (D : Ends) (st lg cl fa p pa : Addr) (h wn : Nat) (lo hi : Int) (b : Bk) (nss : List (List Int)) (m : Nat) (H : Hp) (v4 v5 v6 v7 v8 v9 v10 v11 v12 v13 v14 : Option V), m ≤ 900000 → RB SH.C Pt st lg cl fa p pa h wn lo hi b nss m H →
    (∀ xo H', RB SH.C Pt st lg cl fa p pa h wn lo hi b nss (m + 1) H' → NoN st lg H' xo → KpN st lg H H' → D.nx (sr st fa p pa v4 v5 v6 v7 v8 v9 v10 (some xo) v12 v13 v14) H') → t D (sr st fa p pa v4 v5 v6 v7 v8 v9 v10 v11 v12 v13 v14) H := by
  refine ⟨_, (ps_set (i := 11) sc__law_refused.nd rfl (by first | exact .inl rfl | exact .inr rfl) (pe_call (ok_pick T) (hr.mono (by decide)) (by rfl) T._law_pick.m T._law_pick.f.kp (bd__law_pick T) .nil passE (pa_cons (pv 0) (pa_cons (pe_lst (pa_cons pe_non (pa_cons pe_int (pa_cons pe_str (pa_cons (pe_tup (pa_cons pe_int (pa_cons pe_int (pa_cons pe_int (pa_cons pe_int pa_nil))))) pa_nil))))) pa_nil)))), fun D st lg cl fa p pa h wn lo hi b nss m H v4 v5 v6 v7 v8 v9 v10 v11 v12 v13 v14  hm B k => ?_⟩
  refine ⟨_, rfl, (by show 4 ≤ sizeLine; decide), fun t ht => ⟨(by show 4 ≤ sizeLine; decide), fun q hq => ?_⟩⟩
  have t1 := Same.new (o := .tup [V.int 2, .int 2, .int 0, .int 9]) ht
  have e1 : (upd H t (.tup [V.int 2, .int 2, .int 0, .int 9])) t = some (.tup [V.int 2, .int 2, .int 0, .int 9]) := upd_same
  generalize upd H t (.tup [V.int 2, .int 2, .int 0, .int 9]) = H1 at t1 e1 hq ⊢
  have t2 := Same.new (o := .lst [V.non, .int 5, .str "shape", .ref t]) hq
  have S2 := (B.S.same t1).same t2
  refine ⟨st, lg, cl, q, _, m, rfl, upd_same, ((B.S.same t1).off hq).2, (by show 0 < 4; decide), (by show 4 ≤ 1000; decide), by omega, S2, fun x H' hx S' kp => ?_⟩
  have kA : Kp st lg H H' := (Kp.same (t1.trans t2)).trans kp
  have e3 : H' t = some (.tup [V.int 2, .int 2, .int 0, .int 9]) := Kp.tp S2 kp _ _ (t2 _ _ e1)
  refine k x H' (B.kp kA S') (fun H2 k2 => ?_) (.kp kA)
  simp only [List.mem_cons, List.not_mem_nil, or_false] at hx
  rcases hx with h | h | h | h <;> subst h
  · exact .non
  · exact .int _
  · exact .str _
  · exact .tup (KpN.tp S' k2 _ _ e3)
include hr in
theorem segR1 {Pt : Addr} : ∃ t, PS (RX P w base T c A outer s0 H0 E0) (stR 1) t ∧ ∀ (D : Ends) (st lg cl fa p pa : Addr) (h wn : Nat) (lo hi : Int) (b : Bk) (nss : List (List Int)) (m : Nat) (H : Hp) (v4 v5 v6 v7 v8 v9 v10 v11 v12 v13 v14 : Option V), m ≤ 900000 → RB SH.C Pt st lg cl fa p pa h wn lo hi b nss m H →
    (∀ xw H', RB SH.C Pt st lg cl fa p pa h wn lo hi b nss (m + 1) H' → WrN K h wn st lg H' xw → KpN st lg H H' → D.nx (sr st fa p pa v4 v5 v6 v7 v8 v9 v10 v11 v12 (some xw) v14) H') → t D (sr st fa p pa v4 v5 v6 v7 v8 v9 v10 v11 v12 v13 v14) H := by
  refine ⟨_, (ps_set (i := 13) sc__law_refused.nd rfl (by first | exact .inl rfl | exact .inr rfl) (pe_call (ok_pick T) (hr.mono (by decide)) (by rfl) T._law_pick.m T._law_pick.f.kp (bd__law_pick T) .nil passE (pa_cons (pv 0) (pa_cons (pe_lst (pa_cons pe_non (pa_cons (pe_tup (pa_cons pe_int (pa_cons pe_int (pa_cons pe_int pa_nil)))) (pa_cons (pe_lst (pa_cons pe_int (pa_cons pe_int (pa_cons pe_int pa_nil)))) (pa_cons (pe_tup (pa_cons pe_int (pa_cons pe_int pa_nil))) pa_nil))))) pa_nil)))), fun D st lg cl fa p pa h wn lo hi b nss m H v4 v5 v6 v7 v8 v9 v10 v11 v12 v13 v14  hm B k => ?_⟩
  refine ⟨_, rfl, (by show 3 ≤ sizeLine; decide), fun ta hta => ⟨(by show 3 ≤ sizeLine; decide), fun tb htb => ⟨(by show 2 ≤ sizeLine; decide), fun tc htc => ⟨(by show 4 ≤ sizeLine; decide), fun q hq => ?_⟩⟩⟩⟩
  have t1 := Same.new (o := .tup [V.int 0, .int 0, .int 3]) hta
  have e1 : (upd H ta (.tup [V.int 0, .int 0, .int 3])) ta = some (.tup [V.int 0, .int 0, .int 3]) := upd_same
  generalize upd H ta (.tup [V.int 0, .int 0, .int 3]) = H1 at t1 e1 htb htc hq ⊢
  have t2 := Same.new (o := .lst [V.int 0, .int 0, .int 2]) htb
  have e2 : (upd H1 tb (.lst [V.int 0, .int 0, .int 2])) tb = some (.lst [V.int 0, .int 0, .int 2]) := upd_same
  have n2 := (B.S.same t1).off htb
  generalize upd H1 tb (.lst [V.int 0, .int 0, .int 2]) = H2 at t2 e2 htc hq ⊢
  have t3 := Same.new (o := .tup [V.int 0, .int 0]) htc
  have e3 : (upd H2 tc (.tup [V.int 0, .int 0])) tc = some (.tup [V.int 0, .int 0]) := upd_same
  generalize upd H2 tc (.tup [V.int 0, .int 0]) = H3 at t3 e3 hq ⊢
  have t4 := Same.new (o := .lst [V.non, .ref ta, .ref tb, .ref tc]) hq
  have S3 := ((B.S.same t1).same t2).same t3
  have S4 := S3.same t4
  refine ⟨st, lg, cl, q, _, m, rfl, upd_same, (S3.off hq).2, (by show 0 < 4; decide), (by show 4 ≤ 1000; decide), by omega, S4, fun x H' hx S' kp => ?_⟩
  have kA : Kp st lg H H' := (Kp.same (t1.trans (t2.trans (t3.trans t4)))).trans kp
  have f1 : H' ta = some (.tup [V.int 0, .int 0, .int 3]) := Kp.tp S4 kp _ _ ((t2.trans (t3.trans t4)) _ _ e1)
  have f2 : H' tb = some (.lst [V.int 0, .int 0, .int 2]) := kp _ _ ((t3.trans t4) _ _ e2) n2.1 n2.2
  have f3 : H' tc = some (.tup [V.int 0, .int 0]) := Kp.tp S4 kp _ _ (t4 _ _ e3)
  refine k x H' (B.kp kA S') ?_ (.kp kA)
  simp only [List.mem_cons, List.not_mem_nil, or_false] at hx
  rcases hx with z | z | z | z <;> subst z
  · exact ⟨none, rfl, fun H2 k2 => .no .non⟩
  · refine ⟨some [.int 0, .int 0, .int 3], ?_, fun H2 k2 => .tup (KpN.tp S' k2 _ _ f1) (plI (xs := [0, 0, 3])) (by show 3 ≤ 1000; decide)⟩
    simp [blkB, inSz_int]
  · exact ⟨none, rfl, fun H2 k2 => .no (.lst (k2 _ _ f2 n2.1 n2.2 fun _ z => by cases z))⟩
  · exact ⟨some [.int 0, .int 0], rfl, fun H2 k2 => .tup (KpN.tp S' k2 _ _ f3) (plI (xs := [0, 0])) (by show 2 ≤ 1000; decide)⟩
include T in
theorem segR2 {Pt : Addr} : ∃ t, PS (RX P w base T c A outer s0 H0 E0) (stR 2) t ∧ ∀ (D : Ends) (st lg cl fa p pa : Addr) (h wn : Nat) (lo hi : Int) (b : Bk) (nss : List (List Int)) (m : Nat) (H : Hp) (v4 v5 v6 v7 v8 v9 v10 v11 v12 v13 v14 : Option V), m ≤ 900000 → RB SH.C Pt st lg cl fa p pa h wn lo hi b nss m H →
    (∀ sa us H', RB SH.C Pt st lg cl fa p pa h wn lo hi b nss m H' → H' sa = some (.lst us) → sa ≠ st ∧ sa ≠ lg → us.length ≤ 10 → 0 < us.length → (∀ u ∈ us, BadV b st lg H' u) → KpN st lg H H' → D.nx (sr st fa p pa (some (.ref sa)) v5 v6 v7 v8 v9 v10 v11 v12 v13 v14) H') → t D (sr st fa p pa v4 v5 v6 v7 v8 v9 v10 v11 v12 v13 v14) H := by
  refine ⟨_, (ps_set (i := 4) sc__law_refused.nd rfl (by first | exact .inl rfl | exact .inr rfl) (pe_lst (pa_cons pe_str (pa_cons pe_str (pa_cons pe_str (pa_cons pe_str (pa_cons pe_non (pa_cons pe_int (pa_cons (pe_tup (pa_cons pe_str pa_nil)) (pa_cons pe_str (pa_cons (pe_lst (pa_cons pe_str pa_nil)) (pa_cons pe_dnewK pa_nil)))))))))))), fun D st lg cl fa p pa h wn lo hi b nss m H v4 v5 v6 v7 v8 v9 v10 v11 v12 v13 v14  hm B k => ?_⟩
  refine ⟨(by show 1 ≤ sizeLine; decide), fun ta hta => ⟨(by show 1 ≤ sizeLine; decide), fun tb htb tc htc => ⟨(by show 10 ≤ sizeLine; decide), fun q hq => ?_⟩⟩⟩
  have t1 := Same.new (o := .tup [V.str "flat"]) hta
  have e1 : (upd H ta (.tup [V.str "flat"])) ta = some (.tup [V.str "flat"]) := upd_same
  generalize upd H ta (.tup [V.str "flat"]) = H1 at t1 e1 htb htc hq ⊢
  have t2 := Same.new (o := .lst [V.str "flat"]) htb
  have e2 : (upd H1 tb (.lst [V.str "flat"])) tb = some (.lst [V.str "flat"]) := upd_same
  have n2 := (B.S.same t1).off htb
  generalize upd H1 tb (.lst [V.str "flat"]) = H2 at t2 e2 htc hq ⊢
  have S2 := (B.S.same t1).same t2
  have t3 := Same.new (o := .dK []) htc
  have e3 : (upd H2 tc (.dK [])) tc = some (.dK []) := upd_same
  have n3 := S2.off htc
  generalize upd H2 tc (.dK []) = H3 at t3 e3 hq ⊢
  have S3 := S2.same t3
  have t4 := Same.new (o := .lst [V.str "copy", .str "both", .str "still", .str "", .non, .int 0, .ref ta, .str "Flat", .ref tb, .ref tc]) hq
  have n4 := S3.off hq
  have S4 := S3.same t4
  have kA := t1.trans (t2.trans (t3.trans t4))
  have f1 := (t2.trans (t3.trans t4)) _ _ e1
  have f2 := (t3.trans t4) _ _ e2
  have f3 := t4 _ _ e3
  have eq : (upd H3 q (.lst [V.str "copy", .str "both", .str "still", .str "", .non, .int 0, .ref ta, .str "Flat", .ref tb, .ref tc])) q = some (.lst [V.str "copy", .str "both", .str "still", .str "", .non, .int 0, .ref ta, .str "Flat", .ref tb, .ref tc]) := upd_same
  generalize upd H3 q (.lst [V.str "copy", .str "both", .str "still", .str "", .non, .int 0, .ref ta, .str "Flat", .ref tb, .ref tc]) = H4 at S4 kA f1 f2 f3 eq ⊢
  have str : ∀ z : Str, z.length ≤ 100 → (reprText z).length ≤ sizeLine → (∀ m : Md, z ≠ m.s) → BadV b st lg H4 (.str z) := fun z l1 l2 n => ⟨not_mode n, _, fun H' k' => ⟨.str _ l1, .str _ l2⟩⟩
  refine k q _ H4 (B.same kA) eq n4 (by show 10 ≤ 10; decide) (by show 0 < 10; decide) (fun u hu => ?_) (.kp (.same kA))
  simp only [List.mem_cons, List.not_mem_nil, or_false] at hu
  rcases hu with z | z | z | z | z | z | z | z | z | z <;> subst z
  · exact str _ (by decide +kernel) (by decide +kernel) (fun m => by cases m <;> decide +kernel)
  · exact str _ (by decide +kernel) (by decide +kernel) (fun m => by cases m <;> decide +kernel)
  · exact str _ (by decide +kernel) (by decide +kernel) (fun m => by cases m <;> decide +kernel)
  · exact str _ (by decide +kernel) (by decide +kernel) (fun m => by cases m <;> decide +kernel)
  · exact ⟨rfl, _, fun H' k' => ⟨.non, .non⟩⟩
  · exact ⟨rfl, _, fun H' k' => ⟨.zero, .zero⟩⟩
  · exact ⟨rfl, _, fun H' k' => ⟨.tup (KpN.tp S4 k' _ _ f1) (by decide +kernel), .tup _ (KpN.tp S4 k' _ _ f1) (by decide +kernel)⟩⟩
  · exact str _ (by decide +kernel) (by decide +kernel) (fun m => by cases m <;> decide +kernel)
  · exact ⟨rfl, _, fun H' k' => ⟨.lst (k' _ _ f2 n2.1 n2.2 fun _ z => by cases z) (by decide +kernel), .lst _ (k' _ _ f2 n2.1 n2.2 fun _ z => by cases z) (by decide +kernel)⟩⟩
  · exact ⟨rfl, _, fun H' k' => ⟨.dK (k' _ _ f3 n3.1 n3.2 fun _ z => by cases z), .dK (k' _ _ f3 n3.1 n3.2 fun _ z => by cases z)⟩⟩
include T in
theorem segR3 {Pt : Addr} : ∃ t, PS (RX P w base T c A outer s0 H0 E0) (stR 3) t ∧ ∀ (D : Ends) (st lg cl fa p pa : Addr) (h wn : Nat) (lo hi : Int) (b : Bk) (nss : List (List Int)) (m : Nat) (H : Hp) (v4 v5 v6 v7 v8 v9 v10 v11 v12 v13 v14 : Option V), m ≤ 900000 → RB SH.C Pt st lg cl fa p pa h wn lo hi b nss m H →
    (∀ v5 v6, RB SH.C Pt st lg cl fa p pa h wn lo hi b nss m H → D.nx (sr st fa p pa v4 v5 v6 v7 v8 v9 v10 v11 v12 v13 v14) H) → t D (sr st fa p pa v4 v5 v6 v7 v8 v9 v10 v11 v12 v13 v14) H := by
  refine ⟨_, (ps_par (i := 5) (j := 6) rfl sc__law_refused.nd rfl rfl (by decide) rfl rfl (pa_cons (pe_ix (show IxR _ (rIxT K) from ix_tup) (pv 2) pe_int (fun _ _ => rfl)) (pa_cons (pe_ix (show IxR _ (rIxT K) from ix_tup) (pv 2) pe_int (fun _ _ => rfl)) pa_nil)) (by rfl)), fun D st lg cl fa p pa h wn lo hi b nss m H v4 v5 v6 v7 v8 v9 v10 v11 v12 v13 v14  hm B k => ?_⟩
  exact ⟨_, rfl, p, _, 0, _, rfl, rfl, SqT.of B.hp, atI_nat (j := 0) rfl, _, rfl, p, _, 1, _, rfl, rfl, SqT.of B.hp, atI_nat (j := 1) rfl, _, _, rfl, k _ _ B⟩
include hr in
theorem segR4 {Pt : Addr} : ∃ t, PS (RX P w base T c A outer s0 H0 E0) (stR 4) t ∧ ∀ (D : Ends) (st lg cl fa p pa : Addr) (h wn : Nat) (lo hi : Int) (b : Bk) (nss : List (List Int)) (m : Nat) (H : Hp) (v4 v5 v6 v7 v8 v9 v10 v11 v12 v13 v14 : Option V) (sa : Addr) (us : List V), m ≤ 900000 → RB SH.C Pt st lg cl fa p pa h wn lo hi b nss m H →
    H sa = some (.lst us) → us.length ≤ 10 → 0 < us.length → (∀ u ∈ us, BadV b st lg H u) → (∀ sa us H', RB SH.C Pt st lg cl fa p pa h wn lo hi b nss m H' → H' sa = some (.lst us) → sa ≠ st ∧ sa ≠ lg → us.length ≤ 22 → 0 < us.length → (∀ u ∈ us, BadV b st lg H' u) → KpN st lg H H' → D.nx (sr st fa p pa (some (.ref sa)) v5 v6 v7 v8 v9 v10 v11 v12 v13 v14) H') → t D (sr st fa p pa (some (.ref sa)) v5 v6 v7 v8 v9 v10 v11 v12 v13 v14) H := by
  refine ⟨_, (ps_set (i := 4) sc__law_refused.nd rfl (by first | exact .inl rfl | exact .inr rfl) (pe_op op_cat (pv 4) (pe_op op_rep (pe_lc (own := [("each", 14)]) (g := gName 14) rfl sc__law_refused.nd (pi_list (pe_lst (pa_cons pe_str (pa_cons pe_str (pa_cons pe_str (pa_cons pe_str pa_nil)))))) (blkOk_by (own := [("each", 14)]) (N := ["state", "form", "square", "pane", "some", "top", "left", "work", "caught", "bad", "fashion", "odd", "worse", "wrong", "each"]) (sc := defScope s__law_refused) (by decide +kernel))
        (fun _ _ _ _ _ => pg_name (i := 14) sc__law_refused.nd rfl (Or.inl rfl)) (fun _ _ _ _ _ => pts_one (pt_not (pt_val (pe_call (ok_stands T) (hr.mono (by decide)) (by rfl) T._law_stands.m T._law_stands.f.kp (bd__law_stands T) .nil passE (pa_cons (pv 2) (pa_cons (pv 14) (pa_cons pe_int pa_nil))))))) (fun _ _ _ _ _ => (pv 14))) pe_int))), fun D st lg cl fa p pa h wn lo hi b nss m H v4 v5 v6 v7 v8 v9 v10 v11 v12 v13 v14 sa us hm B esa lu lu0 bad k => ?_⟩
  refine ⟨_, rfl, (by show 4 ≤ sizeLine; decide), fun l hl => ?_⟩
  have t1 := Same.new (o := .lst [V.str "left", .str "up", .str "middle", .str "mean"]) hl
  have e1 : (upd H l (.lst [V.str "left", .str "up", .str "middle", .str "mean"])) l = some (.lst [V.str "left", .str "up", .str "middle", .str "mean"]) := upd_same
  generalize upd H l (.lst [V.str "left", .str "up", .str "middle", .str "mean"]) = H1 at t1 e1 ⊢
  have s5 : 100 ≤ sizeLine := by decide
  refine ⟨l, rfl, ⟨_, SqL.of e1⟩, fun D2 hD => lc_it walk_list (fun i H' => ∃ ws, H' D2 = some (.lst ws) ∧ Same H1 H' ∧ ws.length ≤ i ∧ ∀ u ∈ ws, ∃ m : Md, u = .str m.s ∧ standB b m = false) ⟨[], upd_same, Same.new hD, Nat.le_refl _, fun u hu => by cases hu⟩ (fun _ H' _ q' => SqL.of (q'.elim fun _ q => q.2.1 _ _ e1)) ?_ ?_⟩
  · rintro i x Hq Hr hi ⟨ws, ew, sw, lw, aw⟩ ⟨rfl, hx⟩
    obtain ⟨md, rfl⟩ : ∃ m : Md, x = .str m.s := by
      have := List.mem_of_getElem? hx
      simp only [List.mem_cons, List.not_mem_nil, or_false] at this
      rcases this with z | z | z | z
      · exact ⟨.left, z⟩
      · exact ⟨.up, z⟩
      · exact ⟨.middle, z⟩
      · exact ⟨.mean, z⟩
    have hi : i < 4 := hi
    refine ⟨rfl, ?_⟩
    refine ⟨_, rfl, _, rfl, p, b, _, 0, _, rfl, (t1.trans sw) _ _ B.hp, stands_val, fun H2 s2 => ⟨_, rfl, ?_⟩⟩
    cases hs : standB b md
    · refine iteT ⟨_, rfl, ws, s2 _ _ ew, by omega, ws ++ [.str md.s], upd_same, putN (sw.trans s2) hD, by rw [List.length_append, List.length_singleton]; omega, fun u hu => ?_⟩
      rcases List.mem_append.mp hu with z | z
      · exact aw u z
      · exact ⟨md, List.mem_singleton.mp z, hs⟩
    · exact iteF ⟨ws, s2 _ _ ew, sw.trans s2, by omega, aw⟩
  rintro H2 ⟨ws, ew, sw, lw, aw⟩
  have lw : ws.length ≤ 4 := lw
  have lf : (List.replicate (3 : Int).toNat ws).flatten.length ≤ 12 := by
    show (List.replicate 3 ws).flatten.length ≤ 12
    simp [List.length_flatten, List.map_replicate, List.sum_replicate_nat]
    omega
  refine ⟨D2, 3, ws, rfl, rfl, ew, by decide, by decide, Nat.le_trans (show ws.length * 3 ≤ 12 by omega) (by decide), fun g hg => ?_⟩
  have t2 := Same.new (o := .lst (List.replicate (3 : Int).toNat ws).flatten) hg
  have eg : (upd H2 g (.lst (List.replicate (3 : Int).toNat ws).flatten)) g = some (.lst (List.replicate (3 : Int).toNat ws).flatten) := upd_same
  generalize upd H2 g (.lst (List.replicate (3 : Int).toNat ws).flatten) = H3 at t2 eg ⊢
  have s3 := t1.trans (sw.trans t2)
  refine ⟨sa, g, us, _, rfl, rfl, s3 _ _ esa, eg, by omega, fun r hr' => ?_⟩
  have t3 := Same.new (o := .lst (us ++ (List.replicate (3 : Int).toNat ws).flatten)) hr'
  have sA := s3.trans t3
  refine k r _ _ (B.same sA) upd_same ((B.S.same s3).off hr') (by rw [List.length_append]; omega) (by rw [List.length_append]; omega) (fun u hu => ?_) (.kp (.same sA))
  rcases List.mem_append.mp hu with z | z
  · exact (bad u z).kn (.kp (.same sA))
  · obtain ⟨y, hy, z⟩ := List.mem_flatten.mp z
    rw [(List.mem_replicate.mp hy).2] at z
    obtain ⟨md, rfl, hs⟩ := aw u z
    exact ⟨not_ok hs, _, fun H' k' => ⟨.str _ (by cases md <;> decide +kernel), .str _ (by cases md <;> decide +kernel)⟩⟩
include hr in
theorem segR5 {Pt : Addr} : ∃ t, PS (RX P w base T c A outer s0 H0 E0) (stR 5) t ∧ ∀ (D : Ends) (st lg cl fa p pa : Addr) (h wn : Nat) (lo hi : Int) (b : Bk) (nss : List (List Int)) (m : Nat) (H : Hp) (v4 v5 v6 v7 v8 v9 v10 v11 v12 v13 v14 : Option V) (sa : Addr) (us : List V), m ≤ 900000 → RB SH.C Pt st lg cl fa p pa h wn lo hi b nss m H →
    H sa = some (.lst us) → sa ≠ st ∧ sa ≠ lg → us.length ≤ 22 → 0 < us.length → (∀ u ∈ us, BadV b st lg H u) → (∀ xb H', RB SH.C Pt st lg cl fa p pa h wn lo hi b nss (m + 1) H' → BadV b st lg H' xb → KpN st lg H H' → D.nx (sr st fa p pa (some (.ref sa)) v5 v6 v7 v8 (some xb) v10 v11 v12 v13 v14) H') → t D (sr st fa p pa (some (.ref sa)) v5 v6 v7 v8 v9 v10 v11 v12 v13 v14) H := by
  refine ⟨_, (ps_set (i := 9) sc__law_refused.nd rfl (by first | exact .inl rfl | exact .inr rfl) (pe_call (ok_pick T) (hr.mono (by decide)) (by rfl) T._law_pick.m T._law_pick.f.kp (bd__law_pick T) .nil passE (pa_cons (pv 0) (pa_cons (pv 4) pa_nil)))), fun D st lg cl fa p pa h wn lo hi b nss m H v4 v5 v6 v7 v8 v9 v10 v11 v12 v13 v14 sa us hm B esa ns lu lu0 bad k => ?_⟩
  refine ⟨_, rfl, _, rfl, st, lg, cl, sa, us, m, rfl, esa, ns.2, lu0, by omega, by omega, B.S, fun x H' hx S' kp => ?_⟩
  exact k x H' (B.kp kp S') ((bad x hx).kn (.kp kp)) (.kp kp)
end
end K05
namespace K05
open PySem PySem.Spec PyProof.Rows L2 PySem.W LamX KA KW KU KL
open Evl (pss_cut tCut)
/-! ### what is refused: the loops over lambdas -/
theorem bkV_inj {a b : Bk} (e : bkV a = bkV b) : a = b := by
  obtain ⟨t, l, s⟩ := a
  obtain ⟨t', l', s'⟩ := b
  unfold bkV at e
  simp only [List.cons.injEq, V.int.injEq, and_true] at e
  congr 1 <;> omega
theorem bk_pl {K : PySem.W.Frag} {H : Hp} (b : Bk) : ∀ x ∈ bkV b, ∃ z, Pl K H x z := fun x hx => by
  unfold bkV at hx
  simp only [List.mem_cons, List.not_mem_nil, or_false] at hx
  rcases hx with z | z | z <;> subst z <;> exact ⟨_, .int _⟩
theorem rw_bkV {K : PySem.W.Frag} {H : Hp} {x : V} {o : Option (List V)} {p : Addr} {xs : List V} (r : Rw K H x o) (e : x = .ref p) (h : H p = some (.tup xs)) : o = some xs := by
  subst e
  cases r with
  | no n =>
    cases n with
    | lst q =>
      rw [h] at q
      cases q
    | dK q =>
      rw [h] at q
      cases q
  | tup q _ _ =>
    rw [h] at q
    cases q
    rfl
theorem wr_no {K : PySem.W.Frag} {H : Hp} {x : V} {o : Option (List V)} {h w : Nat} {p : Addr} {b : Bk} (wo : blkB h w o = false) (r : Rw K H x o) (e1 : x = .ref p) (e2 : H p = some (.tup (bkV b))) (v : Vb h w b) : False := by
  have := rw_bkV r e1 e2
  rw [this, blkB_iff.mpr ⟨b, v, rfl⟩] at wo
  cases wo
section
variable {P : Program} {w : World} {K : PySem.W.Frag} {mg : Str → Option Value} {base : Heap} (T : Top K mg) (SH : ShapeT K mg) (BE : BadShapeT P w K mg T.reel.C) (Z : SzT K mg)
variable (BM : BadModeT P w K mg T.reel.C) (kT : PySem.W.kitOne K (.type "tuple") (.ref SH.C) = some false)
variable {c : Addr} {A : Around} {outer : List Env} {s0 : Shared} {H0 : Hp} {E0 : XK} (hr : Room 9 (A.deeper (envOfC "_law_refused" (defScope s__law_refused) s0.heap.objs.size T._law_refused.a (.ref c)))) (hg : A.guards = some [])
include hr hg BE Z BM kT in
theorem segR6 {Pt : Addr} (TB : TabB base mg c Pt) : ∃ t, PS (RX P w base T c A outer s0 H0 E0) (stR 6) t ∧ ∀ (D : Ends) (st lg cl fa p pa : Addr) (h wn : Nat) (lo hi : Int) (b : Bk) (nss : List (List Int)) (m : Nat) (H : Hp) (v4 v5 v6 v7 v8 v9 v10 v11 v12 v13 v14 : Option V) (xo xw xb : V), m ≤ 900000 → RB SH.C Pt st lg cl fa p pa h wn lo hi b nss m H →
    NoN st lg H xo → (∀ H' v7 v8, RB SH.C Pt st lg cl fa p pa h wn lo hi b nss m H' → KpN st lg H H' → D.nx (sr st fa p pa v4 v5 v6 v7 v8 (some xb) v10 (some xo) v12 (some xw) v14) H') → t D (sr st fa p pa v4 v5 v6 v7 v8 (some xb) v10 (some xo) v12 (some xw) v14) H := by
  refine ⟨_, (ps_for (passes_of rfl) rfl (pi_list (pe_lst (pa_cons (pe_lamV (T := tabs Pt) (params := lamP (e60)) (body := lamB (e60)) (scope := lamSc (e60)) TB rfl List.mem_cons_self one_q (lamS_by (sc := defScope s__law_refused) (by decide +kernel)) rfl) (pa_cons (pe_lamV (T := tabs Pt) (params := lamP (e61)) (body := lamB (e61)) (scope := lamSc (e61)) TB rfl List.mem_cons_self one_q (lamS_by (sc := defScope s__law_refused) (by decide +kernel)) rfl) (pa_cons (pe_lamV (T := tabs Pt) (params := lamP (e62)) (body := lamB (e62)) (scope := lamSc (e62)) TB rfl List.mem_cons_self one_q (lamS_by (sc := defScope s__law_refused) (by decide +kernel)) rfl) pa_nil))))) (pg_name (i := 7) sc__law_refused.nd rfl (by first | exact .inl rfl | exact .inr rfl)) (pss_cons (ps_set (i := 8) sc__law_refused.nd rfl (by first | exact .inl rfl | exact .inr rfl) (pe_callL (kb := 7) (k := 9) (i := 7) (sp := fun f pre t => spCaughtL K T.reel.C f pre t) [⟨lamP e60, lamB e60, lamSc e60, _⟩, ⟨lamP e61, lamB e61, lamSc e61, _⟩, ⟨lamP e62, lamB e62, lamSc e62, _⟩] ((ok_cons ⟨(show LamS (defScope s__law_refused) (lamSc e60) from lamS_by (by decide +kernel)), fun _ _ _ _ _ => rfl, fun A outer s H E f c' h => (pe_call (ok_modes_at T SH BE Z kT) (h.mono (by decide)) (by rfl) T.modes_at.m T.modes_at.f.kp (bd_modes_at T) .nil (passX rfl rfl rfl rfl) (pa_cons (pv 11) (pa_cons (pv 13) (pa_cons pe_int pa_nil))))⟩ (ok_cons ⟨(show LamS (defScope s__law_refused) (lamSc e61) from lamS_by (by decide +kernel)), fun _ _ _ _ _ => rfl, fun A outer s H E f c' h => (pe_call (ok_guess T SH BE Z BM kT) (h.mono (by decide)) (by rfl) T.guess.m T.guess.f.kp (bd_guess T) .nil (passX rfl rfl rfl rfl) (pa_cons (pv 11) (pa_cons (pv 13) (pa_cons (pv 9) (pa_cons pe_non pa_nil)))))⟩ (ok_cons ⟨(show LamS (defScope s__law_refused) (lamSc e62) from lamS_by (by decide +kernel)), fun _ _ _ _ _ => rfl, fun A outer s H E f c' h => (pe_call (ok_reads_within T SH BE Z BM kT) (h.mono (by decide)) (by rfl) T.reads_within.m T.reads_within.f.kp (bd_reads_within T) .nil (passX rfl rfl rfl rfl) (pa_cons (pv 11) (pa_cons (pv 13) (pa_cons (pv 9) pa_nil))))⟩ ok_nil)))) (fun H0 h0 f pre t' Wk => caught_workL Wk T._law_caught.f sc__law_caught rfl rfl rfl rfl rfl T.reel.g (by decide) (by decide) (by decide) (by decide) (by decide) (by decide) (by decide)) (by rfl) T._law_caught.m T._law_caught.f.kp (bd__law_caught T) passE (hr.mono (by decide)) hg rfl (.inl rfl)))
      (pss_one (ps_if (PW.pt (pw_or (pt_not (pt_val (pe_callB (show CallR _ _ (rIs3 K) from call_is3) (by rfl) T.b_isinstance PyProof.Rows.boot_isinstance (pa_cons (pv 8) (pa_cons (pe_glob (v := .ref BE.C) (by rfl) BE.g rfl) pa_nil))))) (pw_or1 (pt_cmpR op_notN (pe_upGet BE.u (pv 8)) pe_non (nomark _))))) (pss_one (ps_ret pe_bl)) pss_nil)))), fun D st lg cl fa p pa h wn lo hi b nss m H v4 v5 v6 v7 v8 v9 v10 v11 v12 v13 v14 xo xw xb hm B no k => ?_⟩
  refine ⟨B.Tb, fun Ha ea Ta f1 c1 hf1 hc1 => ⟨Ta.ext (Same.new hf1), fun Hb eb Tb f2 c2 hf2 hc2 => ⟨Tb.ext (Same.new hf2), fun Hd ed Td f3 c3 hf3 hc3 => ⟨(by show 3 ≤ sizeLine; decide), fun pl hpl => ?_⟩⟩⟩⟩
  obtain ⟨Ba, l1, ka⟩ := lam_stepR (L1 := LamO (envOfC "_law_refused" (defScope s__law_refused) s0.heap.objs.size T._law_refused.a (.ref c)) (lamP e60) (lamB e60) (lamSc e60) f1 c1) B ea Ta hf1 hc1
  obtain ⟨Bb, l2, kb⟩ := lam_stepR (L1 := LamO (envOfC "_law_refused" (defScope s__law_refused) s0.heap.objs.size T._law_refused.a (.ref c)) (lamP e61) (lamB e61) (lamSc e61) f2 c2) Ba eb Tb hf2 hc2
  have l1 := (l1.ext lamO_tbl eb).same (Same.new (o := LamO (envOfC "_law_refused" (defScope s__law_refused) s0.heap.objs.size T._law_refused.a (.ref c)) (lamP e61) (lamB e61) (lamSc e61) f2 c2) hf2)
  obtain ⟨Bd, l3, kd⟩ := lam_stepR (L1 := LamO (envOfC "_law_refused" (defScope s__law_refused) s0.heap.objs.size T._law_refused.a (.ref c)) (lamP e62) (lamB e62) (lamSc e62) f3 c3) Bb ed Td hf3 hc3
  have l1 := (l1.ext lamO_tbl ed).same (Same.new (o := LamO (envOfC "_law_refused" (defScope s__law_refused) s0.heap.objs.size T._law_refused.a (.ref c)) (lamP e62) (lamB e62) (lamSc e62) f3 c3) hf3)
  have l2 := (l2.ext lamO_tbl ed).same (Same.new (o := LamO (envOfC "_law_refused" (defScope s__law_refused) s0.heap.objs.size T._law_refused.a (.ref c)) (lamP e62) (lamB e62) (lamSc e62) f3 c3) hf3)
  have BB := Bd.same (Same.new (o := .lst [V.ref f1, V.ref f2, V.ref f3]) hpl)
  have kB := ((ka.trans kb).trans kd).trans (.new (o := .lst [V.ref f1, V.ref f2, V.ref f3]) hpl)
  have l1 := l1.same (Same.new (o := .lst [V.ref f1, V.ref f2, V.ref f3]) hpl)
  have l2 := l2.same (Same.new (o := .lst [V.ref f1, V.ref f2, V.ref f3]) hpl)
  have l3 := l3.same (Same.new (o := .lst [V.ref f1, V.ref f2, V.ref f3]) hpl)
  clear Bd kd ed Td Bb kb eb Tb Ba ka ea Ta hc1 hc2 hc3
  refine ⟨pl, rfl, ⟨_, SqL.of upd_same⟩, for_list (xs := [V.ref f1, V.ref f2, V.ref f3]) (fun _ σ H' => (∃ v7 v8, σ = (sr st fa p pa v4 v5 v6 v7 v8 (some xb) v10 (some xo) v12 (some xw) v14)) ∧ RB SH.C Pt st lg cl fa p pa h wn lo hi b nss m H' ∧ KpN st lg H H' ∧ Lm H' f1 c1 (LamO (envOfC "_law_refused" (defScope s__law_refused) s0.heap.objs.size T._law_refused.a (.ref c)) (lamP e60) (lamB e60) (lamSc e60) f1 c1) lamQ ∧ Lm H' f2 c2 (LamO (envOfC "_law_refused" (defScope s__law_refused) s0.heap.objs.size T._law_refused.a (.ref c)) (lamP e61) (lamB e61) (lamSc e61) f2 c2) lamQ ∧ Lm H' f3 c3 (LamO (envOfC "_law_refused" (defScope s__law_refused) s0.heap.objs.size T._law_refused.a (.ref c)) (lamP e62) (lamB e62) (lamSc e62) f3 c3) lamQ ∧ H' pl = some (.lst [V.ref f1, V.ref f2, V.ref f3])) ⟨⟨_, _, rfl⟩, BB, kB, l1, l2, l3, upd_same⟩ (fun i σ H' _ h => SqL.of h.2.2.2.2.2.2) ?_ fun σ' H' ⟨⟨v7, v8, e⟩, B', k', _⟩ => by rw [e]; exact k H' v7 v8 B' k'⟩
  clear l1 l2 l3 BB kB
  rintro i x σ H' hx ⟨⟨v7, v8, rfl⟩, B', kn, l1, l2, l3, hl⟩
  have hx2 : x = V.ref f1 ∨ x = V.ref f2 ∨ x = V.ref f3 := by
    have := List.mem_of_getElem? hx
    simpa only [List.mem_cons, List.not_mem_nil, or_false] using this
  rcases hx2 with rfl | rfl | rfl
  · refine ⟨_, List.mem_cons_self, f1, c1, rfl, l1.f, l1.c, rfl, ⟨l1.f, l1.c⟩, fun Q1 hQ1 => ⟨_, rfl, _, rfl, _, _, _, rfl, .inr ⟨no _ kn, fun d hd => ⟨exd_exm T.reel BE, fun a ha => ?_⟩⟩⟩⟩
    have e2 : (upd (upd H' d (.xd [("part", V.non)])) a (ExV (.ref BE.C) (some d) a)) d = some (.xd [("part", V.non)]) := (upd_ne (ne_of_none upd_same ha)).trans upd_same
    have sm := (Same.new (o := .xd [("part", V.non)]) hd).trans (Same.new (o := ExV (.ref BE.C) (some d) a) ha)
    refine ⟨_, rfl, .inr ⟨a, BE.C, d, _, _, _, true, rfl, upd_same, e2, BE.x, .own _, kit_self, _, rfl, ?_⟩⟩
    exact iteF ⟨_, rfl, a, d, _, rfl, upd_same, e2, rfl, _, rfl, iteF ⟨⟨_, _, rfl⟩, B'.same sm, kn.trans (.kp (.same sm)), l1.same sm, l2.same sm, l3.same sm, sm _ _ hl⟩⟩
  · refine ⟨_, (List.mem_cons_of_mem _ List.mem_cons_self), f2, c2, rfl, l2.f, l2.c, rfl, ⟨l2.f, l2.c⟩, fun Q1 hQ1 => ⟨_, rfl, _, rfl, _, rfl, _, _, _, _, rfl, .inr ⟨no _ kn, fun d hd => ⟨exd_exm T.reel BE, fun a ha => ?_⟩⟩⟩⟩
    have e2 : (upd (upd H' d (.xd [("part", V.non)])) a (ExV (.ref BE.C) (some d) a)) d = some (.xd [("part", V.non)]) := (upd_ne (ne_of_none upd_same ha)).trans upd_same
    have sm := (Same.new (o := .xd [("part", V.non)]) hd).trans (Same.new (o := ExV (.ref BE.C) (some d) a) ha)
    refine ⟨_, rfl, .inr ⟨a, BE.C, d, _, _, _, true, rfl, upd_same, e2, BE.x, .own _, kit_self, _, rfl, ?_⟩⟩
    exact iteF ⟨_, rfl, a, d, _, rfl, upd_same, e2, rfl, _, rfl, iteF ⟨⟨_, _, rfl⟩, B'.same sm, kn.trans (.kp (.same sm)), l1.same sm, l2.same sm, l3.same sm, sm _ _ hl⟩⟩
  · refine ⟨_, (List.mem_cons_of_mem _ (List.mem_cons_of_mem _ List.mem_cons_self)), f3, c3, rfl, l3.f, l3.c, rfl, ⟨l3.f, l3.c⟩, fun Q1 hQ1 => ⟨_, rfl, _, rfl, _, rfl, _, _, _, rfl, .inr ⟨no _ kn, fun d hd => ⟨exd_exm T.reel BE, fun a ha => ?_⟩⟩⟩⟩
    have e2 : (upd (upd H' d (.xd [("part", V.non)])) a (ExV (.ref BE.C) (some d) a)) d = some (.xd [("part", V.non)]) := (upd_ne (ne_of_none upd_same ha)).trans upd_same
    have sm := (Same.new (o := .xd [("part", V.non)]) hd).trans (Same.new (o := ExV (.ref BE.C) (some d) a) ha)
    refine ⟨_, rfl, .inr ⟨a, BE.C, d, _, _, _, true, rfl, upd_same, e2, BE.x, .own _, kit_self, _, rfl, ?_⟩⟩
    exact iteF ⟨_, rfl, a, d, _, rfl, upd_same, e2, rfl, _, rfl, iteF ⟨⟨_, _, rfl⟩, B'.same sm, kn.trans (.kp (.same sm)), l1.same sm, l2.same sm, l3.same sm, sm _ _ hl⟩⟩
include hr hg BE Z BM kT in
theorem segR7 {Pt : Addr} (TB : TabB base mg c Pt) : ∃ t, PS (RX P w base T c A outer s0 H0 E0) (stR 7) t ∧ ∀ (D : Ends) (st lg cl fa p pa : Addr) (h wn : Nat) (lo hi : Int) (b : Bk) (nss : List (List Int)) (m : Nat) (H : Hp) (v4 v5 v6 v7 v8 v9 v10 v11 v12 v13 v14 : Option V) (xo xw xb : V), m ≤ 900000 → RB SH.C Pt st lg cl fa p pa h wn lo hi b nss m H →
    WrN K h wn st lg H xw → (∀ H' v7 v8, RB SH.C Pt st lg cl fa p pa h wn lo hi b nss m H' → KpN st lg H H' → D.nx (sr st fa p pa v4 v5 v6 v7 v8 (some xb) v10 (some xo) v12 (some xw) v14) H') → t D (sr st fa p pa v4 v5 v6 v7 v8 (some xb) v10 (some xo) v12 (some xw) v14) H := by
  refine ⟨_, (ps_for (passes_of rfl) rfl (pi_list (pe_lst (pa_cons (pe_lamV (T := tabs Pt) (params := lamP (e70)) (body := lamB (e70)) (scope := lamSc (e70)) TB rfl List.mem_cons_self one_q (lamS_by (sc := defScope s__law_refused) (by decide +kernel)) rfl) (pa_cons (pe_lamV (T := tabs Pt) (params := lamP (e71)) (body := lamB (e71)) (scope := lamSc (e71)) TB rfl List.mem_cons_self one_q (lamS_by (sc := defScope s__law_refused) (by decide +kernel)) rfl) (pa_cons (pe_lamV (T := tabs Pt) (params := lamP (e72)) (body := lamB (e72)) (scope := lamSc (e72)) TB rfl List.mem_cons_self one_q (lamS_by (sc := defScope s__law_refused) (by decide +kernel)) rfl) pa_nil))))) (pg_name (i := 7) sc__law_refused.nd rfl (by first | exact .inl rfl | exact .inr rfl)) (pss_one (ps_if (pt_not (pt_val (pe_callB (show CallR _ _ (rIs2 K) from call_is2) (by rfl) T.b_isinstance PyProof.Rows.boot_isinstance (pa_cons (pe_callL (kb := 7) (k := 9) (i := 7) (sp := fun f pre t => spCaughtL K T.reel.C f pre t) [⟨lamP e70, lamB e70, lamSc e70, _⟩, ⟨lamP e71, lamB e71, lamSc e71, _⟩, ⟨lamP e72, lamB e72, lamSc e72, _⟩] ((ok_cons ⟨(show LamS (defScope s__law_refused) (lamSc e70) from lamS_by (by decide +kernel)), fun _ _ _ _ _ => rfl, fun A outer s H E f c' h => (pe_call (ok_modes_at T SH BE Z kT) (h.mono (by decide)) (by rfl) T.modes_at.m T.modes_at.f.kp (bd_modes_at T) .nil (passX rfl rfl rfl rfl) (pa_cons (pv 1) (pa_cons (pv 13) (pa_cons pe_int pa_nil))))⟩ (ok_cons ⟨(show LamS (defScope s__law_refused) (lamSc e71) from lamS_by (by decide +kernel)), fun _ _ _ _ _ => rfl, fun A outer s H E f c' h => (pe_call (ok_guess T SH BE Z BM kT) (h.mono (by decide)) (by rfl) T.guess.m T.guess.f.kp (bd_guess T) .nil (passX rfl rfl rfl rfl) (pa_cons (pv 1) (pa_cons (pv 13) (pa_cons (pv 9) (pa_cons pe_non pa_nil)))))⟩ (ok_cons ⟨(show LamS (defScope s__law_refused) (lamSc e72) from lamS_by (by decide +kernel)), fun _ _ _ _ _ => rfl, fun A outer s H E f c' h => (pe_call (ok_reads_within T SH BE Z BM kT) (h.mono (by decide)) (by rfl) T.reads_within.m T.reads_within.f.kp (bd_reads_within T) .nil (passX rfl rfl rfl rfl) (pa_cons (pv 1) (pa_cons (pv 13) (pa_cons (pv 9) pa_nil))))⟩ ok_nil)))) (fun H0 h0 f pre t' Wk => caught_workL Wk T._law_caught.f sc__law_caught rfl rfl rfl rfl rfl T.reel.g (by decide) (by decide) (by decide) (by decide) (by decide) (by decide) (by decide)) (by rfl) T._law_caught.m T._law_caught.f.kp (bd__law_caught T) passE (hr.mono (by decide)) hg rfl (.inl rfl)) (pa_cons (pe_glob (v := .ref T.BadBlock.C) (by rfl) T.BadBlock.g rfl) pa_nil))))) (pss_one (ps_ret pe_bl)) pss_nil))), fun D st lg cl fa p pa h wn lo hi b nss m H v4 v5 v6 v7 v8 v9 v10 v11 v12 v13 v14 xo xw xb hm B wr k => ?_⟩
  obtain ⟨o, wo, wq⟩ := wr
  refine ⟨B.Tb, fun Ha ea Ta f1 c1 hf1 hc1 => ⟨Ta.ext (Same.new hf1), fun Hb eb Tb f2 c2 hf2 hc2 => ⟨Tb.ext (Same.new hf2), fun Hd ed Td f3 c3 hf3 hc3 => ⟨(by show 3 ≤ sizeLine; decide), fun pl hpl => ?_⟩⟩⟩⟩
  obtain ⟨Ba, l1, ka⟩ := lam_stepR (L1 := LamO (envOfC "_law_refused" (defScope s__law_refused) s0.heap.objs.size T._law_refused.a (.ref c)) (lamP e70) (lamB e70) (lamSc e70) f1 c1) B ea Ta hf1 hc1
  obtain ⟨Bb, l2, kb⟩ := lam_stepR (L1 := LamO (envOfC "_law_refused" (defScope s__law_refused) s0.heap.objs.size T._law_refused.a (.ref c)) (lamP e71) (lamB e71) (lamSc e71) f2 c2) Ba eb Tb hf2 hc2
  have l1 := (l1.ext lamO_tbl eb).same (Same.new (o := LamO (envOfC "_law_refused" (defScope s__law_refused) s0.heap.objs.size T._law_refused.a (.ref c)) (lamP e71) (lamB e71) (lamSc e71) f2 c2) hf2)
  obtain ⟨Bd, l3, kd⟩ := lam_stepR (L1 := LamO (envOfC "_law_refused" (defScope s__law_refused) s0.heap.objs.size T._law_refused.a (.ref c)) (lamP e72) (lamB e72) (lamSc e72) f3 c3) Bb ed Td hf3 hc3
  have l1 := (l1.ext lamO_tbl ed).same (Same.new (o := LamO (envOfC "_law_refused" (defScope s__law_refused) s0.heap.objs.size T._law_refused.a (.ref c)) (lamP e72) (lamB e72) (lamSc e72) f3 c3) hf3)
  have l2 := (l2.ext lamO_tbl ed).same (Same.new (o := LamO (envOfC "_law_refused" (defScope s__law_refused) s0.heap.objs.size T._law_refused.a (.ref c)) (lamP e72) (lamB e72) (lamSc e72) f3 c3) hf3)
  have BB := Bd.same (Same.new (o := .lst [V.ref f1, V.ref f2, V.ref f3]) hpl)
  have kB := ((ka.trans kb).trans kd).trans (.new (o := .lst [V.ref f1, V.ref f2, V.ref f3]) hpl)
  have l1 := l1.same (Same.new (o := .lst [V.ref f1, V.ref f2, V.ref f3]) hpl)
  have l2 := l2.same (Same.new (o := .lst [V.ref f1, V.ref f2, V.ref f3]) hpl)
  have l3 := l3.same (Same.new (o := .lst [V.ref f1, V.ref f2, V.ref f3]) hpl)
  clear Bd kd ed Td Bb kb eb Tb Ba ka ea Ta hc1 hc2 hc3
  refine ⟨pl, rfl, ⟨_, SqL.of upd_same⟩, for_list (xs := [V.ref f1, V.ref f2, V.ref f3]) (fun _ σ H' => (∃ v7 v8, σ = (sr st fa p pa v4 v5 v6 v7 v8 (some xb) v10 (some xo) v12 (some xw) v14)) ∧ RB SH.C Pt st lg cl fa p pa h wn lo hi b nss m H' ∧ KpN st lg H H' ∧ Lm H' f1 c1 (LamO (envOfC "_law_refused" (defScope s__law_refused) s0.heap.objs.size T._law_refused.a (.ref c)) (lamP e70) (lamB e70) (lamSc e70) f1 c1) lamQ ∧ Lm H' f2 c2 (LamO (envOfC "_law_refused" (defScope s__law_refused) s0.heap.objs.size T._law_refused.a (.ref c)) (lamP e71) (lamB e71) (lamSc e71) f2 c2) lamQ ∧ Lm H' f3 c3 (LamO (envOfC "_law_refused" (defScope s__law_refused) s0.heap.objs.size T._law_refused.a (.ref c)) (lamP e72) (lamB e72) (lamSc e72) f3 c3) lamQ ∧ H' pl = some (.lst [V.ref f1, V.ref f2, V.ref f3])) ⟨⟨_, _, rfl⟩, BB, kB, l1, l2, l3, upd_same⟩ (fun i σ H' _ h => SqL.of h.2.2.2.2.2.2) ?_ fun σ' H' ⟨⟨v7, v8, e⟩, B', k', _⟩ => by rw [e]; exact k H' v7 v8 B' k'⟩
  clear l1 l2 l3 BB kB
  rintro i x σ H' hx ⟨⟨v7, v8, rfl⟩, B', kn, l1, l2, l3, hl⟩
  have hx2 : x = V.ref f1 ∨ x = V.ref f2 ∨ x = V.ref f3 := by
    have := List.mem_of_getElem? hx
    simpa only [List.mem_cons, List.not_mem_nil, or_false] using this
  rcases hx2 with rfl | rfl | rfl
  · refine ⟨_, List.mem_cons_self, f1, c1, rfl, l1.f, l1.c, rfl, ⟨l1.f, l1.c⟩, fun Q1 hQ1 => ⟨_, rfl, _, rfl, _, _, _, rfl, .inl ⟨h, wn, lo, hi, B'.sv, o, wq _ kn, fun _ => ⟨T.BadBlock.exm T.reel, fun a ha => ?_⟩, fun p' b' e1 e2 v' => (wr_no wo (wq _ kn) e1 e2 v').elim⟩⟩⟩
    have sm := (Same.new (o := ExV (.ref T.BadBlock.C) none a) ha)
    exact .inr ⟨a, T.BadBlock.C, _, _, true, rfl, upd_same, T.BadBlock.e, .own _, kit_self, _, rfl, iteF ⟨⟨_, _, rfl⟩, B'.same sm, kn.trans (.kp (.same sm)), l1.same sm, l2.same sm, l3.same sm, sm _ _ hl⟩⟩
  · refine ⟨_, (List.mem_cons_of_mem _ List.mem_cons_self), f2, c2, rfl, l2.f, l2.c, rfl, ⟨l2.f, l2.c⟩, fun Q1 hQ1 => ⟨_, rfl, _, rfl, _, rfl, _, _, _, _, rfl, .inl ⟨h, wn, lo, hi, B'.sv, o, wq _ kn, fun _ => ⟨T.BadBlock.exm T.reel, fun a ha => ?_⟩, fun p' b' e1 e2 v' => (wr_no wo (wq _ kn) e1 e2 v').elim⟩⟩⟩
    have sm := (Same.new (o := ExV (.ref T.BadBlock.C) none a) ha)
    exact .inr ⟨a, T.BadBlock.C, _, _, true, rfl, upd_same, T.BadBlock.e, .own _, kit_self, _, rfl, iteF ⟨⟨_, _, rfl⟩, B'.same sm, kn.trans (.kp (.same sm)), l1.same sm, l2.same sm, l3.same sm, sm _ _ hl⟩⟩
  · refine ⟨_, (List.mem_cons_of_mem _ (List.mem_cons_of_mem _ List.mem_cons_self)), f3, c3, rfl, l3.f, l3.c, rfl, ⟨l3.f, l3.c⟩, fun Q1 hQ1 => ⟨_, rfl, _, rfl, _, rfl, _, _, _, rfl, .inl ⟨h, wn, lo, hi, B'.sv, o, wq _ kn, fun _ => ⟨T.BadBlock.exm T.reel, fun a ha => ?_⟩, fun p' b' e1 e2 v' => (wr_no wo (wq _ kn) e1 e2 v').elim⟩⟩⟩
    have sm := (Same.new (o := ExV (.ref T.BadBlock.C) none a) ha)
    exact .inr ⟨a, T.BadBlock.C, _, _, true, rfl, upd_same, T.BadBlock.e, .own _, kit_self, _, rfl, iteF ⟨⟨_, _, rfl⟩, B'.same sm, kn.trans (.kp (.same sm)), l1.same sm, l2.same sm, l3.same sm, sm _ _ hl⟩⟩
include hr hg BE Z BM kT in
theorem segR8 {Pt : Addr} (TB : TabB base mg c Pt) : ∃ t, PS (RX P w base T c A outer s0 H0 E0) (stR 8) t ∧ ∀ (D : Ends) (st lg cl fa p pa : Addr) (h wn : Nat) (lo hi : Int) (b : Bk) (nss : List (List Int)) (m : Nat) (H : Hp) (v4 v5 v6 v7 v8 v9 v10 v11 v12 v13 v14 : Option V), m ≤ 900000 → RB SH.C Pt st lg cl fa p pa h wn lo hi b nss m H →
    Vb h wn b → (∀ H', RB SH.C Pt st lg cl fa p pa h wn lo hi b nss (m + 1) H' → KpN st lg H H' → D.nx (sr st fa p pa v4 v5 v6 v7 v8 v9 v10 v11 v12 v13 v14) H') → t D (sr st fa p pa v4 v5 v6 v7 v8 v9 v10 v11 v12 v13 v14) H := by
  refine ⟨_, (ps_if (pt_not (pt_val (pe_callB (show CallR _ _ (rIs2 K) from call_is2) (by rfl) T.b_isinstance PyProof.Rows.boot_isinstance (pa_cons (pe_caught1 T TB rfl (show Room (7 + 2) _ from hr) (by rfl) List.mem_cons_self one_q (lamS_by (sc := defScope s__law_refused) (by decide +kernel)) rfl (fun _ _ _ _ _ => rfl) (fun A outer s H E f c' h => (pe_call (ok_modes_at T SH BE Z kT) (h.mono (by decide)) (by rfl) T.modes_at.m T.modes_at.f.kp (bd_modes_at T) .nil (passX rfl rfl rfl rfl) (pa_cons (pv 1) (pa_cons (pv 2) (pa_cons (pe_call (ok_pick T) (h.mono (by decide)) (by rfl) T._law_pick.m T._law_pick.f.kp (bd__law_pick T) .nil passE (pa_cons (pv 0) (pa_cons (pe_lst (pa_cons pe_int (pa_cons (pe_un un_neg pe_int) (pa_cons pe_bl (pa_cons pe_non pa_nil))))) pa_nil))) pa_nil)))))) (pa_cons (pe_glob (v := .ref T.BadKind.C) (by rfl) T.BadKind.g rfl) pa_nil))))) (pss_one (ps_ret pe_bl)) pss_nil), fun D st lg cl fa p pa h wn lo hi b nss m H v4 v5 v6 v7 v8 v9 v10 v11 v12 v13 v14  hm B vb k => ?_⟩
  refine caught_err1 (m' := m + 1) T T.BadKind B.Tb B.S (fun H1 E1 Q1 e1 S1 k1 => ?_) (fun a H1 S1 Tb1 kN ha na nb => ?_)
  · have kx : KpN st lg H H1 := .ext e1
    have sv1 := B.sv.kn B.S kx
    have hp1 := KpN.tp B.S kx _ _ B.hp
    refine ⟨_, rfl, _, rfl, _, rfl, _, rfl, (by show 4 ≤ sizeLine; decide), fun q hq => ⟨st, lg, cl, q, _, m, rfl, upd_same, (S1.off hq).2, (by show 0 < 4; decide), (by show 4 ≤ 1000; decide), by omega, S1.same (Same.new hq), fun x H2 hx S2 kp2 => ?_⟩⟩
    have kq : Kp st lg H1 H2 := (Kp.same (Same.new hq)).trans kp2
    have pw : (∃ zb, Pl K H2 x zb) ∧ within x 0 2 = false := by
      simp only [List.mem_cons, List.not_mem_nil, or_false] at hx
      rcases hx with z | z | z | z <;> subst z
      · exact ⟨⟨_, .int _⟩, by simp [within]⟩
      · exact ⟨⟨_, .int _⟩, by simp [within]⟩
      · exact ⟨⟨_, .bl _⟩, rfl⟩
      · exact ⟨⟨_, .non⟩, rfl⟩
    obtain ⟨⟨zb, pl⟩, hw⟩ := pw
    refine ⟨_, _, _, rfl, .inl ⟨h, wn, lo, hi, sv1.kn S1 (.kp kq), some (bkV b), .tup (Kp.tp S1 kq _ _ hp1) (bk_pl b) (by show 3 ≤ 1000; decide), fun e => (by rw [blkB_iff.mpr ⟨b, vb, rfl⟩] at e; cases e), fun p' b' e1' e2' v' => ⟨zb, pl, fun _ => k1 H2 kq S2, fun n e hn => ?_⟩⟩⟩
    exfalso
    rw [e] at hw
    simp [within] at hw
    omega
  · exact .inr ⟨a, T.BadKind.C, _, _, true, rfl, ha, T.BadKind.e, .own _, kit_self, _, rfl, iteF (k H1 (B.kn kN S1 Tb1) kN)⟩
include hr hg BE Z BM kT in
theorem segR9 {Pt : Addr} (TB : TabB base mg c Pt) : ∃ t, PS (RX P w base T c A outer s0 H0 E0) (stR 9) t ∧ ∀ (D : Ends) (st lg cl fa p pa : Addr) (h wn : Nat) (lo hi : Int) (b : Bk) (nss : List (List Int)) (m : Nat) (H : Hp) (v4 v5 v6 v7 v8 v9 v10 v11 v12 v13 v14 : Option V) (xo xw xb : V), m ≤ 900000 → RB SH.C Pt st lg cl fa p pa h wn lo hi b nss m H →
    Vb h wn b → BadV b st lg H xb → (∀ H' v7 v8, RB SH.C Pt st lg cl fa p pa h wn lo hi b nss m H' → KpN st lg H H' → D.nx (sr st fa p pa v4 v5 v6 v7 v8 (some xb) v10 (some xo) v12 (some xw) v14) H') → t D (sr st fa p pa v4 v5 v6 v7 v8 (some xb) v10 (some xo) v12 (some xw) v14) H := by
  refine ⟨_, (ps_for (passes_of rfl) rfl (pi_list (pe_lst (pa_cons (pe_lamV (T := tabs Pt) (params := lamP (e90)) (body := lamB (e90)) (scope := lamSc (e90)) TB rfl List.mem_cons_self one_q (lamS_by (sc := defScope s__law_refused) (by decide +kernel)) rfl) (pa_cons (pe_lamV (T := tabs Pt) (params := lamP (e91)) (body := lamB (e91)) (scope := lamSc (e91)) TB rfl List.mem_cons_self one_q (lamS_by (sc := defScope s__law_refused) (by decide +kernel)) rfl) pa_nil)))) (pg_name (i := 7) sc__law_refused.nd rfl (by first | exact .inl rfl | exact .inr rfl)) (pss_cons (ps_set (i := 8) sc__law_refused.nd rfl (by first | exact .inl rfl | exact .inr rfl) (pe_callL (kb := 7) (k := 9) (i := 7) (sp := fun f pre t => spCaughtL K T.reel.C f pre t) [⟨lamP e90, lamB e90, lamSc e90, _⟩, ⟨lamP e91, lamB e91, lamSc e91, _⟩] ((ok_cons ⟨(show LamS (defScope s__law_refused) (lamSc e90) from lamS_by (by decide +kernel)), fun _ _ _ _ _ => rfl, fun A outer s H E f c' h => (pe_call (ok_guess T SH BE Z BM kT) (h.mono (by decide)) (by rfl) T.guess.m T.guess.f.kp (bd_guess T) .nil (passX rfl rfl rfl rfl) (pa_cons (pv 1) (pa_cons (pv 2) (pa_cons (pv 9) (pa_cons pe_non pa_nil)))))⟩ (ok_cons ⟨(show LamS (defScope s__law_refused) (lamSc e91) from lamS_by (by decide +kernel)), fun _ _ _ _ _ => rfl, fun A outer s H E f c' h => (pe_call (ok_reads_within T SH BE Z BM kT) (h.mono (by decide)) (by rfl) T.reads_within.m T.reads_within.f.kp (bd_reads_within T) .nil (passX rfl rfl rfl rfl) (pa_cons (pv 1) (pa_cons (pv 2) (pa_cons (pv 9) pa_nil))))⟩ ok_nil))) (fun H0 h0 f pre t' Wk => caught_workL Wk T._law_caught.f sc__law_caught rfl rfl rfl rfl rfl T.reel.g (by decide) (by decide) (by decide) (by decide) (by decide) (by decide) (by decide)) (by rfl) T._law_caught.m T._law_caught.f.kp (bd__law_caught T) passE (hr.mono (by decide)) hg rfl (.inl rfl)))
      (pss_one (ps_if (PW.pt (pw_or (pt_not (pt_val (pe_callB (show CallR _ _ (rIs3 K) from call_is3) (by rfl) T.b_isinstance PyProof.Rows.boot_isinstance (pa_cons (pv 8) (pa_cons (pe_glob (v := .ref BM.C) (by rfl) BM.g rfl) pa_nil))))) (pw_or1 (pt_cmpR op_ne (pe_callB (show CallR _ _ KRY.rReprY from KRY.call_reprY hg hr) (by rfl) T.b_repr (by decide +kernel) (pa_cons (pe_upGet BM.u (pv 8)) pa_nil)) (pe_callB (show CallR _ _ KRY.rReprY from KRY.call_reprY hg hr) (by rfl) T.b_repr (by decide +kernel) (pa_cons (pv 9) pa_nil)) (nomark _))))) (pss_one (ps_ret pe_bl)) pss_nil)))), fun D st lg cl fa p pa h wn lo hi b nss m H v4 v5 v6 v7 v8 v9 v10 v11 v12 v13 v14 xo xw xb hm B vb bad k => ?_⟩
  obtain ⟨bo, bs, bq⟩ := bad
  refine ⟨B.Tb, fun Ha ea Ta f1 c1 hf1 hc1 => ⟨Ta.ext (Same.new hf1), fun Hb eb Tb f2 c2 hf2 hc2 => ⟨(by show 2 ≤ sizeLine; decide), fun pl hpl => ?_⟩⟩⟩
  obtain ⟨Ba, l1, ka⟩ := lam_stepR (L1 := LamO (envOfC "_law_refused" (defScope s__law_refused) s0.heap.objs.size T._law_refused.a (.ref c)) (lamP e90) (lamB e90) (lamSc e90) f1 c1) B ea Ta hf1 hc1
  obtain ⟨Bb, l2, kb⟩ := lam_stepR (L1 := LamO (envOfC "_law_refused" (defScope s__law_refused) s0.heap.objs.size T._law_refused.a (.ref c)) (lamP e91) (lamB e91) (lamSc e91) f2 c2) Ba eb Tb hf2 hc2
  have l1 := (l1.ext lamO_tbl eb).same (Same.new (o := LamO (envOfC "_law_refused" (defScope s__law_refused) s0.heap.objs.size T._law_refused.a (.ref c)) (lamP e91) (lamB e91) (lamSc e91) f2 c2) hf2)
  have BB := Bb.same (Same.new (o := .lst [V.ref f1, V.ref f2]) hpl)
  have kB := (ka.trans kb).trans (.new (o := .lst [V.ref f1, V.ref f2]) hpl)
  have l1 := l1.same (Same.new (o := .lst [V.ref f1, V.ref f2]) hpl)
  have l2 := l2.same (Same.new (o := .lst [V.ref f1, V.ref f2]) hpl)
  clear Bb kb eb Tb Ba ka ea Ta hc1 hc2
  refine ⟨pl, rfl, ⟨_, SqL.of upd_same⟩, for_list (xs := [V.ref f1, V.ref f2]) (fun _ σ H' => (∃ v7 v8, σ = (sr st fa p pa v4 v5 v6 v7 v8 (some xb) v10 (some xo) v12 (some xw) v14)) ∧ RB SH.C Pt st lg cl fa p pa h wn lo hi b nss m H' ∧ KpN st lg H H' ∧ Lm H' f1 c1 (LamO (envOfC "_law_refused" (defScope s__law_refused) s0.heap.objs.size T._law_refused.a (.ref c)) (lamP e90) (lamB e90) (lamSc e90) f1 c1) lamQ ∧ Lm H' f2 c2 (LamO (envOfC "_law_refused" (defScope s__law_refused) s0.heap.objs.size T._law_refused.a (.ref c)) (lamP e91) (lamB e91) (lamSc e91) f2 c2) lamQ ∧ H' pl = some (.lst [V.ref f1, V.ref f2])) ⟨⟨_, _, rfl⟩, BB, kB, l1, l2, upd_same⟩ (fun i σ H' _ h => SqL.of h.2.2.2.2.2) ?_ fun σ' H' ⟨⟨v7, v8, e⟩, B', k', _⟩ => by rw [e]; exact k H' v7 v8 B' k'⟩
  clear l1 l2 BB kB
  rintro i x σ H' hx ⟨⟨v7, v8, rfl⟩, B', kn, l1, l2, hl⟩
  have hx2 : x = V.ref f1 ∨ x = V.ref f2 := by
    have := List.mem_of_getElem? hx
    simpa only [List.mem_cons, List.not_mem_nil, or_false] using this
  rcases hx2 with rfl | rfl
  · refine ⟨_, List.mem_cons_self, f1, c1, rfl, l1.f, l1.c, rfl, ⟨l1.f, l1.c⟩, fun Q1 hQ1 => ⟨_, rfl, _, rfl, _, rfl, _, _, _, _, rfl, .inl ⟨h, wn, lo, hi, B'.sv, some (bkV b), .tup B'.hp (bk_pl b) (by show 3 ≤ 1000; decide), fun e => (by rw [blkB_iff.mpr ⟨b, vb, rfl⟩] at e; cases e), fun p' b' e1 e2 v' => ?_⟩⟩⟩
    obtain rfl : p = p' := by cases e1; rfl
    obtain rfl : b = b' := bkV_inj (by rw [B'.hp] at e2; exact HO.tup.inj (Option.some.inj e2))
    refine ⟨(bq _ kn).1, fun _ H2 d s2 hd => ⟨bm_exm T.reel BM, fun a ha => ?_⟩, fun md e ok => ?_⟩
    · have e2 : (upd (upd H2 d (.xd [("mode", xb)])) a (ExV (.ref BM.C) (some d) a)) d = some (.xd [("mode", xb)]) := (upd_ne (ne_of_none upd_same ha)).trans upd_same
      have sm := s2.trans ((Same.new (o := .xd [("mode", xb)]) hd).trans (Same.new (o := ExV (.ref BM.C) (some d) a) ha))
      have yt := (bq _ (kn.trans (.kp (.same sm)))).2
      refine ⟨_, rfl, .inr ⟨a, BM.C, d, _, _, _, true, rfl, upd_same, e2, BM.x, .own _, kit_self, _, rfl, ?_⟩⟩
      refine iteF ⟨_, rfl, a, d, _, rfl, upd_same, e2, xb, bs, rfl, yt, _, rfl, xb, bs, rfl, yt, rfl, _, rfl, ?_⟩
      rw [decide_eq_true rfl]
      exact iteF ⟨⟨_, _, rfl⟩, B'.same sm, kn.trans (.kp (.same sm)), l1.same sm, l2.same sm, sm _ _ hl⟩
    · have := inY_iff.mpr ⟨md, e, ok⟩
      rw [bo] at this
      cases this
  · refine ⟨_, (List.mem_cons_of_mem _ List.mem_cons_self), f2, c2, rfl, l2.f, l2.c, rfl, ⟨l2.f, l2.c⟩, fun Q1 hQ1 => ⟨_, rfl, _, rfl, _, rfl, _, _, _, rfl, .inl ⟨h, wn, lo, hi, B'.sv, some (bkV b), .tup B'.hp (bk_pl b) (by show 3 ≤ 1000; decide), fun e => (by rw [blkB_iff.mpr ⟨b, vb, rfl⟩] at e; cases e), fun p' b' e1 e2 v' => ?_⟩⟩⟩
    obtain rfl : p = p' := by cases e1; rfl
    obtain rfl : b = b' := bkV_inj (by rw [B'.hp] at e2; exact HO.tup.inj (Option.some.inj e2))
    refine ⟨(bq _ kn).1, fun _ H2 d s2 hd => ⟨bm_exm T.reel BM, fun a ha => ?_⟩, fun md e ok => ?_⟩
    · have e2 : (upd (upd H2 d (.xd [("mode", xb)])) a (ExV (.ref BM.C) (some d) a)) d = some (.xd [("mode", xb)]) := (upd_ne (ne_of_none upd_same ha)).trans upd_same
      have sm := s2.trans ((Same.new (o := .xd [("mode", xb)]) hd).trans (Same.new (o := ExV (.ref BM.C) (some d) a) ha))
      have yt := (bq _ (kn.trans (.kp (.same sm)))).2
      refine ⟨_, rfl, .inr ⟨a, BM.C, d, _, _, _, true, rfl, upd_same, e2, BM.x, .own _, kit_self, _, rfl, ?_⟩⟩
      refine iteF ⟨_, rfl, a, d, _, rfl, upd_same, e2, xb, bs, rfl, yt, _, rfl, xb, bs, rfl, yt, rfl, _, rfl, ?_⟩
      rw [decide_eq_true rfl]
      exact iteF ⟨⟨_, _, rfl⟩, B'.same sm, kn.trans (.kp (.same sm)), l1.same sm, l2.same sm, sm _ _ hl⟩
    · have := inY_iff.mpr ⟨md, e, ok⟩
      rw [bo] at this
      cases this
end
end K05
namespace K05
open PySem PySem.Spec PyProof.Rows L2 PySem.W LamX KA KW KU KL
open Evl (pss_cut tCut)
/-! ### what is refused: the end -/
def BadP (K : PySem.W.Frag) (h w : Nat) (lo hi : Int) (st lg : Addr) (H : Hp) (x : V) : Prop := ∃ op, planeB op h w lo hi = false ∧ ∀ H', KpN st lg H H' → Th K H' x op ∧ ∀ a nss', x = .ref a → Pn H' a nss' w → nss'.length = h → False
theorem BadP.kn {K : PySem.W.Frag} {st lg : Addr} {H H' : Hp} {x : V} {h w : Nat} {lo hi : Int} (q : BadP K h w lo hi st lg H x) (k : KpN st lg H H') : BadP K h w lo hi st lg H' x := by
  obtain ⟨op, e, q⟩ := q
  exact ⟨op, e, fun H2 k2 => q H2 (k.trans k2)⟩
theorem fash5 {i : Nat} {x : V} (h : [V.str "flat", .str "left", .str "up", .str "middle", .str "mean"][i]? = some x) : ∃ m : Md, x = .str m.s ∧ (i = 0 → m = .flat) := by
  match i, h with
  | 0, h => cases h; exact ⟨.flat, rfl, fun _ => rfl⟩
  | 1, h => cases h; exact ⟨.left, rfl, fun z => by cases z⟩
  | 2, h => cases h; exact ⟨.up, rfl, fun z => by cases z⟩
  | 3, h => cases h; exact ⟨.middle, rfl, fun z => by cases z⟩
  | 4, h => cases h; exact ⟨.mean, rfl, fun z => by cases z⟩
section
variable {P : Program} {w : World} {K : PySem.W.Frag} {mg : Str → Option Value} {base : Heap} (T : Top K mg) (SH : ShapeT K mg) (BE : BadShapeT P w K mg T.reel.C) (Z : SzT K mg)
variable (BM : BadModeT P w K mg T.reel.C) (kT : PySem.W.kitOne K (.type "tuple") (.ref SH.C) = some false)
variable {c : Addr} {A : Around} {outer : List Env} {s0 : Shared} {H0 : Hp} {E0 : XK} (hr : Room 9 (A.deeper (envOfC "_law_refused" (defScope s__law_refused) s0.heap.objs.size T._law_refused.a (.ref c)))) (hg : A.guards = some [])
include hr in
theorem segR10 {Pt : Addr} : ∃ t, PS (RX P w base T c A outer s0 H0 E0) (stR 10) t ∧ ∀ (D : Ends) (st lg cl fa p pa : Addr) (h wn : Nat) (lo hi : Int) (b : Bk) (nss : List (List Int)) (m : Nat) (H : Hp) (v4 v5 v6 v7 v8 v9 v10 v11 v12 v13 v14 : Option V), m ≤ 900000 → RB SH.C Pt st lg cl fa p pa h wn lo hi b nss m H →
    nss.length = h → (∀ xp H', RB SH.C Pt st lg cl fa p pa h wn lo hi b nss (m + 1) H' → BadP K h wn lo hi st lg H' xp → KpN st lg H H' → D.nx (sr st fa p pa v4 v5 v6 v7 v8 v9 v10 v11 (some xp) v13 v14) H') → t D (sr st fa p pa v4 v5 v6 v7 v8 v9 v10 v11 v12 v13 v14) H := by
  refine ⟨_, (ps_set (i := 12) sc__law_refused.nd rfl (by first | exact .inl rfl | exact .inr rfl) (pe_call (ok_pick T) (hr.mono (by decide)) (by rfl) T._law_pick.m T._law_pick.f.kp (bd__law_pick T) .nil passE (pa_cons (pv 0) (pa_cons (pe_lst (pa_cons pe_non (pa_cons (pe_slice sl_tup (pv 3) (po_some pe_int) po_none) (pa_cons (pe_callTy call_list_of (by rfl) T.b_list (by decide +kernel) (pa_cons (pv 3) pa_nil)) pa_nil)))) pa_nil)))), fun D st lg cl fa p pa h wn lo hi b nss m H v4 v5 v6 v7 v8 v9 v10 v11 v12 v13 v14  hm B lnh k => ?_⟩
  obtain ⟨vs, ea, rw'⟩ := B.pn.rows
  have l1 := B.pn.h1
  have l2 := B.pn.h2
  have lv : vs.length = nss.length := rw'.1
  have sx : HT.sIx vs.length 0 (some 1) = 1 := by
    have := HT.sIx_nat vs.length 0 1
    rw [show ((1 : Nat) : Int) = 1 from rfl] at this
    rw [this]
    omega
  have ec : cutV vs (some 1) none = vs.drop 1 := by
    unfold cutV
    rw [sx]
    show ((vs.drop 1).take (vs.length - 1)) = vs.drop 1
    rw [List.take_of_length_le (by rw [List.length_drop]; exact Nat.le_refl _)]
  refine ⟨_, rfl, _, rfl, _, rfl, pa, vs, rfl, SqT.of ea, (by rw [sx]; simp), fun ta hta => ?_⟩
  rw [ec]
  have t1 := Same.new (o := .tup (vs.drop 1)) hta
  have e1 : (upd H ta (.tup (vs.drop 1))) ta = some (.tup (vs.drop 1)) := upd_same
  generalize upd H ta (.tup (vs.drop 1)) = H1 at t1 e1 ⊢
  refine ⟨_, rfl, pa, vs, rfl, .inr (SqT.of (t1 _ _ ea)), fun tb htb => ⟨(by show 3 ≤ sizeLine; decide), fun q hq => ?_⟩⟩
  have t2 := Same.new (o := .lst vs) htb
  have e2 : (upd H1 tb (.lst vs)) tb = some (.lst vs) := upd_same
  have n2 := (B.S.same t1).off htb
  generalize upd H1 tb (.lst vs) = H2 at t2 e2 hq ⊢
  have S2 := (B.S.same t1).same t2
  have t3 := Same.new (o := .lst [V.non, .ref ta, .ref tb]) hq
  have S3 := S2.same t3
  refine ⟨st, lg, cl, q, _, m, rfl, upd_same, (S2.off hq).2, (by show 0 < 3; decide), (by show 3 ≤ 1000; decide), by omega, S3, fun x H' hx S' kp => ?_⟩
  have kA : Kp st lg H H' := (Kp.same (t1.trans (t2.trans t3))).trans kp
  have f1 : H' ta = some (.tup (vs.drop 1)) := Kp.tp S3 kp _ _ ((t2.trans t3) _ _ e1)
  have f2 : H' tb = some (.lst vs) := kp _ _ (t3 _ _ e2) n2.1 n2.2
  have B' := B.kp kA S'
  have r' : Rows H' vs nss := rw'.tp (Kp.tp B.S kA)
  refine k x H' B' ?_ (.kp kA)
  simp only [List.mem_cons, List.not_mem_nil, or_false] at hx
  rcases hx with z | z | z <;> subst z
  · exact ⟨none, rfl, fun H2 k2 => ⟨.no .non, fun a nss' e => by cases e⟩⟩
  · refine ⟨some ((nss.drop 1).map fun ns => some (ns.map V.int)), ?_, fun H2 k2 => ⟨.tup (KpN.tp S' k2 _ _ f1) ⟨by simp [lv], fun i v hi => ?_⟩ (by simp; omega), fun a nss' e pn' ln' => ?_⟩⟩
    · unfold planeB
      dsimp only
      rw [List.length_map, List.length_drop, lnh, decide_eq_false (show ¬ ((h - 1 : Nat) : Int) = (h : Int) by omega)]
      simp
    · rw [List.getElem?_drop] at hi
      obtain ⟨b1, ns, rfl, hn, eb⟩ := (r'.tp (KpN.tp S' k2)).2 _ _ hi
      refine ⟨some (ns.map V.int), by rw [List.getElem?_map, List.getElem?_drop, hn]; rfl, .tup eb plI ?_⟩
      have := B.pn.ws ns (List.mem_of_getElem? hn)
      have := B.pn.w2
      rw [List.length_map]
      omega
    · cases e
      obtain ⟨vs2, z1, z2⟩ := pn'.rows
      rw [KpN.tp S' k2 _ _ f1] at z1
      have z1 := HO.tup.inj (Option.some.inj z1)
      have := z2.1
      rw [← z1, List.length_drop] at this
      omega
  · refine ⟨none, rfl, fun H2 k2 => ⟨.no (.lst (k2 _ _ f2 n2.1 n2.2 fun _ z => by cases z)), fun a nss' e pn' ln' => ?_⟩⟩
    cases e
    obtain ⟨vs2, z1, z2⟩ := pn'.rows
    rw [k2 _ _ f2 n2.1 n2.2 fun _ z => by cases z] at z1
    cases z1
include hr in
theorem segR11 {Pt : Addr} : ∃ t, PS (RX P w base T c A outer s0 H0 E0) (stR 11) t ∧ ∀ (D : Ends) (st lg cl fa p pa : Addr) (h wn : Nat) (lo hi : Int) (b : Bk) (nss : List (List Int)) (m : Nat) (H : Hp) (v4 v5 v6 v7 v8 v9 v10 v11 v12 v13 v14 : Option V), m ≤ 900000 → RB SH.C Pt st lg cl fa p pa h wn lo hi b nss m H →
    (∀ (md : Md) H', RB SH.C Pt st lg cl fa p pa h wn lo hi b nss (m + 1) H' → md.ok b → KpN st lg H H' → D.nx (sr st fa p pa v4 v5 v6 v7 v8 v9 (some (.str md.s)) v11 v12 v13 v14) H') → t D (sr st fa p pa v4 v5 v6 v7 v8 v9 v10 v11 v12 v13 v14) H := by
  refine ⟨_, (ps_set (i := 10) sc__law_refused.nd rfl (by first | exact .inl rfl | exact .inr rfl) (pe_call (ok_pick T) (hr.mono (by decide)) (by rfl) T._law_pick.m T._law_pick.f.kp (bd__law_pick T) .nil passE (pa_cons (pv 0) (pa_cons (pe_lc (own := [("each", 14)]) (g := gName 14) rfl sc__law_refused.nd (pi_list (pe_slice sl_list (pe_call0 (ok_fash T) (hr.mono (by decide)) (by rfl) T._law_fashions.m T._law_fashions.f.kp (bd__law_fashions T) .nil passE) po_none (po_some pe_int))) (blkOk_by (own := [("each", 14)]) (N := ["state", "form", "square", "pane", "some", "top", "left", "work", "caught", "bad", "fashion", "odd", "worse", "wrong", "each"]) (sc := defScope s__law_refused) (by decide +kernel))
        (fun _ _ _ _ _ => pg_name (i := 14) sc__law_refused.nd rfl (Or.inl rfl)) (fun _ _ _ _ _ => pts_one (pt_val (pe_call (ok_stands T) (hr.mono (by decide)) (by rfl) T._law_stands.m T._law_stands.f.kp (bd__law_stands T) .nil passE (pa_cons (pv 2) (pa_cons (pv 14) (pa_cons pe_int pa_nil)))))) (fun _ _ _ _ _ => (pv 14))) pa_nil)))), fun D st lg cl fa p pa h wn lo hi b nss m H v4 v5 v6 v7 v8 v9 v10 v11 v12 v13 v14  hm B k => ?_⟩
  refine ⟨_, rfl, rfl, fun q0 H1 s1 n1 e1 => ⟨_, rfl, q0, _, rfl, SqL.of e1, fun l hl => ?_⟩⟩
  have ec : cutV fashL none (some 5) = [V.str "flat", .str "left", .str "up", .str "middle", .str "mean"] := rfl
  rw [ec]
  have t1 := s1.trans (Same.new (o := .lst [V.str "flat", .str "left", .str "up", .str "middle", .str "mean"]) hl)
  have e1 : (upd H1 l (.lst [V.str "flat", .str "left", .str "up", .str "middle", .str "mean"])) l = some (.lst [V.str "flat", .str "left", .str "up", .str "middle", .str "mean"]) := upd_same
  generalize upd H1 l (.lst [V.str "flat", .str "left", .str "up", .str "middle", .str "mean"]) = H2 at t1 e1 ⊢
  have s5 : 100 ≤ sizeLine := by decide
  refine ⟨l, rfl, ⟨_, SqL.of e1⟩, fun D2 hD => lc_it walk_list (fun i H' => ∃ ws, H' D2 = some (.lst ws) ∧ Same H2 H' ∧ ws.length ≤ i ∧ (0 < i → 0 < ws.length) ∧ ∀ u ∈ ws, ∃ m : Md, u = .str m.s ∧ m.ok b) ⟨[], upd_same, Same.new hD, Nat.le_refl _, fun z => z, fun u hu => by cases hu⟩ (fun _ H' _ q' => SqL.of (q'.elim fun _ q => q.2.1 _ _ e1)) ?_ ?_⟩
  · rintro i x Hq Hr hi ⟨ws, ew, sw, lw, pw, aw⟩ ⟨rfl, hx⟩
    obtain ⟨md, rfl, m0⟩ := fash5 hx
    have hi : i < 5 := hi
    refine ⟨rfl, ?_⟩
    refine ⟨_, rfl, _, rfl, p, b, _, 0, _, rfl, (t1.trans sw) _ _ B.hp, stands_val, fun H3 s3 => ⟨_, rfl, ?_⟩⟩
    cases hs : standB b md
    · refine iteF ⟨ws, s3 _ _ ew, sw.trans s3, by omega, fun _ => ?_, aw⟩
      by_cases c : i = 0
      · rw [m0 c] at hs
        cases hs
      · exact pw (by omega)
    · refine iteT ⟨_, rfl, ws, s3 _ _ ew, by omega, ws ++ [.str md.s], upd_same, putN (sw.trans s3) hD, by rw [List.length_append, List.length_singleton]; omega, fun _ => by rw [List.length_append, List.length_singleton]; omega, fun u hu => ?_⟩
      rcases List.mem_append.mp hu with z | z
      · exact aw u z
      · exact ⟨md, List.mem_singleton.mp z, standB_iff.mp hs⟩
  rintro H3 ⟨ws, ew, sw, lw, pw, aw⟩
  have lw : ws.length ≤ 5 := lw
  have pw : 0 < ws.length := pw (by show 0 < 5; decide)
  have s3 := t1.trans sw
  refine ⟨st, lg, cl, D2, ws, m, rfl, ew, ((B.S.same t1).off hD).2, pw, by omega, by omega, B.S.same s3, fun x H' hx S' kp => ?_⟩
  obtain ⟨md, rfl, ok⟩ := aw x hx
  have kA : Kp st lg H H' := (Kp.same s3).trans kp
  exact k md H' (B.kp kA S') ok (.kp kA)
include hr hg BE Z BM kT in
theorem segR12 {Pt : Addr} (TB : TabB base mg c Pt) : ∃ t, PS (RX P w base T c A outer s0 H0 E0) (stR 12) t ∧ ∀ (D : Ends) (st lg cl fa p pa : Addr) (h wn : Nat) (lo hi : Int) (b : Bk) (nss : List (List Int)) (m : Nat) (H : Hp) (v4 v5 v6 v7 v8 v9 v10 v11 v12 v13 v14 : Option V) (md : Md) (xp : V), m ≤ 900000 → RB SH.C Pt st lg cl fa p pa h wn lo hi b nss m H →
    Vb h wn b → md.ok b → BadP K h wn lo hi st lg H xp → (∀ H', RB SH.C Pt st lg cl fa p pa h wn lo hi b nss m H' → KpN st lg H H' → D.rt (.bl true) H') → t D (sr st fa p pa v4 v5 v6 v7 v8 v9 (some (.str md.s)) v11 (some xp) v13 v14) H := by
  refine ⟨_, (ps_ret (pe_callB (show CallR _ _ (rIs2 K) from call_is2) (by rfl) T.b_isinstance PyProof.Rows.boot_isinstance (pa_cons (pe_caught1 T TB rfl (show Room (7 + 2) _ from hr) (by rfl) List.mem_cons_self one_q (lamS_by (sc := defScope s__law_refused) (by decide +kernel)) rfl (fun _ _ _ _ _ => rfl) (fun A outer s H E f c' h => (pe_call (ok_guess T SH BE Z BM kT) (h.mono (by decide)) (by rfl) T.guess.m T.guess.f.kp (bd_guess T) .nil (passX rfl rfl rfl rfl) (pa_cons (pv 1) (pa_cons (pv 2) (pa_cons (pv 10) (pa_cons (pv 12) pa_nil))))))) (pa_cons (pe_glob (v := .ref T.BadPlane.C) (by rfl) T.BadPlane.g rfl) pa_nil)))), fun D st lg cl fa p pa h wn lo hi b nss m H v4 v5 v6 v7 v8 v9 v10 v11 v12 v13 v14 md xp hm B vb ok bp k => ?_⟩
  obtain ⟨op, pf, pq⟩ := bp
  refine caught_err1 (m' := m) T T.BadPlane B.Tb B.S (fun H1 E1 Q1 e1 S1 k1 => ?_) (fun a H1 S1 Tb1 kN ha na nb => ?_)
  · have kx : KpN st lg H H1 := .ext e1
    have sv1 := B.sv.kn B.S kx
    have hp1 := KpN.tp B.S kx _ _ B.hp
    refine ⟨_, rfl, _, rfl, _, rfl, _, rfl, _, _, _, _, rfl, .inl ⟨h, wn, lo, hi, sv1, some (bkV b), .tup hp1 (bk_pl b) (by show 3 ≤ 1000; decide), fun e => (by rw [blkB_iff.mpr ⟨b, vb, rfl⟩] at e; cases e), fun p' b' e1' e2' v' => ?_⟩⟩
    obtain rfl : p = p' := by cases e1'; rfl
    obtain rfl : b = b' := bkV_inj (by rw [hp1] at e2'; exact HO.tup.inj (Option.some.inj e2'))
    refine ⟨.str _ (by cases md <;> decide +kernel), fun hI => (by rw [inY_iff.mpr ⟨md, rfl, ok⟩] at hI; cases hI), fun m' e ok' => ⟨op, (pq _ kx).1, fun _ H2 s2 => k1 H2 (Kp.same s2) (S1.same s2), fun a nss' e3 pn' ln' _ => ((pq _ kx).2 a nss' e3 pn' ln').elim⟩⟩
  · exact .inr ⟨a, T.BadPlane.C, _, _, true, rfl, ha, T.BadPlane.e, .own _, kit_self, k H1 (B.kn kN S1 Tb1) kN⟩
end
def spRefused (C : Addr) (Pt : Addr) : Sp := fun vs H Q _ => ∃ (st lg cl fa p pa : Addr) (h w : Nat) (lo hi : Int) (b : Bk) (nss : List (List Int)) (m : Nat), vs = [.ref st, .ref fa, .ref p, .ref pa] ∧ m ≤ 890000 ∧ RB C Pt st lg cl fa p pa h w lo hi b nss m H ∧ Vb h w b ∧ nss.length = h ∧
  ∀ H', StAt H' st lg cl (m + 6) → Tabs (tabs Pt) H' → KpN st lg H H' → Q (.bl true) H'
section
variable {P : Program} {w : World} {K : PySem.W.Frag} {mg : Str → Option Value} {base : Heap} (T : Top K mg) (SH : ShapeT K mg) (BE : BadShapeT P w K mg T.reel.C) (Z : SzT K mg)
variable (BM : BadModeT P w K mg T.reel.C) (kT : PySem.W.kitOne K (.type "tuple") (.ref SH.C) = some false)
include BE Z BM kT in
theorem ok_refused {c Pt : Addr} (LT : LamT K "_law_refused" s__law_refused T._law_refused.a T._law_refused.d c Pt) (TB : TabB base mg c Pt) : FnG P w K mg base (L2.CX P w) 10 T._law_refused.a T._law_refused.d ["state", "form", "square", "pane"] (spRefused SH.C Pt) := by
  refine fnG_ofC (N := ["state", "form", "square", "pane", "some", "top", "left", "work", "caught", "bad", "fashion", "odd", "worse", "wrong", "each"]) LT sc__law_refused (fun vs H Q E h => ?_) (fun A outer s0 H vs Q E hr hg h => ?_)
  · obtain ⟨st, lg, cl, fa, p, pa, h, w, lo, hi, b, nss, m, rfl, _⟩ := h
    rfl
  · obtain ⟨st, lg, cl, fa, p, pa, h, wn, lo, hi, b, nss, m, rfl, hm, B, vb, ln, k⟩ := h
    obtain ⟨t0, p0, r0⟩ := segR0 T SH (Pt := Pt) (c := c) (A := A) (outer := outer) (s0 := s0) (H0 := H) (E0 := E) hr
    obtain ⟨t1, p1, r1⟩ := segR1 T SH (Pt := Pt) (c := c) (A := A) (outer := outer) (s0 := s0) (H0 := H) (E0 := E) hr
    obtain ⟨t2, p2, r2⟩ := segR2 T SH (Pt := Pt) (c := c) (A := A) (outer := outer) (s0 := s0) (H0 := H) (E0 := E) 
    obtain ⟨t3, p3, r3⟩ := segR3 T SH (Pt := Pt) (c := c) (A := A) (outer := outer) (s0 := s0) (H0 := H) (E0 := E) 
    obtain ⟨t4, p4, r4⟩ := segR4 T SH (Pt := Pt) (c := c) (A := A) (outer := outer) (s0 := s0) (H0 := H) (E0 := E) hr
    obtain ⟨t5, p5, r5⟩ := segR5 T SH (Pt := Pt) (c := c) (A := A) (outer := outer) (s0 := s0) (H0 := H) (E0 := E) hr
    obtain ⟨t6, p6, r6⟩ := segR6 T SH BE Z BM kT (Pt := Pt) (c := c) (A := A) (outer := outer) (s0 := s0) (H0 := H) (E0 := E) hr hg TB
    obtain ⟨t7, p7, r7⟩ := segR7 T SH BE Z BM kT (Pt := Pt) (c := c) (A := A) (outer := outer) (s0 := s0) (H0 := H) (E0 := E) hr hg TB
    obtain ⟨t8, p8, r8⟩ := segR8 T SH BE Z BM kT (Pt := Pt) (c := c) (A := A) (outer := outer) (s0 := s0) (H0 := H) (E0 := E) hr hg TB
    obtain ⟨t9, p9, r9⟩ := segR9 T SH BE Z BM kT (Pt := Pt) (c := c) (A := A) (outer := outer) (s0 := s0) (H0 := H) (E0 := E) hr hg TB
    obtain ⟨t10, p10, r10⟩ := segR10 T SH (Pt := Pt) (c := c) (A := A) (outer := outer) (s0 := s0) (H0 := H) (E0 := E) hr
    obtain ⟨t11, p11, r11⟩ := segR11 T SH (Pt := Pt) (c := c) (A := A) (outer := outer) (s0 := s0) (H0 := H) (E0 := E) hr
    obtain ⟨t12, p12, r12⟩ := segR12 T SH BE Z BM kT (Pt := Pt) (c := c) (A := A) (outer := outer) (s0 := s0) (H0 := H) (E0 := E) hr hg TB
    refine ⟨_, (pss_cons p0 (pss_cons p1 (pss_cons p2 (pss_cons p3 (pss_cons p4 (pss_cons p5 (pss_cons p6 (pss_cons p7 (pss_cons p8 (pss_cons p9 (pss_cons p10 (pss_cons p11 (pss_one p12))))))))))))), ?_⟩
    refine r0 _ st lg cl fa p pa h wn lo hi b nss m H none none none none none none none none none none none (by omega) B fun xo H1 B1 no1 k1 => ?_
    refine r1 _ st lg cl fa p pa h wn lo hi b nss _ H1 _ _ _ _ _ _ _ _ _ _ _ (by omega) B1 fun xw H2 B2 wr2 k2 => ?_
    refine r2 _ st lg cl fa p pa h wn lo hi b nss _ H2 _ _ _ _ _ _ _ _ _ _ _ (by omega) B2 fun sa us H3 B3 e3 n3 l3 z3 a3 k3 => ?_
    refine r3 _ st lg cl fa p pa h wn lo hi b nss _ H3 _ _ _ _ _ _ _ _ _ _ _ (by omega) B3 fun v5 v6 B3 => ?_
    refine r4 _ st lg cl fa p pa h wn lo hi b nss _ H3 none _ _ _ _ _ _ _ _ _ _ sa us (by omega) B3 e3 l3 z3 a3 fun sa us H4 B4 e4 n4 l4 z4 a4 k4 => ?_
    refine r5 _ st lg cl fa p pa h wn lo hi b nss _ H4 none _ _ _ _ _ _ _ _ _ _ sa us (by omega) B4 e4 n4 l4 z4 a4 fun xb H5 B5 bad5 k5 => ?_
    have k15 := k2.trans (k3.trans (k4.trans k5))
    refine r6 _ st lg cl fa p pa h wn lo hi b nss _ H5 _ _ _ _ _ none _ none _ none _ xo xw xb (by omega) B5 (no1.kn k15) fun H6 v7 v8 B6 k6 => ?_
    have k26 := k3.trans (k4.trans (k5.trans k6))
    refine r7 _ st lg cl fa p pa h wn lo hi b nss _ H6 _ _ _ _ _ none _ none _ none _ xo xw xb (by omega) B6 (wr2.kn k26) fun H7 v7 v8 B7 k7 => ?_
    refine r8 _ st lg cl fa p pa h wn lo hi b nss _ H7 _ _ _ _ _ _ _ _ _ _ _ (by omega) B7 vb fun H8 B8 k8 => ?_
    refine r9 _ st lg cl fa p pa h wn lo hi b nss _ H8 _ _ _ _ _ none _ none _ none _ xo xw xb (by omega) B8 vb (bad5.kn (k6.trans (k7.trans k8))) fun H9 v7 v8 B9 k9 => ?_
    refine r10 _ st lg cl fa p pa h wn lo hi b nss _ H9 _ _ _ _ _ _ _ _ _ _ _ (by omega) B9 ln fun xp H10 B10 bp10 k10 => ?_
    refine r11 _ st lg cl fa p pa h wn lo hi b nss _ H10 _ _ _ _ _ _ _ _ _ _ _ (by omega) B10 fun md H11 B11 ok11 k11 => ?_
    refine r12 _ st lg cl fa p pa h wn lo hi b nss _ H11 _ _ _ _ _ _ none _ none _ _ md xp (by omega) B11 vb ok11 (bp10.kn k11) fun H12 B12 k12 => ?_
    exact k H12 B12.S B12.Tb (k1.trans (k15.trans (k6.trans (k7.trans (k8.trans (k9.trans (k10.trans (k11.trans k12))))))))
end
end K05
namespace K05
open PySem PySem.Spec PyProof.Rows L2 PySem.W LamX KA KW KU KL KT
open Evl (pss_cut tCut)
/-! ### the law's own body: what stands -/
section
variable {K : PySem.W.Frag} {x qual : Str} {st : Stmt} {f : Addr} {fd : FuncData} {ps ks : List Str}
theorem Fun.kw3 {a b c : Str} (F : Fun K x qual st f fd) (h : ∀ (kV doc pm : Value) (an : Option Addr) (cdv ct u v z : Value), bindArgs (PySem.W.fnOf x qual (defArgs st) (defBody st) (defScope st) .none kV doc pm an cdv ct) ⟨[], [(c, u), (b, v), (a, z)]⟩ = pure [(a, z), (b, v), (c, u)]) :
    KBn K fd [a, b, c] 0 [c, b, a] (fun _ ws => ws.reverse) (fun _ zs => zs.reverse) := by
  obtain ⟨oc, od, kV, doc, pm, an, cdv, ct, osl, rfl, lk, hcd⟩ := F.ex
  refine ⟨fun s us ws X l1 l2 => ?_, fun {_ _ zs ws} _ r => ?_⟩
  · match us, ws, l1, l2 with
    | [], [u, v, z], _, _ => exact .of_eq (h kV doc pm an cdv ct u v z)
  · clear h
    have rev : ∀ {zs : List V} {ws : List Value}, Vals zs ws → Vals zs.reverse ws.reverse := fun {zs ws} r => by
      induction r with
      | nil => exact .nil
      | cons h _ ih =>
        rw [List.reverse_cons, List.reverse_cons]
        exact ih.append (.cons h .nil)
    exact rev r
theorem Fun.kw4 {a b c d : Str} (F : Fun K x qual st f fd) (h : ∀ (kV doc pm : Value) (an : Option Addr) (cdv ct u v y z : Value), bindArgs (PySem.W.fnOf x qual (defArgs st) (defBody st) (defScope st) .none kV doc pm an cdv ct) ⟨[], [(d, u), (c, v), (b, y), (a, z)]⟩ = pure [(a, z), (b, y), (c, v), (d, u)]) :
    KBn K fd [a, b, c, d] 0 [d, c, b, a] (fun _ ws => ws.reverse) (fun _ zs => zs.reverse) := by
  obtain ⟨oc, od, kV, doc, pm, an, cdv, ct, osl, rfl, lk, hcd⟩ := F.ex
  refine ⟨fun s us ws X l1 l2 => ?_, fun {_ _ zs ws} _ r => ?_⟩
  · match us, ws, l1, l2 with
    | [], [u, v, y, z], _, _ => exact .of_eq (h kV doc pm an cdv ct u v y z)
  · clear h
    have rev : ∀ {zs : List V} {ws : List Value}, Vals zs ws → Vals zs.reverse ws.reverse := fun {zs ws} r => by
      induction r with
      | nil => exact .nil
      | cons h _ ih =>
        rw [List.reverse_cons, List.reverse_cons]
        exact ih.append (.cons h .nil)
    exact rev r
end
theorem FnG.w {P : Program} {w : World} {K : PySem.W.Frag} {mg : Str → Option Value} {base : Heap} {CX : CXT} {k : Nat} {f : Addr} {fd : FuncData} {ps : List Str} {sp : Sp} {fs : List Addr} {H0 : Hp} {h0 : Heap} (F : FnG P w K mg base CX k f fd ps sp) : FnW P w K mg base fs H0 h0 CX k f fd ps sp :=
  ⟨F.len, fun A outer s H args us vs Q E hr hg e0 _ _ b r h => F.run A outer s H args us vs Q E hr hg e0 b r h⟩
theorem since_self {Z : Cx} (h : Z.ex = []) : Since Z Z.fs Z.H_0 Z.s_0.heap := ⟨Un.kept fun _ _ z => z, fun _ hb => .inl hb, h⟩
def suiteOf : Stmt → List Stmt
  | .For _ _ b _ _ => b
  | _ => []
def stT (i : Nat) : Stmt := (suiteOf ((defBody s_law).getD 1 (.Pass ⟨0, 0, 0, 0⟩))).getD i (.Pass ⟨0, 0, 0, 0⟩)
def stS (i : Nat) : Stmt := (suiteOf (stT 2)).getD i (.Pass ⟨0, 0, 0, 0⟩)
def stF (i : Nat) : Stmt := (suiteOf (stS 1)).getD i (.Pass ⟨0, 0, 0, 0⟩)
abbrev LX (P : Program) (w : World) {K : PySem.W.Frag} {mg : Str → Option Value} (base : Heap) (T : Top K mg) (cdv : Value) (A : Around) (outer : List Env) (s0 : Shared) (H0 : Hp) (E0 : XK) : Cx :=
  cxOf (L2.CX P w) P w K mg base ["script", "state", "turn", "scope", "form", "pane", "square", "sort_here", "due", "told", "fashion", "dots", "aims", "other", "most", "more", "each", "item", "aim"] "law" (defScope s_law) T.law.a cdv A outer s0 H0 E0
abbrev sl (a st sa fa pa : Addr) (v2 : Option V) (v6 v7 v8 v9 v10 v11 v12 v13 v14 v15 v16 v17 v18 : Option V) : L2.St := [some (.ref a), some (.ref st), v2, some (.ref sa), some (.ref fa), some (.ref pa), v6, v7, v8, v9, v10, v11, v12, v13, v14, v15, v16, v17, v18]
/-- the scope, the form and the plane stand -/
structure LB (C Pt st lg cl sa fa pa : Addr) (h w : Nat) (lo hi : Int) (nss : List (List Int)) (m : Nat) (H : Hp) : Prop where
  S : StAt H st lg cl m
  Tb : Tabs (tabs Pt) H
  sc : ScV H sa (h : Int) (w : Int) lo hi
  ns : sa ≠ st ∧ sa ≠ lg
  sv : Sv C H (.ref fa) h w lo hi
  pn : Pn H pa nss w
  ln : nss.length = h
  bd : ∀ ns ∈ nss, ∀ n ∈ ns, lo ≤ n ∧ n ≤ hi
section
variable {C Pt st lg cl sa fa pa : Addr} {h w : Nat} {lo hi : Int} {nss : List (List Int)} {m m' : Nat} {H H' : Hp}
theorem LB.kn (B : LB C Pt st lg cl sa fa pa h w lo hi nss m H) (k : KpN st lg H H') (S : StAt H' st lg cl m') (Tb : Tabs (tabs Pt) H') : LB C Pt st lg cl sa fa pa h w lo hi nss m' H' :=
  ⟨S, Tb, B.sc.keep fun o e => k _ _ e B.ns.1 B.ns.2 (fun ps z => by
      subst z
      have := B.sc.d
      rw [e] at this
      cases this), B.ns, B.sv.kn B.S k, B.pn.tp (KpN.tp B.S k), B.ln, B.bd⟩
theorem LB.kp (B : LB C Pt st lg cl sa fa pa h w lo hi nss m H) (k : Kp st lg H H') (S : StAt H' st lg cl m') : LB C Pt st lg cl sa fa pa h w lo hi nss m' H' := B.kn (.kp k) S (tabs_kp B.Tb B.S k)
theorem LB.same (B : LB C Pt st lg cl sa fa pa h w lo hi nss m H) (k : Same H H') : LB C Pt st lg cl sa fa pa h w lo hi nss m H' := B.kp (.same k) (B.S.same k)
theorem LB.mono (B : LB C Pt st lg cl sa fa pa h w lo hi nss m H) (l : m ≤ m') : LB C Pt st lg cl sa fa pa h w lo hi nss m' H := { B with S := B.S.mono l }
theorem LB.scw (B : LB C Pt st lg cl sa fa pa h w lo hi nss m H) : ScW H sa h w := ⟨lo, hi, B.sc⟩
theorem LB.bet (B : LB C Pt st lg cl sa fa pa h w lo hi nss m H) : betB nss lo hi = true := by
  unfold betB
  rw [List.all_eq_true]
  intro ns hn
  rw [List.all_eq_true]
  intro n hnn
  have := B.bd ns hn n hnn
  rw [decide_eq_true this.1, decide_eq_true this.2]
  rfl
end
/-! ### the texts of the modes, shown -/
def standF (b : Bk) (k : Nat) (f : Str) : Bool := match valV (standsD b k) (kS f) with
  | some (.bl r) => r
  | _ => false
def dueS (b : Bk) (k : Nat) : List Str := fashS.filter (standF b k)
theorem stand_at {b : Bk} {k : Nat} {f : Str} (h : f ∈ fashS) : valV (standsD b k) (kS f) = some (.bl (standF b k f)) := by
  unfold fashS at h
  simp only [List.mem_cons, List.not_mem_nil, or_false] at h
  rcases h with z | z | z | z | z | z | z | z <;> subst z <;> rfl
theorem due_modes {b : Bk} {k : Nat} (hk : k ≤ 2) : (dueS b k).map V.str = modesS b k := by
  have f1 : standF b k "flat" = true := rfl
  have f2 : standF b k "left" = decide (0 < b.l) := rfl
  have f3 : standF b k "up" = decide (0 < b.t) := rfl
  have f4 : standF b k "middle" = (decide (0 < b.l) && decide (0 < b.t)) := rfl
  have f5 : standF b k "mean" = (decide (0 < b.l) || decide (0 < b.t)) := rfl
  have f6 : standF b k "copy" = decide (0 < k) := rfl
  have f7 : standF b k "both" = decide (k = 2) := rfl
  have f8 : standF b k "still" = decide (0 < k) := rfl
  unfold dueS fashS modesS modesW
  have hk3 : k = 0 ∨ k = 1 ∨ k = 2 := by omega
  simp only [List.filter_cons, List.filter_nil, f1, f2, f3, f4, f5, f6, f7, f8]
  by_cases c1 : 0 < b.l <;> by_cases c2 : 0 < b.t <;> rcases hk3 with z | z | z <;> subst z <;> simp [c1, c2]
theorem sm_fash : ∀ f ∈ fashS, Sm 17 0 (.str f) := by
  intro f h
  unfold fashS at h
  simp only [List.mem_cons, List.not_mem_nil, or_false] at h
  rcases h with z | z | z | z | z | z | z | z <;> subst z <;> exact ⟨by decide +kernel, by decide +kernel, rfl, rfl, Nat.le_refl _, by decide +kernel⟩
theorem dp_strs {K : PySem.W.Frag} {H : Hp} : ∀ xs : List Str, DpAll K H (xs.map V.str) (xs.map PyData.str)
  | [] => .nil
  | x :: xs => .cons (.str x) (dp_strs xs)
def twiceD (d : PyData) : PyData := .list [d, d]
theorem twice_sm {n z : Nat} {d : PyData} (s : Sm n z d) : Sm ((n + 1) * 2) (z + 1) (twiceD d) := sm_list (fun x hx => by
  simp only [List.mem_cons, List.not_mem_nil, or_false] at hx
  rcases hx with z | z <;> subst z <;> exact s) (by show 2 ≤ 2; decide)
theorem twice_dp {K : PySem.W.Frag} {H : Hp} {L q1 q2 : Addr} {d : PyData} (e : H L = some (.lst [.ref q1, .ref q2])) (d1 : Dp K H (.ref q1) d) (d2 : Dp K H (.ref q2) d) : Dp K H (.ref L) (twiceD d) := .lst (SqL.of e) (.cons d1 (.cons d2 .nil))
def dueD (b : Bk) (k : Nat) : PyData := .list ((dueS b k).map PyData.str)
theorem due_sm {b : Bk} {k : Nat} : Sm 144 1 (dueD b k) := sm_list (n := 17) (z := 0) (k := 8) (fun d hd => by
  obtain ⟨f, hf, rfl⟩ := List.mem_map.mp hd
  exact sm_fash f ((List.mem_filter.mp hf).1)) (by
  rw [List.length_map]
  exact Nat.le_trans (List.length_filter_le _ _) (by decide))
theorem due_dp {K : PySem.W.Frag} {H : Hp} {q : Addr} {b : Bk} {k : Nat} (e : H q = some (.lst ((dueS b k).map V.str))) : Dp K H (.ref q) (dueD b k) := .lst (SqL.of e) (dp_strs _)
section
variable {P : Program} {w : World} {K : PySem.W.Frag} {mg : Str → Option Value} {base : Heap} (T : Top K mg) (SH : ShapeT K mg) (BE : BadShapeT P w K mg T.reel.C) (Z : SzT K mg)
variable (BM : BadModeT P w K mg T.reel.C) (kT : PySem.W.kitOne K (.type "tuple") (.ref SH.C) = some false)
variable {c : Addr} {A : Around} {outer : List Env} {s0 : Shared} {H0 : Hp} {E0 : XK} {Pt : Addr} {cdv : Value} (hr : Room 11 (A.deeper (envOfC "law" (defScope s_law) s0.heap.objs.size T.law.a cdv))) (hg : A.guards = some [])
include hr in
theorem segT0 : ∃ t, PS (LX P w base T cdv A outer s0 H0 E0) (stT 0) t ∧ ∀ (D : Ends) (a st lg cl : Addr) (m : Nat) (H : Hp) (v2 v3 v4 v5 : Option V) (v6 v7 v8 v9 v10 v11 v12 v13 v14 v15 v16 v17 v18 : Option V), m ≤ 800000 → StAt H st lg cl m → Tabs (tabs Pt) H →
    (∀ sa h wn lo hi H', StAt H' st lg cl (m + 4) → Tabs (tabs Pt) H' → ScV H' sa ((h : Nat) : Int) ((wn : Nat) : Int) lo hi → sa ≠ st ∧ sa ≠ lg → D.nx [some (.ref a), some (.ref st), v2, some (.ref sa), v4, v5, v6, v7, v8, v9, v10, v11, v12, v13, v14, v15, v16, v17, v18] H') →
    t D [some (.ref a), some (.ref st), v2, v3, v4, v5, v6, v7, v8, v9, v10, v11, v12, v13, v14, v15, v16, v17, v18] H := by
  refine ⟨_, (ps_set (i := 3) sc_law.nd rfl (by first | exact .inl rfl | exact .inr rfl) (pe_call (ok_scopeF T) (hr.mono (by decide)) (by rfl) T._law_scope.m T._law_scope.f.kp (bd__law_scope T) .nil passE (pa_cons (pv 1) pa_nil))), fun D a st lg cl m H v2 v3 v4 v5 v6 v7 v8 v9 v10 v11 v12 v13 v14 v15 v16 v17 v18 hm S Tb k => ?_⟩
  refine ⟨_, rfl, st, lg, cl, m, rfl, by omega, S, fun sa t wd lo hi H' sc na as al S' kp => ?_⟩
  have h1 := sc.t1
  have h2 := sc.w1
  have e1 : ((t.toNat : Nat) : Int) = t := by omega
  have e2 : ((wd.toNat : Nat) : Int) = wd := by omega
  exact k sa t.toNat wd.toNat lo hi H' S' (tabs_kp Tb S kp) (by rw [e1, e2]; exact sc) ⟨as, al⟩
include hr BE in
theorem segT1 : ∃ t, PS (LX P w base T cdv A outer s0 H0 E0) (stT 1) t ∧ ∀ (D : Ends) (a st lg cl sa : Addr) (h wn : Nat) (lo hi : Int) (m : Nat) (H : Hp) (v2 v4 v5 : Option V) (v6 v7 v8 v9 v10 v11 v12 v13 v14 v15 v16 v17 v18 : Option V), m ≤ 800000 → StAt H st lg cl m → Tabs (tabs Pt) H → ScV H sa ((h : Nat) : Int) ((wn : Nat) : Int) lo hi → sa ≠ st ∧ sa ≠ lg →
    (∀ fa pa nss H', LB SH.C Pt st lg cl sa fa pa h wn lo hi nss (m + 300) H' → D.nx (sl a st sa fa pa v2 v6 v7 v8 v9 v10 v11 v12 v13 v14 v15 v16 v17 v18) H') →
    t D [some (.ref a), some (.ref st), v2, some (.ref sa), v4, v5, v6, v7, v8, v9, v10, v11, v12, v13, v14, v15, v16, v17, v18] H := by
  refine ⟨_, ps_par (i := 4) (j := 5) rfl sc_law.nd rfl rfl (by decide) rfl rfl (pa_cons (pe_call (ok_form5 T SH BE) (hr.mono (by decide)) (by rfl) T._law_form.m T._law_form.f.kp (bd__law_form T) .nil passE (pa_cons (pv 3) pa_nil)) (pa_cons (pe_call (ok_pane T) (hr.mono (by decide)) (by rfl) T._law_pane.m T._law_pane.f.kp (bd__law_pane T) .nil passE (pa_cons (pv 1) (pa_cons (pv 3) pa_nil))) pa_nil)) (by rfl), fun D a st lg cl sa h wn lo hi m H v2 v4 v5 v6 v7 v8 v9 v10 v11 v12 v13 v14 v15 v16 v17 v18 hm S Tb sc ns k => ?_⟩
  refine ⟨_, rfl, sa, h, wn, lo, hi, rfl, sc, fun fa H1 sv _ s1 _ => ⟨_, rfl, _, rfl, st, lg, cl, sa, h, wn, lo, hi, m, rfl, sc.keep (fun o e => s1 _ _ e), ns, by omega, S.same s1, fun pa nss H2 pn ln bd S2 kp => ⟨_, _, rfl, ?_⟩⟩⟩
  have kA : Kp st lg H H2 := (Kp.same s1).trans kp
  exact k fa pa nss H2 ⟨S2, tabs_kp Tb S kA, sc.keep (fun o e => kA _ _ e ns.1 ns.2), ns, sv.kn (S.same s1) (.kp kp), pn, ln, bd⟩
end
end K05
namespace K05
open PySem PySem.Spec PyProof.Rows L2 PySem.W LamX KA KW KU KL KT
open Evl (pss_cut tCut)
/-! ### the law: the modes that can stand, for each kind -/
section
variable {P : Program} {w : World} {K : PySem.W.Frag} {mg : Str → Option Value} {base : Heap} (T : Top K mg) (SH : ShapeT K mg) (BE : BadShapeT P w K mg T.reel.C) (Z : SzT K mg)
variable (BM : BadModeT P w K mg T.reel.C) (kT : PySem.W.kitOne K (.type "tuple") (.ref SH.C) = some false)
variable {c : Addr} {A : Around} {outer : List Env} {s0 : Shared} {H0 : Hp} {E0 : XK} {Pt : Addr} {cdv : Value} (hr : Room 11 (A.deeper (envOfC "law" (defScope s_law) s0.heap.objs.size T.law.a cdv))) (hg : A.guards = some [])
include hr hg BE Z kT in
theorem segS0 : ∃ t, PS (LX P w base T cdv A outer s0 H0 E0) (stS 0) t ∧ ∀ (D : Ends) (a st lg cl sa fa pa : Addr) (h wn : Nat) (lo hi : Int) (nss : List (List Int)) (m : Nat) (H : Hp) (v2 : Option V) (v6 v7 v8 v9 v10 v11 v12 v13 v14 v15 v16 v17 v18 : Option V) (p : Addr) (b : Bk), m ≤ 800000 → LB SH.C Pt st lg cl sa fa pa h wn lo hi nss m H → H p = some (.tup (bkV b)) → Vb h wn b →
    (∀ H' v7 v8 v9, LB SH.C Pt st lg cl sa fa pa h wn lo hi nss m H' → KpN st lg H H' → D.nx (sl a st sa fa pa v2 (some (.ref p)) v7 v8 v9 v10 v11 v12 v13 v14 v15 v16 v17 v18) H') → t D (sl a st sa fa pa v2 (some (.ref p)) v7 v8 v9 v10 v11 v12 v13 v14 v15 v16 v17 v18) H := by
  refine ⟨_, (ps_for (passes_of rfl) rfl (pi_range1 (by rfl) T.b_range (pa_cons pe_int pa_nil)) (pg_name (i := 7) sc_law.nd rfl (by first | exact .inl rfl | exact .inr rfl)) (pss_cons (ps_setLc (i := 8) (own := [("each", 16)]) (g := gName 16) rfl sc_law.nd rfl rfl rfl (pi_list (pe_call0 (ok_fash T) (hr.mono (by decide)) (by rfl) T._law_fashions.m T._law_fashions.f.kp (bd__law_fashions T) .nil passE)) (blkOk_by (own := [("each", 16)]) (N := ["script", "state", "turn", "scope", "form", "pane", "square", "sort_here", "due", "told", "fashion", "dots", "aims", "other", "most", "more", "each", "item", "aim"]) (sc := defScope s_law) (by decide +kernel))
        (fun _ _ _ _ _ => pg_name (i := 16) sc_law.nd rfl (Or.inl rfl)) (fun _ _ _ _ _ => pts_one (pt_val (pe_call (ok_stands T) (hr.mono (by decide)) (by rfl) T._law_stands.m T._law_stands.f.kp (bd__law_stands T) .nil passE (pa_cons (pv 6) (pa_cons (pv 16) (pa_cons (pv 7) pa_nil)))))) (fun _ _ _ _ _ => (pv 16)))
      (pss_cons (ps_expr (pe_bm PySem.F.plainAttrs_list PySem.F.slot_list_append PySem.F.type_list_append mt_append (pe_call (ok_modes_at T SH BE Z kT) (hr.mono (by decide)) (by rfl) T.modes_at.m T.modes_at.f.kp (bd_modes_at T) .nil passE (pa_cons (pv 4) (pa_cons (pv 6) (pa_cons (pv 7) pa_nil)))) (pa_cons pe_non pa_nil)))
      (pss_cons (ps_set (i := 9) sc_law.nd rfl (by first | exact .inl rfl | exact .inr rfl) (pe_lst (pa_cons (pe_call (ok_modes_at T SH BE Z kT) (hr.mono (by decide)) (by rfl) T.modes_at.m T.modes_at.f.kp (bd_modes_at T) .nil passE (pa_cons (pv 4) (pa_cons (pv 6) (pa_cons (pv 7) pa_nil)))) (pa_cons (pe_kw (ok_modes_at T SH BE Z kT) (hr.mono (by decide)) (by rfl) T.modes_at.m T.modes_at.f.kp (Fun.kw3 T.modes_at.f fun _ _ _ _ _ _ _ _ _ => rfl) passE (pk_cons (pv 7) (pk_cons (pv 6) (pk_cons (pv 4) pk_nil)))) pa_nil))))
      (pss_one (ps_if (pt_cmpR op_ne (pe_callB (show CallR _ _ (rRepr K) from call_repr hg hr) (by rfl) T.b_repr (by decide +kernel) (pa_cons (pv 9) pa_nil)) (pe_callB (show CallR _ _ (rRepr K) from call_repr hg hr) (by rfl) T.b_repr (by decide +kernel) (pa_cons (pe_lst (pa_cons (pv 8) (pa_cons (pv 8) pa_nil))) pa_nil)) (nomark _)) (pss_one (ps_ret pe_bl)) pss_nil)))))), fun D a st lg cl sa fa pa h wn lo hi nss m H v2 v6 v7 v8 v9 v10 v11 v12 v13 v14 v15 v16 v17 v18 p b hm B hp vb k => ?_⟩
  have s300 : 301 < sizeLine := by decide
  refine ⟨3, rfl, by decide, by decide, for_range (lo := 0) (n := 3) (fun i σ H' => (∃ v7 v8 v9, σ = (sl a st sa fa pa v2 (some (.ref p)) v7 v8 v9 v10 v11 v12 v13 v14 v15 v16 v17 v18)) ∧ LB SH.C Pt st lg cl sa fa pa h wn lo hi nss m H' ∧ KpN st lg H H') ⟨⟨_, _, _, rfl⟩, B, .refl⟩ ?_ fun σ' H' ⟨⟨v7, v8, v9, e⟩, B', k'⟩ => by rw [e]; exact k H' v7 v8 v9 B' k'⟩
  clear v7 v8 v9
  rintro i σ H1 hi3 ⟨⟨v7, v8, v9, rfl⟩, B1, k1⟩
  have hk : i ≤ 2 := by omega
  rw [Int.zero_add]
  have wi : within (.int (i : Int)) 0 2 = true := by
    simp [within]
    omega
  have S1 := B.S
  have hp1 := KpN.tp S1 k1 _ _ hp
  -- due
  refine ⟨rfl, fun q0 H2 s2 n2 e2 => ⟨q0, rfl, ⟨_, SqL.of e2⟩, fun D2 hD => lc_it walk_list (fun j H' => H' D2 = some (.lst (((fashS.take j).filter (standF b i)).map V.str)) ∧ Same H2 H') ⟨upd_same, Same.new hD⟩ (fun _ H' _ q' => SqL.of (q'.2 _ _ e2)) ?_ ?_⟩⟩
  · rintro j x Hq Hr hj ⟨eD, sD⟩ ⟨rfl, hx⟩
    obtain ⟨f, hf, rfl⟩ : ∃ f, fashS[j]? = some f ∧ V.str f = x := by
      unfold fashL at hx
      rw [List.getElem?_map] at hx
      cases e : fashS[j]? with
      | none =>
        rw [e] at hx
        cases hx
      | some f =>
        rw [e] at hx
        exact ⟨f, rfl, Option.some.inj hx⟩
    have l8 : (((fashS.take j).filter (standF b i)).map V.str).length ≤ 8 := by
      rw [List.length_map]
      refine Nat.le_trans (List.length_filter_le _ _) ?_
      rw [List.length_take]
      exact Nat.min_le_right _ _
    have tk : (fashS.take (j + 1)).filter (standF b i) = (fashS.take j).filter (standF b i) ++ (if standF b i f = true then [f] else []) := by
      rw [List.take_add_one, hf, List.filter_append]
      congr 1
      show ([f].filter (standF b i)) = _
      rw [List.filter_cons]
      rfl
    refine ⟨rfl, ?_⟩
    refine ⟨_, rfl, _, rfl, _, rfl, p, b, f, i, _, rfl, (s2.trans sD) _ _ hp1, stand_at (List.mem_of_getElem? hf), fun H3 s3 => ⟨_, rfl, ?_⟩⟩
    rw [tk]
    cases hs : standF b i f
    · refine iteF ⟨?_, sD.trans s3⟩
      rw [if_neg Bool.false_ne_true, List.append_nil]
      exact s3 _ _ eD
    · refine iteT ⟨_, rfl, _, s3 _ _ eD, by omega, ?_, putN (sD.trans s3) hD⟩
      rw [upd_same, if_pos rfl, List.map_append]
      rfl
  rintro H3 ⟨eD, sD⟩
  rw [List.take_of_length_le (by exact Nat.le_refl _)] at eD
  have eD : H3 D2 = some (.lst ((dueS b i).map V.str)) := eD
  have s13 := s2.trans sD
  have B3 := B1.same s13
  have hp3 := s13 _ _ hp1
  clear e2 n2 sD hD
  have ld : ((dueS b i).map V.str).length ≤ 8 := by
    rw [List.length_map]
    exact Nat.le_trans (List.length_filter_le _ _) (by decide)
  -- a list of one's own
  refine ⟨_, rfl, _, rfl, _, rfl, _, _, _, rfl, .inl ⟨h, wn, lo, hi, B3.sv, some (bkV b), .tup hp3 (bk_pl b) (by show 3 ≤ 1000; decide), fun e => (by rw [blkB_iff.mpr ⟨b, vb, rfl⟩] at e; cases e), fun p' b' e1 e2 v' => ?_⟩⟩
  obtain rfl : p = p' := by cases e1; rfl
  obtain rfl : b = b' := bkV_inj (by rw [hp3] at e2; exact HO.tup.inj (Option.some.inj e2))
  refine ⟨_, .int _, fun e => (by rw [wi] at e; cases e), fun n en hn q4 H4 s4 n4 e4 => ?_⟩
  obtain rfl : i = n := by have := V.int.inj en; omega
  rw [← due_modes hk] at e4
  refine ⟨.inl ⟨rfl, _, SqL.of e4⟩, q4, _, .non, rfl, rfl, e4, by omega, ?_⟩
  have s5 := putN (o := .lst ((dueS b i).map V.str ++ [.non])) s4 n4
  have eD := s5 _ _ eD
  have B5 := B3.same s5
  have hp5 := s5 _ _ hp3
  have s15 := s13.trans s5
  generalize upd H4 q4 (.lst ((dueS b i).map V.str ++ [.non])) = H5 at s5 eD B5 hp5 s15 ⊢
  clear e4 n4 s4
  -- told
  refine ⟨_, rfl, _, rfl, _, rfl, _, _, _, rfl, .inl ⟨h, wn, lo, hi, B5.sv, some (bkV b), .tup hp5 (bk_pl b) (by show 3 ≤ 1000; decide), fun e => (by rw [blkB_iff.mpr ⟨b, vb, rfl⟩] at e; cases e), fun p' b' e1 e2 v' => ?_⟩⟩
  obtain rfl : p = p' := by cases e1; rfl
  obtain rfl : b = b' := bkV_inj (by rw [hp5] at e2; exact HO.tup.inj (Option.some.inj e2))
  refine ⟨_, .int _, fun e => (by rw [wi] at e; cases e), fun n en hn q6 H6 s6 n6 e6 => ?_⟩
  obtain rfl : i = n := by have := V.int.inj en; omega
  rw [← due_modes hk] at e6
  have B6 := B5.same s6
  have hp6 := s6 _ _ hp5
  refine ⟨_, rfl, _, rfl, _, rfl, rfl, _, _, _, rfl, .inl ⟨h, wn, lo, hi, B6.sv, some (bkV b), .tup hp6 (bk_pl b) (by show 3 ≤ 1000; decide), fun e => (by rw [blkB_iff.mpr ⟨b, vb, rfl⟩] at e; cases e), fun p' b' e1 e2 v' => ?_⟩⟩
  obtain rfl : p = p' := by cases e1; rfl
  obtain rfl : b = b' := bkV_inj (by rw [hp6] at e2; exact HO.tup.inj (Option.some.inj e2))
  refine ⟨_, .int _, fun e => (by rw [wi] at e; cases e), fun n en hn q7 H7 s7 n7 e7 => ?_⟩
  obtain rfl : i = n := by have := V.int.inj en; omega
  rw [← due_modes hk] at e7
  refine ⟨(by show 2 ≤ sizeLine; decide), fun LA hLA => ?_⟩
  have t8 := Same.new (o := .lst [V.ref q6, .ref q7]) hLA
  have e8 : (upd H7 LA (.lst [V.ref q6, .ref q7])) LA = some (.lst [V.ref q6, .ref q7]) := upd_same
  generalize upd H7 LA (.lst [V.ref q6, .ref q7]) = H8 at t8 e8 ⊢
  obtain ⟨z1, z2, z3, z4⟩ := (twice_sm (due_sm (b := b) (k := i))).repr (by decide) (by decide)
  have s58 := s6.trans (s7.trans t8)
  refine ⟨_, rfl, LA, twiceD (dueD b i), rfl, twice_dp e8 (due_dp ((s7.trans t8) _ _ e6)) (due_dp (t8 _ _ e7)), z1, z2, z3, z4, ?_⟩
  refine ⟨_, rfl, _, rfl, (by show 2 ≤ sizeLine; decide), fun MA hMA => ⟨MA, twiceD (dueD b i), rfl, twice_dp upd_same (due_dp ((Same.new hMA) _ _ (s58 _ _ eD))) (due_dp ((Same.new hMA) _ _ (s58 _ _ eD))), z1, z2, z3, z4, rfl, _, rfl, ?_⟩⟩
  rw [decide_eq_true rfl]
  have s9 := s58.trans (Same.new (o := .lst [V.ref D2, .ref D2]) hMA)
  exact iteF ⟨⟨_, _, _, rfl⟩, B5.same s9, k1.trans (.kp (.same (s15.trans s9)))⟩
end
end K05
namespace K05
open PySem PySem.Spec PyProof.Rows L2 PySem.W LamX KA KW KU KL KT
/-! ### guesses: of the same samples, within, raised -/
theorem dot_left {h w : Nat} {b : Bk} (v : Vb h w b) (c : 0 < b.l) {d : Nat × Nat} (m : d ∈ dotsB h w b) : (d.1, b.l - 1) ∈ leftE h b := by
  have di := dots_in v m
  unfold leftE
  rw [if_pos c]
  refine List.mem_map.mpr ⟨d.1 - b.t, List.mem_range.mpr ?_, ?_⟩
  · unfold rowsN
    omega
  · rw [show b.t + (d.1 - b.t) = d.1 by omega]
theorem dot_up {h w : Nat} {b : Bk} (v : Vb h w b) (c : 0 < b.t) {d : Nat × Nat} (m : d ∈ dotsB h w b) : (b.t - 1, d.2) ∈ upE w b := by
  have di := dots_in v m
  unfold upE
  rw [if_pos c]
  refine List.mem_map.mpr ⟨d.2 - b.l, List.mem_range.mpr ?_, ?_⟩
  · unfold colsN
    omega
  · rw [show b.l + (d.2 - b.l) = d.2 by omega]
/-- the spots that a guess looks at -/
theorem gpt_by {h w : Nat} {b : Bk} {md : Md} {mid : Int} {nss mss : List (List Int)} (v : Vb h w b) (ok : md.ok b) {R : Int → Int → Prop} (hR : ∀ y x, (y, x) ∈ readsM md h w b → y < h → x < w → R (gAt nss y x) (gAt mss y x))
    (r0 : R mid mid) (r3 : ∀ a b c a' b' c', R a a' → R b b' → R c c' → R (med3 a b c) (med3 a' b' c')) (rs : ∀ L : List (Nat × Nat), 0 < L.length → (∀ d ∈ L, R (gAt nss d.1 d.2) (gAt mss d.1 d.2)) → R ((L.map fun d => gAt nss d.1 d.2).sum / (L.length : Int)) ((L.map fun d => gAt mss d.1 d.2).sum / (L.length : Int)))
    {d : Nat × Nat} (hd : d ∈ dotsB h w b) : R (gpt md h w mid b nss d) (gpt md h w mid b mss d) := by
  have di := dots_in v hd
  have lt := v.lt
  have ll := v.ll
  cases md with
  | flat => exact r0
  | left => exact hR _ _ (dot_left v ok hd) (by omega) (by omega)
  | up => exact hR _ _ (dot_up v ok hd) (by omega) (by omega)
  | middle =>
    have ok : 0 < b.l ∧ 0 < b.t := ok
    refine r3 _ _ _ _ _ _ (hR _ _ ?_ (by omega) (by omega)) (hR _ _ ?_ (by omega) (by omega)) (hR _ _ ?_ (by omega) (by omega))
    · exact List.mem_append_right _ (dot_left v ok.1 hd)
    · exact List.mem_append_left _ (List.mem_append_right _ (dot_up v ok.2 hd))
    · exact List.mem_append_left _ (List.mem_append_left _ List.mem_cons_self)
  | mean =>
    refine rs _ (edges_pos v ok) fun e he => ?_
    have ei := edges_in v he
    exact hR _ _ he ei.1 ei.2
theorem guess_same {h w : Nat} {b : Bk} {md : Md} {mid : Int} {nss mss : List (List Int)} (v : Vb h w b) (ok : md.ok b) (hR : ∀ y x, (y, x) ∈ readsM md h w b → y < h → x < w → gAt mss y x = gAt nss y x) : guessM md h w mid b mss = guessM md h w mid b nss := by
  rw [guess_pt, guess_pt]
  refine List.map_congr_left fun d hd => ?_
  refine (gpt_by (R := fun a c => c = a) v ok hR rfl (fun _ _ _ _ _ _ h1 h2 h3 => by rw [h1, h2, h3]) (fun L _ hL => ?_) hd)
  congr 2
  exact List.map_congr_left hL
theorem sum_near {k : Int} : ∀ (L : List (Nat × Nat)) (f g : Nat × Nat → Int), (∀ d ∈ L, f d ≤ g d ∧ g d ≤ f d + k) → (L.map f).sum ≤ (L.map g).sum ∧ (L.map g).sum ≤ (L.map f).sum + (L.length : Int) * k
  | [], _, _, _ => by simp
  | d :: L, f, g, h => by
    obtain ⟨a, c⟩ := sum_near L f g fun e he => h e (List.mem_cons_of_mem _ he)
    have q := h d List.mem_cons_self
    rw [List.map_cons, List.map_cons, List.sum_cons, List.sum_cons, List.length_cons]
    have e : ((L.length + 1 : Nat) : Int) * k = (L.length : Int) * k + k := by
      rw [Int.natCast_add, Int.add_mul]
      simp
    rw [e]
    omega
theorem guess_near {h w : Nat} {b : Bk} {md : Md} {mid k : Int} {nss mss : List (List Int)} (v : Vb h w b) (ok : md.ok b) (hk : 0 ≤ k) (hR : ∀ y x, y < h → x < w → gAt nss y x ≤ gAt mss y x ∧ gAt mss y x ≤ gAt nss y x + k) {d : Nat × Nat} (hd : d ∈ dotsB h w b) :
    gpt md h w mid b nss d ≤ gpt md h w mid b mss d ∧ gpt md h w mid b mss d ≤ gpt md h w mid b nss d + k := by
  refine gpt_by (R := fun a c => a ≤ c ∧ c ≤ a + k) v ok (fun y x _ hy hx => hR y x hy hx) (by omega) (fun _ _ _ _ _ _ h1 h2 h3 => ?_) (fun L l0 hL => ?_) hd
  · unfold med3
    omega
  · obtain ⟨a, c⟩ := sum_near L (fun d => gAt nss d.1 d.2) (fun d => gAt mss d.1 d.2) hL
    have n0 : (0 : Int) < (L.length : Int) := by omega
    generalize (L.map fun d => gAt nss d.1 d.2).sum = x at a c ⊢
    generalize (L.map fun d => gAt mss d.1 d.2).sum = y at a c ⊢
    generalize (L.length : Int) = n at n0 c ⊢
    refine ⟨Int.ediv_le_ediv n0 a, ?_⟩
    have := Int.ediv_le_ediv n0 c
    rw [Int.add_mul_ediv_left x k (by omega)] at this
    exact this
theorem gpt_in {h w : Nat} {b : Bk} {md : Md} {lo hi : Int} {nss : List (List Int)} (v : Vb h w b) (ok : md.ok b) (l2 : lo ≤ hi) (hR : ∀ y x, y < h → x < w → lo ≤ gAt nss y x ∧ gAt nss y x ≤ hi) {d : Nat × Nat} (hd : d ∈ dotsB h w b) :
    lo ≤ gpt md h w ((lo + hi) / 2) b nss d ∧ gpt md h w ((lo + hi) / 2) b nss d ≤ hi := by
  refine gpt_by (mss := nss) (R := fun a _ => lo ≤ a ∧ a ≤ hi) v ok (fun y x _ hy hx => hR y x hy hx) (by omega) (fun _ _ _ _ _ _ h1 h2 h3 => ?_) (fun L l0 hL => ?_) hd
  · unfold med3
    omega
  · have n0 : (0 : Int) < (L.length : Int) := by omega
    have a : (L.length : Int) * lo ≤ (L.map fun d => gAt nss d.1 d.2).sum ∧ (L.map fun d => gAt nss d.1 d.2).sum ≤ (L.length : Int) * hi := by
      clear l0 n0
      induction L with
      | nil => simp
      | cons e L ih =>
        have q := hL e List.mem_cons_self
        have r := ih fun d hd => hL d (List.mem_cons_of_mem _ hd)
        rw [List.map_cons, List.sum_cons, List.length_cons, Int.natCast_add, Int.add_mul, Int.add_mul]
        simp only [Int.natCast_one, Int.one_mul]
        omega
    generalize (L.map fun d => gAt nss d.1 d.2).sum = x at a ⊢
    generalize (L.length : Int) = n at n0 a ⊢
    refine ⟨(Int.le_ediv_iff_mul_le n0).mpr (by rw [Int.mul_comm]; exact a.1), ?_⟩
    refine Int.le_of_lt_add_one (Int.ediv_lt_of_lt_mul n0 ?_)
    rw [Int.add_mul, Int.mul_comm hi n, Int.one_mul]
    omega
end K05
namespace K05
open PySem PySem.Spec PyProof.Rows L2 PySem.W LamX KA KW KU KL KT
/-! ### a plane as a plane -/
def osOf (nss : List (List Int)) : List (Option (List V)) := nss.map fun ns => some (ns.map V.int)
theorem pn_th {K : PySem.W.Frag} {H : Hp} {a : Addr} {nss : List (List Int)} {w : Nat} (p : Pn H a nss w) : Th K H (.ref a) (some (osOf nss)) := by
  obtain ⟨vs, e, r⟩ := p.rows
  have l2 := p.h2
  have w2 := p.w2
  have r1 := r.1
  refine .tup e ⟨by unfold osOf; rw [List.length_map]; exact r.1, fun i v hi => ?_⟩ (by omega)
  obtain ⟨b, ns, rfl, hn, eb⟩ := r.2 i v hi
  have := p.ws ns (List.mem_of_getElem? hn)
  exact ⟨some (ns.map V.int), by unfold osOf; rw [List.getElem?_map, hn]; rfl, .tup eb plI (by rw [List.length_map]; omega)⟩
theorem pn_ok {H : Hp} {a : Addr} {nss : List (List Int)} {w h : Nat} {lo hi : Int} (p : Pn H a nss w) (l : nss.length = h) (b : betB nss lo hi = true) : planeB (some (osOf nss)) (h : Int) (w : Int) lo hi = true := by
  have l1 := p.h1
  have l2 := p.h2
  have w1 := p.w1
  have w2 := p.w2
  have e1 : rowsB (some (osOf nss)) = true := by
    unfold rowsB
    dsimp only
    have ew : width0 (osOf nss) = w := p.width
    have el : (osOf nss).length = nss.length := by unfold osOf; rw [List.length_map]
    rw [ew, el, decide_eq_true l1, decide_eq_true l2, Bool.true_and, Bool.true_and, List.all_eq_true]
    intro o ho
    unfold osOf at ho
    obtain ⟨ns, hn, rfl⟩ := List.mem_map.mp ho
    have lw := p.ws ns hn
    unfold okAs rowB
    dsimp only
    rw [List.length_map, decide_eq_true (show 1 ≤ ns.length by omega), decide_eq_true (show ns.length ≤ 16 by omega), lw]
    simp only [Bool.true_and, beq_self_eq_true, Bool.and_true, List.all_eq_true]
    intro x hx
    obtain ⟨i, _, rfl⟩ := List.mem_map.mp hx
    rfl
  unfold planeB
  rw [e1]
  dsimp only
  have ew : width0 (osOf nss) = w := p.width
  have el : (osOf nss).length = nss.length := by unfold osOf; rw [List.length_map]
  rw [ew, el, l, decide_eq_true rfl, decide_eq_true rfl]
  simp only [Bool.true_and]
  exact (betB_in nss lo hi).trans b
theorem pn_uniq {H : Hp} {a : Addr} {nss mss : List (List Int)} {w w' : Nat} (p : Pn H a nss w) (q : Pn H a mss w') : mss = nss := by
  obtain ⟨vs, e, r⟩ := p.rows
  obtain ⟨vs', e', r'⟩ := q.rows
  rw [e] at e'
  cases e'
  refine List.ext_getElem? fun i => ?_
  cases hi : vs[i]? with
  | none =>
    have l := List.getElem?_eq_none_iff.mp hi
    have a1 := r.1
    have a2 := r'.1
    rw [List.getElem?_eq_none (by omega), List.getElem?_eq_none (by omega)]
  | some v =>
    obtain ⟨b, ns, rfl, hn, eb⟩ := r.2 i v hi
    obtain ⟨b', ns', z, hn', eb'⟩ := r'.2 i _ hi
    cases z
    rw [eb] at eb'
    have z : ns.map V.int = ns'.map V.int := HO.tup.inj (Option.some.inj eb')
    have : ns = ns' := by
      have inj : ∀ (xs ys : List Int), xs.map V.int = ys.map V.int → xs = ys := fun xs => by
        induction xs with
        | nil => intro ys h; cases ys with | nil => rfl | cons y ys => cases h
        | cons x xs ih =>
          intro ys h
          cases ys with
          | nil => cases h
          | cons y ys =>
            rw [List.map_cons, List.map_cons] at h
            obtain ⟨h1, h2⟩ := List.cons.inj h
            rw [V.int.inj h1, ih ys h2]
      exact inj _ _ z
    rw [hn, hn', this]
theorem md_inj {a b : Md} (e : V.str a.s = V.str b.s) : a = b := by
  have := V.str.inj e
  revert this
  cases a <;> cases b <;> decide
theorem md_fash (m : Md) : m.s ∈ fashS := by
  unfold fashS
  cases m
  · exact List.mem_cons_self
  · exact List.mem_cons_of_mem _ List.mem_cons_self
  · exact List.mem_cons_of_mem _ (List.mem_cons_of_mem _ List.mem_cons_self)
  · exact List.mem_cons_of_mem _ (List.mem_cons_of_mem _ (List.mem_cons_of_mem _ List.mem_cons_self))
  · exact List.mem_cons_of_mem _ (List.mem_cons_of_mem _ (List.mem_cons_of_mem _ (List.mem_cons_of_mem _ List.mem_cons_self)))
theorem walk_zipT {K : PySem.W.Frag} {a b : Addr} {xs ys : List V} {n : Nat} (hn : n = min xs.length ys.length) : Walk (RZ.ItzT K a b) n (fun H => SqT K H a xs ∧ SqT K H b ys) (YPair (fun i => xs[i]?) (fun i => ys[i]?)) := by
  subst hn
  refine ⟨fun i _ hi q => ?_, fun _ q => ⟨xs, ys, q.1, q.2, by omega⟩, fun i H v H' _ q y => ?_⟩
  · have h1 : i < xs.length := by omega
    have h2 : i < ys.length := by omega
    exact ⟨xs, ys, xs[i], ys[i], q.1, q.2, by simp [h1], by simp [h2]⟩
  · obtain ⟨T, x, z, h1, h2, h3, h4, h5⟩ := y
    exact ⟨T, x, z, h1, h2, h3, h4 xs q.1, h5 ys q.2⟩
/-! ### what is told, as data -/
def rdD (ds : List (Nat × Nat)) : PyData := .list (ds.map dotD)
theorem rd_sm {ds : List (Nat × Nat)} (l : ds.length ≤ 17) (hb : ∀ d ∈ ds, d.1 ≤ 16 ∧ d.2 ≤ 16) : Sm 629 2 (rdD ds) := sm_list (n := 36) (z := 1) (k := 17) (fun d hd => by
  obtain ⟨e, he, rfl⟩ := List.mem_map.mp hd
  have := hb e he
  exact sm_tuple (n := 17) (z := 0) (k := 2) (fun x hx => by
    simp only [List.mem_cons, List.not_mem_nil, or_false] at hx
    rcases hx with z | z <;> subst z <;> exact sm_int (by omega) (by omega)) (by show 2 ≤ 2; decide)) (by rw [List.length_map]; exact l)
theorem rd_dp {K : PySem.W.Frag} {H : Hp} {q : Addr} {us : List V} {ds : List (Nat × Nat)} (e : H q = some (.lst us)) (r : RL dotV H us ds) : Dp K H (.ref q) (rdD ds) := .lst (SqL.of e) (dp_rl dp_dot r)
def gsD (ns : List Int) : PyData := .tuple (ns.map PyData.int)
theorem gs_sm {ns : List Int} (l : ns.length ≤ 64) (hb : ∀ n ∈ ns, -512 ≤ n ∧ n ≤ 511) : Sm 1152 1 (gsD ns) := sm_tuple (n := 17) (z := 0) (k := 64) (fun d hd => by
  obtain ⟨i, hi, rfl⟩ := List.mem_map.mp hd
  have := hb i hi
  exact sm_int (by omega) (by omega)) (by rw [List.length_map]; exact l)
theorem dp_ints {K : PySem.W.Frag} {H : Hp} : ∀ xs : List Int, DpAll K H (xs.map V.int) (xs.map PyData.int)
  | [] => .nil
  | x :: xs => .cons (.int x) (dp_ints xs)
theorem gs_dp {K : PySem.W.Frag} {H : Hp} {q : Addr} {ns : List Int} (e : H q = some (.tup (ns.map V.int))) : Dp K H (.ref q) (gsD ns) := .tup (SqT.of e) (dp_ints _)
end K05
namespace K05
open PySem PySem.Spec PyProof.Rows L2 PySem.W LamX KA KW KU KL KT
open Evl (pss_cut tCut)
/-! ### the law: a mode within -/
/-- what the law has told of a mode -/
structure FB (st lg dq aq : Addr) (us : List V) (ds : List (Nat × Nat)) (gs : List Int) (H : Hp) : Prop where
  e : H dq = some (.lst us)
  r : RL dotV H us ds
  n : dq ≠ st ∧ dq ≠ lg
  g : H aq = some (.tup (gs.map V.int))
theorem FB.kn {st lg cl dq aq : Addr} {us : List V} {ds : List (Nat × Nat)} {gs : List Int} {m : Nat} {H H' : Hp} (f : FB st lg dq aq us ds gs H) (S : StAt H st lg cl m) (k : KpN st lg H H') : FB st lg dq aq us ds gs H' :=
  ⟨k _ _ f.e f.n.1 f.n.2 (fun _ z => by cases z), f.r.tp (KpN.tp S k), f.n, KpN.tp S k _ _ f.g⟩
theorem reads_small {h w : Nat} {b : Bk} {md : Md} (v : Vb h w b) (ok : md.ok b) (hh : h ≤ 16) (hw : w ≤ 16) {d : Nat × Nat} (m : d ∈ readsM md h w b) : d.1 ≤ 16 ∧ d.2 ≤ 16 := by
  have lt := v.lt
  have ll := v.ll
  have ed : ∀ e ∈ edgesU h w b, e.1 ≤ 16 ∧ e.2 ≤ 16 := fun e he => by
    have := edges_in v he
    omega
  cases md with
  | flat => cases m
  | left => exact ed _ (List.mem_append_right _ m)
  | up => exact ed _ (List.mem_append_left _ m)
  | middle =>
    have m : d ∈ [(b.t - 1, b.l - 1)] ++ upE w b ++ leftE h b := m
    rw [List.append_assoc] at m
    rcases List.mem_append.mp m with z | z
    · rw [List.mem_singleton.mp z]
      dsimp only
      omega
    · exact ed _ z
  | mean => exact ed _ m
theorem guess_in {h w : Nat} {b : Bk} {md : Md} {lo hi : Int} {nss : List (List Int)} (v : Vb h w b) (ok : md.ok b) (l2 : lo ≤ hi) (hR : ∀ y x, y < h → x < w → lo ≤ gAt nss y x ∧ gAt nss y x ≤ hi) {n : Int} (hn : n ∈ guessM md h w ((lo + hi) / 2) b nss) : lo ≤ n ∧ n ≤ hi := by
  rw [guess_pt] at hn
  obtain ⟨d, hd, rfl⟩ := List.mem_map.mp hn
  exact gpt_in v ok l2 hR hd
theorem near_at {h w : Nat} {b : Bk} {md : Md} {mid : Int} {mo : Nat} {nss mss : List (List Int)} (v : Vb h w b) (ok : md.ok b) (nr : ∀ y x, y < h → x < w → gAt nss y x ≤ gAt mss y x ∧ gAt mss y x ≤ gAt nss y x + (mo : Int)) {i : Nat} {x y : V} (hx : ((guessM md h w mid b nss).map V.int)[i]? = some x) (hy : ((guessM md h w mid b mss).map V.int)[i]? = some y) : ∃ g n : Int, x = .int g ∧ y = .int n ∧ g ≤ n ∧ n ≤ g + (mo : Int) := by
  rw [guess_pt, List.map_map, List.getElem?_map] at hx hy
  cases hd : (dotsB h w b)[i]? with
  | none =>
    rw [hd] at hx
    cases hx
  | some d =>
    rw [hd] at hx hy
    have q := guess_near (mid := mid) v ok (by omega) nr (List.mem_of_getElem? hd)
    exact ⟨_, _, (Option.some.inj hx).symm, (Option.some.inj hy).symm, q.1, q.2⟩
section
variable {P : Program} {w : World} {K : PySem.W.Frag} {mg : Str → Option Value} {base : Heap} (T : Top K mg) (SH : ShapeT K mg) (BE : BadShapeT P w K mg T.reel.C) (Z : SzT K mg)
variable (BM : BadModeT P w K mg T.reel.C) (kT : PySem.W.kitOne K (.type "tuple") (.ref SH.C) = some false)
variable {c : Addr} {A : Around} {outer : List Env} {s0 : Shared} {H0 : Hp} {E0 : XK} {Pt : Addr} {cdv : Value} (hr : Room 11 (A.deeper (envOfC "law" (defScope s_law) s0.heap.objs.size T.law.a cdv))) (hg : A.guards = some [])
include hr in
theorem segF0 : ∃ t, PS (LX P w base T cdv A outer s0 H0 E0) (stF 0) t ∧ ∀ (D : Ends) (a st lg cl sa fa pa : Addr) (h wn : Nat) (lo hi : Int) (nss : List (List Int)) (m : Nat) (H : Hp) (v2 : Option V) (v6 v7 v8 v9 v10 v11 v12 v13 v14 v15 v16 v17 v18 : Option V) (p : Addr) (b : Bk) (md : Md), m ≤ 800000 → LB SH.C Pt st lg cl sa fa pa h wn lo hi nss m H → H p = some (.tup (bkV b)) → Vb h wn b → md.ok b → 
    (∀ dq aq us H', LB SH.C Pt st lg cl sa fa pa h wn lo hi nss m H' → KpN st lg H H' → FB st lg dq aq us (readsM md h wn b) (guessM md h wn ((lo + hi) / 2) b nss) H' → D.nx (sl a st sa fa pa v2 (some (.ref p)) v7 v8 v9 (some (.str md.s)) (some (.ref dq)) (some (.ref aq)) v13 v14 v15 v16 v17 v18) H') → t D (sl a st sa fa pa v2 (some (.ref p)) v7 v8 v9 (some (.str md.s)) v11 v12 v13 v14 v15 v16 v17 v18) H := by
  refine ⟨_, (ps_par (i := 11) (j := 12) rfl sc_law.nd rfl rfl (by decide) rfl rfl (pa_cons (pe_call (ok_lreads T) (hr.mono (by decide)) (by rfl) T._law_reads.m T._law_reads.f.kp (bd__law_reads T) .nil passE (pa_cons (pv 3) (pa_cons (pv 6) (pa_cons (pv 10) pa_nil)))) (pa_cons (pe_callTy (show CallR _ _ (rTupOf K) from call_tuple_of) (by rfl) T.b_tuple (by decide +kernel) (pa_cons (pe_call (ok_laims T) (hr.mono (by decide)) (by rfl) T._law_aims.m T._law_aims.f.kp (bd__law_aims T) .nil passE (pa_cons (pv 3) (pa_cons (pv 6) (pa_cons (pv 10) (pa_cons (pv 5) pa_nil))))) pa_nil)) pa_nil)) (by rfl)), fun D a st lg cl sa fa pa h wn lo hi nss m H v2 v6 v7 v8 v9 v10 v11 v12 v13 v14 v15 v16 v17 v18 p b md hm B hp vb ok k => ?_⟩
  refine ⟨_, rfl, _, rfl, _, rfl, sa, p, b, h, wn, md, rfl, B.scw, hp, vb, ok, fun dq us H1 s1 n1 e1 r1 => ⟨_, rfl, _, rfl, _, rfl, _, rfl, sa, p, pa, b, h, wn, lo, hi, md, nss, rfl, B.sc.keep (fun o e => s1 _ _ e), s1 _ _ hp, vb, ok, B.pn.keep s1, B.ln, fun q H2 s2 n2 e2 => ⟨q, _, rfl, .inl ⟨SqL.of e2, fun aq haq => ⟨_, _, rfl, ?_⟩⟩⟩⟩⟩
  have t3 := Same.new (o := .tup ((guessM md h wn ((lo + hi) / 2) b nss).map V.int)) haq
  have sA := s1.trans (s2.trans t3)
  exact k dq aq us _ (B.same sA) (.kp (.same sA)) ⟨(s2.trans t3) _ _ e1, r1.same (s2.trans t3), B.S.off n1, upd_same⟩
include hr hg BE Z BM kT in
theorem segF1 : ∃ t, PS (LX P w base T cdv A outer s0 H0 E0) (stF 1) t ∧ ∀ (D : Ends) (a st lg cl sa fa pa : Addr) (h wn : Nat) (lo hi : Int) (nss : List (List Int)) (m : Nat) (H : Hp) (v2 : Option V) (v6 v7 v8 v9 v10 v11 v12 v13 v14 v15 v16 v17 v18 : Option V) (p : Addr) (b : Bk) (md : Md), m ≤ 800000 → LB SH.C Pt st lg cl sa fa pa h wn lo hi nss m H → H p = some (.tup (bkV b)) → Vb h wn b → md.ok b → 
    (∀ H', LB SH.C Pt st lg cl sa fa pa h wn lo hi nss m H' → KpN st lg H H' → D.nx (sl a st sa fa pa v2 (some (.ref p)) v7 v8 v9 (some (.str md.s)) v11 v12 v13 v14 v15 v16 v17 v18) H') → t D (sl a st sa fa pa v2 (some (.ref p)) v7 v8 v9 (some (.str md.s)) v11 v12 v13 v14 v15 v16 v17 v18) H := by
  refine ⟨_, (ps_expr (pe_bm PySem.F.plainAttrs_list PySem.F.slot_list_append PySem.F.type_list_append mt_append (pe_call (ok_reads_within T SH BE Z BM kT) (hr.mono (by decide)) (by rfl) T.reads_within.m T.reads_within.f.kp (bd_reads_within T) .nil passE (pa_cons (pv 4) (pa_cons (pv 6) (pa_cons (pv 10) pa_nil)))) (pa_cons pe_non pa_nil))), fun D a st lg cl sa fa pa h wn lo hi nss m H v2 v6 v7 v8 v9 v10 v11 v12 v13 v14 v15 v16 v17 v18 p b md hm B hp vb ok k => ?_⟩
  refine ⟨_, rfl, _, rfl, _, rfl, _, _, _, rfl, .inl ⟨h, wn, lo, hi, B.sv, some (bkV b), .tup hp (bk_pl b) (by show 3 ≤ 1000; decide), fun e => (by rw [blkB_iff.mpr ⟨b, vb, rfl⟩] at e; cases e), fun p' b' e1 e2 v' => ?_⟩⟩
  obtain rfl : p = p' := by cases e1; rfl
  obtain rfl : b = b' := bkV_inj (by rw [hp] at e2; exact HO.tup.inj (Option.some.inj e2))
  refine ⟨.str _ (by cases md <;> decide +kernel), fun hI => (by rw [inY_iff.mpr ⟨md, rfl, ok⟩] at hI; cases hI), fun m' em ok' => ?_⟩
  obtain rfl : md = m' := md_inj em
  intro q u1 H1 s1 n1 e1 r1
  have rl := reads_len (m := md) (h := h) (w := wn) vb
  have ll := (reads_perm (m := md) (h := h) (w := wn) (b := b)).length_eq
  have l1 := r1.1
  have s17 : 100 ≤ sizeLine := by decide
  refine ⟨.inl ⟨rfl, _, SqL.of e1⟩, q, u1, .non, rfl, rfl, e1, by omega, ?_⟩
  have s2 := putN (o := .lst (u1 ++ [.non])) s1 n1
  exact k _ (B.same s2) (.kp (.same s2))
include hr hg BE Z BM kT in
theorem segF2 : ∃ t, PS (LX P w base T cdv A outer s0 H0 E0) (stF 2) t ∧ ∀ (D : Ends) (a st lg cl sa fa pa : Addr) (h wn : Nat) (lo hi : Int) (nss : List (List Int)) (m : Nat) (H : Hp) (v2 : Option V) (v6 v7 v8 v9 v10 v11 v12 v13 v14 v15 v16 v17 v18 : Option V) (p : Addr) (b : Bk) (md : Md), m ≤ 800000 → LB SH.C Pt st lg cl sa fa pa h wn lo hi nss m H → H p = some (.tup (bkV b)) → Vb h wn b → md.ok b → 
    (∀ LA H', LB SH.C Pt st lg cl sa fa pa h wn lo hi nss m H' → KpN st lg H H' → (∀ H2, Same H' H2 → Dp K H2 (.ref LA) (twiceD (rdD (readsM md h wn b)))) → D.nx (sl a st sa fa pa v2 (some (.ref p)) v7 v8 (some (.ref LA)) (some (.str md.s)) v11 v12 v13 v14 v15 v16 v17 v18) H') → t D (sl a st sa fa pa v2 (some (.ref p)) v7 v8 v9 (some (.str md.s)) v11 v12 v13 v14 v15 v16 v17 v18) H := by
  refine ⟨_, (ps_set (i := 9) sc_law.nd rfl (by first | exact .inl rfl | exact .inr rfl) (pe_lst (pa_cons (pe_call (ok_reads_within T SH BE Z BM kT) (hr.mono (by decide)) (by rfl) T.reads_within.m T.reads_within.f.kp (bd_reads_within T) .nil passE (pa_cons (pv 4) (pa_cons (pv 6) (pa_cons (pv 10) pa_nil)))) (pa_cons (pe_kw (ok_reads_within T SH BE Z BM kT) (hr.mono (by decide)) (by rfl) T.reads_within.m T.reads_within.f.kp (Fun.kw3 T.reads_within.f fun _ _ _ _ _ _ _ _ _ => rfl) passE (pk_cons (pv 10) (pk_cons (pv 6) (pk_cons (pv 4) pk_nil)))) pa_nil)))), fun D a st lg cl sa fa pa h wn lo hi nss m H v2 v6 v7 v8 v9 v10 v11 v12 v13 v14 v15 v16 v17 v18 p b md hm B hp vb ok k => ?_⟩
  refine ⟨_, rfl, _, rfl, _, rfl, _, _, _, rfl, .inl ⟨h, wn, lo, hi, B.sv, some (bkV b), .tup hp (bk_pl b) (by show 3 ≤ 1000; decide), fun e => (by rw [blkB_iff.mpr ⟨b, vb, rfl⟩] at e; cases e), fun p' b' e1 e2 v' => ?_⟩⟩
  obtain rfl : p = p' := by cases e1; rfl
  obtain rfl : b = b' := bkV_inj (by rw [hp] at e2; exact HO.tup.inj (Option.some.inj e2))
  refine ⟨.str _ (by cases md <;> decide +kernel), fun hI => (by rw [inY_iff.mpr ⟨md, rfl, ok⟩] at hI; cases hI), fun m' em ok' => ?_⟩
  obtain rfl : md = m' := md_inj em
  intro q u1 H1 s1 n1 e1x r1
  have B1 := B.same s1
  have hp1 := s1 _ _ hp
  refine ⟨_, rfl, _, rfl, _, rfl, rfl, _, _, _, rfl, .inl ⟨h, wn, lo, hi, B1.sv, some (bkV b), .tup hp1 (bk_pl b) (by show 3 ≤ 1000; decide), fun e => (by rw [blkB_iff.mpr ⟨b, vb, rfl⟩] at e; cases e), fun p' b' e1 e2 v' => ?_⟩⟩
  obtain rfl : p = p' := by cases e1; rfl
  obtain rfl : b = b' := bkV_inj (by rw [hp1] at e2; exact HO.tup.inj (Option.some.inj e2))
  refine ⟨.str _ (by cases md <;> decide +kernel), fun hI => (by rw [inY_iff.mpr ⟨md, rfl, ok⟩] at hI; cases hI), fun m' em ok' => ?_⟩
  obtain rfl : md = m' := md_inj em
  intro q2 u2 H2 s2 n2 e2 r2
  refine ⟨(by show 2 ≤ sizeLine; decide), fun LA hLA => ?_⟩
  have t3 := Same.new (o := .lst [V.ref q, .ref q2]) hLA
  have e5 : (upd H2 LA (.lst [V.ref q, .ref q2])) LA = some (.lst [V.ref q, .ref q2]) := upd_same
  generalize upd H2 LA (.lst [V.ref q, .ref q2]) = H3 at t3 e5 ⊢
  have sA := s1.trans (s2.trans t3)
  exact k LA H3 (B.same sA) (.kp (.same sA)) fun H4 s4 => twice_dp (s4 _ _ e5) (rd_dp ((s2.trans (t3.trans s4)) _ _ e1x) (r1.same (s2.trans (t3.trans s4)))) (rd_dp ((t3.trans s4) _ _ e2) (r2.same (t3.trans s4)))
include hr hg in
theorem segF3 : ∃ t, PS (LX P w base T cdv A outer s0 H0 E0) (stF 3) t ∧ ∀ (D : Ends) (a st lg cl sa fa pa : Addr) (h wn : Nat) (lo hi : Int) (nss : List (List Int)) (m : Nat) (H : Hp) (v2 : Option V) (v6 v7 v8 v9 v10 v11 v12 v13 v14 v15 v16 v17 v18 : Option V) (p : Addr) (b : Bk) (md : Md) (dq aq LA : Addr) (us : List V), m ≤ 800000 → LB SH.C Pt st lg cl sa fa pa h wn lo hi nss m H → H p = some (.tup (bkV b)) → Vb h wn b → md.ok b → FB st lg dq aq us (readsM md h wn b) (guessM md h wn ((lo + hi) / 2) b nss) H → (∀ H2, Same H H2 → Dp K H2 (.ref LA) (twiceD (rdD (readsM md h wn b)))) → 
    (∀ H', LB SH.C Pt st lg cl sa fa pa h wn lo hi nss m H' → KpN st lg H H' → D.nx (sl a st sa fa pa v2 (some (.ref p)) v7 v8 (some (.ref LA)) (some (.str md.s)) (some (.ref dq)) (some (.ref aq)) v13 v14 v15 v16 v17 v18) H') → t D (sl a st sa fa pa v2 (some (.ref p)) v7 v8 (some (.ref LA)) (some (.str md.s)) (some (.ref dq)) (some (.ref aq)) v13 v14 v15 v16 v17 v18) H := by
  refine ⟨_, (ps_if (pt_cmpR op_ne (pe_callB (show CallR _ _ (rRepr K) from call_repr hg hr) (by rfl) T.b_repr (by decide +kernel) (pa_cons (pv 9) pa_nil)) (pe_callB (show CallR _ _ (rRepr K) from call_repr hg hr) (by rfl) T.b_repr (by decide +kernel) (pa_cons (pe_lst (pa_cons (pv 11) (pa_cons (pv 11) pa_nil))) pa_nil)) (nomark _)) (pss_one (ps_ret pe_bl)) pss_nil), fun D a st lg cl sa fa pa h wn lo hi nss m H v2 v6 v7 v8 v9 v10 v11 v12 v13 v14 v15 v16 v17 v18 p b md dq aq LA us hm B hp vb ok fb td k => ?_⟩
  have sm := rd_sm (ds := readsM md h wn b) (by rw [← (reads_perm (m := md) (h := h) (w := wn) (b := b)).length_eq]; exact reads_len vb) (fun d hd => reads_small vb ok B.sv.b.2.1 B.sv.b.2.2.2.1 hd)
  obtain ⟨z1, z2, z3, z4⟩ := (twice_sm sm).repr (by decide) (by decide)
  refine ⟨_, rfl, LA, twiceD (rdD (readsM md h wn b)), rfl, td H (fun _ _ e => e), z1, z2, z3, z4, ?_⟩
  refine ⟨_, rfl, _, rfl, (by show 2 ≤ sizeLine; decide), fun MA hMA => ?_⟩
  have t1 := Same.new (o := .lst [V.ref dq, .ref dq]) hMA
  refine ⟨MA, twiceD (rdD (readsM md h wn b)), rfl, twice_dp upd_same (rd_dp (t1 _ _ fb.e) (fb.r.same t1)) (rd_dp (t1 _ _ fb.e) (fb.r.same t1)), z1, z2, z3, z4, rfl, _, rfl, ?_⟩
  rw [decide_eq_true rfl]
  exact iteF (k _ (B.same t1) (.kp (.same t1)))
include hr in
theorem segF4 : ∃ t, PS (LX P w base T cdv A outer s0 H0 E0) (stF 4) t ∧ ∀ (D : Ends) (a st lg cl sa fa pa : Addr) (h wn : Nat) (lo hi : Int) (nss : List (List Int)) (m : Nat) (H : Hp) (v2 : Option V) (v6 v7 v8 v9 v10 v11 v12 v13 v14 v15 v16 v17 v18 : Option V) (p : Addr) (b : Bk) (md : Md) (dq aq : Addr) (us : List V), m ≤ 800000 → LB SH.C Pt st lg cl sa fa pa h wn lo hi nss m H → H p = some (.tup (bkV b)) → Vb h wn b → md.ok b → FB st lg dq aq us (readsM md h wn b) (guessM md h wn ((lo + hi) / 2) b nss) H → 
    (∀ oa mss H', LB SH.C Pt st lg cl sa fa pa h wn lo hi nss (m + 256) H' → KpN st lg H H' → Pn H' oa mss wn → mss.length = h → betB mss lo hi = true → guessM md h wn ((lo + hi) / 2) b mss = (guessM md h wn ((lo + hi) / 2) b nss) → D.nx (sl a st sa fa pa v2 (some (.ref p)) v7 v8 v9 (some (.str md.s)) (some (.ref dq)) (some (.ref aq)) (some (.ref oa)) v14 v15 v16 v17 v18) H') → t D (sl a st sa fa pa v2 (some (.ref p)) v7 v8 v9 (some (.str md.s)) (some (.ref dq)) (some (.ref aq)) v13 v14 v15 v16 v17 v18) H := by
  refine ⟨_, (ps_set (i := 13) sc_law.nd rfl (by first | exact .inl rfl | exact .inr rfl) (pe_call (ok_filled T) (hr.mono (by decide)) (by rfl) T._law_filled.m T._law_filled.f.kp (bd__law_filled T) .nil passE (pa_cons (pv 1) (pa_cons (pv 3) (pa_cons (pv 5) (pa_cons (pv 11) pa_nil)))))), fun D a st lg cl sa fa pa h wn lo hi nss m H v2 v6 v7 v8 v9 v10 v11 v12 v13 v14 v15 v16 v17 v18 p b md dq aq us hm B hp vb ok fb k => ?_⟩
  refine ⟨_, rfl, _, rfl, _, rfl, _, rfl, st, lg, cl, sa, pa, dq, h, wn, lo, hi, m, nss, us, _, rfl, B.sc, B.ns, fb.n, by omega, B.S, B.pn, B.ln, B.bd, fb.e, fb.r, fun oa mss H' pn' ln' bd' gs' S' kp => ?_⟩
  have BB := B.kp kp S'
  exact k oa mss H' BB (.kp kp) pn' ln' (LB.bet ⟨S', BB.Tb, BB.sc, BB.ns, BB.sv, pn', ln', bd'⟩) (guess_same vb ok gs')
include hr hg BE Z BM kT in
theorem segF5 : ∃ t, PS (LX P w base T cdv A outer s0 H0 E0) (stF 5) t ∧ ∀ (D : Ends) (a st lg cl sa fa pa : Addr) (h wn : Nat) (lo hi : Int) (nss : List (List Int)) (m : Nat) (H : Hp) (v2 : Option V) (v6 v7 v8 v9 v10 v11 v12 v13 v14 v15 v16 v17 v18 : Option V) (p : Addr) (b : Bk) (md : Md) (oa : Addr) (mss : List (List Int)), m ≤ 800000 → LB SH.C Pt st lg cl sa fa pa h wn lo hi nss m H → H p = some (.tup (bkV b)) → Vb h wn b → md.ok b → Pn H oa mss wn → mss.length = h → betB mss lo hi = true → guessM md h wn ((lo + hi) / 2) b mss = (guessM md h wn ((lo + hi) / 2) b nss) → 
    (∀ LA H', LB SH.C Pt st lg cl sa fa pa h wn lo hi nss m H' → KpN st lg H H' → (∀ H2, Same H' H2 → Dp K H2 (.ref LA) (twiceD (gsD (guessM md h wn ((lo + hi) / 2) b nss)))) → D.nx (sl a st sa fa pa v2 (some (.ref p)) v7 v8 (some (.ref LA)) (some (.str md.s)) v11 v12 (some (.ref oa)) v14 v15 v16 v17 v18) H') → t D (sl a st sa fa pa v2 (some (.ref p)) v7 v8 v9 (some (.str md.s)) v11 v12 (some (.ref oa)) v14 v15 v16 v17 v18) H := by
  refine ⟨_, (ps_set (i := 9) sc_law.nd rfl (by first | exact .inl rfl | exact .inr rfl) (pe_lst (pa_cons (pe_call (ok_guess T SH BE Z BM kT) (hr.mono (by decide)) (by rfl) T.guess.m T.guess.f.kp (bd_guess T) .nil passE (pa_cons (pv 4) (pa_cons (pv 6) (pa_cons (pv 10) (pa_cons (pv 5) pa_nil))))) (pa_cons (pe_kw (ok_guess T SH BE Z BM kT) (hr.mono (by decide)) (by rfl) T.guess.m T.guess.f.kp (Fun.kw4 T.guess.f fun _ _ _ _ _ _ _ _ _ _ => rfl) passE (pk_cons (pv 13) (pk_cons (pv 10) (pk_cons (pv 6) (pk_cons (pv 4) pk_nil))))) pa_nil)))), fun D a st lg cl sa fa pa h wn lo hi nss m H v2 v6 v7 v8 v9 v10 v11 v12 v13 v14 v15 v16 v17 v18 p b md oa mss hm B hp vb ok po lo1 bo go k => ?_⟩
  have bet := B.bet
  refine ⟨_, rfl, _, rfl, _, rfl, _, rfl, _, _, _, _, rfl, .inl ⟨h, wn, lo, hi, B.sv, some (bkV b), .tup hp (bk_pl b) (by show 3 ≤ 1000; decide), fun e => (by rw [blkB_iff.mpr ⟨b, vb, rfl⟩] at e; cases e), fun p' b' e1 e2 v' => ?_⟩⟩
  obtain rfl : p = p' := by cases e1; rfl
  obtain rfl : b = b' := bkV_inj (by rw [hp] at e2; exact HO.tup.inj (Option.some.inj e2))
  refine ⟨.str _ (by cases md <;> decide +kernel), fun hI => (by rw [inY_iff.mpr ⟨md, rfl, ok⟩] at hI; cases hI), fun m' em ok' => ?_⟩
  obtain rfl : md = m' := md_inj em
  refine ⟨_, pn_th B.pn, fun e => (by rw [pn_ok B.pn B.ln bet] at e; cases e), fun a2 ms2 e3 pn2 ln2 bt2 => ?_⟩
  cases e3
  obtain rfl := pn_uniq B.pn pn2
  intro q H1 s1 e1x
  have B1 := B.same s1
  have hp1 := s1 _ _ hp
  have po1 := po.keep s1
  refine ⟨_, rfl, _, rfl, _, rfl, _, rfl, rfl, _, _, _, _, rfl, .inl ⟨h, wn, lo, hi, B1.sv, some (bkV b), .tup hp1 (bk_pl b) (by show 3 ≤ 1000; decide), fun e => (by rw [blkB_iff.mpr ⟨b, vb, rfl⟩] at e; cases e), fun p' b' e1 e2 v' => ?_⟩⟩
  obtain rfl : p = p' := by cases e1; rfl
  obtain rfl : b = b' := bkV_inj (by rw [hp1] at e2; exact HO.tup.inj (Option.some.inj e2))
  refine ⟨.str _ (by cases md <;> decide +kernel), fun hI => (by rw [inY_iff.mpr ⟨md, rfl, ok⟩] at hI; cases hI), fun m' em ok' => ?_⟩
  obtain rfl : md = m' := md_inj em
  refine ⟨_, pn_th po1, fun e => (by rw [pn_ok po1 lo1 bo] at e; cases e), fun a2 ms2 e3 pn2 ln2 bt2 => ?_⟩
  cases e3
  obtain rfl := pn_uniq po1 pn2
  intro q2 H2 s2 e2x
  rw [go] at e2x
  refine ⟨(by show 2 ≤ sizeLine; decide), fun LA hLA => ?_⟩
  have t3 := Same.new (o := .lst [V.ref q, .ref q2]) hLA
  have e5 : (upd H2 LA (.lst [V.ref q, .ref q2])) LA = some (.lst [V.ref q, .ref q2]) := upd_same
  generalize upd H2 LA (.lst [V.ref q, .ref q2]) = H3 at t3 e5 ⊢
  have sA := s1.trans (s2.trans t3)
  exact k LA H3 (B.same sA) (.kp (.same sA)) fun H4 s4 => twice_dp (s4 _ _ e5) (gs_dp ((s2.trans (t3.trans s4)) _ _ e1x)) (gs_dp ((t3.trans s4) _ _ e2x))
include hr hg in
theorem segF6 : ∃ t, PS (LX P w base T cdv A outer s0 H0 E0) (stF 6) t ∧ ∀ (D : Ends) (a st lg cl sa fa pa : Addr) (h wn : Nat) (lo hi : Int) (nss : List (List Int)) (m : Nat) (H : Hp) (v2 : Option V) (v6 v7 v8 v9 v10 v11 v12 v13 v14 v15 v16 v17 v18 : Option V) (p : Addr) (b : Bk) (md : Md) (dq aq LA : Addr) (us : List V), m ≤ 800000 → LB SH.C Pt st lg cl sa fa pa h wn lo hi nss m H → H p = some (.tup (bkV b)) → Vb h wn b → md.ok b → FB st lg dq aq us (readsM md h wn b) (guessM md h wn ((lo + hi) / 2) b nss) H → (∀ H2, Same H H2 → Dp K H2 (.ref LA) (twiceD (gsD (guessM md h wn ((lo + hi) / 2) b nss)))) → 
    (∀ H', LB SH.C Pt st lg cl sa fa pa h wn lo hi nss m H' → KpN st lg H H' → D.nx (sl a st sa fa pa v2 (some (.ref p)) v7 v8 (some (.ref LA)) (some (.str md.s)) (some (.ref dq)) (some (.ref aq)) v13 v14 v15 v16 v17 v18) H') → t D (sl a st sa fa pa v2 (some (.ref p)) v7 v8 (some (.ref LA)) (some (.str md.s)) (some (.ref dq)) (some (.ref aq)) v13 v14 v15 v16 v17 v18) H := by
  refine ⟨_, (ps_if (pt_cmpR op_ne (pe_callB (show CallR _ _ (rRepr K) from call_repr hg hr) (by rfl) T.b_repr (by decide +kernel) (pa_cons (pv 9) pa_nil)) (pe_callB (show CallR _ _ (rRepr K) from call_repr hg hr) (by rfl) T.b_repr (by decide +kernel) (pa_cons (pe_lst (pa_cons (pv 12) (pa_cons (pv 12) pa_nil))) pa_nil)) (nomark _)) (pss_one (ps_ret pe_bl)) pss_nil), fun D a st lg cl sa fa pa h wn lo hi nss m H v2 v6 v7 v8 v9 v10 v11 v12 v13 v14 v15 v16 v17 v18 p b md dq aq LA us hm B hp vb ok fb td k => ?_⟩
  have bb := B.sc
  have sm := gs_sm (ns := guessM md h wn ((lo + hi) / 2) b nss) (by rw [guess_pt, List.length_map]; exact dots_len vb) (fun n hn => by
    have := guess_in vb ok bb.l2 (fun y x hy hx => gAt_in B.bd B.pn.ws (by rw [B.ln]; exact hy) hx) hn
    have := bb.l1
    have := bb.l3
    omega)
  obtain ⟨z1, z2, z3, z4⟩ := (twice_sm sm).repr (by decide) (by decide)
  refine ⟨_, rfl, LA, twiceD (gsD (guessM md h wn ((lo + hi) / 2) b nss)), rfl, td H (fun _ _ e => e), z1, z2, z3, z4, ?_⟩
  refine ⟨_, rfl, _, rfl, (by show 2 ≤ sizeLine; decide), fun MA hMA => ?_⟩
  have t1 := Same.new (o := .lst [V.ref aq, .ref aq]) hMA
  refine ⟨MA, twiceD (gsD (guessM md h wn ((lo + hi) / 2) b nss)), rfl, twice_dp upd_same (gs_dp (t1 _ _ fb.g)) (gs_dp (t1 _ _ fb.g)), z1, z2, z3, z4, rfl, _, rfl, ?_⟩
  rw [decide_eq_true rfl]
  exact iteF (k _ (B.same t1) (.kp (.same t1)))
include hr in
theorem segF7 : ∃ t, PS (LX P w base T cdv A outer s0 H0 E0) (stF 7) t ∧ ∀ (D : Ends) (a st lg cl sa fa pa : Addr) (h wn : Nat) (lo hi : Int) (nss : List (List Int)) (m : Nat) (H : Hp) (v2 : Option V) (v6 v7 v8 v9 v10 v11 v12 v13 v14 v15 v16 v17 v18 : Option V) (p : Addr) (b : Bk) (md : Md) (dq aq : Addr) (us : List V), m ≤ 800000 → LB SH.C Pt st lg cl sa fa pa h wn lo hi nss m H → H p = some (.tup (bkV b)) → Vb h wn b → md.ok b → FB st lg dq aq us (readsM md h wn b) (guessM md h wn ((lo + hi) / 2) b nss) H → 
    (∀ H', LB SH.C Pt st lg cl sa fa pa h wn lo hi nss m H' → KpN st lg H H' → D.nx (sl a st sa fa pa v2 (some (.ref p)) v7 v8 v9 (some (.str md.s)) (some (.ref dq)) (some (.ref aq)) v13 v14 v15 v16 v17 v18) H') → t D (sl a st sa fa pa v2 (some (.ref p)) v7 v8 v9 (some (.str md.s)) (some (.ref dq)) (some (.ref aq)) v13 v14 v15 v16 v17 v18) H := by
  refine ⟨_, (ps_if (pt_cmpR (op_neD hr.units) (pe_lc (own := [("item", 17)]) (g := gName 17) rfl sc_law.nd (pi_tup (pv 12)) (blkOk_by (own := [("item", 17)]) (N := ["script", "state", "turn", "scope", "form", "pane", "square", "sort_here", "due", "told", "fashion", "dots", "aims", "other", "most", "more", "each", "item", "aim"]) (sc := defScope s_law) (by decide +kernel))
        (fun _ _ _ _ _ => pg_name (i := 17) sc_law.nd rfl (Or.inl rfl)) (fun _ _ _ _ _ => pts_one (pt_cmpR op_ne (pv 17) (pe_call (ok_lwithin T) (hr.mono (by decide)) (by rfl) T._law_within.m T._law_within.f.kp (bd__law_within T) .nil passE (pa_cons (pv 3) (pa_cons (pv 17) pa_nil))) (nomark _))) (fun _ _ _ _ _ => (pv 17))) (pe_lst pa_nil) (nomark _)) (pss_one (ps_ret pe_bl)) pss_nil), fun D a st lg cl sa fa pa h wn lo hi nss m H v2 v6 v7 v8 v9 v10 v11 v12 v13 v14 v15 v16 v17 v18 p b md dq aq us hm B hp vb ok fb k => ?_⟩
  refine ⟨_, rfl, aq, rfl, ⟨_, SqT.of fb.g⟩, fun D2 hD => lc_it walk_tup (fun _ H' => H' D2 = some (.lst []) ∧ Same H H') ⟨upd_same, Same.new hD⟩ (fun _ H' _ q' => SqT.of (q'.2 _ _ fb.g)) ?_ ?_⟩
  · rintro i x Hq Hr hi' ⟨e, s⟩ ⟨rfl, hx⟩
    obtain ⟨n, hn, rfl⟩ : ∃ n, n ∈ guessM md h wn ((lo + hi) / 2) b nss ∧ V.int n = x := List.mem_map.mp (List.mem_of_getElem? hx)
    have gi := guess_in vb ok B.sc.l2 (fun y x hy hx => gAt_in B.bd B.pn.ws (by rw [B.ln]; exact hy) hx) hn
    have ws : withI lo hi n = n := by
      rw [with_eq B.sc.l2, if_neg (by omega), if_neg (by omega)]
    refine ⟨rfl, ?_⟩
    refine ⟨_, rfl, _, rfl, _, rfl, sa, _, _, lo, hi, n, rfl, B.sc.keep (fun o e => s _ _ e), rfl, _, rfl, ?_⟩
    rw [ws, decide_eq_true rfl]
    exact iteF ⟨e, s⟩
  rintro H2 ⟨e2, s2⟩
  refine ⟨(by show 0 ≤ sizeLine; decide), fun z hz => ?_⟩
  have t := Same.new (o := .lst []) hz
  refine ⟨_, _, dp_nil (t _ _ e2), dp_nil upd_same, shaped_nil, shaped_nil, _, rfl, ?_⟩
  have sA := s2.trans t
  exact iteF (k _ (B.same sA) (.kp (.same sA)))
include hr in
theorem segF8 : ∃ t, PS (LX P w base T cdv A outer s0 H0 E0) (stF 8) t ∧ ∀ (D : Ends) (a st lg cl sa fa pa : Addr) (h wn : Nat) (lo hi : Int) (nss : List (List Int)) (m : Nat) (H : Hp) (v2 : Option V) (v6 v7 v8 v9 v10 v11 v12 v13 v14 v15 v16 v17 v18 : Option V), m ≤ 800000 → LB SH.C Pt st lg cl sa fa pa h wn lo hi nss m H → 
    (∀ (mo : Nat) H', mo ≤ 200 → LB SH.C Pt st lg cl sa fa pa h wn lo hi nss (m + 1) H' → KpN st lg H H' → D.nx (sl a st sa fa pa v2 v6 v7 v8 v9 v10 v11 v12 v13 (some (.int (mo : Int))) v15 v16 v17 v18) H') → t D (sl a st sa fa pa v2 v6 v7 v8 v9 v10 v11 v12 v13 v14 v15 v16 v17 v18) H := by
  refine ⟨_, (ps_set (i := 14) sc_law.nd rfl (by first | exact .inl rfl | exact .inr rfl) (pe_call (ok_pick T) (hr.mono (by decide)) (by rfl) T._law_pick.m T._law_pick.f.kp (bd__law_pick T) .nil passE (pa_cons (pv 1) (pa_cons (pe_lst (pa_cons pe_int (pa_cons pe_int (pa_cons pe_int pa_nil)))) pa_nil)))), fun D a st lg cl sa fa pa h wn lo hi nss m H v2 v6 v7 v8 v9 v10 v11 v12 v13 v14 v15 v16 v17 v18 hm B k => ?_⟩
  refine ⟨_, rfl, (by show 3 ≤ sizeLine; decide), fun q hq => ⟨st, lg, cl, q, _, m, rfl, upd_same, (B.S.off hq).2, (by show 0 < 3; decide), (by show 3 ≤ 1000; decide), by omega, B.S.same (Same.new hq), fun x H' hx S' kp => ?_⟩⟩
  have kA : Kp st lg H H' := (Kp.same (Same.new hq)).trans kp
  simp only [List.mem_cons, List.not_mem_nil, or_false] at hx
  rcases hx with z | z | z <;> subst z
  · exact k 1 H' (by decide) (B.kp kA S') (.kp kA)
  · exact k 3 H' (by decide) (B.kp kA S') (.kp kA)
  · exact k 200 H' (by decide) (B.kp kA S') (.kp kA)
include hr hg BE Z BM kT in
theorem segF9 : ∃ t, PS (LX P w base T cdv A outer s0 H0 E0) (stF 9) t ∧ ∀ (D : Ends) (a st lg cl sa fa pa : Addr) (h wn : Nat) (lo hi : Int) (nss : List (List Int)) (m : Nat) (H : Hp) (v2 : Option V) (v6 v7 v8 v9 v10 v11 v12 v13 v14 v15 v16 v17 v18 : Option V) (p : Addr) (b : Bk) (md : Md) (mo : Nat), m ≤ 800000 → LB SH.C Pt st lg cl sa fa pa h wn lo hi nss m H → H p = some (.tup (bkV b)) → Vb h wn b → md.ok b → mo ≤ 200 → 
    (∀ mq mss H', LB SH.C Pt st lg cl sa fa pa h wn lo hi nss (m + 256) H' → KpN st lg H H' → H' mq = some (.tup ((guessM md h wn ((lo + hi) / 2) b mss).map V.int)) → (∀ y x, y < h → x < wn → gAt nss y x ≤ gAt mss y x ∧ gAt mss y x ≤ gAt nss y x + (mo : Int)) → D.nx (sl a st sa fa pa v2 (some (.ref p)) v7 v8 v9 (some (.str md.s)) v11 v12 v13 (some (.int (mo : Int))) (some (.ref mq)) v16 v17 v18) H') → t D (sl a st sa fa pa v2 (some (.ref p)) v7 v8 v9 (some (.str md.s)) v11 v12 v13 (some (.int (mo : Int))) v15 v16 v17 v18) H := by
  refine ⟨_, (ps_set (i := 15) sc_law.nd rfl (by first | exact .inl rfl | exact .inr rfl) (pe_call (ok_guess T SH BE Z BM kT) (hr.mono (by decide)) (by rfl) T.guess.m T.guess.f.kp (bd_guess T) .nil passE (pa_cons (pv 4) (pa_cons (pv 6) (pa_cons (pv 10) (pa_cons (pe_call (ok_raised T) (hr.mono (by decide)) (by rfl) T._law_raised.m T._law_raised.f.kp (bd__law_raised T) .nil passE (pa_cons (pv 1) (pa_cons (pv 3) (pa_cons (pv 5) (pa_cons (pv 14) pa_nil))))) pa_nil)))))), fun D a st lg cl sa fa pa h wn lo hi nss m H v2 v6 v7 v8 v9 v10 v11 v12 v13 v14 v15 v16 v17 v18 p b md mo hm B hp vb ok hmo k => ?_⟩
  refine ⟨_, rfl, _, rfl, _, rfl, _, rfl, _, rfl, _, rfl, _, rfl, st, lg, cl, sa, pa, h, wn, lo, hi, m, mo, nss, rfl, B.sc, B.ns, by omega, B.S, B.pn, B.ln, B.bd, by omega, fun ra mss H1 pn1 ln1 bd1 nr S1 kp => ?_⟩
  have B1 := B.kp kp S1
  have hp1 := Kp.tp B.S kp _ _ hp
  have bet := LB.bet (⟨S1, B1.Tb, B1.sc, B1.ns, B1.sv, pn1, ln1, bd1⟩ : LB SH.C Pt st lg cl sa fa ra h wn lo hi mss (m + 256) H1)
  refine ⟨_, _, _, _, rfl, .inl ⟨h, wn, lo, hi, B1.sv, some (bkV b), .tup hp1 (bk_pl b) (by show 3 ≤ 1000; decide), fun e => (by rw [blkB_iff.mpr ⟨b, vb, rfl⟩] at e; cases e), fun p' b' e1 e2 v' => ?_⟩⟩
  obtain rfl : p = p' := by cases e1; rfl
  obtain rfl : b = b' := bkV_inj (by rw [hp1] at e2; exact HO.tup.inj (Option.some.inj e2))
  refine ⟨.str _ (by cases md <;> decide +kernel), fun hI => (by rw [inY_iff.mpr ⟨md, rfl, ok⟩] at hI; cases hI), fun m' em ok' => ?_⟩
  obtain rfl : md = m' := md_inj em
  refine ⟨_, pn_th pn1, fun e => (by rw [pn_ok pn1 ln1 bet] at e; cases e), fun a2 ms2 e3 pn2 ln2 bt2 => ?_⟩
  cases e3
  have em2 := pn_uniq pn1 pn2
  subst em2
  intro q H2 s2 e2x
  exact k q _ H2 (B1.same s2) ((KpN.kp kp).trans (.kp (.same s2))) e2x nr
include hr in
theorem segF10 : ∃ t, PS (LX P w base T cdv A outer s0 H0 E0) (stF 10) t ∧ ∀ (D : Ends) (a st lg cl sa fa pa : Addr) (h wn : Nat) (lo hi : Int) (nss : List (List Int)) (m : Nat) (H : Hp) (v2 : Option V) (v6 v7 v8 v9 v10 v11 v12 v13 v14 v15 v16 v17 v18 : Option V) (p : Addr) (b : Bk) (md : Md) (dq aq mq : Addr) (us : List V) (mo : Nat) (mss : List (List Int)), m ≤ 800000 → LB SH.C Pt st lg cl sa fa pa h wn lo hi nss m H → H p = some (.tup (bkV b)) → Vb h wn b → md.ok b → FB st lg dq aq us (readsM md h wn b) (guessM md h wn ((lo + hi) / 2) b nss) H → H mq = some (.tup ((guessM md h wn ((lo + hi) / 2) b mss).map V.int)) → (∀ y x, y < h → x < wn → gAt nss y x ≤ gAt mss y x ∧ gAt mss y x ≤ gAt nss y x + (mo : Int)) → 
    (∀ H', LB SH.C Pt st lg cl sa fa pa h wn lo hi nss m H' → KpN st lg H H' → D.nx (sl a st sa fa pa v2 (some (.ref p)) v7 v8 v9 (some (.str md.s)) (some (.ref dq)) (some (.ref aq)) v13 (some (.int (mo : Int))) (some (.ref mq)) v16 v17 v18) H') → t D (sl a st sa fa pa v2 (some (.ref p)) v7 v8 v9 (some (.str md.s)) (some (.ref dq)) (some (.ref aq)) v13 (some (.int (mo : Int))) (some (.ref mq)) v16 v17 v18) H := by
  refine ⟨_, (ps_if (pt_cmpR (op_neD hr.units) (pe_lc (own := [("aim", 18), ("item", 17)]) (g := gTup K 2 (gCons (gName 18) (gCons (gName 17) gNil))) rfl sc_law.nd ( (RZ.pi_zipA (by rfl) T.b_zip (pa_cons (pv 12) (pa_cons (pv 15) pa_nil)))) (blkOk_by (own := [("aim", 18), ("item", 17)]) (N := ["script", "state", "turn", "scope", "form", "pane", "square", "sort_here", "due", "told", "fashion", "dots", "aims", "other", "most", "more", "each", "item", "aim"]) (sc := defScope s_law) (by decide +kernel))
        (fun _ _ _ _ _ => pg_tup rfl (pgs_cons (pg_name (i := 18) sc_law.nd rfl (Or.inl rfl)) (pgs_cons (pg_name (i := 17) sc_law.nd rfl (Or.inl rfl)) pgs_nil))) (fun _ _ _ _ _ => pts_one (pt_not (pt_chain op_le op_le (pv 18) (pv 17) (pe_op (show OpR _ _ (rI0 fun i j => .int (i + j)) from op_add) (pv 18) (pv 14))))) (fun _ _ _ _ _ => pe_int)) (pe_lst pa_nil) (nomark _)) (pss_one (ps_ret pe_bl)) pss_nil), fun D a st lg cl sa fa pa h wn lo hi nss m H v2 v6 v7 v8 v9 v10 v11 v12 v13 v14 v15 v16 v17 v18 p b md dq aq mq us mo mss hm B hp vb ok fb em nr k => ?_⟩
  refine ⟨_, rfl, _, rfl, aq, mq, _, _, rfl, .inr ⟨SqT.of fb.g, SqT.of em, fun D2 hD => lc_it (walk_zipT rfl) (fun _ H' => H' D2 = some (.lst []) ∧ Same H H') ⟨upd_same, Same.new hD⟩ (fun _ H' _ q' => ⟨SqT.of (q'.2 _ _ fb.g), SqT.of (q'.2 _ _ em)⟩) ?_ ?_⟩⟩
  · rintro i x Hq Hr hi' ⟨e, s⟩ ⟨T', x1, y1, rfl, hT, rfl, h1, h2⟩
    obtain ⟨g, n, rfl, rfl, g1, g2⟩ := near_at vb ok nr h1 h2
    have tT := Same.new (o := .tup [V.int g, .int n]) hT
    refine ⟨T', _, rfl, SqT.of upd_same, rfl, _, _, rfl, _, _, rfl, rfl, rfl, ?_⟩
    refine ⟨_, rfl, _, rfl, _, _, rfl, rfl, _, rfl, ?_⟩
    rw [decide_eq_true g1]
    refine iteT ⟨_, rfl, _, rfl, _, _, rfl, rfl, _, _, rfl, rfl, _, rfl, ?_⟩
    rw [decide_eq_true g2]
    exact iteF ⟨tT _ _ e, s.trans tT⟩
  rintro H2 ⟨e2, s2⟩
  refine ⟨(by show 0 ≤ sizeLine; decide), fun z hz => ?_⟩
  have t := Same.new (o := .lst []) hz
  refine ⟨_, _, dp_nil (t _ _ e2), dp_nil upd_same, shaped_nil, shaped_nil, _, rfl, ?_⟩
  have sA := s2.trans t
  exact iteF (k _ (B.same sA) (.kp (.same sA)))
end
end K05
namespace K05
open PySem PySem.Spec PyProof.Rows L2 PySem.W LamX KA KW KU KL KT
open Evl (pss_cut tCut)
/-! ### the law: the loops, the law -/
theorem el_of {H : Hp} {us : List V} {bs : List Bk} (r : RL bkV H us bs) : ∀ v ∈ us, El H v := fun u hu => by
  obtain ⟨i, hi, e⟩ := List.mem_iff_getElem.mp hu
  obtain ⟨p, b, rfl, hb, eb⟩ := r.get (i := i) (by rw [List.getElem?_eq_getElem hi, e])
  exact .inr ⟨p, b, rfl, eb⟩
theorem mem_cutV {xs : List V} {lo hi : Option Int} {x : V} (h : x ∈ cutV xs lo hi) : x ∈ xs := List.mem_of_mem_drop (List.mem_of_mem_take h)
section
variable {P : Program} {w : World} {K : PySem.W.Frag} {mg : Str → Option Value} {base : Heap} (T : Top K mg) (SH : ShapeT K mg) (BE : BadShapeT P w K mg T.reel.C) (Z : SzT K mg)
variable (BM : BadModeT P w K mg T.reel.C) (kT : PySem.W.kitOne K (.type "tuple") (.ref SH.C) = some false)
variable {c : Addr} {A : Around} {outer : List Env} {s0 : Shared} {H0 : Hp} {E0 : XK} {Pt : Addr} {cdv : Value} (hr : Room 11 (A.deeper (envOfC "law" (defScope s_law) s0.heap.objs.size T.law.a cdv))) (hg : A.guards = some [])
include hr hg BE Z BM kT in
theorem segS1 : ∃ t, PS (LX P w base T cdv A outer s0 H0 E0) (stS 1) t ∧ ∀ (D : Ends) (a st lg cl sa fa pa : Addr) (h wn : Nat) (lo hi : Int) (nss : List (List Int)) (m : Nat) (H : Hp) (v2 : Option V) (v6 v7 v8 v9 v10 v11 v12 v13 v14 v15 v16 v17 v18 : Option V) (p : Addr) (b : Bk), m ≤ 700000 → LB SH.C Pt st lg cl sa fa pa h wn lo hi nss m H → H p = some (.tup (bkV b)) → Vb h wn b →
    (∀ H' m' v9 v10 v11 v12 v13 v14 v15, m' ≤ m + 2565 → LB SH.C Pt st lg cl sa fa pa h wn lo hi nss m' H' → KpN st lg H H' → D.nx (sl a st sa fa pa v2 (some (.ref p)) v7 v8 v9 v10 v11 v12 v13 v14 v15 v16 v17 v18) H') → t D (sl a st sa fa pa v2 (some (.ref p)) v7 v8 v9 v10 v11 v12 v13 v14 v15 v16 v17 v18) H := by
  obtain ⟨t0, p0, r0⟩ := segF0 T SH (A := A) (outer := outer) (s0 := s0) (H0 := H0) (E0 := E0) (cdv := cdv) (Pt := Pt) hr
  obtain ⟨t1, p1, r1⟩ := segF1 T SH BE Z BM kT (A := A) (outer := outer) (s0 := s0) (H0 := H0) (E0 := E0) (cdv := cdv) (Pt := Pt) hr hg
  obtain ⟨t2, p2, r2⟩ := segF2 T SH BE Z BM kT (A := A) (outer := outer) (s0 := s0) (H0 := H0) (E0 := E0) (cdv := cdv) (Pt := Pt) hr hg
  obtain ⟨t3, p3, r3⟩ := segF3 T SH (A := A) (outer := outer) (s0 := s0) (H0 := H0) (E0 := E0) (cdv := cdv) (Pt := Pt) hr hg
  obtain ⟨t4, p4, r4⟩ := segF4 T SH (A := A) (outer := outer) (s0 := s0) (H0 := H0) (E0 := E0) (cdv := cdv) (Pt := Pt) hr
  obtain ⟨t5, p5, r5⟩ := segF5 T SH BE Z BM kT (A := A) (outer := outer) (s0 := s0) (H0 := H0) (E0 := E0) (cdv := cdv) (Pt := Pt) hr hg
  obtain ⟨t6, p6, r6⟩ := segF6 T SH (A := A) (outer := outer) (s0 := s0) (H0 := H0) (E0 := E0) (cdv := cdv) (Pt := Pt) hr hg
  obtain ⟨t7, p7, r7⟩ := segF7 T SH (A := A) (outer := outer) (s0 := s0) (H0 := H0) (E0 := E0) (cdv := cdv) (Pt := Pt) hr
  obtain ⟨t8, p8, r8⟩ := segF8 T SH (A := A) (outer := outer) (s0 := s0) (H0 := H0) (E0 := E0) (cdv := cdv) (Pt := Pt) hr
  obtain ⟨t9, p9, r9⟩ := segF9 T SH BE Z BM kT (A := A) (outer := outer) (s0 := s0) (H0 := H0) (E0 := E0) (cdv := cdv) (Pt := Pt) hr hg
  obtain ⟨t10, p10, r10⟩ := segF10 T SH (A := A) (outer := outer) (s0 := s0) (H0 := H0) (E0 := E0) (cdv := cdv) (Pt := Pt) hr
  refine ⟨_, (ps_for (passes_of rfl) rfl (pi_list (pe_lc (own := [("each", 16)]) (g := gName 16) rfl sc_law.nd (pi_list (pe_slice sl_list (pe_call0 (ok_fash T) (hr.mono (by decide)) (by rfl) T._law_fashions.m T._law_fashions.f.kp (bd__law_fashions T) .nil passE) po_none (po_some pe_int))) (blkOk_by (own := [("each", 16)]) (N := ["script", "state", "turn", "scope", "form", "pane", "square", "sort_here", "due", "told", "fashion", "dots", "aims", "other", "most", "more", "each", "item", "aim"]) (sc := defScope s_law) (by decide +kernel))
        (fun _ _ _ _ _ => pg_name (i := 16) sc_law.nd rfl (Or.inl rfl)) (fun _ _ _ _ _ => pts_one (pt_val (pe_call (ok_stands T) (hr.mono (by decide)) (by rfl) T._law_stands.m T._law_stands.f.kp (bd__law_stands T) .nil passE (pa_cons (pv 6) (pa_cons (pv 16) (pa_cons pe_int pa_nil)))))) (fun _ _ _ _ _ => (pv 16)))) (pg_name (i := 10) sc_law.nd rfl (by first | exact .inl rfl | exact .inr rfl)) (pss_cons p0 (pss_cons p1 (pss_cons p2 (pss_cons p3 (pss_cons p4 (pss_cons p5 (pss_cons p6 (pss_cons p7 (pss_cons p8 (pss_cons p9 (pss_one p10)))))))))))), fun D a st lg cl sa fa pa h wn lo hi nss m H v2 v6 v7 v8 v9 v10 v11 v12 v13 v14 v15 v16 v17 v18 p b hm B hp vb k => ?_⟩
  refine ⟨rfl, fun q0 H1 s1 n1 e1 => ⟨_, rfl, q0, _, rfl, SqL.of e1, fun l hl => ?_⟩⟩
  have ec : cutV fashL none (some 5) = [V.str "flat", .str "left", .str "up", .str "middle", .str "mean"] := rfl
  rw [ec]
  have tx := s1.trans (Same.new (o := .lst [V.str "flat", .str "left", .str "up", .str "middle", .str "mean"]) hl)
  have e1 : (upd H1 l (.lst [V.str "flat", .str "left", .str "up", .str "middle", .str "mean"])) l = some (.lst [V.str "flat", .str "left", .str "up", .str "middle", .str "mean"]) := upd_same
  generalize upd H1 l (.lst [V.str "flat", .str "left", .str "up", .str "middle", .str "mean"]) = H2 at tx e1 ⊢
  have s5 : 100 ≤ sizeLine := by decide
  refine ⟨l, rfl, ⟨_, SqL.of e1⟩, fun D2 hD => lc_it walk_list (fun i H' => ∃ ws, H' D2 = some (.lst ws) ∧ Same H2 H' ∧ ws.length ≤ i ∧ ∀ u ∈ ws, ∃ m : Md, u = .str m.s ∧ m.ok b) ⟨[], upd_same, Same.new hD, Nat.le_refl _, fun u hu => by cases hu⟩ (fun _ H' _ q' => SqL.of (q'.elim fun _ q => q.2.1 _ _ e1)) ?_ ?_⟩
  · rintro i x Hq Hr hi' ⟨ws, ew, sw, lw, aw⟩ ⟨rfl, hx⟩
    obtain ⟨md, rfl, _⟩ := fash5 hx
    have hi' : i < 5 := hi'
    refine ⟨rfl, ?_⟩
    refine ⟨_, rfl, _, rfl, p, b, _, 0, _, rfl, (tx.trans sw) _ _ hp, stands_val, fun H3 s3 => ⟨_, rfl, ?_⟩⟩
    cases hs : standB b md
    · exact iteF ⟨ws, s3 _ _ ew, sw.trans s3, by omega, aw⟩
    · refine iteT ⟨_, rfl, ws, s3 _ _ ew, by omega, ws ++ [.str md.s], upd_same, putN (sw.trans s3) hD, by rw [List.length_append, List.length_singleton]; omega, fun u hu => ?_⟩
      rcases List.mem_append.mp hu with z | z
      · exact aw u z
      · exact ⟨md, List.mem_singleton.mp z, standB_iff.mp hs⟩
  rintro H3 ⟨ws, ew, sw, lw, aw⟩
  have lw : ws.length ≤ 5 := lw
  have s3 := tx.trans sw
  have B3 := B.same s3
  have nD := (B.S.same tx).off hD
  clear e1 hD n1
  refine ⟨D2, rfl, ⟨_, SqL.of ew⟩, for_list (xs := ws) (fun i σ H' => (∃ v9 v10 v11 v12 v13 v14 v15, σ = (sl a st sa fa pa v2 (some (.ref p)) v7 v8 v9 v10 v11 v12 v13 v14 v15 v16 v17 v18)) ∧ (∃ m', m' ≤ m + 513 * i ∧ LB SH.C Pt st lg cl sa fa pa h wn lo hi nss m' H') ∧ KpN st lg H3 H') ⟨⟨_, _, _, _, _, _, _, rfl⟩, ⟨m, by omega, B3⟩, .refl⟩ (fun i σ H' _ h => SqL.of (h.2.2 _ _ ew nD.1 nD.2 fun _ z => by cases z)) ?_ fun σ' H' ⟨⟨v9, v10, v11, v12, v13, v14, v15, e⟩, ⟨m', l', B'⟩, k'⟩ => ?_⟩
  case refine_2 =>
    rw [e]
    exact k H' m' v9 v10 v11 v12 v13 v14 v15 (by omega) B' ((KpN.kp (.same s3)).trans k')
  clear v9 v10 v11 v12 v13 v14 v15
  rintro i x σ G0 hx ⟨⟨v9, v10, v11, v12, v13, v14, v15, rfl⟩, ⟨m', l', B0⟩, k0⟩
  obtain ⟨md, rfl, ok⟩ := aw x (List.mem_of_getElem? hx)
  have il := (List.getElem?_eq_some_iff.mp hx).1
  have hp0 := KpN.tp B3.S k0 _ _ (s3 _ _ hp)
  refine r0 _ a st lg cl sa fa pa h wn lo hi nss m' G0 v2 none _ _ _ none _ _ _ _ _ _ _ _ p b md (by omega) B0 hp0 vb ok fun dq aq us G1 B1 k1 fb1 => ?_
  have hp1 := KpN.tp B0.S k1 _ _ hp0
  refine r1 _ a st lg cl sa fa pa h wn lo hi nss m' G1 v2 none _ _ _ none _ _ _ _ _ _ _ _ p b md (by omega) B1 hp1 vb ok fun G2 B2 k2 => ?_
  have hp2 := KpN.tp B1.S k2 _ _ hp1
  have fb2 := fb1.kn B1.S k2
  refine r2 _ a st lg cl sa fa pa h wn lo hi nss m' G2 v2 none _ _ _ none _ _ _ _ _ _ _ _ p b md (by omega) B2 hp2 vb ok fun LA G3 B3' k3 td3 => ?_
  have hp3 := KpN.tp B2.S k3 _ _ hp2
  have fb3 := fb2.kn B2.S k3
  refine r3 _ a st lg cl sa fa pa h wn lo hi nss m' G3 v2 none _ _ none none none none _ _ _ _ _ _ p b md dq aq LA us (by omega) B3' hp3 vb ok fb3 td3 fun G4 B4 k4 => ?_
  have hp4 := KpN.tp B3'.S k4 _ _ hp3
  have fb4 := fb3.kn B3'.S k4
  refine r4 _ a st lg cl sa fa pa h wn lo hi nss m' G4 v2 none _ _ _ none none none _ _ _ _ _ _ p b md dq aq us (by omega) B4 hp4 vb ok fb4 fun oa mss G5 B5 k5 po lno bo go => ?_
  have hp5 := KpN.tp B4.S k5 _ _ hp4
  have fb5 := fb4.kn B4.S k5
  refine r5 _ a st lg cl sa fa pa h wn lo hi nss _ G5 v2 none _ _ _ none _ _ none _ _ _ _ _ p b md oa mss (by omega) B5 hp5 vb ok po lno bo go fun LA G6 B6 k6 td6 => ?_
  have hp6 := KpN.tp B5.S k6 _ _ hp5
  have fb6 := fb5.kn B5.S k6
  refine r6 _ a st lg cl sa fa pa h wn lo hi nss _ G6 v2 none _ _ none none none none _ _ _ _ _ _ p b md dq aq LA us (by omega) B6 hp6 vb ok fb6 td6 fun G7 B7 k7 => ?_
  have hp7 := KpN.tp B6.S k7 _ _ hp6
  have fb7 := fb6.kn B6.S k7
  refine r7 _ a st lg cl sa fa pa h wn lo hi nss _ G7 v2 none _ _ _ none none none _ _ _ _ _ _ p b md dq aq us (by omega) B7 hp7 vb ok fb7 fun G8 B8 k8 => ?_
  have hp8 := KpN.tp B7.S k8 _ _ hp7
  have fb8 := fb7.kn B7.S k8
  refine r8 _ a st lg cl sa fa pa h wn lo hi nss _ G8 v2 _ _ _ _ _ _ _ _ _ _ _ _ _  (by omega) B8 fun mo G9 hmo B9 k9 => ?_
  have hp9 := KpN.tp B8.S k9 _ _ hp8
  have fb9 := fb8.kn B8.S k9
  refine r9 _ a st lg cl sa fa pa h wn lo hi nss _ G9 v2 none _ _ _ none _ _ _ none _ _ _ _ p b md mo (by omega) B9 hp9 vb ok hmo fun mq ms2 G10 B10 k10 em nr => ?_
  have hp10 := KpN.tp B9.S k10 _ _ hp9
  have fb10 := fb9.kn B9.S k10
  refine r10 _ a st lg cl sa fa pa h wn lo hi nss _ G10 v2 none _ _ _ none none none _ none none _ _ _ p b md dq aq mq us mo ms2 (by omega) B10 hp10 vb ok fb10 em nr fun G11 B11 k11 => ?_
  exact ⟨⟨_, _, _, _, _, _, _, rfl⟩, ⟨_, by omega, B11⟩, k0.trans (k1.trans (k2.trans (k3.trans (k4.trans (k5.trans (k6.trans (k7.trans (k8.trans (k9.trans (k10.trans k11))))))))))⟩
include hr hg BE Z BM kT in
theorem segS2 {cr : Addr} (LT : LamT K "_law_refused" s__law_refused T._law_refused.a T._law_refused.d cr Pt) (TB : TabB base mg cr Pt) : ∃ t, PS (LX P w base T cdv A outer s0 H0 E0) (stS 2) t ∧ ∀ (D : Ends) (a st lg cl sa fa pa : Addr) (h wn : Nat) (lo hi : Int) (nss : List (List Int)) (m : Nat) (H : Hp) (v2 : Option V) (v6 v7 v8 v9 v10 v11 v12 v13 v14 v15 v16 v17 v18 : Option V) (p : Addr) (b : Bk), m ≤ 700000 → LB SH.C Pt st lg cl sa fa pa h wn lo hi nss m H → H p = some (.tup (bkV b)) → Vb h wn b →
    (∀ H', LB SH.C Pt st lg cl sa fa pa h wn lo hi nss (m + 6) H' → KpN st lg H H' → D.nx (sl a st sa fa pa v2 (some (.ref p)) v7 v8 v9 v10 v11 v12 v13 v14 v15 v16 v17 v18) H') → t D (sl a st sa fa pa v2 (some (.ref p)) v7 v8 v9 v10 v11 v12 v13 v14 v15 v16 v17 v18) H := by
  refine ⟨_, (ps_if (pt_not (pt_val (pe_wcall (FnG.w (ok_refused T SH BE Z BM kT LT TB)) (since_self rfl) (hr.mono (by decide)) hg (by rfl) T._law_refused.m T._law_refused.f.kp (bd__law_refused T) passE (pa_cons (pv 1) (pa_cons (pv 4) (pa_cons (pv 6) (pa_cons (pv 5) pa_nil))))))) (pss_one (ps_ret pe_bl)) pss_nil), fun D a st lg cl sa fa pa h wn lo hi nss m H v2 v6 v7 v8 v9 v10 v11 v12 v13 v14 v15 v16 v17 v18 p b hm B hp vb k => ?_⟩
  exact ⟨_, rfl, _, rfl, _, rfl, _, rfl, st, lg, cl, fa, p, pa, h, wn, lo, hi, b, nss, m, rfl, by omega, ⟨B.S, B.Tb, B.sv, hp, B.pn⟩, vb, B.ln, fun H' S' Tb' kn => ⟨_, rfl, iteF (k H' (B.kn kn S' Tb') kn)⟩⟩
include hr hg BE Z BM kT in
theorem segT2 {cr : Addr} (LT : LamT K "_law_refused" s__law_refused T._law_refused.a T._law_refused.d cr Pt) (TB : TabB base mg cr Pt) : ∃ t, PS (LX P w base T cdv A outer s0 H0 E0) (stT 2) t ∧ ∀ (D : Ends) (a st lg cl sa fa pa : Addr) (h wn : Nat) (lo hi : Int) (nss : List (List Int)) (m : Nat) (H : Hp) (v2 : Option V) (v6 v7 v8 v9 v10 v11 v12 v13 v14 v15 v16 v17 v18 : Option V), m ≤ 600000 → LB SH.C Pt st lg cl sa fa pa h wn lo hi nss m H →
    (∀ H' m' v6 v7 v8 v9 v10 v11 v12 v13 v14 v15, m' ≤ m + 10400 → LB SH.C Pt st lg cl sa fa pa h wn lo hi nss m' H' → D.nx (sl a st sa fa pa v2 v6 v7 v8 v9 v10 v11 v12 v13 v14 v15 v16 v17 v18) H') → t D (sl a st sa fa pa v2 v6 v7 v8 v9 v10 v11 v12 v13 v14 v15 v16 v17 v18) H := by
  obtain ⟨t0, p0, r0⟩ := segS0 T SH BE Z kT (A := A) (outer := outer) (s0 := s0) (H0 := H0) (E0 := E0) (cdv := cdv) (Pt := Pt) hr hg
  obtain ⟨t1, p1, r1⟩ := segS1 T SH BE Z BM kT (A := A) (outer := outer) (s0 := s0) (H0 := H0) (E0 := E0) (cdv := cdv) (Pt := Pt) hr hg
  obtain ⟨t2, p2, r2⟩ := segS2 T SH BE Z BM kT (A := A) (outer := outer) (s0 := s0) (H0 := H0) (E0 := E0) (cdv := cdv) (Pt := Pt) hr hg LT TB
  refine ⟨_, (ps_for (passes_of rfl) rfl (pi_list (pe_slice sl_list (pe_call (ok_mixed T) (hr.mono (by decide)) (by rfl) T._law_mixed.m T._law_mixed.f.kp (bd__law_mixed T) .nil passE (pa_cons (pv 1) (pa_cons (pe_call (ok_lsquares T) (hr.mono (by decide)) (by rfl) T._law_squares.m T._law_squares.f.kp (bd__law_squares T) .nil passE (pa_cons (pv 3) pa_nil)) pa_nil))) po_none (po_some pe_int))) (pg_name (i := 6) sc_law.nd rfl (by first | exact .inl rfl | exact .inr rfl)) (pss_cons p0 (pss_cons p1 (pss_one p2)))), fun D a st lg cl sa fa pa h wn lo hi nss m H v2 v6 v7 v8 v9 v10 v11 v12 v13 v14 v15 v16 v17 v18 hm B k => ?_⟩
  have hb := B.scw.b
  refine ⟨_, rfl, _, rfl, sa, h, wn, rfl, B.scw, fun ea us bs H1 s1 n1 l1 r1x pm => ?_⟩
  have lb : us.length ≤ 84 := by rw [r1x.1, pm.length_eq]; exact every_len hb.2.1 hb.2.2.2
  refine ⟨st, lg, cl, ea, us, m, rfl, SqL.of l1, by omega, el_of r1x, by omega, B.S.same s1, fun q js H2 hj lj l2 n2 S2 kp2 => ⟨_, rfl, q, js, rfl, SqL.of l2, fun l hl => ?_⟩⟩
  have B2 := ((B.same s1).kp kp2 S2).mono (show m + us.length ≤ m + 84 by omega)
  have r2x := r1x.tp (Kp.tp (B.S.same s1) kp2)
  have t3 := Same.new (o := .lst (cutV js none (some 4))) hl
  have e3 : (upd H2 l (.lst (cutV js none (some 4)))) l = some (.lst (cutV js none (some 4))) := upd_same
  have nl := B2.S.off hl
  have B3 := B2.same t3
  have r3x := r2x.same t3
  have hx : ∀ x ∈ cutV js none (some 4), x ∈ us := fun x hx => hj x (mem_cutV hx)
  have l4 : (cutV js none (some 4)).length ≤ 4 := by
    unfold cutV
    have := HT.sIx_nat js.length js.length 4
    rw [show ((4 : Nat) : Int) = 4 from rfl] at this
    rw [List.length_take, this]
    omega
  generalize cutV js none (some 4) = xs at e3 B3 hx l4 t3 r3x ⊢
  generalize upd H2 l (.lst xs) = H3 at t3 e3 B3 r3x ⊢
  refine ⟨l, rfl, ⟨_, SqL.of e3⟩, for_list (xs := xs) (fun i σ H' => (∃ v6 v7 v8 v9 v10 v11 v12 v13 v14 v15, σ = (sl a st sa fa pa v2 v6 v7 v8 v9 v10 v11 v12 v13 v14 v15 v16 v17 v18)) ∧ (∃ m', m' ≤ m + 84 + 2571 * i ∧ LB SH.C Pt st lg cl sa fa pa h wn lo hi nss m' H') ∧ KpN st lg H3 H') ⟨⟨_, _, _, _, _, _, _, _, _, _, rfl⟩, ⟨m + 84, by omega, B3⟩, .refl⟩ (fun i σ H' _ h => SqL.of (h.2.2 _ _ e3 nl.1 nl.2 fun _ z => by cases z)) ?_ fun σ' H' ⟨⟨v6, v7, v8, v9, v10, v11, v12, v13, v14, v15, e⟩, ⟨m', l', B'⟩, k'⟩ => ?_⟩
  case refine_2 =>
    rw [e]
    exact k H' m' v6 v7 v8 v9 v10 v11 v12 v13 v14 v15 (by omega) B'
  clear v6 v7 v8 v9 v10 v11 v12 v13 v14 v15
  rintro i x σ G0 hi' ⟨⟨v6, v7, v8, v9, v10, v11, v12, v13, v14, v15, rfl⟩, ⟨m', l', B0⟩, k0⟩
  have il := (List.getElem?_eq_some_iff.mp hi').1
  have mx := hx x (List.mem_of_getElem? hi')
  obtain ⟨j, hj2, ej⟩ := List.mem_iff_getElem.mp mx
  obtain ⟨p, b, rfl, hb1, hpb⟩ := r3x.get (i := j) (by rw [List.getElem?_eq_getElem hj2, ej])
  have vb : Vb h wn b := every_mem.mp (pm.mem_iff.mp (List.mem_of_getElem? hb1))
  have hp0 := KpN.tp B3.S k0 _ _ hpb
  refine r0 _ a st lg cl sa fa pa h wn lo hi nss m' G0 v2 none _ _ _ _ _ _ _ _ _ _ _ _ p b (by omega) B0 hp0 vb fun G1 v7 v8 v9 B1 k1 => ?_
  have hp1 := KpN.tp B0.S k1 _ _ hp0
  refine r1 _ a st lg cl sa fa pa h wn lo hi nss m' G1 v2 none _ _ _ _ _ _ _ _ _ _ _ _ p b (by omega) B1 hp1 vb fun G2 m2 v9 v10 v11 v12 v13 v14 v15 l2' B2' k2 => ?_
  have hp2 := KpN.tp B1.S k2 _ _ hp1
  refine r2 _ a st lg cl sa fa pa h wn lo hi nss m2 G2 v2 none _ _ _ _ _ _ _ _ _ _ _ _ p b (by omega) B2' hp2 vb fun G3 B3' k3 => ?_
  exact ⟨⟨_, _, _, _, _, _, _, _, _, _, rfl⟩, ⟨_, by omega, B3'⟩, k0.trans (k1.trans (k2.trans k3))⟩
end
def spLaw (K : PySem.W.Frag) (Pt : Addr) : Sp := fun vs H Q _ => ∃ (a : Addr) (ns : List Int), vs = [.ref a] ∧ SqL K H a (ns.map V.int) ∧ ns.length ≤ 63 ∧ Tabs (tabs Pt) H ∧ ∀ H', Q (.bl true) H'
section
variable {P : Program} {w : World} {K : PySem.W.Frag} {mg : Str → Option Value} {base : Heap} (T : Top K mg) (SH : ShapeT K mg) (BE : BadShapeT P w K mg T.reel.C) (Z : SzT K mg)
variable (BM : BadModeT P w K mg T.reel.C) (kT : PySem.W.kitOne K (.type "tuple") (.ref SH.C) = some false)
include SH BE Z BM kT in
theorem ok_law {c Pt : Addr} (LT : LamT K "_law_refused" s__law_refused T._law_refused.a T._law_refused.d c Pt) (TB : TabB base mg c Pt) : FnG P w K mg base (L2.CX P w) 12 T.law.a T.law.d ["script"] (spLaw K Pt) := by
  refine fnG_of T.law.f sc_law (fun vs H Q E h => ?_) (fun cdv A outer s0 H vs Q E hr hg h => ?_)
  · obtain ⟨a, ns, rfl, _⟩ := h
    rfl
  · obtain ⟨a, ns, rfl, hS, hl, Tb, k⟩ := h
    obtain ⟨t0, p0, r0⟩ := segT0 T (A := A) (outer := outer) (s0 := s0) (H0 := H) (E0 := E) (cdv := cdv) (Pt := Pt) hr
    obtain ⟨t1, p1, r1⟩ := segT1 T SH BE (A := A) (outer := outer) (s0 := s0) (H0 := H) (E0 := E) (cdv := cdv) (Pt := Pt) hr
    obtain ⟨t2, p2, r2⟩ := segT2 T SH BE Z BM kT (A := A) (outer := outer) (s0 := s0) (H0 := H) (E0 := E) (cdv := cdv) (Pt := Pt) hr hg LT TB
    refine ⟨_, pss_cons (ps_set (i := 1) sc_law.nd rfl (by first | exact .inl rfl | exact .inr rfl) (pe_call (ok_begun T) (hr.mono (by decide)) (by rfl) T._law_begun.m T._law_begun.f.kp (bd__law_begun T) .nil passE (pa_cons (pv 0) pa_nil)))
      (pss_cons (ps_for (passes_of rfl) rfl (pi_range1 (by rfl) T.b_range (pa_cons (pe_op op_add pe_int (pe_callB (call_min2 rfl) (by rfl) T.b_min PyProof.Rows.boot_min (pa_cons (pe_callB call_len_seq (by rfl) T.b_len PySem.boot_len (pa_cons (pv 0) pa_nil)) (pa_cons pe_int pa_nil)))) pa_nil)) (pg_name (i := 2) sc_law.nd rfl (by first | exact .inl rfl | exact .inr rfl)) (pss_cons p0 (pss_cons p1 (pss_one p2))))
      (pss_one (ps_ret pe_bl))), ?_⟩
    refine ⟨_, rfl, a, ns, rfl, hS, hl, fun st lg cl H1 S1 sm1 n1 n2 => ?_⟩
    have T1 := Tb.ext sm1
    clear Tb
    refine ⟨_, rfl, a, _, rfl, .inl (sm1.seq hS), _, _, rfl, _, _, rfl, rfl, _, rfl, by split <;> omega, by split <;> omega, for_range (n := _) (fun j σ H => StAt H st lg cl (12000 * j) ∧ Tabs (tabs Pt) H ∧ ∃ v2 v3 v4 v5 v6 v7 v8 v9 v10 v11 v12 v13 v14 v15 v16 v17 v18, σ = [some (.ref a), some (.ref st), v2, v3, v4, v5, v6, v7, v8, v9, v10, v11, v12, v13, v14, v15, v16, v17, v18]) ⟨S1, T1, _, _, _, _, _, _, _, _, _, _, _, _, _, _, _, _, _, rfl⟩ ?_ fun σ H _ => k H⟩
    clear S1 T1 sm1 hS n1 n2 H1
    rintro j σ H1 hj ⟨S, Tb, v2, v3, v4, v5, v6, v7, v8, v9, v10, v11, v12, v13, v14, v15, v16, v17, v18, rfl⟩
    have hj : j < 7 := by
      refine Nat.lt_of_lt_of_le hj ?_
      split <;> omega
    refine r0 _ a st lg cl (12000 * j) H1 _ _ _ _ _ _ _ _ _ _ _ _ _ _ _ _ _ (by omega) S Tb fun sa h wn lo hi H2 S2 T2 sc ns => ?_
    refine r1 _ a st lg cl sa h wn lo hi _ H2 _ _ _ _ _ _ _ _ _ _ _ _ _ _ _ _ (by omega) S2 T2 sc ns fun fa pa nss H3 B3 => ?_
    refine r2 _ a st lg cl sa fa pa h wn lo hi nss _ H3 _ _ _ _ _ _ _ _ _ _ _ _ _ _ (by omega) B3 fun H4 m4 v6 v7 v8 v9 v10 v11 v12 v13 v14 v15 l4 B4 => ?_
    exact ⟨(B4.mono (show _ ≤ 12000 * (j + 1) by omega)).S, B4.Tb, _, _, _, _, _, _, _, _, _, _, _, _, _, _, _, _, _, rfl⟩
end
end K05
namespace K05
open PySem PySem.Spec PyProof.Rows L2 PySem.W LamX KA KW KU KL
/-! ### what the head's heap says, put together -/
section
variable {K : PySem.W.Frag} {mg : Str → Option Value} {h : Heap}
theorem defT_of {x : Str} {st : Stmt} {f : Addr} {od an : Option Addr} {sl : Array (Option Value)} {oc kV dc pm cd ct : Value} (X : K.In h) (G : h.Ns mainGlobals mg)
    (a : PySem.W.nsIn K mainGlobals x = some (some (.ref f))) (l : K.lookup f = some ⟨oc, od, .func (PySem.W.fnOf x x (defArgs st) (defBody st) (defScope st) .none kV dc pm an cd ct), sl⟩) (c : PySem.W.codeIn K cd x = true) (k : PySem.W.keepIn K (.ref f) = true) :
    Nonempty (DefT K mg x st) := ⟨⟨f, _, fun_mk l c k, PySem.W.mg_of X G a⟩⟩
theorem lamT_of {x : Str} {st : Stmt} {f c Pt : Addr} {od an : Option Addr} {sl : Array (Option Value)} {oc kV dc pm ct : Value} (X : K.In h) (G : h.Ns mainGlobals mg) (T : DefT K mg x st)
    (a : PySem.W.nsIn K mainGlobals x = some (some (.ref f))) (l : K.lookup f = some ⟨oc, od, .func (PySem.W.fnOf x x (defArgs st) (defBody st) (defScope st) .none kV dc pm an (.ref c) ct), sl⟩) (cc : PySem.W.codeIn K (.ref c) x = true) :
    LamT K x st T.a T.d c Pt := by
  have e := (PySem.W.mg_of X G a).symm.trans T.m
  have e : f = T.a := Value.ref.inj (Option.some.inj e)
  obtain ⟨oc', od', kV', dc', pm', an', cd', ct', sl', ed, lk, hcd⟩ := T.f.ex
  rw [e] at l
  have e2 := l.symm.trans lk
  have e3 := congrArg Obj.data (Option.some.inj e2)
  have e4 := Data.func.inj e3
  exact ⟨oc, od, kV, dc, pm, an, ct, sl, e4.symm, by rw [← e4]; exact l, cc⟩
theorem reelT_of {C : Addr} (X : K.In h) (G : h.Ns mainGlobals mg) (a : PySem.W.nsIn K mainGlobals "ReelError" = some (some (.ref C))) (b : PySem.W.subIn K (.ref C) (.type "BaseException") = some true)
    (t : PySem.W.typeIn K (.ref C) = some (.type "type")) (d : PySem.W.hasDictIn K C = true) : ∃ R : ReelT K mg, R.C = C := ⟨⟨C, PySem.W.mg_of X G a, b, t, d⟩, rfl⟩
theorem excT_of {x : Str} {C R : Addr} (X : K.In h) (G : h.Ns mainGlobals mg) (a : PySem.W.nsIn K mainGlobals x = some (some (.ref C))) (q : PySem.W.excIn K C veB "ValueError.__new__" = true) (k : PySem.W.keepIn K (.ref C) = true)
    (b : PySem.W.subIn K (.ref C) (.type "BaseException") = some true) (t : PySem.W.typeIn K (.ref C) = some (.type "type")) (r : PySem.W.subIn K (.ref C) (.ref R) = some true)
    (e1 : PySem.W.findIn K (.ref C) "__getattribute__" = some (some (.builtin "BaseException.__getattribute__"))) (e2 : PySem.W.findIn K (.ref C) "__getattr__" = some none) (e3 : PySem.W.hasDictIn K C = true)
    (e4 : PySem.W.findIn K (.ref C) "__class__" = some (some (.builtin "object.__class__"))) (e5 : PySem.W.specialIn K (.builtin "object.__class__") "__get__" = some (some (.builtin "getset_descriptor.__get__")))
    (e6 : PySem.W.takesIn K (.builtin "object.__class__") = some true) (e7 : PySem.W.mroIn K C (.type "object") = some true) : Nonempty (ExcT K mg x R) :=
  ⟨⟨C, PySem.W.mg_of X G a, q, k, b, t, r, ⟨e1, e2, b, e3, e4, e5, e6, e7⟩⟩⟩
theorem cstT_of {x : Str} {n : Int} {t : Tok} (X : K.In h) (G : h.Ns mainGlobals mg) (a : PySem.W.nsIn K mainGlobals x = some (some (.int n t))) : CstT mg x n := ⟨t, PySem.W.mg_of X G a⟩
/-- the law, at the head's heap -/
theorem law_at {l : PySem.W.OpenLaw} {w : World} {fa c Pt : Addr} (T : Top K mg) (SH : ShapeT K mg) (BE : BadShapeT l.prog w K mg T.reel.C) (Z : SzT K mg) (BM : BadModeT l.prog w K mg T.reel.C) (kT : PySem.W.kitOne K (.type "tuple") (.ref SH.C) = some false) (name : mg "law" = some (.ref fa)) (LT : LamT K "_law_refused" s__law_refused T._law_refused.a T._law_refused.d c Pt)
    (ht : h.get? Pt = some { cls := .none, data := .fields #[] }) (hk : K.lookup Pt = none) (hc : PySem.W.CodeHd h c Pt) : LawAtG l w K (L2.CX l.prog w) 12 63 "script" mg fa h := by
  have e : fa = T.law.a := Value.ref.inj (Option.some.inj (name.symm.trans T.law.m))
  subst e
  have one : ∀ {A : Addr × Addr → Prop}, A (c, Pt) → ∀ p ∈ [(c, Pt)], A p := fun q p hp => by
    rw [List.mem_singleton.mp hp]
    exact q
  refine ⟨T.law.d, [(c, Pt)], spLaw K Pt, ⟨one ht, one hk, one hc⟩, fun s u => ?_, fun H a ns short t S => ?_, fun base _ _ tb => ok_law T SH BE Z BM kT LT (tb (c, Pt) (List.mem_singleton.mpr rfl))⟩
  · obtain ⟨oc, od, kV, doc, pm, an, cdv, ct, osl, ed, lk, hcd⟩ := T.law.f.ex
    rw [ed]
    exact .of_eq rfl
  · refine ⟨a, ns, rfl, S, short, fun p hp => ?_, fun _ => rfl⟩
    rw [List.mem_singleton.mp hp]
    exact TabS.nil (t (c, Pt) (List.mem_singleton.mpr rfl))
theorem calm_cx {P : Program} {w : World} {H : Hp} {s : Shared} {e : Value} {s' : Shared} (z : L2.CX P w [] H s (fun _ _ _ => False) e s') : False := by
  obtain ⟨_, _, _, _, _, _, _, _, _, _, _, _, f⟩ := z
  exact f
end
end K05
namespace K05
open PySem PySem.Spec PyProof.Rows L2 PySem.W LamX KA KW KU KL
section
variable {K : PySem.W.Frag} {mg : Str → Option Value} {h : Heap} {A : Prop}
theorem reel_use {C : Addr} (X : K.In h) (G : h.Ns mainGlobals mg) (a : PySem.W.nsIn K mainGlobals "ReelError" = some (some (.ref C))) (b : PySem.W.subIn K (.ref C) (.type "BaseException") = some true)
    (t : PySem.W.typeIn K (.ref C) = some (.type "type")) (d : PySem.W.hasDictIn K C = true) (n : ∀ R : ReelT K mg, R.C = C → A) : A := by
  obtain ⟨R, e⟩ := reelT_of X G a b t d
  exact n R e
theorem exc_use {x : Str} {C B : Addr} (X : K.In h) (G : h.Ns mainGlobals mg) (R : ReelT K mg) (eR : R.C = B) (a : PySem.W.nsIn K mainGlobals x = some (some (.ref C))) (q : PySem.W.excIn K C veB "ValueError.__new__" = true) (k : PySem.W.keepIn K (.ref C) = true)
    (b : PySem.W.subIn K (.ref C) (.type "BaseException") = some true) (t : PySem.W.typeIn K (.ref C) = some (.type "type")) (r : PySem.W.subIn K (.ref C) (.ref B) = some true)
    (e1 : PySem.W.findIn K (.ref C) "__getattribute__" = some (some (.builtin "BaseException.__getattribute__"))) (e2 : PySem.W.findIn K (.ref C) "__getattr__" = some none) (e3 : PySem.W.hasDictIn K C = true)
    (e4 : PySem.W.findIn K (.ref C) "__class__" = some (some (.builtin "object.__class__"))) (e5 : PySem.W.specialIn K (.builtin "object.__class__") "__get__" = some (some (.builtin "getset_descriptor.__get__")))
    (e6 : PySem.W.takesIn K (.builtin "object.__class__") = some true) (e7 : PySem.W.mroIn K C (.type "object") = some true) (n : ExcT K mg x R.C → A) : A := by
  rw [← eR] at r
  obtain ⟨D⟩ := excT_of X G a q k b t r e1 e2 e3 e4 e5 e6 e7
  exact n D
theorem def_use {x : Str} {st : Stmt} {f : Addr} {od an : Option Addr} {sl : Array (Option Value)} {oc kV dc pm cd ct : Value} (X : K.In h) (G : h.Ns mainGlobals mg)
    (a : PySem.W.nsIn K mainGlobals x = some (some (.ref f))) (l : K.lookup f = some ⟨oc, od, .func (PySem.W.fnOf x x (defArgs st) (defBody st) (defScope st) .none kV dc pm an cd ct), sl⟩) (c : PySem.W.codeIn K cd x = true) (k : PySem.W.keepIn K (.ref f) = true)
    (n : DefT K mg x st → A) : A := by
  obtain ⟨D⟩ := defT_of X G a l c k
  exact n D
theorem lam_use {x : Str} {st : Stmt} {f c Pt : Addr} {od an : Option Addr} {sl : Array (Option Value)} {oc kV dc pm ct : Value} (X : K.In h) (G : h.Ns mainGlobals mg) (T : DefT K mg x st) (t : h.get? Pt = some { cls := .none, data := .fields #[] })
    (a : PySem.W.nsIn K mainGlobals x = some (some (.ref f))) (l : K.lookup f = some ⟨oc, od, .func (PySem.W.fnOf x x (defArgs st) (defBody st) (defScope st) .none kV dc pm an (.ref c) ct), sl⟩) (cc : PySem.W.codeIn K (.ref c) x = true)
    (hk : K.lookup Pt = none) (hc : PySem.W.codeHdIn K c Pt = true) (n : LamT K x st T.a T.d c Pt → K.lookup Pt = none → PySem.W.CodeHd h c Pt → A) : A := n (lamT_of X G T a l cc) hk (PySem.W.codeHd_of_K X hc)
end
end K05
namespace K05
open PySem PySem.Spec PyProof.Rows L2 PySem.W LamX KA KW KU
open PySem.HandSPX (refsVE)
theorem say_none {P : Program} {w : World} {fI cda cc : Addr} {qual f z : Str} {j : Nat} {pc pn pf pj : Pos} (hd : f ≠ "__debug__") (h1 : z.length ≤ sizeLine) (h2 : (z ++ ("None" : Str)).length ≤ sizeLine) :
    Text P w fI cda cc qual f (.JoinedStr [.Constant (.str z) j pc, .FormattedValue (.Name f pn) (-1) none pf] pj) .none :=
  text_of hd (fun _ _ _ _ k => wpAny_formatField_none (k _ _)) h1 h2
theorem say_text {P : Program} {w : World} {fI cda cc : Addr} {qual f z y : Str} {j : Nat} {pc pn pf pj : Pos} {t : Tok} (hd : f ≠ "__debug__") (h1 : z.length ≤ 1000) (h3 : y.length ≤ 1000) :
    Text P w fI cda cc qual f (.JoinedStr [.Constant (.str z) j pc, .FormattedValue (.Name f pn) (-1) none pf] pj) (.str y t) := by
  have e : (z ++ y).length = z.length + y.length := Array.size_append
  exact text_str hd (Nat.le_trans h1 (by decide)) (by rw [e]; exact Nat.le_trans (show _ ≤ 2000 by omega) (by decide)) (Nat.le_trans h3 (by decide))
theorem kit_false {K : PySem.W.Frag} {C : Addr} {t : String} {cd : ClassData} (c : PySem.W.clsIn K C = some cd) (ty : PySem.W.typeIn K (.ref C) = some (.type "type")) (s : PySem.W.subIn K (.type t) (.ref C) = some false) : PySem.W.kitOne K (.type t) (.ref C) = some false := by
  unfold PySem.W.kitOne
  rw [if_neg (by simp)]
  unfold PySem.W.kitCls
  dsimp only
  rw [c, ty, if_pos (by simp)]
  exact s
section
variable {P : Program} {w : World} {K : PySem.W.Frag} {mg : Str → Option Value} {h : Heap} {A : Prop}
theorem badshape_use {C fI cda cc B : Addr} {e : Expr} (X : K.In h) (G : h.Ns mainGlobals mg) (R : ReelT K mg) (eR : R.C = B)
    (a : PySem.W.nsIn K mainGlobals "BadShape" = some (some (.ref C))) (iC : PySem.W.findIn K (.ref C) "__init__" = some (some (.ref fI)))
    {oc : Value} {od : Option Addr} {doc pm : Value} {an : Option Addr} {ct : Value} {osl : Array (Option Value)} {r1 r2 p0 p1 p2 p3 pe q1 q2 q3 q4 : Pos}
    (lk : K.lookup fI = some ⟨oc, od, .func (ksFn "__init__" "BadShape.__init__" (upArgs "part" r1 r2) (upBody "part" e p0 p1 p2 p3 pe q1 q2 q3 q4) (upScope "part") .none .none doc pm an (.ref cda) ct cc), osl⟩)
    (bd : ∀ a b : Value, bindArgs (ksFn "__init__" "BadShape.__init__" (upArgs "part" r1 r2) (upBody "part" e p0 p1 p2 p3 pe q1 q2 q3 q4) (upScope "part") .none .none doc pm an (.ref cda) ct cc) ⟨[a, b], []⟩ = pure [(PySem.Str.ofString "self", a), (PySem.Str.ofString "part", b)])
    (sw : ∀ L : Addr, swapsWith (.Name "part" q3) (some (.Attribute (.Name "self" q1) "part" q2)) q4.line (ksEnv "BadShape.__init__" (upScope "part") L fI (.ref cda) cc) = pure false)
    {pl : Sem Bool}
    (cl : ∀ L : Addr, eval (.Call (.Attribute (.Call (.Name "super" p0) [] [] p1) "__init__" p2) [e] [] p3) (ksEnv "BadShape.__init__" (upScope "part") L fI (.ref cda) cc) = (do
        let o ← attributeBase (.Call (.Name "super" p0) [] [] p1) "__init__" (ksEnv "BadShape.__init__" (upScope "part") L fI (.ref cda) cc) (eval (.Call (.Name "super" p0) [] [] p1) (ksEnv "BadShape.__init__" (upScope "part") L fI (.ref cda) cc))
        standAt p2.atName
        let (g, first) ← holding [o] (getMethod o "__init__" pl)
        callWith p3 g first (backTo p3 (starEach [e] (ksEnv "BadShape.__init__" (upScope "part") L fI (.ref cda) cc))) []))
    (star : ∀ env : Env, starEach [e] env = [(false, eval e env)])
    (sayN : Text P w fI cda cc "BadShape.__init__" "part" e .none)
    (sayS : ∀ (y : Str) (t : Tok), y.length ≤ 1000 → Text P w fI cda cc "BadShape.__init__" "part" e (.str y t))
    (code : PySem.W.codeIn K (.ref cda) "BadShape.__init__" = true)
    {fcl : Value} {cdd : Option Addr} {vs : Array Value} {ccs : Array (Option Value)} {fl : Str} {tf : Tok}
    (f1 : K.lookup cda = some ⟨fcl, cdd, .fields vs, ccs⟩) (f2 : vs[2]? = some (.str fl tf)) (f3 : ((P.main.file : Str) == fl) = true)
    {ecl : Value} {cld : Option Addr} {csl : Array (Option Value)} (cell : K.lookup cc = some ⟨ecl, cld, .cell (some (.ref C)), csl⟩)
    {cd : ClassData} (c1 : PySem.W.clsIn K C = some cd) (c2 : refsVE cd.mro = true) (c3 : cd.hasDict = true)
    (self : PySem.W.mroIn K C (.ref C) = some true) (noSuper : PySem.W.nsIn K mainGlobals "super" = some none) (top : (P.main.scope.names.lookup ("super" : Str)).isSome = false) (third : PySem.W.nsIn K cStatics "thirdparty.any" = some none)
    (up : PySem.W.ks_superIn K C C "__init__" = some (some (.builtin "ValueError.__init__"))) (val : PySem.W.subIn K (.ref C) (.type "ValueError") = some true)
    (own : PySem.W.excInitIn K C [.type "ValueError", .type "Exception", .type "BaseException", .type "object"] "ValueError.__new__" = true)
    (set_ : PySem.W.findIn K (.ref C) "__setattr__" = some (some (.builtin "object.__setattr__"))) (noF : PySem.W.findIn K (.ref C) "part" = some none)
    {nm q : Str} {N : Addr} {bs bm : List Value} {sn : List Str} {sub : List Value} {ab : Bool} {col : Option Bool} {dd : Option Addr} {k0 k1 k2 k3 k5 : Option Value}
    (o1 : K.lookup C = some (excClassObj nm q C N bs bm true sn sub ab col dd k0 k1 k2 k3 k5 "ValueError.__new__")) (o2 : refsVE bm = true)
    (tC : PySem.W.typeIn K (.ref fI) = some (.type "function")) (ga : PySem.W.findIn K (.ref C) "__getattribute__" = some (some (.builtin "BaseException.__getattribute__"))) (gg : PySem.W.findIn K (.ref C) "__getattr__" = some none)
    (kC : PySem.W.keepIn K (.ref C) = true) (exC : PySem.W.subIn K (.ref C) (.type "BaseException") = some true) (tyC : PySem.W.typeIn K (.ref C) = some (.type "type")) (hdC : PySem.W.hasDictIn K C = true)
    (r : PySem.W.subIn K (.ref C) (.ref B) = some true)
    (e4 : PySem.W.findIn K (.ref C) "__class__" = some (some (.builtin "object.__class__"))) (e5 : PySem.W.specialIn K (.builtin "object.__class__") "__get__" = some (some (.builtin "getset_descriptor.__get__")))
    (e6 : PySem.W.takesIn K (.builtin "object.__class__") = some true) (e7 : PySem.W.mroIn K C (.type "object") = some true)
    (n : BadShapeT P w K mg R.C → A) : A := by
  rw [← eR] at r
  exact n { C := C, fI := fI, cda := cda, cc := cc, e := e, g := PySem.W.mg_of X G a, u := { fn := ⟨oc, od, doc, pm, an, ct, osl, r1, r2, p0, p1, p2, p3, pe, q1, q2, q3, q4, lk, bd, sw, pl, cl⟩, star := star, code := code, file := ⟨fcl, cdd, vs, ccs, fl, tf, f1, f2, f3⟩, cell := ⟨ecl, cld, csl, cell⟩, cls := ⟨cd, c1, c2, c3⟩, self := self, noSuper := noSuper, top := top, third := third, up := up, val := val, own := own, «set» := set_, noF := noF, obj := ⟨nm, q, N, bs, bm, sn, sub, ab, col, dd, k0, k1, k2, k3, k5, o1, o2⟩, iC := iC, tC := tC, ga := ga, gg := gg, kC := kC, exC := exC, tyC := tyC, hdC := hdC, nf := by decide }, r := r, x := ⟨ga, gg, exC, hdC, e4, e5, e6, e7⟩, sayN := sayN, sayS := sayS }
theorem shape_use {C f : Addr} (X : K.In h) (G : h.Ns mainGlobals mg) {oc : Value} {od : Option Addr} {kV dc pm : Value} {an : Option Addr} {cd ct : Value} {sl : Array (Option Value)}
    (a : PySem.W.nsIn K mainGlobals "Shape" = some (some (.ref C))) (init : PySem.W.findIn K (.ref C) "__init__" = some (some (.ref f)))
    (l : K.lookup f = some ⟨oc, od, .func (PySem.W.fnOf "__init__" "Shape.__init__" (defArgs s_Shape_init) (defBody s_Shape_init) (defScope s_Shape_init) .none kV dc pm an cd ct), sl⟩) (c : PySem.W.codeIn K cd "Shape.__init__" = true) (k : PySem.W.keepIn K (.ref f) = true)
    (makes : PySem.W.makesIn K C = true) (fn : PySem.W.isFn K (.ref f) = true) (kp : PySem.W.keepIn K (.ref C) = true) (pg : PySem.W.plainGet K C Str.empty = true) (hd : PySem.W.hasDictIn K C = true) (po : PySem.W.plainOver K C = true)
    (sa : PySem.W.findIn K (.ref C) "__setattr__" = some (some (.builtin "object.__setattr__"))) (ha : PySem.W.findIn K (.ref C) "__class__" = some (some (.builtin "object.__class__")))
    (hn : PySem.W.specialIn K (.builtin "object.__class__") "__get__" = some (some (.builtin "getset_descriptor.__get__"))) (htk : PySem.W.takesIn K (.builtin "object.__class__") = some true) (hm : PySem.W.mroIn K C (.type "object") = some true)
    (n1 : PySem.W.findIn K (.ref C) "height" = some none) (n2 : PySem.W.findIn K (.ref C) "width" = some none) (n3 : PySem.W.findIn K (.ref C) "low" = some none) (n4 : PySem.W.findIn K (.ref C) "high" = some none) (n5 : PySem.W.findIn K (.ref C) "middle" = some none)
    {cld : ClassData} (cl : PySem.W.clsIn K C = some cld) (ty : PySem.W.typeIn K (.ref C) = some (.type "type")) (sI : PySem.W.subIn K (.type "int") (.ref C) = some false) (sS : PySem.W.subIn K (.type "str") (.ref C) = some false) (sN : PySem.W.subIn K (.type "NoneType") (.ref C) = some false) (sT : PySem.W.subIn K (.type "tuple") (.ref C) = some false)
    (n : ∀ S : ShapeT K mg, PySem.W.kitOne K (.type "tuple") (.ref S.C) = some false → A) : A :=
  n { C := C, f := f, d := _, F := fun_mk l c k, M := ⟨makes, init, fn, kp⟩, g := PySem.W.mg_of X G a, i := ⟨⟨pg, hd, po, sa⟩, ha, hn, htk, hm, kit_self⟩, n1 := n1, n2 := n2, n3 := n3, n4 := n4, n5 := n5, kI := kit_false cl ty sI, kS := kit_false cl ty sS, kN := kit_false cl ty sN } (kit_false cl ty sT)
theorem badmode_use {C fI cda cc B : Addr} {e : Expr} (X : K.In h) (G : h.Ns mainGlobals mg) (R : ReelT K mg) (eR : R.C = B)
    (a : PySem.W.nsIn K mainGlobals "BadMode" = some (some (.ref C))) (iC : PySem.W.findIn K (.ref C) "__init__" = some (some (.ref fI)))
    {oc : Value} {od : Option Addr} {doc pm : Value} {an : Option Addr} {ct : Value} {osl : Array (Option Value)} {r1 r2 p0 p1 p2 p3 pe q1 q2 q3 q4 : Pos}
    (lk : K.lookup fI = some ⟨oc, od, .func (ksFn "__init__" "BadMode.__init__" (upArgs "mode" r1 r2) (upBody "mode" e p0 p1 p2 p3 pe q1 q2 q3 q4) (upScope "mode") .none .none doc pm an (.ref cda) ct cc), osl⟩)
    (bd : ∀ a b : Value, bindArgs (ksFn "__init__" "BadMode.__init__" (upArgs "mode" r1 r2) (upBody "mode" e p0 p1 p2 p3 pe q1 q2 q3 q4) (upScope "mode") .none .none doc pm an (.ref cda) ct cc) ⟨[a, b], []⟩ = pure [(PySem.Str.ofString "self", a), (PySem.Str.ofString "mode", b)])
    (sw : ∀ L : Addr, swapsWith (.Name "mode" q3) (some (.Attribute (.Name "self" q1) "mode" q2)) q4.line (ksEnv "BadMode.__init__" (upScope "mode") L fI (.ref cda) cc) = pure false)
    {pl : Sem Bool}
    (cl : ∀ L : Addr, eval (.Call (.Attribute (.Call (.Name "super" p0) [] [] p1) "__init__" p2) [e] [] p3) (ksEnv "BadMode.__init__" (upScope "mode") L fI (.ref cda) cc) = (do
        let o ← attributeBase (.Call (.Name "super" p0) [] [] p1) "__init__" (ksEnv "BadMode.__init__" (upScope "mode") L fI (.ref cda) cc) (eval (.Call (.Name "super" p0) [] [] p1) (ksEnv "BadMode.__init__" (upScope "mode") L fI (.ref cda) cc))
        standAt p2.atName
        let (g, first) ← holding [o] (getMethod o "__init__" pl)
        callWith p3 g first (backTo p3 (starEach [e] (ksEnv "BadMode.__init__" (upScope "mode") L fI (.ref cda) cc))) []))
    (star : ∀ env : Env, starEach [e] env = [(false, eval e env)])
    (say : ∀ {H : Hp} {v : V} {h0 : Heap} {v' : Value}, Sy H v → HOk P w H h0 → RelV v v' → ∀ u0, u0 + 14 < cLine → TextAt P w fI cda cc "BadMode.__init__" "mode" e u0 h0 v')
    (code : PySem.W.codeIn K (.ref cda) "BadMode.__init__" = true)
    {fcl : Value} {cdd : Option Addr} {vs : Array Value} {ccs : Array (Option Value)} {fl : Str} {tf : Tok}
    (f1 : K.lookup cda = some ⟨fcl, cdd, .fields vs, ccs⟩) (f2 : vs[2]? = some (.str fl tf)) (f3 : ((P.main.file : Str) == fl) = true)
    {ecl : Value} {cld : Option Addr} {csl : Array (Option Value)} (cell : K.lookup cc = some ⟨ecl, cld, .cell (some (.ref C)), csl⟩)
    {cd : ClassData} (c1 : PySem.W.clsIn K C = some cd) (c2 : refsVE cd.mro = true) (c3 : cd.hasDict = true)
    (self : PySem.W.mroIn K C (.ref C) = some true) (noSuper : PySem.W.nsIn K mainGlobals "super" = some none) (top : (P.main.scope.names.lookup ("super" : Str)).isSome = false) (third : PySem.W.nsIn K cStatics "thirdparty.any" = some none)
    (up : PySem.W.ks_superIn K C C "__init__" = some (some (.builtin "ValueError.__init__"))) (val : PySem.W.subIn K (.ref C) (.type "ValueError") = some true)
    (own : PySem.W.excInitIn K C [.type "ValueError", .type "Exception", .type "BaseException", .type "object"] "ValueError.__new__" = true)
    (set_ : PySem.W.findIn K (.ref C) "__setattr__" = some (some (.builtin "object.__setattr__"))) (noF : PySem.W.findIn K (.ref C) "mode" = some none)
    {nm q : Str} {N : Addr} {bs bm : List Value} {sn : List Str} {sub : List Value} {ab : Bool} {col : Option Bool} {dd : Option Addr} {k0 k1 k2 k3 k5 : Option Value}
    (o1 : K.lookup C = some (excClassObj nm q C N bs bm true sn sub ab col dd k0 k1 k2 k3 k5 "ValueError.__new__")) (o2 : refsVE bm = true)
    (tC : PySem.W.typeIn K (.ref fI) = some (.type "function")) (ga : PySem.W.findIn K (.ref C) "__getattribute__" = some (some (.builtin "BaseException.__getattribute__"))) (gg : PySem.W.findIn K (.ref C) "__getattr__" = some none)
    (kC : PySem.W.keepIn K (.ref C) = true) (exC : PySem.W.subIn K (.ref C) (.type "BaseException") = some true) (tyC : PySem.W.typeIn K (.ref C) = some (.type "type")) (hdC : PySem.W.hasDictIn K C = true)
    (r : PySem.W.subIn K (.ref C) (.ref B) = some true)
    (e4 : PySem.W.findIn K (.ref C) "__class__" = some (some (.builtin "object.__class__"))) (e5 : PySem.W.specialIn K (.builtin "object.__class__") "__get__" = some (some (.builtin "getset_descriptor.__get__")))
    (e6 : PySem.W.takesIn K (.builtin "object.__class__") = some true) (e7 : PySem.W.mroIn K C (.type "object") = some true)
    (n : BadModeT P w K mg R.C → A) : A := by
  rw [← eR] at r
  exact n { C := C, fI := fI, cda := cda, cc := cc, e := e, g := PySem.W.mg_of X G a, u := { fn := ⟨oc, od, doc, pm, an, ct, osl, r1, r2, p0, p1, p2, p3, pe, q1, q2, q3, q4, lk, bd, sw, pl, cl⟩, star := star, code := code, file := ⟨fcl, cdd, vs, ccs, fl, tf, f1, f2, f3⟩, cell := ⟨ecl, cld, csl, cell⟩, cls := ⟨cd, c1, c2, c3⟩, self := self, noSuper := noSuper, top := top, third := third, up := up, val := val, own := own, «set» := set_, noF := noF, obj := ⟨nm, q, N, bs, bm, sn, sub, ab, col, dd, k0, k1, k2, k3, k5, o1, o2⟩, iC := iC, tC := tC, ga := ga, gg := gg, kC := kC, exC := exC, tyC := tyC, hdC := hdC, nf := by decide }, r := r, x := ⟨ga, gg, exC, hdC, e4, e5, e6, e7⟩, say := say }
theorem sz_use {f : Addr} {od : Option Addr} {t1 t2 t3 : Tok} {n : Nat} {sl : Array (Option Value)} (X : K.In h) (G : h.Ns mainGlobals mg) (a : PySem.W.nsIn K mainGlobals "SIZES" = some (some (.ref f)))
    (l : K.lookup f = some ⟨.type "tuple", od, .seq #[.int 8 t1, .int 4 t2, .int 2 t3] n, sl⟩) (k : SzT K mg → A) : A :=
  k { a := f, m := PySem.W.mg_of X G a, q := fun H => .inr ⟨_, #[.int 8 t1, .int 4 t2, .int 2 t3], n, l, rfl, rfl, (by show 3 ≤ sizeLine; decide), .cons ⟨t1, rfl⟩ (.cons ⟨t2, rfl⟩ (.cons ⟨t3, rfl⟩ .nil))⟩ }
end
end K05
open PySem PySem.W PyProof.Rows
set_option maxRecDepth 100000 in
set_option maxHeartbeats 0 in
theorem PySem.Challenge.cw_pricedreels_k05_guesses_within_a_picture_holds : PySem.Challenge.rw_pricedreels_k05_guesses_within_a_picture.Holds := by
  w_on; o_law; k_head; (case hw => w_witness2)
  k_fill
  refine KA.walk_ofG (l := PySem.Challenge.rw_pricedreels_k05_guesses_within_a_picture) (k := 12) (n := 63) (x := "script") (CX := fun w => L2.CX PySem.Challenge.rw_pricedreels_k05_guesses_within_a_picture.prog w) rfl (by decide) rfl ⟨rfl, by decide, by decide⟩ (fun w h Y => km_in_of Y) ?F (fun _ _ _ _ _ z => K05.calm_cx z)
  case F =>
    intro w mg fa h Y KX G hmg
    have tabs := km_tabs_of Y
    have one := tabs _ List.mem_cons_self
    refine' K05.reel_use KX G ?ya ?yb ?yt ?yd ?_
    (case ya => k_is); (case yb => k_is); (case yt => k_is); (case yd => k_is)
    intro R eR
    refine' K05.badshape_use (P := (PySem.Challenge.rw_pricedreels_k05_guesses_within_a_picture).prog) (w := w) KX G R eR ?ya ?yiC ?ylk ?ybd ?ysw ?ycl ?ystar ?ysayN ?ysayS ?ycode ?yf1 ?yf2 ?yf3 ?ycell ?yc1 ?yc2 ?yc3 ?yself ?ynoS ?ytop ?ythird ?yup ?yval ?yown ?yset ?ynoF ?yo1 ?yo2 ?ytC ?yga ?ygg ?ykC ?yexC ?ytyC ?yhdC ?yr ?ye4 ?ye5 ?ye6 ?ye7 ?_
    (case ya => k_is); (case yiC => k_is); (case ylk => k_is)
    (case ybd => intro a b; rfl)
    (case ysw => intro L; rfl)
    (case ycl => intro L; rfl)
    (case ystar => intro env; rfl)
    (case ysayN => exact K05.say_none (by decide) (by decide) (by decide))
    (case ysayS => intro y t hy; exact K05.say_text (by decide) (by decide) hy)
    (case ycode => k_is)
    (case yf1 => k_is); (case yf2 => rfl); (case yf3 => decide +kernel)
    (case ycell => k_is); (case yc1 => k_is); (case yc2 => decide +kernel); (case yc3 => rfl)
    (case yself => k_is); (case ynoS => k_is); (case ytop => kernel_rfl); (case ythird => k_is)
    (case yup => ks_is); (case yval => k_is); (case yown => kx_is); (case yset => k_is); (case ynoF => k_is)
    (case yo1 => k_is); (case yo2 => decide +kernel)
    (case ytC => k_is); (case yga => k_is); (case ygg => k_is); (case ykC => k_is); (case yexC => k_is); (case ytyC => k_is); (case yhdC => k_is); (case yr => k_is); (case ye4 => k_is); (case ye5 => k_is); (case ye6 => k_is); (case ye7 => k_is)
    intro BE
    refine' K05.badmode_use (P := (PySem.Challenge.rw_pricedreels_k05_guesses_within_a_picture).prog) (w := w) KX G R eR ?ya ?yiC ?ylk ?ybd ?ysw ?ycl ?ystar ?ysay ?ycode ?yf1 ?yf2 ?yf3 ?ycell ?yc1 ?yc2 ?yc3 ?yself ?ynoS ?ytop ?ythird ?yup ?yval ?yown ?yset ?ynoF ?yo1 ?yo2 ?ytC ?yga ?ygg ?ykC ?yexC ?ytyC ?yhdC ?yr ?ye4 ?ye5 ?ye6 ?ye7 ?_
    (case ya => k_is); (case yiC => k_is); (case ylk => k_is)
    (case ybd => intro a b; rfl)
    (case ysw => intro L; rfl)
    (case ycl => intro L; rfl)
    (case ystar => intro env; rfl)
    (case ysay => intro H v h0 v' sy ok r u0 hu; exact KU.Sy.text sy (by decide) (by decide) ok r u0 hu)
    (case ycode => k_is)
    (case yf1 => k_is); (case yf2 => rfl); (case yf3 => decide +kernel)
    (case ycell => k_is); (case yc1 => k_is); (case yc2 => decide +kernel); (case yc3 => rfl)
    (case yself => k_is); (case ynoS => k_is); (case ytop => kernel_rfl); (case ythird => k_is)
    (case yup => ks_is); (case yval => k_is); (case yown => kx_is); (case yset => k_is); (case ynoF => k_is)
    (case yo1 => k_is); (case yo2 => decide +kernel)
    (case ytC => k_is); (case yga => k_is); (case ygg => k_is); (case ykC => k_is); (case yexC => k_is); (case ytyC => k_is); (case yhdC => k_is); (case yr => k_is); (case ye4 => k_is); (case ye5 => k_is); (case ye6 => k_is); (case ye7 => k_is)
    intro BM
    refine' K05.shape_use KX G ?ya ?yin ?yl ?yc ?yk ?ymk ?yfn ?ykp ?ypg ?yhd ?ypo ?ysa ?yha ?yhn ?yht ?yhm ?yn1 ?yn2 ?yn3 ?yn4 ?yn5 ?ycl ?yty ?ysI ?ysS ?ysN ?ysT ?_
    (case ya => k_is); (case yin => k_is); (case yl => k_is)
    (case yc => k_is); (case yk => k_is); (case ymk => k_is); (case yfn => k_is); (case ykp => k_is); (case ypg => k_is); (case yhd => k_is); (case ypo => k_is); (case ysa => k_is); (case yha => k_is); (case yhn => k_is); (case yht => k_is); (case yhm => k_is); (case yn1 => k_is); (case yn2 => k_is); (case yn3 => k_is); (case yn4 => k_is); (case yn5 => k_is); (case ycl => k_is); (case yty => k_is); (case ysI => k_is); (case ysS => k_is); (case ysN => k_is); (case ysT => k_is)
    intro SH kT
    refine' K05.exc_use (x := "BadBlock") KX G R eR ?ya ?yq ?yk ?yb ?yt ?yr ?ye1 ?ye2 ?ye3 ?ye4 ?ye5 ?ye6 ?ye7 ?_
    (case ya => k_is); (case yq => k_exc); (case yk => k_is); (case yb => k_is); (case yt => k_is); (case yr => k_is); (case ye1 => k_is); (case ye2 => k_is); (case ye3 => k_is); (case ye4 => k_is); (case ye5 => k_is); (case ye6 => k_is); (case ye7 => k_is)
    intro BadBlock
    refine' K05.exc_use (x := "BadKind") KX G R eR ?ya ?yq ?yk ?yb ?yt ?yr ?ye1 ?ye2 ?ye3 ?ye4 ?ye5 ?ye6 ?ye7 ?_
    (case ya => k_is); (case yq => k_exc); (case yk => k_is); (case yb => k_is); (case yt => k_is); (case yr => k_is); (case ye1 => k_is); (case ye2 => k_is); (case ye3 => k_is); (case ye4 => k_is); (case ye5 => k_is); (case ye6 => k_is); (case ye7 => k_is)
    intro BadKind
    refine' K05.exc_use (x := "BadPlane") KX G R eR ?ya ?yq ?yk ?yb ?yt ?yr ?ye1 ?ye2 ?ye3 ?ye4 ?ye5 ?ye6 ?ye7 ?_
    (case ya => k_is); (case yq => k_exc); (case yk => k_is); (case yb => k_is); (case yt => k_is); (case yr => k_is); (case ye1 => k_is); (case ye2 => k_is); (case ye3 => k_is); (case ye4 => k_is); (case ye5 => k_is); (case ye6 => k_is); (case ye7 => k_is)
    intro BadPlane
    refine' K05.def_use (x := "is_number") (st := K05.s_is_number) KX G ?ya ?yl ?yc ?yk ?_
    (case ya => k_is); (case yl => k_is); (case yc => k_is); (case yk => k_is)
    intro f_is_number
    refine' K05.def_use (x := "is_within") (st := K05.s_is_within) KX G ?ya ?yl ?yc ?yk ?_
    (case ya => k_is); (case yl => k_is); (case yc => k_is); (case yk => k_is)
    intro f_is_within
    refine' K05.def_use (x := "is_tuple_of") (st := K05.s_is_tuple_of) KX G ?ya ?yl ?yc ?yk ?_
    (case ya => k_is); (case yl => k_is); (case yc => k_is); (case yk => k_is)
    intro f_is_tuple_of
    refine' K05.def_use (x := "is_row") (st := K05.s_is_row) KX G ?ya ?yl ?yc ?yk ?_
    (case ya => k_is); (case yl => k_is); (case yc => k_is); (case yk => k_is)
    intro f_is_row
    refine' K05.def_use (x := "is_rows") (st := K05.s_is_rows) KX G ?ya ?yl ?yc ?yk ?_
    (case ya => k_is); (case yl => k_is); (case yc => k_is); (case yk => k_is)
    intro f_is_rows
    refine' K05.def_use (x := "are_between") (st := K05.s_are_between) KX G ?ya ?yl ?yc ?yk ?_
    (case ya => k_is); (case yl => k_is); (case yc => k_is); (case yk => k_is)
    intro f_are_between
    refine' K05.def_use (x := "check_shape") (st := K05.s_check_shape) KX G ?ya ?yl ?yc ?yk ?_
    (case ya => k_is); (case yl => k_is); (case yc => k_is); (case yk => k_is)
    intro f_check_shape
    refine' K05.def_use (x := "check_plane") (st := K05.s_check_plane) KX G ?ya ?yl ?yc ?yk ?_
    (case ya => k_is); (case yl => k_is); (case yc => k_is); (case yk => k_is)
    intro f_check_plane
    refine' K05.def_use (x := "check_block") (st := K05.s_check_block) KX G ?ya ?yl ?yc ?yk ?_
    (case ya => k_is); (case yl => k_is); (case yc => k_is); (case yk => k_is)
    intro f_check_block
    refine' K05.def_use (x := "fits_shape") (st := K05.s_fits_shape) KX G ?ya ?yl ?yc ?yk ?_
    (case ya => k_is); (case yl => k_is); (case yc => k_is); (case yk => k_is)
    intro f_fits_shape
    refine' K05.def_use (x := "is_block_of") (st := K05.s_is_block_of) KX G ?ya ?yl ?yc ?yk ?_
    (case ya => k_is); (case yl => k_is); (case yc => k_is); (case yk => k_is)
    intro f_is_block_of
    refine' K05.def_use (x := "rows_of") (st := K05.s_rows_of) KX G ?ya ?yl ?yc ?yk ?_
    (case ya => k_is); (case yl => k_is); (case yc => k_is); (case yk => k_is)
    intro f_rows_of
    refine' K05.def_use (x := "columns_of") (st := K05.s_columns_of) KX G ?ya ?yl ?yc ?yk ?_
    (case ya => k_is); (case yl => k_is); (case yc => k_is); (case yk => k_is)
    intro f_columns_of
    refine' K05.def_use (x := "spots_of") (st := K05.s_spots_of) KX G ?ya ?yl ?yc ?yk ?_
    (case ya => k_is); (case yl => k_is); (case yc => k_is); (case yk => k_is)
    intro f_spots_of
    refine' K05.def_use (x := "modes_at") (st := K05.s_modes_at) KX G ?ya ?yl ?yc ?yk ?_
    (case ya => k_is); (case yl => k_is); (case yc => k_is); (case yk => k_is)
    intro f_modes_at
    refine' K05.def_use (x := "guess") (st := K05.s_guess) KX G ?ya ?yl ?yc ?yk ?_
    (case ya => k_is); (case yl => k_is); (case yc => k_is); (case yk => k_is)
    intro f_guess
    refine' K05.def_use (x := "reads_within") (st := K05.s_reads_within) KX G ?ya ?yl ?yc ?yk ?_
    (case ya => k_is); (case yl => k_is); (case yc => k_is); (case yk => k_is)
    intro f_reads_within
    refine' K05.def_use (x := "check_mode") (st := K05.s_check_mode) KX G ?ya ?yl ?yc ?yk ?_
    (case ya => k_is); (case yl => k_is); (case yc => k_is); (case yk => k_is)
    intro f_check_mode
    refine' K05.def_use (x := "modes_within") (st := K05.s_modes_within) KX G ?ya ?yl ?yc ?yk ?_
    (case ya => k_is); (case yl => k_is); (case yc => k_is); (case yk => k_is)
    intro f_modes_within
    refine' K05.def_use (x := "modes_standing") (st := K05.s_modes_standing) KX G ?ya ?yl ?yc ?yk ?_
    (case ya => k_is); (case yl => k_is); (case yc => k_is); (case yk => k_is)
    intro f_modes_standing
    refine' K05.def_use (x := "left_edge") (st := K05.s_left_edge) KX G ?ya ?yl ?yc ?yk ?_
    (case ya => k_is); (case yl => k_is); (case yc => k_is); (case yk => k_is)
    intro f_left_edge
    refine' K05.def_use (x := "upper_edge") (st := K05.s_upper_edge) KX G ?ya ?yl ?yc ?yk ?_
    (case ya => k_is); (case yl => k_is); (case yc => k_is); (case yk => k_is)
    intro f_upper_edge
    refine' K05.def_use (x := "guesses_of") (st := K05.s_guesses_of) KX G ?ya ?yl ?yc ?yk ?_
    (case ya => k_is); (case yl => k_is); (case yc => k_is); (case yk => k_is)
    intro f_guesses_of
    refine' K05.def_use (x := "_law_begun") (st := K05.s__law_begun) KX G ?ya ?yl ?yc ?yk ?_
    (case ya => k_is); (case yl => k_is); (case yc => k_is); (case yk => k_is)
    intro f__law_begun
    refine' K05.def_use (x := "_law_draw") (st := K05.s__law_draw) KX G ?ya ?yl ?yc ?yk ?_
    (case ya => k_is); (case yl => k_is); (case yc => k_is); (case yk => k_is)
    intro f__law_draw
    refine' K05.def_use (x := "_law_pick") (st := K05.s__law_pick) KX G ?ya ?yl ?yc ?yk ?_
    (case ya => k_is); (case yl => k_is); (case yc => k_is); (case yk => k_is)
    intro f__law_pick
    refine' K05.def_use (x := "_law_mixed") (st := K05.s__law_mixed) KX G ?ya ?yl ?yc ?yk ?_
    (case ya => k_is); (case yl => k_is); (case yc => k_is); (case yk => k_is)
    intro f__law_mixed
    refine' K05.def_use (x := "_law_caught") (st := K05.s__law_caught) KX G ?ya ?yl ?yc ?yk ?_
    (case ya => k_is); (case yl => k_is); (case yc => k_is); (case yk => k_is)
    intro f__law_caught
    refine' K05.def_use (x := "_law_scope") (st := K05.s__law_scope) KX G ?ya ?yl ?yc ?yk ?_
    (case ya => k_is); (case yl => k_is); (case yc => k_is); (case yk => k_is)
    intro f__law_scope
    refine' K05.def_use (x := "_law_form") (st := K05.s__law_form) KX G ?ya ?yl ?yc ?yk ?_
    (case ya => k_is); (case yl => k_is); (case yc => k_is); (case yk => k_is)
    intro f__law_form
    refine' K05.def_use (x := "_law_within") (st := K05.s__law_within) KX G ?ya ?yl ?yc ?yk ?_
    (case ya => k_is); (case yl => k_is); (case yc => k_is); (case yk => k_is)
    intro f__law_within
    refine' K05.def_use (x := "_law_grain") (st := K05.s__law_grain) KX G ?ya ?yl ?yc ?yk ?_
    (case ya => k_is); (case yl => k_is); (case yc => k_is); (case yk => k_is)
    intro f__law_grain
    refine' K05.def_use (x := "_law_pane") (st := K05.s__law_pane) KX G ?ya ?yl ?yc ?yk ?_
    (case ya => k_is); (case yl => k_is); (case yc => k_is); (case yk => k_is)
    intro f__law_pane
    refine' K05.def_use (x := "_law_roots") (st := K05.s__law_roots) KX G ?ya ?yl ?yc ?yk ?_
    (case ya => k_is); (case yl => k_is); (case yc => k_is); (case yk => k_is)
    intro f__law_roots
    refine' K05.def_use (x := "_law_parts") (st := K05.s__law_parts) KX G ?ya ?yl ?yc ?yk ?_
    (case ya => k_is); (case yl => k_is); (case yc => k_is); (case yk => k_is)
    intro f__law_parts
    refine' K05.def_use (x := "_law_dots") (st := K05.s__law_dots) KX G ?ya ?yl ?yc ?yk ?_
    (case ya => k_is); (case yl => k_is); (case yc => k_is); (case yk => k_is)
    intro f__law_dots
    refine' K05.def_use (x := "_law_squares") (st := K05.s__law_squares) KX G ?ya ?yl ?yc ?yk ?_
    (case ya => k_is); (case yl => k_is); (case yc => k_is); (case yk => k_is)
    intro f__law_squares
    refine' K05.def_use (x := "_law_fashions") (st := K05.s__law_fashions) KX G ?ya ?yl ?yc ?yk ?_
    (case ya => k_is); (case yl => k_is); (case yc => k_is); (case yk => k_is)
    intro f__law_fashions
    refine' K05.def_use (x := "_law_stands") (st := K05.s__law_stands) KX G ?ya ?yl ?yc ?yk ?_
    (case ya => k_is); (case yl => k_is); (case yc => k_is); (case yk => k_is)
    intro f__law_stands
    refine' K05.def_use (x := "_law_beside") (st := K05.s__law_beside) KX G ?ya ?yl ?yc ?yk ?_
    (case ya => k_is); (case yl => k_is); (case yc => k_is); (case yk => k_is)
    intro f__law_beside
    refine' K05.def_use (x := "_law_aims") (st := K05.s__law_aims) KX G ?ya ?yl ?yc ?yk ?_
    (case ya => k_is); (case yl => k_is); (case yc => k_is); (case yk => k_is)
    intro f__law_aims
    refine' K05.def_use (x := "_law_reads") (st := K05.s__law_reads) KX G ?ya ?yl ?yc ?yk ?_
    (case ya => k_is); (case yl => k_is); (case yc => k_is); (case yk => k_is)
    intro f__law_reads
    refine' K05.def_use (x := "_law_filled") (st := K05.s__law_filled) KX G ?ya ?yl ?yc ?yk ?_
    (case ya => k_is); (case yl => k_is); (case yc => k_is); (case yk => k_is)
    intro f__law_filled
    refine' K05.def_use (x := "_law_raised") (st := K05.s__law_raised) KX G ?ya ?yl ?yc ?yk ?_
    (case ya => k_is); (case yl => k_is); (case yc => k_is); (case yk => k_is)
    intro f__law_raised
    refine' K05.def_use (x := "_law_refused") (st := K05.s__law_refused) KX G ?ya ?yl ?yc ?yk ?_
    (case ya => k_is); (case yl => k_is); (case yc => k_is); (case yk => k_is)
    intro f__law_refused
    refine' K05.def_use (x := "law") (st := K05.s_law) KX G ?ya ?yl ?yc ?yk ?_
    (case ya => k_is); (case yl => k_is); (case yc => k_is); (case yk => k_is)
    intro f_law
    refine' K05.lam_use KX G f__law_refused one ?ya ?yl ?yc ?yh ?yj ?_
    (case ya => k_is); (case yl => k_is); (case yc => k_is); (case yh => kernel_rfl); (case yj => kernel_rfl)
    intro LT noT hd
    refine' K05.sz_use KX G ?ya ?yl ?_
    (case ya => k_is); (case yl => k_is)
    intro Z
    have cLOWEST := K05.cstT_of (x := "LOWEST") (n := -512) KX G (by k_is)
    have cHIGHEST := K05.cstT_of (x := "HIGHEST") (n := 511) KX G (by k_is)
    have cMOST_SPOTS := K05.cstT_of (x := "MOST_SPOTS") (n := 16) KX G (by k_is)
    have b_isinstance := PySem.W.mg_none_of (n := "isinstance") KX G (by k_is)
    have b_int := PySem.W.mg_none_of (n := "int") KX G (by k_is)
    have b_bool := PySem.W.mg_none_of (n := "bool") KX G (by k_is)
    have b_len := PySem.W.mg_none_of (n := "len") KX G (by k_is)
    have b_abs := PySem.W.mg_none_of (n := "abs") KX G (by k_is)
    have b_range := PySem.W.mg_none_of (n := "range") KX G (by k_is)
    have b_min := PySem.W.mg_none_of (n := "min") KX G (by k_is)
    have b_max := PySem.W.mg_none_of (n := "max") KX G (by k_is)
    have b_repr := PySem.W.mg_none_of (n := "repr") KX G (by k_is)
    have b_list := PySem.W.mg_none_of (n := "list") KX G (by k_is)
    have b_tuple := PySem.W.mg_none_of (n := "tuple") KX G (by k_is)
    have b_sorted := PySem.W.mg_none_of (n := "sorted") KX G (by k_is)
    have b_sum := PySem.W.mg_none_of (n := "sum") KX G (by k_is)
    have b_zip := PySem.W.mg_none_of (n := "zip") KX G (by k_is)
    have b_all := PySem.W.mg_none_of (n := "all") KX G (by k_is)
    have b_ValueError := PySem.W.mg_none_of (n := "ValueError") KX G (by k_is)
    exact K05.law_at (Pt := _) { reel := R, BadBlock := BadBlock, BadKind := BadKind, BadPlane := BadPlane, is_number := f_is_number, is_within := f_is_within, is_tuple_of := f_is_tuple_of, is_row := f_is_row, is_rows := f_is_rows, are_between := f_are_between, check_shape := f_check_shape, check_plane := f_check_plane, check_block := f_check_block, fits_shape := f_fits_shape, is_block_of := f_is_block_of, rows_of := f_rows_of, columns_of := f_columns_of, spots_of := f_spots_of, modes_at := f_modes_at, guess := f_guess, reads_within := f_reads_within, check_mode := f_check_mode, modes_within := f_modes_within, modes_standing := f_modes_standing, left_edge := f_left_edge, upper_edge := f_upper_edge, guesses_of := f_guesses_of, _law_begun := f__law_begun, _law_draw := f__law_draw, _law_pick := f__law_pick, _law_mixed := f__law_mixed, _law_caught := f__law_caught, _law_scope := f__law_scope, _law_form := f__law_form, _law_within := f__law_within, _law_grain := f__law_grain, _law_pane := f__law_pane, _law_roots := f__law_roots, _law_parts := f__law_parts, _law_dots := f__law_dots, _law_squares := f__law_squares, _law_fashions := f__law_fashions, _law_stands := f__law_stands, _law_beside := f__law_beside, _law_aims := f__law_aims, _law_reads := f__law_reads, _law_filled := f__law_filled, _law_raised := f__law_raised, _law_refused := f__law_refused, law := f_law, cLOWEST := cLOWEST, cHIGHEST := cHIGHEST, cMOST_SPOTS := cMOST_SPOTS, b_isinstance := b_isinstance, b_int := b_int, b_bool := b_bool, b_len := b_len, b_abs := b_abs, b_range := b_range, b_min := b_min, b_max := b_max, b_repr := b_repr, b_list := b_list, b_tuple := b_tuple, b_sorted := b_sorted, b_sum := b_sum, b_zip := b_zip, b_all := b_all, b_ValueError := b_ValueError } SH BE Z BM kT hmg LT one noT hd
