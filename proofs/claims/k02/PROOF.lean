import PyProof.Rows.All
import Wide.All
import OpenK.AllK
import Wide.FinOn
import PyProof.FString3
import PyProof.StrBlock2
import PyProof.ReprRoads
import KE.KxField
import HandS.ForMost
import HandS.EndTab
import HandS.WordsExc
import HandS.ExcOwn
import HandS.ExcValue
import HandS.ExcIs
import HandS.IsInst
import HandS.StrMore
import HandS.FStr
import HandS.Style
import HandS.Wide
import HandS.WideBits
import HandS.RaiseMore
import HandS.Small
import HandS.Evl
import HandS.Defaults
import KE.KExcSuper
import KE.KExcIs
import HandS.IntHex
import PySem.Challenge.RW_pricedreels_k02_words_read_from_any_bits
import PyProof.ReprLen
import PyProof.StrLawsFirst
import PyProof.Rows.StrCut
import HandS.Conv
import KE.RegKSuper
import KE.KExcLine
set_option Elab.async false
set_option linter.all false
set_option maxRecDepth 100000
set_option maxHeartbeats 4000000
namespace KA
open PySem PySem.Spec PyProof.Rows L2
section
variable {X : Cx}
/-- text * int -/
def rMulS : R2 := fun x y H Q => ∃ (a : Str) (n : Int), x = .str a ∧ y = .int n ∧ 0 ≤ n ∧ n ≤ 1000 ∧ a.length ≤ 1000 ∧ Q (.str (Txt.mul a n)) H
theorem op_mulS : OpR X (binaryOp .Mult) rMulS := by
  intro pins s σ H x y v u Q I rx ry h
  obtain ⟨a, n, rfl, rfl, h0, h1, h2, q⟩ := h
  obtain ⟨t, rfl⟩ := rx
  obtain ⟨t', rfl⟩ := ry
  refine SB.mul ⟨?_, fun hn hz => ?_, fun hn hz => ?_⟩ fun t' k => ⟨.str (Txt.mul a n), H, I.tok _, ⟨_, rfl⟩, q⟩
  · simp
    omega
  · have h3 : (1000 : Int) ≤ (2 ^ 63 - 1) / n := by
      refine Int.le_ediv_of_mul_le (by omega) ?_
      omega
    omega
  · have : a.length * n.toNat ≤ 1000 * 1000 := Nat.mul_le_mul h2 (by omega)
    unfold Builtin.Str.tooLong
    simp
    have e : sizeLine = 16777216 := by rfl
    omega
end
end KA
namespace KA
open PySem PySem.Spec PyProof.Rows L2 PySem.W
/-- the binary digits of a number from 0 on, as a text -/
def binText (n : Nat) : Str := ⟨((Nat.toDigits 2 n).map Char.toNat).toArray⟩
def specB : Str := ⟨#[98]⟩
theorem digits_some (n : Nat) : ∃ d ds, (Nat.toDigits 2 n).map Char.toNat = d :: ds := by
  cases e : (Nat.toDigits 2 n).map Char.toNat with
  | nil =>
    have h := congrArg List.length e
    simp at h
  | cons d ds => exact ⟨d, ds, rfl⟩
theorem meets_b {a : Int} {t : Tok} (h0 : 0 ≤ a) (hl : (binText a.natAbs).length ≤ sizeLine) (u : Tok) :
    Meets (Builtin.«int.__format__» ⟨[.int a t, .str specB u], []⟩) (fun _ R s => ∀ t' k, R (.ok (.ret (.str (binText a.natAbs) t'))) { s with toks := k }) := by
  apply KPc.meets_of
  intro _ _ _ _ _ _ _
  unfold Builtin.«int.__format__»
  refine wpAny_bind (wpAny_of_eq (a := (_, _)) rfl ?_)
  refine wpAny_bind (wpAny_of_eq (a := _) rfl ?_)
  kxf_if
  refine wpAny_bind (wpAny_typeNameOf (T := "str") (typeIs_str _ _ _) (by decide) fun _ => ?_)
  refine wpAny_bind (wpAny_of_eq (a := some _) rfl ?_)
  kxf_if
  kxf_if
  refine wpAny_bind (wpAny_typeNameOfCut_int ?_)
  have hneg : decide (a < 0) = false := decide_eq_false (by omega)
  (repeat kxf_if)
  refine KXf.ret_text (T := binText a.natAbs) ?_ ?_ ?_
  · rw [hneg]
    obtain ⟨d, ds, e⟩ := digits_some a.natAbs
    unfold binText
    rw [e]
    generalize hL : List.map _ _ = L
    have eL : L = d :: ds := hL.symm.trans e
    subst eL
    show ((⟨(List.replicate (((-1 : Int) - ((([] : List Nat).length : Nat) + (([] : List Nat).length : Nat) + (([] : List Nat).length : Nat)) - ((List.replicate ((0 : Int).toNat - (d :: ds).length) 48 ++ (d :: ds)).length : Nat)).toNat) 32 ++ ([] : List Nat) ++ [] ++ List.replicate 0 32 ++ (List.replicate ((0 : Int).toNat - (d :: ds).length) 48 ++ (d :: ds)) ++ [] ++ List.replicate 0 32).toArray⟩ : Str)) = _
    have z1 : (0 : Int).toNat - (d :: ds).length = 0 := by simp
    rw [z1]
    have z2 : ((-1 : Int) - ((([] : List Nat).length : Nat) + (([] : List Nat).length : Nat) + (([] : List Nat).length : Nat)) - ((List.replicate 0 48 ++ (d :: ds)).length : Nat)).toNat = 0 := by
      simp
      omega
    rw [z2]
    simp
  · rw [hneg]
    obtain ⟨d, ds, e⟩ := digits_some a.natAbs
    unfold binText at hl
    rw [e] at hl
    generalize hL : List.map _ _ = L
    have eL : L = d :: ds := hL.symm.trans e
    subst eL
    show (⟨(List.replicate (((-1 : Int) - ((([] : List Nat).length : Nat) + (([] : List Nat).length : Nat) + (([] : List Nat).length : Nat)) - ((List.replicate ((0 : Int).toNat - (d :: ds).length) 48 ++ (d :: ds)).length : Nat)).toNat) 32 ++ ([] : List Nat) ++ [] ++ List.replicate 0 32 ++ (List.replicate ((0 : Int).toNat - (d :: ds).length) 48 ++ (d :: ds)) ++ [] ++ List.replicate 0 32).toArray⟩ : Str).length ≤ _
    have z1 : (0 : Int).toNat - (d :: ds).length = 0 := by simp
    rw [z1]
    have z2 : ((-1 : Int) - ((([] : List Nat).length : Nat) + (([] : List Nat).length : Nat) + (([] : List Nat).length : Nat)) - ((List.replicate 0 48 ++ (d :: ds)).length : Nat)).toNat = 0 := by
      simp
      omega
    rw [z2]
    simpa using hl
  · assumption
end KA
namespace KA
open PySem PySem.Spec PyProof.Rows L2 PySem.W
section
variable {X : Cx}
/-- f'{e:b}', a number from 0 on -/
theorem pe_fmtB {e : Expr} {te : TE} {pos p1 p2 : Pos} {k : Nat} (he : PE X e te) :
    PE X (.FormattedValue e (-1) (some (.JoinedStr [.Constant (.str "b") k p1] p2)) pos) (fun σ H Q => te σ H fun x H1 => ∃ i : Int, x = .int i ∧ 0 ≤ i ∧ (binText i.natAbs).length ≤ sizeLine ∧ Q (.str (binText i.natAbs)) H1) := by
  refine ⟨fun pins s σ H Q I h => ?_⟩
  refine wpAny_FormattedValue_spec (thn (he.run pins s σ H _ I h) fun v s1 hv => ?_)
  obtain ⟨x, H1, I1, r1, i, rfl, h0, hz, q⟩ := hv
  obtain ⟨t, rfl⟩ := r1
  refine wpAny_JoinedStr_one ?_
  refine Calls.Constant_str ⟨("b" : Str), _, rfl, ?_⟩
  exact KXf.field_int (spec' := specB) (by decide +kernel) (by decide) (by decide) (fun u => meets_b h0 hz u) fun t' k => ⟨.str (binText i.natAbs), H1, (I1.tok _).tok _, ⟨_, rfl⟩, q⟩
end
end KA
namespace KA
open PySem PySem.Spec PyProof.Rows L2 PySem.W
/-! ### an exception that was caught, kept as a value -/
/-- an exception of the class cls with the own dict d stands at a -/
def ExV (cls : Value) (d : Option Addr) (a : Addr) : HO := .ext fun h => ∃ oe : Obj, h.get? a = some oe ∧ Zc cls d oe ∧ ∃ vs, oe.data = .fields vs
theorem exV_ok {P : Program} {w : World} {H : Hp} {h : Heap} {a : Addr} {cls : Value} {d : Option Addr} {oe : Obj} {vs : Array Value} (e : h.get? a = some oe) (z : Zc cls d oe) (f : oe.data = .fields vs) :
    ObjOk P w H h a (ExV cls d a) := ⟨⟨oe, e, z, vs, f⟩, ⟨oe, e⟩, fun _ _ ⟨o, q, r⟩ k => ⟨o, k o q, r⟩⟩
section
variable {X : Cx} {pins : List (Addr × Obj)} {σ : L2.St} {H : Hp} {s : Shared}
/-- what was pinned, and did not stand at the entry, is tracked from here on -/
theorem track {a : Addr} {oe : Obj} {φ : Heap → Prop} (J : Inv X ((a, oe) :: pins) σ H s) (ok : X.Ok) (n0 : X.s_0.heap.get? a = none) (np : ∀ p ∈ X.pn ++ pins, p.1 ≠ a)
    (new : ObjOk X.prog X.w (upd H a (.ext φ)) s.heap a (.ext φ)) : Inv X pins σ (upd H a (.ext φ)) s := by
  obtain ⟨ea, na, nL, notF, nc⟩ := J.pin (a, oe) (List.mem_append_right _ List.mem_cons_self)
  have nz : ∀ b u, H b = some u → b ≠ a := fun b u q => ne_of_none q na
  have cut : ∀ p, p ∈ X.pn ++ pins → p ∈ X.pn ++ (a, oe) :: pins := fun p hp => by
    rcases List.mem_append.mp hp with h | h
    · exact List.mem_append_left _ h
    · exact List.mem_append_right _ (List.mem_cons_of_mem _ h)
  have old : ∀ b o, X.s_0.heap.get? b = some o → b ≠ a := fun b o q z => by
    rw [z, n0] at q
    cases q
  have base : Un X.fs X.ex X.H_0 (upd H a (.ext φ)) X.s_0.heap s.heap :=
    { keep := J.base.keep, slot := J.base.slot, there := J.base.there
      free := fun b o q n hx => (upd_ne (old b o q)).trans (J.base.free b o q n hx)
      tups := fun b xs q => (upd_ne (nz b _ (J.base.tups b xs q))).trans (J.base.tups b xs q)
      frzs := fun b o u q => (upd_ne (nz b _ (J.base.frzs b o u q))).trans (J.base.frzs b o u q)
      tbls := fun b ps q => by
        obtain ⟨more, z⟩ := J.base.tbls b ps q
        exact ⟨more, (upd_ne (nz b _ z)).trans z⟩ }
  have apart : ∀ b, b ≠ a → H b = none → upd H a (.ext φ) b = none := fun b hb hn => (upd_ne hb).trans hn
  have ce : ∀ x c, X.env.cells.lookup x = some c → c ≠ a := fun x c q z => by
    obtain ⟨v, o, ho, hd⟩ := J.cell x c q
    rw [z, ea] at ho
    cases ho
    exact nc v hd
  have hk : HOk X.prog X.w (upd H a (.ext φ)) s.heap := fun b o q => by
    by_cases hb : b = a
    · subst hb
      rw [upd_same] at q
      cases q
      exact new
    · rw [upd_ne hb] at q
      exact (J.hok b o q).stay (fun c v _ r => r) (fun c r => (upd_ne (nz c _ r)).trans r) (fun c xs r => (upd_ne (nz c _ r)).trans r)
  have pk : ∀ p ∈ X.pn ++ pins, s.heap.get? p.1 = some p.2 ∧ upd H a (.ext φ) p.1 = none ∧ p.1 ≠ X.env.locals ∧ p.1 ∉ X.fs ∧ ∀ v, p.2.data ≠ .cell v := fun p hp => by
    obtain ⟨e1, e2, e3⟩ := J.pin p (cut p hp)
    exact ⟨e1, apart _ (np p hp) e2, e3⟩
  exact { ok := ok, os := J.os, bare := J.bare, base := base, loc := J.loc, cell := J.cell, free := apart _ (Ne.symm nL) J.free
          freeC := fun x c q => apart _ (ce x c q) (J.freeC x c q), pin := pk, hok := hk, len := J.len }
end
/-- what 'except x as n: m = n' wishes of an exception of the body: it is of the clause's class, and m holds it behind the try (slots: n in i, m in j) -/
def wKeep (K : PySem.W.Frag) (c : Value) (i j len : Nat) (D : Ends) : WX := fun cls d σ H =>
  PySem.W.exmOne K cls c = some true ∧ ∀ a, H a = none → σ.length = len → D.nx ((((σ.set i (some (.ref a))).set j (some (.ref a)))).set i none) (upd H a (ExV cls d a))
section
variable {X : Cx} {x n m : Str} {c : Value} {i j : Nat} {body : List Stmt} {np pm pr pa ph pt : Pos} {tb : WX → TS}
theorem ps_try_keep (hx : X.ex = []) (hs : X.stack = X.env :: X.outer) (hf : X.env.frame = some X.env.locals) (hN : X.N.Nodup) (hi : X.N[i]? = some n) (hj : X.N[j]? = some m) (hln : X.env.kindOf n = some .local) (hlm : X.env.kindOf m = some .local) (hc : Names X x c)
    (hd : (n == ("__debug__" : Str)) = false) (hcd : (n == ("__classdict__" : Str)) = false)
    (hb : ∀ (W : WX) (pn : List (Addr × Obj)) (xe : Value → Shared → Prop), Takes (X.tr pn xe) W → PassesOwn (model X.prog X.w) X.A X.env xe → PSs (X.tr pn xe) body (tb W)) :
    PS X (.Try body [.ExceptHandler (some (.Name x np)) (some n) [.Assign [.Name m pm] (.Name n pr) pa] ph] [] [] pt) (fun D σ H => tb (wKeep X.K c i j X.N.length D) D σ H) := by
  refine ⟨fun pins s σ H D I h => wpAny_Try_except ?_⟩
  have ok := I.ok
  have fr : X.A.frames = some (X.env :: X.outer) := ok.frames.trans (congrArg some hs)
  have ways : ∀ u s', XE (X.tr (X.pn ++ pins) (fun e s₁ => wpAny (model X.prog X.w) X.A (noteFrame e X.env)
      (fun _ s₂ => wpAny (model X.prog X.w) X.A (setFlight e none)
        (fun _ s₃ => wpAny (model X.prog X.w) X.A (handleBy e X.env [.ExceptHandler (some (.Name x np)) (some n) [.Assign [.Name m pm] (.Name n pr) pa] ph]) (SP X pins D) X.xe s₃) X.xe s₂) X.xe s₁)) (wKeep X.K c i j X.N.length D) u s' →
      wpAny (model X.prog X.w) X.A (noteFrame u X.env)
        (fun _ s₂ => wpAny (model X.prog X.w) X.A (setFlight u none)
          (fun _ s₃ => wpAny (model X.prog X.w) X.A (handleBy u X.env [.ExceptHandler (some (.Name x np)) (some n) [.Assign [.Name m pm] (.Name n pr) pa] ph]) (SP X pins D) X.xe s₃) X.xe s₂) X.xe s' := by
    rintro u s' ⟨a, B, sI, pins', σ', H', cls, d, rfl, Jt, nb, up, sky, na, os, ag, hyes, hgo⟩
    have J : Inv X pins σ' H' sI := Jt.ofTry ok
    have nb : ∀ b o, sI.heap.get? b = some o → b ∉ frs X.stack → B.get? b = some o := nb
    have sky : Sky B (X.env :: X.outer) a (Zc cls d) X.env.locals s'.heap := hs ▸ sky
    refine Sky.land Zc.steady fr hf sky fun h3 air3 grow3 => ?_
    have J3 : Inv X pins σ' H' { s' with heap := h3 } := J.landed nb air3.1 (up.trans grow3) os ag
    obtain ⟨o3, v3, e3, z3, f3⟩ := air3.there
    have away : a ∉ frs (X.env :: X.outer) := fun hm => by
      obtain ⟨_, o', e', hnf⟩ := air3.2.2.1.mem hm
      cases e3.symm.trans e'
      exact hnf _ f3
    have nL : a ≠ X.env.locals := fun z => away (List.mem_filterMap.mpr ⟨X.env, List.mem_cons_self, hf.trans (congrArg some z.symm)⟩)
    have notF : a ∉ X.fs := fun hm => by
      obtain ⟨e, inX, q⟩ := List.mem_filterMap.mp hm
      exact away (List.mem_filterMap.mpr ⟨e, List.mem_cons_of_mem _ inX, q⟩)
    have gone : sI.heap.get? a = none := by
      cases q : sI.heap.get? a with
      | none => rfl
      | some o =>
        have z := nb a o q (by rw [hs]; exact away)
        rw [air3.2.1] at z
        cases z
    have n0 : X.s_0.heap.get? a = none := by
      cases q : X.s_0.heap.get? a with
      | none => rfl
      | some o =>
        obtain ⟨o', z⟩ := J.base.there a o q (by rw [hx]; exact fun z => nomatch z)
        rw [gone] at z
        cases z
    have np' : ∀ p ∈ X.pn ++ pins, p.1 ≠ a := fun p hp z => by
      have q := (J.pin p hp).1
      rw [z, gone] at q
      cases q
    have S3 := J3.suite e3 f3 na nL notF
    refine wpAny_handleBy_cons (codeAny_handlers_test ?_) (by intro q; cases q)
    have LT : PySem.W.Looks (model X.prog X.w) h3 (typeOf (.ref a)) cls := fun A Q E s k q => wpAny_typeOf_ref (k _ _ e3) (z3.1.symm ▸ q)
    have LM := PySem.W.exm_one (M := model X.prog X.w) J3.kIn LT hyes
    have named : ∀ {Q E : Value → Shared → Prop}, Q c { s' with heap := h3 } →
        wpAny (model X.prog X.w) (X.A.mark (some (.ref a))) (eval (.Name x np) X.env) Q E { s' with heap := h3 } := fun {Q E} q => by
      obtain ⟨g, gd, gm | ⟨gm, gv, gn⟩⟩ := hc
      · exact ld_glob (X := X.suite a _) S3 g gm q gd
      · exact ld_blt (X := X.suite a _) S3 g gm gv q gn gd
    refine named (LM.here (codeAny_handlers_suite_as ?_))
    refine HandSPX.lands_againZ air3 fun h4 air4 grow4 => ?_
    have J4 : Inv X pins σ' H' { s' with heap := h4 } := J.landed nb air4.1 ((up.trans grow3).trans grow4) os ag
    obtain ⟨o4, v4, e4, z4, f4⟩ := air4.there
    refine store_ok (X := X.suite a ((a, o4) :: (X.pn ++ pins))) (v := .ref a) (J4.suite e4 f4 na nL notF) hN hi (.inl hln) rfl (fun s5 S5 => ?_) (.inr hln)
    have assign : PSs (X.suite a ((a, o4) :: (X.pn ++ pins))) [.Assign [.Name m pm] (.Name n pr) pa] (tAsg (tVar i) (gName j)) :=
      pss_one (ps_set (i := j) hN hj (.inl hlm) (pe_var hi (.inl hln) hd hcd) (hf := .inr hlm))
    have hlt : i < (σ'.set i (some (V.ref a))).length := by
      rw [List.length_set, J.len]
      exact (List.getElem?_eq_some_iff.mp hi).1
    refine wpAny_mono (assign.run [] s5 _ H' { D with nx := fun σ6 H6 => σ6 = (σ'.set i (some (.ref a))).set j (some (.ref a)) ∧ H6 = H', rt := fun _ _ => False, bk := fun _ _ => False, ct := fun _ _ => False } S5
      ⟨.ref a, by rw [List.getElem?_set_self (by simpa using hlt)], rfl, rfl⟩) (fun f s6 q6 => ?_) (fun _ _ z => z.elim)
    cases f with
    | next =>
      obtain ⟨σ6, H6, S6, eσ, eH⟩ := q6
      subst eσ
      subst eH
      have U : Inv X pins _ H6 s6 := S6.unsuite ok
      have P6 := S6.pin (a, o4) (List.mem_append_left _ List.mem_cons_self)
      have pin2 : ∀ p ∈ X.pn ++ (a, o4) :: pins, s6.heap.get? p.1 = some p.2 ∧ H6 p.1 = none ∧ p.1 ≠ X.env.locals ∧ p.1 ∉ X.fs ∧ ∀ v, p.2.data ≠ .cell v := fun p hp => by
        rcases List.mem_append.mp hp with h | h
        · exact U.pin p (List.mem_append_left _ h)
        · rcases List.mem_cons.mp h with e | h
          · rw [e]
            exact P6
          · exact U.pin p (List.mem_append_right _ h)
      have U2 : Inv X ((a, o4) :: pins) _ H6 s6 := { U with pin := pin2 }
      refine gone_ok U2 hN hi hln fun s7 J7 => ?_
      have P7 := (J7.pin (a, o4) (List.mem_append_right _ List.mem_cons_self)).1
      exact ⟨_, _, track J7 ok n0 np' (exV_ok P7 z4 f4), hgo a na J.len⟩
    | brk =>
      obtain ⟨_, _, _, z⟩ := q6
      exact z.elim
    | cont =>
      obtain ⟨_, _, _, z⟩ := q6
      exact z.elim
    | ret u =>
      obtain ⟨_, _, _, _, _, z⟩ := q6
      exact z.elim
  refine wpAny_mono ((hb (wKeep X.K c i j X.N.length D) (X.pn ++ pins) _ ways PassesOwn.looking).run [] s σ H D (I.toTry _) h) (fun f s1 q => ?_) fun _ _ z => z
  cases f with
  | next =>
    obtain ⟨σ1, H1, J1, q1⟩ := q
    exact wpAny_execs_nil ⟨σ1, H1, J1.ofTry ok, q1⟩
  | brk =>
    obtain ⟨σ1, H1, J1, q1⟩ := q
    exact ⟨σ1, H1, J1.ofTry ok, q1⟩
  | cont =>
    obtain ⟨σ1, H1, J1, q1⟩ := q
    exact ⟨σ1, H1, J1.ofTry ok, q1⟩
  | ret u =>
    obtain ⟨v, σ1, H1, J1, r, q1⟩ := q
    exact ⟨v, σ1, H1, J1.ofTry ok, r, q1⟩
end
end KA
namespace KA
open PySem PySem.Spec PyProof.Rows L2 PySem.W
/-- isinstance of an exception that is kept as a value, its class without fields of its own -/
def rIsV (K : PySem.W.Frag) : List V → Hp → VK → Prop := fun xs H Q => ∃ (a D : Addr) (c : V) (cv : Value) (b : Bool), xs = [.ref a, c] ∧ H a = some (ExV (.ref D) none a) ∧ ExcC K D ∧ ClsV c cv ∧ PySem.W.kitOne K (.ref D) cv = some b ∧ Q (.bl b) H
def rIs2 (K : PySem.W.Frag) : List V → Hp → VK → Prop := fun xs H Q => rIsi K xs H Q ∨ rIsV K xs H Q
section
variable {X : Cx}
theorem call_isV : CallR X (.builtin "isinstance") (rIsV X.K) := by
  intro pins s σ H xs us Q I r h
  obtain ⟨a, D, c, cv, b, rfl, ha, C, k, e, q⟩ := h
  obtain ⟨u1, u2, rfl, r1, r2⟩ := vals2 r
  cases k.eq r2
  cases (show u1 = Value.ref a from r1)
  obtain ⟨⟨oe, h1, ⟨z1, z2⟩, vs, z3⟩, _⟩ := I.hok a _ ha
  obtain ⟨oc, od, dt, sl⟩ := oe
  dsimp only at z1 z2 z3
  subst z1 z2 z3
  have J : PySem.W.InstAt s.heap a ⟨.ref D, none, .fields vs, sl⟩ D none := ⟨h1, rfl, rfl, trivial⟩
  exact PySem.W.kia_one (PySem.W.handS_kitx_exc C.hg C.hk C.hs C.hd C.ha C.hn C.ht C.hm) I.kIn J e (fun z => nomatch z) fun tk => ⟨.bl b, H, I.tok tk, rfl, q⟩
theorem call_is2 : CallR X (.builtin "isinstance") (rIs2 X.K) := by
  intro pins s σ H xs us Q I r h
  rcases h with h | h
  · exact call_isi pins s σ H xs us Q I r h
  · exact call_isV pins s σ H xs us Q I r h
/-- repr of data -/
def rRepr (K : PySem.W.Frag) : List V → Hp → VK → Prop := fun xs H Q => ∃ (x : Addr) (d : PyData), xs = [.ref x] ∧ Dp K H (.ref x) d ∧ d.showable = true ∧ d.hasDict = false ∧ d.depth ≤ 60 ∧ d.shown.length ≤ sizeLine ∧ Q (.str d.shown) H
theorem call_repr {k : Nat} (hg : X.A.guards = some []) (hr : Room k X.A) : CallR X (.builtin "repr") (rRepr X.K) := by
  intro pins s σ H xs us Q I r h
  obtain ⟨x, d, rfl, hd, hs, hn, hz, hl, q⟩ := h
  obtain ⟨u1, rfl, r1⟩ := vals1 r
  cases (show u1 = Value.ref x from r1)
  obtain ⟨as, rd⟩ := Dp.reads I d (.ref x) (.ref x) hd rfl
  have hu := hr.un
  refine repr_of_reads' rd hs (fun z => by rw [hn] at z; cases z) hg (by omega) (fun _ _ e => e) (fun h' u tk hk => ?_) hl
  exact ⟨.str d.shown, H, I.kept (t' := tk) hk, ⟨_, rfl⟩, q⟩
end
end KA
namespace KA
open PySem PySem.Spec PyProof.Rows L2 PySem.W LamX
section
variable {X : Cx}
/-- caught: what the lambda raises is kept and handed back, None if it raises nothing -/
def TCaught (K : PySem.W.Frag) (CS : Addr) : (XK → Hp → VK → Prop) → Hp → VK → Prop := fun tl H Q => ∀ Q1 : VK, (∀ v H', Q .non H' → Q1 v H') →
  tl (fun cls d H' => PySem.W.exmOne K cls (.ref CS) = some true ∧ ∀ a, H' a = none → Q (.ref a) (upd H' a (ExV cls d a))) H Q1
theorem caught_gives {a e n m q x : Str} {sg : Scope} {g CS : Addr} {cdg : Value} {j1 : Nat} {p1 p2 p3 p4 p5 p6 p7 p8 p9 pa pb pc pd pe : Pos} (S : FnScope [a, m, n] [a] sg)
    (la : sg.names.lookup a = some .local) (lm : sg.names.lookup m = some .local) (ln : sg.names.lookup n = some .local) (he : sg.names.lookup e = some .globalImplicit) (hme : X.mg e = some (.ref CS)) (hde : (e == ("__debug__" : Str)) = false)
    (d1 : (n == ("__debug__" : Str)) = false) (d2 : (n == ("__classdict__" : Str)) = false) (d3 : (m == ("__debug__" : Str)) = false) (d4 : (m == ("__classdict__" : Str)) = false) :
    GivesTo X [a, m, n] x sg g cdg
      [.Assign [.Name m p1] (.Constant .none j1 p2) p3,
       .Try [.Expr (.Call (.Name a p4) [] [] p5) p6] [.ExceptHandler (some (.Name e p7)) (some n) [.Assign [.Name m p8] (.Name n p9) pa] pb] [] [] pc,
       .Return (some (.Name m pd)) pe] a q (TCaught X.K CS) := by
  intro f c' s H Q tl act hc h
  have hgl : Gl (cxOf C8.CX0 X.prog X.w X.K X.mg X.base [a, m, n] x sg g cdg X.A X.stack s H C8.E0).nox e := he
  refine ⟨_, pss_cons (ps_set (i := 1) S.nd rfl (.inl lm) pe_non) (pss_cons (ps_try_keep (X := (cxOf C8.CX0 X.prog X.w X.K X.mg X.base [a, m, n] x sg g cdg X.A X.stack s H C8.E0).nox) (c := .ref CS) (i := 2) (j := 1)
      (tb := fun W D σ H => ∃ Eb : XK, (∀ cls d σ' H', Eb cls d H' → W cls d σ' H') ∧ σ[0]? = some (some (.ref f)) ∧ H c' = some (CodeO c' q) ∧ tl Eb H (fun _ H' => D.nx σ H'))
      rfl rfl rfl S.nd rfl rfl ln lm ⟨hgl, hde, .inl hme⟩ d1 d2 (fun W pn xe tk _ => ?_))
    (pss_one (ps_ret (pe_var (i := 1) rfl (.inl lm) d3 d4)))), ?_⟩
  · refine ⟨fun pins s' σ H' D I h' => ?_⟩
    obtain ⟨Eb, wish, h1, h2, h3⟩ := h'
    exact (pss_one (ps_expr (act W pn xe Eb p4 p5 tk wish))).run pins s' σ H' D I ⟨h1, h2, h3⟩
  · refine ⟨fun cls d H' => PySem.W.exmOne X.K cls (.ref CS) = some true ∧ ∀ a, H' a = none → Q (.ref a) (upd H' a (ExV cls d a)), fun cls d σ' H' ⟨e1, e2⟩ => ⟨e1, fun b hb hl => ?_⟩, rfl, hc, ?_⟩
    · match σ', hl with
      | [u, v, w], _ => exact ⟨_, rfl, e2 b hb⟩
    · exact h _ fun v H' z => ⟨_, rfl, z⟩
end
end KA
namespace KA
open PySem PySem.Spec PyProof.Rows L2 PySem.W LamX
/-! ### what the top has written, by name -/
/-- a def of the top -/
structure DefT (K : PySem.W.Frag) (mg : Str → Option Value) (x : Str) (st : Stmt) where
  a : Addr
  d : FuncData
  f : Fun K x x st a d
  m : mg x = some (.ref a)
abbrev veB : List Value := [.type "ValueError", .type "Exception", .type "BaseException", .type "object"]
/-- an exception class of the top over ReelError at R, without an __init__ of its own -/
structure ExcT (K : PySem.W.Frag) (mg : Str → Option Value) (x : Str) (R : Addr) where
  C : Addr
  g : mg x = some (.ref C)
  q : PySem.W.excIn K C veB "ValueError.__new__" = true
  k : PySem.W.keepIn K (.ref C) = true
  b : PySem.W.subIn K (.ref C) (.type "BaseException") = some true
  t : PySem.W.typeIn K (.ref C) = some (.type "type")
  r : PySem.W.subIn K (.ref C) (.ref R) = some true
  e : ExcC K C
/-- ReelError -/
structure ReelT (K : PySem.W.Frag) (mg : Str → Option Value) where
  C : Addr
  g : mg "ReelError" = some (.ref C)
  b : PySem.W.subIn K (.ref C) (.type "BaseException") = some true
  t : PySem.W.typeIn K (.ref C) = some (.type "type")
  d : PySem.W.hasDictIn K C = true
theorem ExcT.exm {K : PySem.W.Frag} {mg : Str → Option Value} {x : Str} (R : ReelT K mg) (T : ExcT K mg x R.C) : PySem.W.exmOne K (.ref T.C) (.ref R.C) = some true := PySem.W.exm_ref R.b R.d R.t T.r
/-- an int constant of the top -/
def CstT (mg : Str → Option Value) (x : Str) (n : Int) : Prop := ∃ t, mg x = some (.int n t)
abbrev C1 := L2.CX
theorem passE {X : Cx} : Passes (L2.CX X.prog X.w) X E0 := passL
section
variable {X : Cx} {E : XK}
/-- raise C('..') in a def that lets it out -/
theorem ps_raiseT {K : PySem.W.Frag} {mg : Str → Option Value} {x : Str} {R : Addr} {pos p1 p2 pc : Pos} {j : Nat} {m : Str} (hK : X.K = K) (hM : X.mg = mg) (T : ExcT K mg x R) (hg : Gl X x) (hc : X.calm = true) {W : WX} (tk : Takes X W)
    (hdb : (x == ("__debug__" : Str)) = false := by decide) :
    PS X (.Raise (some (.Call (.Name x p1) [.Constant (.str m) j pc] [] p2)) none pos) (fun _ σ H => W (.ref T.C) none σ H) := by
  subst hK
  subst hM
  exact ps_raise hc tk (pmk_own PySem.F.excBase_ValueError T.q T.g T.k (raises_own T.b T.t) hg hdb)
end
end KA
namespace KA
open PySem
/-! ### numbers in bits: the mathematics -/
/-- n in k bits, as codes -/
def bitsL : Nat → Nat → List Nat
  | 0, _ => []
  | k + 1, n => bitsL k (n / 2) ++ [48 + n % 2]
theorem bitsL_len : ∀ k n, (bitsL k n).length = k
  | 0, _ => rfl
  | k + 1, n => by simp [bitsL, bitsL_len k]
def binL (n : Nat) : List Nat := (Nat.toDigits 2 n).map Char.toNat
theorem binL_lt {n : Nat} (h : n < 2) : binL n = [48 + n] := by
  unfold binL
  rw [Nat.toDigits_of_lt_base h]
  have : n = 0 ∨ n = 1 := by omega
  rcases this with rfl | rfl <;> rfl
theorem binL_ge {n : Nat} (h : 2 ≤ n) : binL n = binL (n / 2) ++ [48 + n % 2] := by
  unfold binL
  rw [Nat.toDigits_of_base_le (by decide) h, List.map_append]
  have : n % 2 = 0 ∨ n % 2 = 1 := by omega
  rcases this with e | e <;> rw [e] <;> rfl
/-- the digits behind the first one -/
def tailL (n : Nat) : List Nat := (binL n).drop 1
theorem binL_ne (n : Nat) : binL n ≠ [] := by
  unfold binL
  intro h
  exact Nat.toDigits_ne_nil (List.map_eq_nil_iff.mp h)
theorem tailL_lt {n : Nat} (h : n < 2) : tailL n = [] := by
  unfold tailL
  rw [binL_lt h]
  rfl
theorem tailL_ge {n : Nat} (h : 2 ≤ n) : tailL n = tailL (n / 2) ++ [48 + n % 2] := by
  unfold tailL
  rw [binL_ge h, List.drop_append_of_le_length]
  have := List.length_pos_iff.mpr (binL_ne (n / 2))
  omega
theorem binL_head : ∀ (n : Nat), 1 ≤ n → binL n = 49 :: tailL n := by
  intro n
  induction n using Nat.strongRecOn with
  | _ n ih =>
    intro h
    by_cases h2 : n < 2
    · have : n = 1 := by omega
      subst this
      rfl
    · rw [tailL_ge (by omega), binL_ge (by omega), ih (n / 2) (by omega) (by omega)]
      rfl
theorem binL_le : ∀ (k n : Nat), 0 < k → n < 2 ^ k → (binL n).length ≤ k
  | 0, _, h, _ => by omega
  | k + 1, n, _, h => by
    by_cases h2 : n < 2
    · rw [binL_lt h2]
      simp
    · rw [binL_ge (by omega), List.length_append]
      have hk : 0 < k := by
        rcases Nat.eq_zero_or_pos k with e | e
        · subst e
          simp at h
          omega
        · exact e
      have := binL_le k (n / 2) hk (by rw [Nat.pow_succ] at h; omega)
      simp
      omega
theorem bitsL_bin : ∀ (k n : Nat), 0 < k → n < 2 ^ k → List.replicate (k - (binL n).length) 48 ++ binL n = bitsL k n
  | 0, _, h, _ => by omega
  | k + 1, n, _, h => by
    rw [bitsL]
    by_cases h2 : n < 2
    · rw [binL_lt h2]
      have e : n / 2 = 0 := by omega
      have e2 : n % 2 = n := by omega
      rw [e, e2]
      have z : ∀ j, bitsL j 0 = List.replicate j 48 := fun j => by
        induction j with
        | zero => rfl
        | succ j ih => rw [bitsL, Nat.zero_div, ih, List.replicate_succ']
      rw [z]
      simp
    · have hk : 0 < k := by
        rcases Nat.eq_zero_or_pos k with e | e
        · subst e
          simp at h
          omega
        · exact e
      have hd : n / 2 < 2 ^ k := by
        rw [Nat.pow_succ] at h
        omega
      rw [← bitsL_bin k (n / 2) hk hd, binL_ge (by omega), List.length_append]
      have e : k + 1 - ((binL (n / 2)).length + [48 + n % 2].length) = k - (binL (n / 2)).length := by simp
      rw [e, List.append_assoc]
theorem binText_eq (n : Nat) : binText n = ⟨(binL n).toArray⟩ := rfl
theorem binText_len (n : Nat) : (binText n).length = (binL n).length := by simp [binText, binL, Str.length]
/-- n in m bits, as a text -/
def twosT (m n : Nat) : Str := ⟨(bitsL m n).toArray⟩
theorem zfill_bin {m n : Nat} (hm : 0 < m) (h : n < 2 ^ m) : Txt.zfill (binText n) (m : Int) = twosT m n := by
  have hl := binL_le m n hm h
  have hb := bitsL_bin m n hm h
  unfold Txt.zfill
  rw [binText_len]
  by_cases e : (m : Int) ≤ ((binL n).length : Nat)
  · rw [if_pos e]
    have : m - (binL n).length = 0 := by omega
    rw [this] at hb
    simp only [List.replicate_zero, List.nil_append] at hb
    rw [binText_eq, hb]
    rfl
  · rw [if_neg e]
    have h0 : (binText n).cps[0]? = some 48 ∨ (binText n).cps[0]? = some 49 := by
      rw [binText_eq]
      rcases Nat.eq_zero_or_pos n with z | z
      · subst z
        exact .inl rfl
      · rw [binL_head n z]
        exact .inr rfl
    have e2 : zfilled (binText n) ((m : Int).toNat - (binL n).length) = Builtin.Str.padded (binText n) ((m : Int).toNat - (binL n).length) 0 48 := by
      unfold zfilled
      rcases h0 with z | z
      · rw [z]
        rfl
      · rw [z]
        rfl
    rw [e2]
    unfold Builtin.Str.padded twosT
    rw [← hb, binText_eq]
    congr 1
    apply Array.toList_inj.mp
    simp
/-- n ones -/
def onesT (n : Nat) : Str := ⟨(List.replicate n 49).toArray⟩
theorem onesT_len (n : Nat) : (onesT n).length = n := by simp [onesT, Str.length]
theorem fold_ones (n : Nat) : ∀ acc : Array Nat, (List.replicate n (#[49] : Array Nat)).foldl (· ++ ·) acc = acc ++ (List.replicate n 49).toArray := by
  induction n with
  | zero => intro acc; simp
  | succ n ih =>
    intro acc
    rw [List.replicate_succ, List.foldl_cons, ih, List.replicate_succ]
    apply Array.toList_inj.mp
    simp
theorem mul_ones (n : Nat) : Txt.mul "1" (n : Int) = onesT n := by
  unfold Txt.mul
  by_cases h : (n : Int) < 1
  · rw [if_pos h]
    have : n = 0 := by omega
    subst this
    rfl
  · rw [if_neg h]
    by_cases h1 : n = 1
    · subst h1
      rfl
    · rw [if_neg (by
        have e : ((n : Int) == 1) = false := by
          rw [beq_eq_false_iff_ne]
          omega
        rw [e]
        decide)]
      show (⟨(List.replicate (n : Int).toNat (#[49] : Array Nat)).foldl (· ++ ·) #[]⟩ : Str) = _
      rw [Int.toNat_natCast, fold_ones]
      unfold onesT
      congr 1
      apply Array.toList_inj.mp
      simp
end KA
namespace KA
open PySem PySem.Spec PyProof.Rows L2 PySem.W LamX
/-! ### the law's own draws: their state -/
abbrev kLarge : Key := Sum.inr "large"
abbrev kCells : Key := Sum.inr "cells"
abbrev kLeft : Key := Sum.inr "left"
abbrev kTurn : Key := Sum.inr "turn"
def stKv (lg cl : Addr) (left turn : Int) : List (Key × V) := [(kLarge, .ref lg), (kCells, .ref cl), (kLeft, .int left), (kTurn, .int turn)]
section
variable {lg cl : Addr} {left turn : Int}
theorem k12 : ¬ kLarge = kCells := by decide +kernel
theorem k13 : ¬ kLarge = kLeft := by decide +kernel
theorem k14 : ¬ kLarge = kTurn := by decide +kernel
theorem k23 : ¬ kCells = kLeft := by decide +kernel
theorem k24 : ¬ kCells = kTurn := by decide +kernel
theorem k34 : ¬ kLeft = kTurn := by decide +kernel
theorem st_large : valV (stKv lg cl left turn) kLarge = some (.ref lg) := valV_pos rfl
theorem st_cells : valV (stKv lg cl left turn) kCells = some (.ref cl) := (valV_neg k12).trans (valV_pos rfl)
theorem st_left : valV (stKv lg cl left turn) kLeft = some (.int left) := (valV_neg k13).trans ((valV_neg k23).trans (valV_pos rfl))
theorem st_turn : valV (stKv lg cl left turn) kTurn = some (.int turn) := (valV_neg k14).trans ((valV_neg k24).trans ((valV_neg k34).trans (valV_pos rfl)))
theorem st_put_left (l : Int) : putK (stKv lg cl left turn) kLeft (.int l) = stKv lg cl l turn := by
  unfold putK
  rw [valV_any, st_left, Option.isSome_some, if_pos rfl]
  simp only [stKv, List.map_cons, List.map_nil, if_neg k13, if_neg k23, if_neg (Ne.symm k34), if_true]
theorem st_put_turn (t : Int) : putK (stKv lg cl left turn) kTurn (.int t) = stKv lg cl left t := by
  unfold putK
  rw [valV_any, st_turn, Option.isSome_some, if_pos rfl]
  simp only [stKv, List.map_cons, List.map_nil, if_neg k14, if_neg k24, if_neg k34, if_true]
end
/-- the state stands at st: the numbers that are left to draw from at lg, the script's at cl -/
structure StD (H : Hp) (st lg cl : Addr) (large cells : List Int) (left : Int) (turn : Nat) : Prop where
  d : H st = some (.dK (stKv lg cl left turn))
  l : H lg = some (.lst (large.map V.int))
  c : H cl = some (.lst (cells.map V.int))
  ne : lg ≠ cl
  pl : ∀ x ∈ large, 0 ≤ x
  p0 : 0 ≤ left
def StAt (H : Hp) (st lg cl : Addr) (n : Nat) : Prop := ∃ large cells left turn, StD H st lg cl large cells left turn ∧ turn ≤ n
/-- all but the state stands as it stood -/
def Kp (st lg : Addr) (H H' : Hp) : Prop := ∀ b o, H b = some o → b ≠ st → b ≠ lg → H' b = some o
theorem Kp.refl {st lg : Addr} {H : Hp} : Kp st lg H H := fun _ _ h _ _ => h
theorem Kp.trans {st lg : Addr} {H H1 H2 : Hp} (a : Kp st lg H H1) (b : Kp st lg H1 H2) : Kp st lg H H2 := fun c o h n1 n2 => b c o (a c o h n1 n2) n1 n2
theorem Kp.same {st lg : Addr} {H H1 : Hp} (a : Same H H1) : Kp st lg H H1 := fun c o h _ _ => a c o h
theorem Same.new {H : Hp} {p : Addr} {o : HO} (h : H p = none) : Same H (upd H p o) := fun b u e => by
  rw [upd_ne (ne_of_none e h)]
  exact e
theorem StD.same {H H' : Hp} {st lg cl : Addr} {large cells : List Int} {left : Int} {turn : Nat} (S : StD H st lg cl large cells left turn) (e : Same H H') : StD H' st lg cl large cells left turn :=
  { S with d := e _ _ S.d, l := e _ _ S.l, c := e _ _ S.c }
theorem StAt.same {H H' : Hp} {st lg cl : Addr} {n : Nat} (S : StAt H st lg cl n) (e : Same H H') : StAt H' st lg cl n := by
  obtain ⟨a, b, c, d, s, h⟩ := S
  exact ⟨a, b, c, d, s.same e, h⟩
theorem StAt.mono {H : Hp} {st lg cl : Addr} {n m : Nat} (S : StAt H st lg cl n) (h : n ≤ m) : StAt H st lg cl m := by
  obtain ⟨a, b, c, d, s, h'⟩ := S
  exact ⟨a, b, c, d, s, Nat.le_trans h' h⟩
theorem StD.st_lg {H : Hp} {st lg cl : Addr} {large cells : List Int} {left : Int} {turn : Nat} (S : StD H st lg cl large cells left turn) : st ≠ lg := ne_of S.d S.l (by intro z; cases z)
theorem StD.st_cl {H : Hp} {st lg cl : Addr} {large cells : List Int} {left : Int} {turn : Nat} (S : StD H st lg cl large cells left turn) : st ≠ cl := ne_of S.d S.c (by intro z; cases z)
/-- the state's dict is written -/
theorem StD.put {H : Hp} {st lg cl : Addr} {large cells : List Int} {left l : Int} {turn t : Nat} (S : StD H st lg cl large cells left turn) (h : 0 ≤ l) : StD (upd H st (.dK (stKv lg cl l t))) st lg cl large cells l t :=
  { d := upd_same, l := (upd_ne S.st_lg.symm).trans S.l, c := (upd_ne S.st_cl.symm).trans S.c, ne := S.ne, pl := S.pl, p0 := h }
theorem Kp.put {st lg : Addr} {H : Hp} {o : HO} : Kp st lg H (upd H st o) := fun b u e n _ => (upd_ne n).trans e
theorem Kp.put2 {st lg : Addr} {H : Hp} {o : HO} : Kp st lg H (upd H lg o) := fun b u e _ n => (upd_ne n).trans e
theorem dp_ints {K : PySem.W.Frag} {H : Hp} : ∀ ns : List Int, DpAll K H (ns.map V.int) (ns.map PyData.int)
  | [] => .nil
  | n :: r => .cons (.int n) (dp_ints r)
theorem dp_int_list {K : PySem.W.Frag} {H : Hp} {a : Addr} {ns : List Int} (h : H a = some (.lst (ns.map V.int))) : Dp K H (.ref a) (.list (ns.map PyData.int)) := .lst (SqL.of h) (dp_ints ns)
theorem dp_nil {K : PySem.W.Frag} {H : Hp} {a : Addr} (h : H a = some (.lst [])) : Dp K H (.ref a) (.list []) := .lst (SqL.of h) .nil
theorem lay_is : ∀ ns : List Int, PyData.canLayAll0 (ns.map PyData.int) = true ∧ PyData.depthAll (ns.map PyData.int) = 0
  | [] => ⟨rfl, rfl⟩
  | n :: r => by
    obtain ⟨h1, h2⟩ := lay_is r
    exact ⟨by simp [PyData.canLayAll0, PyData.canLay0, h1], by simp [PyData.depthAll, PyData.depth, h2]⟩
theorem shaped_is (ns : List Int) : SeqAt.shaped (.list (ns.map PyData.int)) = true := by
  obtain ⟨h1, h2⟩ := lay_is ns
  simp [SeqAt.shaped, PyData.canLay0, PyData.depth, h1, h2]
theorem shaped_nil : SeqAt.shaped (.list []) = true := shaped_is []
theorem eqv_ints_nil (ns : List Int) : PyData.eqv (.list (ns.map PyData.int)) (.list []) = ns.isEmpty := by
  cases ns <;> rfl
theorem st_merge (lg cl : Addr) (left turn : Int) : mergeK [] (stKv lg cl left turn) = stKv lg cl left turn := by
  unfold stKv mergeK
  simp only [List.foldl_cons, List.foldl_nil]
  rw [putK_new (kvs := []) _ valV_nil, List.nil_append]
  rw [putK_new (k := kCells) _ ((valV_neg (show ¬ kLarge = kCells from k12)).trans valV_nil), List.cons_append, List.nil_append]
  rw [putK_new (k := kLeft) _ ((valV_neg (show ¬ kLarge = kLeft from k13)).trans ((valV_neg (show ¬ kCells = kLeft from k23)).trans valV_nil)), List.cons_append, List.cons_append, List.nil_append]
  rw [putK_new (k := kTurn) _ ((valV_neg (show ¬ kLarge = kTurn from k14)).trans ((valV_neg (show ¬ kCells = kTurn from k24)).trans ((valV_neg (show ¬ kLeft = kTurn from k34)).trans valV_nil)))]
  rfl
theorem take_map_snoc {α β : Type} (f : α → β) (l : List α) (i : Nat) (x : α) (h : l[i]? = some x) : (l.take (i + 1)).map f = (l.take i).map f ++ [f x] := by
  rw [List.take_add_one, h]
  simp
theorem StAt.off {H : Hp} {st lg cl p : Addr} {n : Nat} (S : StAt H st lg cl n) (hp : H p = none) : p ≠ st ∧ p ≠ lg := by
  obtain ⟨_, _, _, _, S', _⟩ := S
  exact ⟨(ne_of_none S'.d hp).symm, (ne_of_none S'.l hp).symm⟩
end KA
namespace KA
open PySem PySem.Spec PyProof.Rows L2 PySem.W LamX
/-! ### calls by names alone; defs whose frame must know that no repr is running -/
section
variable {X : Cx} {CX : CXT} {k : Nat} {f : Addr} {fd : FuncData} {ps ks : List Str} {sp : Sp} {E : XK} {x : Str} {p pos : Pos} {kws : List Keyword} {tk : TA} {g : List Value → List Value → List Value} {gV : List V → List V → List V}
def tKw (m : Nat) (sp : Sp) (gV : List V → List V → List V) (E : XK) (tk : TA) : TE := fun σ H Q => tk σ H fun zs H2 => zs.length = m ∧ sp (gV [] zs) H2 Q E
/-- f(k = v, ..) -/
theorem pe_kw (F : FnOk X.prog X.w X.K X.mg X.base CX k f fd ps sp) (hr : Room k X.A) (hg : Gl X x) (hm : X.mg x = some (.ref f)) (hk : PySem.W.keepIn X.K (.ref f) = true) (hb : KBn X.K fd ps 0 ks g gV) (hx : Passes CX X E) (hkw : PK X kws tk)
    (named : (backToKw pos (keywordEach kws X.env)).all (·.1.isSome) = true := by rfl) (theirs : (backToKw pos (keywordEach kws X.env)).filterMap (·.1) = ks := by rfl) (hdb : (x == ("__debug__" : Str)) = false := by decide)
    (noStars : ((backTo pos (starEach [] X.env)).any (·.1) || (backToKw pos (keywordEach kws X.env)).any (·.1.isNone)) = false := by rfl) :
    PE X (.Call (.Name x p) [] kws pos) (tKw ks.length sp gV E tk) :=
  ⟨fun pins s σ H Q I h => wpAny_Call_Name_kw (ld_glob I hg hm (PySem.W.callWith_KW0 (h₀ := X.base) I.ok.mod.kin hk named (thn (hkw.run pos pins s σ H _ I h) fun ws s2 hw => by
    obtain ⟨zs, H2, I2, rz, l2, q2⟩ := hw
    refine ⟨I2.kIn, ?_⟩
    rw [theirs]
    exact run_fnN F hr hb hx I2 .nil rz rfl l2 q2) noStars) hdb)⟩
end
section
variable {K : PySem.W.Frag} {x qual : Str} {st : Stmt} {f : Addr} {fd : FuncData} {ps ks : List Str}
/-- one parameter, by its name -/
theorem Fun.kw1 {a : Str} (F : Fun K x qual st f fd) (h : ∀ (kV doc pm : Value) (an : Option Addr) (cdv ct u : Value), bindArgs (PySem.W.fnOf x qual (defArgs st) (defBody st) (defScope st) .none kV doc pm an cdv ct) ⟨[], [(a, u)]⟩ = pure [(a, u)]) :
    KBn K fd [a] 0 [a] (fun _ ws => ws) (fun _ zs => zs) := by
  obtain ⟨oc, od, kV, doc, pm, an, cdv, ct, osl, rfl, lk, hcd⟩ := F.ex
  refine ⟨fun s us ws X l1 l2 => ?_, fun _ r => r⟩
  match us, ws, l1, l2 with
  | [], [u], _, _ => exact .of_eq (h kV doc pm an cdv ct u)
/-- two parameters a, b, called as f(b = .., a = ..) -/
theorem Fun.kw2 {a b : Str} (F : Fun K x qual st f fd) (h : ∀ (kV doc pm : Value) (an : Option Addr) (cdv ct u v : Value), bindArgs (PySem.W.fnOf x qual (defArgs st) (defBody st) (defScope st) .none kV doc pm an cdv ct) ⟨[], [(b, u), (a, v)]⟩ = pure [(a, v), (b, u)]) :
    KBn K fd [a, b] 0 [b, a] (fun _ ws => ws.reverse) (fun _ zs => zs.reverse) := by
  obtain ⟨oc, od, kV, doc, pm, an, cdv, ct, osl, rfl, lk, hcd⟩ := F.ex
  refine ⟨fun s us ws X l1 l2 => ?_, fun {_ _ zs ws} _ r => ?_⟩
  · match us, ws, l1, l2 with
    | [], [u, v], _, _ => exact .of_eq (h kV doc pm an cdv ct u v)
  · clear h
    have rev : ∀ {zs : List V} {ws : List Value}, Vals zs ws → Vals zs.reverse ws.reverse := fun {zs ws} r => by
      induction r with
      | nil => exact .nil
      | cons h _ ih =>
        rw [List.reverse_cons, List.reverse_cons]
        exact ih.append (.cons h .nil)
    exact rev r
end
end KA
namespace KA
open PySem PySem.Spec PyProof.Rows L2 PySem.W LamX
/-- as FnOk, where no repr is running around the call -/
structure FnG (P : Program) (w : World) (K : PySem.W.Frag) (mg : Str → Option Value) (base : Heap) (CX : CXT) (k : Nat) (f : Addr) (fd : FuncData) (ps : List Str) (sp : Sp) : Prop where
  len : ∀ vs H Q E, sp vs H Q E → vs.length = ps.length
  run : ∀ (A : Around) (outer : List Env) (s : Shared) (H : Hp) (args : Args) (us : List Value) (vs : List V) (Q : VK) (E : XK), Room k A → A.guards = some [] →
    Env0 P w K mg base A outer s H → BindsTo s fd args (ps.zip us) → Vals vs us → sp vs H Q E → codeAny (model P w) A (.call (.ref f) args) (CR CX outer P w H s Q E) s
theorem fnG_of {CX : CXT} {P : Program} {w : World} {K : PySem.W.Frag} {mg : Str → Option Value} {base : Heap} {k : Nat} {f : Addr} {x qual : Str} {st : Stmt} {fd : FuncData} {N ps : List Str} {sp : Sp} (F : Fun K x qual st f fd) (S : FnScope N ps (defScope st))
    (len : ∀ vs H Q E, sp vs H Q E → vs.length = ps.length)
    (hbody : ∀ (cdv : Value) (A : Around) (outer : List Env) (s : Shared) (H : Hp) (vs : List V) (Q : VK) (E : XK), Room k (A.deeper (envOfC qual (defScope st) s.heap.objs.size f cdv)) → A.guards = some [] → sp vs H Q E →
      ∃ t, PSs (cxOf CX P w K mg base N qual (defScope st) f cdv A outer s H E) (defBody st) t ∧ t { nx := fun _ H' => Q .non H', rt := Q } (L2.start N vs) H) : FnG P w K mg base CX (k + 1) f fd ps sp := by
  obtain ⟨oc, od, kV, doc, pm, an, cdv, ct, osl, rfl, lk, hcd⟩ := F.ex
  exact ⟨len, fun A outer s H args us vs Q E hr hg e0 hb r h => run_ofS lk hcd S hr e0 hb r (len _ _ _ _ h) fun hr' => hbody cdv A outer s H vs Q E hr' hg h⟩
/-- what stands around the law's call: the script at a, the tables of cs (each a code object and its table) empty -/
structure Law (h : Heap) (mg mb : Str → Option Value) (K : PySem.W.Frag) (cs : List (Addr × Addr)) (a : Addr) (vs : List Value) (ns : List Int) : Prop where
  kx : K.In h
  nsM : h.Ns mainGlobals mg
  bn : h.Ns builtinsNs mb
  bb : ∀ x : Str, x ≠ "__name__" → mb x = bootBuiltins x
  lim : h.NoLimit
  tab : ∀ p ∈ cs, h.get? p.2 = some { cls := .none, data := .fields #[] }
  notab : ∀ p ∈ cs, K.lookup p.2 = none
  code : ∀ p ∈ cs, PySem.W.CodeHd h p.1 p.2
  bm : ∃ (bm : Addr) (ob : Obj), mg "__builtins__" = some (.ref bm) ∧ bm ≠ builtinsNs ∧ h.get? bm = some ob ∧ ob.cls = .type "module" ∧ ob.dict = some builtinsNs ∧ ob.data = .plain
  at_ : h.get? a = some { cls := .type "list", data := .seq vs.toArray }
  isI : IntsAre vs ns
  len : ns.length ≤ sizeLine
/-- the abstract heap at the law's call -/
def lawH (K : PySem.W.Frag) (cs : List (Addr × Addr)) (a : Addr) (vs : List Value) (ns : List Int) : Hp := fun b =>
  if b = a ∧ K.lookup a = none then some (.frz { cls := .type "list", data := .seq vs.toArray } (.lst (ns.map V.int)))
  else if b ∈ cs.map (·.2) then some (.tbl #[]) else none
section
variable {P : Program} {w : World} {K : PySem.W.Frag} {mg mb : Str → Option Value} {h : Heap} {cs : List (Addr × Addr)} {a : Addr} {vs : List Value} {ns : List Int}
theorem Law.tabAt (L : Law h mg mb K cs a vs ns) {b : Addr} (hb : b ∈ cs.map (·.2)) : h.get? b = some { cls := .none, data := .fields #[] } ∧ K.lookup b = none := by
  obtain ⟨p, hp, rfl⟩ := List.mem_map.mp hb
  exact ⟨L.tab p hp, L.notab p hp⟩
theorem Law.ne (L : Law h mg mb K cs a vs ns) {b : Addr} (hb : b ∈ cs.map (·.2)) : b ≠ a := fun z => by
  have q := (L.tabAt hb).1
  rw [z, L.at_] at q
  cases q
/-- what is tracked: the script, or a table -/
theorem Law.cases (L : Law h mg mb K cs a vs ns) {b : Addr} {u : HO} (e : lawH K cs a vs ns b = some u) :
    (b = a ∧ K.lookup a = none ∧ u = .frz { cls := .type "list", data := .seq vs.toArray } (.lst (ns.map V.int))) ∨ (b ∈ cs.map (·.2) ∧ u = .tbl #[]) := by
  unfold lawH at e
  split at e
  · rename_i c
    exact .inl ⟨c.1, c.2, (Option.some.inj e).symm⟩
  · split at e
    · rename_i c
      exact .inr ⟨c, (Option.some.inj e).symm⟩
    · cases e
theorem Law.tbl (L : Law h mg mb K cs a vs ns) {b : Addr} (hb : b ∈ cs.map (·.2)) : lawH K cs a vs ns b = some (.tbl #[]) := by
  unfold lawH
  rw [if_neg (fun z => L.ne hb z.1), if_pos hb]
theorem Law.seq (L : Law h mg mb K cs a vs ns) : SqL K (lawH K cs a vs ns) a (ns.map V.int) := by
  cases q : K.lookup a with
  | none => exact .inl (.inr ⟨_, by unfold lawH; rw [if_pos ⟨rfl, q⟩]⟩)
  | some o =>
    have e := L.kx a o q
    rw [L.at_] at e
    cases e
    exact .inr ⟨_, vs.toArray, _, q, rfl, rfl, rfl, by rw [List.size_toArray, L.isI.length]; exact L.len, by simpa using vals_ints L.isI⟩
theorem Law.hok (L : Law h mg mb K cs a vs ns) : HOk P w (lawH K cs a vs ns) h := fun b u e => by
  rcases L.cases e with ⟨rfl, _, rfl⟩ | ⟨hb, rfl⟩
  · exact ⟨L.at_, by rw [List.length_map]; exact L.len, vs, _, vals_ints L.isI, L.at_⟩
  · exact (L.tabAt hb).1
/-- an object that is neither a list nor an empty record is not tracked -/
theorem Law.free (L : Law h mg mb K cs a vs ns) {b : Addr} {o : Obj} (e : h.get? b = some o) (h1 : ∀ vs n, o.data ≠ .seq vs n) (h2 : o.data ≠ .fields #[]) : lawH K cs a vs ns b = none := by
  cases q : lawH K cs a vs ns b with
  | none => rfl
  | some u =>
    rcases L.cases q with ⟨rfl, _⟩ | ⟨hb, _⟩
    · rw [L.at_] at e
      cases e
      exact absurd rfl (h1 _ _)
    · rw [(L.tabAt hb).1] at e
      cases e
      exact absurd rfl h2
theorem Law.nsK (L : Law h mg mb K cs a vs ns) {b : Addr} {m : Str → Option Value} (x : h.Ns b m) : (hidT h (lawH K cs a vs ns)).Ns b m := by
  obtain ⟨o, es, ep, e, d, r⟩ := x
  refine ⟨o, es, ep, hidT_get e (L.free e (fun _ _ z => ?_) fun z => ?_), d, r⟩ <;> (rw [d] at z; cases z)
theorem Law.kin (L : Law h mg mb K cs a vs ns) : K.In (hidT h (lawH K cs a vs ns)) := fun b o e => hidT_get (L.kx b o e) (by
  cases q : lawH K cs a vs ns b with
  | none => rfl
  | some u =>
    rcases L.cases q with ⟨rfl, z, _⟩ | ⟨hb, _⟩
    · rw [z] at e
      cases e
    · rw [(L.tabAt hb).2] at e
      cases e)
theorem Law.mod (L : Law h mg mb K cs a vs ns) : L2.Mod K mg (hidT h (lawH K cs a vs ns)) := by
  obtain ⟨mc, h1, h2⟩ := L.lim
  exact ⟨L.kin, L.nsK L.nsM, ⟨mb, L.nsK L.bn, L.bb⟩, mc, L.nsK h1, h2⟩
theorem Law.main (L : Law h mg mb K cs a vs ns) {b : Addr} {o : Obj} (e : h.get? b = some o) (n : ∀ es ep, o.data ≠ .dict es ep) : b ≠ mainGlobals := fun z => by
  obtain ⟨o', es, ep, e', d, _⟩ := L.nsM
  rw [z, e'] at e
  cases e
  exact n _ _ d
theorem Law.tabs (L : Law h mg mb K cs a vs ns) : ∀ p ∈ cs, TabB (hidT h (lawH K cs a vs ns)) mg p.1 p.2 := fun p hp => by
  have hm : p.2 ∈ cs.map (·.2) := List.mem_map.mpr ⟨p, hp, rfl⟩
  have ht := (L.tabAt hm).1
  refine ⟨?_, ?_, fun z => L.main ht (fun _ _ q => by cases q) z.symm⟩
  · obtain ⟨o, us, file, tf, flags, tg, inF, text, tt, e1, r1, r2, r3, rest⟩ := L.code p hp
    refine ⟨o, us, file, tf, flags, tg, inF, text, tt, hidT_get e1 (L.free e1 (fun _ _ z => ?_) fun z => ?_), r1, r2, r3, rest⟩
    · rw [r2] at z
      cases z
    · rw [r2] at z
      cases z
      simp at r3
  · obtain ⟨bm, ob, b1, b2, b3, b4, b5, b6⟩ := L.bm
    refine ⟨bm, ob, b1, b2, L.main b3 (fun _ _ q => by rw [b6] at q; cases q), fun q => ?_, hidT_get b3 (L.free b3 (fun _ _ z => ?_) fun z => ?_), b4, b5, b6⟩
    · rw [q, ht] at b3
      cases b3
      cases b6
    · rw [b6] at z
      cases z
    · rw [b6] at z
      cases z
/-- an address of the heap at the call stands as it stood, or it is a table that has grown -/
theorem Law.stay (L : Law h mg mb K cs a vs ns) {s' : Shared} {H' : Hp} {b : Addr} {o : Obj} (un : Un [] [] (lawH K cs a vs ns) H' h s'.heap) (ok : HOk P w H' s'.heap) (e : h.get? b = some o) (nb : b ∉ cs.map (·.2)) : s'.heap.get? b = some o := by
  cases q : lawH K cs a vs ns b with
  | none => exact un.keep b o e q (by simp) (by simp)
  | some u =>
    rcases L.cases q with ⟨rfl, _, rfl⟩ | ⟨z, _⟩
    · have e2 := (ok b _ (un.frzs b _ _ q)).1
      rw [L.at_] at e
      rw [← e]
      exact e2
    · exact absurd z nb
theorem Law.grown (L : Law h mg mb K cs a vs ns) {s' : Shared} {H' : Hp} {b : Addr} (un : Un [] [] (lawH K cs a vs ns) H' h s'.heap) (ok : HOk P w H' s'.heap) (hb : b ∈ cs.map (·.2)) : ∃ more : Array Value, s'.heap.get? b = some { cls := .none, data := .fields more } := by
  obtain ⟨more, z⟩ := un.tbls b #[] (L.tbl hb)
  exact ⟨_, ok b _ z⟩
theorem Law.old (L : Law h mg mb K cs a vs ns) {s' : Shared} {H' : Hp} (un : Un [] [] (lawH K cs a vs ns) H' h s'.heap) (ok : HOk P w H' s'.heap) : OldK h s'.heap := by
  constructor
  · intro b o e
    by_cases hb : b ∈ cs.map (·.2)
    · obtain ⟨p, hp, rfl⟩ := List.mem_map.mp hb
      obtain ⟨more, hm⟩ := L.grown un ok hb
      have ht := L.tab p hp
      rw [ht] at e
      cases e
      refine .inr (.inl ⟨((L.code p hp).tab ht).isCodeTable, rfl, #[], more, rfl, ?_⟩)
      rw [Array.empty_append]
      exact hm
    · exact .inl (L.stay un ok e hb)
  · intro b o e
    by_cases hb : b ∈ cs.map (·.2)
    · obtain ⟨more, hm⟩ := L.grown un ok hb
      exact ⟨_, hm⟩
    · exact ⟨o, L.stay un ok e hb⟩
end
/-- the law, called with the script at a -/
theorem law_callG {P : Program} {w : World} {K : PySem.W.Frag} {mg mb : Str → Option Value} {CX : CXT} {k : Nat} {fa a : Addr} {cs : List (Addr × Addr)} {fd : FuncData} {x : Str} {sp : Sp} {s : Shared} {vs : List Value} {ns : List Int}
    (L : Law s.heap mg mb K cs a vs ns) (hg : s.gens = #[]) (hr : Room k callerA) (F : ∀ base : Heap, K.In base → base.Ns mainGlobals mg → (∀ p ∈ cs, TabB base mg p.1 p.2) → FnG P w K mg base CX k fa fd [x] sp)
    (hbind : ∀ (s : Shared) (u : Value), BindsTo s fd ⟨[u], []⟩ [(x, u)]) (hsp : ∀ H : Hp, (∀ p ∈ cs, H p.2 = some (.tbl #[])) → SqL K H a (ns.map V.int) → sp [.ref a] H (fun v _ => v = .bl true) fun _ _ _ => False)
    (hCX : ∀ H e s', CX [] H s (fun _ _ _ => False) e s' → False) :
    codeAny (model P w) callerA (.call (.ref fa) ⟨[.ref a], []⟩) (fun r s' => r = .ok (.ret (.bool true)) ∧ OldK s.heap s'.heap ∧ s'.os = s.os ∧ AllBare s'.gens) s := by
  have env : Env0 P w K mg (hidT s.heap (lawH K cs a vs ns)) callerA [] s (lawH K cs a vs ns) :=
    ⟨rfl, L.mod, fun _ _ => of_hidT, Nat.le_of_eq (hidT_size _ _), trivial, fun b hb => absurd (show b ∈ ([] : List Addr) from hb) List.not_mem_nil, L.hok, .of_eq hg⟩
  have pre := hsp (lawH K cs a vs ns) (fun p hp => L.tbl (List.mem_map.mpr ⟨p, hp, rfl⟩)) L.seq
  have run := (F _ L.kin (L.nsK L.nsM) L.tabs).run callerA [] s _ ⟨[.ref a], []⟩ [.ref a] [.ref a] _ _ hr rfl env (hbind s _) (.cons rfl .nil) pre
  refine codeAny_mono run fun r s' q => ?_
  match r, q with
  | .error e, q => exact (hCX _ e s' q).elim
  | .ok .next, q => exact False.elim q
  | .ok .brk, q => exact False.elim q
  | .ok .cont, q => exact False.elim q
  | .ok (.ret u), q =>
    obtain ⟨v, H', os, bare, un, ok, rv, e⟩ := q
    cases (show v = .bl true from e)
    cases (show u = Value.bool true from rv)
    exact ⟨rfl, L.old un ok, os, bare⟩
/-- what is known of the law at the head's heap h -/
def LawAtG (l : PySem.W.OpenLaw) (w : World) (K : PySem.W.Frag) (CX : CXT) (k n : Nat) (x : Str) (mg : Str → Option Value) (fa : Addr) (h : Heap) : Prop :=
  ∃ (fd : FuncData) (cs : List (Addr × Addr)) (sp : Sp), ((∀ p ∈ cs, h.get? p.2 = some { cls := .none, data := .fields #[] }) ∧ (∀ p ∈ cs, K.lookup p.2 = none) ∧ ∀ p ∈ cs, PySem.W.CodeHd h p.1 p.2) ∧
    (∀ (s : Shared) (u : Value), BindsTo s fd ⟨[u], []⟩ [(x, u)]) ∧
    (∀ (H : Hp) (a : Addr) (ns : List Int), ns.length ≤ n → (∀ p ∈ cs, H p.2 = some (.tbl #[])) → SqL K H a (ns.map V.int) → sp [.ref a] H (fun v _ => v = .bl true) fun _ _ _ => False) ∧
    ∀ base : Heap, K.In base → base.Ns mainGlobals mg → (∀ p ∈ cs, TabB base mg p.1 p.2) → FnG l.prog w K mg base CX k fa fd [x] sp
theorem walk_ofG {l : PySem.W.OpenLaw} {n k : Nat} {q : Program} {loose : List Str} {XP : (Str → Option Value) → Heap → Prop} {YP : World → Heap → Prop} {d : DefRec} {K : Params → PySem.W.Frag} {CX : World → CXT} {x : Str}
    (most : l.most = some n) (line : n ≤ sizeLine) (plain : d.params.defaults = []) (room : Room k callerA) (known : ∀ (w : World) (h : Heap), YP w h → (K w.params).In h)
    (at_ : ∀ (w : World) (mg : Str → Option Value) (fa : Addr) (h : Heap), YP w h → (K w.params).In h → h.Ns mainGlobals mg → mg d.name = some (.ref fa) → LawAtG l w (K w.params) (CX w) k n x mg fa h)
    (calm : ∀ (w : World) (H : Hp) (s : Shared) (e : Value) (s' : Shared), CX w [] H s (fun _ _ _ => False) e s' → False) : PySem.W.WalkO q loose XP YP l.row.toRowW d [] (fun f vs => PySem.call f vs) := by
  refine Att.attach_callB most plain fun w _ s mg mb fa _ _ _ _ a vs ns G Y _ _ _ name here isI short _ bare => ?_
  obtain ⟨fd, cs, sp, ⟨t1, t2, t3⟩, bind, pre, F⟩ := at_ w mg fa _ Y (known w _ Y) G.T.g name
  exact law_callG ⟨known w _ Y, G.T.g, G.T.b, G.T.builtins, G.T.nolimit, t1, t2, t3, G.T.bmain, here, isI, Nat.le_trans short line⟩ bare room F bind (fun H t S => pre H a ns short t S) fun H e s' => calm w H s e s'
end KA
namespace KU
open PySem PySem.W PySem.Calls PyProof.Rows PySem.HandSPX
/-! ### an own error whose __init__(self, f) says super().__init__(e) and self.f = f -/
abbrev upBody (f : Str) (e : Expr) (p0 p1 p2 p3 pe q1 q2 q3 q4 : Pos) : List Stmt :=
  [.Expr (.Call (.Attribute (.Call (.Name "super" p0) [] [] p1) "__init__" p2) [e] [] p3) pe, .Assign [.Attribute (.Name "self" q1) f q2] (.Name f q3) q4]
abbrev upArgs (f : Str) (r1 r2 : Pos) : Arguments := { posonlyargs := [], args := [{ arg := "self", annotation := none, pos := r1 }, { arg := f, annotation := none, pos := r2 }], vararg := none, kwonlyargs := [], kw_defaults := [], kwarg := none, defaults := [] }
abbrev upScope (f : Str) : Scope := { kind := .function, names := [(PySem.Str.ofString "self", .local), (f, .local), (PySem.Str.ofString "__class__", .free), (PySem.Str.ofString "super", .globalImplicit)], isGenerator := false, isCoroutine := false, more := [] }
/-- what the written part says of the class at C, of its __init__ at fI -/
structure UpTxt (P : Program) (K : Frag) (C fI cda cc : Addr) (qual f : Str) (e : Expr) : Prop where
  fn : ∃ (oc : Value) (od : Option Addr) (doc pm : Value) (an : Option Addr) (ct : Value) (osl : Array (Option Value)) (r1 r2 p0 p1 p2 p3 pe q1 q2 q3 q4 : Pos),
    K.lookup fI = some ⟨oc, od, .func (ksFn "__init__" qual (upArgs f r1 r2) (upBody f e p0 p1 p2 p3 pe q1 q2 q3 q4) (upScope f) .none .none doc pm an (.ref cda) ct cc), osl⟩ ∧
      (∀ a b : Value, bindArgs (ksFn "__init__" qual (upArgs f r1 r2) (upBody f e p0 p1 p2 p3 pe q1 q2 q3 q4) (upScope f) .none .none doc pm an (.ref cda) ct cc) ⟨[a, b], []⟩ = pure [(PySem.Str.ofString "self", a), (f, b)]) ∧
      (∀ L : Addr, swapsWith (.Name f q3) (some (.Attribute (.Name "self" q1) f q2)) q4.line (ksEnv qual (upScope f) L fI (.ref cda) cc) = pure false) ∧
      ∃ pl : Sem Bool, ∀ L : Addr, eval (.Call (.Attribute (.Call (.Name "super" p0) [] [] p1) "__init__" p2) [e] [] p3) (ksEnv qual (upScope f) L fI (.ref cda) cc) = (do
        let o ← attributeBase (.Call (.Name "super" p0) [] [] p1) "__init__" (ksEnv qual (upScope f) L fI (.ref cda) cc) (eval (.Call (.Name "super" p0) [] [] p1) (ksEnv qual (upScope f) L fI (.ref cda) cc))
        standAt p2.atName
        let (g, first) ← holding [o] (getMethod o "__init__" pl)
        callWith p3 g first (backTo p3 (starEach [e] (ksEnv qual (upScope f) L fI (.ref cda) cc))) [])
  star : ∀ env : Env, starEach [e] env = [(false, eval e env)]
  code : codeIn K (.ref cda) qual = true
  file : ∃ (cl : Value) (cdd : Option Addr) (vs : Array Value) (ccs : Array (Option Value)) (fl : Str) (tf : Tok), K.lookup cda = some ⟨cl, cdd, .fields vs, ccs⟩ ∧ vs[2]? = some (.str fl tf) ∧ ((P.main.file : Str) == fl) = true
  cell : ∃ (cl : Value) (cld : Option Addr) (csl : Array (Option Value)), K.lookup cc = some ⟨cl, cld, .cell (some (.ref C)), csl⟩
  cls : ∃ cd, clsIn K C = some cd ∧ refsVE cd.mro = true ∧ cd.hasDict = true
  self : mroIn K C (.ref C) = some true
  noSuper : nsIn K mainGlobals "super" = some none
  top : (P.main.scope.names.lookup ("super" : Str)).isSome = false
  third : nsIn K cStatics "thirdparty.any" = some none
  up : ks_superIn K C C "__init__" = some (some (.builtin "ValueError.__init__"))
  val : subIn K (.ref C) (.type "ValueError") = some true
  own : excInitIn K C [.type "ValueError", .type "Exception", .type "BaseException", .type "object"] "ValueError.__new__" = true
  set : findIn K (.ref C) "__setattr__" = some (some (.builtin "object.__setattr__"))
  noF : findIn K (.ref C) f = some none
  obj : ∃ (nm q : Str) (N : Addr) (bs bm : List Value) (sn : List Str) (sub : List Value) (ab : Bool) (col : Option Bool) (dd : Option Addr) (k0 k1 k2 k3 k5 : Option Value),
    K.lookup C = some (excClassObj nm q C N bs bm true sn sub ab col dd k0 k1 k2 k3 k5 "ValueError.__new__") ∧ refsVE bm = true
  iC : findIn K (.ref C) "__init__" = some (some (.ref fI))
  tC : typeIn K (.ref fI) = some (.type "function")
  ga : findIn K (.ref C) "__getattribute__" = some (some (.builtin "BaseException.__getattribute__"))
  gg : findIn K (.ref C) "__getattr__" = some none
  kC : keepIn K (.ref C) = true
  exC : subIn K (.ref C) (.type "BaseException") = some true
  tyC : typeIn K (.ref C) = some (.type "type")
  hdC : hasDictIn K C = true
  nf : f ≠ "self" ∧ f ≠ "__class__" ∧ f ≠ "super" ∧ f ≠ "__debug__"
/-- what it leaves of a fresh exception at x -/
structure UpEnd (h h' : Heap) (x C dx t1 : Addr) (f : Str) (v : Value) : Prop where
  keep : ∀ b o, b ≠ x → h.get? b = some o → h'.get? b = some o
  obj : h'.get? x = some { cls := .ref C, dict := some dx, data := .fields #[.ref t1, .none, .none, .none, .bool false, .none] }
  big : h.objs.size ≤ dx
  ne : dx ≠ x
  ns : h'.Ns1 dx (fun y => if y = f then some v else none)
section
variable {prog : Program} {w : World} {A : Around} {R : Result → Shared → Prop} {s : Shared} {K : Frag} {mg mb : Str → Option Value} {C fI cda cc : Addr} {qual f : Str} {e : Expr}
theorem up_init (T : UpTxt prog K C fI cda cc qual f e) {x t0 : Addr} {v : Value} (X : K.In s.heap) (hlim : s.heap.NoLimit) (hg : s.heap.Ns mainGlobals mg) (hb : s.heap.Ns builtinsNs mb) (hbb : ∀ y : Str, y ≠ "__name__" → mb y = bootBuiltins y)
    (hx : s.heap.get? x = some (excO C t0)) (hnx : K.lookup x = none) (hroom : A.depth < recursionLimit)
    (text : ∀ (A' : Around) (E : Value → Shared → Prop) (s' : Shared) (L : Addr) (m : Str → Option Value) (Q : Value → Shared → Prop), s'.heap.Ns L m → m f = some v → (∀ (z : Str) (t t' : Tok), Q (.str z t) { s' with toks := t' }) → wpAny (model prog w) A' (eval e (ksEnv qual (upScope f) L fI (.ref cda) cc)) Q E s')
    (hq : ∀ h' tk dx t1, UpEnd s.heap h' x C dx t1 f v → R (.ok (.ret .none)) { s with heap := h', toks := tk }) :
    codeAny (model prog w) A (.call (.ref fI) ⟨[.ref x, v], []⟩) R s := by
  obtain ⟨hp, g, dr, tk, os⟩ := s
  dsimp only at X hlim hg hb hx
  obtain ⟨oc, od, doc, pm, an, ct, osl, r1, r2, p0, p1, p2, p3, pe, q1, q2, q3, q4, ho, hbd, hswap, pl, hcall⟩ := T.fn
  obtain ⟨n1, n2, n3, n4⟩ := T.nf
  have lf : (upScope f).names.lookup f = some .local := by
    show List.lookup f ((PySem.Str.ofString "self", NameKind.local) :: _) = _
    rw [List.lookup_cons]
    cases f == PySem.Str.ofString "self" with
    | true => rfl
    | false =>
      show List.lookup f ((f, NameKind.local) :: _) = _
      rw [List.lookup_cons, beq_self_eq_true]
  refine ks_codeAny_call_defAt (binds := [(PySem.Str.ofString "self", .ref x), (f, v)]) (body := upBody f e p0 p1 p2 p3 pe q1 q2 q3 q4) hroom (X _ _ ho) rfl hlim (codeRec_of X T.code) rfl ?bind ?cells ?locs (fun h₁ hns keep => ?_) rfl rfl rfl
  case bind => exact .of_eq (hbd _ _)
  case cells =>
    intro y hy
    simp only [List.mem_cons, List.not_mem_nil, or_false] at hy
    rcases hy with z | z | z | z <;> (subst z; exact fun q => by cases q)
  case locs =>
    intro y hy
    simp only [List.mem_cons, List.not_mem_nil, or_false] at hy
    rcases hy with z | z <;> subst z
    · rfl
    · exact lf
  have X1 : K.In h₁ := X.keeps keep
  have ms : (List.lookup (PySem.Str.ofString "self") [(PySem.Str.ofString "self", Value.ref x), (f, v)].reverse) = some (.ref x) := by
    show List.lookup (PySem.Str.ofString "self") [(f, v), (PySem.Str.ofString "self", Value.ref x)] = _
    rw [List.lookup_cons, beq_false_of_ne (Ne.symm n1)]
    rfl
  have mf : (List.lookup f [(PySem.Str.ofString "self", Value.ref x), (f, v)].reverse) = some v := by
    show List.lookup f [(f, v), (PySem.Str.ofString "self", Value.ref x)] = _
    rw [List.lookup_cons, beq_self_eq_true]
  obtain ⟨cd, hcd, hmro, hdict⟩ := T.cls
  obtain ⟨cl, cdd, vs, ccs, fl, tf, hcode, hvs, hfile⟩ := T.file
  obtain ⟨ccl, cld, csl, hcell⟩ := T.cell
  have hx1 := keep _ _ hx
  generalize hm : (fun y => List.lookup y [(PySem.Str.ofString "self", Value.ref x), (f, v)].reverse) = m at hns
  have ms' : m "self" = some (.ref x) := by rw [← hm]; exact ms
  have mf' : m f = some v := by rw [← hm]; exact mf
  clear ms mf hm
  show PySem.wpAt _ _ _ (execs (upBody f e p0 p1 p2 p3 pe q1 q2 q3 q4) (ksEnv qual (upScope f) hp.objs.size fI (.ref cda) cc)) _ _ _
  refine ks_wpAt_execs_cons (ks_wpAt_Expr_any (ks_wpAt_MethodCall (pl := pl) ?_ (hcall _)))
  obtain ⟨oC, hC1, hC2⟩ : ∃ oC, h₁.get? C = some oC ∧ oC.data = .cls cd := by
    unfold clsIn at hcd
    split at hcd
    · rename_i c d cd' sl z
      cases hcd
      exact ⟨_, X1 _ _ z, rfl⟩
    · cases hcd
  have k1 : (upScope f).names.lookup ("super" : Str) = some .globalImplicit := by
    show List.lookup (PySem.Str.ofString "super") ((f, NameKind.local) :: _) = _
    rw [List.lookup_cons, beq_false_of_ne (Ne.symm n3)]
    rfl
  have k2 : (upScope f).names.lookup ("__class__" : Str) = some .free := by
    show List.lookup (PySem.Str.ofString "__class__") ((f, NameKind.local) :: _) = _
    rw [List.lookup_cons, beq_false_of_ne (Ne.symm n2)]
    rfl
  refine ks_wpAt_super_base (env := ksEnv qual (upScope f) hp.objs.size fI (.ref cda) cc) k1 k2 rfl rfl (X1 _ _ ho) rfl rfl rfl (X1 _ _ hcode) rfl hvs hfile T.top ?_
  refine ks_loadName_global rfl k1 (loadGlobal_builtin (env := ksEnv qual (upScope f) hp.objs.size fI (.ref cda) cc) (hg.keeps keep) (mg_none_of X hg T.noSuper) (hb.keeps keep) ((hbb _ (by decide +kernel)).trans (show bootBuiltins "super" = some (.type "super") by kernel_rfl)) ⟨rfl, ?_⟩)
  refine wpAny_loadName_free rfl k2 rfl ⟨_, X1 _ _ hcell, rfl⟩ ?_
  refine wpAny_loadName_local rfl rfl hns ms' ?_
  refine ks_wpAny_isType_cls hC1 hC2 ⟨rfl, ?_⟩
  refine ks_wpAny_call_super hC1 hC2 hx1 rfl (fun c z => by cases z) (looks_mroIn X1 T.self) (fun h2 so keep2 => ?_)
  have X2 : K.In h2 := X1.keeps keep2
  have hx2 := keep2 _ _ hx1
  have I2 : InstAt h2 x (excO C t0) C none := ⟨hx2, rfl, rfl, trivial⟩
  have along : alongIn K "__init__" ((cd.mro.dropWhile (· != .ref C)).drop 1) = some (some (.builtin "ValueError.__init__")) := by
    have z := T.up
    unfold ks_superIn at z
    rw [hcd] at z
    exact z
  refine kxs_getMethod kxs_ValueError so (looks_opaque X2 T.third) (l₀ := cd.mro) (fun A Q E s k q => wpAny_bind ((looks_clsIn X2 hcd) A _ E s k (wpAny_pure q))) rfl X2 along (I2.type.andThen (looks_subIn X2 T.val)) (ks_ne X2 I2 hcd) rfl ?_
  have push3 : ∀ b o, h2.get? b = some o → (h2.push (kxs_mw "ValueError.__init__" x)).get? b = some o := fun b o z => Heap.get?_push_of_some _ z
  generalize hh3 : h2.push (kxs_mw "ValueError.__init__" x) = h3 at push3
  have hu : h3.get? h2.objs.size = some (kxs_mw "ValueError.__init__" x) := by
    rw [← hh3]
    exact Heap.get?_push_at rfl rfl
  generalize h2.objs.size = u at hu
  have X3 : K.In h3 := X2.keeps push3
  have hx3 := push3 _ _ hx2
  have hns3 : h3.Ns hp.objs.size m := (hns.keeps keep2).keeps push3
  rw [T.star]
  refine kxs_callWith (i := "ValueError.__init__") (x := x) (u := u) rfl (evalArgs_plain (spliced_cons ?_))
  refine text _ _ _ _ _ _ hns3 mf' fun z zt t' => spliced_nil ⟨hu, ?_⟩
  obtain ⟨nm, N', qn, bs, bm, hdct, sn, sub, ab, col, dd, kk0, kk1, kk2, kk3, kk5, hC, hT⟩ := excInit_of X3 T.own
  refine wpAny_call (codeAny_of_tree ?_)
  show wpAny _ (Around.in1 _) (callAny (.ref u) ⟨[.str z zt], []⟩) _ _ _
  simp only [callAny]
  refine wpAny_bind (wpAny_load hu ?_)
  simp only [kxs_mw, show (Value.type "method-wrapper" == Value.type "method" || Value.type "method-wrapper" == Value.type "builtin_function_or_method" || Value.type "method-wrapper" == Value.type "method-wrapper") = true by decide, if_true]
  have FB := F.excBase_ValueError
  refine KFB.if_so (by decide) (wpAny_bind (check_bound_init FB.toExcCallFacts hC hx3 rfl (wpAny_bind (wpAny_pure (wpAny_pure ⟨plainId_quiet FB.init.plain _, codeAny_builtin FB.initEntry ?_⟩)))))
  refine exc_init_tree (cls := .ref C) (t0 := t0) (dv := none) (c2 := .none) (c3 := .none) (b4 := .bool false) hx3 (by show 1 ≤ sizeLine; decide) fun h4 keep4 hx4 _ => ?_
  have X4 : K.In h4 := fun b o z => keep4 b o (fun q => by rw [q, hnx] at z; cases z) (X3 b o z)
  have hns4 : h4.Ns hp.objs.size m := by
    obtain ⟨oL, es, ep, hL, rest⟩ := hns3
    exact ⟨oL, es, ep, keep4 _ _ (Nat.ne_of_gt (Heap.lt_size hx)) hL, rest⟩
  refine wpAt_of_wpAny (wpAny_execs_cons (plainObj_wpAny_Assign_Attribute ?_ (hswap _)))
  have kf : (ksEnv qual (upScope f) hp.objs.size fI (.ref cda) cc).kindOf f = some .local := lf
  have ndb : (f == ("__debug__" : Str)) = false := beq_false_of_ne n4
  refine wpAny_Name (wpAny_loadName_local rfl kf hns4 mf' ?_) ndb
  refine wpAny_Name (wpAny_loadName_local rfl rfl hns4 ms' ?_) rfl
  refine set_plain X4 (ox := excO C h3.objs.size) (od := none) ⟨hx4, rfl, rfl, trivial⟩ T.set ?_
  refine exc_osa X4 hx4 hcd hmro hdict T.noF fun h5 tk5 dx keep5 big ne5 hx5 hn5 => ?_
  refine wpAny_execs_nil (hq h5 tk5 dx h3.objs.size ⟨fun b o hb z => keep5 b o hb (keep4 b o hb (push3 b o (keep2 b o (keep b o z)))), hx5, ?_, ne5, hn5⟩)
  exact Nat.le_of_lt (Nat.lt_of_lt_of_le hns4.lt big)
/-- a made one -/
structure UpMade (h h' : Heap) (e C d : Addr) (f : Str) (v : Value) : Prop where
  keep : ∀ b o, h.get? b = some o → h'.get? b = some o
  new : h.objs.size ≤ e
  obj : ∃ oe vs, h'.get? e = some oe ∧ oe.cls = .ref C ∧ oe.dict = some d ∧ oe.data = .fields vs ∧ vs[1]? = some .none
  big : h.objs.size ≤ d
  ne : d ≠ e
  ns : h'.Ns1 d (fun y => if y = f then some v else none)
theorem up_made (T : UpTxt prog K C fI cda cc qual f e) {v : Value} (X : K.In s.heap) (hlim : s.heap.NoLimit) (hg : s.heap.Ns mainGlobals mg) (hb : s.heap.Ns builtinsNs mb) (hbb : ∀ y : Str, y ≠ "__name__" → mb y = bootBuiltins y) (hroom : A.depth + 1 < recursionLimit)
    (text : ∀ (A' : Around) (E : Value → Shared → Prop) (s' : Shared) (L : Addr) (m : Str → Option Value) (Q : Value → Shared → Prop), s'.heap.Ns L m → m f = some v → (∀ (z : Str) (t t' : Tok), Q (.str z t) { s' with toks := t' }) → wpAny (model prog w) A' (eval e (ksEnv qual (upScope f) L fI (.ref cda) cc)) Q E s')
    (hq : ∀ h' tk a d, UpMade s.heap h' a C d f v → R (.ok (.ret (.ref a))) { s with heap := h', toks := tk }) : codeAny (model prog w) A (.call (.ref C) ⟨[v], []⟩) R s := by
  obtain ⟨nm, q, N, bs, bm, sn, sub, ab, col, dd, k0, k1, k2, k3, k5, hC, hbm⟩ := T.obj
  obtain ⟨hp, g, dr, tk, os⟩ := s
  dsimp only at X hlim hg hb
  generalize hh : (hp.push (kdv_tup [v])).push (excO C hp.objs.size) = h1
  have k : ∀ b o, hp.get? b = some o → h1.get? b = some o := fun b o z => by
    rw [← hh]
    exact Heap.get?_push_of_some _ (Heap.get?_push_of_some _ z)
  have got : h1.get? (hp.objs.size + 1) = some (excO C hp.objs.size) := by
    rw [← hh]
    heap_get
  have fresh : K.lookup (hp.objs.size + 1) = none := by
    cases z : K.lookup (hp.objs.size + 1) with
    | none => rfl
    | some o => exact absurd (show hp.objs.size + 1 < hp.objs.size from Heap.lt_size (X _ _ z)) (Nat.not_lt.mpr (Nat.le_succ _))
  refine call_own F.excBase_ValueError (fun Y => refsVE_contains Y bm hbm) (X _ _ hC) (looks_findIn X T.iC) (fun self => bind_fn X self T.tC) (by show 1 ≤ sizeLine; decide) ?_
  rw [hh]
  refine up_init (s := ⟨h1, g, dr, tk, os⟩) T (X.keeps k) (hlim.keeps k) (hg.keeps k) (hb.keeps k) hbb got fresh hroom text fun h' tk' dx t1 Z => ?_
  have size1 : hp.objs.size ≤ h1.objs.size := Nat.le_of_lt (Nat.lt_of_succ_lt (Heap.lt_size got))
  exact ⟨rfl, hq h' tk' (hp.objs.size + 1) dx ⟨fun b o z => Z.keep b o (Nat.ne_of_lt (Nat.lt_succ_of_lt (Heap.lt_size z))) (k b o z), Nat.le_succ _, ⟨_, _, Z.obj, rfl, rfl, rfl, rfl⟩, Nat.le_trans size1 Z.big, Z.ne, Z.ns⟩⟩
end
end KU
namespace KU
open PySem PySem.W PySem.Calls PyProof.Rows PySem.HandSPX
/-- what the error says of v can be told -/
abbrev Text (P : Program) (w : World) (fI cda cc : Addr) (qual f : Str) (e : Expr) (v : Value) : Prop :=
  ∀ (A' : Around) (E : Value → Shared → Prop) (s' : Shared) (L : Addr) (m : Str → Option Value) (Q : Value → Shared → Prop), s'.heap.Ns L m → m f = some v → (∀ (z : Str) (t t' : Tok), Q (.str z t) { s' with toks := t' }) →
    wpAny (model P w) A' (eval e (ksEnv qual (upScope f) L fI (.ref cda) cc)) Q E s'
theorem kind_f {f : Str} : (upScope f).names.lookup f = some .local := by
  show List.lookup f ((PySem.Str.ofString "self", NameKind.local) :: _) = _
  rw [List.lookup_cons]
  cases f == PySem.Str.ofString "self" with
  | true => rfl
  | false =>
    show List.lookup f ((f, NameKind.local) :: _) = _
    rw [List.lookup_cons, beq_self_eq_true]
/-- f'z{f}' of an int, of a text -/
theorem text_of {P : Program} {w : World} {fI cda cc : Addr} {qual f z : Str} {j : Nat} {pc pn pf pj : Pos} {v : Value} {y : Str} (hd : f ≠ "__debug__")
    (fld : ∀ (A' : Around) (E : Value → Shared → Prop) (s' : Shared) (Q : Value → Shared → Prop), (∀ (t t' : Tok), Q (.str y t) { s' with toks := t' }) → wpAny (model P w) A' (formatField v Str.empty) Q E s')
    (h1 : z.length ≤ sizeLine) (h2 : (z ++ y).length ≤ sizeLine) : Text P w fI cda cc qual f (.JoinedStr [.Constant (.str z) j pc, .FormattedValue (.Name f pn) (-1) none pf] pj) v := by
  intro A' E s' L m Q hn hm k
  refine wpAny_JoinedStr ?_
  have e0 : ∀ env : Env, evalEach [.Constant (.str z) j pc, .FormattedValue (.Name f pn) (-1) none pf] env = [eval (.Constant (.str z) j pc) env, eval (.FormattedValue (.Name f pn) (-1) none pf) env] := fun _ => by first | rfl | simp [evalEach]
  rw [e0]
  have e1 : Str.empty ++ z = z := by
    show (⟨#[] ++ z.cps⟩ : Str) = z
    rw [Array.empty_append]
  refine Calls.Constant_str ⟨z, _, rfl, by rw [e1]; exact h1, ?_⟩
  rw [e1]
  refine wpAny_FormattedValue_plain (wpAny_Name (wpAny_loadName_local rfl (show (ksEnv qual (upScope f) L fI (.ref cda) cc).kindOf f = some .local from kind_f) hn hm ?_) (beq_false_of_ne hd))
  exact fld _ _ _ _ fun t t' => ⟨y, t, rfl, h2, h2, k _ _ _⟩
theorem text_int {P : Program} {w : World} {fI cda cc : Addr} {qual f z : Str} {j : Nat} {pc pn pf pj : Pos} {i : Int} {t : Tok} (hd : f ≠ "__debug__") (hi : i.natAbs.log2 < 1920) (h1 : z.length ≤ sizeLine) (h2 : (z ++ (toString i : String)).length ≤ sizeLine) :
    Text P w fI cda cc qual f (.JoinedStr [.Constant (.str z) j pc, .FormattedValue (.Name f pn) (-1) none pf] pj) (.int i t) :=
  text_of hd (fun _ _ _ _ k => wpAny_formatField_int hi (k _ _)) h1 h2
theorem text_str {P : Program} {w : World} {fI cda cc : Addr} {qual f z y : Str} {j : Nat} {pc pn pf pj : Pos} {t : Tok} (hd : f ≠ "__debug__") (h1 : z.length ≤ sizeLine) (h2 : (z ++ y).length ≤ sizeLine) (h3 : y.length ≤ sizeLine) :
    Text P w fI cda cc qual f (.JoinedStr [.Constant (.str z) j pc, .FormattedValue (.Name f pn) (-1) none pf] pj) (.str y t) :=
  text_of hd (fun _ _ _ _ k => wpAny_formatField_str (k _ _) (k _ _) h3) h1 h2
end KU
namespace KU
open PySem PySem.Spec PyProof.Rows L2
theorem relO_up {v : V} {v' : Value} {n : Str} (r : RelV v v') (f : Str) : RelO (List.lookup f [(n, v)]) (if f = n then some v' else none) := by
  by_cases c : f = n
  · subst c
    rw [if_pos rfl, List.lookup_cons, beq_self_eq_true]
    exact r
  · rw [if_neg c, List.lookup_cons, beq_false_of_ne c]
    trivial
section
variable {X : Cx} {C fI cda cc : Addr} {qual f x : Str} {e : Expr}
/-- x(a), x the class's name -/
def tMkUp (T : Value → Prop) (C : Addr) (f : Str) (ta : TA) : L2.St → Hp → XK → Prop := fun σ H Q => ta σ H fun vs H1 => ∃ v, vs = [v] ∧ (∀ v', RelV v v' → T v') ∧ ∀ d, H1 d = none → Q (.ref C) (some d) (upd H1 d (.xd [(f, v)]))
theorem pmk_up {a : Expr} {ta : TA} {p pos : Pos} {k : Nat} (T : UpTxt X.prog X.K C fI cda cc qual f e) (gC : X.mg x = some (.ref C)) (hr : Room k X.A) (ha : PA X [a] ta) (hg : Gl X x) (hdb : (x == ("__debug__" : Str)) = false := by decide)
    (he : starEach (a :: []) X.env = (false, eval a X.env) :: starEach [] X.env := by rfl) (hpl : (backTo pos (starEach [] X.env)).any (·.1) = false := by rfl) :
    PMk X (.Call (.Name x p) [a] [] pos) (tMkUp (Text X.prog X.w fI cda cc qual f e) C f ta) := by
  intro pins s σ H Q I h
  refine wpAny_Call_Name_kw (ld_glob I hg gC ?_ hdb)
  refine PySem.W.callWith_K (h₀ := X.base) I.ok.mod.kin T.kC (thn (ha.run pos pins s σ H _ I h) fun us s1 hh => ?_) he hpl
  obtain ⟨vs, H1, I1, r1, v, rfl, ht, q1⟩ := hh
  refine ⟨I1.kIn, ?_⟩
  cases r1 with
  | cons rv rn =>
    rename_i v' us'
    cases rn
    show wpAny _ _ (call (.ref C) [v']) _ _ _
    obtain ⟨mb, b1, b2⟩ := I1.mod.blt
    have lim := I1.nolimit
    have glob := I1.mod.glob.keeps I1.bk
    have blt := b1.keeps I1.bk
    have dp := hr.dp
    obtain ⟨hp, g, dr, tk, os⟩ := s1
    refine wpAny_call (up_made T I1.kIn lim glob blt b2 (by omega) (ht v' rv) fun h' tk' a' d M => ?_)
    show MkP X pins σ Q (.ref a') ⟨h', g, dr, tk', os⟩
    obtain ⟨oe, fv, hoe, hc, hd, hdat, one⟩ := M.obj
    obtain ⟨G, in_, out⟩ := restrict h' fun b => decide (b ≠ a')
    have same : ∀ b, b ≠ a' → G.get? b = h'.get? b := fun b hb => in_ b (decide_eq_true hb)
    have gone : G.get? a' = none := out a' (by simp)
    have stay : ∀ b o, hp.get? b = some o → G.get? b = some o := fun b o z => (same b (Nat.ne_of_lt (Nat.lt_of_lt_of_le (Heap.lt_size z) M.new))).trans (M.keep b o z)
    have own : ObjOk X.prog X.w (upd H1 d (.xd [(f, v)])) G d (.xd [(f, v)]) := ⟨_, M.ns.at (fun o z => (same d M.ne).trans z), fun y => relO_up rv y⟩
    have J : Inv X pins σ (upd H1 d (.xd [(f, v)])) ⟨G, g, dr, tk', os⟩ := I1.laid (t' := tk') stay M.big own
    refine ⟨a', oe, fv, ⟨G, g, dr, tk', os⟩, _, .ref C, some d, rfl, J, fun b o z => ?_, gone, hoe, ⟨hc, hd⟩, hdat, one, ?_, rfl, I1.bare, raises_own T.exC T.tyC, q1 d (I1.hok.fresh M.big)⟩
    · have hb : b ≠ a' := fun y => by
        rw [y] at z
        exact absurd (gone.symm.trans z) (by simp)
      exact (same b hb).symm.trans z
    · rw [upd_ne (Ne.symm M.ne)]
      exact I1.hok.fresh M.new
/-- raise x(a) -/
theorem ps_raiseUp {a : Expr} {ta : TA} {W : WX} {p pos pos2 : Pos} {k : Nat} (hc : X.calm = true) (T : UpTxt X.prog X.K C fI cda cc qual f e) (gC : X.mg x = some (.ref C)) (hr : Room k X.A) (tk : Takes X W) (ha : PA X [a] ta) (hg : Gl X x) (hdb : (x == ("__debug__" : Str)) = false := by decide)
    (he : starEach (a :: []) X.env = (false, eval a X.env) :: starEach [] X.env := by rfl) (hpl : (backTo pos (starEach [] X.env)).any (·.1) = false := by rfl) :
    PS X (.Raise (some (.Call (.Name x p) [a] [] pos)) none pos2) (fun _ σ H => tMkUp (Text X.prog X.w fI cda cc qual f e) C f ta σ H fun cls d H' => W cls d σ H') := ps_raise hc tk (pmk_up T gC hr ha hg hdb he hpl)
/-- err.f, err an exception that is kept as a value -/
def tUpGet (C : Addr) (f : Str) (te : TE) : TE := fun σ H Q => te σ H fun x H1 => ∃ (a d : Addr) (v : V), x = .ref a ∧ H1 a = some (KA.ExV (.ref C) (some d) a) ∧ H1 d = some (.xd [(f, v)]) ∧ Q v H1
theorem pe_upGet {o : Expr} {te : TE} {pos : Pos} (T : UpTxt X.prog X.K C fI cda cc qual f e) (he : PE X o te) (hb : attributeBase o f X.env (eval o X.env) = eval o X.env := by rfl) :
    PE X (.Attribute o f pos) (tUpGet C f te) := by
  refine ⟨fun pins s σ H Q I h => ?_⟩
  refine attr_of hb (thn (he.run pins s σ H _ I h) fun u s1 hh => ?_)
  obtain ⟨x, H1, I1, rx, a, d, v, rfl, ha, hd, q⟩ := hh
  obtain rfl : u = Value.ref a := rx
  obtain ⟨⟨oe, got, z, vs, dat⟩, _⟩ := I1.hok a _ ha
  obtain ⟨mA, ns, rel⟩ := I1.hok d _ hd
  obtain ⟨od, at_, look⟩ := lookIn_ns ns
  have l : List.lookup f [(f, v)] = some v := by rw [List.lookup_cons, beq_self_eq_true]
  obtain ⟨u, hu, ru⟩ := RelO.some_of (v := v) (o := mA f) (by rw [← l]; exact rel f)
  have J : PySem.W.InstAt s1.heap a oe C (some od) := ⟨got, z.1, by unfold PySem.W.notCls; rw [dat] <;> rfl, by rw [z.2]; exact at_⟩
  exact HandSPX.exc_get I1.kIn J T.ga T.gg T.exC (PySem.W.findObj_own T.hdC T.noF rfl (by rw [look, hu])) (handed_of ru) ⟨v, H1, I1.tok _, ru, q⟩
end
end KU
namespace KW
open PySem PySem.Spec PyProof.Rows L2 PySem.W LamX
/-! ### a lambda without parameters that is handed on from def to def: it stands as it was made, whoever calls it -/
theorem un_comp {fs gs : List Addr} {H H1 H2 : Hp} {h h1 h2 : Heap} (a : Un fs [] H H1 h h1) (b : Un gs [] H1 H2 h1 h2) (sub : ∀ x ∈ gs, x ∈ fs ∨ h.get? x = none) : Un fs [] H H2 h h2 := by
  have no : ∀ {x : Addr} {o : Obj}, h.get? x = some o → x ∉ fs → x ∉ gs := fun e n z => by
    rcases sub _ z with q | q
    · exact n q
    · rw [q] at e
      cases e
  refine ⟨fun x o e n hx _ => ?_, fun x o e n hx _ => ?_, fun x o e n _ => ?_, fun x o e _ => ?_, fun x xs e => b.tups _ _ (a.tups _ _ e), fun x o u e => b.frzs _ _ _ (a.frzs _ _ _ e), fun x ps e => ?_⟩
  · exact b.keep x o (a.keep x o e n hx (by simp)) (a.free x o e n (by simp)) (no e hx) (by simp)
  · obtain ⟨sl, e1⟩ := a.slot x o e n hx (by simp)
    have n1 := a.free x o e n (by simp)
    by_cases hg : x ∈ gs
    · obtain ⟨sl2, e2⟩ := b.slot x _ e1 n1 hg (by simp)
      exact ⟨sl2, e2⟩
    · exact ⟨sl, b.keep x _ e1 n1 hg (by simp)⟩
  · obtain ⟨o1, e1⟩ := a.there x o e (by simp)
    exact b.free x o1 e1 (a.free x o e n (by simp)) (by simp)
  · obtain ⟨o1, e1⟩ := a.there x o e (by simp)
    exact b.there x o1 e1 (by simp)
  · obtain ⟨m1, e1⟩ := a.tbls x ps e
    obtain ⟨m2, e2⟩ := b.tbls x _ e1
    exact ⟨m1 ++ m2, by rw [e2, Array.append_assoc]⟩
/-- the lambda at f, its code object at c' of the name q, made where the heaps were H0, h0; fs: the frames that ran then; t: what it promises -/
structure Work (P : Program) (w : World) (K : PySem.W.Frag) (mg : Str → Option Value) (base : Heap) (k : Nat) (fs : List Addr) (H0 : Hp) (h0 : Heap) (f c' : Addr) (q : Str) (t : XK → Hp → VK → Prop) : Prop where
  obj : ∃ (params : Arguments) (body : Expr) (scope : Scope) (cl : List (Str × Addr)) (pm ctv : Value), h0.get? f = some (PySem.W.kla_obj "<lambda>" q params body scope cl pm c' ctv)
  free : H0 f = none
  out : f ∉ fs
  run : ∀ (A : Around) (outer : List Env) (s1 : Shared) (HZ : Hp) (Q : VK) (E : XK), Room (k + 1) A → Env0 P w K mg base A outer s1 HZ → Un fs [] H0 HZ h0 s1.heap → HZ c' = some (CodeO c' q) → t E HZ Q →
    codeAny (model P w) A (.call (.ref f) ⟨[], []⟩) (CR (L2.CX P w) outer P w HZ s1 Q E) s1
section
variable {X : Cx} {pins : List (Addr × Obj)} {σ : L2.St} {H : Hp} {s : Shared}
theorem work_of {k : Nat} {f c' : Addr} {pm ctv : Value} {params : Arguments} {body : Expr} {scope : Scope} {tb : XK → TE} (I : Inv X pins σ H s) (L : LamS X.env.scope scope)
    (hf : s.heap.get? f = some (PySem.W.kla_obj "<lambda>" (X.env.qual ++ "<lambda>") params body scope (cloFrom X.env.cells scope.names []) pm c' ctv)) (hfn : H f = none) (hfr : f ∉ frs X.stack)
    (hbind : bindArgs (PySem.W.kla_fn "<lambda>" (X.env.qual ++ "<lambda>") params body scope (cloFrom X.env.cells scope.names []) pm (.ref c') ctv) ⟨[], []⟩ = pure [])
    (hbody : ∀ (A : Around) (outer : List Env) (s1 : Shared) (HZ : Hp) (E : XK), Room k (A.deeper (lamEnv X scope s1.heap.objs.size f c')) → PE (lamCx X A outer s1 HZ E scope f c') body (tb E)) :
    Work X.prog X.w X.K X.mg X.base k (frs X.stack) H s.heap f c' (X.env.qual ++ "<lambda>") (fun E HZ Q => tb E σ HZ Q) := by
  refine ⟨⟨_, _, _, _, _, _, hf⟩, hfn, hfr, fun A outer s1 HZ Q E hr e0 un hc ht => ?_⟩
  have of1 := un.keep f _ hf hfn hfr (by simp)
  obtain ⟨⟨oc, vs, t, hoc, hdc, hvc⟩, _, _⟩ := e0.hok c' _ hc
  have lim : s1.heap.NoLimit := e0.mod.nolimit.keeps fun b o e => (e0.bs b o e).1
  refine PySem.W.kla_callFunE hr.depth of1 rfl L.co L.gen rfl ⟨c', oc, vs, t, rfl, hoc, hdc, hvc⟩ ?_
  rw [hbind]
  refine wpAny_pure (wpAny_newFunctionEnv (fun y hy => (L.own y hy).2) (fun y hy => absurd hy (by simp)) (fun h₁ hns hsb => ⟨lim.fresh _ hsb, ?_⟩) L.kind)
  show codeAny _ _ (.expr body (lamEnv X scope s1.heap.objs.size f c')) _ _
  have kp : ∀ b o, s1.heap.get? b = some o → h₁.get? b = some o := fun b o e => hsb.extBut b o (Nat.ne_of_lt (Heap.lt_size e)) (Heap.get?_push_of_some _ e)
  have J : Inv (lamCx X A outer s1 HZ E scope f c') [] σ HZ { s1 with heap := h₁, toks := s1.toks + ([] : List (Str × Value)).length } := lam_start2 I L e0 hr.hd un hns kp
  refine PySem.W.kla_codeExpr (wpAny_mono ((hbody A outer s1 HZ E (hr.deeper _)).run [] _ _ HZ Q J ht) (fun v s' hq => ?_) fun e s' hq => hq)
  obtain ⟨w', H', J', rv, q⟩ := hq
  exact ⟨w', H', J'.os, J'.bare, J'.base, J'.hok, rv, q⟩
end
section
variable {Z : Cx} {k : Nat} {fs : List Addr} {H0 : Hp} {h0 : Heap} {f c' : Addr} {q : Str} {t : XK → Hp → VK → Prop}
/-- where Z stands to the making -/
structure Since (Z : Cx) (fs : List Addr) (H0 : Hp) (h0 : Heap) : Prop where
  un : Un fs [] H0 Z.H_0 h0 Z.s_0.heap
  sub : ∀ b ∈ Z.fs, b ∈ fs ∨ h0.get? b = none
  ex : Z.ex = []
theorem Since.now {pins : List (Addr × Obj)} {σ : L2.St} {H : Hp} {s : Shared} (S : Since Z fs H0 h0) (I : Inv Z pins σ H s) : Un fs [] H0 H h0 s.heap := by
  have b := I.base
  rw [S.ex] at b
  exact un_comp S.un b S.sub
theorem Since.stk {pins : List (Addr × Obj)} {σ : L2.St} {H : Hp} {s : Shared} (S : Since Z fs H0 h0) (I : Inv Z pins σ H s) : ∀ b ∈ frs Z.stack, b ∈ fs ∨ h0.get? b = none := fun b hb => by
  rcases List.mem_cons.mp (I.stkSub b hb) with e | e
  · refine .inr ?_
    cases z : h0.get? b with
    | none => rfl
    | some o =>
      obtain ⟨o', z'⟩ := S.un.there b o z (by simp)
      have l := Heap.lt_size z'
      have a := I.ok.above
      rw [e] at l
      exact absurd l (Nat.not_lt.mpr a)
  · exact S.sub b e
/-- the slot's name is called: a work stands in it -/
theorem pe_work {i : Nat} {a : Str} {E : XK} {p1 p2 : Pos} (Wk : Work Z.prog Z.w Z.K Z.mg Z.base k fs H0 h0 f c' q t) (S : Since Z fs H0 h0) (hx : Passes (L2.CX Z.prog Z.w) Z E) (hr : Room (k + 1) Z.A) (hN : Z.N[i]? = some a) (hv : Vis Z.env.scope a)
    (hd : (a == ("__debug__" : Str)) = false := by decide) (hcd : (a == ("__classdict__" : Str)) = false := by decide) :
    PE Z (.Call (.Name a p1) [] [] p2) (fun σ H Q => σ[i]? = some (some (.ref f)) ∧ H c' = some (CodeO c' q) ∧ t E H Q) := by
  refine ⟨fun pins s σ H Q I h => ?_⟩
  obtain ⟨hs, hc, ht⟩ := h
  refine wpAny_Call_Name_kw (thn ((pe_var (pos := p1) (i := i) hN hv hd hcd).run pins s σ H (fun v H1 => v = .ref f ∧ H1 = H) I ⟨.ref f, hs, rfl, rfl⟩) fun u s1 ⟨v, H1, I1, r1, q1⟩ => ?_)
  obtain ⟨ev, eH⟩ := q1
  subst ev
  rw [eH] at I1
  obtain rfl : u = Value.ref f := r1
  obtain ⟨_, _, _, _, _, _, ob⟩ := Wk.obj
  have un := S.now I1
  have of1 := un.keep f _ ob Wk.free Wk.out (by simp)
  refine PySem.W.callWith_F0 ⟨_, _, _, _, of1⟩ ?_
  refine wpAny_call (codeAny_mono (Wk.run Z.A Z.stack s1 H Q E hr I1.env0 un hc ht) fun r s' hq => ?_)
  match r, hq with
  | .error e, hq => exact hx pins σ H s1 e s' I1 hq
  | .ok (.ret u), hq => exact I1.after hq
  | .ok .next, hq => exact False.elim hq
  | .ok .brk, hq => exact False.elim hq
  | .ok .cont, hq => exact False.elim hq
end
/-- the promise of a def that a work is handed to -/
structure FnW (P : Program) (w : World) (K : PySem.W.Frag) (mg : Str → Option Value) (base : Heap) (fs : List Addr) (H0 : Hp) (h0 : Heap) (CX : CXT) (k : Nat) (g : Addr) (fd : FuncData) (ps : List Str) (sp : Sp) : Prop where
  len : ∀ vs H Q E, sp vs H Q E → vs.length = ps.length
  run : ∀ (A : Around) (outer : List Env) (s : Shared) (H : Hp) (args : Args) (us : List Value) (vs : List V) (Q : VK) (E : XK), Room k A → A.guards = some [] → Env0 P w K mg base A outer s H → Un fs [] H0 H h0 s.heap → (∀ b ∈ frs outer, b ∈ fs ∨ h0.get? b = none) →
    BindsTo s fd args (ps.zip us) → Vals vs us → sp vs H Q E → codeAny (model P w) A (.call (.ref g) args) (CR CX outer P w H s Q E) s
theorem fnW_of {CX : CXT} {P : Program} {w : World} {K : PySem.W.Frag} {mg : Str → Option Value} {base : Heap} {fs : List Addr} {H0 : Hp} {h0 : Heap} {k : Nat} {f : Addr} {x qual : Str} {st : Stmt} {fd : FuncData} {N ps : List Str} {sp : Sp} (F : Fun K x qual st f fd) (S : FnScope N ps (defScope st))
    (len : ∀ vs H Q E, sp vs H Q E → vs.length = ps.length)
    (hbody : ∀ (cdv : Value) (A : Around) (outer : List Env) (s : Shared) (H : Hp) (vs : List V) (Q : VK) (E : XK), Room k (A.deeper (envOfC qual (defScope st) s.heap.objs.size f cdv)) → A.guards = some [] → Since (cxOf CX P w K mg base N qual (defScope st) f cdv A outer s H E) fs H0 h0 → sp vs H Q E →
      ∃ t, PSs (cxOf CX P w K mg base N qual (defScope st) f cdv A outer s H E) (defBody st) t ∧ t { nx := fun _ H' => Q .non H', rt := Q } (L2.start N vs) H) : FnW P w K mg base fs H0 h0 CX (k + 1) f fd ps sp := by
  obtain ⟨oc, od, kV, doc, pm, an, cdv, ct, osl, rfl, lk, hcd⟩ := F.ex
  exact ⟨len, fun A outer s H args us vs Q E hr hgd e0 un sub hb r h => run_ofS lk hcd S hr e0 hb r (len _ _ _ _ h) fun hr' => hbody cdv A outer s H vs Q E hr' hgd ⟨un, sub, rfl⟩ h⟩
section
variable {Z : Cx} {CX : CXT} {k : Nat} {fs : List Addr} {H0 : Hp} {h0 : Heap} {g : Addr} {fd : FuncData} {ps : List Str} {sp : Sp} {E : XK} {x : Str} {p pos : Pos} {e : Expr} {es : List Expr} {t : TA}
/-- x(a, ..) in a def that the work has been handed to, handed on -/
theorem pe_wcall (F : FnW Z.prog Z.w Z.K Z.mg Z.base fs H0 h0 CX k g fd ps sp) (S : Since Z fs H0 h0) (hr : Room k Z.A) (hgd : Z.A.guards = some []) (hg : Gl Z x) (hm : Z.mg x = some (.ref g)) (hk : PySem.W.keepIn Z.K (.ref g) = true) (hb : Binds Z.K fd ps []) (hx : Passes CX Z E) (ha : PA Z (e :: es) t)
    (hdb : (x == ("__debug__" : Str)) = false := by decide) (he : starEach (e :: es) Z.env = (false, eval e Z.env) :: starEach es Z.env := by rfl) (hpl : (backTo pos (starEach es Z.env)).any (·.1) = false := by rfl) :
    PE Z (.Call (.Name x p) (e :: es) [] pos) (tCall sp [] E t) := by
  refine ⟨fun pins s σ H Q I h => ?_⟩
  refine wpAny_Call_Name_kw (ld_glob I hg hm ?_ hdb)
  refine PySem.W.callWith_K (h₀ := Z.base) I.ok.mod.kin hk (thn (ha.run pos pins s σ H _ I h) fun us s1 ⟨vs, H1, I1, r, q⟩ => ⟨I1.kIn, ?_⟩) he hpl
  have q : sp (vs ++ []) H1 Q E := q
  rw [List.append_nil] at q
  have hl : us.length = ps.length := by rw [← r.length]; exact F.len _ _ _ _ q
  have bt := hb s1 us I1.kIn (by simpa using hl)
  rw [List.append_nil] at bt
  refine wpAny_call (codeAny_mono (F.run Z.A Z.stack s1 H1 ⟨us, []⟩ us vs Q E hr hgd I1.env0 (S.now I1) (S.stk I1) bt r q) fun rr s' hq => ?_)
  match rr, hq with
  | .error e, hq => exact hx pins σ H1 s1 e s' I1 hq
  | .ok (.ret u), hq => exact I1.after hq
  | .ok .next, hq => exact False.elim hq
  | .ok .brk, hq => exact False.elim hq
  | .ok .cont, hq => exact False.elim hq
end
section
variable {X : Cx} {T : List (Addr × Str)} {CX : CXT} {kb k : Nat} {g c P : Addr} {fd : FuncData} {ps : List Str} {E : XK} {x : Str} {params : Arguments} {body : Expr} {scope : Scope} {t : XK → TE} {p lpos pos : Pos} {es : List Expr} {ta : TA} {sp : Addr → Addr → (XK → Hp → VK → Prop) → Sp}
/-- x(lambda: body, ..), x a def that hands it on -/
theorem pe_lamW (FW : ∀ (H0 : Hp) (h0 : Heap) (f c' : Addr) (t' : XK → Hp → VK → Prop), Work X.prog X.w X.K X.mg X.base kb (frs X.stack) H0 h0 f c' (X.env.qual ++ "<lambda>") t' → FnW X.prog X.w X.K X.mg X.base (frs X.stack) H0 h0 CX k g fd ps (sp f c' t'))
    (hg : Gl X x) (hm : X.mg x = some (.ref g)) (hk : PySem.W.keepIn X.K (.ref g) = true) (hb : Binds X.K fd ps []) (hx : Passes CX X E) (hr : Room k X.A) (hgd : X.A.guards = some []) (TB : TabB X.base X.mg c P) (hcode : X.env.code = .ref c) (hmT : (P, X.env.qual ++ "<lambda>") ∈ T) (hu : ∀ p ∈ T, p.1 = P → p.2 = X.env.qual ++ "<lambda>")
    (L : LamS X.env.scope scope) (hdef : defaultsOf params X.env = ([], [])) (hbind : ∀ (q : Str) (cl : List (Str × Addr)) (pm cv ctv : Value), bindArgs (PySem.W.kla_fn "<lambda>" q params body scope cl pm cv ctv) ⟨[], []⟩ = pure [])
    (hbody : ∀ (A : Around) (outer : List Env) (s : Shared) (H : Hp) (E : XK) (f c' : Addr), Room kb (A.deeper (lamEnv X scope s.heap.objs.size f c')) → PE (lamCx X A outer s H E scope f c') body (t E)) (ha : PA X es ta)
    (hdb : (x == ("__debug__" : Str)) = false := by decide) (he : starEach (.Lambda params body scope lpos :: es) X.env = (false, eval (.Lambda params body scope lpos) X.env) :: starEach es X.env := by rfl) (hpl : (backTo pos (starEach es X.env)).any (·.1) = false := by rfl) :
    PE X (.Call (.Name x p) (.Lambda params body scope lpos :: es) [] pos) (fun σ H Q => Tabs T H ∧ ∀ H1, ExtN H H1 → Tabs T H1 → ∀ f c' : Addr, H1 c' = some (CodeO c' (X.env.qual ++ "<lambda>")) →
      ta σ H1 fun vs H2 => sp f c' (fun E H Q => t E σ H Q) (.ref f :: vs) H2 Q E) := by
  refine ⟨fun pins s σ H Q I h => ?_⟩
  obtain ⟨hT, h⟩ := h
  refine wpAny_Call_Name_kw (ld_glob I hg hm ?_ hdb)
  refine PySem.W.callWith_K (h₀ := X.base) I.ok.mod.kin hk ?_ he hpl
  rw [he]
  show wpAny _ _ (spliced ((false, eval (.Lambda params body scope lpos) X.env) :: backTo pos (starEach es X.env))) _ _ s
  refine Calls.spliced_cons (lam_make2 I TB hcode hmT hu hT hdef (L.has I.ok) fun f c' pm' ctv H1 s' I1 eN T1 hf hfn hfr hco => ?_)
  have fl : f ≠ X.env.locals := fun z => by
    obtain ⟨m, ⟨o, es', ep, e1, e2, _⟩, _⟩ := I1.loc
    rw [← z, hf] at e1
    cases e1
    cases e2
  have ff : f ∉ X.fs := fun z => hfr (by
    rcases I1.ok.stk with q | ⟨q, _⟩
    · rw [q]
      exact z
    · rw [q]
      obtain ⟨e, he', q'⟩ := List.mem_filterMap.mp z
      exact List.mem_filterMap.mpr ⟨e, List.mem_cons_of_mem _ he', q'⟩)
  have J1 : Inv X ((f, PySem.W.kla_obj "<lambda>" (X.env.qual ++ "<lambda>") params body scope (cloFrom X.env.cells scope.names []) pm' c' ctv) :: pins) σ H1 s' := I1.pins_of fun q hq => by
    rcases List.mem_cons.mp hq with z | z
    · rw [z]
      exact ⟨hf, hfn, fl, ff, fun v y => by cases y⟩
    · exact I1.pin q (List.mem_append_right _ z)
  refine thn (ha.run pos _ s' σ H1 _ J1 (h H1 eN T1 f c' hco)) fun us s2 ⟨vs, H2, J2, r, q⟩ => ⟨J2.kIn, ?_⟩
  have at2 := J2.pin (f, _) (List.mem_append_right _ List.mem_cons_self)
  have I2 : Inv X pins σ H2 s2 := J2.pins_of fun q hq => J2.pin q (List.mem_append_right _ (List.mem_cons_of_mem _ hq))
  have Wk := work_of (tb := t) I2 L at2.1 at2.2.1 hfr (hbind _ _ _ _ _) (fun A outer s1 HZ E hr2 => hbody A outer s1 HZ E f c' hr2)
  have F := FW H2 s2.heap f c' _ Wk
  have r2 : Vals (.ref f :: vs) (.ref f :: us) := .cons rfl r
  have hl : (Value.ref f :: us).length = ps.length := by rw [← r2.length]; exact F.len _ _ _ _ q
  have bt := hb s2 (.ref f :: us) I2.kIn (by simpa using hl)
  rw [List.append_nil] at bt
  refine wpAny_call (codeAny_mono (F.run X.A X.stack s2 H2 ⟨.ref f :: us, []⟩ (.ref f :: us) (.ref f :: vs) Q E hr hgd I2.env0 (Un.kept fun _ _ z => z) (fun b hb => .inl hb) bt r2 q) fun rr s3 hq => ?_)
  match rr, hq with
  | .error e, hq => exact hx pins σ H2 s2 e s3 I2 hq
  | .ok (.ret u), hq => exact I2.after hq
  | .ok .next, hq => exact False.elim hq
  | .ok .brk, hq => exact False.elim hq
  | .ok .cont, hq => exact False.elim hq
end
end KW
namespace KA
open PySem PySem.Spec PyProof.Rows L2 PySem.W LamX KW
/-- isinstance of an exception that is kept as a value, with fields of its own -/
def rIsD (K : PySem.W.Frag) : List V → Hp → VK → Prop := fun xs H Q => ∃ (a D d : Addr) (fs : List (Str × V)) (c : V) (cv : Value) (b : Bool), xs = [.ref a, c] ∧ H a = some (ExV (.ref D) (some d) a) ∧ H d = some (.xd fs) ∧ ExcC K D ∧ ClsV c cv ∧ PySem.W.kitOne K (.ref D) cv = some b ∧ Q (.bl b) H
def rIs3 (K : PySem.W.Frag) : List V → Hp → VK → Prop := fun xs H Q => rIs2 K xs H Q ∨ rIsD K xs H Q
section
variable {X : Cx}
theorem call_isD : CallR X (.builtin "isinstance") (rIsD X.K) := by
  intro pins s σ H xs us Q I r h
  obtain ⟨a, D, d, fs, c, cv, b, rfl, ha, hd, C, k, e, q⟩ := h
  obtain ⟨u1, u2, rfl, r1, r2⟩ := vals2 r
  cases k.eq r2
  obtain rfl : u1 = Value.ref a := r1
  obtain ⟨⟨oe, at1, z, vs, dat⟩, _⟩ := I.hok a _ ha
  obtain ⟨mA, ns, _⟩ := I.hok d _ hd
  obtain ⟨od, at2, _⟩ := lookIn_ns ns
  have J : PySem.W.InstAt s.heap a oe D (some od) := ⟨at1, z.1, by unfold PySem.W.notCls; rw [dat] <;> rfl, by rw [z.2]; exact at2⟩
  obtain ⟨cd, hc, _⟩ := any_some C.hd
  exact PySem.W.kia_one (kitx_exc (by rw [hc]; rfl) C.hg C.hk C.hs C.ha C.hn C.ht C.hm) I.kIn J e (fun z => nomatch z) fun tk => ⟨.bl b, H, I.tok tk, rfl, q⟩
theorem call_is3 : CallR X (.builtin "isinstance") (rIs3 X.K) := by
  intro pins s σ H xs us Q I r h
  rcases h with h | h
  · exact call_is2 pins s σ H xs us Q I r h
  · exact call_isD pins s σ H xs us Q I r h
end
/-- caught, of a work that was handed on: at f, its code object at c' -/
def spCaughtW (K : PySem.W.Frag) (CS : Addr) (f c' : Addr) (q : Str) (t : XK → Hp → VK → Prop) : Sp := fun vs H Q _ => vs = [.ref f] ∧ H c' = some (CodeO c' q) ∧ TCaught K CS t H Q
theorem caught_work {P : Program} {w : World} {K : PySem.W.Frag} {mg : Str → Option Value} {base : Heap} {fs : List Addr} {H0 : Hp} {h0 : Heap} {k : Nat} {f c' : Addr} {q : Str} {t : XK → Hp → VK → Prop} {g : Addr} {fd : FuncData} {x a e n m : Str} {st : Stmt} {CS : Addr} {j1 : Nat} {p1 p2 p3 p4 p5 p6 p7 p8 p9 pa pb pc pd pe : Pos}
    (Wk : Work P w K mg base k fs H0 h0 f c' q t) (F : Fun K x x st g fd) (S : FnScope [a, m, n] [a] (defScope st))
    (hb : defBody st = [.Assign [.Name m p1] (.Constant .none j1 p2) p3,
       .Try [.Expr (.Call (.Name a p4) [] [] p5) p6] [.ExceptHandler (some (.Name e p7)) (some n) [.Assign [.Name m p8] (.Name n p9) pa] pb] [] [] pc,
       .Return (some (.Name m pd)) pe])
    (la : (defScope st).names.lookup a = some .local) (lm : (defScope st).names.lookup m = some .local) (ln : (defScope st).names.lookup n = some .local) (he : (defScope st).names.lookup e = some .globalImplicit) (hme : mg e = some (.ref CS)) (hde : (e == ("__debug__" : Str)) = false)
    (d0 : (a == ("__debug__" : Str)) = false) (d00 : (a == ("__classdict__" : Str)) = false) (d1 : (n == ("__debug__" : Str)) = false) (d2 : (n == ("__classdict__" : Str)) = false) (d3 : (m == ("__debug__" : Str)) = false) (d4 : (m == ("__classdict__" : Str)) = false) :
    FnW P w K mg base fs H0 h0 (L2.CX P w) (k + 2) g fd [a] (spCaughtW K CS f c' q t) := by
  refine fnW_of F S (fun vs H Q E h => by rw [h.1]; rfl) (fun cdv A outer s H vs Q E hr _ Sn h => ?_)
  obtain ⟨rfl, hc, hT⟩ := h
  rw [hb]
  refine ⟨_, pss_cons (ps_set (i := 1) S.nd rfl (.inl lm) pe_non) (pss_cons (ps_try_keep (c := .ref CS) (i := 2) (j := 1)
      (tb := fun W D σ H => ∃ Eb : XK, (∀ cls d σ' H', Eb cls d H' → W cls d σ' H') ∧ σ[0]? = some (some (.ref f)) ∧ H c' = some (CodeO c' q) ∧ t Eb H (fun _ H' => D.nx σ H'))
      rfl rfl rfl S.nd rfl rfl ln lm ⟨he, hde, .inl hme⟩ d1 d2 (fun W pn xe tk _ => ?_))
    (pss_one (ps_ret (pe_var (i := 1) rfl (.inl lm) d3 d4)))), ?_⟩
  · refine ⟨fun pins s' σ H' D I h' => ?_⟩
    obtain ⟨Eb, wish, h1, h2, h3⟩ := h'
    exact (pss_one (ps_expr (pe_work (Z := (cxOf (L2.CX P w) P w K mg base [a, m, n] x (defScope st) g cdv A outer s H E).tr pn xe) (i := 0) Wk ⟨Sn.un, Sn.sub, Sn.ex⟩ (passes_call tk wish) hr rfl (.inl la) d0 d00))).run pins s' σ H' D I ⟨h1, h2, h3⟩
  · refine ⟨fun cls d H' => PySem.W.exmOne K cls (.ref CS) = some true ∧ ∀ b, H' b = none → Q (.ref b) (upd H' b (ExV cls d b)), fun cls d σ' H' ⟨e1, e2⟩ => ⟨e1, fun b hb hl => ?_⟩, rfl, hc, ?_⟩
    · match σ', hl with
      | [u, v, z], _ => exact ⟨_, rfl, e2 b hb⟩
    · exact hT _ fun v H' z => ⟨_, rfl, z⟩
end KA
namespace KI
open PySem PySem.Spec PyProof.Rows L2 L2.Hx
open PySem.NumText PySem.Calls
/-! ### int(t, 2), t of 0 and 1 -/
def Bit (c : Nat) : Prop := c = 48 ∨ c = 49
def binNum (l : List Nat) : Nat := l.foldl (fun a c => a * 2 + hv c) 0
theorem Bit.hex {c : Nat} (h : Bit c) : IsHex c := by
  rcases h with h | h <;> subst h <;> exact .inl ⟨by decide, by decide⟩
theorem Bit.small {c : Nat} (h : Bit c) : hv c < 2 := by
  rcases h with h | h <;> subst h <;> decide
theorem step_bit {ds : Array Nat} {b : Bool} {c : Nat} (h : Bit c) : PySem.NumText.step 2 (ds, b) c = some (ds.push (hv c), true) := by
  have n95 : ¬ (c == 95) = true := by
    rcases h with h | h <;> subst h <;> decide
  unfold PySem.NumText.step
  rw [if_neg n95, digit_hex h.hex]
  exact if_pos h.small
theorem steps_bits : ∀ (cs : List Nat) (ds : Array Nat), (∀ c ∈ cs, Bit c) → cs.foldlM (PySem.NumText.step 2) (ds, true) = some (cs.foldl (fun acc c => acc.push (hv c)) ds, true)
  | [], _, _ => rfl
  | c :: r, ds, h => by
    rw [List.foldlM_cons, step_bit (h c List.mem_cons_self)]
    exact steps_bits r (ds.push (hv c)) fun d hd => h d (List.mem_cons_of_mem _ hd)
theorem digits_bits {cs : List Nat} (h : ∀ c ∈ cs, Bit c) (ne : cs ≠ []) : digits? 2 cs = some (cs.foldl (fun acc c => acc.push (hv c)) #[]) := by
  match cs, ne with
  | c :: r, _ =>
    unfold digits?
    rw [List.foldlM_cons, step_bit (h c List.mem_cons_self)]
    show (r.foldlM (PySem.NumText.step 2) ((#[] : Array Nat).push (hv c), true)).bind _ = _
    rw [steps_bits r _ fun d hd => h d (List.mem_cons_of_mem _ hd)]
    rfl
theorem pushed : ∀ (cs : List Nat) (ds : Array Nat), (cs.foldl (fun acc c => acc.push (hv c)) ds).foldl (fun acc d => acc * 2 + d) 0 = cs.foldl (fun a c => a * 2 + hv c) (ds.foldl (fun acc d => acc * 2 + d) 0)
  | [], _ => rfl
  | c :: r, ds => by
    rw [List.foldl_cons, pushed r (ds.push (hv c)), List.foldl_cons]
    congr 1
    simp
theorem based_two {cs : List Nat} (h : ∀ c ∈ cs, Bit c) : based 2 cs = (2, false, cs) := by
  match cs, h with
  | [], _ => rfl
  | [a], h =>
    rcases h a List.mem_cons_self with e | e <;> subst e <;> rfl
  | a :: c :: r, h =>
    rcases h a List.mem_cons_self with e | e <;> subst e
    · rcases h c (List.mem_cons_of_mem _ List.mem_cons_self) with e | e <;> subst e <;> rfl
    · rfl
theorem read_bits {cs : List Nat} (h : ∀ c ∈ cs, Bit c) (ne : cs ≠ []) : (int_private% "readNumeral") 0 2 cs = (int_private% "Numeral.value") ((binNum cs : Nat) : Int) := by
  have hx : ∀ c ∈ cs, IsHex c := fun c hc => (h c hc).hex
  have hr : ∀ c ∈ cs.reverse, IsHex c := fun c hc => hx c (List.mem_reverse.mp hc)
  refine (readNumeral_eq 0 2 cs).trans ?_
  rw [dropB hx, signH hx]
  show judge 0 false (based 2 cs).1 (based 2 cs).2.1 (digits? (based 2 cs).1 (((based 2 cs).2.2.reverse.dropWhile blank).reverse)) = _
  rw [based_two h]
  show judge 0 false 2 false (digits? 2 ((cs.reverse.dropWhile blank).reverse)) = _
  rw [dropB hr, List.reverse_reverse, digits_bits h ne]
  show (int_private% "Numeral.value") (((cs.foldl (fun acc c => acc.push (hv c)) (#[] : Array Nat)).foldl (fun acc d => acc * 2 + d) 0 : Nat) : Int) = _
  have z : (#[] : Array Nat).foldl (fun acc d => acc * 2 + d) 0 = 0 := by simp
  rw [pushed, z] <;> rfl
theorem gives_bits {x : PySem.Str} {u t : Tok} (hl : x.length ≤ 640) (h : ∀ c ∈ x.cps.toList, Bit c) (ne : x.cps.toList ≠ []) :
    Gives (Builtin.«int.__new__» ⟨[.type "int", .str x u, .int 2 t], []⟩) (.int ((binNum x.cps.toList : Nat) : Int)) :=
  .of_wp fun M A E s Q hQ => by
    obtain ⟨hp, g, d, tk, os⟩ := s
    have m1 := F.conv_sub_int
    have m2 := F.madeHere_int
    have m3 : typeOf (.str x u) = pure (.type "str") := rfl
    obtain ⟨e1, e2⟩ := seen_hex (fun c hc => (h c hc).hex)
    have seen : Hid ((numSeenOf x).length ≤ 640 ∧ (int_private% "readNumeral") 0 2 (numSeenOf x) = (int_private% "Numeral.value") ((binNum x.cps.toList : Nat) : Int) ∧ ((numSeenOf x).length == (numTextOf x).length) = true) :=
      ⟨by rw [e2, Array.length_toList]; exact hl, by rw [e2]; exact read_bits h ne, by rw [e1, e2]; exact beq_self_eq_true _⟩
    clear e1 e2 hl ne h
    repeat (any_goals (first
      | assumption
      | ((with_reducible show wpAny _ _ ((int_private% "intFromText") _ _ _) _ _ _); refine wp_textB seen.out.1 seen.out.2.1 seen.out.2.2 ?_)
      | wp_step))
    all_goals first | exact ⟨_, rfl, hQ⟩ | skip
/-- int(t, 2) -/
def rIntBits : List V → Hp → VK → Prop := fun xs H Q => ∃ x : Str, xs = [.str x, .int 2] ∧ x.cps.toList ≠ [] ∧ x.length ≤ 640 ∧ (∀ c ∈ x.cps.toList, Bit c) ∧ Q (.int ((binNum x.cps.toList : Nat) : Int)) H
theorem call_int_bits {X : Cx} : CallR X (.type "int") rIntBits := by
  intro pins s σ H xs us Q I r h
  obtain ⟨x, rfl, ne, hl, hb, q⟩ := h
  obtain ⟨u, w', rfl, r1, r2⟩ := vals2 r
  obtain ⟨t1, rfl⟩ := r1
  obtain ⟨t2, rfl⟩ := r2
  exact callType_new F.called_int F.newNe_int (typeCall_int_2 _ _) (newCall_int_2 _ _) (fun obj => F.initArgs_range_2 obj _ _) F.entry_int_new (gives_bits hl hb ne).meets (show (Made.int ((binNum x.cps.toList : Nat) : Int)).post _ s from ⟨rfl, .int _, H, I.tok _, ⟨_, rfl⟩, q⟩)
end KI
namespace K02
open PySem PySem.Spec PyProof.Rows L2 PySem.W LamX KA
def top (i : Nat) : Stmt := PySem.Challenge.pw_pricedreels_k02_words_read_from_any_bits.main.body.getD i (.Pass ⟨0, 0, 0, 0⟩)
abbrev s_is_number : Stmt := top 1
theorem sc_is_number : FnScope ["thing"] ["thing"] (defScope s_is_number) := ⟨rfl, rfl, rfl, by decide +kernel, rfl, by decide +kernel, by decide +kernel⟩
abbrev s_is_within : Stmt := top 2
theorem sc_is_within : FnScope ["thing", "low", "high"] ["thing", "low", "high"] (defScope s_is_within) := ⟨rfl, rfl, rfl, by decide +kernel, rfl, by decide +kernel, by decide +kernel⟩
abbrev s_is_bits : Stmt := top 15
theorem sc_is_bits : FnScope ["thing"] ["thing"] (defScope s_is_bits) := ⟨rfl, rfl, rfl, by decide +kernel, rfl, by decide +kernel, by decide +kernel⟩
abbrev s_read_fixed : Stmt := top 16
theorem sc_read_fixed : FnScope ["bits", "at", "many"] ["bits", "at", "many"] (defScope s_read_fixed) := ⟨rfl, rfl, rfl, by decide +kernel, rfl, by decide +kernel, by decide +kernel⟩
abbrev s_read_long : Stmt := top 17
theorem sc_read_long : FnScope ["bits", "at"] ["bits", "at"] (defScope s_read_long) := ⟨rfl, rfl, rfl, by decide +kernel, rfl, by decide +kernel, by decide +kernel⟩
abbrev s_read_grade : Stmt := top 18
theorem sc_read_grade : FnScope ["bits", "at", "grade"] ["bits", "at", "grade"] (defScope s_read_grade) := ⟨rfl, rfl, rfl, by decide +kernel, rfl, by decide +kernel, by decide +kernel⟩
abbrev s_check_many : Stmt := top 19
theorem sc_check_many : FnScope ["many"] ["many"] (defScope s_check_many) := ⟨rfl, rfl, rfl, by decide +kernel, rfl, by decide +kernel, by decide +kernel⟩
abbrev s_check_grade : Stmt := top 20
theorem sc_check_grade : FnScope ["grade"] ["grade"] (defScope s_check_grade) := ⟨rfl, rfl, rfl, by decide +kernel, rfl, by decide +kernel, by decide +kernel⟩
abbrev s_check_stream : Stmt := top 21
theorem sc_check_stream : FnScope ["bits", "at"] ["bits", "at"] (defScope s_check_stream) := ⟨rfl, rfl, rfl, by decide +kernel, rfl, by decide +kernel, by decide +kernel⟩
abbrev s_unfold : Stmt := top 22
theorem sc_unfold : FnScope ["number"] ["number"] (defScope s_unfold) := ⟨rfl, rfl, rfl, by decide +kernel, rfl, by decide +kernel, by decide +kernel⟩
abbrev s_take_fixed : Stmt := top 23
theorem sc_take_fixed : FnScope ["bits", "at", "many", "end"] ["bits", "at", "many"] (defScope s_take_fixed) := ⟨rfl, rfl, rfl, by decide +kernel, rfl, by decide +kernel, by decide +kernel⟩
abbrev s_take_long : Stmt := top 24
theorem sc_take_long : FnScope ["bits", "at", "zero", "rest", "end"] ["bits", "at"] (defScope s_take_long) := ⟨rfl, rfl, rfl, by decide +kernel, rfl, by decide +kernel, by decide +kernel⟩
abbrev s_take_grade : Stmt := top 25
theorem sc_take_grade : FnScope ["bits", "at", "grade", "zero", "width", "start", "number", "end"] ["bits", "at", "grade"] (defScope s_take_grade) := ⟨rfl, rfl, rfl, by decide +kernel, rfl, by decide +kernel, by decide +kernel⟩
abbrev s__law_begun : Stmt := top 27
theorem sc__law_begun : FnScope ["script", "cells_here", "large", "cell"] ["script"] (defScope s__law_begun) := ⟨rfl, rfl, rfl, by decide +kernel, rfl, by decide +kernel, by decide +kernel⟩
abbrev s__law_draw : Stmt := top 28
theorem sc__law_draw : FnScope ["state", "size_here", "found", "turn", "cell", "mixed"] ["state", "size_here"] (defScope s__law_draw) := ⟨rfl, rfl, rfl, by decide +kernel, rfl, by decide +kernel, by decide +kernel⟩
abbrev s__law_pick : Stmt := top 29
theorem sc__law_pick : FnScope ["state", "several"] ["state", "several"] (defScope s__law_pick) := ⟨rfl, rfl, rfl, by decide +kernel, rfl, by decide +kernel, by decide +kernel⟩
abbrev s__law_mixed : Stmt := top 30
theorem sc__law_mixed : FnScope ["state", "several", "left", "found"] ["state", "several"] (defScope s__law_mixed) := ⟨rfl, rfl, rfl, by decide +kernel, rfl, by decide +kernel, by decide +kernel⟩
abbrev s__law_caught : Stmt := top 31
theorem sc__law_caught : FnScope ["work", "caught", "error"] ["work"] (defScope s__law_caught) := ⟨rfl, rfl, rfl, by decide +kernel, rfl, by decide +kernel, by decide +kernel⟩
abbrev s__law_two : Stmt := top 32
theorem sc__law_two : FnScope ["size_here", "found", "turn"] ["size_here"] (defScope s__law_two) := ⟨rfl, rfl, rfl, by decide +kernel, rfl, by decide +kernel, by decide +kernel⟩
abbrev s__law_fold : Stmt := top 33
theorem sc__law_fold : FnScope ["item"] ["item"] (defScope s__law_fold) := ⟨rfl, rfl, rfl, by decide +kernel, rfl, by decide +kernel, by decide +kernel⟩
abbrev s__law_twos : Stmt := top 34
theorem sc__law_twos : FnScope ["item", "size_here", "found", "turn"] ["item", "size_here"] (defScope s__law_twos) := ⟨rfl, rfl, rfl, by decide +kernel, rfl, by decide +kernel, by decide +kernel⟩
abbrev s__law_long : Stmt := top 35
theorem sc__law_long : FnScope ["item", "told", "tail"] ["item"] (defScope s__law_long) := ⟨rfl, rfl, rfl, by decide +kernel, rfl, by decide +kernel, by decide +kernel⟩
abbrev s__law_graded : Stmt := top 36
theorem sc__law_graded : FnScope ["item", "rung", "told", "ones"] ["item", "rung"] (defScope s__law_graded) := ⟨rfl, rfl, rfl, by decide +kernel, rfl, by decide +kernel, by decide +kernel⟩
abbrev s__law_unfold : Stmt := top 37
theorem sc__law_unfold : FnScope ["told"] ["told"] (defScope s__law_unfold) := ⟨rfl, rfl, rfl, by decide +kernel, rfl, by decide +kernel, by decide +kernel⟩
abbrev s__law_value : Stmt := top 38
theorem sc__law_value : FnScope ["signs", "found", "sign"] ["signs"] (defScope s__law_value) := ⟨rfl, rfl, rfl, by decide +kernel, rfl, by decide +kernel, by decide +kernel⟩
abbrev s__law_ones : Stmt := top 39
theorem sc__law_ones : FnScope ["signs", "spot", "found"] ["signs", "spot"] (defScope s__law_ones) := ⟨rfl, rfl, rfl, by decide +kernel, rfl, by decide +kernel, by decide +kernel⟩
abbrev s__law_long_due : Stmt := top 40
theorem sc__law_long_due : FnScope ["signs", "spot", "ones", "behind"] ["signs", "spot"] (defScope s__law_long_due) := ⟨rfl, rfl, rfl, by decide +kernel, rfl, by decide +kernel, by decide +kernel⟩
abbrev s__law_grade_due : Stmt := top 41
theorem sc__law_grade_due : FnScope ["signs", "spot", "rung", "ones", "behind", "told"] ["signs", "spot", "rung"] (defScope s__law_grade_due) := ⟨rfl, rfl, rfl, by decide +kernel, rfl, by decide +kernel, by decide +kernel⟩
abbrev s__law_is_due : Stmt := top 42
theorem sc__law_is_due : FnScope ["work", "due", "spot", "caught"] ["work", "due", "spot"] (defScope s__law_is_due) := ⟨rfl, rfl, rfl, by decide +kernel, rfl, by decide +kernel, by decide +kernel⟩
abbrev s__law_string : Stmt := top 43
theorem sc__law_string : FnScope ["state", "rung", "item", "some", "found", "spot"] ["state", "rung"] (defScope s__law_string) := ⟨rfl, rfl, rfl, by decide +kernel, rfl, by decide +kernel, by decide +kernel⟩
abbrev s_law : Stmt := top 44
theorem sc_law : FnScope ["script", "turn", "due", "behind", "errors", "odd", "rung", "signs", "size_here", "spot", "state", "wrong", "error"] ["script"] (defScope s_law) := ⟨rfl, rfl, rfl, by decide +kernel, rfl, by decide +kernel, by decide +kernel⟩
/-- what the top has written -/
structure Top (K : PySem.W.Frag) (mg : Str → Option Value) where
  reel : ReelT K mg
  BadAt : ExcT K mg "BadAt" reel.C
  BadBits : ExcT K mg "BadBits" reel.C
  BadGrade : ExcT K mg "BadGrade" reel.C
  BadMany : ExcT K mg "BadMany" reel.C
  is_number : DefT K mg "is_number" s_is_number
  is_within : DefT K mg "is_within" s_is_within
  is_bits : DefT K mg "is_bits" s_is_bits
  read_fixed : DefT K mg "read_fixed" s_read_fixed
  read_long : DefT K mg "read_long" s_read_long
  read_grade : DefT K mg "read_grade" s_read_grade
  check_many : DefT K mg "check_many" s_check_many
  check_grade : DefT K mg "check_grade" s_check_grade
  check_stream : DefT K mg "check_stream" s_check_stream
  unfold : DefT K mg "unfold" s_unfold
  take_fixed : DefT K mg "take_fixed" s_take_fixed
  take_long : DefT K mg "take_long" s_take_long
  take_grade : DefT K mg "take_grade" s_take_grade
  _law_begun : DefT K mg "_law_begun" s__law_begun
  _law_draw : DefT K mg "_law_draw" s__law_draw
  _law_pick : DefT K mg "_law_pick" s__law_pick
  _law_mixed : DefT K mg "_law_mixed" s__law_mixed
  _law_caught : DefT K mg "_law_caught" s__law_caught
  _law_two : DefT K mg "_law_two" s__law_two
  _law_fold : DefT K mg "_law_fold" s__law_fold
  _law_twos : DefT K mg "_law_twos" s__law_twos
  _law_long : DefT K mg "_law_long" s__law_long
  _law_graded : DefT K mg "_law_graded" s__law_graded
  _law_unfold : DefT K mg "_law_unfold" s__law_unfold
  _law_value : DefT K mg "_law_value" s__law_value
  _law_ones : DefT K mg "_law_ones" s__law_ones
  _law_long_due : DefT K mg "_law_long_due" s__law_long_due
  _law_grade_due : DefT K mg "_law_grade_due" s__law_grade_due
  _law_is_due : DefT K mg "_law_is_due" s__law_is_due
  _law_string : DefT K mg "_law_string" s__law_string
  law : DefT K mg "law" s_law
  cMOST_FOLDED : CstT mg "MOST_FOLDED" 65534
  cONES_OF_LONG : CstT mg "ONES_OF_LONG" 15
  cONES_OF_GRADE : CstT mg "ONES_OF_GRADE" 12
  cBITS_BEHIND_ONES : CstT mg "BITS_BEHIND_ONES" 16
  b_isinstance : mg "isinstance" = none
  b_int : mg "int" = none
  b_bool : mg "bool" = none
  b_str : mg "str" = none
  b_len : mg "len" = none
  b_abs : mg "abs" = none
  b_range : mg "range" = none
  b_min : mg "min" = none
  b_repr : mg "repr" = none
  b_list : mg "list" = none
  b_ValueError : mg "ValueError" = none
section
variable {K : PySem.W.Frag} {mg : Str → Option Value}
theorem bd_is_number (T : Top K mg) : Binds K T.is_number.d ["thing"] [] := T.is_number.f.binds fun _ _ _ _ _ _ us hl => match us, hl with | [_], _ => rfl
theorem bd_is_within (T : Top K mg) : Binds K T.is_within.d ["thing", "low", "high"] [] := T.is_within.f.binds fun _ _ _ _ _ _ us hl => match us, hl with | [_, _, _], _ => rfl
theorem bd_is_bits (T : Top K mg) : Binds K T.is_bits.d ["thing"] [] := T.is_bits.f.binds fun _ _ _ _ _ _ us hl => match us, hl with | [_], _ => rfl
theorem bd_read_fixed (T : Top K mg) : Binds K T.read_fixed.d ["bits", "at", "many"] [] := T.read_fixed.f.binds fun _ _ _ _ _ _ us hl => match us, hl with | [_, _, _], _ => rfl
theorem bd_read_long (T : Top K mg) : Binds K T.read_long.d ["bits", "at"] [] := T.read_long.f.binds fun _ _ _ _ _ _ us hl => match us, hl with | [_, _], _ => rfl
theorem bd_read_grade (T : Top K mg) : Binds K T.read_grade.d ["bits", "at", "grade"] [] := T.read_grade.f.binds fun _ _ _ _ _ _ us hl => match us, hl with | [_, _, _], _ => rfl
theorem bd_check_many (T : Top K mg) : Binds K T.check_many.d ["many"] [] := T.check_many.f.binds fun _ _ _ _ _ _ us hl => match us, hl with | [_], _ => rfl
theorem bd_check_grade (T : Top K mg) : Binds K T.check_grade.d ["grade"] [] := T.check_grade.f.binds fun _ _ _ _ _ _ us hl => match us, hl with | [_], _ => rfl
theorem bd_check_stream (T : Top K mg) : Binds K T.check_stream.d ["bits", "at"] [] := T.check_stream.f.binds fun _ _ _ _ _ _ us hl => match us, hl with | [_, _], _ => rfl
theorem bd_unfold (T : Top K mg) : Binds K T.unfold.d ["number"] [] := T.unfold.f.binds fun _ _ _ _ _ _ us hl => match us, hl with | [_], _ => rfl
theorem bd_take_fixed (T : Top K mg) : Binds K T.take_fixed.d ["bits", "at", "many"] [] := T.take_fixed.f.binds fun _ _ _ _ _ _ us hl => match us, hl with | [_, _, _], _ => rfl
theorem bd_take_long (T : Top K mg) : Binds K T.take_long.d ["bits", "at"] [] := T.take_long.f.binds fun _ _ _ _ _ _ us hl => match us, hl with | [_, _], _ => rfl
theorem bd_take_grade (T : Top K mg) : Binds K T.take_grade.d ["bits", "at", "grade"] [] := T.take_grade.f.binds fun _ _ _ _ _ _ us hl => match us, hl with | [_, _, _], _ => rfl
theorem bd__law_begun (T : Top K mg) : Binds K T._law_begun.d ["script"] [] := T._law_begun.f.binds fun _ _ _ _ _ _ us hl => match us, hl with | [_], _ => rfl
theorem bd__law_draw (T : Top K mg) : Binds K T._law_draw.d ["state", "size_here"] [] := T._law_draw.f.binds fun _ _ _ _ _ _ us hl => match us, hl with | [_, _], _ => rfl
theorem bd__law_pick (T : Top K mg) : Binds K T._law_pick.d ["state", "several"] [] := T._law_pick.f.binds fun _ _ _ _ _ _ us hl => match us, hl with | [_, _], _ => rfl
theorem bd__law_mixed (T : Top K mg) : Binds K T._law_mixed.d ["state", "several"] [] := T._law_mixed.f.binds fun _ _ _ _ _ _ us hl => match us, hl with | [_, _], _ => rfl
theorem bd__law_caught (T : Top K mg) : Binds K T._law_caught.d ["work"] [] := T._law_caught.f.binds fun _ _ _ _ _ _ us hl => match us, hl with | [_], _ => rfl
theorem bd__law_two (T : Top K mg) : Binds K T._law_two.d ["size_here"] [] := T._law_two.f.binds fun _ _ _ _ _ _ us hl => match us, hl with | [_], _ => rfl
theorem bd__law_fold (T : Top K mg) : Binds K T._law_fold.d ["item"] [] := T._law_fold.f.binds fun _ _ _ _ _ _ us hl => match us, hl with | [_], _ => rfl
theorem bd__law_twos (T : Top K mg) : Binds K T._law_twos.d ["item", "size_here"] [] := T._law_twos.f.binds fun _ _ _ _ _ _ us hl => match us, hl with | [_, _], _ => rfl
theorem bd__law_long (T : Top K mg) : Binds K T._law_long.d ["item"] [] := T._law_long.f.binds fun _ _ _ _ _ _ us hl => match us, hl with | [_], _ => rfl
theorem bd__law_graded (T : Top K mg) : Binds K T._law_graded.d ["item", "rung"] [] := T._law_graded.f.binds fun _ _ _ _ _ _ us hl => match us, hl with | [_, _], _ => rfl
theorem bd__law_unfold (T : Top K mg) : Binds K T._law_unfold.d ["told"] [] := T._law_unfold.f.binds fun _ _ _ _ _ _ us hl => match us, hl with | [_], _ => rfl
theorem bd__law_value (T : Top K mg) : Binds K T._law_value.d ["signs"] [] := T._law_value.f.binds fun _ _ _ _ _ _ us hl => match us, hl with | [_], _ => rfl
theorem bd__law_ones (T : Top K mg) : Binds K T._law_ones.d ["signs", "spot"] [] := T._law_ones.f.binds fun _ _ _ _ _ _ us hl => match us, hl with | [_, _], _ => rfl
theorem bd__law_long_due (T : Top K mg) : Binds K T._law_long_due.d ["signs", "spot"] [] := T._law_long_due.f.binds fun _ _ _ _ _ _ us hl => match us, hl with | [_, _], _ => rfl
theorem bd__law_grade_due (T : Top K mg) : Binds K T._law_grade_due.d ["signs", "spot", "rung"] [] := T._law_grade_due.f.binds fun _ _ _ _ _ _ us hl => match us, hl with | [_, _, _], _ => rfl
theorem bd__law_is_due (T : Top K mg) : Binds K T._law_is_due.d ["work", "due", "spot"] [] := T._law_is_due.f.binds fun _ _ _ _ _ _ us hl => match us, hl with | [_, _, _], _ => rfl
theorem bd__law_string (T : Top K mg) : Binds K T._law_string.d ["state", "rung"] [] := T._law_string.f.binds fun _ _ _ _ _ _ us hl => match us, hl with | [_, _], _ => rfl
theorem bd_law (T : Top K mg) : Binds K T.law.d ["script"] [] := T.law.f.binds fun _ _ _ _ _ _ us hl => match us, hl with | [_], _ => rfl
end
end K02
namespace K02
open PySem PySem.Spec PyProof.Rows L2 PySem.W LamX KA
/-! ### the promises -/
/-- a value whose type isinstance can tell; whether it is a number -/
inductive Pl (K : PySem.W.Frag) (H : Hp) : V → Bool → Prop where
  | int (i : Int) : Pl K H (.int i) true
  | bl (b : Bool) : Pl K H (.bl b) false
  | str (s : Str) : Pl K H (.str s) false
  | non : Pl K H .non false
  | tup {a : Addr} {xs : List V} (e : H a = some (.tup xs)) : Pl K H (.ref a) false
  | lst {a : Addr} {xs : List V} (e : H a = some (.lst xs)) : Pl K H (.ref a) false
  | dK {a : Addr} {kvs : List (Key × V)} (e : H a = some (.dK kvs)) : Pl K H (.ref a) false
theorem Pl.ty {K : PySem.W.Frag} {H : Hp} {x : V} {b : Bool} (h : Pl K H x b) : ∃ t : String, TyX K H x (.type t) ∧ kitB t "int" = some (b || (t == "bool")) ∧ kitB t "bool" = some (t == "bool") ∧ ((b || (t == "bool")) && !(t == "bool")) = b := by
  cases h with
  | int i => exact ⟨"int", .base (.int i), by decide +kernel, by decide +kernel, by decide⟩
  | bl i => exact ⟨"bool", .base (.bl i), by decide +kernel, by decide +kernel, by decide⟩
  | str i => exact ⟨"str", .base (.str i), by decide +kernel, by decide +kernel, by decide⟩
  | non => exact ⟨"NoneType", .base .non, by decide +kernel, by decide +kernel, by decide⟩
  | tup e => exact ⟨"tuple", .base (.tup e), by decide +kernel, by decide +kernel, by decide⟩
  | lst e => exact ⟨"list", .base (.lst e), by decide +kernel, by decide +kernel, by decide⟩
  | dK e => exact ⟨"dict", .base (.dK e), by decide +kernel, by decide +kernel, by decide⟩
def within (x : V) (lo hi : Int) : Bool := match x with
  | .int i => decide (lo ≤ i) && decide (i ≤ hi)
  | _ => false
def spNumber (K : PySem.W.Frag) : Sp := fun vs H Q _ => ∃ x b, vs = [x] ∧ Pl K H x b ∧ Q (.bl b) H
def spWithin (K : PySem.W.Frag) : Sp := fun vs H Q _ => ∃ x b lo hi, vs = [x, .int lo, .int hi] ∧ Pl K H x b ∧ Q (.bl (within x lo hi)) H
section
variable {P : Program} {w : World} {K : PySem.W.Frag} {mg : Str → Option Value} {base : Heap} (T : Top K mg)
abbrev pInt {X : Cx} {pos : Pos} (hg : Gl X "int") (hm : X.mg "int" = none) : PE X (.Name "int" pos) (tC (.ty "int")) := pe_bltn hg hm PyProof.Rows.boot_int rfl
theorem q_bl {Q : VK} {H : Hp} {a b : Bool} (k : Q (.bl b) H) (e : a = b) : Q (.bl a) H := e ▸ k
theorem q_int {Q : VK} {H : Hp} {a b : Int} (k : Q (.int b) H) (e : a = b) : Q (.int a) H := e ▸ k
theorem q_str {Q : VK} {H : Hp} {a b : Str} (k : Q (.str b) H) (e : a = b) : Q (.str a) H := e ▸ k
theorem ok_is_number : FnOk P w K mg base (L2.CX P w) 1 T.is_number.a T.is_number.d ["thing"] (spNumber K) := by
  refine T.is_number.f.okX sc_is_number (fun vs H Q E h => ?_) (fun cdv A outer s H vs Q E hr h => ?_)
  · obtain ⟨x, b, rfl, _⟩ := h
    rfl
  · obtain ⟨x, b, rfl, hp, k⟩ := h
    refine ⟨_, pss_one (ps_ret (pe_and
      (pe_callB call_isi (by rfl) T.b_isinstance PyProof.Rows.boot_isinstance (pa_cons (pv 0) (pa_cons (pe_bltn (v := .ty "int") (by rfl) T.b_int PyProof.Rows.boot_int rfl) pa_nil)))
      (pe_one (pe_not (pe_callB call_isi (by rfl) T.b_isinstance PyProof.Rows.boot_isinstance (pa_cons (pv 0) (pa_cons (pe_bltn (v := .ty "bool") (by rfl) T.b_bool (by decide +kernel) rfl) pa_nil))))))), ?_⟩
    obtain ⟨t, ht, h1, h2, h3⟩ := hp.ty
    refine ⟨_, rfl, x, _, _, _, _, rfl, .ty "int", ht, kit_ty h1, _, rfl, ?_⟩
    cases e : (b || (t == "bool"))
    · rw [e] at h3
      refine iteF ?_
      exact q_bl k h3
    · rw [e] at h3
      refine iteT ?_
      refine ⟨_, rfl, x, _, _, _, _, rfl, .ty "bool", ht, kit_ty h2, _, rfl, ?_⟩
      exact q_bl k (by simpa using h3)
theorem ok_is_within : FnOk P w K mg base (L2.CX P w) 2 T.is_within.a T.is_within.d ["thing", "low", "high"] (spWithin K) := by
  refine T.is_within.f.okX sc_is_within (fun vs H Q E h => ?_) (fun cdv A outer s H vs Q E hr h => ?_)
  · obtain ⟨x, b, lo, hi, rfl, _⟩ := h
    rfl
  · obtain ⟨x, b, lo, hi, rfl, hp, k⟩ := h
    refine ⟨_, pss_one (ps_ret (pe_and (pe_call (ok_is_number T) hr (by rfl) T.is_number.m T.is_number.f.kp (bd_is_number T) .nil passE (pa_cons (pv 0) pa_nil))
      (pe_one (pe_chain op_le op_le (pv 1) (pv 0) (pv 2))))), ?_⟩
    refine ⟨_, rfl, x, b, rfl, hp, b, rfl, ?_⟩
    cases hp with
    | int i =>
      refine iteT ⟨_, rfl, _, rfl, lo, i, rfl, rfl, _, rfl, ?_⟩
      by_cases h1 : lo ≤ i
      · rw [decide_eq_true h1]
        refine iteT ⟨_, rfl, i, hi, rfl, rfl, ?_⟩
        exact q_bl k (by simp [within, h1])
      · rw [decide_eq_false h1]
        refine iteF ?_
        exact q_bl k (by simp [within, h1])
    | _ => exact iteF k
def foldI (i : Int) : Int := if i > 0 then 2 * i - 1 else -2 * i
def spFold : Sp := fun vs H Q _ => ∃ i : Int, vs = [.int i] ∧ Q (.int (foldI i)) H
def unfoldI (n : Int) : Int := if Builtin.bitAnd n 1 != 0 then (n + 1) / 2 else -(n / 2)
def spUnfold : Sp := fun vs H Q _ => ∃ i : Int, vs = [.int i] ∧ Q (.int (unfoldI i)) H
theorem ok_unfold : FnOk P w K mg base (L2.CX P w) 1 T.unfold.a T.unfold.d ["number"] spUnfold := by
  refine T.unfold.f.okX sc_unfold (fun vs H Q E h => ?_) (fun cdv A outer s H vs Q E hr h => ?_)
  · obtain ⟨i, rfl, _⟩ := h
    rfl
  · obtain ⟨i, rfl, k⟩ := h
    refine ⟨_, pss_one (ps_ret (pe_ifExp (pt_truth (pe_op op_and (pv 0) pe_int) (by intro _; rfl)) (pe_op op_fdiv (pe_op op_add (pv 0) pe_int) pe_int) (pe_un un_neg (pe_op op_fdiv (pv 0) pe_int)))), ?_⟩
    refine ⟨_, rfl, _, _, rfl, rfl, _, rfl, ?_⟩
    cases h : (Builtin.bitAnd i 1 != 0)
    · refine iteF ⟨_, rfl, _, _, rfl, rfl, ⟨by decide, by decide⟩, _, rfl, ?_⟩
      exact q_int k (by simp only [unfoldI, h]; rfl)
    · refine iteT ⟨_, rfl, _, _, rfl, rfl, _, _, rfl, rfl, ⟨by decide, by decide⟩, ?_⟩
      exact q_int k (by simp only [unfoldI, h]; rfl)
/-- n in m bits, as the program writes it -/
theorem padOk {m : Int} (h0 : 0 ≤ m) (h1 : m ≤ 100) : PadOk m = true := by
  unfold PadOk fitsSsize Builtin.Str.tooLong
  have e : sizeLine = 16777216 := rfl
  rw [e]
  simp
  omega
def inBits (n m : Int) : Str := if m = 0 then "" else Txt.zfill (binText n.natAbs) m
def spInBits : Sp := fun vs H Q _ => ∃ n m : Int, vs = [.int n, .int m] ∧ 0 ≤ n ∧ (binText n.natAbs).length ≤ 100 ∧ 0 ≤ m ∧ m ≤ 100 ∧ Q (.str (inBits n m)) H
def spIsTold (K : PySem.W.Frag) : Sp := fun vs H Q _ => ∃ x b, vs = [x] ∧ Pl K H x b ∧ Q (.bl (within x (-32767) 32767)) H
/-- a check: nothing, or an error of the class at C -/
def spCheck (K : PySem.W.Frag) (lo hi : Int) (C : Addr) : Sp := fun vs H Q E => ∃ x b, vs = [x] ∧ Pl K H x b ∧ (within x lo hi = true → Q .non H) ∧ (within x lo hi = false → E (.ref C) none H)
theorem iteNot {A B : Prop} {b : Bool} (h1 : b = false → A) (h2 : b = true → B) : if (!b) = true then A else B := by
  cases b
  · exact h1 rfl
  · exact h2 rfl
theorem passX {X : Cx} {E : XK} (hs : X.stack = X.env :: X.outer) (hf : X.env.frame = some X.env.locals) (hex : X.ex = []) (hx : X.xe = fun e s' => wpAny (model X.prog X.w) X.A (leaving X.env e) (fun _ s'' => L2.CX X.prog X.w X.outer X.H_0 X.s_0 E e s'') (fun e' s'' => L2.CX X.prog X.w X.outer X.H_0 X.s_0 E e' s'') s') :
    Passes (L2.CX X.prog X.w) X E := passes_call (takes_of hs hf hex hx) fun _ _ _ _ h => h
theorem ok_check_many : FnOk P w K mg base (L2.CX P w) 4 T.check_many.a T.check_many.d ["many"] (spCheck K 1 16 T.BadMany.C) := by
  refine T.check_many.f.okX sc_check_many (fun vs H Q E h => ?_) (fun cdv A outer s H vs Q E hr h => ?_)
  · obtain ⟨x, b, rfl, _⟩ := h
    rfl
  · obtain ⟨x, b, rfl, hp, k1, k2⟩ := h
    refine ⟨_, pss_one (ps_if (pt_not (pt_val (pe_call (ok_is_within T) (hr.mono (by decide)) (by rfl) T.is_within.m T.is_within.f.kp (bd_is_within T) .nil passE (pa_cons (pv 0) (pa_cons pe_int (pa_cons pe_int pa_nil))))))
      (pss_one (ps_raiseT rfl rfl T.BadMany (by rfl) rfl (takes_of rfl rfl rfl rfl))) pss_nil), ?_⟩
    exact ⟨_, rfl, x, b, _, _, rfl, hp, _, rfl, iteNot k2 k1⟩
theorem ok_check_grade : FnOk P w K mg base (L2.CX P w) 4 T.check_grade.a T.check_grade.d ["grade"] (spCheck K 0 7 T.BadGrade.C) := by
  refine T.check_grade.f.okX sc_check_grade (fun vs H Q E h => ?_) (fun cdv A outer s H vs Q E hr h => ?_)
  · obtain ⟨x, b, rfl, _⟩ := h
    rfl
  · obtain ⟨x, b, rfl, hp, k1, k2⟩ := h
    refine ⟨_, pss_one (ps_if (pt_not (pt_val (pe_call (ok_is_within T) (hr.mono (by decide)) (by rfl) T.is_within.m T.is_within.f.kp (bd_is_within T) .nil passE (pa_cons (pv 0) (pa_cons pe_int (pa_cons pe_int pa_nil))))))
      (pss_one (ps_raiseT rfl rfl T.BadGrade (by rfl) rfl (takes_of rfl rfl rfl rfl))) pss_nil), ?_⟩
    exact ⟨_, rfl, x, b, _, _, rfl, hp, _, rfl, iteNot k2 k1⟩
theorem within_int {x : V} {lo hi : Int} (h : within x lo hi = true) : ∃ i, x = .int i ∧ lo ≤ i ∧ i ≤ hi := by
  cases x with
  | int i =>
    simp only [within, Bool.and_eq_true, decide_eq_true_eq] at h
    exact ⟨i, rfl, h⟩
  | _ => cases h
def spFolded (K : PySem.W.Frag) (C : Addr) : Sp := fun vs H Q E => ∃ x b, vs = [x] ∧ Pl K H x b ∧ (∀ i, x = .int i → -32767 ≤ i → i ≤ 32767 → Q (.int (foldI i)) H) ∧ (within x (-32767) 32767 = false → E (.ref C) none H)
def spUnfolded (K : PySem.W.Frag) (C : Addr) : Sp := fun vs H Q E => ∃ x b, vs = [x] ∧ Pl K H x b ∧ (∀ i, x = .int i → 0 ≤ i → i ≤ 65534 → Q (.int (unfoldI i)) H) ∧ (within x 0 65534 = false → E (.ref C) none H)
end
end K02
namespace K02
open PySem PySem.Spec PyProof.Rows L2 PySem.W LamX KA
section
variable {P : Program} {w : World} {K : PySem.W.Frag} {mg : Str → Option Value} {base : Heap} (T : Top K mg)
def isStr (x : V) : Bool := match x with
  | .str _ => true
  | _ => false
theorem Pl.str? {K : PySem.W.Frag} {H : Hp} {x : V} {b : Bool} (h : Pl K H x b) : ∃ t : String, TyX K H x (.type t) ∧ kitB t "str" = some (isStr x) := by
  cases h with
  | int i => exact ⟨"int", .base (.int i), (by decide +kernel : kitB "int" "str" = some false)⟩
  | bl i => exact ⟨"bool", .base (.bl i), (by decide +kernel : kitB "bool" "str" = some false)⟩
  | str i => exact ⟨"str", .base (.str i), (by decide +kernel : kitB "str" "str" = some true)⟩
  | non => exact ⟨"NoneType", .base .non, by decide +kernel⟩
  | tup e => exact ⟨"tuple", .base (.tup e), (by decide +kernel : kitB "tuple" "str" = some false)⟩
  | lst e => exact ⟨"list", .base (.lst e), (by decide +kernel : kitB "list" "str" = some false)⟩
  | dK e => exact ⟨"dict", .base (.dK e), (by decide +kernel : kitB "dict" "str" = some false)⟩
def isBits (x : V) : Bool := match x with
  | .str s => decide (V.str (Txt.stripChars s "01") = V.str "")
  | _ => false
def spIsBits (K : PySem.W.Frag) : Sp := fun vs H Q _ => ∃ x b, vs = [x] ∧ Pl K H x b ∧ (∀ s, x = .str s → s.length ≤ 1000) ∧ Q (.bl (isBits x)) H
theorem ok_is_bits : FnOk P w K mg base (L2.CX P w) 1 T.is_bits.a T.is_bits.d ["thing"] (spIsBits K) := by
  refine T.is_bits.f.okX sc_is_bits (fun vs H Q E h => ?_) (fun cdv A outer s H vs Q E hr h => ?_)
  · obtain ⟨x, b, rfl, _⟩ := h
    rfl
  · obtain ⟨x, b, rfl, hp, hl, k⟩ := h
    refine ⟨_, pss_one (ps_ret (pe_and
      (pe_callB call_isi (by rfl) T.b_isinstance PyProof.Rows.boot_isinstance (pa_cons (pv 0) (pa_cons (pe_bltn (v := .ty "str") (by rfl) T.b_str (by decide +kernel) rfl) pa_nil)))
      (pe_one (pe_cmpR op_eq (pe_bm PySem.F.plainAttrs_str PySem.F.slot_str_strip PySem.F.type_str_strip mt_stripChars (pv 0) (pa_cons pe_str pa_nil)) pe_str (nomark _))))), ?_⟩
    obtain ⟨t, ht, h1⟩ := hp.str?
    refine ⟨_, rfl, x, _, _, _, _, rfl, .ty "str", ht, kit_ty h1, _, rfl, ?_⟩
    cases x with
    | str z => exact iteT ⟨_, rfl, rfl, _, _, rfl, rfl, Nat.le_trans (hl z rfl) (by decide), rfl, k⟩
    | _ => exact iteF k
def spFixed (K : PySem.W.Frag) (CM CN : Addr) : Sp := fun vs H Q E => ∃ x bx y «by», vs = [x, y] ∧ Pl K H x bx ∧ Pl K H y «by» ∧ (within y 1 16 = false → E (.ref CM) none H) ∧
  ∀ m : Nat, y = .int m → 1 ≤ m → m ≤ 16 → (within x 0 (2 ^ m - 1) = false → E (.ref CN) none H) ∧ ∀ n : Nat, x = .int n → n < 2 ^ m → Q (.str (twosT m n)) H
theorem pow16 {m : Nat} (h : m ≤ 16) : 2 ^ m ≤ 65536 := by
  have := Nat.pow_le_pow_right (n := 2) (by decide) h
  exact this
theorem binText_small {n : Nat} (h : n < 65536) : (binText n).length ≤ 100 := by
  rw [binText_len]
  have := binL_le 16 n (by decide) h
  omega
theorem inBits_eq {m n : Nat} (hm : 0 < m) (h : n < 2 ^ m) : inBits (n : Int) (m : Int) = twosT m n := by
  unfold inBits
  rw [if_neg (by omega), Int.natAbs_natCast]
  exact zfill_bin hm h
theorem cut_one {z : Str} (h : 1 ≤ z.length) : cutS z (some 1) none = ⟨(z.cps.toList.drop 1).toArray⟩ := by
  have e1 : HT.sIx z.length 0 (some 1) = 1 := (HT.sIx_nat z.length 0 1).trans (by omega)
  unfold cutS
  rw [e1, HT.sIx_none, List.take_of_length_le]
  simp [Str.length]
theorem len_app (x y : Str) : (x ++ y).length = x.length + y.length := Array.size_append
def longT (f : Nat) : Str := onesT (tailL (f + 1)).length ++ "0" ++ ⟨(tailL (f + 1)).toArray⟩
theorem foldI_nat {i : Int} (h1 : -32767 ≤ i) (h2 : i ≤ 32767) : ∃ f : Nat, foldI i = f ∧ f < 65535 := by
  refine ⟨(foldI i).toNat, ?_, ?_⟩ <;> (unfold foldI; split <;> omega)
def spLong (K : PySem.W.Frag) (C : Addr) : Sp := fun vs H Q E => ∃ x b, vs = [x] ∧ Pl K H x b ∧ (∀ i (f : Nat), x = .int i → foldI i = f → f < 65535 → Q (.str (longT f)) H) ∧ (within x (-32767) 32767 = false → E (.ref C) none H)
def gradeT (f g : Nat) : Str := if 12 ≤ f / 2 ^ g then onesT 12 ++ twosT 16 f else onesT (f / 2 ^ g) ++ "0" ++ twosT g (f % 2 ^ g)
theorem twosT_len (m n : Nat) : (twosT m n).length = m := by
  show ((bitsL m n).toArray).size = m
  simp [bitsL_len]
def spGrade (K : PySem.W.Frag) (CN CG : Addr) : Sp := fun vs H Q E => ∃ x b y yb, vs = [x, y] ∧ Pl K H x b ∧ Pl K H y yb ∧ (within x (-32767) 32767 = false → E (.ref CN) none H) ∧
  ∀ i (f : Nat), x = .int i → foldI i = f → f < 65535 → (within y 0 7 = false → E (.ref CG) none H) ∧ ∀ g : Nat, y = .int g → g ≤ 7 → Q (.str (gradeT f g)) H
end
end K02
namespace K02
open PySem PySem.Spec PyProof.Rows L2 PySem.W LamX KA
section
variable {P : Program} {w : World} {K : PySem.W.Frag} {mg : Str → Option Value} {base : Heap} (T : Top K mg)
def spTwo : Sp := fun vs H Q _ => ∃ n : Nat, vs = [.int n] ∧ n ≤ 1000 ∧ Q (.int ((2 ^ n : Nat) : Int)) H
theorem ok_two : FnOk P w K mg base (L2.CX P w) 1 T._law_two.a T._law_two.d ["size_here"] spTwo := by
  refine T._law_two.f.okX sc__law_two (fun vs H Q E h => ?_) (fun cdv A outer s H vs Q E hr h => ?_)
  · obtain ⟨n, rfl, _⟩ := h
    rfl
  · obtain ⟨n, rfl, hn, k⟩ := h
    refine ⟨_, pss_cons (ps_set (i := 1) sc__law_two.nd rfl (.inl rfl) pe_int)
      (pss_cons (ps_for (passes_of rfl) rfl (pi_range1 (by rfl) T.b_range (pa_cons (pv 0) pa_nil)) (pg_name (i := 2) sc__law_two.nd rfl (.inl rfl))
        (pss_one (ps_set (i := 1) sc__law_two.nd rfl (.inl rfl) (pe_op op_mul (pv 1) pe_int))))
      (pss_one (ps_ret (pv 1)))), ?_⟩
    refine ⟨_, rfl, _, rfl, by omega, by omega, for_range (n := (n : Int).toNat) (fun i σ H' => H' = H ∧ ∃ v, σ = [some (.int n), some (.int ((2 ^ i : Nat) : Int)), v]) ⟨rfl, none, rfl⟩ ?_ ?_⟩
    · rintro i σ H' hi ⟨rfl, v, rfl⟩
      refine ⟨_, rfl, _, _, rfl, rfl, .inr ⟨by decide, by decide⟩, rfl, some (.int (0 + i)), ?_⟩
      simp [Nat.pow_succ]
    · rintro σ H' ⟨rfl, v, rfl⟩
      exact ⟨_, rfl, q_int k (by rw [Int.toNat_natCast])⟩
theorem ok_lfold : FnOk P w K mg base (L2.CX P w) 1 T._law_fold.a T._law_fold.d ["item"] spFold := by
  refine T._law_fold.f.okX sc__law_fold (fun vs H Q E h => ?_) (fun cdv A outer s H vs Q E hr h => ?_)
  · obtain ⟨i, rfl, _⟩ := h
    rfl
  · obtain ⟨i, rfl, k⟩ := h
    refine ⟨_, pss_one (ps_ret (pe_ifExp (pt_cmpR op_gt (pv 0) pe_int (nomark _)) (pe_op op_sub (pe_op op_mul pe_int (pv 0)) pe_int) (pe_op op_sub pe_int (pe_op op_mul pe_int (pv 0))))), ?_⟩
    refine ⟨_, rfl, _, _, rfl, rfl, _, rfl, ?_⟩
    by_cases h : i > 0
    · rw [show decide ((0 : Int) < i) = true from decide_eq_true h]
      refine iteT ⟨_, rfl, _, _, rfl, rfl, .inl ⟨by decide, by decide⟩, _, _, rfl, rfl, ?_⟩
      exact q_int k (by simp [foldI, h])
    · rw [show decide ((0 : Int) < i) = false from decide_eq_false h]
      refine iteF ⟨_, rfl, _, _, rfl, rfl, .inl ⟨by decide, by decide⟩, _, _, rfl, rfl, ?_⟩
      exact q_int k (by simp [foldI, h]; omega)
theorem bitsL_front : ∀ (k n : Nat), bitsL (k + 1) n = (48 + (n / 2 ^ k) % 2) :: bitsL k n
  | 0, n => by simp [bitsL]
  | k + 1, n => by
    rw [bitsL, bitsL_front k (n / 2), Nat.div_div_eq_div_mul, ← Nat.pow_succ']
    simp [bitsL]
theorem bit_str (n : Nat) : (Str.ofString (toString ((n : Int) % 2)) : Str) = ⟨#[48 + n % 2]⟩ := by
  have h : (n : Int) % 2 = 0 ∧ n % 2 = 0 ∨ (n : Int) % 2 = 1 ∧ n % 2 = 1 := by omega
  rcases h with ⟨e1, e2⟩ | ⟨e1, e2⟩
  · rw [e1, e2]
    rfl
  · rw [e1, e2]
    rfl
theorem bit_log (n : Nat) : ((n : Int) % 2).natAbs.log2 < 1920 := by
  have h : (n : Int) % 2 = 0 ∨ (n : Int) % 2 = 1 := by omega
  rcases h with e | e <;> rw [e] <;> decide
theorem cons_str (d : Nat) (l : List Nat) : ((⟨#[d]⟩ : Str) ++ ⟨l.toArray⟩) = ⟨(d :: l).toArray⟩ := by
  show (⟨#[d] ++ l.toArray⟩ : Str) = _
  congr 1
  apply Array.toList_inj.mp
  simp
def spTwos : Sp := fun vs H Q _ => ∃ n m : Nat, vs = [.int n, .int m] ∧ m ≤ 100 ∧ Q (.str (twosT m n)) H
theorem ok_twos : FnOk P w K mg base (L2.CX P w) 1 T._law_twos.a T._law_twos.d ["item", "size_here"] spTwos := by
  refine T._law_twos.f.okX sc__law_twos (fun vs H Q E h => ?_) (fun cdv A outer s H vs Q E hr h => ?_)
  · obtain ⟨n, m, rfl, _⟩ := h
    rfl
  · obtain ⟨n, m, rfl, hm, k⟩ := h
    refine ⟨_, pss_cons (ps_set (i := 2) sc__law_twos.nd rfl (.inl rfl) pe_str)
      (pss_cons (ps_for (passes_of rfl) rfl (pi_range1 (by rfl) T.b_range (pa_cons (pv 1) pa_nil)) (pg_name (i := 3) sc__law_twos.nd rfl (.inl rfl))
        (pss_cons (ps_set (i := 2) sc__law_twos.nd rfl (.inl rfl) (pe_op op_add_str (pe_callTy call_str_int (by rfl) T.b_str (by decide +kernel) (pa_cons (pe_op op_mod (pe_callTy call_int1 (by rfl) T.b_int PyProof.Rows.boot_int (pa_cons (pv 0) pa_nil)) pe_int) pa_nil)) (pv 2)))
        (pss_one (ps_set (i := 0) sc__law_twos.nd rfl (.inl rfl) (pe_op op_fdiv (pv 0) pe_int)))))
      (pss_one (ps_ret (pv 2)))), ?_⟩
    refine ⟨_, rfl, _, rfl, by omega, by omega, for_range (n := (m : Int).toNat) (fun i σ H' => H' = H ∧ ∃ v, σ = [some (.int ((n / 2 ^ i : Nat) : Int)), some (.int m), some (.str ⟨(bitsL i n).toArray⟩), v]) ⟨rfl, none, by simp; rfl⟩ ?_ ?_⟩
    · rintro i σ H' hi ⟨rfl, v, rfl⟩
      rw [Int.toNat_natCast] at hi
      refine ⟨_, rfl, .inl ⟨_, rfl, _, _, rfl, rfl, (by show (0 : Int) < 2; decide), _, rfl, bit_log _, _, rfl, ?_⟩⟩
      rw [bit_str]
      refine ⟨_, _, rfl, rfl, ?_, _, rfl, _, _, rfl, rfl, ⟨by decide, by decide⟩, rfl, some (.int (0 + i)), ?_⟩
      · show 1 + (bitsL i n).toArray.size ≤ sizeLine
        rw [List.size_toArray, bitsL_len]
        exact Nat.le_trans (show 1 + i ≤ 200 by omega) (by decide)
      · rw [cons_str, ← bitsL_front]
        have e : (((n / 2 ^ i : Nat) : Int) / 2) = ((n / 2 ^ (i + 1) : Nat) : Int) := by
          rw [Nat.pow_succ, ← Nat.div_div_eq_div_mul]
          omega
        show [some (V.int (((n / 2 ^ i : Nat) : Int) / 2)), some (V.int m), some (V.str _), some _] = _
        rw [e]
    · rintro σ H' ⟨rfl, v, rfl⟩
      exact ⟨_, rfl, q_str k (by rw [Int.toNat_natCast]; rfl)⟩
def spLLong : Sp := fun vs H Q _ => ∃ (i : Int) (f : Nat), vs = [.int i] ∧ foldI i = f ∧ f < 65535 ∧ Q (.str (longT f)) H
theorem tail_small {f : Nat} (h : f < 65536) : (tailL f).length ≤ 16 := by
  rcases Nat.eq_zero_or_pos f with z | z
  · subst z
    decide
  · have := binL_le 16 f (by decide) h
    rw [binL_head f z] at this
    simp at this
    omega
theorem ok_llong : FnOk P w K mg base (L2.CX P w) 2 T._law_long.a T._law_long.d ["item"] spLLong := by
  refine T._law_long.f.okX sc__law_long (fun vs H Q E h => ?_) (fun cdv A outer s H vs Q E hr h => ?_)
  · obtain ⟨i, f, rfl, _⟩ := h
    rfl
  · obtain ⟨i, f, rfl, ef, hf, k⟩ := h
    refine ⟨_, pss_cons (ps_par (i := 1) (j := 2) rfl sc__law_long.nd rfl rfl (by decide) rfl rfl (pa_cons (pe_op op_add (pe_call (ok_lfold T) hr (by rfl) T._law_fold.m T._law_fold.f.kp (bd__law_fold T) .nil passE (pa_cons (pv 0) pa_nil)) pe_int) (pa_cons pe_str pa_nil)) (by rfl))
      (pss_cons (ps_while (passes_of rfl) (pt_cmpR op_gt (pv 1) pe_int (nomark _))
        (pss_cons (ps_set (i := 2) sc__law_long.nd rfl (.inl rfl) (pe_op op_add_str (pe_callTy call_str_int (by rfl) T.b_str (by decide +kernel) (pa_cons (pe_op op_mod (pe_callTy call_int1 (by rfl) T.b_int PyProof.Rows.boot_int (pa_cons (pv 1) pa_nil)) pe_int) pa_nil)) (pv 2)))
        (pss_one (ps_set (i := 1) sc__law_long.nd rfl (.inl rfl) (pe_op op_fdiv (pv 1) pe_int)))))
      (pss_one (ps_ret (pe_op op_add_str (pe_op op_add_str (pe_op op_mulS pe_str (pe_callB call_len_str (by rfl) T.b_len PySem.boot_len (pa_cons (pv 2) pa_nil))) pe_str) (pv 2))))), ?_⟩
    refine ⟨_, rfl, i, rfl, _, _, rfl, rfl, _, _, rfl, ?_⟩
    rw [ef]
    refine ⟨fun m σ H' => H' = H ∧ ∃ (t : Nat) (L : List Nat), t = m ∧ 1 ≤ t ∧ t ≤ f + 1 ∧ tailL (f + 1) = tailL t ++ L ∧ σ = [some (.int i), some (.int (t : Int)), some (.str ⟨L.toArray⟩)], ⟨f + 1, rfl, f + 1, [], rfl, by omega, by omega, by simp, rfl⟩, ?_⟩
    rintro m σ H' ⟨rfl, t, L, rfl, h1, h2, hL, rfl⟩
    have hlen := tail_small (f := f + 1) (by omega)
    have hLL : L.length ≤ 16 := by
      have := congrArg List.length hL
      rw [List.length_append] at this
      omega
    refine ⟨_, rfl, _, _, rfl, rfl, _, rfl, ?_⟩
    by_cases c : 1 < t
    · rw [show decide ((1 : Int) < (t : Int)) = true from decide_eq_true (by omega)]
      refine iteT ⟨fun σ' H'' => H'' = H' ∧ ∃ L', tailL (f + 1) = tailL (t / 2) ++ L' ∧ σ' = [some (.int i), some (.int ((t / 2 : Nat) : Int)), some (.str ⟨L'.toArray⟩)], fun σ' H'' ⟨e1, L', e2, e3⟩ => ⟨t / 2, by omega, e1, t / 2, L', rfl, by omega, by omega, e2, e3⟩, ?_⟩
      refine ⟨_, rfl, .inl ⟨_, rfl, _, _, rfl, rfl, (by show (0 : Int) < 2; decide), _, rfl, bit_log _, _, rfl, ?_⟩⟩
      rw [bit_str]
      refine ⟨_, _, rfl, rfl, ?_, _, rfl, _, _, rfl, rfl, ⟨by decide, by decide⟩, rfl, (48 + t % 2) :: L, ?_, ?_⟩
      · show 1 + L.toArray.size ≤ sizeLine
        rw [List.size_toArray]
        exact Nat.le_trans (show 1 + L.length ≤ 200 by omega) (by decide)
      · rw [hL, tailL_ge (by omega)]
        simp
      · rw [cons_str]
        show [some (V.int i), some (V.int ((t : Int) / 2)), some _] = _
        rw [show ((t : Int) / 2) = ((t / 2 : Nat) : Int) by omega]
    · rw [show decide ((1 : Int) < (t : Int)) = false from decide_eq_false (by omega)]
      have e : t = 1 := by omega
      subst e
      rw [show tailL 1 = [] from rfl, List.nil_append] at hL
      refine iteF ?_
      refine ⟨_, rfl, _, rfl, ?_, _, _, rfl, rfl, by omega, ?_, by decide, ?_⟩
      · show L.toArray.size ≤ sizeLine
        rw [List.size_toArray]
        exact Nat.le_trans hLL (by decide)
      · show ((L.toArray.size : Nat) : Int) ≤ 1000
        rw [List.size_toArray]
        omega
      · rw [show (((⟨L.toArray⟩ : Str).length : Nat) : Int) = ((L.length : Nat) : Int) by simp [Str.length], mul_ones]
        refine ⟨_, _, rfl, rfl, ?_, _, rfl, _, _, rfl, rfl, ?_, ?_⟩
        · rw [onesT_len]
          exact Nat.le_trans (Nat.add_le_add_right hLL _) (by decide)
        · rw [len_app, onesT_len]
          show L.length + 1 + L.toArray.size ≤ _
          rw [List.size_toArray]
          exact Nat.le_trans (show L.length + 1 + L.length ≤ 200 by omega) (by decide)
        · exact q_str k (by unfold longT; rw [hL])
def spLGraded : Sp := fun vs H Q _ => ∃ (i : Int) (f g : Nat), vs = [.int i, .int g] ∧ foldI i = f ∧ f < 65535 ∧ g ≤ 7 ∧ Q (.str (gradeT f g)) H
theorem ok_lgraded : FnOk P w K mg base (L2.CX P w) 2 T._law_graded.a T._law_graded.d ["item", "rung"] spLGraded := by
  refine T._law_graded.f.okX sc__law_graded (fun vs H Q E h => ?_) (fun cdv A outer s H vs Q E hr h => ?_)
  · obtain ⟨i, f, g, rfl, _⟩ := h
    rfl
  · obtain ⟨i, f, g, rfl, ef, hf, hg, k⟩ := h
    refine ⟨_, pss_cons (ps_set (i := 2) sc__law_graded.nd rfl (.inl rfl) (pe_call (ok_lfold T) hr (by rfl) T._law_fold.m T._law_fold.f.kp (bd__law_fold T) .nil passE (pa_cons (pv 0) pa_nil)))
      (pss_cons (ps_set (i := 3) sc__law_graded.nd rfl (.inl rfl) (pe_op op_fdiv (pv 2) (pe_call (ok_two T) hr (by rfl) T._law_two.m T._law_two.f.kp (bd__law_two T) .nil passE (pa_cons (pv 1) pa_nil))))
      (pss_cons (ps_if (pt_cmpR op_lt (pv 3) pe_int (nomark _))
        (pss_one (ps_ret (pe_op op_add_str (pe_op op_add_str (pe_op op_mulS pe_str (pv 3)) pe_str)
          (pe_call (ok_twos T) hr (by rfl) T._law_twos.m T._law_twos.f.kp (bd__law_twos T) .nil passE (pa_cons (pe_op op_mod (pe_callTy call_int1 (by rfl) T.b_int PyProof.Rows.boot_int (pa_cons (pv 2) pa_nil)) (pe_call (ok_two T) hr (by rfl) T._law_two.m T._law_two.f.kp (bd__law_two T) .nil passE (pa_cons (pv 1) pa_nil))) (pa_cons (pv 1) pa_nil)))))) pss_nil)
      (pss_one (ps_ret (pe_op op_add_str (pe_op op_mulS pe_str pe_int) (pe_call (ok_twos T) hr (by rfl) T._law_twos.m T._law_twos.f.kp (bd__law_twos T) .nil passE (pa_cons (pv 2) (pa_cons pe_int pa_nil)))))))), ?_⟩
    refine ⟨_, rfl, i, rfl, ?_⟩
    rw [ef]
    have hp0 : 0 < 2 ^ g := Nat.pow_pos (by decide)
    have hp1 : 2 ^ g ≤ 128 := by
      have := Nat.pow_le_pow_right (n := 2) (by decide) hg
      exact this
    have hq : f / 2 ^ g ≤ f := Nat.div_le_self _ _
    refine ⟨_, rfl, _, rfl, g, rfl, by omega, _, _, rfl, rfl, ⟨by omega, by omega⟩, ?_⟩
    dsimp only
    rw [show ((f : Int) / ((2 ^ g : Nat) : Int)) = ((f / 2 ^ g : Nat) : Int) from (Int.natCast_ediv _ _).symm]
    have eG : gradeT f g = if 12 ≤ f / 2 ^ g then onesT 12 ++ twosT 16 f else onesT (f / 2 ^ g) ++ "0" ++ twosT g (f % 2 ^ g) := rfl
    have em : ((f : Int) % ((2 ^ g : Nat) : Int)) = ((f % 2 ^ g : Nat) : Int) := (Int.natCast_emod _ _).symm
    generalize f / 2 ^ g = q at hq eG ⊢
    refine ⟨_, rfl, _, _, rfl, rfl, _, rfl, ?_⟩
    by_cases c : 12 ≤ q
    · rw [show decide ((q : Int) < 12) = false from decide_eq_false (by omega)]
      refine iteF ⟨_, _, rfl, rfl, by decide, by decide, by decide, _, rfl, f, 16, rfl, by decide, ?_⟩
      rw [show Txt.mul "1" 12 = onesT 12 from mul_ones 12]
      refine ⟨_, _, rfl, rfl, ?_, q_str k (by rw [eG, if_pos c])⟩
      rw [onesT_len, twosT_len]
      decide
    · rw [show decide ((q : Int) < 12) = true from decide_eq_true (by omega)]
      refine iteT ⟨_, rfl, _, _, rfl, rfl, by omega, by omega, by decide, ?_⟩
      rw [mul_ones]
      refine ⟨_, _, rfl, rfl, ?_, _, rfl, .inl ⟨_, rfl, _, rfl, g, rfl, by omega, _, _, rfl, rfl, (by show (0 : Int) < _; omega), _, rfl, ?_⟩⟩
      · rw [onesT_len]
        exact Nat.le_trans (Nat.add_le_add_right (show q ≤ 12 by omega) _) (by decide)
      dsimp only
      rw [em]
      refine ⟨_, g, rfl, by omega, _, _, rfl, rfl, ?_, q_str k (by rw [eG, if_neg c])⟩
      rw [len_app, onesT_len, twosT_len]
      exact Nat.le_trans (Nat.add_le_add (Nat.add_le_add_right (show q ≤ 12 by omega) _) (show g ≤ 7 by omega)) (by decide)
end
end K02
namespace K02
open PySem PySem.Spec PyProof.Rows L2 PySem.W LamX KA
open Evl (pss_cut tCut)
def spDraw : Sp := fun vs H Q _ => ∃ (st lg cl : Addr) (n m : Nat), vs = [.ref st, .int n] ∧ 0 < n ∧ n < 2 ^ 100 ∧ m ≤ 1000000 ∧ StAt H st lg cl m ∧
  ∀ (r : Nat) (H' : Hp), r < n → StAt H' st lg cl (m + 1) → Kp st lg H H' → Q (.int r) H'
section
variable {P : Program} {w : World} {K : PySem.W.Frag} {mg : Str → Option Value} {base : Heap} (T : Top K mg)
theorem draw_div {n : Nat} (h0 : 0 < n) (h : n < 2 ^ 100) {i : Int} : CDivW i (n : Int) := wide_div (b := 100) (by omega) (by simpa using h) (by decide) (by decide)
theorem ok_draw : FnOk P w K mg base (L2.CX P w) 1 T._law_draw.a T._law_draw.d ["state", "size_here"] spDraw := by
  refine T._law_draw.f.okX sc__law_draw (fun vs H Q E h => ?_) (fun cdv A outer s H vs Q E hr h => ?_)
  · obtain ⟨st, lg, cl, n, m, rfl, _⟩ := h
    rfl
  · obtain ⟨st, lg, cl, n, m, rfl, hn, hn2, hm, ⟨large, cells, left, turn, S, ht⟩, k⟩ := h
    have hu := hu_of hr
    refine ⟨_, pss_cut (ps_while (passes_of rfl) (PW.pt (pw_and (pt_cmpR op_eq (pe_dget hu (pv 0) pe_str (fun _ _ => rfl)) pe_int (nomark _)) (pw_and1 (pt_cmpR (op_neD hr.units) (pe_dget hu (pv 0) pe_str (fun _ _ => rfl)) (pe_lst pa_nil) (nomark _)))))
        (pss_one (ps_dput hu (pv 0) pe_str (pe_bm PySem.F.plainAttrs_list PySem.F.slot_list_pop PySem.F.type_list_pop mt_popAt (pe_dget hu (pv 0) pe_str (fun _ _ => rfl)) (pa_cons pe_int pa_nil)) rfl)))
      (pss_cons (ps_if (pt_cmpR op_gt (pe_dget hu (pv 0) pe_str (fun _ _ => rfl)) pe_int (nomark _))
        (pss_cons (ps_set (i := 2) sc__law_draw.nd rfl (.inl rfl) (pe_op op_mod (pe_callTy call_int1 (by rfl) T.b_int PyProof.Rows.boot_int (pa_cons (pe_dget hu (pv 0) pe_str (fun _ _ => rfl)) pa_nil)) (pv 1)))
        (pss_cons (ps_dput hu (pv 0) pe_str (pe_op op_fdivW (pe_dget hu (pv 0) pe_str (fun _ _ => rfl)) (pv 1)) rfl)
        (pss_one (ps_ret (pv 2))))) pss_nil)
      (pss_cons (ps_set (i := 3) sc__law_draw.nd rfl (.inl rfl) (pe_op op_add (pe_dget hu (pv 0) pe_str (fun _ _ => rfl)) pe_int))
      (pss_cons (ps_dput hu (pv 0) pe_str (pv 3) rfl)
      (pss_cut (ps_set (i := 4) sc__law_draw.nd rfl (.inl rfl) (pe_ifExp (pt_cmpR (op_neD hr.units) (pe_dget hu (pv 0) pe_str (fun _ _ => rfl)) (pe_lst pa_nil) (nomark _))
        (pe_ix ix_list (pe_dget hu (pv 0) pe_str (fun _ _ => rfl)) (pe_op op_mod (pe_callTy call_int1 (by rfl) T.b_int PyProof.Rows.boot_int (pa_cons (pv 3) pa_nil)) (pe_callB call_len_seq (by rfl) T.b_len PySem.boot_len (pa_cons (pe_dget hu (pv 0) pe_str (fun _ _ => rfl)) pa_nil))) (fun _ _ => rfl))
        pe_int))
      (pss_cons (ps_set (i := 5) sc__law_draw.nd rfl (.inl rfl) (pe_op op_mod (pe_callTy call_int1 (by rfl) T.b_int PyProof.Rows.boot_int (pa_cons (pe_op op_pow (pe_op op_add (pe_op op_add (pe_op op_mod (pe_callTy call_int1 (by rfl) T.b_int PyProof.Rows.boot_int (pa_cons (pv 4) pa_nil)) pe_int) (pe_op op_mul pe_int (pv 3))) pe_int) pe_int) pa_nil)) pe_int))
      (pss_one (ps_ret (pe_op op_mod (pe_callTy call_int1 (by rfl) T.b_int PyProof.Rows.boot_int (pa_cons (pe_op op_fdiv (pe_op op_mod (pe_callTy call_int1 (by rfl) T.b_int PyProof.Rows.boot_int (pa_cons (pe_op op_pow (pe_op op_add (pv 5) (pe_op op_mul pe_int (pv 3))) pe_int) pa_nil)) pe_int) pe_int) pa_nil)) (pv 1))))))))), ?_⟩
    -- the while
    refine ⟨fun σ' H' => σ' = [some (.ref st), some (.int n), none, none, none, none] ∧ ∃ large' left', StD H' st lg cl large' cells left' turn ∧ Kp st lg H H', ?_, ?_⟩
    · refine ⟨fun μ σ' H' => σ' = [some (.ref st), some (.int n), none, none, none, none] ∧ ∃ large' left', large'.length = μ ∧ StD H' st lg cl large' cells left' turn ∧ Kp st lg H H',
        ⟨large.length, rfl, large, left, rfl, S, Kp.refl⟩, ?_⟩
      rintro μ σ' H1 ⟨rfl, large', left', hμ, S1, kp1⟩
      refine ⟨_, rfl, st, _, rfl, (show DGet H1 st (kV kLeft) _ from st_left ▸ DGet.k S1.d), rfl, _, rfl, ?_⟩
      by_cases c1 : left' = 0
      · subst c1
        refine iteT ⟨_, rfl, st, _, rfl, (show DGet H1 st (kV kLarge) _ from st_large ▸ DGet.k S1.d), by decide, fun p hp => ?_⟩
        have S2 := S1.same (Same.new (o := .lst []) hp)
        have kp2 := kp1.trans (Kp.same (Same.new (o := .lst []) hp))
        refine ⟨_, _, dp_int_list S2.l, dp_nil upd_same, shaped_is _, shaped_nil, _, rfl, ?_⟩
        rw [eqv_ints_nil]
        cases large' with
        | nil => exact iteF ⟨rfl, [], 0, S2, kp2⟩
        | cons x rest =>
          refine iteT ⟨fun σ' H' => σ' = [some (.ref st), some (.int n), none, none, none, none] ∧ ∃ large' left', large'.length = rest.length ∧ StD H' st lg cl large' cells left' turn ∧ Kp st lg H H',
            fun σ' H' ⟨e, l', lf, e2, r⟩ => ⟨rest.length, by rw [← hμ]; exact Nat.lt_succ_self _, e, l', lf, e2, r⟩, ?_⟩
          refine ⟨_, rfl, st, .ref lg, rfl, (show DGet _ st (kV kLarge) _ from st_large ▸ DGet.k S2.d), .inl ⟨rfl, _, SqL.of S2.l⟩, lg, _, 0, 0, .int x, rfl, rfl, S2.l, by decide, by decide, by simp [seqIndex?], rfl, ?_⟩
          have S3 : StD (upd (upd H1 p (.lst [])) lg (.lst (rest.map V.int))) st lg cl rest cells 0 turn :=
            { d := (upd_ne S2.st_lg).trans S2.d, l := upd_same, c := (upd_ne S2.ne.symm).trans S2.c, ne := S2.ne, pl := fun y hy => S2.pl y (List.mem_cons_of_mem _ hy), p0 := S2.p0 }
          have hx : 0 ≤ x := S2.pl x List.mem_cons_self
          refine ⟨_, rfl, st, _, rfl, (show DPut _ st (kV kLeft) _ _ from DPut.k S3.d (by show 4 < sizeLine; decide)), ?_⟩
          rw [st_put_left]
          exact ⟨rfl, rest, x, rfl, S3.put hx, (kp2.trans Kp.put2).trans Kp.put⟩
      · rw [show decide (V.int left' = V.int 0) = false from decide_eq_false fun z => c1 (V.int.inj z)]
        exact iteF ⟨rfl, large', left', S1, kp1⟩
    · rintro σ' H1 ⟨rfl, large', left', S1, kp1⟩
      refine ⟨_, rfl, st, _, rfl, (show DGet H1 st (kV kLeft) _ from st_left ▸ DGet.k S1.d), _, _, rfl, rfl, _, rfl, ?_⟩
      by_cases c1 : 0 < left'
      · rw [show decide ((0 : Int) < left') = true from decide_eq_true c1]
        refine iteT ⟨_, rfl, st, _, rfl, (show DGet H1 st (kV kLeft) _ from st_left ▸ DGet.k S1.d), .inl ⟨_, rfl, _, rfl, _, _, rfl, rfl, (by show (0 : Int) < (n : Int); omega), ?_⟩⟩
        refine ⟨_, rfl, st, _, rfl, (show DGet H1 st (kV kLeft) _ from st_left ▸ DGet.k S1.d), _, rfl, _, _, rfl, rfl, draw_div hn hn2, _, rfl, st, _, rfl, (show DPut _ st (kV kLeft) _ _ from DPut.k S1.d (by show 4 < sizeLine; decide)), ?_⟩
        rw [st_put_left]
        have hr0 := Int.emod_nonneg left' (show (n : Int) ≠ 0 by omega)
        have hr1 := Int.emod_lt_of_pos left' (show (0 : Int) < n by omega)
        have S3 := S1.put (t := turn) (l := left' / (n : Int)) (Int.ediv_nonneg (by omega) (by omega))
        exact ⟨_, rfl, q_int (k (left' % (n : Int)).toNat _ (by omega) ⟨_, _, _, _, S3, by omega⟩ (kp1.trans Kp.put)) (by omega)⟩
      · rw [show decide ((0 : Int) < left') = false from decide_eq_false c1]
        refine iteF ⟨_, rfl, st, _, rfl, (show DGet H1 st (kV kTurn) _ from st_turn ▸ DGet.k S1.d), _, _, rfl, rfl, _, rfl, _, rfl, st, _, rfl, (show DPut _ st (kV kTurn) _ _ from DPut.k S1.d (by show 4 < sizeLine; decide)), ?_⟩
        rw [st_put_turn]
        have S2 : StD (upd H1 st (.dK (stKv lg cl left' ((turn + 1 : Nat) : Int)))) st lg cl large' cells left' (turn + 1) := S1.put S1.p0
        have kp2 : Kp st lg H (upd H1 st (.dK (stKv lg cl left' ((turn + 1 : Nat) : Int)))) := kp1.trans Kp.put
        have e1 : ((turn : Int) + 1) = ((turn + 1 : Nat) : Int) := by omega
        rw [e1]
        generalize upd H1 st (.dK (stKv lg cl left' ((turn + 1 : Nat) : Int))) = H2 at S2 kp2 ⊢
        refine ⟨fun σ' H' => ∃ c : Int, σ' = [some (.ref st), some (.int n), none, some (.int ((turn + 1 : Nat) : Int)), some (.int c), none] ∧ StD H' st lg cl large' cells left' (turn + 1) ∧ Kp st lg H H', ?_, ?_⟩
        · refine ⟨_, rfl, st, .ref cl, rfl, (show DGet H2 st (kV kCells) _ from st_cells ▸ DGet.k S2.d), by decide, fun p hp => ?_⟩
          have S3 := S2.same (Same.new (o := .lst []) hp)
          have kp3 := kp2.trans (Kp.same (Same.new (o := .lst []) hp))
          refine ⟨_, _, dp_int_list S3.c, dp_nil upd_same, shaped_is _, shaped_nil, _, rfl, ?_⟩
          rw [eqv_ints_nil]
          generalize upd H2 p (.lst []) = H3 at S3 kp3 ⊢
          cases cells with
          | nil => exact iteF ⟨0, rfl, S3, kp3⟩
          | cons y ys =>
            refine iteT ⟨_, rfl, st, .ref cl, rfl, (show DGet H3 st (kV kCells) _ from st_cells ▸ DGet.k S3.d), _, rfl, .inl ⟨_, rfl, _, rfl, st, .ref cl, rfl, (show DGet H3 st (kV kCells) _ from st_cells ▸ DGet.k S3.d), cl, _, rfl, .inl (SqL.of S3.c), _, _, rfl, rfl, ?_, ?_⟩⟩
            · show (0 : Int) < ((((y :: ys).map V.int).length : Nat) : Int)
              simp
            · have hlen : ((y :: ys).map V.int).length = (y :: ys).length := List.length_map _
              have hz : (turn + 1) % (y :: ys).length < (y :: ys).length := Nat.mod_lt _ (by simp)
              obtain ⟨c, hc⟩ : ∃ c, (y :: ys)[(turn + 1) % (y :: ys).length]? = some c := ⟨_, List.getElem?_eq_getElem hz⟩
              refine ⟨cl, _, _, .int c, rfl, rfl, SqL.of S3.c, ?_, c, rfl, S3, kp3⟩
              rw [hlen, show (((turn : Int) + 1) % (((y :: ys).length : Nat) : Int)) = (((turn + 1) % (y :: ys).length : Nat) : Int) from rfl]
              exact atI_nat (by rw [List.getElem?_map, hc]; rfl)
        · rintro σ' H3 ⟨c, rfl, S3, kp3⟩
          have h1 := Int.emod_nonneg c (show (2147483563 : Int) ≠ 0 by decide)
          have h2 := Int.emod_lt_of_pos c (show (0 : Int) < 2147483563 by decide)
          refine ⟨_, rfl, .inl ⟨_, rfl, _, _, rfl, rfl, (by show (0 : Int) < 2147483563; decide), _, rfl, _, _, rfl, rfl, .inl ⟨by decide, by decide⟩, _, _, rfl, rfl, _, _, rfl, rfl, _, _, rfl, rfl, ⟨by decide, by decide, ?_⟩, .inl ⟨_, rfl, _, _, rfl, rfl, (by show (0 : Int) < 2147483629; decide), ?_⟩⟩⟩
          · generalize c % 2147483563 = c' at h1 h2 ⊢
            omega
          generalize (c % 2147483563 + 40692 * ((turn + 1 : Nat) : Int) + 24681) ^ (3 : Int).toNat = z
          have h3 := Int.emod_nonneg z (show (2147483629 : Int) ≠ 0 by decide)
          have h4 := Int.emod_lt_of_pos z (show (0 : Int) < 2147483629 by decide)
          dsimp only
          generalize z % 2147483629 = y at h3 h4 ⊢
          refine ⟨_, rfl, _, rfl, _, _, rfl, rfl, .inl ⟨by decide, by decide⟩, _, _, rfl, rfl, _, _, rfl, rfl, ⟨by decide, by decide, by omega⟩, .inl ⟨_, rfl, _, _, rfl, rfl, (by show (0 : Int) < 2147483579; decide), _, _, rfl, rfl, ⟨by decide, by decide⟩, .inl ⟨_, rfl, _, rfl, _, _, rfl, rfl, (by show (0 : Int) < (n : Int); omega), ?_⟩⟩⟩
          generalize (y + 104917 * ((turn + 1 : Nat) : Int)) ^ (5 : Int).toNat % 2147483579 / 29 = x
          have h5 := Int.emod_nonneg x (show (n : Int) ≠ 0 by omega)
          have h6 := Int.emod_lt_of_pos x (show (0 : Int) < n by omega)
          exact q_int (k (x % (n : Int)).toNat _ (by omega) ⟨_, _, _, _, S3, by omega⟩ kp3) (by omega)
end
end K02
namespace K02
open PySem PySem.Spec PyProof.Rows L2 PySem.W LamX KA
open Evl (pss_cut tCut)
def spPick : Sp := fun vs H Q _ => ∃ (st lg cl a : Addr) (xs : List V) (m : Nat), vs = [.ref st, .ref a] ∧ H a = some (.lst xs) ∧ a ≠ lg ∧ 0 < xs.length ∧ xs.length ≤ 1000 ∧ m ≤ 1000000 ∧ StAt H st lg cl m ∧
  ∀ (x : V) (H' : Hp), x ∈ xs → StAt H' st lg cl (m + 1) → Kp st lg H H' → Q x H'
section
variable {P : Program} {w : World} {K : PySem.W.Frag} {mg : Str → Option Value} {base : Heap} (T : Top K mg)
theorem ok_pick : FnOk P w K mg base (L2.CX P w) 2 T._law_pick.a T._law_pick.d ["state", "several"] spPick := by
  refine T._law_pick.f.okX sc__law_pick (fun vs H Q E h => ?_) (fun cdv A outer s H vs Q E hr h => ?_)
  · obtain ⟨st, lg, cl, a, xs, m, rfl, _⟩ := h
    rfl
  · obtain ⟨st, lg, cl, a, xs, m, rfl, ha, hal, h0, h1, hm, S, k⟩ := h
    have has : a ≠ st := by
      obtain ⟨_, _, _, _, S', _⟩ := S
      exact ne_of ha S'.d (by intro z; cases z)
    refine ⟨_, pss_one (ps_ret (pe_ix ix_list (pv 1) (pe_call (ok_draw T) hr (by rfl) T._law_draw.m T._law_draw.f.kp (bd__law_draw T) .nil passE (pa_cons (pv 0) (pa_cons (pe_callB call_len_seq (by rfl) T.b_len PySem.boot_len (pa_cons (pv 1) pa_nil)) pa_nil))) (fun _ _ => rfl))), ?_⟩
    refine ⟨_, rfl, _, rfl, _, rfl, a, xs, rfl, .inl (SqL.of ha), st, lg, cl, xs.length, m, rfl, h0, ?_, hm, S, fun r H' hr' S' kp => ?_⟩
    · exact Nat.lt_of_le_of_lt h1 (by decide)
    · obtain ⟨x, hx⟩ : ∃ x, xs[r]? = some x := ⟨_, List.getElem?_eq_getElem hr'⟩
      exact ⟨a, xs, _, x, rfl, rfl, SqL.of (kp a _ ha has hal), atI_nat hx, k x H' (List.mem_of_getElem? hx) S' kp⟩
def spBegun (K : PySem.W.Frag) : Sp := fun vs H Q _ => ∃ (a : Addr) (ns : List Int), vs = [.ref a] ∧ SqL K H a (ns.map V.int) ∧ ns.length ≤ 63 ∧
  ∀ (st lg cl : Addr) (H' : Hp), StAt H' st lg cl 0 → Same H H' → H st = none → H lg = none → Q (.ref st) H'
theorem ok_begun : FnOk P w K mg base (L2.CX P w) 1 T._law_begun.a T._law_begun.d ["script"] (spBegun K) := by
  refine T._law_begun.f.okX sc__law_begun (fun vs H Q E h => ?_) (fun cdv A outer s H vs Q E hr h => ?_)
  · obtain ⟨a, ns, rfl, _⟩ := h
    rfl
  · obtain ⟨a, ns, rfl, hS, hl, k⟩ := h
    refine ⟨_, pss_cons (ps_setLc (i := 1) (own := [("cell", 3)]) (g := gName 3) (tt := tYes) rfl sc__law_begun.nd rfl rfl (sw_true rfl rfl rfl (by decide +kernel)) (pi_list (pv 0)) (blkOk_by (own := [("cell", 3)]) (N := ["script", "cells_here", "large", "cell"]) (sc := defScope s__law_begun) (by decide +kernel))
        (fun _ _ _ _ _ => pg_name (i := 3) sc__law_begun.nd rfl (Or.inl rfl)) (fun _ _ _ _ _ => pts_nil) (fun _ _ _ _ _ => pe_callB call_abs (by rfl) T.b_abs (by decide +kernel) (pa_cons (pv 3) pa_nil)))
      (pss_cons (ps_setLc (i := 2) (own := [("cell", 3)]) (g := gName 3) rfl sc__law_begun.nd rfl rfl (sw_true rfl rfl rfl (by decide +kernel)) (pi_list (pv 1)) (blkOk_by (own := [("cell", 3)]) (N := ["script", "cells_here", "large", "cell"]) (sc := defScope s__law_begun) (by decide +kernel))
        (fun _ _ _ _ _ => pg_name (i := 3) sc__law_begun.nd rfl (Or.inl rfl)) (fun _ _ _ _ _ => pts_one (pt_cmpR op_ge (pv 3) (pe_op op_pow pe_int pe_int) (nomark _))) (fun _ _ _ _ _ => pe_op op_sub (pv 3) (pe_op op_pow pe_int pe_int)))
      (pss_one (ps_ret (pe_disp (pps_cons pe_str (pv 2) (pps_cons pe_str (pv 1) (pps_cons pe_str pe_int (pps_cons pe_str pe_int pps_nil)))) (by rfl) (by rfl) (fun z => by cases z) (by decide))))), ?_⟩
    refine ⟨_, rfl, a, rfl, ⟨_, hS⟩, fun cl hcl => lc_list (K := K) (a := a) (xs := ns.map V.int) (fun i H' => H' cl = some (.lst ((ns.take i).map fun n => V.int (if n < 0 then -n else n))) ∧ Same H H') ⟨upd_same, Same.new hcl⟩ (fun i H' _ h => h.2.seq hS) ?_ ?_⟩
    · rintro i x H' hx ⟨h1, h2⟩
      obtain ⟨n, hn, rfl⟩ : ∃ n, ns[i]? = some n ∧ x = V.int n := by
        rw [List.getElem?_map] at hx
        cases e : ns[i]? with
        | none => rw [e] at hx; cases hx
        | some n => rw [e] at hx; exact ⟨n, rfl, (Option.some.inj hx).symm⟩
      refine ⟨rfl, ?_⟩
      dsimp only [tYes]
      rw [if_pos rfl]
      refine ⟨_, rfl, n, rfl, _, h1, ?_, ?_, ?_⟩
      · rw [List.length_map, List.length_take]
        exact Nat.lt_of_le_of_lt (Nat.min_le_right _ _) (Nat.lt_of_le_of_lt hl (by decide))
      · rw [upd_same, take_map_snoc _ _ _ _ hn]
      · intro b o e
        rw [upd_ne (ne_of_none e hcl)]
        exact h2 b o e
    rintro H1 ⟨h1, h2⟩
    rw [List.length_map, List.take_length] at h1
    have h1 : H1 cl = some (.lst ((ns.map fun n => if n < 0 then -n else n).map V.int)) := by rw [h1, List.map_map]; rfl
    have hlc : (ns.map fun n => if n < 0 then -n else n).length ≤ 63 := by rw [List.length_map]; exact hl
    generalize (ns.map fun n => if n < 0 then -n else n) = cells at h1 hlc
    refine ⟨_, rfl, cl, rfl, ⟨_, SqL.of h1⟩, fun lg hlg => lc_list (K := K) (a := cl) (xs := cells.map V.int) (fun i H' => H' lg = some (.lst ((((cells.take i).filter fun c => decide ((1000000000000000000 : Int) ≤ c)).map fun c => c - 1000000000000000000).map V.int)) ∧ Same H1 H') ⟨upd_same, Same.new hlg⟩ (fun i H' _ h => h.2.seq (SqL.of h1)) ?_ ?_⟩
    · rintro i x H' hx ⟨h3, h4⟩
      obtain ⟨n, hn, rfl⟩ : ∃ n, cells[i]? = some n ∧ x = V.int n := by
        rw [List.getElem?_map] at hx
        cases e : cells[i]? with
        | none => rw [e] at hx; cases hx
        | some n => rw [e] at hx; exact ⟨n, rfl, (Option.some.inj hx).symm⟩
      have et : cells.take (i + 1) = cells.take i ++ [n] := by rw [List.take_add_one, hn]; rfl
      refine ⟨rfl, _, rfl, _, _, rfl, rfl, ⟨by decide, by decide, by decide⟩, _, _, rfl, rfl, _, rfl, ?_⟩
      rw [show ((10 : Int) ^ (18 : Int).toNat) = 1000000000000000000 by decide, et, List.filter_append]
      by_cases c : (1000000000000000000 : Int) ≤ n
      · rw [show decide ((1000000000000000000 : Int) ≤ n) = true from decide_eq_true c]
        dsimp only
        rw [if_pos rfl]
        refine ⟨_, rfl, _, _, rfl, rfl, ⟨by decide, by decide, by decide⟩, _, _, rfl, rfl, _, h3, ?_, ?_, ?_⟩
        · rw [List.length_map, List.length_map]
          refine Nat.lt_of_le_of_lt (Nat.le_trans (List.length_filter_le _ _) ?_) (show 63 < sizeLine by decide)
          rw [List.length_take]
          omega
        · rw [upd_same]
          simp [c]
        · intro b o e
          rw [upd_ne (ne_of_none e hlg)]
          exact h4 b o e
      · rw [show decide ((1000000000000000000 : Int) ≤ n) = false from decide_eq_false c]
        dsimp only
        rw [if_neg Bool.false_ne_true]
        refine ⟨?_, h4⟩
        simpa [c] using h3
    rintro H2 ⟨h3, h4⟩
    intro st hst
    refine ⟨_, rfl, _, rfl, upd_same, stKv lg cl 0 0, rfl, (by show 4 ≤ 15; decide), ?_⟩
    rw [st_merge]
    have hne : cl ≠ lg := ne_of_none h1 hlg
    have h5 := h4 cl _ h1
    rw [List.length_map, List.take_length] at h3
    have hp : ∀ x ∈ (cells.filter fun c => decide ((1000000000000000000 : Int) ≤ c)).map (fun c => c - 1000000000000000000), 0 ≤ x := by
      intro x hx
      obtain ⟨c, hc, rfl⟩ := List.mem_map.mp hx
      have := (List.mem_filter.mp hc).2
      simp at this
      omega
    generalize (cells.filter fun c => decide ((1000000000000000000 : Int) ≤ c)).map (fun c => c - 1000000000000000000) = large at h3 hp
    have n1 : lg ≠ st := ne_of_none h3 hst
    have n2 : cl ≠ st := ne_of_none h5 hst
    have same : Same H (upd (upd H2 st (.dK [])) st (.dK (stKv lg cl 0 0))) := fun b o e => by
      have e2 := h4 b o (h2 b o e)
      rw [upd_upd, upd_ne (ne_of_none e2 hst)]
      exact e2
    refine k st lg cl _ ⟨large, cells, 0, 0, ⟨upd_same, ?_, ?_, hne.symm, hp, Int.le_refl _⟩, Nat.le_refl _⟩ same ((h2.trans h4).free hst) (h2.free hlg)
    · rw [upd_upd, upd_ne n1]
      exact h3
    · rw [upd_upd, upd_ne n2]
      exact h5
end
end K02
namespace K02
open PySem PySem.Spec PyProof.Rows L2 PySem.W LamX KA KW KU
/-- BadStream, the error that carries the index -/
structure StreamT (P : Program) (w : World) (K : PySem.W.Frag) (mg : Str → Option Value) (R : Addr) where
  C : Addr
  fI : Addr
  cda : Addr
  cc : Addr
  e : Expr
  g : mg "BadStream" = some (.ref C)
  u : UpTxt P K C fI cda cc "BadStream.__init__" "at" e
  r : PySem.W.subIn K (.ref C) (.ref R) = some true
  x : ExcC K C
  say : ∀ (i : Int) (t : Tok), i.natAbs ≤ 1000000 → Text P w fI cda cc "BadStream.__init__" "at" e (.int i t)
theorem exd_exm {P : Program} {w : World} {K : PySem.W.Frag} {mg : Str → Option Value} (R : ReelT K mg) (S : StreamT P w K mg R.C) : PySem.W.exmOne K (.ref S.C) (.ref R.C) = some true := PySem.W.exm_ref R.b R.d R.t S.r
theorem kit_own {K : PySem.W.Frag} {C : Addr} : PySem.W.kitOne K (.ref C) (.ref C) = some true := by
  unfold PySem.W.kitOne
  rw [if_pos (by simp)]
section
variable {P : Program} {w : World} {K : PySem.W.Frag} {mg : Str → Option Value} {base : Heap} (T : Top K mg)
variable {fs : List Addr} {H0 : Hp} {h0 : Heap} {k : Nat} {f c' : Addr} {q : Str} {t : XK → Hp → VK → Prop}
theorem ok_caughtW (Wk : Work P w K mg base k fs H0 h0 f c' q t) : FnW P w K mg base fs H0 h0 (L2.CX P w) (k + 2) T._law_caught.a T._law_caught.d ["work"] (spCaughtW K T.reel.C f c' q t) :=
  caught_work Wk T._law_caught.f sc__law_caught rfl rfl rfl rfl rfl T.reel.g (by decide) (by decide) (by decide) (by decide) (by decide) (by decide) (by decide)
/-- _law_is_due(work, due, spot) -/
def Told (K : PySem.W.Frag) (CB c' : Addr) (q : Str) (t : XK → Hp → VK → Prop) (due : V) (i : Int) (Q : VK) : VK := fun cv H1 =>
  (due = .non ∧ ∃ a d, cv = .ref a ∧ H1 a = some (ExV (.ref CB) (some d) a) ∧ H1 d = some (.xd [("at", .int i)]) ∧ Q (.bl true) H1) ∨
  (∃ (p : Addr) (x : PyData), due = .ref p ∧ cv = .non ∧ H1 c' = some (CodeO c' q) ∧ x.showable = true ∧ x.hasDict = false ∧ x.depth ≤ 60 ∧ x.shown.length ≤ sizeLine ∧
    ∀ G : VK, (∀ p2 H2, Dp K H2 (.ref p) x → Dp K H2 (.ref p2) x → Q (.bl true) H2 → G (.ref p2) H2) → t E0 H1 G)
def spDue (K : PySem.W.Frag) (CS CB f c' : Addr) (q : Str) (t : XK → Hp → VK → Prop) : Sp := fun vs H Q _ => ∃ (due : V) (i : Int), vs = [.ref f, due, .int i] ∧ H c' = some (CodeO c' q) ∧ ∀ G : VK, (∀ cv H1, Told K CB c' q t due i Q cv H1 → G cv H1) → TCaught K CS t H G
theorem ok_is_due (BS : StreamT P w K mg T.reel.C) (Wk : Work P w K mg base k fs H0 h0 f c' q t) : FnW P w K mg base fs H0 h0 (L2.CX P w) (k + 3) T._law_is_due.a T._law_is_due.d ["work", "due", "spot"] (spDue K T.reel.C BS.C f c' q t) := by
  refine fnW_of T._law_is_due.f sc__law_is_due (fun vs H Q E h => ?_) (fun cdv A outer s H vs Q E hr hg Sn h => ?_)
  · obtain ⟨due, i, rfl, _⟩ := h
    rfl
  · obtain ⟨due, i, rfl, hc, hT⟩ := h
    refine ⟨_, pss_cons (ps_set (i := 3) sc__law_is_due.nd rfl (.inl rfl) (pe_wcall (ok_caughtW T Wk) Sn hr hg (by rfl) T._law_caught.m T._law_caught.f.kp (bd__law_caught T) passE (pa_cons (pv 0) pa_nil)))
      (pss_cons (ps_if (pt_cmpR op_isN (pv 1) pe_non (nomark _))
        (pss_one (ps_ret (pe_and (pe_callB (show CallR _ _ (rIs3 K) from call_is3) (by rfl) T.b_isinstance PyProof.Rows.boot_isinstance (pa_cons (pv 3) (pa_cons (pe_glob (v := .ref BS.C) (by rfl) BS.g rfl) pa_nil)))
          (pe_one (pe_cmpR op_eq (pe_upGet BS.u (pv 3)) (pv 2) (nomark _)))))) pss_nil)
      (pss_one (ps_ret (pe_and (pe_cmpR op_isN (pv 3) pe_non (nomark _)) (pe_one (pe_cmpR op_eq (pe_callB (call_repr hg hr) (by rfl) T.b_repr (by decide +kernel) (pa_cons (pe_work (i := 0) Wk Sn passE (hr.mono (by omega)) rfl (.inl rfl)) pa_nil))
        (pe_callB (call_repr hg hr) (by rfl) T.b_repr (by decide +kernel) (pa_cons (pv 1) pa_nil)) (nomark _))))))), ?_⟩
    refine ⟨_, rfl, rfl, hc, hT _ fun cv H1 h1 => ?_⟩
    clear hT hc
    rcases h1 with ⟨rfl, a, d, rfl, e1, e2, k1⟩ | ⟨p, x, rfl, rfl, e1, s1, s2, s3, s4, k1⟩
    · refine ⟨_, rfl, rfl, _, rfl, ?_⟩
      refine iteT ⟨_, rfl, .inr ⟨a, BS.C, d, _, _, _, true, rfl, e1, e2, BS.x, .own _, kit_own, _, rfl, ?_⟩⟩
      refine iteT ⟨_, rfl, a, d, _, rfl, e1, e2, _, rfl, rfl, ?_⟩
      exact q_bl k1 (decide_eq_true rfl)
    · refine ⟨_, rfl, rfl, _, rfl, ?_⟩
      refine iteF ⟨_, rfl, rfl, _, rfl, ?_⟩
      refine iteT ⟨rfl, e1, k1 _ fun p2 H2 d1 d2 k2 => ⟨p2, x, rfl, d2, s1, s2, s3, s4, _, rfl, p, x, rfl, d1, s1, s2, s3, s4, rfl, ?_⟩⟩
      exact q_bl k2 (decide_eq_true rfl)
end
end K02
namespace K02
open PySem PySem.Spec PyProof.Rows L2 PySem.W LamX KA KW KU
open Evl (pss_cut tCut)
/-! ### the law's own words on bits -/
/-- the number that bits write, the first one the greatest -/
def valL (l : List Nat) : Nat := l.foldl (fun a c => 2 * a + (if c = 49 then 1 else 0)) 0
theorem valL_app (l r : List Nat) : valL (l ++ r) = r.foldl (fun a c => 2 * a + (if c = 49 then 1 else 0)) (valL l) := List.foldl_append
theorem valL_snoc (l : List Nat) (c : Nat) : valL (l ++ [c]) = 2 * valL l + (if c = 49 then 1 else 0) := by rw [valL_app]; rfl
theorem valL_lt : ∀ l : List Nat, valL l < 2 ^ l.length := by
  intro l
  suffices h : ∀ (r l : List Nat), valL l < 2 ^ l.length → valL (l ++ r) < 2 ^ (l ++ r).length by simpa using h l [] (by decide)
  intro r
  induction r with
  | nil => intro l h; simpa using h
  | cons c r ih =>
    intro l h
    have e : l ++ c :: r = (l ++ [c]) ++ r := by simp
    rw [e]
    refine ih _ ?_
    rw [valL_snoc, List.length_append, List.length_singleton, Nat.pow_succ]
    split <;> omega
/-- how many ones stand ahead -/
def onesL (l : List Nat) : Nat := (l.takeWhile (· == 49)).length
/-- over the signs of a text -/
theorem for_signs {x : Str} {g : TG} {tb : TS} {D : Ends} {σ : L2.St} {H : Hp} (Pv : Nat → L2.St → Hp → Prop) (h0 : Pv 0 σ H)
    (hs : ∀ i c σ H, x.cps.toList[i]? = some c → Pv i σ H → g (.str ⟨#[c]⟩) σ H fun σ2 H2 => tb { D with nx := Pv (i + 1), ct := Pv (i + 1), bk := D.nx } σ2 H2) (hd : ∀ σ H, Pv x.cps.toList.length σ H → D.nx σ H) :
    ∃ W : Nat → Nat → L2.St → Hp → Prop, (∃ m, W 0 m σ H) ∧ ∀ i m σ H, W i m σ H →
      ((Its x).stop i H ∧ D.nx σ H) ∨ ((Its x).go i H ∧ ∃ N : L2.St → Hp → Prop, (∀ σ' H', N σ' H' → ∃ m', m' < m ∧ W (i + 1) m' σ' H') ∧ ∀ y H', (Its x).yld i H y H' → g y σ H' fun σ2 H2 => tb { D with nx := N, ct := N, bk := D.nx } σ2 H2) := by
  have sz : x.cps.toList.length = x.cps.size := Array.length_toList
  refine ⟨fun i m σ H => m = x.cps.size - i ∧ i ≤ x.cps.size ∧ Pv i σ H, ⟨x.cps.size, rfl, Nat.zero_le _, h0⟩, ?_⟩
  rintro i m σ H ⟨rfl, hi, p⟩
  by_cases hlt : i < x.cps.size
  · refine .inr ⟨hlt, Pv (i + 1), fun σ' H' p' => ⟨x.cps.size - (i + 1), by omega, rfl, hlt, p'⟩, fun y H' e => ?_⟩
    obtain ⟨rfl, c, hc, rfl⟩ := e
    exact hs i c σ H' (by rw [Array.getElem?_toList]; exact hc) p
  · have e : i = x.cps.size := by omega
    subst e
    exact .inl ⟨Nat.le_refl _, hd σ H (by rw [sz]; exact p)⟩
section
variable {P : Program} {w : World} {K : PySem.W.Frag} {mg : Str → Option Value} {base : Heap} (T : Top K mg)
def spLUnf : Sp := fun vs H Q _ => ∃ i : Int, vs = [.int i] ∧ 0 ≤ i ∧ Q (.int (unfoldI i)) H
theorem ok_lunfold : FnOk P w K mg base (L2.CX P w) 1 T._law_unfold.a T._law_unfold.d ["told"] spLUnf := by
  refine T._law_unfold.f.okX sc__law_unfold (fun vs H Q E h => ?_) (fun cdv A outer s H vs Q E hr h => ?_)
  · obtain ⟨i, rfl, _⟩ := h
    rfl
  · obtain ⟨i, rfl, h0, k⟩ := h
    refine ⟨_, pss_one (ps_ret (pe_ifExp (pt_cmpR op_eq (pe_op op_mod (pe_callTy call_int1 (by rfl) T.b_int PyProof.Rows.boot_int (pa_cons (pv 0) pa_nil)) pe_int) pe_int (nomark _)) (pe_op op_add (pe_op op_fdiv (pv 0) pe_int) pe_int) (pe_op op_sub pe_int (pe_op op_fdiv (pv 0) pe_int)))), ?_⟩
    refine ⟨_, rfl, .inl ⟨i, rfl, _, _, rfl, rfl, (by show (0 : Int) < 2; decide), rfl, _, rfl, ?_⟩⟩
    have hb : Builtin.bitAnd i 1 = i % 2 := PyProof.Rows.bitAnd_m1 i
    by_cases c : i % 2 = 1
    · rw [show decide (V.int (i % 2) = V.int 1) = true from decide_eq_true (congrArg V.int c)]
      refine iteT ⟨_, rfl, _, _, rfl, rfl, ⟨by decide, by decide⟩, _, _, rfl, rfl, ?_⟩
      refine q_int k ?_
      unfold unfoldI
      rw [hb, c, if_pos (by decide)]
      omega
    · rw [show decide (V.int (i % 2) = V.int 1) = false from decide_eq_false fun z => c (V.int.inj z)]
      refine iteF ⟨_, rfl, _, _, rfl, rfl, ⟨by decide, by decide⟩, _, _, rfl, rfl, ?_⟩
      refine q_int k ?_
      have c0 : i % 2 = 0 := by omega
      unfold unfoldI
      rw [hb, c0, if_neg (by decide)]
      omega
def spValue : Sp := fun vs H Q _ => ∃ s : Str, vs = [.str s] ∧ s.length ≤ 100000 ∧ Q (.int (valL s.cps.toList)) H
theorem ok_value : FnOk P w K mg base (L2.CX P w) 1 T._law_value.a T._law_value.d ["signs"] spValue := by
  refine T._law_value.f.okX sc__law_value (fun vs H Q E h => ?_) (fun cdv A outer s H vs Q E hr h => ?_)
  · obtain ⟨z, rfl, _⟩ := h
    rfl
  · obtain ⟨z, rfl, hl, k⟩ := h
    refine ⟨_, pss_cons (ps_set (i := 1) sc__law_value.nd rfl (.inl rfl) pe_int)
      (pss_cons (ps_for (passes_of rfl) rfl (pi_str (pv 0)) (pg_name (i := 2) sc__law_value.nd rfl (.inl rfl))
        (pss_one (ps_set (i := 1) sc__law_value.nd rfl (.inl rfl) (pe_op op_add (pe_op op_mul pe_int (pv 1)) (pe_callTy call_int1 (by rfl) T.b_int PyProof.Rows.boot_int (pa_cons (pe_cmpR op_eq (pv 2) pe_str (nomark _)) pa_nil))))))
      (pss_one (ps_ret (pv 1)))), ?_⟩
    refine ⟨_, rfl, z, rfl, for_signs (x := z) (fun i σ H' => H' = H ∧ ∃ v, σ = [some (.str z), some (.int ((valL (z.cps.toList.take i) : Nat) : Int)), v]) ⟨rfl, none, rfl⟩ ?_ ?_⟩
    · rintro i c σ H' hc ⟨rfl, v, rfl⟩
      refine ⟨_, rfl, _, _, rfl, rfl, .inl ⟨by decide, by decide⟩, _, rfl, rfl, .inr ⟨_, rfl, _, _, rfl, rfl, ?_⟩⟩
      refine ⟨rfl, some (.str ⟨#[c]⟩), ?_⟩
      have e1 : z.cps.toList.take (i + 1) = z.cps.toList.take i ++ [c] := by rw [List.take_add_one, hc]; rfl
      have e2 : decide (V.str ⟨#[c]⟩ = V.str "1") = decide (c = 49) := by
        rw [decide_eq_decide]
        constructor
        · intro q
          have q := congrArg Str.cps (V.str.inj q)
          have o : ("1" : Str).cps = #[49] := rfl
          rw [o] at q
          simpa using q
        · rintro rfl
          rfl
      show [some (V.str z), some (V.int (2 * ((valL (z.cps.toList.take i) : Nat) : Int) + (if decide (V.str ⟨#[c]⟩ = V.str "1") = true then 1 else 0))), some (V.str ⟨#[c]⟩)] = _
      rw [e1, valL_snoc, e2]
      by_cases d : c = 49
      · rw [if_pos (decide_eq_true d), if_pos d]
        simp
      · rw [if_neg (by simpa using d), if_neg d]
        simp
    · rintro σ H' ⟨rfl, v, rfl⟩
      exact ⟨_, rfl, q_int k (by rw [List.take_length])⟩
end
end K02
namespace K02
open PySem PySem.Spec PyProof.Rows L2 PySem.W LamX KA KW KU
open Evl (pss_cut tCut)
theorem cut_nat (z : Str) (a b : Nat) : cutS z (some (a : Int)) (some (b : Int)) = ⟨((z.cps.toList.drop a).take (b - a)).toArray⟩ := by
  have sz : z.length = z.cps.toList.length := by simp [Str.length]
  unfold cutS
  rw [HT.sIx_nat, HT.sIx_nat, sz]
  congr 1
  congr 1
  generalize z.cps.toList = l
  by_cases h : a ≤ l.length
  · rw [Nat.min_eq_left h]
    by_cases h2 : b ≤ l.length
    · rw [Nat.min_eq_left h2]
    · rw [Nat.min_eq_right (by omega), List.take_of_length_le (by rw [List.length_drop]; exact Nat.le_refl _), List.take_of_length_le (by rw [List.length_drop]; omega)]
  · have ea : min a l.length = l.length := Nat.min_eq_right (by omega)
    rw [ea, List.drop_of_length_le (Nat.le_refl _), List.drop_of_length_le (show l.length ≤ a by omega)]
    simp
theorem ones_at : ∀ (l : List Nat) (n : Nat), n ≤ onesL l → ((l.drop n).take 1 = [49] ↔ n < onesL l)
  | [], n, h => by
    have e : onesL [] = 0 := rfl
    rw [e] at h ⊢
    simp
  | c :: r, n, h => by
    by_cases d : c = 49
    · subst d
      have e : onesL (49 :: r) = onesL r + 1 := by simp [onesL]
      rw [e] at h ⊢
      cases n with
      | zero => simp
      | succ n =>
        rw [List.drop_succ_cons, ones_at r n (by omega)]
        omega
    · have e : onesL (c :: r) = 0 := by simp [onesL, d]
      rw [e] at h ⊢
      have : n = 0 := by omega
      subst this
      simp [d]
theorem onesL_le (l : List Nat) : onesL l ≤ l.length := by
  unfold onesL
  exact (List.takeWhile_prefix _).length_le
section
variable {P : Program} {w : World} {K : PySem.W.Frag} {mg : Str → Option Value} {base : Heap} (T : Top K mg)
def spOnes : Sp := fun vs H Q _ => ∃ (z : Str) (a : Nat), vs = [.str z, .int a] ∧ z.length ≤ 100000 ∧ Q (.int (onesL (z.cps.toList.drop a) : Nat)) H
theorem ok_ones : FnOk P w K mg base (L2.CX P w) 1 T._law_ones.a T._law_ones.d ["signs", "spot"] spOnes := by
  refine T._law_ones.f.okX sc__law_ones (fun vs H Q E h => ?_) (fun cdv A outer s H vs Q E hr h => ?_)
  · obtain ⟨z, a, rfl, _⟩ := h
    rfl
  · obtain ⟨z, a, rfl, hl, k⟩ := h
    refine ⟨_, pss_cons (ps_set (i := 2) sc__law_ones.nd rfl (.inl rfl) pe_int)
      (pss_cons (ps_while (passes_of rfl) (pt_cmpR op_eq (pe_slice sl_str (pv 0) (po_some (pe_op op_add (pv 1) (pv 2))) (po_some (pe_op op_add (pe_op op_add (pv 1) (pv 2)) pe_int))) pe_str (nomark _))
        (pss_one (ps_set (i := 2) sc__law_ones.nd rfl (.inl rfl) (pe_op op_add (pv 2) pe_int))))
      (pss_one (ps_ret (pv 2)))), ?_⟩
    generalize hL : z.cps.toList.drop a = l at k
    refine ⟨fun m σ H' => H' = H ∧ ∃ n : Nat, n ≤ onesL l ∧ m = onesL l - n ∧ σ = [some (.str z), some (.int (a : Int)), some (.int (n : Int))], ⟨onesL l, rfl, 0, Nat.zero_le _, rfl, rfl⟩, ?_⟩
    rintro m σ H' ⟨rfl, n, h1, rfl, rfl⟩
    refine ⟨_, rfl, _, rfl, _, rfl, _, _, rfl, rfl, _, rfl, _, rfl, _, rfl, _, _, rfl, rfl, _, _, rfl, rfl, _, rfl, z, rfl, Nat.le_trans hl (by decide), rfl, _, rfl, ?_⟩
    have cut : cutS z (some ((a : Int) + n)) (some ((a : Int) + n + 1)) = ⟨((l.drop n).take 1).toArray⟩ := by
      have e := cut_nat z (a + n) (a + n + 1)
      rw [show a + n + 1 - (a + n) = 1 by omega, ← List.drop_drop, hL] at e
      exact e
    rw [cut]
    have one : decide (V.str ⟨((l.drop n).take 1).toArray⟩ = V.str "1") = decide (n < onesL l) := by
      rw [decide_eq_decide, ← ones_at l n h1]
      have o : ("1" : Str) = ⟨[49].toArray⟩ := rfl
      rw [o]
      constructor
      · intro q
        have q := congrArg Array.toList (congrArg Str.cps (V.str.inj q))
        simpa using q
      · intro q
        rw [q]
    rw [one]
    by_cases c : n < onesL l
    · rw [decide_eq_true c]
      exact iteT ⟨fun σ' H'' => H'' = H' ∧ σ' = [some (.str z), some (.int (a : Int)), some (.int ((n + 1 : Nat) : Int))], fun σ' H'' ⟨e1, e2⟩ => ⟨onesL l - (n + 1), by omega, e1, n + 1, c, rfl, e2⟩, _, rfl, _, _, rfl, rfl, rfl, rfl⟩
    · rw [decide_eq_false c]
      have e : n = onesL l := by omega
      refine iteF ⟨_, rfl, ?_⟩
      rw [← e] at k
      exact k
end
end K02
namespace K02
open PySem PySem.Spec PyProof.Rows L2 PySem.W LamX KA KW KU
open Evl (pss_cut tCut)
/-- what a word is due to be: its number and where it ends -/
def longDue (l : List Nat) (a : Nat) : Option (Int × Nat) :=
  if 15 < onesL (l.drop a) ∨ l.length < a + 2 * onesL (l.drop a) + 1 then none
  else some (unfoldI (((2 ^ onesL (l.drop a) + valL ((l.drop (a + onesL (l.drop a) + 1)).take (onesL (l.drop a))) : Nat) : Int) - 1), a + 2 * onesL (l.drop a) + 1)
/-- None, or a pair -/
def DueQ (d : Option (Int × Nat)) (H : Hp) (Q : VK) : Prop := match d with
  | none => Q .non H
  | some (i, b) => ∀ p, H p = none → Q (.ref p) (upd H p (.tup [.int i, .int b]))
section
variable {P : Program} {w : World} {K : PySem.W.Frag} {mg : Str → Option Value} {base : Heap} (T : Top K mg)
def spLongDue : Sp := fun vs H Q _ => ∃ (z : Str) (a : Nat), vs = [.str z, .int a] ∧ z.length ≤ 1000 ∧ a ≤ 1000 ∧ DueQ (longDue z.cps.toList a) H Q
theorem ok_long_due : FnOk P w K mg base (L2.CX P w) 2 T._law_long_due.a T._law_long_due.d ["signs", "spot"] spLongDue := by
  refine T._law_long_due.f.okX sc__law_long_due (fun vs H Q E h => ?_) (fun cdv A outer s H vs Q E hr h => ?_)
  · obtain ⟨z, a, rfl, _⟩ := h
    rfl
  · obtain ⟨z, a, rfl, hl, ha, k⟩ := h
    have sz : z.length = z.cps.toList.length := by simp [Str.length]
    refine ⟨_, pss_cons (ps_set (i := 2) sc__law_long_due.nd rfl (.inl rfl) (pe_call (ok_ones T) hr (by rfl) T._law_ones.m T._law_ones.f.kp (bd__law_ones T) .nil passE (pa_cons (pv 0) (pa_cons (pv 1) pa_nil))))
      (pss_cons (ps_set (i := 3) sc__law_long_due.nd rfl (.inl rfl) (pe_op op_add (pe_op op_add (pv 1) (pe_op op_mul pe_int (pv 2))) pe_int))
      (pss_cons (ps_if (PW.pt (pw_or (pt_cmpR op_gt (pv 2) pe_int (nomark _)) (pw_or1 (pt_cmpR op_gt (pv 3) (pe_callB call_len_str (by rfl) T.b_len PySem.boot_len (pa_cons (pv 0) pa_nil)) (nomark _))))) (pss_one (ps_ret pe_non)) pss_nil)
      (pss_one (ps_ret (pe_tup (pa_cons (pe_call (ok_lunfold T) hr (by rfl) T._law_unfold.m T._law_unfold.f.kp (bd__law_unfold T) .nil passE (pa_cons (pe_op op_sub (pe_op op_add (pe_call (ok_two T) hr (by rfl) T._law_two.m T._law_two.f.kp (bd__law_two T) .nil passE (pa_cons (pv 2) pa_nil))
        (pe_call (ok_value T) hr (by rfl) T._law_value.m T._law_value.f.kp (bd__law_value T) .nil passE (pa_cons (pe_slice sl_str (pv 0) (po_some (pe_op op_add (pe_op op_add (pv 1) (pv 2)) pe_int)) (po_some (pv 3))) pa_nil))) pe_int) pa_nil)) (pa_cons (pv 3) pa_nil))))))), ?_⟩
    refine ⟨_, rfl, _, rfl, z, a, rfl, Nat.le_trans hl (by decide), ?_⟩
    have hlen : onesL (z.cps.toList.drop a) ≤ 1000 := by
      have := onesL_le (z.cps.toList.drop a)
      rw [List.length_drop] at this
      omega
    unfold longDue at k
    rw [← sz] at k
    generalize hn : onesL (z.cps.toList.drop a) = n at k hlen
    refine ⟨_, rfl, _, rfl, _, _, rfl, rfl, .inl ⟨by decide, by decide⟩, _, _, rfl, rfl, _, _, rfl, rfl, ?_⟩
    refine ⟨_, rfl, _, _, rfl, rfl, _, rfl, ?_⟩
    by_cases c : 15 < n
    · rw [show decide ((15 : Int) < (n : Int)) = true from decide_eq_true (by omega)]
      rw [if_pos (.inl c)] at k
      exact iteT (iteT k)
    rw [show decide ((15 : Int) < (n : Int)) = false from decide_eq_false (by omega)]
    refine iteF ⟨_, rfl, _, rfl, z, rfl, Nat.le_trans hl (by decide), _, _, rfl, rfl, _, rfl, ?_⟩
    by_cases d : z.length < a + 2 * n + 1
    · rw [show decide ((z.length : Int) < (a : Int) + 2 * n + 1) = true from decide_eq_true (by omega)]
      rw [if_pos (.inr d)] at k
      exact iteT k
    rw [show decide ((z.length : Int) < (a : Int) + 2 * n + 1) = false from decide_eq_false (by omega)]
    rw [if_neg (fun q => q.elim c d)] at k
    refine iteF ⟨_, rfl, n, rfl, hlen, _, rfl, _, rfl, _, rfl, _, _, rfl, rfl, _, _, rfl, rfl, _, rfl, _, rfl, _, rfl, z, rfl, Nat.le_trans hl (by decide), ?_⟩
    have cut : cutS z (some ((a : Int) + n + 1)) (some ((a : Int) + 2 * n + 1)) = ⟨((z.cps.toList.drop (a + n + 1)).take n).toArray⟩ := by
      have e := cut_nat z (a + n + 1) (a + 2 * n + 1)
      rw [show a + 2 * n + 1 - (a + n + 1) = n by omega] at e
      rw [← e]
      congr 2 <;> simp
    dsimp only
    rw [cut]
    refine ⟨_, rfl, ?_, _, _, rfl, rfl, _, _, rfl, rfl, _, rfl, ?_, ?_⟩
    · refine Nat.le_trans (?_ : _ ≤ z.length) (Nat.le_trans hl (by decide))
      rw [← cut]
      exact cutS_length _ _ _
    · show (0 : Int) ≤ ((2 ^ n : Nat) : Int) + ((valL _ : Nat) : Int) - 1
      have : 1 ≤ 2 ^ n := Nat.pow_pos (by decide)
      omega
    · refine ⟨_, rfl, (by show 2 ≤ sizeLine; decide), fun p hp => ?_⟩
      have q := k p hp
      rw [show (((2 ^ n + valL ((z.cps.toList.drop (a + n + 1)).take n) : Nat) : Int) - 1) = ((2 ^ n : Nat) : Int) + ((valL ((z.cps.toList.drop (a + n + 1)).take n) : Nat) : Int) - 1 by simp, show ((a + 2 * n + 1 : Nat) : Int) = (a : Int) + 2 * n + 1 by simp] at q
      exact q
end
end K02
namespace K02
open PySem PySem.Spec PyProof.Rows L2 PySem.W LamX KA KW KU
open Evl (pss_cut tCut)
def gradeDue (l : List Nat) (a g : Nat) : Option (Int × Nat) :=
  if 12 ≤ onesL (l.drop a) then
    (if l.length < a + 28 then none else if 12 * 2 ^ g ≤ valL ((l.drop (a + 12)).take 16) ∧ valL ((l.drop (a + 12)).take 16) < 65535 then some (unfoldI ((valL ((l.drop (a + 12)).take 16) : Nat) : Int), a + 28) else none)
  else if l.length < a + onesL (l.drop a) + (1 + g) then none
  else some (unfoldI ((onesL (l.drop a) * 2 ^ g + valL ((l.drop (a + onesL (l.drop a) + 1)).take g) : Nat) : Int), a + onesL (l.drop a) + (1 + g))
section
variable {P : Program} {w : World} {K : PySem.W.Frag} {mg : Str → Option Value} {base : Heap} (T : Top K mg)
def spGradeDue : Sp := fun vs H Q _ => ∃ (z : Str) (a g : Nat), vs = [.str z, .int a, .int g] ∧ z.length ≤ 1000 ∧ a ≤ 1000 ∧ g ≤ 7 ∧ DueQ (gradeDue z.cps.toList a g) H Q
theorem ok_grade_due : FnOk P w K mg base (L2.CX P w) 2 T._law_grade_due.a T._law_grade_due.d ["signs", "spot", "rung"] spGradeDue := by
  refine T._law_grade_due.f.okX sc__law_grade_due (fun vs H Q E h => ?_) (fun cdv A outer s H vs Q E hr h => ?_)
  · obtain ⟨z, a, g, rfl, _⟩ := h
    rfl
  · obtain ⟨z, a, g, rfl, hl, ha, hg, k⟩ := h
    have sz : z.length = z.cps.toList.length := by simp [Str.length]
    refine ⟨_, pss_cons (ps_set (i := 3) sc__law_grade_due.nd rfl (.inl rfl) (pe_callB (call_min2 rfl) (by rfl) T.b_min PyProof.Rows.boot_min (pa_cons (pe_call (ok_ones T) hr (by rfl) T._law_ones.m T._law_ones.f.kp (bd__law_ones T) .nil passE (pa_cons (pv 0) (pa_cons (pv 1) pa_nil))) (pa_cons pe_int pa_nil))))
      (pss_cons (ps_set (i := 4) sc__law_grade_due.nd rfl (.inl rfl) (pe_op op_add (pe_op op_add (pv 1) (pv 3)) (pe_ifExp (pt_cmpR op_eq (pv 3) pe_int (nomark _)) pe_int (pe_op op_add pe_int (pv 2)))))
      (pss_cons (ps_if (pt_cmpR op_gt (pv 4) (pe_callB call_len_str (by rfl) T.b_len PySem.boot_len (pa_cons (pv 0) pa_nil)) (nomark _)) (pss_one (ps_ret pe_non)) pss_nil)
      (pss_cons (ps_if (pt_cmpR op_eq (pv 3) pe_int (nomark _))
        (pss_cons (ps_set (i := 5) sc__law_grade_due.nd rfl (.inl rfl) (pe_call (ok_value T) hr (by rfl) T._law_value.m T._law_value.f.kp (bd__law_value T) .nil passE (pa_cons (pe_slice sl_str (pv 0) (po_some (pe_op op_add (pv 1) pe_int)) (po_some (pv 4))) pa_nil)))
        (pss_one (ps_ret (pe_ifExp (pt_chain op_le op_lt (pe_op op_mul pe_int (pe_call (ok_two T) hr (by rfl) T._law_two.m T._law_two.f.kp (bd__law_two T) .nil passE (pa_cons (pv 2) pa_nil))) (pv 5) pe_int)
          (pe_tup (pa_cons (pe_call (ok_lunfold T) hr (by rfl) T._law_unfold.m T._law_unfold.f.kp (bd__law_unfold T) .nil passE (pa_cons (pv 5) pa_nil)) (pa_cons (pv 4) pa_nil))) pe_non)))) pss_nil)
      (pss_one (ps_ret (pe_tup (pa_cons (pe_call (ok_lunfold T) hr (by rfl) T._law_unfold.m T._law_unfold.f.kp (bd__law_unfold T) .nil passE (pa_cons (pe_op op_add (pe_op op_mul (pv 3) (pe_call (ok_two T) hr (by rfl) T._law_two.m T._law_two.f.kp (bd__law_two T) .nil passE (pa_cons (pv 2) pa_nil)))
        (pe_call (ok_value T) hr (by rfl) T._law_value.m T._law_value.f.kp (bd__law_value T) .nil passE (pa_cons (pe_slice sl_str (pv 0) (po_some (pe_op op_add (pe_op op_add (pv 1) (pv 3)) pe_int)) (po_some (pv 4))) pa_nil))) pa_nil)) (pa_cons (pv 4) pa_nil)))))))), ?_⟩
    have hlen : onesL (z.cps.toList.drop a) ≤ 1000 := by
      have := onesL_le (z.cps.toList.drop a)
      rw [List.length_drop] at this
      omega
    unfold gradeDue at k
    rw [← sz] at k
    refine ⟨_, rfl, _, rfl, z, a, rfl, Nat.le_trans hl (by decide), ?_⟩
    generalize hn : onesL (z.cps.toList.drop a) = n at k hlen
    refine ⟨_, _, rfl, ?_⟩
    by_cases c : 12 ≤ n
    · rw [if_pos c] at k
      have em : (if (12 : Int) < (n : Int) then (12 : Int) else (n : Int)) = 12 := by split <;> omega
      show tSeq _ _ _ [some (V.str z), some (V.int a), some (V.int g), some (V.int (if (12 : Int) < (n : Int) then (12 : Int) else (n : Int))), none, none] H
      rw [em]
      refine ⟨_, rfl, _, rfl, _, _, rfl, rfl, _, rfl, rfl, _, rfl, ?_⟩
      refine iteT ⟨_, _, rfl, rfl, ?_⟩
      refine ⟨_, rfl, _, rfl, z, rfl, Nat.le_trans hl (by decide), _, _, rfl, rfl, _, rfl, ?_⟩
      by_cases d : z.length < a + 28
      · rw [show decide ((z.length : Int) < (a : Int) + 12 + 16) = true from decide_eq_true (by omega)]
        rw [if_pos d] at k
        exact iteT k
      rw [show decide ((z.length : Int) < (a : Int) + 12 + 16) = false from decide_eq_false (by omega)]
      rw [if_neg d] at k
      refine iteF ⟨_, rfl, rfl, _, rfl, ?_⟩
      refine iteT ⟨_, rfl, _, rfl, _, _, rfl, rfl, _, rfl, _, rfl, _, rfl, z, rfl, Nat.le_trans hl (by decide), ?_⟩
      have cut : cutS z (some ((a : Int) + 12)) (some ((a : Int) + 12 + 16)) = ⟨((z.cps.toList.drop (a + 12)).take 16).toArray⟩ := by
        have e := cut_nat z (a + 12) (a + 12 + 16)
        rw [show a + 12 + 16 - (a + 12) = 16 by omega] at e
        exact e
      dsimp only
      rw [cut]
      refine ⟨_, rfl, ?_, ?_⟩
      · refine Nat.le_trans (?_ : _ ≤ z.length) (Nat.le_trans hl (by decide))
        rw [← cut]
        exact cutS_length _ _ _
      show tRet _ _ [some (V.str z), some (V.int a), some (V.int g), some (V.int 12), some (V.int ((a : Int) + 12 + 16)), some (V.int ((valL ((z.cps.toList.drop (a + 12)).take 16) : Nat) : Int))] H
      generalize valL ((z.cps.toList.drop (a + 12)).take 16) = t at k
      by_cases c1 : 12 * 2 ^ g ≤ t
      · have e1 : decide ((12 : Int) * ((2 ^ g : Nat) : Int) ≤ (t : Int)) = true := decide_eq_true (by exact_mod_cast c1)
        rcases Nat.lt_or_ge t 65535 with c2 | c2
        · have e2 : decide ((t : Int) < 65535) = true := decide_eq_true (by omega)
          rw [if_pos ⟨c1, c2⟩] at k
          refine ⟨_, rfl, g, rfl, by omega, _, _, rfl, rfl, .inl ⟨by decide, by decide⟩, _, rfl, _, _, rfl, rfl, true, congrArg V.bl e1, ?_⟩
          refine iteT ⟨_, _, rfl, rfl, true, congrArg V.bl e2, ?_⟩
          refine iteT ⟨_, rfl, _, rfl, by omega, _, rfl, (by show 2 ≤ sizeLine; decide), fun p hp => ?_⟩
          exact k p hp
        · have e2 : decide ((t : Int) < 65535) = false := decide_eq_false (by omega)
          rw [if_neg (fun q => absurd q.2 (Nat.not_lt.mpr c2))] at k
          refine ⟨_, rfl, g, rfl, by omega, _, _, rfl, rfl, .inl ⟨by decide, by decide⟩, _, rfl, _, _, rfl, rfl, true, congrArg V.bl e1, ?_⟩
          refine iteT ⟨_, _, rfl, rfl, false, congrArg V.bl e2, ?_⟩
          exact iteF k
      · have e1 : decide ((12 : Int) * ((2 ^ g : Nat) : Int) ≤ (t : Int)) = false := decide_eq_false (by exact_mod_cast c1)
        rw [if_neg (fun q => c1 q.1)] at k
        refine ⟨_, rfl, g, rfl, by omega, _, _, rfl, rfl, .inl ⟨by decide, by decide⟩, _, rfl, _, _, rfl, rfl, false, congrArg V.bl e1, ?_⟩
        refine iteF ⟨_, rfl, ?_⟩
        exact iteF k
    · rw [if_neg c] at k
      have em : (if (12 : Int) < (n : Int) then (12 : Int) else (n : Int)) = n := by split <;> omega
      show tSeq _ _ _ [some (V.str z), some (V.int a), some (V.int g), some (V.int (if (12 : Int) < (n : Int) then (12 : Int) else (n : Int))), none, none] H
      rw [em]
      have n12 : decide (V.int (n : Int) = V.int 12) = false := decide_eq_false fun q => by
        have := V.int.inj q
        omega
      refine ⟨_, rfl, _, rfl, _, _, rfl, rfl, _, rfl, rfl, false, congrArg V.bl n12, ?_⟩
      refine iteF ⟨_, rfl, _, _, rfl, rfl, _, _, rfl, rfl, ?_⟩
      by_cases d : z.length < a + n + (1 + g)
      · have e1 : decide ((z.length : Int) < (a : Int) + n + (1 + g)) = true := decide_eq_true (by omega)
        rw [if_pos d] at k
        refine ⟨_, rfl, _, rfl, z, rfl, Nat.le_trans hl (by decide), _, _, rfl, rfl, true, congrArg V.bl e1, ?_⟩
        exact iteT k
      have e1 : decide ((z.length : Int) < (a : Int) + n + (1 + g)) = false := decide_eq_false (by omega)
      rw [if_neg d] at k
      refine ⟨_, rfl, _, rfl, z, rfl, Nat.le_trans hl (by decide), _, _, rfl, rfl, false, congrArg V.bl e1, ?_⟩
      refine iteF ⟨_, rfl, rfl, false, congrArg V.bl n12, ?_⟩
      have cut : cutS z (some ((a : Int) + n + 1)) (some ((a : Int) + n + (1 + g))) = ⟨((z.cps.toList.drop (a + n + 1)).take g).toArray⟩ := by
        have e := cut_nat z (a + n + 1) (a + n + (1 + g))
        rw [show a + n + (1 + g) - (a + n + 1) = g by omega] at e
        exact e
      have hp1 : 1 ≤ 2 ^ g := Nat.pow_pos (by decide)
      have hp2 : 2 ^ g ≤ 128 := Nat.pow_le_pow_right (n := 2) (by decide) hg
      refine iteF ⟨_, rfl, _, rfl, g, rfl, by omega, _, _, rfl, rfl, .inl ⟨?_, ?_⟩, _, rfl, _, rfl, _, rfl, _, _, rfl, rfl, _, _, rfl, rfl, _, rfl, _, rfl, _, rfl, z, rfl, Nat.le_trans hl (by decide), ?_⟩
      · omega
      · omega
      dsimp only
      rw [cut]
      refine ⟨_, rfl, ?_, _, _, rfl, rfl, _, rfl, ?_, _, rfl, (by show 2 ≤ sizeLine; decide), fun p hp => ?_⟩
      · refine Nat.le_trans (?_ : _ ≤ z.length) (Nat.le_trans hl (by decide))
        rw [← cut]
        exact cutS_length _ _ _
      · show (0 : Int) ≤ (n : Int) * ((2 ^ g : Nat) : Int) + ((valL _ : Nat) : Int)
        have : (0 : Int) ≤ (n : Int) * ((2 ^ g : Nat) : Int) := Int.mul_nonneg (by omega) (by omega)
        omega
      · have q := k p hp
        rw [show ((n * 2 ^ g + valL ((z.cps.toList.drop (a + n + 1)).take g) : Nat) : Int) = (n : Int) * ((2 ^ g : Nat) : Int) + ((valL ((z.cps.toList.drop (a + n + 1)).take g) : Nat) : Int) by simp, show ((a + n + (1 + g) : Nat) : Int) = (a : Int) + n + (1 + g) by simp] at q
        exact q
end
end K02
namespace K02
open PySem PySem.Spec PyProof.Rows L2 PySem.W LamX KA KW KU
open Evl (pss_cut tCut)
/-! ### the program: bits read -/
def Ones (s : Str) : Prop := ∀ c ∈ s.cps.toList, c = 48 ∨ c = 49
theorem bin_val : ∀ l : List Nat, (∀ c ∈ l, c = 48 ∨ c = 49) → KI.binNum l = valL l := by
  intro l h
  unfold KI.binNum valL
  suffices g : ∀ (l : List Nat) (a : Nat), (∀ c ∈ l, c = 48 ∨ c = 49) → l.foldl (fun a c => a * 2 + Hx.hv c) a = l.foldl (fun a c => 2 * a + (if c = 49 then 1 else 0)) a from g l 0 h
  intro l
  induction l with
  | nil => intro a _; rfl
  | cons c r ih =>
    intro a h
    rw [List.foldl_cons, List.foldl_cons]
    have e : a * 2 + Hx.hv c = 2 * a + (if c = 49 then 1 else 0) := by
      rcases h c List.mem_cons_self with q | q <;> subst q <;> simp [Hx.hv] <;> omega
    rw [e]
    exact ih _ fun d hd => h d (List.mem_cons_of_mem _ hd)
theorem valL_zero (l : List Nat) : valL (48 :: l) = valL l := rfl
section
variable {P : Program} {w : World} {K : PySem.W.Frag} {mg : Str → Option Value} {base : Heap} (T : Top K mg)
def spTakeF (CB : Addr) : Sp := fun vs H Q E => ∃ (z : Str) (a m : Nat), vs = [.str z, .int a, .int m] ∧ Ones z ∧ z.length ≤ 1000 ∧ a ≤ 1000 ∧ m ≤ 100 ∧
  (z.length < a + m → ∀ d, H d = none → E (.ref CB) (some d) (upd H d (.xd [("at", .int a)]))) ∧
  (a + m ≤ z.length → ∀ p, H p = none → Q (.ref p) (upd H p (.tup [.int ((valL ((z.cps.toList.drop a).take m) : Nat) : Int), .int ((a + m : Nat) : Int)])))
theorem ok_take_fixed (BS : StreamT P w K mg T.reel.C) : FnOk P w K mg base (L2.CX P w) 2 T.take_fixed.a T.take_fixed.d ["bits", "at", "many"] (spTakeF BS.C) := by
  refine T.take_fixed.f.okX sc_take_fixed (fun vs H Q E h => ?_) (fun cdv A outer s H vs Q E hr h => ?_)
  · obtain ⟨z, a, m, rfl, _⟩ := h
    rfl
  · obtain ⟨z, a, m, rfl, ho, hl, ha, hm, k1, k2⟩ := h
    refine ⟨_, pss_cons (ps_set (i := 3) sc_take_fixed.nd rfl (.inl rfl) (pe_op op_add (pv 1) (pv 2)))
      (pss_cons (ps_if (pt_cmpR op_gt (pv 3) (pe_callB call_len_str (by rfl) T.b_len PySem.boot_len (pa_cons (pv 0) pa_nil)) (nomark _)) (pss_one (ps_raiseUp rfl BS.u BS.g hr (takes_of rfl rfl rfl rfl) (pa_cons (pv 1) pa_nil) (by rfl))) pss_nil)
      (pss_one (ps_ret (pe_tup (pa_cons (pe_callTy KI.call_int_bits (by rfl) T.b_int PyProof.Rows.boot_int (pa_cons (pe_op op_add_str pe_str (pe_slice sl_str (pv 0) (po_some (pv 1)) (po_some (pv 3)))) (pa_cons pe_int pa_nil))) (pa_cons (pv 3) pa_nil)))))), ?_⟩
    refine ⟨_, rfl, _, rfl, _, _, rfl, rfl, _, rfl, _, rfl, z, rfl, Nat.le_trans hl (by decide), ?_⟩
    by_cases d : z.length < a + m
    · refine ⟨_, _, rfl, rfl, true, congrArg V.bl (decide_eq_true (by omega)), ?_⟩
      refine iteT ⟨_, rfl, _, rfl, fun v' r => ?_, k1 d⟩
      obtain ⟨t, rfl⟩ := r
      exact BS.say _ t (by omega)
    · refine ⟨_, _, rfl, rfl, false, congrArg V.bl (decide_eq_false (by omega)), ?_⟩
      have cut : cutS z (some (a : Int)) (some ((a : Int) + m)) = ⟨((z.cps.toList.drop a).take m).toArray⟩ := by
        have e := cut_nat z a (a + m)
        rw [show a + m - a = m by omega] at e
        exact e
      refine iteF ⟨_, rfl, _, rfl, _, rfl, _, rfl, _, rfl, z, rfl, Nat.le_trans hl (by decide), ?_⟩
      rw [cut]
      have hb : ∀ c ∈ (z.cps.toList.drop a).take m, c = 48 ∨ c = 49 := fun c hc => ho c (List.mem_of_mem_drop (List.mem_of_mem_take hc))
      have hm2 : ((z.cps.toList.drop a).take m).length ≤ m := by
        rw [List.length_take]
        exact Nat.min_le_left _ _
      have q := k2 (by omega)
      generalize (z.cps.toList.drop a).take m = l at hb hm2 q
      have e0 : (("0" : Str) ++ ⟨l.toArray⟩) = ⟨(48 :: l).toArray⟩ := cons_str 48 l
      refine ⟨_, _, rfl, rfl, ?_, ?_⟩
      · show 1 + l.toArray.size ≤ sizeLine
        rw [List.size_toArray]
        exact Nat.le_trans (show 1 + l.length ≤ 200 by omega) (by decide)
      rw [e0]
      refine ⟨_, rfl, (by simp), ?_, ?_, ?_⟩
      · show (48 :: l).toArray.size ≤ 640
        rw [List.size_toArray, List.length_cons]
        omega
      · intro c hc
        have hc : c ∈ 48 :: l := by simpa using hc
        rcases List.mem_cons.mp hc with e | e
        · exact .inl e
        · exact hb c e
      have e1 : KI.binNum (48 :: l).toArray.toList = valL l := by
        show KI.binNum (48 :: l) = valL l
        rw [bin_val _ fun c hc => ?_, valL_zero]
        rcases List.mem_cons.mp hc with e | e
        · exact .inl e
        · exact hb c e
      rw [e1]
      exact ⟨_, rfl, (by show 2 ≤ sizeLine; decide), fun p hp => q p hp⟩
end
end K02
namespace K02
open PySem PySem.Spec PyProof.Rows L2 PySem.W LamX KA KW KU
open Builtin.Str PySem.StrLaws
/-! ### where the first zero stands -/
theorem ones_is : ∀ (l : List Nat) (n : Nat), (∀ i, i < n → l[i]? = some 49) → l[n]? ≠ some 49 → onesL l = n
  | [], n, h, _ => by
    cases n with
    | zero => rfl
    | succ n => simpa using h 0 (by omega)
  | c :: r, n, h, k => by
    by_cases d : c = 49
    · subst d
      cases n with
      | zero => simp at k
      | succ n =>
        have e : onesL (49 :: r) = onesL r + 1 := by simp [onesL]
        rw [e, ones_is r n (fun i hi => by simpa using h (i + 1) (by omega)) (by simpa using k)]
    · cases n with
      | zero => simp [onesL, d]
      | succ n =>
        have := h 0 (by omega)
        simp at this
        exact absurd this d
theorem ones_char : ∀ l : List Nat, (∀ i, i < onesL l → l[i]? = some 49) ∧ l[onesL l]? ≠ some 49
  | [] => ⟨fun i h => by simp [onesL] at h, by simp⟩
  | c :: r => by
    obtain ⟨h1, h2⟩ := ones_char r
    by_cases d : c = 49
    · subst d
      have e : onesL (49 :: r) = onesL r + 1 := by simp [onesL]
      rw [e]
      refine ⟨fun i hi => ?_, by simpa using h2⟩
      cases i with
      | zero => rfl
      | succ i => simpa using h1 i (by omega)
    · have e : onesL (c :: r) = 0 := by simp [onesL, d]
      rw [e]
      exact ⟨fun i hi => absurd hi (Nat.not_lt_zero _), by simpa using d⟩
theorem at_zero (z : Str) (hi i : Nat) (hh : hi ≤ z.length) : At z "0" hi i ↔ i + 1 ≤ hi ∧ z.cps.toList[i]? = some 48 := by
  have e1 : ("0" : Str).length = 1 := rfl
  have e2 : ("0" : Str).cps = #[48] := rfl
  unfold At subAt
  rw [e1, e2]
  constructor
  · rintro ⟨h1, h2⟩
    refine ⟨h1, ?_⟩
    have h3 := congrArg Array.toList (beq_iff_eq.mp h2)
    have hs : i < z.cps.size := Nat.lt_of_lt_of_le h1 hh
    rw [Array.toList_extract] at h3
    have h4 := congrArg (·[0]?) h3
    simp [List.extract] at h4
    rw [Array.getElem?_toList]
    simpa using h4
  · rintro ⟨h1, h2⟩
    refine ⟨h1, beq_iff_eq.mpr ?_⟩
    have hs : i < z.cps.size := Nat.lt_of_lt_of_le h1 hh
    rw [Array.getElem?_toList] at h2
    apply Array.ext
    · simp
      omega
    · intro j h3 h4
      simp at h4
      subst h4
      simp
      have := Array.getElem?_eq_getElem hs
      rw [this] at h2
      exact Option.some.inj h2
theorem find_zero {z : Str} {a k : Nat} (ho : Ones z) (ha : a ≤ z.length) :
    Txt.findIn z "0" a ((a : Int) + k) = if onesL (z.cps.toList.drop a) < k ∧ a + onesL (z.cps.toList.drop a) < z.length then ((a + onesL (z.cps.toList.drop a) : Nat) : Int) else -1 := by
  have sz : z.length = z.cps.toList.length := by simp [Str.length]
  have f1 : fromIndex z.length (a : Int) = a := by
    unfold fromIndex
    rw [if_neg (by omega)]
    omega
  have f2 : toIndexW z.length ((a : Int) + k) = min (a + k) z.length := by
    unfold toIndexW
    rw [if_neg (by omega)]
    congr 1
  unfold Txt.findIn
  rw [f1, f2]
  have hh : min (a + k) z.length ≤ z.length := Nat.min_le_right _ _
  generalize hhi : min (a + k) z.length = hi at hh
  rw [occ_eq]
  rcases occ_first z "0" hi 1 (Nat.le_refl _) (List.range' a (hi + 1 - a)) a (fun i hi' => by simp [List.mem_range'] at hi'; omega) with ⟨h0, hn⟩ | ⟨pre, b, post, e, h0, hb, hn⟩
  · rw [h0, if_neg]
    rintro ⟨c1, c2⟩
    have w1 := (ones_char (z.cps.toList.drop a)).2
    generalize onesL (z.cps.toList.drop a) = n at c1 c2 w1
    rw [List.getElem?_drop] at w1
    have lt : a + n < z.cps.toList.length := by omega
    have g := List.getElem?_eq_getElem lt
    have mem := ho _ (List.getElem_mem lt)
    rw [g] at w1
    have is0 : z.cps.toList[a + n] = 48 := mem.resolve_right fun q => w1 (congrArg some q)
    exact hn (a + n) (by simp [List.mem_range']; omega) ((at_zero z hi (a + n) hh).mpr ⟨by omega, by rw [g, is0]⟩)
  · obtain ⟨b1, b2⟩ := (at_zero z hi b hh).mp hb
    have place : pre.length < hi + 1 - a := by
      have := congrArg List.length e
      simp at this
      omega
    have isb : a + pre.length = b := by
      have h1 : (List.range' a (hi + 1 - a))[pre.length]? = some b := by rw [e]; simp
      rw [List.getElem?_range' place] at h1
      simpa using h1
    have before : ∀ j, j < pre.length → a + j ∈ pre := fun j hj => by
      have h2 : (List.range' a (hi + 1 - a))[j]? = pre[j]? := by rw [e, List.getElem?_append_left hj]
      rw [List.getElem?_range' (by omega)] at h2
      have h3 : pre[j]? = some (a + j) := by rw [← h2]; simp
      exact List.mem_of_getElem? h3
    have n1 : onesL (z.cps.toList.drop a) = pre.length := by
      refine ones_is _ _ (fun j hj => ?_) ?_
      · rw [List.getElem?_drop]
        have lt : a + j < z.cps.toList.length := by omega
        have g := List.getElem?_eq_getElem lt
        rcases ho _ (List.getElem_mem lt) with q | q
        · exact absurd ((at_zero z hi (a + j) hh).mpr ⟨by omega, by rw [g, q]⟩) (hn _ (before j hj))
        · rw [g, q]
      · rw [List.getElem?_drop, isb, b2]
        simp
    rw [n1, if_pos ⟨by omega, by omega⟩, isb]
    generalize (forIn (List.range' a (hi + 1 - a)) ((#[] : Array Nat), a) (occBody z "0" hi 1)).run.fst = arr at h0
    have h1 : arr.toList[0]? = some b := by simpa using h0
    cases hL : arr.toList with
    | nil =>
      rw [hL] at h1
      cases h1
    | cons y r =>
      rw [hL] at h1
      cases h1
      rfl
end K02
namespace K02
open PySem PySem.Spec PyProof.Rows L2 PySem.W LamX KA KW KU
open Evl (pss_cut tCut)
section
variable {P : Program} {w : World} {K : PySem.W.Frag} {mg : Str → Option Value} {base : Heap} (T : Top K mg)
/-- a word that is read: its number and where it ends, or BadStream *)-/
def spTakeL (CB : Addr) : Sp := fun vs H Q E => ∃ (z : Str) (a : Nat), vs = [.str z, .int a] ∧ Ones z ∧ z.length ≤ 1000 ∧ a ≤ z.length ∧
  (longDue z.cps.toList a = none → ∀ d, H d = none → E (.ref CB) (some d) (upd H d (.xd [("at", .int a)]))) ∧
  (∀ i b, longDue z.cps.toList a = some (i, b) → ∀ p H1, Same H H1 → H1 p = none → Q (.ref p) (upd H1 p (.tup [.int i, .int (b : Nat)])))
theorem ok_take_long (BS : StreamT P w K mg T.reel.C) : FnOk P w K mg base (L2.CX P w) 3 T.take_long.a T.take_long.d ["bits", "at"] (spTakeL BS.C) := by
  refine T.take_long.f.okX sc_take_long (fun vs H Q E h => ?_) (fun cdv A outer s H vs Q E hr h => ?_)
  · obtain ⟨z, a, rfl, _⟩ := h
    rfl
  · obtain ⟨z, a, rfl, ho, hl, ha, k1, k2⟩ := h
    obtain ⟨t1, hc1⟩ := T.cONES_OF_LONG
    refine ⟨_, pss_cons (ps_set (i := 2) sc_take_long.nd rfl (.inl rfl) (pe_bm PySem.F.plainAttrs_str PySem.F.slot_str_find PySem.F.type_str_find mt_find4 (pv 0) (pa_cons pe_str (pa_cons (pv 1) (pa_cons (pe_op op_add (pe_op op_add (pv 1) (pe_glob (v := .int 15) (by rfl) hc1 ⟨_, rfl⟩)) pe_int) pa_nil)))))
      (pss_cons (ps_if (PW.pt (pw_or (pt_cmpR op_lt (pv 2) pe_int (nomark _)) (pw_or1 (pt_cmpR op_gt (pe_op op_sub (pe_op op_add (pe_op op_add (pv 2) pe_int) (pv 2)) (pv 1)) (pe_callB call_len_str (by rfl) T.b_len PySem.boot_len (pa_cons (pv 0) pa_nil)) (nomark _)))))
        (pss_one (ps_raiseUp rfl BS.u BS.g hr (takes_of rfl rfl rfl rfl) (pa_cons (pv 1) pa_nil) (by rfl))) pss_nil)
      (pss_cons (ps_asg (pe_call (ok_take_fixed T BS) hr (by rfl) T.take_fixed.m T.take_fixed.f.kp (bd_take_fixed T) .nil passE (pa_cons (pv 0) (pa_cons (pe_op op_add (pv 2) pe_int) (pa_cons (pe_op op_sub (pv 2) (pv 1)) pa_nil))))
          (pg_tup rfl (pgs_cons (pg_name (i := 3) sc_take_long.nd rfl (.inl rfl)) (pgs_cons (pg_name (i := 4) sc_take_long.nd rfl (.inl rfl)) pgs_nil))))
      (pss_one (ps_ret (pe_tup (pa_cons (pe_call (ok_unfold T) (hr.mono (by decide)) (by rfl) T.unfold.m T.unfold.f.kp (bd_unfold T) .nil passE (pa_cons (pe_op op_sub (pe_op op_add (pe_op op_shl pe_int (pe_op op_sub (pv 2) (pv 1))) (pv 3)) pe_int) pa_nil)) (pa_cons (pv 4) pa_nil))))))), ?_⟩
    refine ⟨_, rfl, rfl, _, rfl, _, rfl, _, _, rfl, rfl, _, _, rfl, rfl, z, _, _, _, rfl, rfl, ?_⟩
    have fz : Txt.findIn z "0" (a : Int) ((a : Int) + 15 + 1) = if onesL (z.cps.toList.drop a) < 16 ∧ a + onesL (z.cps.toList.drop a) < z.length then ((a + onesL (z.cps.toList.drop a) : Nat) : Int) else -1 := by
      have e := find_zero (k := 16) ho ha
      rw [← e]
      congr 1
    have sz : z.length = z.cps.toList.length := by simp [Str.length]
    show tSeq _ _ _ [some (V.str z), some (V.int a), some (V.int (Txt.findIn z "0" (a : Int) ((a : Int) + 15 + 1))), none, none] H
    rw [fz]
    unfold longDue at k1 k2
    rw [← sz] at k1 k2
    generalize hn : onesL (z.cps.toList.drop a) = n at k1 k2
    by_cases c : n < 16 ∧ a + n < z.length
    · obtain ⟨c1, c2⟩ := c
      rw [if_pos ⟨c1, c2⟩]
      refine ⟨_, rfl, _, _, rfl, rfl, false, congrArg V.bl (decide_eq_false (by omega)), ?_⟩
      by_cases d : z.length < a + 2 * n + 1
      · refine iteF ⟨_, rfl, _, _, rfl, rfl, _, rfl, _, _, rfl, rfl, _, rfl, _, _, rfl, rfl, _, rfl, z, rfl, Nat.le_trans hl (by decide), _, _, rfl, rfl, true, congrArg V.bl (decide_eq_true (by omega)), ?_⟩
        refine iteT ⟨_, rfl, _, rfl, fun v' r => ?_, k1 (if_pos (.inr d))⟩
        obtain ⟨t, rfl⟩ := r
        exact BS.say _ t (by omega)
      · refine iteF ⟨_, rfl, _, _, rfl, rfl, _, rfl, _, _, rfl, rfl, _, rfl, _, _, rfl, rfl, _, rfl, z, rfl, Nat.le_trans hl (by decide), _, _, rfl, rfl, false, congrArg V.bl (decide_eq_false (by omega)), ?_⟩
        have q2 := k2 _ _ (if_neg (fun q => q.elim (by omega) d))
        refine iteF ⟨_, rfl, _, rfl, _, _, rfl, rfl, _, rfl, _, rfl, _, _, rfl, rfl, z, a + n + 1, n, ?_, ho, hl, by omega, by omega, fun q => absurd q (by omega), fun _ p hp => ?_⟩
        · show [V.str z, V.int (((a + n : Nat) : Int) + 1), V.int (((a + n : Nat) : Int) - (a : Int))] = _
          rw [show ((a + n : Nat) : Int) - (a : Int) = (n : Int) by omega]
          rfl
        refine ⟨p, _, rfl, SqT.of upd_same, rfl, _, _, rfl, _, _, rfl, rfl, ?_⟩
        refine ⟨_, rfl, _, rfl, _, _, rfl, rfl, _, _, rfl, rfl, ⟨?_, ?_, ?_⟩, _, rfl, _, _, rfl, rfl, _, _, rfl, rfl, _, rfl, _, rfl, (by show 2 ≤ sizeLine; decide), fun p2 hp2 => ?_⟩
        · show (0 : Int) ≤ ((a + n : Nat) : Int) - a
          omega
        · show ((a + n : Nat) : Int) - a ≤ _
          omega
        · show Int.natAbs 1 < 2 ^ 64
          decide
        have q3 := q2 p2 _ (Same.new hp) hp2
        have t1 : (((a + n : Nat) : Int) - (a : Int)).toNat = n := by omega
        show Q (V.ref p2) (upd _ p2 (HO.tup [V.int (unfoldI ((1 : Int) * 2 ^ (((a + n : Nat) : Int) - (a : Int)).toNat + ((valL (List.take n (List.drop (a + n + 1) z.cps.toList)) : Nat) : Int) - 1)), V.int ((a + n + 1 + n : Nat) : Int)]))
        rw [t1, show a + n + 1 + n = a + 2 * n + 1 by omega]
        rw [show (((2 ^ n + valL (List.take n (List.drop (a + n + 1) z.cps.toList)) : Nat) : Int) - 1) = (1 : Int) * 2 ^ n + ((valL (List.take n (List.drop (a + n + 1) z.cps.toList)) : Nat) : Int) - 1 by simp, show a + n + 1 + n = a + 2 * n + 1 by omega] at q3
        exact q3
    · rw [if_neg c]
      refine ⟨_, rfl, _, _, rfl, rfl, true, congrArg V.bl (decide_eq_true (by decide)), ?_⟩
      refine iteT (iteT ⟨_, rfl, _, rfl, fun v' r => ?_, k1 (if_pos ?_)⟩)
      · obtain ⟨t, rfl⟩ := r
        exact BS.say _ t (by omega)
      · by_cases c1 : 15 < n
        · exact .inl c1
        · refine .inr ?_
          have : ¬ a + n < z.length := fun q => c ⟨by omega, q⟩
          omega
end
end K02
namespace K02
open PySem PySem.Spec PyProof.Rows L2 PySem.W LamX KA KW KU
open Evl (pss_cut tCut)
section
variable {P : Program} {w : World} {K : PySem.W.Frag} {mg : Str → Option Value} {base : Heap} (T : Top K mg)
def spTakeG (CB : Addr) : Sp := fun vs H Q E => ∃ (z : Str) (a g : Nat), vs = [.str z, .int a, .int g] ∧ Ones z ∧ z.length ≤ 1000 ∧ a ≤ z.length ∧ g ≤ 7 ∧
  (gradeDue z.cps.toList a g = none → ∀ d H1, Same H H1 → H1 d = none → E (.ref CB) (some d) (upd H1 d (.xd [("at", .int a)]))) ∧
  (∀ i b, gradeDue z.cps.toList a g = some (i, b) → ∀ p H1, Same H H1 → H1 p = none → Q (.ref p) (upd H1 p (.tup [.int i, .int (b : Nat)])))
theorem ok_take_grade (BS : StreamT P w K mg T.reel.C) : FnOk P w K mg base (L2.CX P w) 3 T.take_grade.a T.take_grade.d ["bits", "at", "grade"] (spTakeG BS.C) := by
  refine T.take_grade.f.okX sc_take_grade (fun vs H Q E h => ?_) (fun cdv A outer s H vs Q E hr h => ?_)
  · obtain ⟨z, a, g, rfl, _⟩ := h
    rfl
  · obtain ⟨z, a, g, rfl, ho, hl, ha, hg, k1, k2⟩ := h
    obtain ⟨t1, hc1⟩ := T.cONES_OF_GRADE
    obtain ⟨t2, hc2⟩ := T.cBITS_BEHIND_ONES
    obtain ⟨t3, hc3⟩ := T.cMOST_FOLDED
    refine ⟨_, pss_cons (ps_set (i := 3) sc_take_grade.nd rfl (.inl rfl) (pe_bm PySem.F.plainAttrs_str PySem.F.slot_str_find PySem.F.type_str_find mt_find4 (pv 0) (pa_cons pe_str (pa_cons (pv 1) (pa_cons (pe_op op_add (pv 1) (pe_glob (v := .int 12) (by rfl) hc1 ⟨_, rfl⟩)) pa_nil)))))
      (pss_cons (ps_set (i := 4) sc_take_grade.nd rfl (.inl rfl) (pe_ifExp (pt_cmpR op_ge (pv 3) pe_int (nomark _)) (pv 2) (pe_glob (v := .int 16) (by rfl) hc2 ⟨_, rfl⟩)))
      (pss_cons (ps_set (i := 5) sc_take_grade.nd rfl (.inl rfl) (pe_ifExp (pt_cmpR op_ge (pv 3) pe_int (nomark _)) (pe_op op_add (pv 3) pe_int) (pe_op op_add (pv 1) (pe_glob (v := .int 12) (by rfl) hc1 ⟨_, rfl⟩))))
      (pss_cons (ps_if (pt_cmpR op_gt (pe_op op_add (pv 5) (pv 4)) (pe_callB call_len_str (by rfl) T.b_len PySem.boot_len (pa_cons (pv 0) pa_nil)) (nomark _))
        (pss_one (ps_raiseUp rfl BS.u BS.g hr (takes_of rfl rfl rfl rfl) (pa_cons (pv 1) pa_nil) (by rfl))) pss_nil)
      (pss_cons (ps_asg (pe_call (ok_take_fixed T BS) hr (by rfl) T.take_fixed.m T.take_fixed.f.kp (bd_take_fixed T) .nil passE (pa_cons (pv 0) (pa_cons (pv 5) (pa_cons (pv 4) pa_nil))))
          (pg_tup rfl (pgs_cons (pg_name (i := 6) sc_take_grade.nd rfl (.inl rfl)) (pgs_cons (pg_name (i := 7) sc_take_grade.nd rfl (.inl rfl)) pgs_nil))))
      (pss_cons (ps_if (pt_cmpR op_ge (pv 3) pe_int (nomark _)) (pss_one (ps_ret (pe_tup (pa_cons (pe_call (ok_unfold T) (hr.mono (by decide)) (by rfl) T.unfold.m T.unfold.f.kp (bd_unfold T) .nil passE (pa_cons (pe_op op_add (pe_op op_shl (pe_op op_sub (pv 3) (pv 1)) (pv 2)) (pv 6)) pa_nil)) (pa_cons (pv 7) pa_nil))))) pss_nil)
      (pss_cons (ps_if (pt_not (pt_chain op_le op_le (pe_op op_shl (pe_glob (v := .int 12) (by rfl) hc1 ⟨_, rfl⟩) (pv 2)) (pv 6) (pe_glob (v := .int 65534) (by rfl) hc3 ⟨_, rfl⟩)))
        (pss_one (ps_raiseUp rfl BS.u BS.g hr (takes_of rfl rfl rfl rfl) (pa_cons (pv 1) pa_nil) (by rfl))) pss_nil)
      (pss_one (ps_ret (pe_tup (pa_cons (pe_call (ok_unfold T) (hr.mono (by decide)) (by rfl) T.unfold.m T.unfold.f.kp (bd_unfold T) .nil passE (pa_cons (pv 6) pa_nil)) (pa_cons (pv 7) pa_nil))))))))))), ?_⟩
    refine ⟨_, rfl, rfl, _, rfl, _, rfl, _, _, rfl, rfl, z, _, _, _, rfl, rfl, ?_⟩
    have fz : Txt.findIn z "0" (a : Int) ((a : Int) + 12) = if onesL (z.cps.toList.drop a) < 12 ∧ a + onesL (z.cps.toList.drop a) < z.length then ((a + onesL (z.cps.toList.drop a) : Nat) : Int) else -1 := find_zero (k := 12) ho ha
    have sz : z.length = z.cps.toList.length := by simp [Str.length]
    show tSeq _ _ _ [some (V.str z), some (V.int a), some (V.int g), some (V.int (Txt.findIn z "0" (a : Int) ((a : Int) + 12))), none, none, none, none] H
    rw [fz]
    unfold gradeDue at k1 k2
    rw [← sz] at k1 k2
    generalize hn : onesL (z.cps.toList.drop a) = n at k1 k2
    have g1 : 1 ≤ 2 ^ g := Nat.pow_pos (by decide)
    by_cases c : n < 12 ∧ a + n < z.length
    · obtain ⟨c1, c2⟩ := c
      rw [if_pos ⟨c1, c2⟩]
      have nz : decide ((0 : Int) ≤ ((a + n : Nat) : Int)) = true := decide_eq_true (by omega)
      refine ⟨_, rfl, _, _, rfl, rfl, true, congrArg V.bl nz, ?_⟩
      refine iteT ⟨_, rfl, _, rfl, _, _, rfl, rfl, true, congrArg V.bl nz, ?_⟩
      refine iteT ⟨_, rfl, _, _, rfl, rfl, _, rfl, _, rfl, _, _, rfl, rfl, _, rfl, z, rfl, Nat.le_trans hl (by decide), ?_⟩
      rw [if_neg (show ¬ 12 ≤ n by omega)] at k1 k2
      by_cases d : z.length < a + n + (1 + g)
      · refine ⟨_, _, rfl, rfl, true, congrArg V.bl (decide_eq_true (by omega)), ?_⟩
        refine iteT ⟨_, rfl, _, rfl, fun v' r => ?_, fun dd hd => k1 (if_pos d) dd _ (fun _ _ e => e) hd⟩
        obtain ⟨t, rfl⟩ := r
        exact BS.say _ t (by omega)
      · refine ⟨_, _, rfl, rfl, false, congrArg V.bl (decide_eq_false (by omega)), ?_⟩
        have q2 := k2 _ _ (if_neg d)
        refine iteF ⟨_, rfl, _, rfl, _, rfl, z, a + n + 1, g, rfl, ho, hl, by omega, by omega, fun q => absurd q (by omega), fun _ p hp => ?_⟩
        refine ⟨p, _, rfl, SqT.of upd_same, rfl, _, _, rfl, _, _, rfl, rfl, ?_⟩
        refine ⟨_, rfl, _, _, rfl, rfl, true, congrArg V.bl nz, ?_⟩
        refine iteT ⟨_, rfl, _, rfl, _, _, rfl, rfl, _, rfl, _, _, rfl, rfl, ⟨by omega, by omega, ?_⟩, _, rfl, _, _, rfl, rfl, _, rfl, _, rfl, (by show 2 ≤ sizeLine; decide), fun p2 hp2 => ?_⟩
        · show (((a + n : Nat) : Int) - (a : Int)).natAbs < 2 ^ 64
          omega
        have q3 := q2 p2 _ (Same.new hp) hp2
        show Q (V.ref p2) (upd _ p2 (HO.tup [V.int (unfoldI ((((a + n : Nat) : Int) - (a : Int)) * 2 ^ (g : Int).toNat + ((valL (List.take g (List.drop (a + n + 1) z.cps.toList)) : Nat) : Int))), V.int ((a + n + 1 + g : Nat) : Int)]))
        rw [show ((a + n : Nat) : Int) - (a : Int) = n by omega, Int.toNat_natCast, show a + n + 1 + g = a + n + (1 + g) by omega]
        rw [show ((n * 2 ^ g + valL (List.take g (List.drop (a + n + 1) z.cps.toList)) : Nat) : Int) = (n : Int) * 2 ^ g + ((valL (List.take g (List.drop (a + n + 1) z.cps.toList)) : Nat) : Int) by simp, show a + n + 1 + g = a + n + (1 + g) by omega] at q3
        exact q3
    · rw [if_neg c]
      have nz : decide ((0 : Int) ≤ -1) = false := decide_eq_false (by decide)
      refine ⟨_, rfl, _, _, rfl, rfl, false, congrArg V.bl nz, ?_⟩
      refine iteF ⟨_, rfl, _, _, rfl, rfl, false, congrArg V.bl nz, ?_⟩
      refine iteF ⟨_, rfl, _, _, rfl, rfl, _, rfl, _, rfl, _, _, rfl, rfl, _, rfl, z, rfl, Nat.le_trans hl (by decide), ?_⟩
      by_cases d : z.length < a + 28
      · refine ⟨_, _, rfl, rfl, true, congrArg V.bl (decide_eq_true (by omega)), ?_⟩
        refine iteT ⟨_, rfl, _, rfl, fun v' r => ?_, fun dd hd => k1 ?_ dd _ (fun _ _ e => e) hd⟩
        · obtain ⟨t, rfl⟩ := r
          exact BS.say _ t (by omega)
        · by_cases c1 : 12 ≤ n
          · rw [if_pos c1, if_pos d]
          · rw [if_neg c1, if_pos]
            have : ¬ a + n < z.length := fun q => c ⟨by omega, q⟩
            omega
      · have c1 : 12 ≤ n := by
          refine Nat.le_of_not_lt fun q => ?_
          have : ¬ a + n < z.length := fun q' => c ⟨q, q'⟩
          omega
        rw [if_pos c1, if_neg d] at k1 k2
        refine ⟨_, _, rfl, rfl, false, congrArg V.bl (decide_eq_false (by omega)), ?_⟩
        refine iteF ⟨_, rfl, _, rfl, _, rfl, z, a + 12, 16, rfl, ho, hl, by omega, by omega, fun q => absurd q (by omega), fun _ p hp => ?_⟩
        refine ⟨p, _, rfl, SqT.of upd_same, rfl, _, _, rfl, _, _, rfl, rfl, ?_⟩
        generalize valL (List.take 16 (List.drop (a + 12) z.cps.toList)) = t at k1 k2 hp ⊢
        refine ⟨_, rfl, _, _, rfl, rfl, false, congrArg V.bl nz, ?_⟩
        refine iteF ⟨_, rfl, _, _, rfl, rfl, ⟨by omega, by omega, (by show Int.natAbs 12 < 2 ^ 64; decide)⟩, _, rfl, ?_⟩
        have tg : (g : Int).toNat = g := Int.toNat_natCast g
        by_cases c3 : 12 * 2 ^ g ≤ t
        · have e1 : decide ((12 : Int) * 2 ^ (g : Int).toNat ≤ (t : Int)) = true := decide_eq_true (by rw [tg]; exact_mod_cast c3)
          refine ⟨_, _, rfl, rfl, true, congrArg V.bl e1, ?_⟩
          rcases Nat.lt_or_ge t 65535 with c4 | c4
          · have e2 : decide ((t : Int) ≤ 65534) = true := decide_eq_true (by omega)
            have q2 := k2 _ _ (if_pos ⟨c3, c4⟩)
            refine iteT ⟨_, _, rfl, rfl, true, congrArg V.bl e2, ?_⟩
            refine iteF ⟨_, rfl, _, rfl, _, rfl, (by show 2 ≤ sizeLine; decide), fun p2 hp2 => ?_⟩
            exact q2 p2 _ (Same.new hp) hp2
          · have e2 : decide ((t : Int) ≤ 65534) = false := decide_eq_false (by omega)
            refine iteT ⟨_, _, rfl, rfl, false, congrArg V.bl e2, ?_⟩
            refine iteT ⟨_, rfl, _, rfl, fun v' r => ?_, fun dd hd => k1 (if_neg fun q => absurd q.2 (Nat.not_lt.mpr c4)) dd _ (Same.new hp) hd⟩
            obtain ⟨tk, rfl⟩ := r
            exact BS.say _ tk (by omega)
        · have e1 : decide ((12 : Int) * 2 ^ (g : Int).toNat ≤ (t : Int)) = false := decide_eq_false (by rw [tg]; exact_mod_cast c3)
          refine ⟨_, _, rfl, rfl, false, congrArg V.bl e1, ?_⟩
          refine iteF ⟨_, rfl, ?_⟩
          refine iteT ⟨_, rfl, _, rfl, fun v' r => ?_, fun dd hd => k1 (if_neg fun q => c3 q.1) dd _ (Same.new hp) hd⟩
          obtain ⟨tk, rfl⟩ := r
          exact BS.say _ tk (by omega)
end
end K02
namespace K02
open PySem PySem.Spec PyProof.Rows L2 PySem.W LamX KA KW KU
open Evl (pss_cut tCut)
section
variable {P : Program} {w : World} {K : PySem.W.Frag} {mg : Str → Option Value} {base : Heap} (T : Top K mg)
def spCheckS (K : PySem.W.Frag) (CB CA : Addr) : Sp := fun vs H Q E => ∃ x b y yb, vs = [x, y] ∧ Pl K H x b ∧ Pl K H y yb ∧ (∀ z, x = .str z → z.length ≤ 1000) ∧ (isBits x = false → E (.ref CB) none H) ∧
  (∀ z, x = .str z → isBits x = true → (within y 0 z.length = false → E (.ref CA) none H) ∧ (within y 0 z.length = true → Q .non H))
theorem isBits_str {x : V} (h : isBits x = true) : ∃ z, x = .str z := by
  cases x with
  | str z => exact ⟨z, rfl⟩
  | _ => cases h
theorem ok_check_stream : FnOk P w K mg base (L2.CX P w) 3 T.check_stream.a T.check_stream.d ["bits", "at"] (spCheckS K T.BadBits.C T.BadAt.C) := by
  refine T.check_stream.f.okX sc_check_stream (fun vs H Q E h => ?_) (fun cdv A outer s H vs Q E hr h => ?_)
  · obtain ⟨x, _, y, _, rfl, _⟩ := h
    rfl
  · obtain ⟨x, b, y, yb, rfl, hx, hy, hl, k1, k2⟩ := h
    refine ⟨_, pss_cons (ps_if (pt_not (pt_val (pe_call (ok_is_bits T) (hr.mono (by decide)) (by rfl) T.is_bits.m T.is_bits.f.kp (bd_is_bits T) .nil passE (pa_cons (pv 0) pa_nil))))
        (pss_one (ps_raiseT rfl rfl T.BadBits (by rfl) rfl (takes_of rfl rfl rfl rfl))) pss_nil)
      (pss_one (ps_if (pt_not (pt_val (pe_call (ok_is_within T) hr (by rfl) T.is_within.m T.is_within.f.kp (bd_is_within T) .nil passE (pa_cons (pv 1) (pa_cons pe_int (pa_cons (pe_callB call_len_str (by rfl) T.b_len PySem.boot_len (pa_cons (pv 0) pa_nil)) pa_nil))))))
        (pss_one (ps_raiseT rfl rfl T.BadAt (by rfl) rfl (takes_of rfl rfl rfl rfl))) pss_nil)), ?_⟩
    refine ⟨_, rfl, x, b, rfl, hx, hl, _, rfl, ?_⟩
    refine iteNot k1 fun e => ?_
    obtain ⟨z, rfl⟩ := isBits_str e
    obtain ⟨k3, k4⟩ := k2 z rfl e
    refine ⟨_, rfl, _, rfl, z, rfl, Nat.le_trans (hl z rfl) (by decide), y, yb, 0, _, rfl, hy, _, rfl, ?_⟩
    exact iteNot k3 k4
/-- as check_stream, and then as the promise sp tells -/
def spRead (K : PySem.W.Frag) (CB CA : Addr) (sp : Str → Nat → Hp → VK → XK → Prop) : V → V → Hp → VK → XK → Prop := fun x y H Q E => ∃ b yb, Pl K H x b ∧ Pl K H y yb ∧ (∀ z, x = .str z → z.length ≤ 1000) ∧ (isBits x = false → E (.ref CB) none H) ∧
  (∀ z, x = .str z → isBits x = true → (within y 0 z.length = false → E (.ref CA) none H) ∧ (∀ a : Nat, y = .int a → a ≤ z.length → sp z a H Q E))
def spReadL (K : PySem.W.Frag) (CB CA CS : Addr) : Sp := fun vs H Q E => ∃ x y, vs = [x, y] ∧ spRead K CB CA (fun z a H Q E => spTakeL CS [.str z, .int a] H Q E) x y H Q E
theorem ok_read_long (BS : StreamT P w K mg T.reel.C) : FnOk P w K mg base (L2.CX P w) 4 T.read_long.a T.read_long.d ["bits", "at"] (spReadL K T.BadBits.C T.BadAt.C BS.C) := by
  refine T.read_long.f.okX sc_read_long (fun vs H Q E h => ?_) (fun cdv A outer s H vs Q E hr h => ?_)
  · obtain ⟨x, y, rfl, _⟩ := h
    rfl
  · obtain ⟨x, y, rfl, h⟩ := h
    refine ⟨_, pss_cons (ps_expr (pe_call (ok_check_stream T) hr (by rfl) T.check_stream.m T.check_stream.f.kp (bd_check_stream T) .nil (passX rfl rfl rfl rfl) (pa_cons (pv 0) (pa_cons (pv 1) pa_nil))))
      (pss_one (ps_ret (pe_call (ok_take_long T BS) hr (by rfl) T.take_long.m T.take_long.f.kp (bd_take_long T) .nil (passX rfl rfl rfl rfl) (pa_cons (pv 0) (pa_cons (pv 1) pa_nil))))), ?_⟩
    obtain ⟨b, yb, hx, hy, hl, k1, k2⟩ := h
    refine ⟨_, rfl, _, rfl, x, b, y, yb, rfl, hx, hy, hl, k1, fun z e i => ?_⟩
    obtain ⟨k3, k4⟩ := k2 z e i
    refine ⟨k3, fun q => ?_⟩
    obtain ⟨j, rfl, h1, h2⟩ := within_int q
    obtain ⟨a, rfl⟩ : ∃ a : Nat, j = a := ⟨j.toNat, by omega⟩
    subst e
    exact ⟨_, rfl, _, rfl, k4 a rfl (by omega)⟩
def spReadG (K : PySem.W.Frag) (CB CA CG CS : Addr) : Sp := fun vs H Q E => ∃ x y u ub, vs = [x, y, u] ∧ Pl K H u ub ∧ spRead K CB CA (fun z a H Q E => (within u 0 7 = false → E (.ref CG) none H) ∧ ∀ g : Nat, u = .int g → g ≤ 7 → spTakeG CS [.str z, .int a, .int g] H Q E) x y H Q E
theorem ok_read_grade (BS : StreamT P w K mg T.reel.C) : FnOk P w K mg base (L2.CX P w) 5 T.read_grade.a T.read_grade.d ["bits", "at", "grade"] (spReadG K T.BadBits.C T.BadAt.C T.BadGrade.C BS.C) := by
  refine T.read_grade.f.okX sc_read_grade (fun vs H Q E h => ?_) (fun cdv A outer s H vs Q E hr h => ?_)
  · obtain ⟨x, y, u, _, rfl, _⟩ := h
    rfl
  · obtain ⟨x, y, u, ub, rfl, hu, b, yb, hx, hy, hl, k1, k2⟩ := h
    refine ⟨_, pss_cons (ps_expr (pe_call (ok_check_stream T) (hr.mono (by decide)) (by rfl) T.check_stream.m T.check_stream.f.kp (bd_check_stream T) .nil (passX rfl rfl rfl rfl) (pa_cons (pv 0) (pa_cons (pv 1) pa_nil))))
      (pss_cons (ps_expr (pe_call (ok_check_grade T) hr (by rfl) T.check_grade.m T.check_grade.f.kp (bd_check_grade T) .nil (passX rfl rfl rfl rfl) (pa_cons (pv 2) pa_nil)))
      (pss_one (ps_ret (pe_call (ok_take_grade T BS) (hr.mono (by decide)) (by rfl) T.take_grade.m T.take_grade.f.kp (bd_take_grade T) .nil (passX rfl rfl rfl rfl) (pa_cons (pv 0) (pa_cons (pv 1) (pa_cons (pv 2) pa_nil))))))), ?_⟩
    refine ⟨_, rfl, _, rfl, x, b, y, yb, rfl, hx, hy, hl, k1, fun z e i => ?_⟩
    obtain ⟨k3, k4⟩ := k2 z e i
    refine ⟨k3, fun q => ?_⟩
    obtain ⟨j, rfl, h1, h2⟩ := within_int q
    obtain ⟨a, rfl⟩ : ∃ a : Nat, j = a := ⟨j.toNat, by omega⟩
    subst e
    obtain ⟨k5, k6⟩ := k4 a rfl (by omega)
    refine ⟨_, rfl, u, ub, rfl, hu, fun q2 => ?_, k5⟩
    obtain ⟨g', rfl, h3, h4⟩ := within_int q2
    obtain ⟨g, rfl⟩ : ∃ g : Nat, g' = g := ⟨g'.toNat, by omega⟩
    exact ⟨_, rfl, _, rfl, _, rfl, k6 g rfl (by omega)⟩
def spReadF (K : PySem.W.Frag) (CB CA CM CS : Addr) : Sp := fun vs H Q E => ∃ x y u ub, vs = [x, y, u] ∧ Pl K H u ub ∧ spRead K CB CA (fun z a H Q E => (within u 1 16 = false → E (.ref CM) none H) ∧ ∀ m : Nat, u = .int m → 1 ≤ m → m ≤ 16 → spTakeF CS [.str z, .int a, .int m] H Q E) x y H Q E
theorem ok_read_fixed (BS : StreamT P w K mg T.reel.C) : FnOk P w K mg base (L2.CX P w) 5 T.read_fixed.a T.read_fixed.d ["bits", "at", "many"] (spReadF K T.BadBits.C T.BadAt.C T.BadMany.C BS.C) := by
  refine T.read_fixed.f.okX sc_read_fixed (fun vs H Q E h => ?_) (fun cdv A outer s H vs Q E hr h => ?_)
  · obtain ⟨x, y, u, _, rfl, _⟩ := h
    rfl
  · obtain ⟨x, y, u, ub, rfl, hu, b, yb, hx, hy, hl, k1, k2⟩ := h
    refine ⟨_, pss_cons (ps_expr (pe_call (ok_check_stream T) (hr.mono (by decide)) (by rfl) T.check_stream.m T.check_stream.f.kp (bd_check_stream T) .nil (passX rfl rfl rfl rfl) (pa_cons (pv 0) (pa_cons (pv 1) pa_nil))))
      (pss_cons (ps_expr (pe_call (ok_check_many T) hr (by rfl) T.check_many.m T.check_many.f.kp (bd_check_many T) .nil (passX rfl rfl rfl rfl) (pa_cons (pv 2) pa_nil)))
      (pss_one (ps_ret (pe_call (ok_take_fixed T BS) (hr.mono (by decide)) (by rfl) T.take_fixed.m T.take_fixed.f.kp (bd_take_fixed T) .nil (passX rfl rfl rfl rfl) (pa_cons (pv 0) (pa_cons (pv 1) (pa_cons (pv 2) pa_nil))))))), ?_⟩
    refine ⟨_, rfl, _, rfl, x, b, y, yb, rfl, hx, hy, hl, k1, fun z e i => ?_⟩
    obtain ⟨k3, k4⟩ := k2 z e i
    refine ⟨k3, fun q => ?_⟩
    obtain ⟨j, rfl, h1, h2⟩ := within_int q
    obtain ⟨a, rfl⟩ : ∃ a : Nat, j = a := ⟨j.toNat, by omega⟩
    subst e
    obtain ⟨k5, k6⟩ := k4 a rfl (by omega)
    refine ⟨_, rfl, u, ub, rfl, hu, fun q2 => ?_, k5⟩
    obtain ⟨m', rfl, h3, h4⟩ := within_int q2
    obtain ⟨m, rfl⟩ : ∃ m : Nat, m' = m := ⟨m'.toNat, by omega⟩
    exact ⟨_, rfl, _, rfl, _, rfl, k6 m rfl (by omega) (by omega)⟩
end
end K02
namespace K02
open PySem PySem.Spec PyProof.Rows L2 PySem.W LamX KA KW KU
open Builtin Builtin.Str
/-! ### texts of 0 and 1 -/
theorem Ones.app {x y : Str} (h : Ones x) (k : Ones y) : Ones (x ++ y) := fun c hc => by
  have e : (x ++ y).cps = x.cps ++ y.cps := rfl
  rw [e, Array.toList_append] at hc
  rcases List.mem_append.mp hc with q | q
  · exact h c q
  · exact k c q
theorem ones_ones (n : Nat) : Ones (onesT n) := fun c hc => by
  have : c ∈ List.replicate n 49 := by simpa [onesT] using hc
  exact .inr (List.eq_of_mem_replicate this)
theorem bitsL_mem : ∀ (k n c : Nat), c ∈ bitsL k n → c = 48 ∨ c = 49
  | 0, _, _, h => by cases h
  | k + 1, n, c, h => by
    rw [bitsL] at h
    rcases List.mem_append.mp h with q | q
    · exact bitsL_mem k _ c q
    · have : c = 48 + n % 2 := by simpa using q
      omega
theorem ones_twos (m n : Nat) : Ones (twosT m n) := fun c hc => bitsL_mem m n c (by simpa [twosT] using hc)
theorem binL_mem : ∀ (n c : Nat), c ∈ binL n → c = 48 ∨ c = 49 := by
  intro n
  induction n using Nat.strongRecOn with
  | _ n ih =>
    intro c h
    by_cases h2 : n < 2
    · rw [binL_lt h2] at h
      have : c = 48 + n := by simpa using h
      omega
    · rw [binL_ge (by omega)] at h
      rcases List.mem_append.mp h with q | q
      · exact ih (n / 2) (by omega) c q
      · have : c = 48 + n % 2 := by simpa using q
        omega
theorem ones_tail (n : Nat) : Ones ⟨(tailL n).toArray⟩ := fun c hc => by
  have h : c ∈ tailL n := by simpa using hc
  exact binL_mem n c (List.mem_of_mem_drop h)
theorem ones_zero : Ones "0" := fun c hc => by
  have e : ("0" : Str).cps.toList = [48] := rfl
  rw [e] at hc
  exact .inl (List.mem_singleton.mp hc)
theorem ones_one : Ones "1" := fun c hc => by
  have e : ("1" : Str).cps.toList = [49] := rfl
  rw [e] at hc
  exact .inr (List.mem_singleton.mp hc)
theorem ones_long (f : Nat) : Ones (longT f) := ((ones_ones _).app ones_zero).app (ones_tail _)
theorem ones_grade (f g : Nat) : Ones (gradeT f g) := by
  unfold gradeT
  split
  · exact (ones_ones _).app (ones_twos _ _)
  · exact ((ones_ones _).app ones_zero).app (ones_twos _ _)
theorem binL_mono : ∀ (n m : Nat), m ≤ n → (binL m).length ≤ (binL n).length := by
  intro n
  induction n using Nat.strongRecOn with
  | _ n ih =>
    intro m h
    by_cases h2 : m < 2
    · rw [binL_lt h2]
      exact List.length_pos_iff.mpr (binL_ne n)
    · rw [binL_ge (n := m) (by omega), binL_ge (n := n) (by omega)]
      have := ih (n / 2) (by omega) (m / 2) (by omega)
      simp
      omega
theorem tailL_len (n : Nat) : (tailL n).length = (binL n).length - 1 := by
  unfold tailL
  exact List.length_drop
theorem longT_len (f : Nat) : (longT f).length = 2 * (tailL (f + 1)).length + 1 := by
  unfold longT
  rw [len_app, len_app, onesT_len]
  have e1 : ("0" : Str).length = 1 := rfl
  have e2 : (⟨(tailL (f + 1)).toArray⟩ : Str).length = (tailL (f + 1)).length := by simp [Str.length]
  omega
theorem longT_le {f : Nat} (h : f < 65535) : (longT f).length ≤ 100 := by
  rw [longT_len, tailL_len]
  have := binL_le 16 (f + 1) (by decide) (by omega)
  omega
theorem gradeT_len (f g : Nat) : (gradeT f g).length = if 12 ≤ f / 2 ^ g then 28 else f / 2 ^ g + 1 + g := by
  unfold gradeT
  split
  · rw [len_app, onesT_len, twosT_len]
  · rw [len_app, len_app, onesT_len, twosT_len]
    have e1 : ("0" : Str).length = 1 := rfl
    omega
theorem gradeT_le {f g : Nat} (h : g ≤ 7) : (gradeT f g).length ≤ 28 := by
  rw [gradeT_len]
  generalize f / 2 ^ g = q
  split <;> omega
theorem whole_takes {p : Nat → Bool} : ∀ l : List Nat, (∀ c ∈ l, p c = true) → l.takeWhile p = l
  | [], _ => rfl
  | c :: r, h => by rw [List.takeWhile_cons, h c List.mem_cons_self, if_pos rfl, whole_takes r fun d hd => h d (List.mem_cons_of_mem _ hd)]
theorem strip_ones {s : Str} (h : Ones s) : Txt.stripChars s "01" = "" := by
  have hg : ∀ c ∈ s.cps.toList, ("01" : Str).cps.contains c = true := fun c hc => by
    rcases h c hc with e | e <;> (subst e; decide +kernel)
  have hl : stripLo ("01" : Str).cps.contains true s = s.length := by
    have e : s.cps.toList.takeWhile ("01" : Str).cps.contains = s.cps.toList := whole_takes _ hg
    simp only [stripLo, if_true]
    rw [e]
    simp [Str.length]
  unfold Txt.stripChars
  rw [PyProof.Rows.stripBy_eq, hl]
  have hh := (hi_facts ("01" : Str).cps.contains s s.length (Nat.le_refl _))
  have e : stripHi ("01" : Str).cps.contains true s s.length = s.length := by omega
  rw [e]
  unfold strSub
  have : s.cps.extract s.length s.length = #[] := by
    simp
    exact Nat.min_le_left _ _
  rw [this]
  rfl
theorem isBits_ones {s : Str} (h : Ones s) : isBits (.str s) = true := by
  show decide (V.str (Txt.stripChars s "01") = V.str "") = true
  rw [strip_ones h]
  exact decide_eq_true rfl
theorem join_ones : ∀ ys : List Str, (∀ y ∈ ys, Ones y) → Ones (Txt.join "" ys) := by
  intro ys h c hc
  have key : ∀ (l : List Str) (acc : Array Nat), (∀ y ∈ l, Ones y) → (∀ c ∈ acc.toList, c = 48 ∨ c = 49) → ∀ c ∈ (l.foldl (fun acc p => acc ++ ("" : Str).cps ++ p.cps) acc).toList, c = 48 ∨ c = 49 := by
    intro l
    induction l with
    | nil => intro acc _ h2; exact h2
    | cons y r ih =>
      intro acc h1 h2
      rw [List.foldl_cons]
      refine ih _ (fun z hz => h1 z (List.mem_cons_of_mem _ hz)) fun c hc => ?_
      have e : ("" : Str).cps = #[] := rfl
      rw [e, Array.append_empty, Array.toList_append] at hc
      rcases List.mem_append.mp hc with q | q
      · exact h2 c q
      · exact h1 y List.mem_cons_self c q
  unfold Txt.join glued at hc
  cases ys with
  | nil => exact key [] _ (fun _ z => by cases z) (fun c z => by cases z) c hc
  | cons y r => exact key r y.cps (fun z hz => h z (List.mem_cons_of_mem _ hz)) (h y List.mem_cons_self) c hc
theorem Ones.cut {z : Str} (h : Ones z) (lo hi : Option Int) : Ones (cutS z lo hi) := fun c hc => by
  unfold cutS at hc
  have hc : c ∈ (z.cps.toList.drop (HT.sIx z.length 0 lo)).take (HT.sIx z.length z.length hi - HT.sIx z.length 0 lo) := by simpa using hc
  exact h c (List.mem_of_mem_drop (List.mem_of_mem_take hc))
end K02
namespace K02
open PySem PySem.Spec PyProof.Rows L2 PySem.W LamX KA KW KU
open Evl (pss_cut tCut)
theorem offc {H : Hp} {st lg cl p : Addr} {n : Nat} (S : StAt H st lg cl n) (hp : H p = none) : p ≠ cl := by
  obtain ⟨_, _, _, _, S', _⟩ := S
  exact (ne_of_none S'.c hp).symm
theorem stAt_put {H : Hp} {st lg cl e : Addr} {n : Nat} {ys : List V} (S : StAt H st lg cl n) (h1 : e ≠ st) (h2 : e ≠ lg) (h3 : e ≠ cl) : StAt (upd H e (.lst ys)) st lg cl n := by
  obtain ⟨a, b, c, d, s, h'⟩ := S
  exact ⟨a, b, c, d, { s with d := (upd_ne h1.symm).trans s.d, l := (upd_ne h2.symm).trans s.l, c := (upd_ne h3.symm).trans s.c }, h'⟩
section
variable {P : Program} {w : World} {K : PySem.W.Frag} {mg : Str → Option Value} {base : Heap} (T : Top K mg)
def spMixed (K : PySem.W.Frag) : Sp := fun vs H Q _ => ∃ (st lg cl a : Addr) (is : List Int) (m : Nat), vs = [.ref st, .ref a] ∧ SqL K H a (is.map V.int) ∧ is.length ≤ 1000 ∧ m ≤ 900000 ∧ StAt H st lg cl m ∧
  ∀ (p : Addr) (js : List Int) (H' : Hp), (∀ j ∈ js, j ∈ is) → js.length = is.length → H' p = some (.lst (js.map V.int)) → H p = none → StAt H' st lg cl (m + is.length) → Kp st lg H H' → Q (.ref p) H'
theorem erase_map : ∀ (l : List Int) (d : Nat), (l.map V.int).eraseIdx d = (l.eraseIdx d).map V.int
  | [], _ => rfl
  | _ :: _, 0 => rfl
  | c :: r, d + 1 => by
    rw [List.map_cons, List.eraseIdx_cons_succ, List.eraseIdx_cons_succ, List.map_cons, erase_map r d]
theorem erase_sub {l : List Int} {k : Nat} {x : Int} (h : x ∈ l.eraseIdx k) : x ∈ l := List.mem_of_mem_eraseIdx h
theorem ok_mixed : FnOk P w K mg base (L2.CX P w) 2 T._law_mixed.a T._law_mixed.d ["state", "several"] (spMixed K) := by
  refine T._law_mixed.f.okX sc__law_mixed (fun vs H Q E h => ?_) (fun cdv A outer s H vs Q E hr h => ?_)
  · obtain ⟨st, lg, cl, a, is, m, rfl, _⟩ := h
    rfl
  · obtain ⟨st, lg, cl, a, is, m, rfl, ha, hl, hm, S, k⟩ := h
    refine ⟨_, pss_cons (ps_par (i := 2) (j := 3) rfl sc__law_mixed.nd rfl rfl (by decide) rfl rfl (pa_cons (pe_callTy call_list_of (by rfl) T.b_list (by decide +kernel) (pa_cons (pv 1) pa_nil)) (pa_cons (pe_lst pa_nil) pa_nil)) (by rfl))
      (pss_cons (ps_while (passes_of rfl) (pt_cmpR (op_neD hr.units) (pv 2) (pe_lst pa_nil) (nomark _))
        (pss_one (ps_expr (pe_bm PySem.F.plainAttrs_list PySem.F.slot_list_append PySem.F.type_list_append mt_append (pv 3) (pa_cons (pe_bm PySem.F.plainAttrs_list PySem.F.slot_list_pop PySem.F.type_list_pop mt_popAt (pv 2)
          (pa_cons (pe_call (ok_draw T) hr (by rfl) T._law_draw.m T._law_draw.f.kp (bd__law_draw T) .nil passE (pa_cons (pv 0) (pa_cons (pe_callB call_len_seq (by rfl) T.b_len PySem.boot_len (pa_cons (pv 2) pa_nil)) pa_nil))) pa_nil)) pa_nil)))))
      (pss_one (ps_ret (pv 3)))), ?_⟩
    refine ⟨_, rfl, a, _, rfl, .inl ha, fun q hq => ⟨(by show 0 ≤ sizeLine; decide), fun r hr' => ⟨_, _, rfl, ?_⟩⟩⟩
    have S1 := S.same (Same.new (o := .lst (is.map V.int)) hq)
    have S2 := S1.same (Same.new (o := .lst []) hr')
    have q1 := (S.off hq).1
    have q2 := (S.off hq).2
    have q3 := offc S hq
    have r1 := (S1.off hr').1
    have r2 := (S1.off hr').2
    have r3 := offc S1 hr'
    have qr : q ≠ r := ne_of_none upd_same hr'
    have hr0 : H r = none := by
      cases z : H r with
      | none => rfl
      | some o =>
        have := (Same.new (o := .lst (is.map V.int)) hq) r o z
        rw [hr'] at this
        cases this
    refine ⟨fun μ σ' H1 => σ' = [some (.ref st), some (.ref a), some (.ref q), some (.ref r)] ∧ ∃ (L M : List Int), L.length = μ ∧ L.length + M.length = is.length ∧ (∀ j ∈ L, j ∈ is) ∧ (∀ j ∈ M, j ∈ is) ∧ H1 q = some (.lst (L.map V.int)) ∧ H1 r = some (.lst (M.map V.int)) ∧ StAt H1 st lg cl (m + M.length) ∧
      Kp st lg H H1, ⟨is.length, rfl, is, [], rfl, by simp, fun j h => h, (fun j h => by cases h), (upd_ne qr).trans upd_same, upd_same, S2, (Kp.same (Same.new hq)).trans (Kp.same (Same.new hr'))⟩, ?_⟩
    clear S1 S2 hr'
    rintro μ σ' H1 ⟨rfl, L, M, rfl, e1, e2, e3, e4, e5, S1, kp⟩
    refine ⟨_, rfl, (by show 0 ≤ sizeLine; decide), fun p hp => ?_⟩
    have nq : q ≠ p := ne_of_none e4 hp
    have nr : r ≠ p := ne_of_none e5 hp
    have e4' : (upd H1 p (.lst [])) q = some (.lst (L.map V.int)) := (upd_ne nq).trans e4
    have e5' : (upd H1 p (.lst [])) r = some (.lst (M.map V.int)) := (upd_ne nr).trans e5
    have S2 := S1.same (Same.new (o := .lst []) hp)
    have kp2 := kp.trans (Kp.same (Same.new (o := .lst []) hp))
    refine ⟨_, _, dp_int_list e4', dp_nil upd_same, shaped_is _, shaped_nil, _, rfl, ?_⟩
    rw [eqv_ints_nil]
    generalize upd H1 p (.lst []) = H2 at e4' e5' S2 kp2
    cases L with
    | nil =>
      refine iteF ⟨_, rfl, ?_⟩
      have : M.length = is.length := by simpa using e1
      exact k r M H2 e3 this e5' hr0 (this ▸ S2) kp2
    | cons x rest =>
      refine iteT ⟨fun σ' H' => σ' = [some (.ref st), some (.ref a), some (.ref q), some (.ref r)] ∧ ∃ (L' M' : List Int), L'.length = rest.length ∧ L'.length + M'.length = is.length ∧ (∀ j ∈ L', j ∈ is) ∧ (∀ j ∈ M', j ∈ is) ∧ H' q = some (.lst (L'.map V.int)) ∧ H' r = some (.lst (M'.map V.int)) ∧ StAt H' st lg cl (m + M'.length) ∧ Kp st lg H H',
        fun σ' H' ⟨e, L', M', f1, f2⟩ => ⟨rest.length, by simp, e, L', M', f1, f2⟩, ?_⟩
      refine ⟨_, rfl, .inl ⟨rfl, _, SqL.of e5'⟩, _, rfl, .inl ⟨rfl, _, SqL.of e4'⟩, _, rfl, _, rfl, q, _, rfl, .inl (SqL.of e4'), st, lg, cl, ((x :: rest).map V.int).length, m + M.length, rfl, by simp, ?_, ?_, S2, fun d H3 hd S3 kp3 => ?_⟩
      · refine Nat.lt_of_le_of_lt (show _ ≤ 1000 from ?_) (by decide)
        rw [List.length_map]
        omega
      · omega
      rw [List.length_map] at hd
      have g4 := kp3 q _ e4' q1 q2
      have g5 := kp3 r _ e5' r1 r2
      obtain ⟨y, hy⟩ : ∃ y, (x :: rest)[d]? = some y := ⟨_, List.getElem?_eq_getElem hd⟩
      have hy2 : ((x :: rest).map V.int)[d]? = some (V.int y) := by rw [List.getElem?_map, hy]; rfl
      have le : d < 1001 := by omega
      refine ⟨q, _, (d : Int), d, V.int y, rfl, rfl, g4, by omega, by omega, ?_, hy2, ?_⟩
      · have hd2 : d < rest.length + 1 := by simpa using hd
        unfold seqIndex?
        rw [if_neg (show ¬ (d : Int) < 0 by omega), if_pos ?_, Int.toNat_natCast]
        rw [Bool.and_eq_true, decide_eq_true_eq, decide_eq_true_eq, List.length_map, List.length_cons]
        omega
      have g6 : (upd H3 q (.lst (((x :: rest).map V.int).eraseIdx d))) r = some (.lst (M.map V.int)) := (upd_ne qr.symm).trans g5
      refine ⟨r, _, V.int y, rfl, rfl, g6, ?_, rfl, (x :: rest).eraseIdx d, M ++ [y], ?_, ?_, ?_, ?_, ?_, ?_, ?_, ?_⟩
      · rw [List.length_map]
        exact Nat.lt_of_le_of_lt (show M.length ≤ 1000 by omega) (by decide)
      · rw [List.length_eraseIdx_of_lt hd]
        simp
      · rw [List.length_eraseIdx_of_lt hd, List.length_append]
        simp at e1 ⊢
        omega
      · exact fun j hj => e2 j (List.mem_of_mem_eraseIdx hj)
      · intro j hj
        rcases List.mem_append.mp hj with z | z
        · exact e3 j z
        · rw [List.mem_singleton.mp z]
          exact e2 y (List.mem_of_getElem? hy)
      · rw [upd_ne qr, upd_same, erase_map]
      · rw [upd_same, List.map_append]
        rfl
      · have := stAt_put (ys := M.map V.int ++ [V.int y]) (stAt_put (ys := ((x :: rest).map V.int).eraseIdx d) S3 q1 q2 q3) r1 r2 r3
        rw [List.length_append]
        exact this
      · intro b o hb n1 n2
        have h1 := kp3 b o (kp2 b o hb n1 n2) n1 n2
        have nb : b ≠ q := fun z => by
          rw [z, hq] at hb
          cases hb
        have nb2 : b ≠ r := fun z => by
          rw [z, hr0] at hb
          cases hb
        rw [upd_ne nb2, upd_ne nb]
        exact h1
end
end K02
namespace K02
open PySem PySem.Spec PyProof.Rows L2 PySem.W LamX KA KW KU
open Evl (pss_cut tCut)
theorem Kp.new {st lg e : Addr} {H X : Hp} {o : HO} (k : Kp st lg H X) (h : H e = none) : Kp st lg H (upd X e o) := fun b u hb n1 n2 => by
  have nb : b ≠ e := fun z => by
    rw [z, h] at hb
    cases hb
  rw [upd_ne nb]
  exact k b u hb n1 n2
theorem ones_z16 : Ones (Txt.mul "0" 16) := fun c hc => by
  have e : (Txt.mul "0" 16).cps.toList = List.replicate 16 48 := by decide +kernel
  rw [e] at hc
  exact .inl (List.eq_of_mem_replicate hc)
section
variable {P : Program} {w : World} {K : PySem.W.Frag} {mg : Str → Option Value} {base : Heap} (T : Top K mg)
def spString : Sp := fun vs H Q _ => ∃ (st lg cl : Addr) (g m : Nat), vs = [.ref st, .int g] ∧ g ≤ 7 ∧ m ≤ 900000 ∧ StAt H st lg cl m ∧
  ∀ (z : Str) (H' : Hp), Ones z → z.length ≤ 300 → StAt H' st lg cl (m + 60) → Kp st lg H H' → Q (.str z) H'
theorem ok_string : FnOk P w K mg base (L2.CX P w) 4 T._law_string.a T._law_string.d ["state", "rung"] spString := by
  refine T._law_string.f.okX sc__law_string (fun vs H Q E h => ?_) (fun cdv A outer s H vs Q E hr h => ?_)
  · obtain ⟨st, lg, cl, g, m, rfl, _⟩ := h
    rfl
  · obtain ⟨st, lg, cl, g, m, rfl, hg, hm, S, k⟩ := h
    refine ⟨_, (pss_cons (ps_set (i := 2) sc__law_string.nd rfl (.inl rfl) (pe_call (ok_pick T) (hr.mono (by decide)) (by rfl) T._law_pick.m T._law_pick.f.kp (bd__law_pick T) .nil passE (pa_cons (pv 0) (pa_cons (pe_lst (pa_cons pe_int (pa_cons pe_int (pa_cons (pe_un un_neg pe_int) (pa_cons pe_int (pa_cons (pe_un un_neg pe_int) (pa_cons (pe_op op_sub (pe_call (ok_draw T) (hr.mono (by decide)) (by rfl) T._law_draw.m T._law_draw.f.kp (bd__law_draw T) .nil passE (pa_cons (pv 0) (pa_cons pe_int pa_nil))) pe_int) (pa_cons pe_int (pa_cons (pe_un un_neg pe_int) pa_nil))))))))) pa_nil))))
      (pss_cons (ps_set (i := 3) sc__law_string.nd rfl (.inl rfl) (pe_lst (pa_cons (pe_call (ok_llong T) (hr.mono (by decide)) (by rfl) T._law_long.m T._law_long.f.kp (bd__law_long T) .nil passE (pa_cons (pv 2) pa_nil)) (pa_cons (pe_call (ok_lgraded T) (hr.mono (by decide)) (by rfl) T._law_graded.m T._law_graded.f.kp (bd__law_graded T) .nil passE (pa_cons (pv 2) (pa_cons (pv 1) pa_nil))) (pa_cons (pe_op op_mulS pe_str (pe_op op_add pe_int (pe_call (ok_draw T) (hr.mono (by decide)) (by rfl) T._law_draw.m T._law_draw.f.kp (bd__law_draw T) .nil passE (pa_cons (pv 0) (pa_cons pe_int pa_nil))))) (pa_cons (pe_op op_add_str (pe_op op_mulS pe_str pe_int) (pe_op op_mulS pe_str pe_int)) (pa_cons (pe_op op_mulS pe_str pe_int) pa_nil)))))))
      (pss_cons (ps_expr (pe_bm PySem.F.plainAttrs_list PySem.F.slot_list_append PySem.F.type_list_append mt_append (pv 3) (pa_cons (pe_op op_add_str (pe_op op_mulS pe_str pe_int) (pe_call (ok_twos T) (hr.mono (by decide)) (by rfl) T._law_twos.m T._law_twos.f.kp (bd__law_twos T) .nil passE (pa_cons (pe_op op_sub (pe_op op_mul pe_int (pe_call (ok_two T) (hr.mono (by decide)) (by rfl) T._law_two.m T._law_two.f.kp (bd__law_two T) .nil passE (pa_cons (pv 1) pa_nil))) (pe_call (ok_draw T) (hr.mono (by decide)) (by rfl) T._law_draw.m T._law_draw.f.kp (bd__law_draw T) .nil passE (pa_cons (pv 0) (pa_cons pe_int pa_nil)))) (pa_cons pe_int pa_nil)))) pa_nil)))
      (pss_cons (ps_set (i := 4) sc__law_string.nd rfl (.inl rfl) (pe_op op_add_str (pe_join pe_str (pe_lc (own := [("spot", 5)]) (g := gName 5) rfl sc__law_string.nd (pi_range1 (by rfl) T.b_range (pa_cons (pe_call (ok_draw T) (hr.mono (by decide)) (by rfl) T._law_draw.m T._law_draw.f.kp (bd__law_draw T) .nil passE (pa_cons (pv 0) (pa_cons pe_int pa_nil))) pa_nil)) (blkOk_by (own := [("spot", 5)]) (N := ["state", "rung", "item", "some", "found", "spot"]) (sc := defScope s__law_string) (by decide +kernel)) (fun _ _ _ _ _ => pg_name (i := 5) sc__law_string.nd rfl (Or.inl rfl)) (fun _ _ _ _ _ => pts_nil) (fun _ _ _ _ _ => (pe_call (ok_pick T) (hr.mono (by decide)) (by rfl) T._law_pick.m T._law_pick.f.kp (bd__law_pick T) .nil passE (pa_cons (pv 0) (pa_cons (pe_lst (pa_cons pe_str (pa_cons pe_str pa_nil))) pa_nil)))))) (pe_call (ok_pick T) (hr.mono (by decide)) (by rfl) T._law_pick.m T._law_pick.f.kp (bd__law_pick T) .nil passE (pa_cons (pv 0) (pa_cons (pv 3) pa_nil)))))
      (pss_cons (ps_set (i := 4) sc__law_string.nd rfl (.inl rfl) (pe_op op_add_str (pv 4) (pe_join pe_str (pe_lc (own := [("spot", 5)]) (g := gName 5) rfl sc__law_string.nd (pi_range1 (by rfl) T.b_range (pa_cons (pe_call (ok_draw T) (hr.mono (by decide)) (by rfl) T._law_draw.m T._law_draw.f.kp (bd__law_draw T) .nil passE (pa_cons (pv 0) (pa_cons pe_int pa_nil))) pa_nil)) (blkOk_by (own := [("spot", 5)]) (N := ["state", "rung", "item", "some", "found", "spot"]) (sc := defScope s__law_string) (by decide +kernel)) (fun _ _ _ _ _ => pg_name (i := 5) sc__law_string.nd rfl (Or.inl rfl)) (fun _ _ _ _ _ => pts_nil) (fun _ _ _ _ _ => (pe_call (ok_pick T) (hr.mono (by decide)) (by rfl) T._law_pick.m T._law_pick.f.kp (bd__law_pick T) .nil passE (pa_cons (pv 0) (pa_cons (pe_lst (pa_cons pe_str (pa_cons pe_str pa_nil))) pa_nil))))))))
      (pss_one (ps_ret (pe_slice sl_str (pv 4) po_none (po_some (pe_op op_sub (pe_callB call_len_str (by rfl) T.b_len PySem.boot_len (pa_cons (pv 4) pa_nil)) (pe_call (ok_pick T) (hr.mono (by decide)) (by rfl) T._law_pick.m T._law_pick.f.kp (bd__law_pick T) .nil passE (pa_cons (pv 0) (pa_cons (pe_lst (pa_cons pe_int (pa_cons pe_int (pa_cons pe_int (pa_cons (pe_call (ok_draw T) (hr.mono (by decide)) (by rfl) T._law_draw.m T._law_draw.f.kp (bd__law_draw T) .nil passE (pa_cons (pv 0) (pa_cons (pe_op op_add (pe_callB call_len_str (by rfl) T.b_len PySem.boot_len (pa_cons (pv 4) pa_nil)) pe_int) pa_nil))) pa_nil))))) pa_nil))))))))))))), ?_⟩
    -- item
    refine ⟨_, rfl, _, rfl, _, rfl, _, rfl, st, lg, cl, 4001, m, rfl, by decide, by decide, by omega, S, fun r0 H1 hr1 S1 kp1 => ⟨_, _, rfl, rfl, _, rfl, (by show 8 ≤ sizeLine; decide), fun p hp => ?_⟩⟩
    have S2 := S1.same (Same.new (o := .lst [V.int 0, V.int 1, V.int (-1), V.int 5, V.int (-9), V.int (r0 - 2000), V.int 32767, V.int (-32767)]) hp)
    refine ⟨st, lg, cl, p, _, m + 1, rfl, upd_same, (S1.off hp).2, (by show 0 < 8; decide), (by show 8 ≤ 1000; decide), by omega, S2, fun x H2 hx S3 kp2 => ?_⟩
    have kpA : Kp st lg H H2 := (kp1.trans (Kp.same (Same.new hp))).trans kp2
    obtain ⟨i, rfl, i1, i2⟩ : ∃ i : Int, x = .int i ∧ -32767 ≤ i ∧ i ≤ 32767 := by
      simp only [List.mem_cons, List.not_mem_nil, or_false] at hx
      rcases hx with h | h | h | h | h | h | h | h <;> exact ⟨_, h, by omega, by omega⟩
    clear hx kp1 kp2 S1 S2 hp
    obtain ⟨f, ef, hf⟩ := foldI_nat i1 i2
    refine ⟨_, rfl, i, f, rfl, ef, hf, ?_⟩
    refine ⟨_, rfl, _, rfl, i, f, g, rfl, ef, hf, hg, ?_⟩
    -- some
    refine ⟨_, rfl, st, lg, cl, 9, m + 2, rfl, by decide, by decide, by omega, S3, fun r1 H3 hr1 S4 kp4 => ⟨_, _, rfl, rfl, _, _, rfl, rfl, by omega, by omega, by decide, ?_⟩⟩
    refine ⟨_, _, rfl, rfl, by decide, by decide, by decide, _, _, rfl, rfl, by decide, by decide, by decide, _, _, rfl, rfl, by decide +kernel, _, _, rfl, rfl, by decide, by decide, by decide, (by show 5 ≤ sizeLine; decide), fun q hq => ?_⟩
    have kpB : Kp st lg H H3 := kpA.trans kp4
    have q1 := (S4.off hq).1
    have q2 := (S4.off hq).2
    have q3 := offc S4 hq
    have hq0 : H q = none := by
      cases z : H q with
      | none => rfl
      | some o =>
        have := kpB q o z q1 q2
        rw [hq] at this
        cases this
    have o3 : Ones (Txt.mul "1" (10 + (r1 : Int))) ∧ (Txt.mul "1" (10 + (r1 : Int))).length ≤ 100 := by
      rw [show (10 : Int) + r1 = ((10 + r1 : Nat) : Int) by omega, mul_ones]
      exact ⟨ones_ones _, by rw [onesT_len]; omega⟩
    have o4 : Ones (Txt.mul "1" 12 ++ Txt.mul "0" 16) ∧ (Txt.mul "1" 12 ++ Txt.mul "0" 16).length ≤ 100 := ⟨(show Ones (Txt.mul "1" ((12 : Nat) : Int)) by rw [mul_ones]; exact ones_ones _).app ones_z16, by decide +kernel⟩
    have o5 : Ones (Txt.mul "1" 28) ∧ (Txt.mul "1" 28).length ≤ 100 := ⟨show Ones (Txt.mul "1" ((28 : Nat) : Int)) by rw [mul_ones]; exact ones_ones _, by decide +kernel⟩
    obtain ⟨ys, hys, hall, hly⟩ : ∃ ys : List Str, [V.str (longT f), V.str (gradeT f g), V.str (Txt.mul "1" (10 + (r1 : Int))), V.str (Txt.mul "1" 12 ++ Txt.mul "0" 16), V.str (Txt.mul "1" 28)] = ys.map V.str ∧ (∀ y ∈ ys, Ones y ∧ y.length ≤ 100) ∧ ys.length = 5 := by
      refine ⟨[longT f, gradeT f g, Txt.mul "1" (10 + (r1 : Int)), Txt.mul "1" 12 ++ Txt.mul "0" 16, Txt.mul "1" 28], rfl, fun y hy => ?_, rfl⟩
      simp only [List.mem_cons, List.not_mem_nil, or_false] at hy
      rcases hy with h | h | h | h | h <;> subst h
      · exact ⟨ones_long f, longT_le hf⟩
      · exact ⟨ones_grade f g, Nat.le_trans (gradeT_le hg) (by decide)⟩
      · exact o3
      · exact o4
      · exact o5
    show tSeq _ _ _ [some (V.ref st), some (V.int g), some (V.int i), some (V.ref q), none, none] (upd H3 q (.lst [V.str (longT f), V.str (gradeT f g), V.str (Txt.mul "1" (10 + (r1 : Int))), V.str (Txt.mul "1" 12 ++ Txt.mul "0" 16), V.str (Txt.mul "1" 28)]))
    rw [hys]
    clear hys o3 o4 o5
    have S5 := S4.same (Same.new (o := .lst (ys.map V.str)) hq)
    have kpC : Kp st lg H (upd H3 q (.lst (ys.map V.str))) := kpB.trans (Kp.same (Same.new hq))
    -- the sixth
    have hp0 : 1 ≤ 2 ^ g := Nat.pow_pos (by decide)
    have hp1 : 2 ^ g ≤ 128 := Nat.pow_le_pow_right (n := 2) (by decide) hg
    refine ⟨_, rfl, .inl ⟨rfl, _, SqL.of upd_same⟩, _, _, rfl, rfl, by decide, by decide, by decide, _, rfl, g, rfl, by omega, _, _, rfl, rfl, .inl ⟨by omega, by omega⟩, _, rfl, st, lg, cl, 2, m + 3, rfl, by decide, by decide, by omega, S5, fun r2 H4 hr2 S6 kp6 => ⟨_, _, rfl, rfl, 12 * 2 ^ g - r2, 16, ?_, by decide, _, _, rfl, rfl, ?_, ?_⟩⟩
    · have : (12 : Int) * ((2 ^ g : Nat) : Int) - (r2 : Int) = ((12 * 2 ^ g - r2 : Nat) : Int) := by omega
      rw [← this]
      rfl
    · rw [twosT_len]
      decide +kernel
    have hq4 := kp6 q _ upd_same q1 q2
    have o6 : Ones (Txt.mul "1" 12 ++ twosT 16 (12 * 2 ^ g - r2)) ∧ (Txt.mul "1" 12 ++ twosT 16 (12 * 2 ^ g - r2)).length ≤ 100 := by
      rw [show Txt.mul "1" 12 = onesT 12 from mul_ones 12]
      exact ⟨(ones_ones _).app (ones_twos _ _), by rw [len_app, onesT_len, twosT_len]; decide⟩
    refine ⟨q, _, _, rfl, rfl, hq4, ?_, ?_⟩
    · rw [List.length_map, hly]
      decide
    obtain ⟨zs, hzs, hall, hlz⟩ : ∃ zs : List Str, ys.map V.str ++ [V.str (Txt.mul "1" 12 ++ twosT 16 (12 * 2 ^ g - r2))] = zs.map V.str ∧ (∀ y ∈ zs, Ones y ∧ y.length ≤ 100) ∧ zs.length = 6 := by
      refine ⟨ys ++ [Txt.mul "1" 12 ++ twosT 16 (12 * 2 ^ g - r2)], by simp, fun y hy => ?_, by simp [hly]⟩
      rcases List.mem_append.mp hy with h | h
      · exact hall y h
      · rw [List.mem_singleton.mp h]
        exact o6
    rw [hzs]
    have S7 := stAt_put (ys := zs.map V.str) S6 q1 q2 q3
    have kpD : Kp st lg H (upd H4 q (.lst (zs.map V.str))) := Kp.new (kpC.trans kp6) hq0
    have hq5 : (upd H4 q (.lst (zs.map V.str))) q = some (.lst (zs.map V.str)) := upd_same
    clear hzs o6 hq4 S6 kp6 kpC S5 hly S3 S4 kp4 kpA kpB hq
    generalize upd H4 q (.lst (zs.map V.str)) = H5 at S7 kpD hq5 ⊢
    -- found
    refine ⟨⟨_, rfl⟩, ?_⟩
    refine ⟨_, rfl, st, lg, cl, 5, m + 4, rfl, by decide, by decide, by omega, S7, fun c Hd hc Sd kpd => ⟨_, rfl, by omega, by omega, fun D hD => ?_⟩⟩
    have d1 := (Sd.off hD).1
    have d2 := (Sd.off hD).2
    have d3 := offc Sd hD
    have nqD : q ≠ D := ne_of_none (kpd q _ hq5 q1 q2) hD
    have kpD : Kp st lg H Hd := kpD.trans kpd
    have hD0 : H D = none := by
      cases z : H D with
      | none => rfl
      | some o =>
        have := kpD D o z d1 d2
        rw [hD] at this
        cases this
    refine lc_range (n := (c : Int).toNat) (fun j' H' => ∃ ys : List Str, ys.length = j' ∧ (∀ y ∈ ys, y = "0" ∨ y = "1") ∧ H' D = some (.lst (ys.map V.str)) ∧ StAt H' st lg cl (m + 4 + 1 + j') ∧ Kp st lg H H' ∧ H' q = some (.lst (zs.map V.str)))
      ⟨[], rfl, (fun _ hy => nomatch hy), upd_same, Sd.same (Same.new hD), kpD.trans (Kp.same (Same.new hD)), (Same.new hD) _ _ (kpd q _ hq5 q1 q2)⟩ ?_ ?_
    · rintro j' H' hj' ⟨ys, hy1, hy2, hy3, S3, kp3, hq6⟩
      refine ⟨rfl, ?_⟩
      dsimp only [tYes]
      rw [if_pos rfl]
      refine ⟨_, rfl, (by show 2 ≤ sizeLine; decide), fun p hp => ⟨st, lg, cl, p, _, m + 4 + 1 + j', rfl, upd_same, (S3.off hp).2, (by show 0 < 2; decide), (by show 2 ≤ 1000; decide), by omega, S3.same (Same.new hp), fun x H2 hx S4 kp4 => ?_⟩⟩
      have hD2 := kp4 D _ ((Same.new hp) _ _ hy3) d1 d2
      obtain ⟨y, hy, rfl⟩ : ∃ y : Str, (y = "0" ∨ y = "1") ∧ x = .str y := by
        simp only [List.mem_cons, List.not_mem_nil, or_false] at hx
        rcases hx with h | h
        · exact ⟨_, .inl rfl, h⟩
        · exact ⟨_, .inr rfl, h⟩
      refine ⟨_, hD2, ?_, ys ++ [y], by simp [hy1], fun z hz => ?_, ?_, stAt_put S4 d1 d2 d3, Kp.new ((kp3.trans (Kp.same (Same.new hp))).trans kp4) hD0, (upd_ne nqD).trans (kp4 q _ ((Same.new hp) _ _ hq6) q1 q2)⟩
      · rw [List.length_map, hy1]
        exact Nat.lt_trans (show j' < 40 by omega) (by decide)
      · rcases List.mem_append.mp hz with h | h
        · exact hy2 z h
        · rw [List.mem_singleton.mp h]
          exact hy
      · rw [upd_same, List.map_append]
        rfl
    · rintro H' ⟨ys, hy1, hy2, hy3, S3, kp3, hq6⟩
      have hs : (ys.map (·.length)).sum = ys.length := by
        clear hy1 hy3
        induction ys with
        | nil => rfl
        | cons y r ih =>
          rw [List.map_cons, List.sum_cons, ih fun z hz => hy2 z (List.mem_cons_of_mem _ hz)]
          have : y.length = 1 := by
            rcases hy2 y List.mem_cons_self with h | h <;> (rw [h]; rfl)
          rw [this, List.length_cons]
          omega
      have e0' : ("" : Str).length = 0 := rfl
      have hl9 : (Txt.join "" ys).length ≤ 40 := by
        have := StrLaws.join_length_le "" ys
        have e : Txt.join "" ys = Str.join "" ys := StrLaws.glued_eq_join "" ys
        rw [e]
        rw [hs, e0'] at this
        omega
      have oj : Ones (Txt.join "" ys) := join_ones ys fun y hy => by
        rcases hy2 y hy with h | h <;> rw [h]
        · exact ones_zero
        · exact ones_one
      refine ⟨_, D, ys, rfl, rfl, .inl (SqL.of hy3), ?_, ?_⟩
      · rw [hs, e0']
        omega
      generalize Txt.join "" ys = s1 at hl9 oj ⊢
      clear hs hy1 hy2 hy3 ys
      refine ⟨_, rfl, _, rfl, st, lg, cl, q, _, m + 10, rfl, hq6, q2, ?_, ?_, by omega, S3.mono (by omega), fun x H7 hx S8 kp8 => ?_⟩
      · rw [List.length_map, hlz]
        decide
      · rw [List.length_map, hlz]
        decide
      obtain ⟨y, hy, rfl⟩ := List.mem_map.mp hx
      obtain ⟨oy, ly⟩ := hall y hy
      refine ⟨_, _, rfl, rfl, ?_, ?_⟩
      · exact Nat.le_trans (show _ ≤ 140 by omega) (by decide)
      have kpE := kp3.trans kp8
      have of : Ones (s1 ++ y) := oj.app oy
      have lf : (s1 ++ y).length ≤ 140 := by
        rw [len_app]
        omega
      show tSeq _ _ _ [some (V.ref st), some (V.int g), some (V.int i), some (V.ref q), some (V.str (s1 ++ y)), none] H7
      generalize s1 ++ y = s2 at of lf ⊢
      clear oj hl9 kp3 kp8 hx S3 hq6 hq5 hD kpD Sd hD0 S7 kpd d1 d2 d3 oy ly hy
      generalize hm11 : m + 10 + 1 = m2 at S8
      refine ⟨_, rfl, ?_⟩
      refine ⟨⟨_, rfl⟩, ?_⟩
      refine ⟨_, rfl, st, lg, cl, 30, m2, rfl, by decide, by decide, by omega, S8, fun c Hd hc Sd kpd => ⟨_, rfl, by omega, by omega, fun D hD => ?_⟩⟩
      have d1 := (Sd.off hD).1
      have d2 := (Sd.off hD).2
      have d3 := offc Sd hD
      have kpD : Kp st lg H Hd := kpE.trans kpd
      have hD0 : H D = none := by
        cases z : H D with
        | none => rfl
        | some o =>
          have := kpD D o z d1 d2
          rw [hD] at this
          cases this
      refine lc_range (n := (c : Int).toNat) (fun j' H' => ∃ ys : List Str, ys.length = j' ∧ (∀ y ∈ ys, y = "0" ∨ y = "1") ∧ H' D = some (.lst (ys.map V.str)) ∧ StAt H' st lg cl (m2 + 1 + j') ∧ Kp st lg H H')
        ⟨[], rfl, (fun _ hy => nomatch hy), upd_same, Sd.same (Same.new hD), kpD.trans (Kp.same (Same.new hD))⟩ ?_ ?_
      · rintro j' H' hj' ⟨ys, hy1, hy2, hy3, S3, kp3⟩
        refine ⟨rfl, ?_⟩
        dsimp only [tYes]
        rw [if_pos rfl]
        refine ⟨_, rfl, (by show 2 ≤ sizeLine; decide), fun p hp => ⟨st, lg, cl, p, _, m2 + 1 + j', rfl, upd_same, (S3.off hp).2, (by show 0 < 2; decide), (by show 2 ≤ 1000; decide), by omega, S3.same (Same.new hp), fun x H2 hx S4 kp4 => ?_⟩⟩
        have hD2 := kp4 D _ ((Same.new hp) _ _ hy3) d1 d2
        obtain ⟨y, hy, rfl⟩ : ∃ y : Str, (y = "0" ∨ y = "1") ∧ x = .str y := by
          simp only [List.mem_cons, List.not_mem_nil, or_false] at hx
          rcases hx with h | h
          · exact ⟨_, .inl rfl, h⟩
          · exact ⟨_, .inr rfl, h⟩
        refine ⟨_, hD2, ?_, ys ++ [y], by simp [hy1], fun z hz => ?_, ?_, stAt_put S4 d1 d2 d3, Kp.new ((kp3.trans (Kp.same (Same.new hp))).trans kp4) hD0⟩
        · rw [List.length_map, hy1]
          exact Nat.lt_trans (show j' < 40 by omega) (by decide)
        · rcases List.mem_append.mp hz with h | h
          · exact hy2 z h
          · rw [List.mem_singleton.mp h]
            exact hy
        · rw [upd_same, List.map_append]
          rfl
      · rintro H' ⟨ys, hy1, hy2, hy3, S3, kp3⟩
        have hs : (ys.map (·.length)).sum = ys.length := by
          clear hy1 hy3
          induction ys with
          | nil => rfl
          | cons y r ih =>
            rw [List.map_cons, List.sum_cons, ih fun z hz => hy2 z (List.mem_cons_of_mem _ hz)]
            have : y.length = 1 := by
              rcases hy2 y List.mem_cons_self with h | h <;> (rw [h]; rfl)
            rw [this, List.length_cons]
            omega
        have e0' : ("" : Str).length = 0 := rfl
        have hl9 : (Txt.join "" ys).length ≤ 40 := by
          have := StrLaws.join_length_le "" ys
          have e : Txt.join "" ys = Str.join "" ys := StrLaws.glued_eq_join "" ys
          rw [e]
          rw [hs, e0'] at this
          omega
        have oj : Ones (Txt.join "" ys) := join_ones ys fun y hy => by
          rcases hy2 y hy with h | h <;> rw [h]
          · exact ones_zero
          · exact ones_one
        refine ⟨_, D, ys, rfl, rfl, .inl (SqL.of hy3), ?_, ?_⟩
        · rw [hs, e0']
          omega
        generalize Txt.join "" ys = s3 at hl9 oj ⊢
        clear hs hy1 hy2 hy3 ys
        refine ⟨_, _, rfl, rfl, ?_, ?_⟩
        · exact Nat.le_trans (show _ ≤ 180 by omega) (by decide)
        have of3 : Ones (s2 ++ s3) := of.app oj
        have lf3 : (s2 ++ s3).length ≤ 180 := by
          rw [len_app]
          omega
        generalize s2 ++ s3 = s4 at of3 lf3 ⊢
        have S9 : StAt H' st lg cl (m + 45) := S3.mono (by omega)
        have zb : s4.length ≤ sizeLine := Nat.le_trans (show _ ≤ 180 by omega) (by decide)
        have k9 := kp3
        refine ⟨_, rfl, _, rfl, s4, rfl, zb, _, rfl, _, rfl, _, rfl, s4, rfl, zb, _, _, rfl, rfl, st, lg, cl, s4.length + 1, m + 45, rfl, by omega, Nat.lt_of_le_of_lt (show _ ≤ 181 by omega) (by decide), by omega, S9, fun r3 H9 hr3 S10 kp10 => ⟨(by show 4 ≤ sizeLine; decide), fun p9 hp9 => ?_⟩⟩
        refine ⟨st, lg, cl, p9, _, m + 46, rfl, upd_same, (S10.off hp9).2, (by show 0 < 4; decide), (by show 4 ≤ 1000; decide), by omega, S10.same (Same.new hp9), fun x H10 hx S11 kp11 => ?_⟩
        obtain ⟨r, rfl, hr⟩ : ∃ r : Nat, x = .int ((r : Nat) : Int) ∧ r ≤ s4.length := by
          simp only [List.mem_cons, List.not_mem_nil, or_false] at hx
          rcases hx with h | h | h | h
          · exact ⟨0, h, Nat.zero_le _⟩
          · exact ⟨0, h, Nat.zero_le _⟩
          · exact ⟨0, h, Nat.zero_le _⟩
          · exact ⟨r3, h, by omega⟩
        refine ⟨_, _, rfl, rfl, _, rfl, s4, rfl, zb, ?_⟩
        refine k _ H10 (of3.cut _ _) ?_ (S11.mono (by omega)) (((k9.trans kp10).trans (Kp.same (Same.new hp9))).trans kp11)
        exact Nat.le_trans (cutS_length _ _ _) (by omega)
end
end K02
namespace K02
open PySem PySem.Spec PyProof.Rows L2 PySem.W LamX KA KW KU
open Evl (pss_cut tCut)
/-- the code object of a def that makes lambdas, and its table -/
structure LamT (K : PySem.W.Frag) (x : Str) (st : Stmt) (a : Addr) (d : FuncData) (c P : Addr) : Prop where
  ex : ∃ (oc : Value) (od : Option Addr) (kV doc pm : Value) (an : Option Addr) (ct : Value) (osl : Array (Option Value)),
    d = PySem.W.fnOf x x (defArgs st) (defBody st) (defScope st) .none kV doc pm an (.ref c) ct ∧ K.lookup a = some ⟨oc, od, .func d, osl⟩ ∧ PySem.W.codeIn K (.ref c) x = true
theorem pe_caught {X : Cx} (T : Top X.K X.mg) {c Pt : Addr} {k : Nat} {params : Arguments} {body : Expr} {scope : Scope} {t : XK → TE} {p lpos pos : Pos} (TB : TabB X.base X.mg c Pt) (hcode : X.env.code = .ref c) (hr : Room (k + 2) X.A) (hg : Gl X "_law_caught") (L : LamS X.env.scope scope)
    (hdef : defaultsOf params X.env = ([], [])) (hbind : ∀ (q : Str) (cl : List (Str × Addr)) (pm cv ctv : Value), bindArgs (PySem.W.kla_fn "<lambda>" q params body scope cl pm cv ctv) ⟨[], []⟩ = pure [])
    (hbody : ∀ (A : Around) (outer : List Env) (s : Shared) (H : Hp) (E : XK) (f c' : Addr), Room k (A.deeper (lamEnv X scope s.heap.objs.size f c')) → PE (lamCx X A outer s H E scope f c') body (t E)) :
    PE X (.Call (.Name "_law_caught" p) [.Lambda params body scope lpos] [] pos) (tLam [(Pt, X.env.qual ++ "<lambda>")] (TCaught X.K T.reel.C) t) := by
  obtain ⟨oc, od, kV, doc, pm, an, cdv, ct, osl, ed, lk, hcd⟩ := T._law_caught.f.ex
  have hb := bd__law_caught T
  rw [ed] at lk hb
  exact pe_lamcall (T := [(Pt, X.env.qual ++ "<lambda>")]) hg T._law_caught.m T._law_caught.f.kp lk hcd hb sc__law_caught rfl (.inl rfl)
    (caught_gives sc__law_caught rfl rfl rfl rfl T.reel.g (by decide) (by decide) (by decide) (by decide) (by decide)) TB hcode List.mem_cons_self (fun p hp e => by
      rcases List.mem_singleton.mp hp with rfl
      rfl) hr L hdef hbind hbody
/-- all but the state and the tables stands as it stood -/
def KpN (st lg : Addr) (H H' : Hp) : Prop := ∀ b o, H b = some o → b ≠ st → b ≠ lg → (∀ ps, o ≠ .tbl ps) → H' b = some o
theorem KpN.refl {st lg : Addr} {H : Hp} : KpN st lg H H := fun _ _ h _ _ _ => h
theorem KpN.trans {st lg : Addr} {H H1 H2 : Hp} (a : KpN st lg H H1) (b : KpN st lg H1 H2) : KpN st lg H H2 := fun c o h n1 n2 n3 => b c o (a c o h n1 n2 n3) n1 n2 n3
theorem KpN.kp {st lg : Addr} {H H1 : Hp} (a : Kp st lg H H1) : KpN st lg H H1 := fun c o h n1 n2 _ => a c o h n1 n2
theorem KpN.ext {st lg : Addr} {H H1 : Hp} (a : ExtN H H1) : KpN st lg H H1 := fun c o h _ _ n => a c o h n
theorem KpN.new {st lg p : Addr} {H : Hp} {o : HO} (h : H p = none) : KpN st lg H (upd H p o) := .kp (.same (Same.new h))
abbrev lamQ : Str := (envOfC "law" (defScope s_law) 0 0 .none).qual ++ "<lambda>"
abbrev tabs (Pt : Addr) : List (Addr × Str) := [(Pt, lamQ)]
theorem tabs_kp {st lg cl : Addr} {n : Nat} {L : List (Addr × Str)} {H H' : Hp} (t : Tabs L H) (S : StAt H st lg cl n) (e : Kp st lg H H') : Tabs L H' := by
  obtain ⟨_, _, _, _, S', _⟩ := S
  intro p hp
  obtain ⟨ps, h1, h2, h3⟩ := t p hp
  refine ⟨ps, e _ _ h1 (ne_of h1 S'.d (by intro z; cases z)) (ne_of h1 S'.l (by intro z; cases z)), h2, fun pos cv hc => ?_⟩
  obtain ⟨c, e1, e2⟩ := h3 pos cv hc
  exact ⟨c, e1, e _ _ e2 (ne_of e2 S'.d (by intro z; unfold CodeO at z; cases z)) (ne_of e2 S'.l (by intro z; unfold CodeO at z; cases z))⟩
theorem stAt_ext {H H' : Hp} {st lg cl : Addr} {n : Nat} (S : StAt H st lg cl n) (e : ExtN H H') : StAt H' st lg cl n := by
  obtain ⟨a, b, c, d, s, h⟩ := S
  exact ⟨a, b, c, d, { s with d := e _ _ s.d (fun _ z => by cases z), l := e _ _ s.l (fun _ z => by cases z), c := e _ _ s.c (fun _ z => by cases z) }, h⟩
theorem Pl.kpN {K : PySem.W.Frag} {H H' : Hp} {st lg : Addr} {x : V} {b : Bool} (h : Pl K H x b) (n : ∀ a, x = .ref a → a ≠ st ∧ a ≠ lg) (e : KpN st lg H H') : Pl K H' x b := by
  cases h with
  | int i => exact .int i
  | bl i => exact .bl i
  | str i => exact .str i
  | non => exact .non
  | tup q => exact .tup (e _ _ q (n _ rfl).1 (n _ rfl).2 (fun _ z => by cases z))
  | lst q => exact .lst (e _ _ q (n _ rfl).1 (n _ rfl).2 (fun _ z => by cases z))
  | dK q => exact .dK (e _ _ q (n _ rfl).1 (n _ rfl).2 (fun _ z => by cases z))
/-- a value that stands whatever is drawn -/
structure Std (K : PySem.W.Frag) (H : Hp) (st lg : Addr) (x : V) : Prop where
  pl : ∃ b, Pl K H x b
  off : ∀ a, x = .ref a → a ≠ st ∧ a ≠ lg
theorem Std.kpN {K : PySem.W.Frag} {H H' : Hp} {st lg : Addr} {x : V} (h : Std K H st lg x) (e : KpN st lg H H') : Std K H' st lg x := by
  obtain ⟨⟨b, p⟩, n⟩ := h
  exact ⟨⟨b, p.kpN n e⟩, n⟩
theorem Std.flat {K : PySem.W.Frag} {H : Hp} {st lg : Addr} {x : V} {b : Bool} (p : Pl K H x b) (r : ∀ a, x ≠ .ref a) : Std K H st lg x := ⟨⟨b, p⟩, fun a e => absurd e (r a)⟩
theorem Std.updL {K : PySem.W.Frag} {H : Hp} {st lg er : Addr} {x : V} {xs ys : List V} (h : Std K H st lg x) (hl : H er = some (.lst xs)) : Std K (upd H er (.lst ys)) st lg x := by
  obtain ⟨⟨b, p⟩, n⟩ := h
  refine ⟨⟨b, ?_⟩, n⟩
  cases p with
  | int i => exact .int i
  | bl i => exact .bl i
  | str i => exact .str i
  | non => exact .non
  | tup q => exact .tup ((upd_ne (ne_of q hl (by intro z; cases z))).trans q)
  | @lst a zs q =>
    by_cases e : a = er
    · subst e
      exact .lst upd_same
    · exact .lst ((upd_ne e).trans q)
  | dK q => exact .dK ((upd_ne (ne_of q hl (by intro z; cases z))).trans q)
theorem Std.same {K : PySem.W.Frag} {H H' : Hp} {st lg : Addr} {x : V} (h : Std K H st lg x) (e : Same H H') : Std K H' st lg x := h.kpN (.kp (.same e))
/-- the list of the errors that were caught, all of the class at C -/
structure Errs (H : Hp) (st lg er C : Addr) (as : List Addr) : Prop where
  l : H er = some (.lst (as.map V.ref))
  n1 : er ≠ st
  n2 : er ≠ lg
  e : ∀ a ∈ as, H a = some (ExV (.ref C) none a) ∧ a ≠ st ∧ a ≠ lg
theorem exV_tbl {c : Value} {d : Option Addr} {a : Addr} (ps : Array Value) : ExV c d a ≠ .tbl ps := fun z => by
  unfold ExV at z
  cases z
theorem exV_lst {c : Value} {d : Option Addr} {a : Addr} (xs : List V) : ExV c d a ≠ .lst xs := fun z => by
  unfold ExV at z
  cases z
theorem Errs.kpN {H H' : Hp} {st lg er C : Addr} {as : List Addr} (h : Errs H st lg er C as) (k : KpN st lg H H') : Errs H' st lg er C as :=
  ⟨k _ _ h.l h.n1 h.n2 (fun _ z => by cases z), h.n1, h.n2, fun a ha => ⟨k _ _ (h.e a ha).1 (h.e a ha).2.1 (h.e a ha).2.2 exV_tbl, (h.e a ha).2⟩⟩
theorem Errs.app {H : Hp} {st lg er C a : Addr} {as : List Addr} (h : Errs H st lg er C as) (ha : H a = some (ExV (.ref C) none a)) (h1 : a ≠ st) (h2 : a ≠ lg) : Errs (upd H er (.lst (as.map V.ref ++ [.ref a]))) st lg er C (as ++ [a]) := by
  have ne : ∀ b, H b = some (ExV (.ref C) none b) → b ≠ er := fun b hb => ne_of hb h.l (exV_lst _)
  refine ⟨by rw [upd_same]; simp, h.n1, h.n2, fun b hb => ?_⟩
  rcases List.mem_append.mp hb with hb | hb
  · exact ⟨(upd_ne (ne b (h.e b hb).1)).trans (h.e b hb).1, (h.e b hb).2⟩
  · rcases List.mem_singleton.mp hb with rfl
    exact ⟨(upd_ne (ne b ha)).trans ha, h1, h2⟩
theorem stAt_upd {H : Hp} {st lg cl er : Addr} {n : Nat} {xs ys : List V} (S : StAt H st lg cl n) (h : H er = some (.lst xs)) (h1 : er ≠ st) (h2 : er ≠ lg) (h3 : er ≠ cl) : StAt (upd H er (.lst ys)) st lg cl n := by
  obtain ⟨a, b, c, d, s, h'⟩ := S
  exact ⟨a, b, c, d, { s with d := (upd_ne h1.symm).trans s.d, l := (upd_ne h2.symm).trans s.l, c := (upd_ne h3.symm).trans s.c }, h'⟩
theorem tabs_upd {L : List (Addr × Str)} {H : Hp} {er : Addr} {xs ys : List V} (t : Tabs L H) (h : H er = some (.lst xs)) : Tabs L (upd H er (.lst ys)) := by
  intro p hp
  obtain ⟨ps, h1, h2, h3⟩ := t p hp
  refine ⟨ps, (upd_ne (ne_of h1 h (by intro z; cases z))).trans h1, h2, fun pos cv hc => ?_⟩
  obtain ⟨c, e1, e2⟩ := h3 pos cv hc
  exact ⟨c, e1, (upd_ne (ne_of e2 h (by intro z; unfold CodeO at z; cases z))).trans e2⟩
theorem KpN.upd {H X : Hp} {st lg er : Addr} {o : HO} (k : KpN st lg H X) (h : ∀ u, H er = some u → ∃ ps, u = .tbl ps) : KpN st lg H (upd X er o) := fun b u e n1 n2 n3 => by
  have : b ≠ er := fun z => by
    subst z
    obtain ⟨ps, q⟩ := h u e
    exact n3 ps q
  rw [upd_ne this]
  exact k b u e n1 n2 n3
theorem KpN.free {H X : Hp} {st lg er : Addr} (k : KpN st lg H X) (h : X er = none) (n1 : er ≠ st) (n2 : er ≠ lg) : ∀ u, H er = some u → ∃ ps, u = .tbl ps := fun u e => by
  by_cases c : ∃ ps, u = .tbl ps
  · exact c
  · have z := k er u e n1 n2 (fun ps q => c ⟨ps, q⟩)
    rw [h] at z
    cases z
theorem kit_self {K : PySem.W.Frag} {C : Addr} : PySem.W.kitOne K (.ref C) (.ref C) = some true := by
  unfold PySem.W.kitOne
  rw [if_pos (by simp)]
theorem caught_err {K : PySem.W.Frag} {mg : Str → Option Value} (T : Top K mg) {n : Str} (X : ExcT K mg n T.reel.C) {Pt st lg cl : Addr} {m m' : Nat} {t : XK → TE} {σ : L2.St} {H : Hp} {Q : VK} (hT : Tabs (tabs Pt) H) (S : StAt H st lg cl m)
    (A : ∀ (H1 : Hp) (E : XK) (Q1 : VK), ExtN H H1 → StAt H1 st lg cl m → (∀ H2, Kp st lg H1 H2 → StAt H2 st lg cl m' → E (.ref X.C) none H2) → t E σ H1 Q1)
    (k : ∀ a H', StAt H' st lg cl m' → Tabs (tabs Pt) H' → KpN st lg H H' → H' a = some (ExV (.ref X.C) none a) → a ≠ st → a ≠ lg → Q (.ref a) H') : tLam (tabs Pt) (TCaught K T.reel.C) t σ H Q := by
  refine ⟨hT, fun H1 e1 t1 Q1 hQ1 => A H1 _ Q1 e1 (stAt_ext S e1) fun H2 kp S2 => ⟨X.exm T.reel, fun a ha => ?_⟩⟩
  have t2 := tabs_kp t1 (stAt_ext S e1) kp
  exact k a _ (S2.same (Same.new ha)) (t2.ext (Same.new ha)) (((KpN.ext e1).trans (.kp kp)).trans (.new ha)) upd_same (S2.off ha).1 (S2.off ha).2
theorem small_fits {d : PyData} (hl : d.leavesShort 13 = true) (hw : d.weight ≤ 2 ^ 20) : d.shown.length ≤ sizeLine := PyData.shown_fits (by decide) (by decide) hl hw
theorem int_small {i : Int} (h1 : -65535 ≤ i) (h2 : i ≤ 65535) : (PyData.int i).leavesShort 13 = true ∧ (PyData.int i).weight ≤ 17 ∧ (PyData.int i).showable = true := by
  have hn : i.natAbs < 2 ^ 17 := by omega
  have hl : i.natAbs.log2 ≤ 17 := by
    rcases Nat.eq_zero_or_pos i.natAbs with z | z
    · rw [z]
      decide
    · exact Nat.le_of_lt ((Nat.log2_lt (by omega)).mpr hn)
  have hl2 : i.natAbs.log2 < 17 ∨ i.natAbs = 0 := by
    rcases Nat.eq_zero_or_pos i.natAbs with z | z
    · exact .inr z
    · exact .inl ((Nat.log2_lt (by omega)).mpr hn)
  refine ⟨?_, ?_, ?_⟩
  · simp only [PyData.leavesShort, decide_eq_true_eq]
    exact PyData.shown_int_le (by omega)
  · simp only [PyData.weight]
    split
    · omega
    · rename_i c
      rcases hl2 with q | q
      · omega
      · exact absurd (by simpa using q) c
  · simp only [PyData.showable, decide_eq_true_eq]
    omega
theorem ite_same {x : V} {A B : Prop} {d : Decidable (x = x)} (h : B) : if (!@decide (x = x) d) = true then A else B := by
  rw [if_neg (by simp)]
  exact h
theorem pair_fits {i j : Int} (h1 : -65535 ≤ i) (h2 : i ≤ 65535) (h3 : -65535 ≤ j) (h4 : j ≤ 65535) : (PyData.tuple [.int i, .int j]).showable = true ∧ (PyData.tuple [.int i, .int j]).hasDict = false ∧ (PyData.tuple [.int i, .int j]).depth ≤ 60 ∧ (PyData.tuple [.int i, .int j]).shown.length ≤ sizeLine := by
  obtain ⟨a, b, c⟩ := int_small h1 h2
  obtain ⟨a', b', c'⟩ := int_small h3 h4
  refine ⟨by simp [PyData.showable, PyData.showableAll] at c c' ⊢; exact ⟨c, c'⟩, by simp [PyData.hasDict, PyData.hasDictAll], by simp [PyData.depth, PyData.depthAll], small_fits (by simp [PyData.leavesShort, PyData.leavesShortAll] at a a' ⊢; exact ⟨a, a'⟩) ?_⟩
  simp only [PyData.weight, PyData.weightAll] at b b' ⊢
  have : (2 : Nat) ^ 20 = 1048576 := by decide
  omega
/-- the law's code object, and its table: FnG of a def that makes lambdas -/
theorem fnG_ofC {CX : CXT} {P : Program} {w : World} {K : PySem.W.Frag} {mg : Str → Option Value} {base : Heap} {k : Nat} {f c Pt : Addr} {x : Str} {st : Stmt} {fd : FuncData} {N ps : List Str} {sp : Sp} (LT : LamT K x st f fd c Pt) (S : FnScope N ps (defScope st))
    (len : ∀ vs H Q E, sp vs H Q E → vs.length = ps.length)
    (hbody : ∀ (A : Around) (outer : List Env) (s : Shared) (H : Hp) (vs : List V) (Q : VK) (E : XK), Room k (A.deeper (envOfC x (defScope st) s.heap.objs.size f (.ref c))) → A.guards = some [] → sp vs H Q E →
      ∃ t, PSs (cxOf CX P w K mg base N x (defScope st) f (.ref c) A outer s H E) (defBody st) t ∧ t { nx := fun _ H' => Q .non H', rt := Q } (L2.start N vs) H) : FnG P w K mg base CX (k + 1) f fd ps sp := by
  obtain ⟨oc, od, kV, doc, pm, an, ct, osl, rfl, lk, hcd⟩ := LT.ex
  exact ⟨len, fun A outer s H args us vs Q E hr hg e0 hb r h => run_ofS lk hcd S hr e0 hb r (len _ _ _ _ h) fun hr' => hbody A outer s H vs Q E hr' hg h⟩
/-! ### calls by names -/
section
variable {K : PySem.W.Frag} {x qual : Str} {st : Stmt} {f : Addr} {fd : FuncData}
theorem Fun.kw3 {a b c : Str} (F : Fun K x qual st f fd) (h : ∀ (kV doc pm : Value) (an : Option Addr) (cdv ct u v z : Value), bindArgs (PySem.W.fnOf x qual (defArgs st) (defBody st) (defScope st) .none kV doc pm an cdv ct) ⟨[], [(c, u), (b, v), (a, z)]⟩ = pure [(a, z), (b, v), (c, u)]) :
    KBn K fd [a, b, c] 0 [c, b, a] (fun _ ws => ws.reverse) (fun _ zs => zs.reverse) := by
  obtain ⟨oc, od, kV, doc, pm, an, cdv, ct, osl, rfl, lk, hcd⟩ := F.ex
  refine ⟨fun s us ws X l1 l2 => ?_, fun {_ _ zs ws} _ r => ?_⟩
  · match us, ws, l1, l2 with
    | [], [u, v, z], _, _ => exact .of_eq (h kV doc pm an cdv ct u v z)
  · clear h
    have rev : ∀ {zs : List V} {ws : List Value}, Vals zs ws → Vals zs.reverse ws.reverse := fun {zs ws} r => by
      induction r with
      | nil => exact .nil
      | cons h _ ih =>
        rw [List.reverse_cons, List.reverse_cons]
        exact ih.append (.cons h .nil)
    exact rev r
def swap3 {α : Type} : List α → List α
  | [x, y, z] => [x, z, y]
  | l => l
theorem Fun.kw3m {a b c : Str} (F : Fun K x qual st f fd) (h : ∀ (kV doc pm : Value) (an : Option Addr) (cdv ct u v z : Value), bindArgs (PySem.W.fnOf x qual (defArgs st) (defBody st) (defScope st) .none kV doc pm an cdv ct) ⟨[], [(a, u), (c, v), (b, z)]⟩ = pure [(a, u), (b, z), (c, v)]) :
    KBn K fd [a, b, c] 0 [a, c, b] (fun _ ws => swap3 ws) (fun _ zs => swap3 zs) := by
  obtain ⟨oc, od, kV, doc, pm, an, cdv, ct, osl, rfl, lk, hcd⟩ := F.ex
  refine ⟨fun s us ws X l1 l2 => ?_, fun {_ _ zs ws} _ r => ?_⟩
  · match us, ws, l1, l2 with
    | [], [u, v, z], _, _ => exact .of_eq (h kV doc pm an cdv ct u v z)
  · clear h
    match zs, ws, r with
    | [], [], _ => exact .nil
    | [_], [_], r => exact r
    | [_, _], [_, _], r => exact r
    | [_, _, _], [_, _, _], .cons h1 (.cons h2 (.cons h3 .nil)) => exact .cons h1 (.cons h3 (.cons h2 .nil))
    | _ :: _ :: _ :: _ :: _, _ :: _ :: _ :: _ :: _, r => exact r
end
/-! ### what a reading promises at the law's own values -/
theorem unfold_le {n : Int} (h0 : 0 ≤ n) (h : n ≤ 65535) : -65535 ≤ unfoldI n ∧ unfoldI n ≤ 65535 := by
  unfold unfoldI
  split <;> omega
theorem long_small {l : List Nat} {a : Nat} {i : Int} {b : Nat} (h : longDue l a = some (i, b)) : -65535 ≤ i ∧ i ≤ 65535 ∧ b ≤ l.length := by
  unfold longDue at h
  split at h
  · cases h
  · rename_i c
    cases h
    have c1 : onesL (l.drop a) ≤ 15 := Nat.le_of_not_lt fun z => c (.inl z)
    have c2 : ¬ l.length < a + 2 * onesL (l.drop a) + 1 := fun z => c (.inr z)
    have v := valL_lt ((l.drop (a + onesL (l.drop a) + 1)).take (onesL (l.drop a)))
    have e1 : ((l.drop (a + onesL (l.drop a) + 1)).take (onesL (l.drop a))).length ≤ onesL (l.drop a) := by rw [List.length_take]; omega
    generalize onesL (l.drop a) = n at c1 c2 v e1 ⊢
    generalize valL _ = q at v ⊢
    have p1 : 2 ^ n ≤ 32768 := Nat.pow_le_pow_right (n := 2) (by decide) c1
    have p2 : 1 ≤ 2 ^ n := Nat.pow_pos (by decide)
    have v2 : q < 2 ^ n := Nat.lt_of_lt_of_le v (Nat.pow_le_pow_right (by decide) e1)
    have := unfold_le (n := ((2 ^ n + q : Nat) : Int) - 1) (by omega) (by omega)
    exact ⟨this.1, this.2, by omega⟩
end K02
namespace K02
open PySem PySem.Spec PyProof.Rows L2 PySem.W LamX KA KW KU
open Evl (pss_cut tCut)
theorem grade_small {l : List Nat} {a g : Nat} {i : Int} {b : Nat} (hg : g ≤ 7) (h : gradeDue l a g = some (i, b)) : -65535 ≤ i ∧ i ≤ 65535 ∧ b ≤ l.length := by
  unfold gradeDue at h
  split at h
  · split at h
    · cases h
    · rename_i c2
      split at h
      · rename_i c3
        cases h
        generalize valL ((l.drop (a + 12)).take 16) = q at c3 ⊢
        have := unfold_le (n := ((q : Nat) : Int)) (by omega) (by omega)
        exact ⟨this.1, this.2, by omega⟩
      · cases h
  · rename_i c1
    split at h
    · cases h
    · rename_i c2
      cases h
      have v := valL_lt ((l.drop (a + onesL (l.drop a) + 1)).take g)
      have e1 : ((l.drop (a + onesL (l.drop a) + 1)).take g).length ≤ g := by rw [List.length_take]; omega
      generalize valL ((l.drop (a + onesL (l.drop a) + 1)).take g) = q at v ⊢
      generalize onesL (l.drop a) = n at c1 c2 ⊢
      have p1 : 2 ^ g ≤ 128 := Nat.pow_le_pow_right (n := 2) (by decide) hg
      have v2 : q < 2 ^ g := Nat.lt_of_lt_of_le v (Nat.pow_le_pow_right (by decide) e1)
      generalize 2 ^ g = w at p1 v2 ⊢
      have m : n * w ≤ 11 * 128 := Nat.mul_le_mul (by omega) p1
      have := unfold_le (n := ((n * w + q : Nat) : Int)) (by omega) (by omega)
      exact ⟨this.1, this.2, by omega⟩
theorem fixed_small {l : List Nat} {a m : Nat} (hm : m ≤ 16) : valL ((l.drop a).take m) ≤ 65535 := by
  have v := valL_lt ((l.drop a).take m)
  have e1 : ((l.drop a).take m).length ≤ 16 := by rw [List.length_take]; omega
  have p1 : 2 ^ ((l.drop a).take m).length ≤ 65536 := Nat.pow_le_pow_right (n := 2) (by decide) e1
  omega
/-- what stands there for what is due -/
def DueV (dq : Option (Int × Nat)) (H : Hp) (v : V) : Prop := match dq with
  | none => v = .non
  | some (j, b) => ∃ p, v = .ref p ∧ H p = some (.tup [.int j, .int ((b : Nat) : Int)]) ∧ -65535 ≤ j ∧ j ≤ 65535 ∧ b ≤ 65535
theorem DueV.ext {dq : Option (Int × Nat)} {H H' : Hp} {v : V} (h : DueV dq H v) (e : ExtN H H') : DueV dq H' v := by
  cases dq with
  | none => exact h
  | some jb =>
    obtain ⟨p, e1, e2, q⟩ := h
    exact ⟨p, e1, e _ _ e2 (fun _ z => by cases z), q⟩
theorem DueV.same {dq : Option (Int × Nat)} {H H' : Hp} {v : V} (h : DueV dq H v) (e : Same H H') : DueV dq H' v := by
  cases dq with
  | none => exact h
  | some jb =>
    obtain ⟨p, e1, e2, q⟩ := h
    exact ⟨p, e1, e _ _ e2, q⟩
theorem DueQ.of {dq : Option (Int × Nat)} {H : Hp} {Q : VK} {n : Nat} (hs : ∀ i b, dq = some (i, b) → -65535 ≤ i ∧ i ≤ 65535 ∧ b ≤ n) (hn : n ≤ 65535) (k : ∀ v H', Same H H' → DueV dq H' v → Q v H') : DueQ dq H Q := by
  cases dq with
  | none => exact k _ H (fun _ _ e => e) rfl
  | some jb =>
    obtain ⟨j, b⟩ := jb
    obtain ⟨h1, h2, h3⟩ := hs j b rfl
    exact fun p hp => k _ _ (Same.new hp) ⟨p, rfl, upd_same, h1, h2, Nat.le_trans h3 hn⟩
/-- what is due is told -/
theorem told_due {K : PySem.W.Frag} {CB CS f c' : Addr} {q : Str} {t : XK → Hp → VK → Prop} {H1 : Hp} {due : V} {a : Nat} {Q : VK} {E : XK} (dq : Option (Int × Nat))
    (hc : H1 c' = some (CodeO c' q)) (ex : PySem.W.exmOne K (.ref CB) (.ref CS) = some true)
    (hd : DueV dq H1 due)
    (hn : dq = none → ∀ (E : XK) (Q1 : VK), (∀ d H2, Same H1 H2 → H2 d = none → E (.ref CB) (some d) (upd H2 d (.xd [("at", .int ((a : Nat) : Int))]))) → t E H1 Q1)
    (hs : ∀ j b, dq = some (j, b) → ∀ (E : XK) (Q1 : VK) (H2 : Hp), Same H1 H2 → (∀ p H3, Same H2 H3 → H3 p = none → Q1 (.ref p) (upd H3 p (.tup [.int j, .int ((b : Nat) : Int)]))) → t E H2 Q1)
    (k : ∀ H2, Same H1 H2 → Q (.bl true) H2) : spDue K CS CB f c' q t [.ref f, due, .int ((a : Nat) : Int)] H1 Q E := by
  refine ⟨due, a, rfl, hc, fun G hG Q1 hQ1 => ?_⟩
  cases dq with
  | none =>
    have hd : due = .non := hd
    refine hn rfl _ _ fun d H2 s hd2 => ⟨ex, fun b hb => hG _ _ (.inl ⟨hd, b, d, rfl, upd_same, (upd_ne (ne_of_none upd_same hb)).trans upd_same, k _ ?_⟩)⟩
    exact (s.trans (Same.new hd2)).trans (Same.new hb)
  | some jb =>
    obtain ⟨j, b⟩ := jb
    obtain ⟨p, e1, e2, h1, h2, h3⟩ := hd
    subst e1
    obtain ⟨r1, r2, r3, r4⟩ := pair_fits (i := j) (j := ((b : Nat) : Int)) h1 h2 (by omega) (by omega)
    refine hs j b rfl _ _ H1 (fun _ _ e => e) fun p2 H3 s3 hp2 => hQ1 _ _ (hG _ _ (.inr ⟨p, .tuple [.int j, .int b], rfl, rfl, ?_, r1, r2, r3, r4, fun G2 hG2 => ?_⟩))
    · exact (s3.trans (Same.new hp2)) _ _ hc
    · have s4 := s3.trans (Same.new (o := .tup [.int j, .int ((b : Nat) : Int)]) hp2)
      refine hs j b rfl _ _ _ s4 fun p3 H4 s5 hp3 => hG2 p3 _ ?_ ?_ (k _ ((s4.trans s5).trans (Same.new hp3)))
      · exact .tup (SqT.of (((s4.trans s5).trans (Same.new hp3)) _ _ e2)) (.cons (.int _) (.cons (.int _) .nil))
      · exact .tup (SqT.of upd_same) (.cons (.int _) (.cons (.int _) .nil))
/-! ### what a reading promises at the law's own values -/
section
variable {K : PySem.W.Frag} {CB CA CS CG CM : Addr} {H : Hp} {Q : VK} {E : XK} {z : Str} {a g m : Nat} {st lg : Addr} {x y u : V}
theorem in_range {i lo hi : Int} (h1 : lo ≤ i) (h2 : i ≤ hi) : within (.int i) lo hi = true := by simp [within, h1, h2]
theorem no_range {i lo hi : Int} {A : Prop} (h1 : lo ≤ i) (h2 : i ≤ hi) (w : within (.int i) lo hi = false) : A := by
  rw [in_range h1 h2] at w
  cases w
theorem read_at {sp : Str → Nat → Hp → VK → XK → Prop} (ho : Ones z) (hl : z.length ≤ 1000) (ha : a ≤ z.length) (h : sp z a H Q E) : spRead K CB CA sp (.str z) (.int ((a : Nat) : Int)) H Q E := by
  refine ⟨false, true, .str z, .int a, fun z' e => ?_, fun e => ?_, fun z' e _ => ?_⟩
  · cases e
    exact hl
  · rw [isBits_ones ho] at e
    cases e
  · cases e
    refine ⟨no_range (by omega) (by omega), fun a' e2 h2 => ?_⟩
    have : ((a : Nat) : Int) = ((a' : Nat) : Int) := V.int.inj e2
    obtain rfl : a = a' := by omega
    exact h
theorem readL_at (ho : Ones z) (hl : z.length ≤ 1000) (ha : a ≤ z.length) (h : spTakeL CS [.str z, .int ((a : Nat) : Int)] H Q E) : spReadL K CB CA CS [.str z, .int ((a : Nat) : Int)] H Q E := ⟨_, _, rfl, read_at ho hl ha h⟩
theorem readG_at (ho : Ones z) (hl : z.length ≤ 1000) (ha : a ≤ z.length) (hg : g ≤ 7) (h : spTakeG CS [.str z, .int ((a : Nat) : Int), .int ((g : Nat) : Int)] H Q E) : spReadG K CB CA CG CS [.str z, .int ((a : Nat) : Int), .int ((g : Nat) : Int)] H Q E := by
  refine ⟨_, _, _, true, rfl, .int g, read_at ho hl ha ⟨no_range (by omega) (by omega), fun g' e2 h2 => ?_⟩⟩
  have : ((g : Nat) : Int) = ((g' : Nat) : Int) := V.int.inj e2
  obtain rfl : g = g' := by omega
  exact h
theorem readF_at (ho : Ones z) (hl : z.length ≤ 1000) (ha : a ≤ z.length) (h1 : 1 ≤ m) (hm : m ≤ 16) (h : spTakeF CS [.str z, .int ((a : Nat) : Int), .int ((m : Nat) : Int)] H Q E) : spReadF K CB CA CM CS [.str z, .int ((a : Nat) : Int), .int ((m : Nat) : Int)] H Q E := by
  refine ⟨_, _, _, true, rfl, .int m, read_at ho hl ha ⟨no_range (by omega) (by omega), fun m' e2 h2 => ?_⟩⟩
  have : ((m : Nat) : Int) = ((m' : Nat) : Int) := V.int.inj e2
  obtain rfl : m = m' := by omega
  exact fun _ => h
theorem isBits_012 : isBits (.str "012") = false := by decide +kernel
theorem read_bits {sp : Str → Nat → Hp → VK → XK → Prop} (X : Std K H st lg x) (Y : Std K H st lg y) (hl : ∀ s, x = .str s → s.length ≤ 1000) (hb : isBits x = false) (k : E (.ref CB) none H) : spRead K CB CA sp x y H Q E := by
  obtain ⟨⟨b, px⟩, _⟩ := X
  obtain ⟨⟨yb, py⟩, _⟩ := Y
  refine ⟨b, yb, px, py, hl, fun _ => k, fun z e i => ?_⟩
  rw [hb] at i
  cases i
theorem read_off {sp : Str → Nat → Hp → VK → XK → Prop} (ho : Ones z) (hl : z.length ≤ 1000) (Y : Std K H st lg y) (hw : within y 0 z.length = false) (k : E (.ref CA) none H) : spRead K CB CA sp (.str z) y H Q E := by
  obtain ⟨⟨yb, py⟩, _⟩ := Y
  refine ⟨false, yb, .str z, py, fun z' e => ?_, fun e => ?_, fun z' e _ => ?_⟩
  · cases e
    exact hl
  · rw [isBits_ones ho] at e
    cases e
  · cases e
    refine ⟨fun _ => k, fun a e2 h2 => ?_⟩
    subst e2
    exact no_range (by omega) (by omega) hw
end
end K02
namespace K02
open PySem PySem.Spec PyProof.Rows L2 PySem.W LamX KA KW KU
open Evl (pss_cut tCut)
def spLaw (K : PySem.W.Frag) (Pt : Addr) : Sp := fun vs H Q _ => ∃ (a : Addr) (ns : List Int), vs = [.ref a] ∧ SqL K H a (ns.map V.int) ∧ ns.length ≤ 63 ∧ Tabs (tabs Pt) H ∧ ∀ H', Q (.bl true) H'
section
variable {P : Program} {w : World} {K : PySem.W.Frag} {mg : Str → Option Value} {base : Heap} (T : Top K mg)
theorem ok_law (BS : StreamT P w K mg T.reel.C) {c Pt : Addr} (LT : LamT K "law" s_law T.law.a T.law.d c Pt) (TB : TabB base mg c Pt) : FnG P w K mg base (L2.CX P w) 10 T.law.a T.law.d ["script"] (spLaw K Pt) := by
  refine fnG_ofC LT sc_law (fun vs H Q E h => ?_) (fun A outer s H vs Q E hr hg h => ?_)
  · obtain ⟨a, ns, rfl, _⟩ := h
    rfl
  · obtain ⟨a, ns, rfl, hS, hl, Tb, k⟩ := h
    have hr7 : Room (5 + 2) _ := hr.mono (by decide)
    refine ⟨_, pss_cons (ps_set (i := 10) sc_law.nd rfl (.inr rfl) (pe_call (ok_begun T) (hr.mono (by decide)) (by rfl) T._law_begun.m T._law_begun.f.kp (bd__law_begun T) .nil passE (pa_cons (pv 0) pa_nil)))
      (pss_cons (ps_for (passes_of rfl) rfl (pi_range1 (by rfl) T.b_range (pa_cons (pe_op op_add pe_int (pe_callB (call_min2 rfl) (by rfl) T.b_min PyProof.Rows.boot_min (pa_cons (pe_callB call_len_seq (by rfl) T.b_len PySem.boot_len (pa_cons (pv 0) pa_nil)) (pa_cons pe_int pa_nil)))) pa_nil)) (pg_name (i := 1) sc_law.nd rfl (.inl rfl))
        (pss_cons (ps_asg (pe_tup (pa_cons (pe_call (ok_draw T) (hr.mono (by decide)) (by rfl) T._law_draw.m T._law_draw.f.kp (bd__law_draw T) .nil passE (pa_cons (pv 10) (pa_cons pe_int pa_nil))) (pa_cons (pe_op op_add pe_int (pe_call (ok_draw T) (hr.mono (by decide)) (by rfl) T._law_draw.m T._law_draw.f.kp (bd__law_draw T) .nil passE (pa_cons (pv 10) (pa_cons pe_int pa_nil)))) pa_nil))) (pg_tup rfl (pgs_cons (pg_name (i := 6) sc_law.nd rfl (.inr rfl)) (pgs_cons (pg_name (i := 8) sc_law.nd rfl (.inr rfl)) pgs_nil))))
        (pss_cut (ps_set (i := 7) sc_law.nd rfl (.inr rfl) (pe_call (ok_string T) (hr.mono (by decide)) (by rfl) T._law_string.m T._law_string.f.kp (bd__law_string T) .nil passE (pa_cons (pv 10) (pa_cons (pv 6) pa_nil))))
        (pss_cut (ps_for (passes_of rfl) rfl (pi_list (pe_op op_cat (pe_slice sl_list (pe_call (ok_mixed T) (hr.mono (by decide)) (by rfl) T._law_mixed.m T._law_mixed.f.kp (bd__law_mixed T) .nil passE (pa_cons (pv 10) (pa_cons (pe_listRg rfl (by rfl) T.b_list (prg_1 (by rfl) T.b_range (pe_op op_add (pe_callB call_len_str (by rfl) T.b_len PySem.boot_len (pa_cons (pv 7) pa_nil)) pe_int))) pa_nil))) po_none (po_some pe_int)) (pe_lst (pa_cons pe_int pa_nil)))) (pg_name (i := 9) sc_law.nd rfl (.inr rfl))
        (pss_cut (ps_set (i := 2) sc_law.nd rfl (.inl rfl) (pe_call (ok_long_due T) (hr.mono (by decide)) (by rfl) T._law_long_due.m T._law_long_due.f.kp (bd__law_long_due T) .nil passE (pa_cons (pv 7) (pa_cons (pv 9) pa_nil))))
        (pss_cut (ps_if (pt_not (pt_val (pe_lamW (T := tabs Pt) (kb := 5) (k := 8) (fun _ _ _ _ _ Wk => ok_is_due T BS Wk) (by rfl) T._law_is_due.m T._law_is_due.f.kp (bd__law_is_due T) passE (hr.mono (by decide)) hg TB rfl List.mem_cons_self (fun p hp e => by (rcases List.mem_singleton.mp hp with rfl; rfl)) (lamS_by (sc := defScope s_law) (by decide +kernel)) rfl (fun _ _ _ _ _ => rfl) (fun A outer s H E f c' h => (pe_call (ok_read_long T BS) (h.mono (by decide)) (by rfl) T.read_long.m T.read_long.f.kp (bd_read_long T) .nil (passX rfl rfl rfl rfl) (pa_cons (pv 7) (pa_cons (pv 9) pa_nil)))) (pa_cons (pv 2) (pa_cons (pv 9) pa_nil))))) (pss_one (ps_ret pe_bl)) pss_nil)
        (pss_cut (ps_if (PW.pt (pw_and (pt_cmpR op_notN (pv 2) pe_non (nomark _)) (pw_and1 (pt_cmpR op_ne (pe_callB (call_repr hg hr) (by rfl) T.b_repr (by decide +kernel) (pa_cons (pe_kw (ok_read_long T BS) (hr.mono (by decide)) (by rfl) T.read_long.m T.read_long.f.kp (KA.Fun.kw2 T.read_long.f fun _ _ _ _ _ _ _ _ => rfl) passE (pk_cons (pv 9) (pk_cons (pv 7) pk_nil))) pa_nil)) (pe_callB (call_repr hg hr) (by rfl) T.b_repr (by decide +kernel) (pa_cons (pv 2) pa_nil)) (nomark _))))) (pss_one (ps_ret pe_bl)) pss_nil)
        (pss_cut (ps_set (i := 2) sc_law.nd rfl (.inl rfl) (pe_call (ok_grade_due T) (hr.mono (by decide)) (by rfl) T._law_grade_due.m T._law_grade_due.f.kp (bd__law_grade_due T) .nil passE (pa_cons (pv 7) (pa_cons (pv 9) (pa_cons (pv 6) pa_nil)))))
        (pss_cut (ps_if (pt_not (pt_val (pe_lamW (T := tabs Pt) (kb := 5) (k := 8) (fun _ _ _ _ _ Wk => ok_is_due T BS Wk) (by rfl) T._law_is_due.m T._law_is_due.f.kp (bd__law_is_due T) passE (hr.mono (by decide)) hg TB rfl List.mem_cons_self (fun p hp e => by (rcases List.mem_singleton.mp hp with rfl; rfl)) (lamS_by (sc := defScope s_law) (by decide +kernel)) rfl (fun _ _ _ _ _ => rfl) (fun A outer s H E f c' h => (pe_kw (ok_read_grade T BS) (h.mono (by decide)) (by rfl) T.read_grade.m T.read_grade.f.kp (Fun.kw3 T.read_grade.f fun _ _ _ _ _ _ _ _ _ => rfl) (passX rfl rfl rfl rfl) (pk_cons (pv 6) (pk_cons (pv 9) (pk_cons (pv 7) pk_nil))))) (pa_cons (pv 2) (pa_cons (pv 9) pa_nil))))) (pss_one (ps_ret pe_bl)) pss_nil)
        (pss_cons (ps_set (i := 3) sc_law.nd rfl (.inl rfl) (pe_op op_add (pv 9) (pv 8)))
        (pss_cut (ps_set (i := 2) sc_law.nd rfl (.inl rfl) (pe_ifExp (pt_cmpR op_le (pv 3) (pe_callB call_len_str (by rfl) T.b_len PySem.boot_len (pa_cons (pv 7) pa_nil)) (nomark _)) (pe_tup (pa_cons (pe_call (ok_value T) (hr.mono (by decide)) (by rfl) T._law_value.m T._law_value.f.kp (bd__law_value T) .nil passE (pa_cons (pe_slice sl_str (pv 7) (po_some (pv 9)) (po_some (pv 3))) pa_nil)) (pa_cons (pv 3) pa_nil))) pe_non))
        (pss_one (ps_if (pt_not (pt_val (pe_lamW (T := tabs Pt) (kb := 5) (k := 8) (fun _ _ _ _ _ Wk => ok_is_due T BS Wk) (by rfl) T._law_is_due.m T._law_is_due.f.kp (bd__law_is_due T) passE (hr.mono (by decide)) hg TB rfl List.mem_cons_self (fun p hp e => by (rcases List.mem_singleton.mp hp with rfl; rfl)) (lamS_by (sc := defScope s_law) (by decide +kernel)) rfl (fun _ _ _ _ _ => rfl) (fun A outer s H E f c' h => (pe_kw (ok_read_fixed T BS) (h.mono (by decide)) (by rfl) T.read_fixed.m T.read_fixed.f.kp (Fun.kw3m T.read_fixed.f fun _ _ _ _ _ _ _ _ _ => rfl) (passX rfl rfl rfl rfl) (pk_cons (pv 7) (pk_cons (pv 8) (pk_cons (pv 9) pk_nil))))) (pa_cons (pv 2) (pa_cons (pv 9) pa_nil))))) (pss_one (ps_ret pe_bl)) pss_nil))))))))))
        (pss_cons (ps_set (i := 5) sc_law.nd rfl (.inr rfl) (pe_call (ok_pick T) (hr.mono (by decide)) (by rfl) T._law_pick.m T._law_pick.f.kp (bd__law_pick T) .nil passE (pa_cons (pv 10) (pa_cons (pe_lst (pa_cons pe_non (pa_cons pe_int (pa_cons pe_str (pa_cons (pe_lst (pa_cons pe_str pa_nil)) (pa_cons pe_bl pa_nil)))))) pa_nil))))
        (pss_cons (ps_set (i := 11) sc_law.nd rfl (.inr rfl) (pe_call (ok_pick T) (hr.mono (by decide)) (by rfl) T._law_pick.m T._law_pick.f.kp (bd__law_pick T) .nil passE (pa_cons (pv 10) (pa_cons (pe_lst (pa_cons (pe_un un_neg pe_int) (pa_cons (pe_op op_add (pe_callB call_len_str (by rfl) T.b_len PySem.boot_len (pa_cons (pv 7) pa_nil)) pe_int) (pa_cons pe_bl (pa_cons pe_non (pa_cons pe_str pa_nil)))))) pa_nil))))
        (pss_cons (ps_set (i := 4) sc_law.nd rfl (.inl rfl) (pe_lst (pa_cons (pe_caught T TB rfl hr7 (by rfl) (lamS_by (sc := defScope s_law) (by decide +kernel)) rfl (fun _ _ _ _ _ => rfl) (fun A outer s H E f c' h => (pe_call (ok_read_long T BS) (h.mono (by decide)) (by rfl) T.read_long.m T.read_long.f.kp (bd_read_long T) .nil (passX rfl rfl rfl rfl) (pa_cons (pv 5) (pa_cons (pv 11) pa_nil))))) (pa_cons (pe_caught T TB rfl hr7 (by rfl) (lamS_by (sc := defScope s_law) (by decide +kernel)) rfl (fun _ _ _ _ _ => rfl) (fun A outer s H E f c' h => (pe_call (ok_read_grade T BS) (h.mono (by decide)) (by rfl) T.read_grade.m T.read_grade.f.kp (bd_read_grade T) .nil (passX rfl rfl rfl rfl) (pa_cons (pv 5) (pa_cons (pv 11) (pa_cons pe_non pa_nil)))))) pa_nil))))
        (pss_cons (ps_expr (pe_bm PySem.F.plainAttrs_list PySem.F.slot_list_append PySem.F.type_list_append mt_append (pv 4) (pa_cons (pe_caught T TB rfl hr7 (by rfl) (lamS_by (sc := defScope s_law) (by decide +kernel)) rfl (fun _ _ _ _ _ => rfl) (fun A outer s H E f c' h => (pe_call (ok_read_fixed T BS) (h.mono (by decide)) (by rfl) T.read_fixed.m T.read_fixed.f.kp (bd_read_fixed T) .nil (passX rfl rfl rfl rfl) (pa_cons (pv 5) (pa_cons (pv 11) (pa_cons pe_non pa_nil)))))) pa_nil)))
        (pss_cut (ps_if (pt_cmpR (op_neD hr.units) (pe_lc (own := [("error", 12)]) (g := gName 12) rfl sc_law.nd (pi_list (pv 4)) (blkOk_by (own := [("error", 12)]) (N := ["script", "turn", "due", "behind", "errors", "odd", "rung", "signs", "size_here", "spot", "state", "wrong", "error"]) (sc := defScope s_law) (by decide +kernel)) (fun _ _ _ _ _ => pg_name (i := 12) sc_law.nd rfl (Or.inl rfl)) (fun _ _ _ _ _ => pts_one (pt_not (pt_val (pe_callB (show CallR _ _ (rIs2 K) from call_is2) (by rfl) T.b_isinstance PyProof.Rows.boot_isinstance (pa_cons (pv 12) (pa_cons (pe_glob (v := .ref T.BadBits.C) (by rfl) T.BadBits.g rfl) pa_nil)))))) (fun _ _ _ _ _ => pe_int)) (pe_lst pa_nil) (nomark _)) (pss_one (ps_ret pe_bl)) pss_nil)
        (pss_cons (ps_set (i := 4) sc_law.nd rfl (.inl rfl) (pe_lst (pa_cons (pe_caught T TB rfl hr7 (by rfl) (lamS_by (sc := defScope s_law) (by decide +kernel)) rfl (fun _ _ _ _ _ => rfl) (fun A outer s H E f c' h => (pe_call (ok_read_long T BS) (h.mono (by decide)) (by rfl) T.read_long.m T.read_long.f.kp (bd_read_long T) .nil (passX rfl rfl rfl rfl) (pa_cons (pv 7) (pa_cons (pv 11) pa_nil))))) (pa_cons (pe_caught T TB rfl hr7 (by rfl) (lamS_by (sc := defScope s_law) (by decide +kernel)) rfl (fun _ _ _ _ _ => rfl) (fun A outer s H E f c' h => (pe_call (ok_read_grade T BS) (h.mono (by decide)) (by rfl) T.read_grade.m T.read_grade.f.kp (bd_read_grade T) .nil (passX rfl rfl rfl rfl) (pa_cons (pv 7) (pa_cons (pv 11) (pa_cons pe_non pa_nil)))))) pa_nil))))
        (pss_cons (ps_expr (pe_bm PySem.F.plainAttrs_list PySem.F.slot_list_append PySem.F.type_list_append mt_append (pv 4) (pa_cons (pe_caught T TB rfl hr7 (by rfl) (lamS_by (sc := defScope s_law) (by decide +kernel)) rfl (fun _ _ _ _ _ => rfl) (fun A outer s H E f c' h => (pe_call (ok_read_fixed T BS) (h.mono (by decide)) (by rfl) T.read_fixed.m T.read_fixed.f.kp (bd_read_fixed T) .nil (passX rfl rfl rfl rfl) (pa_cons (pv 7) (pa_cons (pv 11) (pa_cons pe_non pa_nil)))))) pa_nil)))
        (pss_cut (ps_if (pt_cmpR (op_neD hr.units) (pe_lc (own := [("error", 12)]) (g := gName 12) rfl sc_law.nd (pi_list (pv 4)) (blkOk_by (own := [("error", 12)]) (N := ["script", "turn", "due", "behind", "errors", "odd", "rung", "signs", "size_here", "spot", "state", "wrong", "error"]) (sc := defScope s_law) (by decide +kernel)) (fun _ _ _ _ _ => pg_name (i := 12) sc_law.nd rfl (Or.inl rfl)) (fun _ _ _ _ _ => pts_one (pt_not (pt_val (pe_callB (show CallR _ _ (rIs2 K) from call_is2) (by rfl) T.b_isinstance PyProof.Rows.boot_isinstance (pa_cons (pv 12) (pa_cons (pe_glob (v := .ref T.BadAt.C) (by rfl) T.BadAt.g rfl) pa_nil)))))) (fun _ _ _ _ _ => pe_int)) (pe_lst pa_nil) (nomark _)) (pss_one (ps_ret pe_bl)) pss_nil)
        (pss_cut (ps_if (pt_not (pt_val (pe_callB (show CallR _ _ (rIs2 K) from call_is2) (by rfl) T.b_isinstance PyProof.Rows.boot_isinstance (pa_cons (pe_caught T TB rfl hr7 (by rfl) (lamS_by (sc := defScope s_law) (by decide +kernel)) rfl (fun _ _ _ _ _ => rfl) (fun A outer s H E f c' h => (pe_call (ok_read_grade T BS) (h.mono (by decide)) (by rfl) T.read_grade.m T.read_grade.f.kp (bd_read_grade T) .nil (passX rfl rfl rfl rfl) (pa_cons (pv 7) (pa_cons pe_int (pa_cons (pe_call (ok_pick T) (h.mono (by decide)) (by rfl) T._law_pick.m T._law_pick.f.kp (bd__law_pick T) .nil passE (pa_cons (pv 10) (pa_cons (pe_lst (pa_cons (pe_un un_neg pe_int) (pa_cons pe_int (pa_cons pe_bl (pa_cons pe_non pa_nil))))) pa_nil))) pa_nil)))))) (pa_cons (pe_glob (v := .ref T.BadGrade.C) (by rfl) T.BadGrade.g rfl) pa_nil))))) (pss_one (ps_ret pe_bl)) pss_nil)
        (pss_one (ps_if (pt_not (pt_val (pe_callB (show CallR _ _ (rIs2 K) from call_is2) (by rfl) T.b_isinstance PyProof.Rows.boot_isinstance (pa_cons (pe_caught T TB rfl hr7 (by rfl) (lamS_by (sc := defScope s_law) (by decide +kernel)) rfl (fun _ _ _ _ _ => rfl) (fun A outer s H E f c' h => (pe_call (ok_read_fixed T BS) (h.mono (by decide)) (by rfl) T.read_fixed.m T.read_fixed.f.kp (bd_read_fixed T) .nil (passX rfl rfl rfl rfl) (pa_cons (pv 7) (pa_cons pe_int (pa_cons (pe_call (ok_pick T) (h.mono (by decide)) (by rfl) T._law_pick.m T._law_pick.f.kp (bd__law_pick T) .nil passE (pa_cons (pv 10) (pa_cons (pe_lst (pa_cons pe_int (pa_cons pe_int (pa_cons pe_bl (pa_cons pe_non pa_nil))))) pa_nil))) pa_nil)))))) (pa_cons (pe_glob (v := .ref T.BadMany.C) (by rfl) T.BadMany.g rfl) pa_nil))))) (pss_one (ps_ret pe_bl)) pss_nil)))))))))))))))
      (pss_one (ps_ret pe_bl))), ?_⟩
    -- begun
    refine ⟨_, rfl, a, ns, rfl, hS, hl, fun st lg cl H1 S1 sm1 n1 n2 => ?_⟩
    have T1 := Tb.ext sm1
    clear Tb
    refine ⟨_, rfl, a, _, rfl, .inl (sm1.seq hS), _, _, rfl, _, _, rfl, rfl, _, rfl, by split <;> omega, by split <;> omega, for_range (n := _) (fun j σ H => StAt H st lg cl (400 * j) ∧ Tabs (tabs Pt) H ∧ ∃ v1 v2 v3 v4 v5 v6 v7 v8 v9 v11 v12, σ = [some (V.ref a), v1, v2, v3, v4, v5, v6, v7, v8, v9, some (V.ref st), v11, v12]) ⟨S1, T1, _, _, _, _, _, _, _, _, _, _, _, rfl⟩ ?_ fun σ H _ => k H⟩
    clear S1 T1 sm1 hS n1 n2 H1
    rintro j σ H hj ⟨S, Tb, v1, v2, v3, v4, v5, v6, v7, v8, v9, v11, v12, rfl⟩
    have hj : j < 9 := by
      refine Nat.lt_of_lt_of_le hj ?_
      split <;> omega
    -- rung, size_here
    refine ⟨_, rfl, st, lg, cl, 8, 400 * j, rfl, by decide, by decide, by omega, S, fun g Ha hg8 Sa kpa => ?_⟩
    refine ⟨_, rfl, st, lg, cl, 16, 400 * j + 1, rfl, by decide, by decide, by omega, Sa, fun n0 Hb hn0 Sb kpb => ⟨_, _, rfl, rfl, (by show 2 ≤ sizeLine; decide), fun p hp => ⟨p, _, rfl, SqT.of upd_same, rfl, _, _, rfl, _, _, rfl, rfl, ?_⟩⟩⟩
    have Tb2 := (tabs_kp Tb S (kpa.trans kpb)).ext (Same.new (o := .tup [V.int g, V.int (1 + n0)]) hp)
    have Sb2 := Sb.same (Same.new (o := .tup [V.int g, V.int (1 + n0)]) hp)
    obtain ⟨n, en, hn1, hn2⟩ : ∃ n : Nat, (1 : Int) + n0 = n ∧ 1 ≤ n ∧ n ≤ 16 := ⟨1 + n0, by omega, by omega, by omega⟩
    show tCut _ _ _ [some (V.ref a), some (V.int (0 + j)), v2, v3, v4, v5, some (V.int g), v7, some (V.int (1 + n0)), v9, some (V.ref st), v11, v12] (upd Hb p (.tup [V.int g, V.int (1 + n0)]))
    generalize upd Hb p (.tup [V.int g, V.int (1 + n0)]) = H1 at Tb2 Sb2 ⊢
    rw [en]
    clear en hn0 n0 Sa Sb S Tb kpa kpb hp
    generalize e0 : 400 * j + 1 + 1 = m0 at Sb2
    have hlim : m0 ≤ 4000 := by omega
    generalize some (V.int (0 + j)) = v1
    -- signs
    refine ⟨fun σ' H' => ∃ z : Str, Ones z ∧ z.length ≤ 300 ∧ σ' = [some (V.ref a), v1, v2, v3, v4, v5, some (V.int g), some (V.str z), some (V.int n), v9, some (V.ref st), v11, v12] ∧ StAt H' st lg cl (m0 + 60) ∧ Tabs (tabs Pt) H', ?_, ?_⟩
    · exact ⟨_, rfl, _, rfl, st, lg, cl, g, m0, rfl, by omega, by omega, Sb2, fun z H2 hz hl2 S2 kp2 => ⟨z, hz, hl2, rfl, S2, tabs_kp Tb2 Sb2 kp2⟩⟩
    clear Sb2 Tb2 H1
    rintro σ H1 ⟨z, ho, hz, rfl, S, Tb⟩
    have hz1 : z.length ≤ 1000 := by omega
    have hzl : z.length ≤ sizeLine := Nat.le_trans hz (by decide)
    have len5 : z.cps.toList.length ≤ 65535 := by
      have : z.length = z.cps.toList.length := by simp [Str.length]
      omega
    -- the spots
    refine ⟨fun σ' H' => (∃ v2 v3 v9, σ' = [some (V.ref a), v1, v2, v3, v4, v5, some (V.int g), some (V.str z), some (V.int n), v9, some (V.ref st), v11, v12]) ∧ StAt H' st lg cl (m0 + 370) ∧ Tabs (tabs Pt) H', ?_, ?_⟩
    · refine ⟨_, rfl, _, rfl, z, rfl, hzl, _, _, rfl, rfl, _, rfl, RgOk.of_le (by omega) (by omega) (by omega) (by omega), fun q hq => ?_⟩
      have S1 := S.same (Same.new (o := .lst (rgV 0 ((z.length : Int) + 1))) hq)
      have T1 := Tb.ext (Same.new (o := .lst (rgV 0 ((z.length : Int) + 1))) hq)
      refine ⟨st, lg, cl, q, (List.range ((z.length : Int) + 1 - 0).toNat).map fun i => (0 : Int) + (i : Nat), m0 + 60, rfl, SqL.of ?_, ?_, by omega, S1, fun p js H2 hjs hjl hp2 _ S2 kp2 => ?_⟩
      · rw [upd_same]
        unfold rgV
        rw [List.map_map]
        rfl
      · rw [List.length_map, List.length_range]
        omega
      have T2 := tabs_kp T1 S1 kp2
      have hjs : ∀ j ∈ js, ∃ b : Nat, j = b ∧ b ≤ z.length := fun j hj => by
        obtain ⟨b, hb, e⟩ := List.mem_map.mp (hjs j hj)
        have := List.mem_range.mp hb
        exact ⟨b, by omega, by omega⟩
      refine ⟨_, rfl, p, _, rfl, SqL.of hp2, fun p2 hp3 => ⟨(by show 1 ≤ sizeLine; decide), fun p3 hp4 => ?_⟩⟩
      have n23 : p2 ≠ p3 := ne_of_none upd_same hp4
      refine ⟨p2, p3, _, _, rfl, rfl, (upd_ne n23).trans upd_same, upd_same, ?_, fun p4 hp5 => ?_⟩
      · have := cutV_length (js.map V.int) none (some 6)
        rw [List.length_map, hjl, List.length_map, List.length_range] at this
        exact Nat.le_trans (show _ ≤ 400 by simp; omega) (by decide)
      generalize hxs : cutV (js.map V.int) none (some 6) ++ [V.int 0] = xs
      have hxs : ∀ x ∈ xs, ∃ b : Nat, x = V.int ((b : Nat) : Int) ∧ b ≤ z.length := fun x hx => by
        rw [← hxs] at hx
        rcases List.mem_append.mp hx with h | h
        · unfold cutV at h
          obtain ⟨j, hj, e⟩ := List.mem_map.mp (List.mem_of_mem_drop (List.mem_of_mem_take h))
          obtain ⟨b, e2, hb⟩ := hjs j hj
          exact ⟨b, by rw [← e, e2], hb⟩
        · exact ⟨0, List.mem_singleton.mp h, Nat.zero_le _⟩
      have S5 := ((S2.same (Same.new (o := .lst (cutV (js.map V.int) none (some 6))) hp3)).same (Same.new (o := .lst [V.int 0]) hp4)).same (Same.new (o := .lst xs) hp5)
      have T5 := ((T2.ext (Same.new (o := .lst (cutV (js.map V.int) none (some 6))) hp3)).ext (Same.new (o := .lst [V.int 0]) hp4)).ext (Same.new (o := .lst xs) hp5)
      have M5 : m0 + 60 + (List.map (fun i => (0 : Int) + ((i : Nat) : Int)) (List.range ((z.length : Int) + 1 - 0).toNat)).length ≤ m0 + 370 := by
        rw [List.length_map, List.length_range]
        omega
      have S5 := S5.mono M5
      refine ⟨p4, rfl, ⟨_, SqL.of upd_same⟩, for_list (xs := xs) (fun _ σ H => (∃ v2 v3 v9, σ = [some (V.ref a), v1, v2, v3, v4, v5, some (V.int g), some (V.str z), some (V.int n), v9, some (V.ref st), v11, v12]) ∧ StAt H st lg cl (m0 + 370) ∧ Tabs (tabs Pt) H ∧ H p4 = some (.lst xs)) ⟨⟨_, _, _, rfl⟩, S5, T5, upd_same⟩ (fun i σ H _ h => SqL.of h.2.2.2) ?_ fun σ H ⟨h1, h2, h3, _⟩ => ⟨h1, h2, h3⟩⟩
      clear S5 T5 S1 T1 S2 T2 hjs hjl hp2 hp3 hp4 hp5 hq S Tb M5 kp2 n23
      rintro i x σ H hx ⟨⟨v2, v3, v9, rfl⟩, S, Tb, hp4⟩
      obtain ⟨b, rfl, hb⟩ := hxs x (List.mem_of_getElem? hx)
      clear hx
      -- due, long
      refine ⟨fun σ' H' => (∃ y, σ' = [some (V.ref a), v1, some y, v3, v4, v5, some (V.int g), some (V.str z), some (V.int n), some (V.int ((b : Nat) : Int)), some (V.ref st), v11, v12] ∧ DueV (longDue z.cps.toList b) H' y) ∧ StAt H' st lg cl (m0 + 370) ∧ Tabs (tabs Pt) H' ∧ H' p4 = some (.lst xs), ?_, ?_⟩
      · exact ⟨_, rfl, _, rfl, z, b, rfl, hz1, by omega, DueQ.of (fun i' b' e => long_small e) len5 fun y H' sm hy => ⟨⟨y, rfl, hy⟩, S.same sm, Tb.ext sm, sm _ _ hp4⟩⟩
      clear S Tb hp4 H
      rintro σ H ⟨⟨y, rfl, hy⟩, S, Tb, hp4⟩
      refine ⟨fun σ' H' => (σ' = [some (V.ref a), v1, some y, v3, v4, v5, some (V.int g), some (V.str z), some (V.int n), some (V.int ((b : Nat) : Int)), some (V.ref st), v11, v12] ∧ DueV (longDue z.cps.toList b) H' y) ∧ StAt H' st lg cl (m0 + 370) ∧ Tabs (tabs Pt) H' ∧ H' p4 = some (.lst xs), ?_, ?_⟩
      · refine ⟨Tb, fun H2 e2 T2 f c' hc => ⟨_, rfl, _, rfl, told_due (E := E0) (longDue z.cps.toList b) hc (exd_exm T.reel BS) (hy.ext e2) (fun e E1 Q1 kE => ?_) (fun i' b' e E1 Q1 H3 s3 kQ => ?_) fun H3 s3 => ⟨_, rfl, iteF ⟨⟨rfl, (hy.ext e2).same s3⟩, (stAt_ext S e2).same s3, T2.ext s3, s3 _ _ (e2 _ _ hp4 fun _ z => by cases z)⟩⟩⟩⟩
        · exact ⟨_, rfl, _, rfl, readL_at ho hz1 hb ⟨z, b, rfl, ho, hz1, hb, fun _ d hd => kE d _ (fun _ _ e => e) hd, fun i' b' e2 => by
            rw [e] at e2
            cases e2⟩⟩
        · exact ⟨_, rfl, _, rfl, readL_at ho hz1 hb ⟨z, b, rfl, ho, hz1, hb, (fun e2 => by (rw [e] at e2; cases e2)), fun i2 b2 e2 p H4 s4 hp => by
            rw [e] at e2
            cases e2
            exact kQ p H4 s4 hp⟩⟩
      clear S Tb hp4 hy H
      rintro σ H ⟨⟨rfl, hy⟩, S, Tb, hp4⟩
      refine ⟨fun σ' H' => σ' = [some (V.ref a), v1, some y, v3, v4, v5, some (V.int g), some (V.str z), some (V.int n), some (V.int ((b : Nat) : Int)), some (V.ref st), v11, v12] ∧ StAt H' st lg cl (m0 + 370) ∧ Tabs (tabs Pt) H' ∧ H' p4 = some (.lst xs), ?_, ?_⟩
      · cases hd : longDue z.cps.toList b with
        | none =>
          rw [hd] at hy
          have hy : y = .non := hy
          subst hy
          exact ⟨_, rfl, rfl, _, rfl, iteF (iteF ⟨rfl, S, Tb, hp4⟩)⟩
        | some jb =>
          obtain ⟨j2, b2⟩ := jb
          rw [hd] at hy
          obtain ⟨p, rfl, hp, q1, q2, q3⟩ := hy
          obtain ⟨r1, r2, r3, r4⟩ := pair_fits (i := j2) (j := ((b2 : Nat) : Int)) q1 q2 (by omega) (by omega)
          refine ⟨_, rfl, rfl, _, rfl, iteT ?_⟩
          refine ⟨_, rfl, _, rfl, rfl, readL_at ho hz1 hb ⟨z, b, rfl, ho, hz1, hb, (fun e2 => by (rw [hd] at e2; cases e2)), fun i2 b3 e2 p2 H4 s4 hp2 => ?_⟩⟩
          rw [hd] at e2
          cases e2
          have s5 := s4.trans (Same.new (o := .tup [.int j2, .int ((b2 : Nat) : Int)]) hp2)
          refine ⟨p2, _, rfl, .tup (SqT.of upd_same) (.cons (.int _) (.cons (.int _) .nil)), r1, r2, r3, r4, _, rfl, p, _, rfl, .tup (SqT.of (s5 _ _ hp)) (.cons (.int _) (.cons (.int _) .nil)), r1, r2, r3, r4, ?_⟩
          exact ⟨rfl, _, rfl, ite_same ⟨rfl, S.same s5, Tb.ext s5, s5 _ _ hp4⟩⟩
      clear S Tb hp4 hy H
      rintro σ H ⟨rfl, S, Tb, hp4⟩
      -- due, grade
      refine ⟨fun σ' H' => (∃ y, σ' = [some (V.ref a), v1, some y, v3, v4, v5, some (V.int g), some (V.str z), some (V.int n), some (V.int ((b : Nat) : Int)), some (V.ref st), v11, v12] ∧ DueV (gradeDue z.cps.toList b g) H' y) ∧ StAt H' st lg cl (m0 + 370) ∧ Tabs (tabs Pt) H' ∧ H' p4 = some (.lst xs), ?_, ?_⟩
      · exact ⟨_, rfl, _, rfl, _, rfl, z, b, g, rfl, hz1, by omega, by omega, DueQ.of (fun i' b' e => grade_small (by omega) e) len5 fun y H' sm hy => ⟨⟨y, rfl, hy⟩, S.same sm, Tb.ext sm, sm _ _ hp4⟩⟩
      clear S Tb hp4 H
      rintro σ H ⟨⟨y2, rfl, hy⟩, S, Tb, hp4⟩
      refine ⟨fun σ' H' => σ' = [some (V.ref a), v1, some y2, v3, v4, v5, some (V.int g), some (V.str z), some (V.int n), some (V.int ((b : Nat) : Int)), some (V.ref st), v11, v12] ∧ StAt H' st lg cl (m0 + 370) ∧ Tabs (tabs Pt) H' ∧ H' p4 = some (.lst xs), ?_, ?_⟩
      · refine ⟨Tb, fun H2 e2 T2 f c' hc => ⟨_, rfl, _, rfl, told_due (E := E0) (gradeDue z.cps.toList b g) hc (exd_exm T.reel BS) (hy.ext e2) (fun e E1 Q1 kE => ?_) (fun i' b' e E1 Q1 H3 s3 kQ => ?_) fun H3 s3 => ⟨_, rfl, iteF ⟨rfl, (stAt_ext S e2).same s3, T2.ext s3, s3 _ _ (e2 _ _ hp4 fun _ z => by cases z)⟩⟩⟩⟩
        · exact ⟨_, rfl, _, rfl, _, rfl, rfl, readG_at ho hz1 hb (by omega) ⟨z, b, g, rfl, ho, hz1, hb, by omega, fun _ d H3 s3 hd => kE d H3 s3 hd, fun i' b' e2 => by
            rw [e] at e2
            cases e2⟩⟩
        · exact ⟨_, rfl, _, rfl, _, rfl, rfl, readG_at ho hz1 hb (by omega) ⟨z, b, g, rfl, ho, hz1, hb, by omega, (fun e2 => by (rw [e] at e2; cases e2)), fun i2 b2 e2 p H4 s4 hp => by
            rw [e] at e2
            cases e2
            exact kQ p H4 s4 hp⟩⟩
      clear S Tb hp4 hy H
      rintro σ H ⟨rfl, S, Tb, hp4⟩
      -- due, fixed
      refine ⟨_, rfl, _, rfl, _, _, rfl, rfl, ?_⟩
      generalize hfd : (if b + n ≤ z.length then some (((valL ((z.cps.toList.drop b).take n) : Nat) : Int), b + n) else none : Option (Int × Nat)) = fd
      refine ⟨fun σ' H' => (∃ y, σ' = [some (V.ref a), v1, some y, some (V.int ((b : Int) + n)), v4, v5, some (V.int g), some (V.str z), some (V.int n), some (V.int ((b : Nat) : Int)), some (V.ref st), v11, v12] ∧ DueV fd H' y) ∧ StAt H' st lg cl (m0 + 370) ∧ Tabs (tabs Pt) H' ∧ H' p4 = some (.lst xs), ?_, ?_⟩
      · by_cases d : b + n ≤ z.length
        · rw [if_pos d] at hfd
          subst hfd
          refine ⟨_, rfl, _, rfl, z, rfl, hzl, _, _, rfl, rfl, true, congrArg V.bl (decide_eq_true (by omega)), iteT ?_⟩
          have cut : cutS z (some (b : Int)) (some ((b : Int) + n)) = ⟨((z.cps.toList.drop b).take n).toArray⟩ := by
            have e := cut_nat z b (b + n)
            rw [show b + n - b = n by omega] at e
            exact e
          have vs := fixed_small (l := z.cps.toList) (a := b) hn2
          refine ⟨_, rfl, _, rfl, _, rfl, _, rfl, _, rfl, z, rfl, hzl, ?_⟩
          rw [cut]
          refine ⟨_, rfl, ?_, _, rfl, (by show 2 ≤ sizeLine; decide), fun p hp => ⟨⟨_, rfl, p, rfl, upd_same, ?_, ?_, ?_⟩, S.same (Same.new hp), Tb.ext (Same.new hp), (Same.new hp) _ _ hp4⟩⟩
          · refine Nat.le_trans (?_ : _ ≤ z.length) (Nat.le_trans hz (by decide))
            rw [← cut]
            exact cutS_length _ _ _
          · omega
          · omega
          · omega
        · rw [if_neg d] at hfd
          subst hfd
          exact ⟨_, rfl, _, rfl, z, rfl, hzl, _, _, rfl, rfl, false, congrArg V.bl (decide_eq_false (by omega)), iteF ⟨⟨_, rfl, rfl⟩, S, Tb, hp4⟩⟩
      clear S Tb hp4 H
      rintro σ H ⟨⟨y3, rfl, hy⟩, S, Tb, hp4⟩
      refine ⟨Tb, fun H2 e2 T2 f c' hc => ⟨_, rfl, _, rfl, told_due (E := E0) fd hc (exd_exm T.reel BS) (hy.ext e2) (fun e E1 Q1 kE => ?_) (fun i' b' e E1 Q1 H3 s3 kQ => ?_) fun H3 s3 => ⟨_, rfl, iteF ⟨⟨_, _, _, rfl⟩, (stAt_ext S e2).same s3, T2.ext s3, s3 _ _ (e2 _ _ hp4 fun _ z => by cases z)⟩⟩⟩⟩
      · have d : ¬ b + n ≤ z.length := fun d => by
          rw [if_pos d, e] at hfd
          cases hfd
        exact ⟨_, rfl, _, rfl, _, rfl, rfl, readF_at ho hz1 hb hn1 hn2 ⟨z, b, n, rfl, ho, hz1, by omega, by omega, fun _ d' hd => kE d' _ (fun _ _ e => e) hd, fun h => absurd h d⟩⟩
      · have d : b + n ≤ z.length := Classical.byContradiction fun d => by
          rw [if_neg d, e] at hfd
          cases hfd
        rw [if_pos d, e] at hfd
        cases hfd
        exact ⟨_, rfl, _, rfl, _, rfl, rfl, readF_at ho hz1 hb hn1 hn2 ⟨z, b, n, rfl, ho, hz1, by omega, by omega, fun h => absurd h (by omega), fun _ p hp => kQ p _ (fun _ _ e => e) hp⟩⟩
    clear S Tb H1
    rintro σ H ⟨⟨v2, v3, v9, rfl⟩, S, Tb⟩
    -- odd
    refine ⟨_, rfl, (by show 1 ≤ sizeLine; decide), fun q hq => ⟨(by show 5 ≤ sizeLine; decide), fun p hp => ⟨st, lg, cl, p, _, m0 + 370, rfl, upd_same, (S.same (Same.new hq)).off hp |>.2, (by show 0 < 5; decide), (by show 5 ≤ 1000; decide), by omega, (S.same (Same.new hq)).same (Same.new hp), fun xo Ha hxo Sa kpa => ?_⟩⟩⟩
    have kp1 : Kp st lg H Ha := ((Kp.same (Same.new hq)).trans (Kp.same (Same.new hp))).trans kpa
    have ho1 : Std K Ha st lg xo ∧ isBits xo = false ∧ ∀ s, xo = .str s → s.length ≤ 1000 := by
      have hq2 : Ha q = some (.lst [V.str "0"]) := kpa q _ ((Same.new hp) _ _ upd_same) (S.off hq).1 (S.off hq).2
      simp only [List.mem_cons, List.not_mem_nil, or_false] at hxo
      rcases hxo with h | h | h | h | h <;> subst h
      · exact ⟨.flat .non (fun _ z => by cases z), rfl, fun s z => by cases z⟩
      · exact ⟨.flat (.int _) (fun _ z => by cases z), rfl, fun s z => by cases z⟩
      · exact ⟨.flat (.str _) (fun _ z => by cases z), isBits_012, fun s z => by
          cases z
          decide⟩
      · exact ⟨⟨⟨_, .lst hq2⟩, fun a e => by
          cases e
          exact S.off hq⟩, rfl, fun s z => by cases z⟩
      · exact ⟨.flat (.bl _) (fun _ z => by cases z), rfl, fun s z => by cases z⟩
    obtain ⟨oO, bo, lo⟩ := ho1
    have Ta := tabs_kp Tb S kp1
    clear hxo kp1 kpa hp hq S Tb
    -- wrong
    refine ⟨_, rfl, _, rfl, _, rfl, z, rfl, hzl, _, _, rfl, rfl, (by show 5 ≤ sizeLine; decide), fun p2 hp2 => ⟨st, lg, cl, p2, _, m0 + 370 + 1, rfl, upd_same, (Sa.off hp2).2, (by show 0 < 5; decide), (by show 5 ≤ 1000; decide), by omega, Sa.same (Same.new hp2), fun xw Hb hxw Sb kpb => ?_⟩⟩
    have kp2 : Kp st lg Ha Hb := (Kp.same (Same.new hp2)).trans kpb
    have ow : Std K Hb st lg xw ∧ within xw 0 z.length = false := by
      simp only [List.mem_cons, List.not_mem_nil, or_false] at hxw
      rcases hxw with h | h | h | h | h <;> subst h
      · exact ⟨.flat (.int _) (fun _ z => by cases z), by simp [within]⟩
      · exact ⟨.flat (.int _) (fun _ z => by cases z), by simp [within]; omega⟩
      · exact ⟨.flat (.bl _) (fun _ z => by cases z), rfl⟩
      · exact ⟨.flat .non (fun _ z => by cases z), rfl⟩
      · exact ⟨.flat (.str _) (fun _ z => by cases z), rfl⟩
    obtain ⟨oW, bw⟩ := ow
    have oO := oO.kpN (.kp kp2)
    have Tb := tabs_kp Ta Sa kp2
    clear hxw kp2 kpb hp2 Sa Ta
    show tSeq _ _ _ [some (V.ref a), v1, v2, v3, v4, some xo, some (V.int g), some (V.str z), some (V.int n), v9, some (V.ref st), some xw, v12] Hb
    have S := Sb.mono (show m0 + 370 + 1 + 1 ≤ m0 + 372 by omega)
    clear Sb
    -- errors: BadBits
    refine caught_err (m' := m0 + 372) T T.BadBits Tb S (fun H1 E1 Q1 e1 S1 k1 => ?_) (fun a1 Hd Sd Td kpd hd1 nd1 nd1' => ?_)
    · exact ⟨_, rfl, _, rfl, _, _, rfl, read_bits (oO.kpN (.ext e1)) (oW.kpN (.ext e1)) lo bo (k1 H1 Kp.refl S1)⟩
    have oO := oO.kpN kpd
    have oW := oW.kpN kpd
    refine caught_err (m' := m0 + 372) T T.BadBits Td Sd (fun H1 E1 Q1 e1 S1 k1 => ?_) (fun a2 He Se Te kpe he2 ne2 ne2' => ⟨(by show 2 ≤ sizeLine; decide), fun er her => ?_⟩)
    · exact ⟨_, rfl, _, rfl, _, _, _, _, rfl, .non, read_bits (oO.kpN (.ext e1)) (oW.kpN (.ext e1)) lo bo (k1 H1 Kp.refl S1)⟩
    have oO := oO.kpN kpe
    have oW := oW.kpN kpe
    have hd1 := kpe _ _ hd1 nd1 nd1' exV_tbl
    have n1 := (Se.off her).1
    have n2 := (Se.off her).2
    have n3 := offc Se her
    have R : Errs (upd He er (.lst [.ref a1, .ref a2])) st lg er T.BadBits.C [a1, a2] :=
      ⟨upd_same, n1, n2, fun a ha => by
        simp only [List.mem_cons, List.not_mem_nil, or_false] at ha
        rcases ha with h | h <;> subst h
        · exact ⟨(upd_ne (ne_of_none hd1 her)).trans hd1, nd1, nd1'⟩
        · exact ⟨(upd_ne (ne_of_none he2 her)).trans he2, ne2, ne2'⟩⟩
    have kpf : KpN st lg He (upd He er (.lst [.ref a1, .ref a2])) := .new her
    have S := Se.same (Same.new (o := .lst [.ref a1, .ref a2]) her)
    have Tb := Te.ext (Same.new (o := .lst [.ref a1, .ref a2]) her)
    have oO := oO.kpN kpf
    have oW := oW.kpN kpf
    generalize upd He er (.lst [.ref a1, .ref a2]) = H1 at R S Tb oO oW ⊢
    clear kpf he2 hd1 her Te Se Sd Td kpe kpd
    refine ⟨_, rfl, .inl ⟨rfl, _, SqL.of R.l⟩, ?_⟩
    refine caught_err (m' := m0 + 372) T T.BadBits Tb S (fun H2 E2 Q2 e2 S2 k2 => ?_) (fun a3 H3 S3 T3 kp3 h3 m1 m2 => ?_)
    · exact ⟨_, rfl, _, rfl, _, _, _, _, rfl, .non, read_bits (oO.kpN (.ext e2)) (oW.kpN (.ext e2)) lo bo (k2 H2 Kp.refl S2)⟩
    have R3 := R.kpN kp3
    refine ⟨er, _, _, rfl, rfl, R3.l, (by show 2 < sizeLine; decide), ?_⟩
    have R4 := R3.app h3 m1 m2
    have S4 := stAt_upd (ys := [a1, a2].map V.ref ++ [.ref a3]) S3 R3.l n1 n2 n3
    have T4 := tabs_upd (ys := [a1, a2].map V.ref ++ [.ref a3]) T3 R3.l
    have oO := (oO.kpN kp3).updL (ys := [a1, a2].map V.ref ++ [.ref a3]) R3.l
    have oW := (oW.kpN kp3).updL (ys := [a1, a2].map V.ref ++ [.ref a3]) R3.l
    generalize upd H3 er (.lst ([a1, a2].map V.ref ++ [.ref a3])) = H1 at R4 S4 T4 oO oW ⊢
    clear R3 T3 S3 kp3 h3 R S Tb m1 m2
    generalize [a1, a2] ++ [a3] = as at R4
    refine ⟨fun σ' H' => σ' = [some (V.ref a), v1, v2, v3, some (V.ref er), some xo, some (V.int g), some (V.str z), some (V.int n), v9, some (V.ref st), some xw, v12] ∧ StAt H' st lg cl (m0 + 372) ∧ Tabs (tabs Pt) H' ∧ Std K H' st lg xo ∧ Std K H' st lg xw, ?_, ?_⟩
    · refine ⟨_, rfl, er, rfl, ⟨_, SqL.of R4.l⟩, fun D hD => lc_list (K := K) (a := er) (xs := as.map V.ref) (fun i H' => H' D = some (.lst []) ∧ Same H1 H') ⟨upd_same, Same.new hD⟩ (fun i H' _ h => h.2.seq (SqL.of R4.l)) ?_ ?_⟩
      · rintro j x H' hx ⟨h1, h2⟩
        obtain ⟨a, ha, rfl⟩ : ∃ a, a ∈ as ∧ x = V.ref a := by
          obtain ⟨a, ha, e⟩ := List.mem_map.mp (List.mem_of_getElem? hx)
          exact ⟨a, ha, e.symm⟩
        refine ⟨rfl, _, rfl, .inr ⟨a, T.BadBits.C, _, _, true, rfl, h2 _ _ (R4.e a ha).1, T.BadBits.e, .own _, kit_self, _, rfl, ?_⟩⟩
        exact iteF ⟨h1, h2⟩
      · rintro H2 ⟨h1, h2⟩
        refine ⟨by decide, fun p hp => ?_⟩
        refine ⟨_, _, dp_nil ((Same.new hp) _ _ h1), dp_nil upd_same, shaped_nil, shaped_nil, _, rfl, ?_⟩
        have sm := h2.trans (Same.new (o := .lst []) hp)
        exact iteF ⟨rfl, S4.same sm, T4.ext sm, oO.same sm, oW.same sm⟩
    clear R4 S4 T4 oO oW n1 n2 n3 as H1
    rintro σ' H1 ⟨rfl, S, Tb, oO, oW⟩
    generalize some (V.ref er) = v4
    clear er
    -- errors: BadAt
    refine caught_err (m' := m0 + 372) T T.BadAt Tb S (fun H1 E1 Q1 e1 S1 k1 => ?_) (fun a1 Hd Sd Td kpd hd1 nd1 nd1' => ?_)
    · exact ⟨_, rfl, _, rfl, _, _, rfl, read_off ho hz1 (oW.kpN (.ext e1)) bw (k1 H1 Kp.refl S1)⟩
    have oO := oO.kpN kpd
    have oW := oW.kpN kpd
    refine caught_err (m' := m0 + 372) T T.BadAt Td Sd (fun H1 E1 Q1 e1 S1 k1 => ?_) (fun a2 He Se Te kpe he2 ne2 ne2' => ⟨(by show 2 ≤ sizeLine; decide), fun er her => ?_⟩)
    · exact ⟨_, rfl, _, rfl, _, _, _, _, rfl, .non, read_off ho hz1 (oW.kpN (.ext e1)) bw (k1 H1 Kp.refl S1)⟩
    have oO := oO.kpN kpe
    have oW := oW.kpN kpe
    have hd1 := kpe _ _ hd1 nd1 nd1' exV_tbl
    have n1 := (Se.off her).1
    have n2 := (Se.off her).2
    have n3 := offc Se her
    have R : Errs (upd He er (.lst [.ref a1, .ref a2])) st lg er T.BadAt.C [a1, a2] :=
      ⟨upd_same, n1, n2, fun a ha => by
        simp only [List.mem_cons, List.not_mem_nil, or_false] at ha
        rcases ha with h | h <;> subst h
        · exact ⟨(upd_ne (ne_of_none hd1 her)).trans hd1, nd1, nd1'⟩
        · exact ⟨(upd_ne (ne_of_none he2 her)).trans he2, ne2, ne2'⟩⟩
    have kpf : KpN st lg He (upd He er (.lst [.ref a1, .ref a2])) := .new her
    have S := Se.same (Same.new (o := .lst [.ref a1, .ref a2]) her)
    have Tb := Te.ext (Same.new (o := .lst [.ref a1, .ref a2]) her)
    have oO := oO.kpN kpf
    have oW := oW.kpN kpf
    generalize upd He er (.lst [.ref a1, .ref a2]) = H1 at R S Tb oO oW ⊢
    clear kpf he2 hd1 her Te Se Sd Td kpe kpd
    refine ⟨_, rfl, .inl ⟨rfl, _, SqL.of R.l⟩, ?_⟩
    refine caught_err (m' := m0 + 372) T T.BadAt Tb S (fun H2 E2 Q2 e2 S2 k2 => ?_) (fun a3 H3 S3 T3 kp3 h3 m1 m2 => ?_)
    · exact ⟨_, rfl, _, rfl, _, _, _, _, rfl, .non, read_off ho hz1 (oW.kpN (.ext e2)) bw (k2 H2 Kp.refl S2)⟩
    have R3 := R.kpN kp3
    refine ⟨er, _, _, rfl, rfl, R3.l, (by show 2 < sizeLine; decide), ?_⟩
    have R4 := R3.app h3 m1 m2
    have S4 := stAt_upd (ys := [a1, a2].map V.ref ++ [.ref a3]) S3 R3.l n1 n2 n3
    have T4 := tabs_upd (ys := [a1, a2].map V.ref ++ [.ref a3]) T3 R3.l
    have oO := (oO.kpN kp3).updL (ys := [a1, a2].map V.ref ++ [.ref a3]) R3.l
    have oW := (oW.kpN kp3).updL (ys := [a1, a2].map V.ref ++ [.ref a3]) R3.l
    generalize upd H3 er (.lst ([a1, a2].map V.ref ++ [.ref a3])) = H1 at R4 S4 T4 oO oW ⊢
    clear R3 T3 S3 kp3 h3 R S Tb m1 m2
    generalize [a1, a2] ++ [a3] = as at R4
    refine ⟨fun σ' H' => σ' = [some (V.ref a), v1, v2, v3, some (V.ref er), some xo, some (V.int g), some (V.str z), some (V.int n), v9, some (V.ref st), some xw, v12] ∧ StAt H' st lg cl (m0 + 372) ∧ Tabs (tabs Pt) H' ∧ Std K H' st lg xo ∧ Std K H' st lg xw, ?_, ?_⟩
    · refine ⟨_, rfl, er, rfl, ⟨_, SqL.of R4.l⟩, fun D hD => lc_list (K := K) (a := er) (xs := as.map V.ref) (fun i H' => H' D = some (.lst []) ∧ Same H1 H') ⟨upd_same, Same.new hD⟩ (fun i H' _ h => h.2.seq (SqL.of R4.l)) ?_ ?_⟩
      · rintro j x H' hx ⟨h1, h2⟩
        obtain ⟨a, ha, rfl⟩ : ∃ a, a ∈ as ∧ x = V.ref a := by
          obtain ⟨a, ha, e⟩ := List.mem_map.mp (List.mem_of_getElem? hx)
          exact ⟨a, ha, e.symm⟩
        refine ⟨rfl, _, rfl, .inr ⟨a, T.BadAt.C, _, _, true, rfl, h2 _ _ (R4.e a ha).1, T.BadAt.e, .own _, kit_self, _, rfl, ?_⟩⟩
        exact iteF ⟨h1, h2⟩
      · rintro H2 ⟨h1, h2⟩
        refine ⟨by decide, fun p hp => ?_⟩
        refine ⟨_, _, dp_nil ((Same.new hp) _ _ h1), dp_nil upd_same, shaped_nil, shaped_nil, _, rfl, ?_⟩
        have sm := h2.trans (Same.new (o := .lst []) hp)
        exact iteF ⟨rfl, S4.same sm, T4.ext sm, oO.same sm, oW.same sm⟩
    clear R4 S4 T4 oO oW n1 n2 n3 as H1
    rintro σ' H1 ⟨rfl, S, Tb, oO, oW⟩
    generalize some (V.ref er) = v4
    clear er
    -- grade refused
    refine ⟨fun σ' H' => σ' = [some (V.ref a), v1, v2, v3, v4, some xo, some (V.int g), some (V.str z), some (V.int n), v9, some (V.ref st), some xw, v12] ∧ StAt H' st lg cl (m0 + 373) ∧ Tabs (tabs Pt) H', ?_, ?_⟩
    · refine caught_err (m' := m0 + 373) T T.BadGrade Tb S (fun H2 E2 Q2 e2 S2 k2 => ?_) (fun a6 H3 S3 T3 kp3 h3 m1 m2 => ?_)
      · refine ⟨_, rfl, _, rfl, _, rfl, (by show 4 ≤ sizeLine; decide), fun p hp => ⟨st, lg, cl, p, _, m0 + 372, rfl, upd_same, (S2.off hp).2, (by show 0 < 4; decide), (by show 4 ≤ 1000; decide), by omega, S2.same (Same.new hp), fun x H3 hx S3 kp3 => ?_⟩⟩
        have ou : Std K H3 st lg x ∧ within x 0 7 = false := by
          simp only [List.mem_cons, List.not_mem_nil, or_false] at hx
          rcases hx with h | h | h | h <;> subst h
          · exact ⟨.flat (.int _) (fun _ z => by cases z), by decide⟩
          · exact ⟨.flat (.int _) (fun _ z => by cases z), by decide⟩
          · exact ⟨.flat (.bl _) (fun _ z => by cases z), rfl⟩
          · exact ⟨.flat .non (fun _ z => by cases z), rfl⟩
        obtain ⟨⟨⟨b, pb⟩, _⟩, bw2⟩ := ou
        exact ⟨_, _, _, b, rfl, pb, read_at (a := 0) ho hz1 (Nat.zero_le _) ⟨fun _ => k2 H3 ((Kp.same (Same.new hp)).trans kp3) S3, fun g' e3 h4 => by
          subst e3
          exact no_range (by omega) (by omega) bw2⟩⟩
      · exact .inr ⟨a6, T.BadGrade.C, _, _, true, rfl, h3, T.BadGrade.e, .own _, kit_self, _, rfl, iteF ⟨rfl, S3, T3⟩⟩
    clear S Tb oO oW H1
    rintro σ H1 ⟨rfl, S, Tb⟩
    · refine caught_err (m' := m0 + 374) T T.BadMany Tb S (fun H2 E2 Q2 e2 S2 k2 => ?_) (fun a6 H3 S3 T3 kp3 h3 m1 m2 => ?_)
      · refine ⟨_, rfl, _, rfl, (by show 4 ≤ sizeLine; decide), fun p hp => ⟨st, lg, cl, p, _, m0 + 373, rfl, upd_same, (S2.off hp).2, (by show 0 < 4; decide), (by show 4 ≤ 1000; decide), by omega, S2.same (Same.new hp), fun x H3 hx S3 kp3 => ?_⟩⟩
        have ou : Std K H3 st lg x ∧ within x 1 16 = false := by
          simp only [List.mem_cons, List.not_mem_nil, or_false] at hx
          rcases hx with h | h | h | h <;> subst h
          · exact ⟨.flat (.int _) (fun _ z => by cases z), by decide⟩
          · exact ⟨.flat (.int _) (fun _ z => by cases z), by decide⟩
          · exact ⟨.flat (.bl _) (fun _ z => by cases z), rfl⟩
          · exact ⟨.flat .non (fun _ z => by cases z), rfl⟩
        obtain ⟨⟨⟨b, pb⟩, _⟩, bw2⟩ := ou
        exact ⟨_, _, _, b, rfl, pb, read_at (a := 0) ho hz1 (Nat.zero_le _) ⟨fun _ => k2 H3 ((Kp.same (Same.new hp)).trans kp3) S3, fun m' e3 h4 h5 => by
          subst e3
          exact no_range (by omega) (by omega) bw2⟩⟩
      · exact .inr ⟨a6, T.BadMany.C, _, _, true, rfl, h3, T.BadMany.e, .own _, kit_self, _, rfl, iteF ⟨S3.mono (by omega), T3, _, _, _, _, _, _, _, _, _, _, _, rfl⟩⟩
end
end K02
namespace K02
open PySem PySem.Spec PyProof.Rows L2 PySem.W LamX KA KW KU
/-! ### what the head's heap says, put together -/
section
variable {K : PySem.W.Frag} {mg : Str → Option Value} {h : Heap}
theorem defT_of {x : Str} {st : Stmt} {f : Addr} {od an : Option Addr} {sl : Array (Option Value)} {oc kV dc pm cd ct : Value} (X : K.In h) (G : h.Ns mainGlobals mg)
    (a : PySem.W.nsIn K mainGlobals x = some (some (.ref f))) (l : K.lookup f = some ⟨oc, od, .func (PySem.W.fnOf x x (defArgs st) (defBody st) (defScope st) .none kV dc pm an cd ct), sl⟩) (c : PySem.W.codeIn K cd x = true) (k : PySem.W.keepIn K (.ref f) = true) :
    Nonempty (DefT K mg x st) := ⟨⟨f, _, fun_mk l c k, PySem.W.mg_of X G a⟩⟩
theorem lamT_of {x : Str} {st : Stmt} {f c Pt : Addr} {od an : Option Addr} {sl : Array (Option Value)} {oc kV dc pm ct : Value} (X : K.In h) (G : h.Ns mainGlobals mg) (T : DefT K mg x st)
    (a : PySem.W.nsIn K mainGlobals x = some (some (.ref f))) (l : K.lookup f = some ⟨oc, od, .func (PySem.W.fnOf x x (defArgs st) (defBody st) (defScope st) .none kV dc pm an (.ref c) ct), sl⟩) (cc : PySem.W.codeIn K (.ref c) x = true) :
    LamT K x st T.a T.d c Pt := by
  have e := (PySem.W.mg_of X G a).symm.trans T.m
  have e : f = T.a := Value.ref.inj (Option.some.inj e)
  obtain ⟨oc', od', kV', dc', pm', an', cd', ct', sl', ed, lk, hcd⟩ := T.f.ex
  rw [e] at l
  have e2 := l.symm.trans lk
  have e3 := congrArg Obj.data (Option.some.inj e2)
  have e4 := Data.func.inj e3
  exact ⟨oc, od, kV, dc, pm, an, ct, sl, e4.symm, by rw [← e4]; exact l, cc⟩
theorem reelT_of {C : Addr} (X : K.In h) (G : h.Ns mainGlobals mg) (a : PySem.W.nsIn K mainGlobals "ReelError" = some (some (.ref C))) (b : PySem.W.subIn K (.ref C) (.type "BaseException") = some true)
    (t : PySem.W.typeIn K (.ref C) = some (.type "type")) (d : PySem.W.hasDictIn K C = true) : ∃ R : ReelT K mg, R.C = C := ⟨⟨C, PySem.W.mg_of X G a, b, t, d⟩, rfl⟩
theorem excT_of {x : Str} {C R : Addr} (X : K.In h) (G : h.Ns mainGlobals mg) (a : PySem.W.nsIn K mainGlobals x = some (some (.ref C))) (q : PySem.W.excIn K C veB "ValueError.__new__" = true) (k : PySem.W.keepIn K (.ref C) = true)
    (b : PySem.W.subIn K (.ref C) (.type "BaseException") = some true) (t : PySem.W.typeIn K (.ref C) = some (.type "type")) (r : PySem.W.subIn K (.ref C) (.ref R) = some true)
    (e1 : PySem.W.findIn K (.ref C) "__getattribute__" = some (some (.builtin "BaseException.__getattribute__"))) (e2 : PySem.W.findIn K (.ref C) "__getattr__" = some none) (e3 : PySem.W.hasDictIn K C = true)
    (e4 : PySem.W.findIn K (.ref C) "__class__" = some (some (.builtin "object.__class__"))) (e5 : PySem.W.specialIn K (.builtin "object.__class__") "__get__" = some (some (.builtin "getset_descriptor.__get__")))
    (e6 : PySem.W.takesIn K (.builtin "object.__class__") = some true) (e7 : PySem.W.mroIn K C (.type "object") = some true) : Nonempty (ExcT K mg x R) :=
  ⟨⟨C, PySem.W.mg_of X G a, q, k, b, t, r, ⟨e1, e2, b, e3, e4, e5, e6, e7⟩⟩⟩
theorem cstT_of {x : Str} {n : Int} {t : Tok} (X : K.In h) (G : h.Ns mainGlobals mg) (a : PySem.W.nsIn K mainGlobals x = some (some (.int n t))) : CstT mg x n := ⟨t, PySem.W.mg_of X G a⟩
/-- the law, at the head's heap -/
theorem law_at {l : PySem.W.OpenLaw} {w : World} {fa c Pt : Addr} (T : Top K mg) (BS : StreamT l.prog w K mg T.reel.C) (name : mg "law" = some (.ref fa)) (LT : LamT K "law" s_law T.law.a T.law.d c Pt)
    (ht : h.get? Pt = some { cls := .none, data := .fields #[] }) (hk : K.lookup Pt = none) (hc : PySem.W.CodeHd h c Pt) : LawAtG l w K (L2.CX l.prog w) 10 63 "script" mg fa h := by
  have e : fa = T.law.a := Value.ref.inj (Option.some.inj (name.symm.trans T.law.m))
  subst e
  have one : ∀ {A : Addr × Addr → Prop}, A (c, Pt) → ∀ p ∈ [(c, Pt)], A p := fun q p hp => by
    rw [List.mem_singleton.mp hp]
    exact q
  refine ⟨T.law.d, [(c, Pt)], spLaw K Pt, ⟨one ht, one hk, one hc⟩, fun s u => ?_, fun H a ns short t S => ?_, fun base _ _ tb => ok_law T BS LT (tb (c, Pt) (List.mem_singleton.mpr rfl))⟩
  · obtain ⟨oc, od, kV, doc, pm, an, cdv, ct, osl, ed, lk, hcd⟩ := T.law.f.ex
    rw [ed]
    exact .of_eq rfl
  · refine ⟨a, ns, rfl, S, short, fun p hp => ?_, fun _ => rfl⟩
    rw [List.mem_singleton.mp hp]
    exact TabS.nil (t (c, Pt) (List.mem_singleton.mpr rfl))
theorem calm_cx {P : Program} {w : World} {H : Hp} {s : Shared} {e : Value} {s' : Shared} (z : L2.CX P w [] H s (fun _ _ _ => False) e s') : False := by
  obtain ⟨_, _, _, _, _, _, _, _, _, _, _, _, f⟩ := z
  exact f
end
end K02
namespace K02
open PySem PySem.Spec PyProof.Rows L2 PySem.W LamX KA KW KU
section
variable {K : PySem.W.Frag} {mg : Str → Option Value} {h : Heap} {A : Prop}
theorem reel_use {C : Addr} (X : K.In h) (G : h.Ns mainGlobals mg) (a : PySem.W.nsIn K mainGlobals "ReelError" = some (some (.ref C))) (b : PySem.W.subIn K (.ref C) (.type "BaseException") = some true)
    (t : PySem.W.typeIn K (.ref C) = some (.type "type")) (d : PySem.W.hasDictIn K C = true) (n : ∀ R : ReelT K mg, R.C = C → A) : A := by
  obtain ⟨R, e⟩ := reelT_of X G a b t d
  exact n R e
theorem exc_use {x : Str} {C B : Addr} (X : K.In h) (G : h.Ns mainGlobals mg) (R : ReelT K mg) (eR : R.C = B) (a : PySem.W.nsIn K mainGlobals x = some (some (.ref C))) (q : PySem.W.excIn K C veB "ValueError.__new__" = true) (k : PySem.W.keepIn K (.ref C) = true)
    (b : PySem.W.subIn K (.ref C) (.type "BaseException") = some true) (t : PySem.W.typeIn K (.ref C) = some (.type "type")) (r : PySem.W.subIn K (.ref C) (.ref B) = some true)
    (e1 : PySem.W.findIn K (.ref C) "__getattribute__" = some (some (.builtin "BaseException.__getattribute__"))) (e2 : PySem.W.findIn K (.ref C) "__getattr__" = some none) (e3 : PySem.W.hasDictIn K C = true)
    (e4 : PySem.W.findIn K (.ref C) "__class__" = some (some (.builtin "object.__class__"))) (e5 : PySem.W.specialIn K (.builtin "object.__class__") "__get__" = some (some (.builtin "getset_descriptor.__get__")))
    (e6 : PySem.W.takesIn K (.builtin "object.__class__") = some true) (e7 : PySem.W.mroIn K C (.type "object") = some true) (n : ExcT K mg x R.C → A) : A := by
  rw [← eR] at r
  obtain ⟨D⟩ := excT_of X G a q k b t r e1 e2 e3 e4 e5 e6 e7
  exact n D
theorem def_use {x : Str} {st : Stmt} {f : Addr} {od an : Option Addr} {sl : Array (Option Value)} {oc kV dc pm cd ct : Value} (X : K.In h) (G : h.Ns mainGlobals mg)
    (a : PySem.W.nsIn K mainGlobals x = some (some (.ref f))) (l : K.lookup f = some ⟨oc, od, .func (PySem.W.fnOf x x (defArgs st) (defBody st) (defScope st) .none kV dc pm an cd ct), sl⟩) (c : PySem.W.codeIn K cd x = true) (k : PySem.W.keepIn K (.ref f) = true)
    (n : DefT K mg x st → A) : A := by
  obtain ⟨D⟩ := defT_of X G a l c k
  exact n D
theorem lam_use {x : Str} {st : Stmt} {f c Pt : Addr} {od an : Option Addr} {sl : Array (Option Value)} {oc kV dc pm ct : Value} (X : K.In h) (G : h.Ns mainGlobals mg) (T : DefT K mg x st) (t : h.get? Pt = some { cls := .none, data := .fields #[] })
    (a : PySem.W.nsIn K mainGlobals x = some (some (.ref f))) (l : K.lookup f = some ⟨oc, od, .func (PySem.W.fnOf x x (defArgs st) (defBody st) (defScope st) .none kV dc pm an (.ref c) ct), sl⟩) (cc : PySem.W.codeIn K (.ref c) x = true)
    (hk : K.lookup Pt = none) (hc : PySem.W.codeHdIn K c Pt = true) (n : LamT K x st T.a T.d c Pt → K.lookup Pt = none → PySem.W.CodeHd h c Pt → A) : A := n (lamT_of X G T a l cc) hk (PySem.W.codeHd_of_K X hc)
end
end K02
namespace K02
open PySem PySem.Spec PyProof.Rows L2 PySem.W LamX KA KW KU
open PySem.HandSPX (refsVE)
theorem say_len {z : Str} {i : Int} (hz : z.length ≤ 1000) (hi : i.natAbs ≤ 1000000) : (z ++ (toString i : String)).length ≤ sizeLine := by
  have h : (PyData.shown (.int i)).length ≤ 13 := PyData.shown_int_le (Nat.lt_of_le_of_lt hi (by decide))
  have e : (z ++ ((toString i : String) : Str)).length = z.length + (Str.ofString (toString i)).length := Array.size_append
  have h2 : (Str.ofString (toString i)).length ≤ 13 := h
  rw [e]
  exact Nat.le_trans (show _ ≤ 1013 by omega) (by decide)
theorem say_log {i : Int} (hi : i.natAbs ≤ 1000000) : i.natAbs.log2 < 1920 := by
  rcases Nat.eq_zero_or_pos i.natAbs with z | z
  · rw [z]
    decide
  · exact Nat.lt_of_lt_of_le ((Nat.log2_lt (by omega)).mpr (Nat.lt_of_le_of_lt hi (by decide : 1000000 < 2 ^ 20))) (by decide)
section
variable {P : Program} {w : World} {K : PySem.W.Frag} {mg : Str → Option Value} {h : Heap} {A : Prop}
theorem stream_use {C fI cda cc B : Addr} {e : Expr} (X : K.In h) (G : h.Ns mainGlobals mg) (R : ReelT K mg) (eR : R.C = B)
    (a : PySem.W.nsIn K mainGlobals "BadStream" = some (some (.ref C))) (iC : PySem.W.findIn K (.ref C) "__init__" = some (some (.ref fI)))
    {oc : Value} {od : Option Addr} {doc pm : Value} {an : Option Addr} {ct : Value} {osl : Array (Option Value)} {r1 r2 p0 p1 p2 p3 pe q1 q2 q3 q4 : Pos}
    (lk : K.lookup fI = some ⟨oc, od, .func (ksFn "__init__" "BadStream.__init__" (upArgs "at" r1 r2) (upBody "at" e p0 p1 p2 p3 pe q1 q2 q3 q4) (upScope "at") .none .none doc pm an (.ref cda) ct cc), osl⟩)
    (bd : ∀ a b : Value, bindArgs (ksFn "__init__" "BadStream.__init__" (upArgs "at" r1 r2) (upBody "at" e p0 p1 p2 p3 pe q1 q2 q3 q4) (upScope "at") .none .none doc pm an (.ref cda) ct cc) ⟨[a, b], []⟩ = pure [(PySem.Str.ofString "self", a), (PySem.Str.ofString "at", b)])
    (sw : ∀ L : Addr, swapsWith (.Name "at" q3) (some (.Attribute (.Name "self" q1) "at" q2)) q4.line (ksEnv "BadStream.__init__" (upScope "at") L fI (.ref cda) cc) = pure false)
    {pl : Sem Bool}
    (cl : ∀ L : Addr, eval (.Call (.Attribute (.Call (.Name "super" p0) [] [] p1) "__init__" p2) [e] [] p3) (ksEnv "BadStream.__init__" (upScope "at") L fI (.ref cda) cc) = (do
        let o ← attributeBase (.Call (.Name "super" p0) [] [] p1) "__init__" (ksEnv "BadStream.__init__" (upScope "at") L fI (.ref cda) cc) (eval (.Call (.Name "super" p0) [] [] p1) (ksEnv "BadStream.__init__" (upScope "at") L fI (.ref cda) cc))
        standAt p2.atName
        let (g, first) ← holding [o] (getMethod o "__init__" pl)
        callWith p3 g first (backTo p3 (starEach [e] (ksEnv "BadStream.__init__" (upScope "at") L fI (.ref cda) cc))) []))
    (star : ∀ env : Env, starEach [e] env = [(false, eval e env)])
    (say : ∀ (i : Int) (t : Tok), i.natAbs ≤ 1000000 → Text P w fI cda cc "BadStream.__init__" "at" e (.int i t))
    (code : PySem.W.codeIn K (.ref cda) "BadStream.__init__" = true)
    {fcl : Value} {cdd : Option Addr} {vs : Array Value} {ccs : Array (Option Value)} {fl : Str} {tf : Tok}
    (f1 : K.lookup cda = some ⟨fcl, cdd, .fields vs, ccs⟩) (f2 : vs[2]? = some (.str fl tf)) (f3 : ((P.main.file : Str) == fl) = true)
    {ecl : Value} {cld : Option Addr} {csl : Array (Option Value)} (cell : K.lookup cc = some ⟨ecl, cld, .cell (some (.ref C)), csl⟩)
    {cd : ClassData} (c1 : PySem.W.clsIn K C = some cd) (c2 : refsVE cd.mro = true) (c3 : cd.hasDict = true)
    (self : PySem.W.mroIn K C (.ref C) = some true) (noSuper : PySem.W.nsIn K mainGlobals "super" = some none) (top : (P.main.scope.names.lookup ("super" : Str)).isSome = false) (third : PySem.W.nsIn K cStatics "thirdparty.any" = some none)
    (up : PySem.W.ks_superIn K C C "__init__" = some (some (.builtin "ValueError.__init__"))) (val : PySem.W.subIn K (.ref C) (.type "ValueError") = some true)
    (own : PySem.W.excInitIn K C [.type "ValueError", .type "Exception", .type "BaseException", .type "object"] "ValueError.__new__" = true)
    (set_ : PySem.W.findIn K (.ref C) "__setattr__" = some (some (.builtin "object.__setattr__"))) (noF : PySem.W.findIn K (.ref C) "at" = some none)
    {nm q : Str} {N : Addr} {bs bm : List Value} {sn : List Str} {sub : List Value} {ab : Bool} {col : Option Bool} {dd : Option Addr} {k0 k1 k2 k3 k5 : Option Value}
    (o1 : K.lookup C = some (excClassObj nm q C N bs bm true sn sub ab col dd k0 k1 k2 k3 k5 "ValueError.__new__")) (o2 : refsVE bm = true)
    (tC : PySem.W.typeIn K (.ref fI) = some (.type "function")) (ga : PySem.W.findIn K (.ref C) "__getattribute__" = some (some (.builtin "BaseException.__getattribute__"))) (gg : PySem.W.findIn K (.ref C) "__getattr__" = some none)
    (kC : PySem.W.keepIn K (.ref C) = true) (exC : PySem.W.subIn K (.ref C) (.type "BaseException") = some true) (tyC : PySem.W.typeIn K (.ref C) = some (.type "type")) (hdC : PySem.W.hasDictIn K C = true)
    (r : PySem.W.subIn K (.ref C) (.ref B) = some true)
    (e4 : PySem.W.findIn K (.ref C) "__class__" = some (some (.builtin "object.__class__"))) (e5 : PySem.W.specialIn K (.builtin "object.__class__") "__get__" = some (some (.builtin "getset_descriptor.__get__")))
    (e6 : PySem.W.takesIn K (.builtin "object.__class__") = some true) (e7 : PySem.W.mroIn K C (.type "object") = some true)
    (n : StreamT P w K mg R.C → A) : A := by
  rw [← eR] at r
  exact n { C := C, fI := fI, cda := cda, cc := cc, e := e, g := PySem.W.mg_of X G a, u := { fn := ⟨oc, od, doc, pm, an, ct, osl, r1, r2, p0, p1, p2, p3, pe, q1, q2, q3, q4, lk, bd, sw, pl, cl⟩, star := star, code := code, file := ⟨fcl, cdd, vs, ccs, fl, tf, f1, f2, f3⟩, cell := ⟨ecl, cld, csl, cell⟩, cls := ⟨cd, c1, c2, c3⟩, self := self, noSuper := noSuper, top := top, third := third, up := up, val := val, own := own, «set» := set_, noF := noF, obj := ⟨nm, q, N, bs, bm, sn, sub, ab, col, dd, k0, k1, k2, k3, k5, o1, o2⟩, iC := iC, tC := tC, ga := ga, gg := gg, kC := kC, exC := exC, tyC := tyC, hdC := hdC, nf := by decide }, r := r, x := ⟨ga, gg, exC, hdC, e4, e5, e6, e7⟩, say := say }
end
end K02
open PySem PySem.W PyProof.Rows
set_option maxRecDepth 100000 in
set_option maxHeartbeats 0 in
theorem PySem.Challenge.cw_pricedreels_k02_words_read_from_any_bits_holds : PySem.Challenge.rw_pricedreels_k02_words_read_from_any_bits.Holds := by
  w_on; o_law; k_head; (case hw => w_witness2)
  k_fill
  refine KA.walk_ofG (l := PySem.Challenge.rw_pricedreels_k02_words_read_from_any_bits) (k := 10) (n := 63) (x := "script") (CX := fun w => L2.CX PySem.Challenge.rw_pricedreels_k02_words_read_from_any_bits.prog w) rfl (by decide) rfl ⟨rfl, by decide, by decide⟩ (fun w h Y => km_in_of Y) ?F (fun _ _ _ _ _ z => K02.calm_cx z)
  case F =>
    intro w mg fa h Y KX G hmg
    have tabs := km_tabs_of Y
    have one := tabs _ List.mem_cons_self
    refine' K02.reel_use KX G ?ya ?yb ?yt ?yd ?_
    (case ya => k_is); (case yb => k_is); (case yt => k_is); (case yd => k_is)
    intro R eR
    refine' K02.stream_use (P := (PySem.Challenge.rw_pricedreels_k02_words_read_from_any_bits).prog) (w := w) KX G R eR ?ya ?yiC ?ylk ?ybd ?ysw ?ycl ?ystar ?ysay ?ycode ?yf1 ?yf2 ?yf3 ?ycell ?yc1 ?yc2 ?yc3 ?yself ?ynoS ?ytop ?ythird ?yup ?yval ?yown ?yset ?ynoF ?yo1 ?yo2 ?ytC ?yga ?ygg ?ykC ?yexC ?ytyC ?yhdC ?yr ?ye4 ?ye5 ?ye6 ?ye7 ?_
    (case ya => k_is); (case yiC => k_is); (case ylk => k_is)
    (case ybd => intro a b; rfl)
    (case ysw => intro L; rfl)
    (case ycl => intro L; rfl)
    (case ystar => intro env; rfl)
    (case ysay => intro i t hi; exact KU.text_int (by decide) (K02.say_log hi) (by decide) (K02.say_len (by decide) hi))
    (case ycode => k_is)
    (case yf1 => k_is); (case yf2 => rfl); (case yf3 => decide +kernel)
    (case ycell => k_is); (case yc1 => k_is); (case yc2 => decide +kernel); (case yc3 => rfl)
    (case yself => k_is); (case ynoS => k_is); (case ytop => kernel_rfl); (case ythird => k_is)
    (case yup => ks_is); (case yval => k_is); (case yown => kx_is); (case yset => k_is); (case ynoF => k_is)
    (case yo1 => k_is); (case yo2 => decide +kernel)
    (case ytC => k_is); (case yga => k_is); (case ygg => k_is); (case ykC => k_is); (case yexC => k_is); (case ytyC => k_is); (case yhdC => k_is); (case yr => k_is); (case ye4 => k_is); (case ye5 => k_is); (case ye6 => k_is); (case ye7 => k_is)
    intro BS
    refine' K02.exc_use (x := "BadAt") KX G R eR ?ya ?yq ?yk ?yb ?yt ?yr ?ye1 ?ye2 ?ye3 ?ye4 ?ye5 ?ye6 ?ye7 ?_
    (case ya => k_is); (case yq => k_exc); (case yk => k_is); (case yb => k_is); (case yt => k_is); (case yr => k_is); (case ye1 => k_is); (case ye2 => k_is); (case ye3 => k_is); (case ye4 => k_is); (case ye5 => k_is); (case ye6 => k_is); (case ye7 => k_is)
    intro BadAt
    refine' K02.exc_use (x := "BadBits") KX G R eR ?ya ?yq ?yk ?yb ?yt ?yr ?ye1 ?ye2 ?ye3 ?ye4 ?ye5 ?ye6 ?ye7 ?_
    (case ya => k_is); (case yq => k_exc); (case yk => k_is); (case yb => k_is); (case yt => k_is); (case yr => k_is); (case ye1 => k_is); (case ye2 => k_is); (case ye3 => k_is); (case ye4 => k_is); (case ye5 => k_is); (case ye6 => k_is); (case ye7 => k_is)
    intro BadBits
    refine' K02.exc_use (x := "BadGrade") KX G R eR ?ya ?yq ?yk ?yb ?yt ?yr ?ye1 ?ye2 ?ye3 ?ye4 ?ye5 ?ye6 ?ye7 ?_
    (case ya => k_is); (case yq => k_exc); (case yk => k_is); (case yb => k_is); (case yt => k_is); (case yr => k_is); (case ye1 => k_is); (case ye2 => k_is); (case ye3 => k_is); (case ye4 => k_is); (case ye5 => k_is); (case ye6 => k_is); (case ye7 => k_is)
    intro BadGrade
    refine' K02.exc_use (x := "BadMany") KX G R eR ?ya ?yq ?yk ?yb ?yt ?yr ?ye1 ?ye2 ?ye3 ?ye4 ?ye5 ?ye6 ?ye7 ?_
    (case ya => k_is); (case yq => k_exc); (case yk => k_is); (case yb => k_is); (case yt => k_is); (case yr => k_is); (case ye1 => k_is); (case ye2 => k_is); (case ye3 => k_is); (case ye4 => k_is); (case ye5 => k_is); (case ye6 => k_is); (case ye7 => k_is)
    intro BadMany
    refine' K02.def_use (x := "is_number") (st := K02.s_is_number) KX G ?ya ?yl ?yc ?yk ?_
    (case ya => k_is); (case yl => k_is); (case yc => k_is); (case yk => k_is)
    intro f_is_number
    refine' K02.def_use (x := "is_within") (st := K02.s_is_within) KX G ?ya ?yl ?yc ?yk ?_
    (case ya => k_is); (case yl => k_is); (case yc => k_is); (case yk => k_is)
    intro f_is_within
    refine' K02.def_use (x := "is_bits") (st := K02.s_is_bits) KX G ?ya ?yl ?yc ?yk ?_
    (case ya => k_is); (case yl => k_is); (case yc => k_is); (case yk => k_is)
    intro f_is_bits
    refine' K02.def_use (x := "read_fixed") (st := K02.s_read_fixed) KX G ?ya ?yl ?yc ?yk ?_
    (case ya => k_is); (case yl => k_is); (case yc => k_is); (case yk => k_is)
    intro f_read_fixed
    refine' K02.def_use (x := "read_long") (st := K02.s_read_long) KX G ?ya ?yl ?yc ?yk ?_
    (case ya => k_is); (case yl => k_is); (case yc => k_is); (case yk => k_is)
    intro f_read_long
    refine' K02.def_use (x := "read_grade") (st := K02.s_read_grade) KX G ?ya ?yl ?yc ?yk ?_
    (case ya => k_is); (case yl => k_is); (case yc => k_is); (case yk => k_is)
    intro f_read_grade
    refine' K02.def_use (x := "check_many") (st := K02.s_check_many) KX G ?ya ?yl ?yc ?yk ?_
    (case ya => k_is); (case yl => k_is); (case yc => k_is); (case yk => k_is)
    intro f_check_many
    refine' K02.def_use (x := "check_grade") (st := K02.s_check_grade) KX G ?ya ?yl ?yc ?yk ?_
    (case ya => k_is); (case yl => k_is); (case yc => k_is); (case yk => k_is)
    intro f_check_grade
    refine' K02.def_use (x := "check_stream") (st := K02.s_check_stream) KX G ?ya ?yl ?yc ?yk ?_
    (case ya => k_is); (case yl => k_is); (case yc => k_is); (case yk => k_is)
    intro f_check_stream
    refine' K02.def_use (x := "unfold") (st := K02.s_unfold) KX G ?ya ?yl ?yc ?yk ?_
    (case ya => k_is); (case yl => k_is); (case yc => k_is); (case yk => k_is)
    intro f_unfold
    refine' K02.def_use (x := "take_fixed") (st := K02.s_take_fixed) KX G ?ya ?yl ?yc ?yk ?_
    (case ya => k_is); (case yl => k_is); (case yc => k_is); (case yk => k_is)
    intro f_take_fixed
    refine' K02.def_use (x := "take_long") (st := K02.s_take_long) KX G ?ya ?yl ?yc ?yk ?_
    (case ya => k_is); (case yl => k_is); (case yc => k_is); (case yk => k_is)
    intro f_take_long
    refine' K02.def_use (x := "take_grade") (st := K02.s_take_grade) KX G ?ya ?yl ?yc ?yk ?_
    (case ya => k_is); (case yl => k_is); (case yc => k_is); (case yk => k_is)
    intro f_take_grade
    refine' K02.def_use (x := "_law_begun") (st := K02.s__law_begun) KX G ?ya ?yl ?yc ?yk ?_
    (case ya => k_is); (case yl => k_is); (case yc => k_is); (case yk => k_is)
    intro f__law_begun
    refine' K02.def_use (x := "_law_draw") (st := K02.s__law_draw) KX G ?ya ?yl ?yc ?yk ?_
    (case ya => k_is); (case yl => k_is); (case yc => k_is); (case yk => k_is)
    intro f__law_draw
    refine' K02.def_use (x := "_law_pick") (st := K02.s__law_pick) KX G ?ya ?yl ?yc ?yk ?_
    (case ya => k_is); (case yl => k_is); (case yc => k_is); (case yk => k_is)
    intro f__law_pick
    refine' K02.def_use (x := "_law_mixed") (st := K02.s__law_mixed) KX G ?ya ?yl ?yc ?yk ?_
    (case ya => k_is); (case yl => k_is); (case yc => k_is); (case yk => k_is)
    intro f__law_mixed
    refine' K02.def_use (x := "_law_caught") (st := K02.s__law_caught) KX G ?ya ?yl ?yc ?yk ?_
    (case ya => k_is); (case yl => k_is); (case yc => k_is); (case yk => k_is)
    intro f__law_caught
    refine' K02.def_use (x := "_law_two") (st := K02.s__law_two) KX G ?ya ?yl ?yc ?yk ?_
    (case ya => k_is); (case yl => k_is); (case yc => k_is); (case yk => k_is)
    intro f__law_two
    refine' K02.def_use (x := "_law_fold") (st := K02.s__law_fold) KX G ?ya ?yl ?yc ?yk ?_
    (case ya => k_is); (case yl => k_is); (case yc => k_is); (case yk => k_is)
    intro f__law_fold
    refine' K02.def_use (x := "_law_twos") (st := K02.s__law_twos) KX G ?ya ?yl ?yc ?yk ?_
    (case ya => k_is); (case yl => k_is); (case yc => k_is); (case yk => k_is)
    intro f__law_twos
    refine' K02.def_use (x := "_law_long") (st := K02.s__law_long) KX G ?ya ?yl ?yc ?yk ?_
    (case ya => k_is); (case yl => k_is); (case yc => k_is); (case yk => k_is)
    intro f__law_long
    refine' K02.def_use (x := "_law_graded") (st := K02.s__law_graded) KX G ?ya ?yl ?yc ?yk ?_
    (case ya => k_is); (case yl => k_is); (case yc => k_is); (case yk => k_is)
    intro f__law_graded
    refine' K02.def_use (x := "_law_unfold") (st := K02.s__law_unfold) KX G ?ya ?yl ?yc ?yk ?_
    (case ya => k_is); (case yl => k_is); (case yc => k_is); (case yk => k_is)
    intro f__law_unfold
    refine' K02.def_use (x := "_law_value") (st := K02.s__law_value) KX G ?ya ?yl ?yc ?yk ?_
    (case ya => k_is); (case yl => k_is); (case yc => k_is); (case yk => k_is)
    intro f__law_value
    refine' K02.def_use (x := "_law_ones") (st := K02.s__law_ones) KX G ?ya ?yl ?yc ?yk ?_
    (case ya => k_is); (case yl => k_is); (case yc => k_is); (case yk => k_is)
    intro f__law_ones
    refine' K02.def_use (x := "_law_long_due") (st := K02.s__law_long_due) KX G ?ya ?yl ?yc ?yk ?_
    (case ya => k_is); (case yl => k_is); (case yc => k_is); (case yk => k_is)
    intro f__law_long_due
    refine' K02.def_use (x := "_law_grade_due") (st := K02.s__law_grade_due) KX G ?ya ?yl ?yc ?yk ?_
    (case ya => k_is); (case yl => k_is); (case yc => k_is); (case yk => k_is)
    intro f__law_grade_due
    refine' K02.def_use (x := "_law_is_due") (st := K02.s__law_is_due) KX G ?ya ?yl ?yc ?yk ?_
    (case ya => k_is); (case yl => k_is); (case yc => k_is); (case yk => k_is)
    intro f__law_is_due
    refine' K02.def_use (x := "_law_string") (st := K02.s__law_string) KX G ?ya ?yl ?yc ?yk ?_
    (case ya => k_is); (case yl => k_is); (case yc => k_is); (case yk => k_is)
    intro f__law_string
    refine' K02.def_use (x := "law") (st := K02.s_law) KX G ?ya ?yl ?yc ?yk ?_
    (case ya => k_is); (case yl => k_is); (case yc => k_is); (case yk => k_is)
    intro f_law
    refine' K02.lam_use KX G f_law one ?ya ?yl ?yc ?yh ?yj ?_
    (case ya => k_is); (case yl => k_is); (case yc => k_is); (case yh => kernel_rfl); (case yj => kernel_rfl)
    intro LT noT hd
    have cMOST_FOLDED := K02.cstT_of (x := "MOST_FOLDED") (n := 65534) KX G (by k_is)
    have cONES_OF_LONG := K02.cstT_of (x := "ONES_OF_LONG") (n := 15) KX G (by k_is)
    have cONES_OF_GRADE := K02.cstT_of (x := "ONES_OF_GRADE") (n := 12) KX G (by k_is)
    have cBITS_BEHIND_ONES := K02.cstT_of (x := "BITS_BEHIND_ONES") (n := 16) KX G (by k_is)
    have b_isinstance := PySem.W.mg_none_of (n := "isinstance") KX G (by k_is)
    have b_int := PySem.W.mg_none_of (n := "int") KX G (by k_is)
    have b_bool := PySem.W.mg_none_of (n := "bool") KX G (by k_is)
    have b_str := PySem.W.mg_none_of (n := "str") KX G (by k_is)
    have b_len := PySem.W.mg_none_of (n := "len") KX G (by k_is)
    have b_abs := PySem.W.mg_none_of (n := "abs") KX G (by k_is)
    have b_range := PySem.W.mg_none_of (n := "range") KX G (by k_is)
    have b_min := PySem.W.mg_none_of (n := "min") KX G (by k_is)
    have b_repr := PySem.W.mg_none_of (n := "repr") KX G (by k_is)
    have b_list := PySem.W.mg_none_of (n := "list") KX G (by k_is)
    have b_ValueError := PySem.W.mg_none_of (n := "ValueError") KX G (by k_is)
    exact K02.law_at (Pt := _) { reel := R, BadAt := BadAt, BadBits := BadBits, BadGrade := BadGrade, BadMany := BadMany, is_number := f_is_number, is_within := f_is_within, is_bits := f_is_bits, read_fixed := f_read_fixed, read_long := f_read_long, read_grade := f_read_grade, check_many := f_check_many, check_grade := f_check_grade, check_stream := f_check_stream, unfold := f_unfold, take_fixed := f_take_fixed, take_long := f_take_long, take_grade := f_take_grade, _law_begun := f__law_begun, _law_draw := f__law_draw, _law_pick := f__law_pick, _law_mixed := f__law_mixed, _law_caught := f__law_caught, _law_two := f__law_two, _law_fold := f__law_fold, _law_twos := f__law_twos, _law_long := f__law_long, _law_graded := f__law_graded, _law_unfold := f__law_unfold, _law_value := f__law_value, _law_ones := f__law_ones, _law_long_due := f__law_long_due, _law_grade_due := f__law_grade_due, _law_is_due := f__law_is_due, _law_string := f__law_string, law := f_law, cMOST_FOLDED := cMOST_FOLDED, cONES_OF_LONG := cONES_OF_LONG, cONES_OF_GRADE := cONES_OF_GRADE, cBITS_BEHIND_ONES := cBITS_BEHIND_ONES, b_isinstance := b_isinstance, b_int := b_int, b_bool := b_bool, b_str := b_str, b_len := b_len, b_abs := b_abs, b_range := b_range, b_min := b_min, b_repr := b_repr, b_list := b_list, b_ValueError := b_ValueError } BS hmg LT one noT hd
