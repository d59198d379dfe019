import PyProof.Rows.All
import Wide.All
import OpenK.AllK
import Wide.FinOn
import PyProof.FString3
import PyProof.StrBlock2
import PyProof.ReprRoads
import KE.KxField
import HandS.ForMost
import HandS.EndTab
import HandS.WordsExc
import HandS.ExcOwn
import HandS.ExcValue
import HandS.ExcIs
import HandS.IsInst
import HandS.StrMore
import HandS.FStr
import HandS.Style
import HandS.Wide
import HandS.WideBits
import HandS.RaiseMore
import HandS.Small
import HandS.Evl
import HandS.Defaults
import PySem.Challenge.RW_pricedreels_k01_numbers_written_in_bits
import PyProof.ReprLen
import PyProof.Rows.StrCut
import KE.BitLaws
set_option Elab.async false
set_option linter.all false
set_option maxRecDepth 100000
set_option maxHeartbeats 4000000
namespace KA
open PySem PySem.Spec PyProof.Rows L2
section
variable {X : Cx}
/-- text * int -/
def rMulS : R2 := fun x y H Q => ∃ (a : Str) (n : Int), x = .str a ∧ y = .int n ∧ 0 ≤ n ∧ n ≤ 1000 ∧ a.length ≤ 1000 ∧ Q (.str (Txt.mul a n)) H
theorem op_mulS : OpR X (binaryOp .Mult) rMulS := by
  intro pins s σ H x y v u Q I rx ry h
  obtain ⟨a, n, rfl, rfl, h0, h1, h2, q⟩ := h
  obtain ⟨t, rfl⟩ := rx
  obtain ⟨t', rfl⟩ := ry
  refine SB.mul ⟨?_, fun hn hz => ?_, fun hn hz => ?_⟩ fun t' k => ⟨.str (Txt.mul a n), H, I.tok _, ⟨_, rfl⟩, q⟩
  · simp
    omega
  · have h3 : (1000 : Int) ≤ (2 ^ 63 - 1) / n := by
      refine Int.le_ediv_of_mul_le (by omega) ?_
      omega
    omega
  · have : a.length * n.toNat ≤ 1000 * 1000 := Nat.mul_le_mul h2 (by omega)
    unfold Builtin.Str.tooLong
    simp
    have e : sizeLine = 16777216 := by rfl
    omega
end
end KA
namespace KA
open PySem PySem.Spec PyProof.Rows L2 PySem.W
/-- the binary digits of a number from 0 on, as a text -/
def binText (n : Nat) : Str := ⟨((Nat.toDigits 2 n).map Char.toNat).toArray⟩
def specB : Str := ⟨#[98]⟩
theorem digits_some (n : Nat) : ∃ d ds, (Nat.toDigits 2 n).map Char.toNat = d :: ds := by
  cases e : (Nat.toDigits 2 n).map Char.toNat with
  | nil =>
    have h := congrArg List.length e
    simp at h
  | cons d ds => exact ⟨d, ds, rfl⟩
theorem meets_b {a : Int} {t : Tok} (h0 : 0 ≤ a) (hl : (binText a.natAbs).length ≤ sizeLine) (u : Tok) :
    Meets (Builtin.«int.__format__» ⟨[.int a t, .str specB u], []⟩) (fun _ R s => ∀ t' k, R (.ok (.ret (.str (binText a.natAbs) t'))) { s with toks := k }) := by
  apply KPc.meets_of
  intro _ _ _ _ _ _ _
  unfold Builtin.«int.__format__»
  refine wpAny_bind (wpAny_of_eq (a := (_, _)) rfl ?_)
  refine wpAny_bind (wpAny_of_eq (a := _) rfl ?_)
  kxf_if
  refine wpAny_bind (wpAny_typeNameOf (T := "str") (typeIs_str _ _ _) (by decide) fun _ => ?_)
  refine wpAny_bind (wpAny_of_eq (a := some _) rfl ?_)
  kxf_if
  kxf_if
  refine wpAny_bind (wpAny_typeNameOfCut_int ?_)
  have hneg : decide (a < 0) = false := decide_eq_false (by omega)
  (repeat kxf_if)
  refine KXf.ret_text (T := binText a.natAbs) ?_ ?_ ?_
  · rw [hneg]
    obtain ⟨d, ds, e⟩ := digits_some a.natAbs
    unfold binText
    rw [e]
    generalize hL : List.map _ _ = L
    have eL : L = d :: ds := hL.symm.trans e
    subst eL
    show ((⟨(List.replicate (((-1 : Int) - ((([] : List Nat).length : Nat) + (([] : List Nat).length : Nat) + (([] : List Nat).length : Nat)) - ((List.replicate ((0 : Int).toNat - (d :: ds).length) 48 ++ (d :: ds)).length : Nat)).toNat) 32 ++ ([] : List Nat) ++ [] ++ List.replicate 0 32 ++ (List.replicate ((0 : Int).toNat - (d :: ds).length) 48 ++ (d :: ds)) ++ [] ++ List.replicate 0 32).toArray⟩ : Str)) = _
    have z1 : (0 : Int).toNat - (d :: ds).length = 0 := by simp
    rw [z1]
    have z2 : ((-1 : Int) - ((([] : List Nat).length : Nat) + (([] : List Nat).length : Nat) + (([] : List Nat).length : Nat)) - ((List.replicate 0 48 ++ (d :: ds)).length : Nat)).toNat = 0 := by
      simp
      omega
    rw [z2]
    simp
  · rw [hneg]
    obtain ⟨d, ds, e⟩ := digits_some a.natAbs
    unfold binText at hl
    rw [e] at hl
    generalize hL : List.map _ _ = L
    have eL : L = d :: ds := hL.symm.trans e
    subst eL
    show (⟨(List.replicate (((-1 : Int) - ((([] : List Nat).length : Nat) + (([] : List Nat).length : Nat) + (([] : List Nat).length : Nat)) - ((List.replicate ((0 : Int).toNat - (d :: ds).length) 48 ++ (d :: ds)).length : Nat)).toNat) 32 ++ ([] : List Nat) ++ [] ++ List.replicate 0 32 ++ (List.replicate ((0 : Int).toNat - (d :: ds).length) 48 ++ (d :: ds)) ++ [] ++ List.replicate 0 32).toArray⟩ : Str).length ≤ _
    have z1 : (0 : Int).toNat - (d :: ds).length = 0 := by simp
    rw [z1]
    have z2 : ((-1 : Int) - ((([] : List Nat).length : Nat) + (([] : List Nat).length : Nat) + (([] : List Nat).length : Nat)) - ((List.replicate 0 48 ++ (d :: ds)).length : Nat)).toNat = 0 := by
      simp
      omega
    rw [z2]
    simpa using hl
  · assumption
end KA
namespace KA
open PySem PySem.Spec PyProof.Rows L2 PySem.W
section
variable {X : Cx}
/-- f'{e:b}', a number from 0 on -/
theorem pe_fmtB {e : Expr} {te : TE} {pos p1 p2 : Pos} {k : Nat} (he : PE X e te) :
    PE X (.FormattedValue e (-1) (some (.JoinedStr [.Constant (.str "b") k p1] p2)) pos) (fun σ H Q => te σ H fun x H1 => ∃ i : Int, x = .int i ∧ 0 ≤ i ∧ (binText i.natAbs).length ≤ sizeLine ∧ Q (.str (binText i.natAbs)) H1) := by
  refine ⟨fun pins s σ H Q I h => ?_⟩
  refine wpAny_FormattedValue_spec (thn (he.run pins s σ H _ I h) fun v s1 hv => ?_)
  obtain ⟨x, H1, I1, r1, i, rfl, h0, hz, q⟩ := hv
  obtain ⟨t, rfl⟩ := r1
  refine wpAny_JoinedStr_one ?_
  refine Calls.Constant_str ⟨("b" : Str), _, rfl, ?_⟩
  exact KXf.field_int (spec' := specB) (by decide +kernel) (by decide) (by decide) (fun u => meets_b h0 hz u) fun t' k => ⟨.str (binText i.natAbs), H1, (I1.tok _).tok _, ⟨_, rfl⟩, q⟩
end
end KA
namespace KA
open PySem PySem.Spec PyProof.Rows L2 PySem.W
/-! ### an exception that was caught, kept as a value -/
/-- an exception of the class cls with the own dict d stands at a -/
def ExV (cls : Value) (d : Option Addr) (a : Addr) : HO := .ext fun h => ∃ oe : Obj, h.get? a = some oe ∧ Zc cls d oe ∧ ∃ vs, oe.data = .fields vs
theorem exV_ok {P : Program} {w : World} {H : Hp} {h : Heap} {a : Addr} {cls : Value} {d : Option Addr} {oe : Obj} {vs : Array Value} (e : h.get? a = some oe) (z : Zc cls d oe) (f : oe.data = .fields vs) :
    ObjOk P w H h a (ExV cls d a) := ⟨⟨oe, e, z, vs, f⟩, ⟨oe, e⟩, fun _ _ ⟨o, q, r⟩ k => ⟨o, k o q, r⟩⟩
section
variable {X : Cx} {pins : List (Addr × Obj)} {σ : L2.St} {H : Hp} {s : Shared}
/-- what was pinned, and did not stand at the entry, is tracked from here on -/
theorem track {a : Addr} {oe : Obj} {φ : Heap → Prop} (J : Inv X ((a, oe) :: pins) σ H s) (ok : X.Ok) (n0 : X.s_0.heap.get? a = none) (np : ∀ p ∈ X.pn ++ pins, p.1 ≠ a)
    (new : ObjOk X.prog X.w (upd H a (.ext φ)) s.heap a (.ext φ)) : Inv X pins σ (upd H a (.ext φ)) s := by
  obtain ⟨ea, na, nL, notF, nc⟩ := J.pin (a, oe) (List.mem_append_right _ List.mem_cons_self)
  have nz : ∀ b u, H b = some u → b ≠ a := fun b u q => ne_of_none q na
  have cut : ∀ p, p ∈ X.pn ++ pins → p ∈ X.pn ++ (a, oe) :: pins := fun p hp => by
    rcases List.mem_append.mp hp with h | h
    · exact List.mem_append_left _ h
    · exact List.mem_append_right _ (List.mem_cons_of_mem _ h)
  have old : ∀ b o, X.s_0.heap.get? b = some o → b ≠ a := fun b o q z => by
    rw [z, n0] at q
    cases q
  have base : Un X.fs X.ex X.H_0 (upd H a (.ext φ)) X.s_0.heap s.heap :=
    { keep := J.base.keep, slot := J.base.slot, there := J.base.there
      free := fun b o q n hx => (upd_ne (old b o q)).trans (J.base.free b o q n hx)
      tups := fun b xs q => (upd_ne (nz b _ (J.base.tups b xs q))).trans (J.base.tups b xs q)
      frzs := fun b o u q => (upd_ne (nz b _ (J.base.frzs b o u q))).trans (J.base.frzs b o u q)
      tbls := fun b ps q => by
        obtain ⟨more, z⟩ := J.base.tbls b ps q
        exact ⟨more, (upd_ne (nz b _ z)).trans z⟩ }
  have apart : ∀ b, b ≠ a → H b = none → upd H a (.ext φ) b = none := fun b hb hn => (upd_ne hb).trans hn
  have ce : ∀ x c, X.env.cells.lookup x = some c → c ≠ a := fun x c q z => by
    obtain ⟨v, o, ho, hd⟩ := J.cell x c q
    rw [z, ea] at ho
    cases ho
    exact nc v hd
  have hk : HOk X.prog X.w (upd H a (.ext φ)) s.heap := fun b o q => by
    by_cases hb : b = a
    · subst hb
      rw [upd_same] at q
      cases q
      exact new
    · rw [upd_ne hb] at q
      exact (J.hok b o q).stay (fun c v _ r => r) (fun c r => (upd_ne (nz c _ r)).trans r) (fun c xs r => (upd_ne (nz c _ r)).trans r)
  have pk : ∀ p ∈ X.pn ++ pins, s.heap.get? p.1 = some p.2 ∧ upd H a (.ext φ) p.1 = none ∧ p.1 ≠ X.env.locals ∧ p.1 ∉ X.fs ∧ ∀ v, p.2.data ≠ .cell v := fun p hp => by
    obtain ⟨e1, e2, e3⟩ := J.pin p (cut p hp)
    exact ⟨e1, apart _ (np p hp) e2, e3⟩
  exact { ok := ok, os := J.os, bare := J.bare, base := base, loc := J.loc, cell := J.cell, free := apart _ (Ne.symm nL) J.free
          freeC := fun x c q => apart _ (ce x c q) (J.freeC x c q), pin := pk, hok := hk, len := J.len }
end
/-- what 'except x as n: m = n' wishes of an exception of the body: it is of the clause's class, and m holds it behind the try (slots: n in i, m in j) -/
def wKeep (K : PySem.W.Frag) (c : Value) (i j len : Nat) (D : Ends) : WX := fun cls d σ H =>
  PySem.W.exmOne K cls c = some true ∧ ∀ a, H a = none → σ.length = len → D.nx ((((σ.set i (some (.ref a))).set j (some (.ref a)))).set i none) (upd H a (ExV cls d a))
section
variable {X : Cx} {x n m : Str} {c : Value} {i j : Nat} {body : List Stmt} {np pm pr pa ph pt : Pos} {tb : WX → TS}
theorem ps_try_keep (hx : X.ex = []) (hs : X.stack = X.env :: X.outer) (hf : X.env.frame = some X.env.locals) (hN : X.N.Nodup) (hi : X.N[i]? = some n) (hj : X.N[j]? = some m) (hln : X.env.kindOf n = some .local) (hlm : X.env.kindOf m = some .local) (hc : Names X x c)
    (hd : (n == ("__debug__" : Str)) = false) (hcd : (n == ("__classdict__" : Str)) = false)
    (hb : ∀ (W : WX) (pn : List (Addr × Obj)) (xe : Value → Shared → Prop), Takes (X.tr pn xe) W → PassesOwn (model X.prog X.w) X.A X.env xe → PSs (X.tr pn xe) body (tb W)) :
    PS X (.Try body [.ExceptHandler (some (.Name x np)) (some n) [.Assign [.Name m pm] (.Name n pr) pa] ph] [] [] pt) (fun D σ H => tb (wKeep X.K c i j X.N.length D) D σ H) := by
  refine ⟨fun pins s σ H D I h => wpAny_Try_except ?_⟩
  have ok := I.ok
  have fr : X.A.frames = some (X.env :: X.outer) := ok.frames.trans (congrArg some hs)
  have ways : ∀ u s', XE (X.tr (X.pn ++ pins) (fun e s₁ => wpAny (model X.prog X.w) X.A (noteFrame e X.env)
      (fun _ s₂ => wpAny (model X.prog X.w) X.A (setFlight e none)
        (fun _ s₃ => wpAny (model X.prog X.w) X.A (handleBy e X.env [.ExceptHandler (some (.Name x np)) (some n) [.Assign [.Name m pm] (.Name n pr) pa] ph]) (SP X pins D) X.xe s₃) X.xe s₂) X.xe s₁)) (wKeep X.K c i j X.N.length D) u s' →
      wpAny (model X.prog X.w) X.A (noteFrame u X.env)
        (fun _ s₂ => wpAny (model X.prog X.w) X.A (setFlight u none)
          (fun _ s₃ => wpAny (model X.prog X.w) X.A (handleBy u X.env [.ExceptHandler (some (.Name x np)) (some n) [.Assign [.Name m pm] (.Name n pr) pa] ph]) (SP X pins D) X.xe s₃) X.xe s₂) X.xe s' := by
    rintro u s' ⟨a, B, sI, pins', σ', H', cls, d, rfl, Jt, nb, up, sky, na, os, ag, hyes, hgo⟩
    have J : Inv X pins σ' H' sI := Jt.ofTry ok
    have nb : ∀ b o, sI.heap.get? b = some o → b ∉ frs X.stack → B.get? b = some o := nb
    have sky : Sky B (X.env :: X.outer) a (Zc cls d) X.env.locals s'.heap := hs ▸ sky
    refine Sky.land Zc.steady fr hf sky fun h3 air3 grow3 => ?_
    have J3 : Inv X pins σ' H' { s' with heap := h3 } := J.landed nb air3.1 (up.trans grow3) os ag
    obtain ⟨o3, v3, e3, z3, f3⟩ := air3.there
    have away : a ∉ frs (X.env :: X.outer) := fun hm => by
      obtain ⟨_, o', e', hnf⟩ := air3.2.2.1.mem hm
      cases e3.symm.trans e'
      exact hnf _ f3
    have nL : a ≠ X.env.locals := fun z => away (List.mem_filterMap.mpr ⟨X.env, List.mem_cons_self, hf.trans (congrArg some z.symm)⟩)
    have notF : a ∉ X.fs := fun hm => by
      obtain ⟨e, inX, q⟩ := List.mem_filterMap.mp hm
      exact away (List.mem_filterMap.mpr ⟨e, List.mem_cons_of_mem _ inX, q⟩)
    have gone : sI.heap.get? a = none := by
      cases q : sI.heap.get? a with
      | none => rfl
      | some o =>
        have z := nb a o q (by rw [hs]; exact away)
        rw [air3.2.1] at z
        cases z
    have n0 : X.s_0.heap.get? a = none := by
      cases q : X.s_0.heap.get? a with
      | none => rfl
      | some o =>
        obtain ⟨o', z⟩ := J.base.there a o q (by rw [hx]; exact fun z => nomatch z)
        rw [gone] at z
        cases z
    have np' : ∀ p ∈ X.pn ++ pins, p.1 ≠ a := fun p hp z => by
      have q := (J.pin p hp).1
      rw [z, gone] at q
      cases q
    have S3 := J3.suite e3 f3 na nL notF
    refine wpAny_handleBy_cons (codeAny_handlers_test ?_) (by intro q; cases q)
    have LT : PySem.W.Looks (model X.prog X.w) h3 (typeOf (.ref a)) cls := fun A Q E s k q => wpAny_typeOf_ref (k _ _ e3) (z3.1.symm ▸ q)
    have LM := PySem.W.exm_one (M := model X.prog X.w) J3.kIn LT hyes
    have named : ∀ {Q E : Value → Shared → Prop}, Q c { s' with heap := h3 } →
        wpAny (model X.prog X.w) (X.A.mark (some (.ref a))) (eval (.Name x np) X.env) Q E { s' with heap := h3 } := fun {Q E} q => by
      obtain ⟨g, gd, gm | ⟨gm, gv, gn⟩⟩ := hc
      · exact ld_glob (X := X.suite a _) S3 g gm q gd
      · exact ld_blt (X := X.suite a _) S3 g gm gv q gn gd
    refine named (LM.here (codeAny_handlers_suite_as ?_))
    refine HandSPX.lands_againZ air3 fun h4 air4 grow4 => ?_
    have J4 : Inv X pins σ' H' { s' with heap := h4 } := J.landed nb air4.1 ((up.trans grow3).trans grow4) os ag
    obtain ⟨o4, v4, e4, z4, f4⟩ := air4.there
    refine store_ok (X := X.suite a ((a, o4) :: (X.pn ++ pins))) (v := .ref a) (J4.suite e4 f4 na nL notF) hN hi (.inl hln) rfl (fun s5 S5 => ?_) (.inr hln)
    have assign : PSs (X.suite a ((a, o4) :: (X.pn ++ pins))) [.Assign [.Name m pm] (.Name n pr) pa] (tAsg (tVar i) (gName j)) :=
      pss_one (ps_set (i := j) hN hj (.inl hlm) (pe_var hi (.inl hln) hd hcd) (hf := .inr hlm))
    have hlt : i < (σ'.set i (some (V.ref a))).length := by
      rw [List.length_set, J.len]
      exact (List.getElem?_eq_some_iff.mp hi).1
    refine wpAny_mono (assign.run [] s5 _ H' { D with nx := fun σ6 H6 => σ6 = (σ'.set i (some (.ref a))).set j (some (.ref a)) ∧ H6 = H', rt := fun _ _ => False, bk := fun _ _ => False, ct := fun _ _ => False } S5
      ⟨.ref a, by rw [List.getElem?_set_self (by simpa using hlt)], rfl, rfl⟩) (fun f s6 q6 => ?_) (fun _ _ z => z.elim)
    cases f with
    | next =>
      obtain ⟨σ6, H6, S6, eσ, eH⟩ := q6
      subst eσ
      subst eH
      have U : Inv X pins _ H6 s6 := S6.unsuite ok
      have P6 := S6.pin (a, o4) (List.mem_append_left _ List.mem_cons_self)
      have pin2 : ∀ p ∈ X.pn ++ (a, o4) :: pins, s6.heap.get? p.1 = some p.2 ∧ H6 p.1 = none ∧ p.1 ≠ X.env.locals ∧ p.1 ∉ X.fs ∧ ∀ v, p.2.data ≠ .cell v := fun p hp => by
        rcases List.mem_append.mp hp with h | h
        · exact U.pin p (List.mem_append_left _ h)
        · rcases List.mem_cons.mp h with e | h
          · rw [e]
            exact P6
          · exact U.pin p (List.mem_append_right _ h)
      have U2 : Inv X ((a, o4) :: pins) _ H6 s6 := { U with pin := pin2 }
      refine gone_ok U2 hN hi hln fun s7 J7 => ?_
      have P7 := (J7.pin (a, o4) (List.mem_append_right _ List.mem_cons_self)).1
      exact ⟨_, _, track J7 ok n0 np' (exV_ok P7 z4 f4), hgo a na J.len⟩
    | brk =>
      obtain ⟨_, _, _, z⟩ := q6
      exact z.elim
    | cont =>
      obtain ⟨_, _, _, z⟩ := q6
      exact z.elim
    | ret u =>
      obtain ⟨_, _, _, _, _, z⟩ := q6
      exact z.elim
  refine wpAny_mono ((hb (wKeep X.K c i j X.N.length D) (X.pn ++ pins) _ ways PassesOwn.looking).run [] s σ H D (I.toTry _) h) (fun f s1 q => ?_) fun _ _ z => z
  cases f with
  | next =>
    obtain ⟨σ1, H1, J1, q1⟩ := q
    exact wpAny_execs_nil ⟨σ1, H1, J1.ofTry ok, q1⟩
  | brk =>
    obtain ⟨σ1, H1, J1, q1⟩ := q
    exact ⟨σ1, H1, J1.ofTry ok, q1⟩
  | cont =>
    obtain ⟨σ1, H1, J1, q1⟩ := q
    exact ⟨σ1, H1, J1.ofTry ok, q1⟩
  | ret u =>
    obtain ⟨v, σ1, H1, J1, r, q1⟩ := q
    exact ⟨v, σ1, H1, J1.ofTry ok, r, q1⟩
end
end KA
namespace KA
open PySem PySem.Spec PyProof.Rows L2 PySem.W
/-- isinstance of an exception that is kept as a value, its class without fields of its own -/
def rIsV (K : PySem.W.Frag) : List V → Hp → VK → Prop := fun xs H Q => ∃ (a D : Addr) (c : V) (cv : Value) (b : Bool), xs = [.ref a, c] ∧ H a = some (ExV (.ref D) none a) ∧ ExcC K D ∧ ClsV c cv ∧ PySem.W.kitOne K (.ref D) cv = some b ∧ Q (.bl b) H
def rIs2 (K : PySem.W.Frag) : List V → Hp → VK → Prop := fun xs H Q => rIsi K xs H Q ∨ rIsV K xs H Q
section
variable {X : Cx}
theorem call_isV : CallR X (.builtin "isinstance") (rIsV X.K) := by
  intro pins s σ H xs us Q I r h
  obtain ⟨a, D, c, cv, b, rfl, ha, C, k, e, q⟩ := h
  obtain ⟨u1, u2, rfl, r1, r2⟩ := vals2 r
  cases k.eq r2
  cases (show u1 = Value.ref a from r1)
  obtain ⟨⟨oe, h1, ⟨z1, z2⟩, vs, z3⟩, _⟩ := I.hok a _ ha
  obtain ⟨oc, od, dt, sl⟩ := oe
  dsimp only at z1 z2 z3
  subst z1 z2 z3
  have J : PySem.W.InstAt s.heap a ⟨.ref D, none, .fields vs, sl⟩ D none := ⟨h1, rfl, rfl, trivial⟩
  exact PySem.W.kia_one (PySem.W.handS_kitx_exc C.hg C.hk C.hs C.hd C.ha C.hn C.ht C.hm) I.kIn J e (fun z => nomatch z) fun tk => ⟨.bl b, H, I.tok tk, rfl, q⟩
theorem call_is2 : CallR X (.builtin "isinstance") (rIs2 X.K) := by
  intro pins s σ H xs us Q I r h
  rcases h with h | h
  · exact call_isi pins s σ H xs us Q I r h
  · exact call_isV pins s σ H xs us Q I r h
/-- repr of data -/
def rRepr (K : PySem.W.Frag) : List V → Hp → VK → Prop := fun xs H Q => ∃ (x : Addr) (d : PyData), xs = [.ref x] ∧ Dp K H (.ref x) d ∧ d.showable = true ∧ d.hasDict = false ∧ d.depth ≤ 60 ∧ d.shown.length ≤ sizeLine ∧ Q (.str d.shown) H
theorem call_repr {k : Nat} (hg : X.A.guards = some []) (hr : Room k X.A) : CallR X (.builtin "repr") (rRepr X.K) := by
  intro pins s σ H xs us Q I r h
  obtain ⟨x, d, rfl, hd, hs, hn, hz, hl, q⟩ := h
  obtain ⟨u1, rfl, r1⟩ := vals1 r
  cases (show u1 = Value.ref x from r1)
  obtain ⟨as, rd⟩ := Dp.reads I d (.ref x) (.ref x) hd rfl
  have hu := hr.un
  refine repr_of_reads' rd hs (fun z => by rw [hn] at z; cases z) hg (by omega) (fun _ _ e => e) (fun h' u tk hk => ?_) hl
  exact ⟨.str d.shown, H, I.kept (t' := tk) hk, ⟨_, rfl⟩, q⟩
end
end KA
namespace KA
open PySem PySem.Spec PyProof.Rows L2 PySem.W LamX
section
variable {X : Cx}
/-- caught: what the lambda raises is kept and handed back, None if it raises nothing -/
def TCaught (K : PySem.W.Frag) (CS : Addr) : (XK → Hp → VK → Prop) → Hp → VK → Prop := fun tl H Q => ∀ Q1 : VK, (∀ v H', Q .non H' → Q1 v H') →
  tl (fun cls d H' => PySem.W.exmOne K cls (.ref CS) = some true ∧ ∀ a, H' a = none → Q (.ref a) (upd H' a (ExV cls d a))) H Q1
theorem caught_gives {a e n m q x : Str} {sg : Scope} {g CS : Addr} {cdg : Value} {j1 : Nat} {p1 p2 p3 p4 p5 p6 p7 p8 p9 pa pb pc pd pe : Pos} (S : FnScope [a, m, n] [a] sg)
    (la : sg.names.lookup a = some .local) (lm : sg.names.lookup m = some .local) (ln : sg.names.lookup n = some .local) (he : sg.names.lookup e = some .globalImplicit) (hme : X.mg e = some (.ref CS)) (hde : (e == ("__debug__" : Str)) = false)
    (d1 : (n == ("__debug__" : Str)) = false) (d2 : (n == ("__classdict__" : Str)) = false) (d3 : (m == ("__debug__" : Str)) = false) (d4 : (m == ("__classdict__" : Str)) = false) :
    GivesTo X [a, m, n] x sg g cdg
      [.Assign [.Name m p1] (.Constant .none j1 p2) p3,
       .Try [.Expr (.Call (.Name a p4) [] [] p5) p6] [.ExceptHandler (some (.Name e p7)) (some n) [.Assign [.Name m p8] (.Name n p9) pa] pb] [] [] pc,
       .Return (some (.Name m pd)) pe] a q (TCaught X.K CS) := by
  intro f c' s H Q tl act hc h
  have hgl : Gl (cxOf C8.CX0 X.prog X.w X.K X.mg X.base [a, m, n] x sg g cdg X.A X.stack s H C8.E0).nox e := he
  refine ⟨_, pss_cons (ps_set (i := 1) S.nd rfl (.inl lm) pe_non) (pss_cons (ps_try_keep (X := (cxOf C8.CX0 X.prog X.w X.K X.mg X.base [a, m, n] x sg g cdg X.A X.stack s H C8.E0).nox) (c := .ref CS) (i := 2) (j := 1)
      (tb := fun W D σ H => ∃ Eb : XK, (∀ cls d σ' H', Eb cls d H' → W cls d σ' H') ∧ σ[0]? = some (some (.ref f)) ∧ H c' = some (CodeO c' q) ∧ tl Eb H (fun _ H' => D.nx σ H'))
      rfl rfl rfl S.nd rfl rfl ln lm ⟨hgl, hde, .inl hme⟩ d1 d2 (fun W pn xe tk _ => ?_))
    (pss_one (ps_ret (pe_var (i := 1) rfl (.inl lm) d3 d4)))), ?_⟩
  · refine ⟨fun pins s' σ H' D I h' => ?_⟩
    obtain ⟨Eb, wish, h1, h2, h3⟩ := h'
    exact (pss_one (ps_expr (act W pn xe Eb p4 p5 tk wish))).run pins s' σ H' D I ⟨h1, h2, h3⟩
  · refine ⟨fun cls d H' => PySem.W.exmOne X.K cls (.ref CS) = some true ∧ ∀ a, H' a = none → Q (.ref a) (upd H' a (ExV cls d a)), fun cls d σ' H' ⟨e1, e2⟩ => ⟨e1, fun b hb hl => ?_⟩, rfl, hc, ?_⟩
    · match σ', hl with
      | [u, v, w], _ => exact ⟨_, rfl, e2 b hb⟩
    · exact h _ fun v H' z => ⟨_, rfl, z⟩
end
end KA
namespace KA
open PySem PySem.Spec PyProof.Rows L2 PySem.W LamX
/-! ### what the top has written, by name -/
/-- a def of the top -/
structure DefT (K : PySem.W.Frag) (mg : Str → Option Value) (x : Str) (st : Stmt) where
  a : Addr
  d : FuncData
  f : Fun K x x st a d
  m : mg x = some (.ref a)
abbrev veB : List Value := [.type "ValueError", .type "Exception", .type "BaseException", .type "object"]
/-- an exception class of the top over ReelError at R, without an __init__ of its own -/
structure ExcT (K : PySem.W.Frag) (mg : Str → Option Value) (x : Str) (R : Addr) where
  C : Addr
  g : mg x = some (.ref C)
  q : PySem.W.excIn K C veB "ValueError.__new__" = true
  k : PySem.W.keepIn K (.ref C) = true
  b : PySem.W.subIn K (.ref C) (.type "BaseException") = some true
  t : PySem.W.typeIn K (.ref C) = some (.type "type")
  r : PySem.W.subIn K (.ref C) (.ref R) = some true
  e : ExcC K C
/-- ReelError -/
structure ReelT (K : PySem.W.Frag) (mg : Str → Option Value) where
  C : Addr
  g : mg "ReelError" = some (.ref C)
  b : PySem.W.subIn K (.ref C) (.type "BaseException") = some true
  t : PySem.W.typeIn K (.ref C) = some (.type "type")
  d : PySem.W.hasDictIn K C = true
theorem ExcT.exm {K : PySem.W.Frag} {mg : Str → Option Value} {x : Str} (R : ReelT K mg) (T : ExcT K mg x R.C) : PySem.W.exmOne K (.ref T.C) (.ref R.C) = some true := PySem.W.exm_ref R.b R.d R.t T.r
/-- an int constant of the top -/
def CstT (mg : Str → Option Value) (x : Str) (n : Int) : Prop := ∃ t, mg x = some (.int n t)
abbrev C1 := L2.CX
theorem passE {X : Cx} : Passes (L2.CX X.prog X.w) X E0 := passL
section
variable {X : Cx} {E : XK}
/-- raise C('..') in a def that lets it out -/
theorem ps_raiseT {K : PySem.W.Frag} {mg : Str → Option Value} {x : Str} {R : Addr} {pos p1 p2 pc : Pos} {j : Nat} {m : Str} (hK : X.K = K) (hM : X.mg = mg) (T : ExcT K mg x R) (hg : Gl X x) (hc : X.calm = true) {W : WX} (tk : Takes X W)
    (hdb : (x == ("__debug__" : Str)) = false := by decide) :
    PS X (.Raise (some (.Call (.Name x p1) [.Constant (.str m) j pc] [] p2)) none pos) (fun _ σ H => W (.ref T.C) none σ H) := by
  subst hK
  subst hM
  exact ps_raise hc tk (pmk_own PySem.F.excBase_ValueError T.q T.g T.k (raises_own T.b T.t) hg hdb)
end
end KA
namespace KA
open PySem
/-! ### numbers in bits: the mathematics -/
/-- n in k bits, as codes -/
def bitsL : Nat → Nat → List Nat
  | 0, _ => []
  | k + 1, n => bitsL k (n / 2) ++ [48 + n % 2]
theorem bitsL_len : ∀ k n, (bitsL k n).length = k
  | 0, _ => rfl
  | k + 1, n => by simp [bitsL, bitsL_len k]
def binL (n : Nat) : List Nat := (Nat.toDigits 2 n).map Char.toNat
theorem binL_lt {n : Nat} (h : n < 2) : binL n = [48 + n] := by
  unfold binL
  rw [Nat.toDigits_of_lt_base h]
  have : n = 0 ∨ n = 1 := by omega
  rcases this with rfl | rfl <;> rfl
theorem binL_ge {n : Nat} (h : 2 ≤ n) : binL n = binL (n / 2) ++ [48 + n % 2] := by
  unfold binL
  rw [Nat.toDigits_of_base_le (by decide) h, List.map_append]
  have : n % 2 = 0 ∨ n % 2 = 1 := by omega
  rcases this with e | e <;> rw [e] <;> rfl
/-- the digits behind the first one -/
def tailL (n : Nat) : List Nat := (binL n).drop 1
theorem binL_ne (n : Nat) : binL n ≠ [] := by
  unfold binL
  intro h
  exact Nat.toDigits_ne_nil (List.map_eq_nil_iff.mp h)
theorem tailL_lt {n : Nat} (h : n < 2) : tailL n = [] := by
  unfold tailL
  rw [binL_lt h]
  rfl
theorem tailL_ge {n : Nat} (h : 2 ≤ n) : tailL n = tailL (n / 2) ++ [48 + n % 2] := by
  unfold tailL
  rw [binL_ge h, List.drop_append_of_le_length]
  have := List.length_pos_iff.mpr (binL_ne (n / 2))
  omega
theorem binL_head : ∀ (n : Nat), 1 ≤ n → binL n = 49 :: tailL n := by
  intro n
  induction n using Nat.strongRecOn with
  | _ n ih =>
    intro h
    by_cases h2 : n < 2
    · have : n = 1 := by omega
      subst this
      rfl
    · rw [tailL_ge (by omega), binL_ge (by omega), ih (n / 2) (by omega) (by omega)]
      rfl
theorem binL_le : ∀ (k n : Nat), 0 < k → n < 2 ^ k → (binL n).length ≤ k
  | 0, _, h, _ => by omega
  | k + 1, n, _, h => by
    by_cases h2 : n < 2
    · rw [binL_lt h2]
      simp
    · rw [binL_ge (by omega), List.length_append]
      have hk : 0 < k := by
        rcases Nat.eq_zero_or_pos k with e | e
        · subst e
          simp at h
          omega
        · exact e
      have := binL_le k (n / 2) hk (by rw [Nat.pow_succ] at h; omega)
      simp
      omega
theorem bitsL_bin : ∀ (k n : Nat), 0 < k → n < 2 ^ k → List.replicate (k - (binL n).length) 48 ++ binL n = bitsL k n
  | 0, _, h, _ => by omega
  | k + 1, n, _, h => by
    rw [bitsL]
    by_cases h2 : n < 2
    · rw [binL_lt h2]
      have e : n / 2 = 0 := by omega
      have e2 : n % 2 = n := by omega
      rw [e, e2]
      have z : ∀ j, bitsL j 0 = List.replicate j 48 := fun j => by
        induction j with
        | zero => rfl
        | succ j ih => rw [bitsL, Nat.zero_div, ih, List.replicate_succ']
      rw [z]
      simp
    · have hk : 0 < k := by
        rcases Nat.eq_zero_or_pos k with e | e
        · subst e
          simp at h
          omega
        · exact e
      have hd : n / 2 < 2 ^ k := by
        rw [Nat.pow_succ] at h
        omega
      rw [← bitsL_bin k (n / 2) hk hd, binL_ge (by omega), List.length_append]
      have e : k + 1 - ((binL (n / 2)).length + [48 + n % 2].length) = k - (binL (n / 2)).length := by simp
      rw [e, List.append_assoc]
theorem binText_eq (n : Nat) : binText n = ⟨(binL n).toArray⟩ := rfl
theorem binText_len (n : Nat) : (binText n).length = (binL n).length := by simp [binText, binL, Str.length]
/-- n in m bits, as a text -/
def twosT (m n : Nat) : Str := ⟨(bitsL m n).toArray⟩
theorem zfill_bin {m n : Nat} (hm : 0 < m) (h : n < 2 ^ m) : Txt.zfill (binText n) (m : Int) = twosT m n := by
  have hl := binL_le m n hm h
  have hb := bitsL_bin m n hm h
  unfold Txt.zfill
  rw [binText_len]
  by_cases e : (m : Int) ≤ ((binL n).length : Nat)
  · rw [if_pos e]
    have : m - (binL n).length = 0 := by omega
    rw [this] at hb
    simp only [List.replicate_zero, List.nil_append] at hb
    rw [binText_eq, hb]
    rfl
  · rw [if_neg e]
    have h0 : (binText n).cps[0]? = some 48 ∨ (binText n).cps[0]? = some 49 := by
      rw [binText_eq]
      rcases Nat.eq_zero_or_pos n with z | z
      · subst z
        exact .inl rfl
      · rw [binL_head n z]
        exact .inr rfl
    have e2 : zfilled (binText n) ((m : Int).toNat - (binL n).length) = Builtin.Str.padded (binText n) ((m : Int).toNat - (binL n).length) 0 48 := by
      unfold zfilled
      rcases h0 with z | z
      · rw [z]
        rfl
      · rw [z]
        rfl
    rw [e2]
    unfold Builtin.Str.padded twosT
    rw [← hb, binText_eq]
    congr 1
    apply Array.toList_inj.mp
    simp
/-- n ones -/
def onesT (n : Nat) : Str := ⟨(List.replicate n 49).toArray⟩
theorem onesT_len (n : Nat) : (onesT n).length = n := by simp [onesT, Str.length]
theorem fold_ones (n : Nat) : ∀ acc : Array Nat, (List.replicate n (#[49] : Array Nat)).foldl (· ++ ·) acc = acc ++ (List.replicate n 49).toArray := by
  induction n with
  | zero => intro acc; simp
  | succ n ih =>
    intro acc
    rw [List.replicate_succ, List.foldl_cons, ih, List.replicate_succ]
    apply Array.toList_inj.mp
    simp
theorem mul_ones (n : Nat) : Txt.mul "1" (n : Int) = onesT n := by
  unfold Txt.mul
  by_cases h : (n : Int) < 1
  · rw [if_pos h]
    have : n = 0 := by omega
    subst this
    rfl
  · rw [if_neg h]
    by_cases h1 : n = 1
    · subst h1
      rfl
    · rw [if_neg (by
        have e : ((n : Int) == 1) = false := by
          rw [beq_eq_false_iff_ne]
          omega
        rw [e]
        decide)]
      show (⟨(List.replicate (n : Int).toNat (#[49] : Array Nat)).foldl (· ++ ·) #[]⟩ : Str) = _
      rw [Int.toNat_natCast, fold_ones]
      unfold onesT
      congr 1
      apply Array.toList_inj.mp
      simp
end KA
namespace KA
open PySem PySem.Spec PyProof.Rows L2 PySem.W LamX
/-! ### the law's own draws: their state -/
abbrev kLarge : Key := Sum.inr "large"
abbrev kCells : Key := Sum.inr "cells"
abbrev kLeft : Key := Sum.inr "left"
abbrev kTurn : Key := Sum.inr "turn"
def stKv (lg cl : Addr) (left turn : Int) : List (Key × V) := [(kLarge, .ref lg), (kCells, .ref cl), (kLeft, .int left), (kTurn, .int turn)]
section
variable {lg cl : Addr} {left turn : Int}
theorem k12 : ¬ kLarge = kCells := by decide +kernel
theorem k13 : ¬ kLarge = kLeft := by decide +kernel
theorem k14 : ¬ kLarge = kTurn := by decide +kernel
theorem k23 : ¬ kCells = kLeft := by decide +kernel
theorem k24 : ¬ kCells = kTurn := by decide +kernel
theorem k34 : ¬ kLeft = kTurn := by decide +kernel
theorem st_large : valV (stKv lg cl left turn) kLarge = some (.ref lg) := valV_pos rfl
theorem st_cells : valV (stKv lg cl left turn) kCells = some (.ref cl) := (valV_neg k12).trans (valV_pos rfl)
theorem st_left : valV (stKv lg cl left turn) kLeft = some (.int left) := (valV_neg k13).trans ((valV_neg k23).trans (valV_pos rfl))
theorem st_turn : valV (stKv lg cl left turn) kTurn = some (.int turn) := (valV_neg k14).trans ((valV_neg k24).trans ((valV_neg k34).trans (valV_pos rfl)))
theorem st_put_left (l : Int) : putK (stKv lg cl left turn) kLeft (.int l) = stKv lg cl l turn := by
  unfold putK
  rw [valV_any, st_left, Option.isSome_some, if_pos rfl]
  simp only [stKv, List.map_cons, List.map_nil, if_neg k13, if_neg k23, if_neg (Ne.symm k34), if_true]
theorem st_put_turn (t : Int) : putK (stKv lg cl left turn) kTurn (.int t) = stKv lg cl left t := by
  unfold putK
  rw [valV_any, st_turn, Option.isSome_some, if_pos rfl]
  simp only [stKv, List.map_cons, List.map_nil, if_neg k14, if_neg k24, if_neg k34, if_true]
end
/-- the state stands at st: the numbers that are left to draw from at lg, the script's at cl -/
structure StD (H : Hp) (st lg cl : Addr) (large cells : List Int) (left : Int) (turn : Nat) : Prop where
  d : H st = some (.dK (stKv lg cl left turn))
  l : H lg = some (.lst (large.map V.int))
  c : H cl = some (.lst (cells.map V.int))
  ne : lg ≠ cl
  pl : ∀ x ∈ large, 0 ≤ x
  p0 : 0 ≤ left
def StAt (H : Hp) (st lg cl : Addr) (n : Nat) : Prop := ∃ large cells left turn, StD H st lg cl large cells left turn ∧ turn ≤ n
/-- all but the state stands as it stood -/
def Kp (st lg : Addr) (H H' : Hp) : Prop := ∀ b o, H b = some o → b ≠ st → b ≠ lg → H' b = some o
theorem Kp.refl {st lg : Addr} {H : Hp} : Kp st lg H H := fun _ _ h _ _ => h
theorem Kp.trans {st lg : Addr} {H H1 H2 : Hp} (a : Kp st lg H H1) (b : Kp st lg H1 H2) : Kp st lg H H2 := fun c o h n1 n2 => b c o (a c o h n1 n2) n1 n2
theorem Kp.same {st lg : Addr} {H H1 : Hp} (a : Same H H1) : Kp st lg H H1 := fun c o h _ _ => a c o h
theorem Same.new {H : Hp} {p : Addr} {o : HO} (h : H p = none) : Same H (upd H p o) := fun b u e => by
  rw [upd_ne (ne_of_none e h)]
  exact e
theorem StD.same {H H' : Hp} {st lg cl : Addr} {large cells : List Int} {left : Int} {turn : Nat} (S : StD H st lg cl large cells left turn) (e : Same H H') : StD H' st lg cl large cells left turn :=
  { S with d := e _ _ S.d, l := e _ _ S.l, c := e _ _ S.c }
theorem StAt.same {H H' : Hp} {st lg cl : Addr} {n : Nat} (S : StAt H st lg cl n) (e : Same H H') : StAt H' st lg cl n := by
  obtain ⟨a, b, c, d, s, h⟩ := S
  exact ⟨a, b, c, d, s.same e, h⟩
theorem StAt.mono {H : Hp} {st lg cl : Addr} {n m : Nat} (S : StAt H st lg cl n) (h : n ≤ m) : StAt H st lg cl m := by
  obtain ⟨a, b, c, d, s, h'⟩ := S
  exact ⟨a, b, c, d, s, Nat.le_trans h' h⟩
theorem StD.st_lg {H : Hp} {st lg cl : Addr} {large cells : List Int} {left : Int} {turn : Nat} (S : StD H st lg cl large cells left turn) : st ≠ lg := ne_of S.d S.l (by intro z; cases z)
theorem StD.st_cl {H : Hp} {st lg cl : Addr} {large cells : List Int} {left : Int} {turn : Nat} (S : StD H st lg cl large cells left turn) : st ≠ cl := ne_of S.d S.c (by intro z; cases z)
/-- the state's dict is written -/
theorem StD.put {H : Hp} {st lg cl : Addr} {large cells : List Int} {left l : Int} {turn t : Nat} (S : StD H st lg cl large cells left turn) (h : 0 ≤ l) : StD (upd H st (.dK (stKv lg cl l t))) st lg cl large cells l t :=
  { d := upd_same, l := (upd_ne S.st_lg.symm).trans S.l, c := (upd_ne S.st_cl.symm).trans S.c, ne := S.ne, pl := S.pl, p0 := h }
theorem Kp.put {st lg : Addr} {H : Hp} {o : HO} : Kp st lg H (upd H st o) := fun b u e n _ => (upd_ne n).trans e
theorem Kp.put2 {st lg : Addr} {H : Hp} {o : HO} : Kp st lg H (upd H lg o) := fun b u e _ n => (upd_ne n).trans e
theorem dp_ints {K : PySem.W.Frag} {H : Hp} : ∀ ns : List Int, DpAll K H (ns.map V.int) (ns.map PyData.int)
  | [] => .nil
  | n :: r => .cons (.int n) (dp_ints r)
theorem dp_int_list {K : PySem.W.Frag} {H : Hp} {a : Addr} {ns : List Int} (h : H a = some (.lst (ns.map V.int))) : Dp K H (.ref a) (.list (ns.map PyData.int)) := .lst (SqL.of h) (dp_ints ns)
theorem dp_nil {K : PySem.W.Frag} {H : Hp} {a : Addr} (h : H a = some (.lst [])) : Dp K H (.ref a) (.list []) := .lst (SqL.of h) .nil
theorem lay_is : ∀ ns : List Int, PyData.canLayAll0 (ns.map PyData.int) = true ∧ PyData.depthAll (ns.map PyData.int) = 0
  | [] => ⟨rfl, rfl⟩
  | n :: r => by
    obtain ⟨h1, h2⟩ := lay_is r
    exact ⟨by simp [PyData.canLayAll0, PyData.canLay0, h1], by simp [PyData.depthAll, PyData.depth, h2]⟩
theorem shaped_is (ns : List Int) : SeqAt.shaped (.list (ns.map PyData.int)) = true := by
  obtain ⟨h1, h2⟩ := lay_is ns
  simp [SeqAt.shaped, PyData.canLay0, PyData.depth, h1, h2]
theorem shaped_nil : SeqAt.shaped (.list []) = true := shaped_is []
theorem eqv_ints_nil (ns : List Int) : PyData.eqv (.list (ns.map PyData.int)) (.list []) = ns.isEmpty := by
  cases ns <;> rfl
theorem st_merge (lg cl : Addr) (left turn : Int) : mergeK [] (stKv lg cl left turn) = stKv lg cl left turn := by
  unfold stKv mergeK
  simp only [List.foldl_cons, List.foldl_nil]
  rw [putK_new (kvs := []) _ valV_nil, List.nil_append]
  rw [putK_new (k := kCells) _ ((valV_neg (show ¬ kLarge = kCells from k12)).trans valV_nil), List.cons_append, List.nil_append]
  rw [putK_new (k := kLeft) _ ((valV_neg (show ¬ kLarge = kLeft from k13)).trans ((valV_neg (show ¬ kCells = kLeft from k23)).trans valV_nil)), List.cons_append, List.cons_append, List.nil_append]
  rw [putK_new (k := kTurn) _ ((valV_neg (show ¬ kLarge = kTurn from k14)).trans ((valV_neg (show ¬ kCells = kTurn from k24)).trans ((valV_neg (show ¬ kLeft = kTurn from k34)).trans valV_nil)))]
  rfl
theorem take_map_snoc {α β : Type} (f : α → β) (l : List α) (i : Nat) (x : α) (h : l[i]? = some x) : (l.take (i + 1)).map f = (l.take i).map f ++ [f x] := by
  rw [List.take_add_one, h]
  simp
theorem StAt.off {H : Hp} {st lg cl p : Addr} {n : Nat} (S : StAt H st lg cl n) (hp : H p = none) : p ≠ st ∧ p ≠ lg := by
  obtain ⟨_, _, _, _, S', _⟩ := S
  exact ⟨(ne_of_none S'.d hp).symm, (ne_of_none S'.l hp).symm⟩
end KA
namespace KA
open PySem PySem.Spec PyProof.Rows L2 PySem.W LamX
/-! ### calls by names alone; defs whose frame must know that no repr is running -/
section
variable {X : Cx} {CX : CXT} {k : Nat} {f : Addr} {fd : FuncData} {ps ks : List Str} {sp : Sp} {E : XK} {x : Str} {p pos : Pos} {kws : List Keyword} {tk : TA} {g : List Value → List Value → List Value} {gV : List V → List V → List V}
def tKw (m : Nat) (sp : Sp) (gV : List V → List V → List V) (E : XK) (tk : TA) : TE := fun σ H Q => tk σ H fun zs H2 => zs.length = m ∧ sp (gV [] zs) H2 Q E
/-- f(k = v, ..) -/
theorem pe_kw (F : FnOk X.prog X.w X.K X.mg X.base CX k f fd ps sp) (hr : Room k X.A) (hg : Gl X x) (hm : X.mg x = some (.ref f)) (hk : PySem.W.keepIn X.K (.ref f) = true) (hb : KBn X.K fd ps 0 ks g gV) (hx : Passes CX X E) (hkw : PK X kws tk)
    (named : (backToKw pos (keywordEach kws X.env)).all (·.1.isSome) = true := by rfl) (theirs : (backToKw pos (keywordEach kws X.env)).filterMap (·.1) = ks := by rfl) (hdb : (x == ("__debug__" : Str)) = false := by decide)
    (noStars : ((backTo pos (starEach [] X.env)).any (·.1) || (backToKw pos (keywordEach kws X.env)).any (·.1.isNone)) = false := by rfl) :
    PE X (.Call (.Name x p) [] kws pos) (tKw ks.length sp gV E tk) :=
  ⟨fun pins s σ H Q I h => wpAny_Call_Name_kw (ld_glob I hg hm (PySem.W.callWith_KW0 (h₀ := X.base) I.ok.mod.kin hk named (thn (hkw.run pos pins s σ H _ I h) fun ws s2 hw => by
    obtain ⟨zs, H2, I2, rz, l2, q2⟩ := hw
    refine ⟨I2.kIn, ?_⟩
    rw [theirs]
    exact run_fnN F hr hb hx I2 .nil rz rfl l2 q2) noStars) hdb)⟩
end
section
variable {K : PySem.W.Frag} {x qual : Str} {st : Stmt} {f : Addr} {fd : FuncData} {ps ks : List Str}
/-- one parameter, by its name -/
theorem Fun.kw1 {a : Str} (F : Fun K x qual st f fd) (h : ∀ (kV doc pm : Value) (an : Option Addr) (cdv ct u : Value), bindArgs (PySem.W.fnOf x qual (defArgs st) (defBody st) (defScope st) .none kV doc pm an cdv ct) ⟨[], [(a, u)]⟩ = pure [(a, u)]) :
    KBn K fd [a] 0 [a] (fun _ ws => ws) (fun _ zs => zs) := by
  obtain ⟨oc, od, kV, doc, pm, an, cdv, ct, osl, rfl, lk, hcd⟩ := F.ex
  refine ⟨fun s us ws X l1 l2 => ?_, fun _ r => r⟩
  match us, ws, l1, l2 with
  | [], [u], _, _ => exact .of_eq (h kV doc pm an cdv ct u)
/-- two parameters a, b, called as f(b = .., a = ..) -/
theorem Fun.kw2 {a b : Str} (F : Fun K x qual st f fd) (h : ∀ (kV doc pm : Value) (an : Option Addr) (cdv ct u v : Value), bindArgs (PySem.W.fnOf x qual (defArgs st) (defBody st) (defScope st) .none kV doc pm an cdv ct) ⟨[], [(b, u), (a, v)]⟩ = pure [(a, v), (b, u)]) :
    KBn K fd [a, b] 0 [b, a] (fun _ ws => ws.reverse) (fun _ zs => zs.reverse) := by
  obtain ⟨oc, od, kV, doc, pm, an, cdv, ct, osl, rfl, lk, hcd⟩ := F.ex
  refine ⟨fun s us ws X l1 l2 => ?_, fun {_ _ zs ws} _ r => ?_⟩
  · match us, ws, l1, l2 with
    | [], [u, v], _, _ => exact .of_eq (h kV doc pm an cdv ct u v)
  · clear h
    have rev : ∀ {zs : List V} {ws : List Value}, Vals zs ws → Vals zs.reverse ws.reverse := fun {zs ws} r => by
      induction r with
      | nil => exact .nil
      | cons h _ ih =>
        rw [List.reverse_cons, List.reverse_cons]
        exact ih.append (.cons h .nil)
    exact rev r
end
end KA
namespace KA
open PySem PySem.Spec PyProof.Rows L2 PySem.W LamX
/-- as FnOk, where no repr is running around the call -/
structure FnG (P : Program) (w : World) (K : PySem.W.Frag) (mg : Str → Option Value) (base : Heap) (CX : CXT) (k : Nat) (f : Addr) (fd : FuncData) (ps : List Str) (sp : Sp) : Prop where
  len : ∀ vs H Q E, sp vs H Q E → vs.length = ps.length
  run : ∀ (A : Around) (outer : List Env) (s : Shared) (H : Hp) (args : Args) (us : List Value) (vs : List V) (Q : VK) (E : XK), Room k A → A.guards = some [] →
    Env0 P w K mg base A outer s H → BindsTo s fd args (ps.zip us) → Vals vs us → sp vs H Q E → codeAny (model P w) A (.call (.ref f) args) (CR CX outer P w H s Q E) s
theorem fnG_of {CX : CXT} {P : Program} {w : World} {K : PySem.W.Frag} {mg : Str → Option Value} {base : Heap} {k : Nat} {f : Addr} {x qual : Str} {st : Stmt} {fd : FuncData} {N ps : List Str} {sp : Sp} (F : Fun K x qual st f fd) (S : FnScope N ps (defScope st))
    (len : ∀ vs H Q E, sp vs H Q E → vs.length = ps.length)
    (hbody : ∀ (cdv : Value) (A : Around) (outer : List Env) (s : Shared) (H : Hp) (vs : List V) (Q : VK) (E : XK), Room k (A.deeper (envOfC qual (defScope st) s.heap.objs.size f cdv)) → A.guards = some [] → sp vs H Q E →
      ∃ t, PSs (cxOf CX P w K mg base N qual (defScope st) f cdv A outer s H E) (defBody st) t ∧ t { nx := fun _ H' => Q .non H', rt := Q } (L2.start N vs) H) : FnG P w K mg base CX (k + 1) f fd ps sp := by
  obtain ⟨oc, od, kV, doc, pm, an, cdv, ct, osl, rfl, lk, hcd⟩ := F.ex
  exact ⟨len, fun A outer s H args us vs Q E hr hg e0 hb r h => run_ofS lk hcd S hr e0 hb r (len _ _ _ _ h) fun hr' => hbody cdv A outer s H vs Q E hr' hg h⟩
/-- what stands around the law's call: the script at a, the tables of cs (each a code object and its table) empty -/
structure Law (h : Heap) (mg mb : Str → Option Value) (K : PySem.W.Frag) (cs : List (Addr × Addr)) (a : Addr) (vs : List Value) (ns : List Int) : Prop where
  kx : K.In h
  nsM : h.Ns mainGlobals mg
  bn : h.Ns builtinsNs mb
  bb : ∀ x : Str, x ≠ "__name__" → mb x = bootBuiltins x
  lim : h.NoLimit
  tab : ∀ p ∈ cs, h.get? p.2 = some { cls := .none, data := .fields #[] }
  notab : ∀ p ∈ cs, K.lookup p.2 = none
  code : ∀ p ∈ cs, PySem.W.CodeHd h p.1 p.2
  bm : ∃ (bm : Addr) (ob : Obj), mg "__builtins__" = some (.ref bm) ∧ bm ≠ builtinsNs ∧ h.get? bm = some ob ∧ ob.cls = .type "module" ∧ ob.dict = some builtinsNs ∧ ob.data = .plain
  at_ : h.get? a = some { cls := .type "list", data := .seq vs.toArray }
  isI : IntsAre vs ns
  len : ns.length ≤ sizeLine
/-- the abstract heap at the law's call -/
def lawH (K : PySem.W.Frag) (cs : List (Addr × Addr)) (a : Addr) (vs : List Value) (ns : List Int) : Hp := fun b =>
  if b = a ∧ K.lookup a = none then some (.frz { cls := .type "list", data := .seq vs.toArray } (.lst (ns.map V.int)))
  else if b ∈ cs.map (·.2) then some (.tbl #[]) else none
section
variable {P : Program} {w : World} {K : PySem.W.Frag} {mg mb : Str → Option Value} {h : Heap} {cs : List (Addr × Addr)} {a : Addr} {vs : List Value} {ns : List Int}
theorem Law.tabAt (L : Law h mg mb K cs a vs ns) {b : Addr} (hb : b ∈ cs.map (·.2)) : h.get? b = some { cls := .none, data := .fields #[] } ∧ K.lookup b = none := by
  obtain ⟨p, hp, rfl⟩ := List.mem_map.mp hb
  exact ⟨L.tab p hp, L.notab p hp⟩
theorem Law.ne (L : Law h mg mb K cs a vs ns) {b : Addr} (hb : b ∈ cs.map (·.2)) : b ≠ a := fun z => by
  have q := (L.tabAt hb).1
  rw [z, L.at_] at q
  cases q
/-- what is tracked: the script, or a table -/
theorem Law.cases (L : Law h mg mb K cs a vs ns) {b : Addr} {u : HO} (e : lawH K cs a vs ns b = some u) :
    (b = a ∧ K.lookup a = none ∧ u = .frz { cls := .type "list", data := .seq vs.toArray } (.lst (ns.map V.int))) ∨ (b ∈ cs.map (·.2) ∧ u = .tbl #[]) := by
  unfold lawH at e
  split at e
  · rename_i c
    exact .inl ⟨c.1, c.2, (Option.some.inj e).symm⟩
  · split at e
    · rename_i c
      exact .inr ⟨c, (Option.some.inj e).symm⟩
    · cases e
theorem Law.tbl (L : Law h mg mb K cs a vs ns) {b : Addr} (hb : b ∈ cs.map (·.2)) : lawH K cs a vs ns b = some (.tbl #[]) := by
  unfold lawH
  rw [if_neg (fun z => L.ne hb z.1), if_pos hb]
theorem Law.seq (L : Law h mg mb K cs a vs ns) : SqL K (lawH K cs a vs ns) a (ns.map V.int) := by
  cases q : K.lookup a with
  | none => exact .inl (.inr ⟨_, by unfold lawH; rw [if_pos ⟨rfl, q⟩]⟩)
  | some o =>
    have e := L.kx a o q
    rw [L.at_] at e
    cases e
    exact .inr ⟨_, vs.toArray, _, q, rfl, rfl, rfl, by rw [List.size_toArray, L.isI.length]; exact L.len, by simpa using vals_ints L.isI⟩
theorem Law.hok (L : Law h mg mb K cs a vs ns) : HOk P w (lawH K cs a vs ns) h := fun b u e => by
  rcases L.cases e with ⟨rfl, _, rfl⟩ | ⟨hb, rfl⟩
  · exact ⟨L.at_, by rw [List.length_map]; exact L.len, vs, _, vals_ints L.isI, L.at_⟩
  · exact (L.tabAt hb).1
/-- an object that is neither a list nor an empty record is not tracked -/
theorem Law.free (L : Law h mg mb K cs a vs ns) {b : Addr} {o : Obj} (e : h.get? b = some o) (h1 : ∀ vs n, o.data ≠ .seq vs n) (h2 : o.data ≠ .fields #[]) : lawH K cs a vs ns b = none := by
  cases q : lawH K cs a vs ns b with
  | none => rfl
  | some u =>
    rcases L.cases q with ⟨rfl, _⟩ | ⟨hb, _⟩
    · rw [L.at_] at e
      cases e
      exact absurd rfl (h1 _ _)
    · rw [(L.tabAt hb).1] at e
      cases e
      exact absurd rfl h2
theorem Law.nsK (L : Law h mg mb K cs a vs ns) {b : Addr} {m : Str → Option Value} (x : h.Ns b m) : (hidT h (lawH K cs a vs ns)).Ns b m := by
  obtain ⟨o, es, ep, e, d, r⟩ := x
  refine ⟨o, es, ep, hidT_get e (L.free e (fun _ _ z => ?_) fun z => ?_), d, r⟩ <;> (rw [d] at z; cases z)
theorem Law.kin (L : Law h mg mb K cs a vs ns) : K.In (hidT h (lawH K cs a vs ns)) := fun b o e => hidT_get (L.kx b o e) (by
  cases q : lawH K cs a vs ns b with
  | none => rfl
  | some u =>
    rcases L.cases q with ⟨rfl, z, _⟩ | ⟨hb, _⟩
    · rw [z] at e
      cases e
    · rw [(L.tabAt hb).2] at e
      cases e)
theorem Law.mod (L : Law h mg mb K cs a vs ns) : L2.Mod K mg (hidT h (lawH K cs a vs ns)) := by
  obtain ⟨mc, h1, h2⟩ := L.lim
  exact ⟨L.kin, L.nsK L.nsM, ⟨mb, L.nsK L.bn, L.bb⟩, mc, L.nsK h1, h2⟩
theorem Law.main (L : Law h mg mb K cs a vs ns) {b : Addr} {o : Obj} (e : h.get? b = some o) (n : ∀ es ep, o.data ≠ .dict es ep) : b ≠ mainGlobals := fun z => by
  obtain ⟨o', es, ep, e', d, _⟩ := L.nsM
  rw [z, e'] at e
  cases e
  exact n _ _ d
theorem Law.tabs (L : Law h mg mb K cs a vs ns) : ∀ p ∈ cs, TabB (hidT h (lawH K cs a vs ns)) mg p.1 p.2 := fun p hp => by
  have hm : p.2 ∈ cs.map (·.2) := List.mem_map.mpr ⟨p, hp, rfl⟩
  have ht := (L.tabAt hm).1
  refine ⟨?_, ?_, fun z => L.main ht (fun _ _ q => by cases q) z.symm⟩
  · obtain ⟨o, us, file, tf, flags, tg, inF, text, tt, e1, r1, r2, r3, rest⟩ := L.code p hp
    refine ⟨o, us, file, tf, flags, tg, inF, text, tt, hidT_get e1 (L.free e1 (fun _ _ z => ?_) fun z => ?_), r1, r2, r3, rest⟩
    · rw [r2] at z
      cases z
    · rw [r2] at z
      cases z
      simp at r3
  · obtain ⟨bm, ob, b1, b2, b3, b4, b5, b6⟩ := L.bm
    refine ⟨bm, ob, b1, b2, L.main b3 (fun _ _ q => by rw [b6] at q; cases q), fun q => ?_, hidT_get b3 (L.free b3 (fun _ _ z => ?_) fun z => ?_), b4, b5, b6⟩
    · rw [q, ht] at b3
      cases b3
      cases b6
    · rw [b6] at z
      cases z
    · rw [b6] at z
      cases z
/-- an address of the heap at the call stands as it stood, or it is a table that has grown -/
theorem Law.stay (L : Law h mg mb K cs a vs ns) {s' : Shared} {H' : Hp} {b : Addr} {o : Obj} (un : Un [] [] (lawH K cs a vs ns) H' h s'.heap) (ok : HOk P w H' s'.heap) (e : h.get? b = some o) (nb : b ∉ cs.map (·.2)) : s'.heap.get? b = some o := by
  cases q : lawH K cs a vs ns b with
  | none => exact un.keep b o e q (by simp) (by simp)
  | some u =>
    rcases L.cases q with ⟨rfl, _, rfl⟩ | ⟨z, _⟩
    · have e2 := (ok b _ (un.frzs b _ _ q)).1
      rw [L.at_] at e
      rw [← e]
      exact e2
    · exact absurd z nb
theorem Law.grown (L : Law h mg mb K cs a vs ns) {s' : Shared} {H' : Hp} {b : Addr} (un : Un [] [] (lawH K cs a vs ns) H' h s'.heap) (ok : HOk P w H' s'.heap) (hb : b ∈ cs.map (·.2)) : ∃ more : Array Value, s'.heap.get? b = some { cls := .none, data := .fields more } := by
  obtain ⟨more, z⟩ := un.tbls b #[] (L.tbl hb)
  exact ⟨_, ok b _ z⟩
theorem Law.old (L : Law h mg mb K cs a vs ns) {s' : Shared} {H' : Hp} (un : Un [] [] (lawH K cs a vs ns) H' h s'.heap) (ok : HOk P w H' s'.heap) : OldK h s'.heap := by
  constructor
  · intro b o e
    by_cases hb : b ∈ cs.map (·.2)
    · obtain ⟨p, hp, rfl⟩ := List.mem_map.mp hb
      obtain ⟨more, hm⟩ := L.grown un ok hb
      have ht := L.tab p hp
      rw [ht] at e
      cases e
      refine .inr (.inl ⟨((L.code p hp).tab ht).isCodeTable, rfl, #[], more, rfl, ?_⟩)
      rw [Array.empty_append]
      exact hm
    · exact .inl (L.stay un ok e hb)
  · intro b o e
    by_cases hb : b ∈ cs.map (·.2)
    · obtain ⟨more, hm⟩ := L.grown un ok hb
      exact ⟨_, hm⟩
    · exact ⟨o, L.stay un ok e hb⟩
end
/-- the law, called with the script at a -/
theorem law_callG {P : Program} {w : World} {K : PySem.W.Frag} {mg mb : Str → Option Value} {CX : CXT} {k : Nat} {fa a : Addr} {cs : List (Addr × Addr)} {fd : FuncData} {x : Str} {sp : Sp} {s : Shared} {vs : List Value} {ns : List Int}
    (L : Law s.heap mg mb K cs a vs ns) (hg : s.gens = #[]) (hr : Room k callerA) (F : ∀ base : Heap, K.In base → base.Ns mainGlobals mg → (∀ p ∈ cs, TabB base mg p.1 p.2) → FnG P w K mg base CX k fa fd [x] sp)
    (hbind : ∀ (s : Shared) (u : Value), BindsTo s fd ⟨[u], []⟩ [(x, u)]) (hsp : ∀ H : Hp, (∀ p ∈ cs, H p.2 = some (.tbl #[])) → SqL K H a (ns.map V.int) → sp [.ref a] H (fun v _ => v = .bl true) fun _ _ _ => False)
    (hCX : ∀ H e s', CX [] H s (fun _ _ _ => False) e s' → False) :
    codeAny (model P w) callerA (.call (.ref fa) ⟨[.ref a], []⟩) (fun r s' => r = .ok (.ret (.bool true)) ∧ OldK s.heap s'.heap ∧ s'.os = s.os ∧ AllBare s'.gens) s := by
  have env : Env0 P w K mg (hidT s.heap (lawH K cs a vs ns)) callerA [] s (lawH K cs a vs ns) :=
    ⟨rfl, L.mod, fun _ _ => of_hidT, Nat.le_of_eq (hidT_size _ _), trivial, fun b hb => absurd (show b ∈ ([] : List Addr) from hb) List.not_mem_nil, L.hok, .of_eq hg⟩
  have pre := hsp (lawH K cs a vs ns) (fun p hp => L.tbl (List.mem_map.mpr ⟨p, hp, rfl⟩)) L.seq
  have run := (F _ L.kin (L.nsK L.nsM) L.tabs).run callerA [] s _ ⟨[.ref a], []⟩ [.ref a] [.ref a] _ _ hr rfl env (hbind s _) (.cons rfl .nil) pre
  refine codeAny_mono run fun r s' q => ?_
  match r, q with
  | .error e, q => exact (hCX _ e s' q).elim
  | .ok .next, q => exact False.elim q
  | .ok .brk, q => exact False.elim q
  | .ok .cont, q => exact False.elim q
  | .ok (.ret u), q =>
    obtain ⟨v, H', os, bare, un, ok, rv, e⟩ := q
    cases (show v = .bl true from e)
    cases (show u = Value.bool true from rv)
    exact ⟨rfl, L.old un ok, os, bare⟩
/-- what is known of the law at the head's heap h -/
def LawAtG (l : PySem.W.OpenLaw) (w : World) (K : PySem.W.Frag) (CX : CXT) (k n : Nat) (x : Str) (mg : Str → Option Value) (fa : Addr) (h : Heap) : Prop :=
  ∃ (fd : FuncData) (cs : List (Addr × Addr)) (sp : Sp), ((∀ p ∈ cs, h.get? p.2 = some { cls := .none, data := .fields #[] }) ∧ (∀ p ∈ cs, K.lookup p.2 = none) ∧ ∀ p ∈ cs, PySem.W.CodeHd h p.1 p.2) ∧
    (∀ (s : Shared) (u : Value), BindsTo s fd ⟨[u], []⟩ [(x, u)]) ∧
    (∀ (H : Hp) (a : Addr) (ns : List Int), ns.length ≤ n → (∀ p ∈ cs, H p.2 = some (.tbl #[])) → SqL K H a (ns.map V.int) → sp [.ref a] H (fun v _ => v = .bl true) fun _ _ _ => False) ∧
    ∀ base : Heap, K.In base → base.Ns mainGlobals mg → (∀ p ∈ cs, TabB base mg p.1 p.2) → FnG l.prog w K mg base CX k fa fd [x] sp
theorem walk_ofG {l : PySem.W.OpenLaw} {n k : Nat} {q : Program} {loose : List Str} {XP : (Str → Option Value) → Heap → Prop} {YP : World → Heap → Prop} {d : DefRec} {K : Params → PySem.W.Frag} {CX : World → CXT} {x : Str}
    (most : l.most = some n) (line : n ≤ sizeLine) (plain : d.params.defaults = []) (room : Room k callerA) (known : ∀ (w : World) (h : Heap), YP w h → (K w.params).In h)
    (at_ : ∀ (w : World) (mg : Str → Option Value) (fa : Addr) (h : Heap), YP w h → (K w.params).In h → h.Ns mainGlobals mg → mg d.name = some (.ref fa) → LawAtG l w (K w.params) (CX w) k n x mg fa h)
    (calm : ∀ (w : World) (H : Hp) (s : Shared) (e : Value) (s' : Shared), CX w [] H s (fun _ _ _ => False) e s' → False) : PySem.W.WalkO q loose XP YP l.row.toRowW d [] (fun f vs => PySem.call f vs) := by
  refine Att.attach_callB most plain fun w _ s mg mb fa _ _ _ _ a vs ns G Y _ _ _ name here isI short _ bare => ?_
  obtain ⟨fd, cs, sp, ⟨t1, t2, t3⟩, bind, pre, F⟩ := at_ w mg fa _ Y (known w _ Y) G.T.g name
  exact law_callG ⟨known w _ Y, G.T.g, G.T.b, G.T.builtins, G.T.nolimit, t1, t2, t3, G.T.bmain, here, isI, Nat.le_trans short line⟩ bare room F bind (fun H t S => pre H a ns short t S) fun H e s' => calm w H s e s'
end KA
namespace K01
open PySem PySem.Spec PyProof.Rows L2 PySem.W LamX KA
def top (i : Nat) : Stmt := PySem.Challenge.pw_pricedreels_k01_numbers_written_in_bits.main.body.getD i (.Pass ⟨0, 0, 0, 0⟩)
abbrev s_is_number : Stmt := top 1
theorem sc_is_number : FnScope ["thing"] ["thing"] (defScope s_is_number) := ⟨rfl, rfl, rfl, by decide +kernel, rfl, by decide +kernel, by decide +kernel⟩
abbrev s_is_within : Stmt := top 2
theorem sc_is_within : FnScope ["thing", "low", "high"] ["thing", "low", "high"] (defScope s_is_within) := ⟨rfl, rfl, rfl, by decide +kernel, rfl, by decide +kernel, by decide +kernel⟩
abbrev s_folded : Stmt := top 13
theorem sc_folded : FnScope ["number"] ["number"] (defScope s_folded) := ⟨rfl, rfl, rfl, by decide +kernel, rfl, by decide +kernel, by decide +kernel⟩
abbrev s_unfolded : Stmt := top 14
theorem sc_unfolded : FnScope ["number"] ["number"] (defScope s_unfolded) := ⟨rfl, rfl, rfl, by decide +kernel, rfl, by decide +kernel, by decide +kernel⟩
abbrev s_is_bits : Stmt := top 15
theorem sc_is_bits : FnScope ["thing"] ["thing"] (defScope s_is_bits) := ⟨rfl, rfl, rfl, by decide +kernel, rfl, by decide +kernel, by decide +kernel⟩
abbrev s_fixed_bits : Stmt := top 16
theorem sc_fixed_bits : FnScope ["number", "many"] ["number", "many"] (defScope s_fixed_bits) := ⟨rfl, rfl, rfl, by decide +kernel, rfl, by decide +kernel, by decide +kernel⟩
abbrev s_long_bits : Stmt := top 17
theorem sc_long_bits : FnScope ["number", "word"] ["number"] (defScope s_long_bits) := ⟨rfl, rfl, rfl, by decide +kernel, rfl, by decide +kernel, by decide +kernel⟩
abbrev s_grade_bits : Stmt := top 18
theorem sc_grade_bits : FnScope ["number", "grade", "fold_of", "ones"] ["number", "grade"] (defScope s_grade_bits) := ⟨rfl, rfl, rfl, by decide +kernel, rfl, by decide +kernel, by decide +kernel⟩
abbrev s_check_told : Stmt := top 19
theorem sc_check_told : FnScope ["number"] ["number"] (defScope s_check_told) := ⟨rfl, rfl, rfl, by decide +kernel, rfl, by decide +kernel, by decide +kernel⟩
abbrev s_check_many : Stmt := top 20
theorem sc_check_many : FnScope ["many"] ["many"] (defScope s_check_many) := ⟨rfl, rfl, rfl, by decide +kernel, rfl, by decide +kernel, by decide +kernel⟩
abbrev s_check_grade : Stmt := top 21
theorem sc_check_grade : FnScope ["grade"] ["grade"] (defScope s_check_grade) := ⟨rfl, rfl, rfl, by decide +kernel, rfl, by decide +kernel, by decide +kernel⟩
abbrev s_is_told : Stmt := top 22
theorem sc_is_told : FnScope ["thing"] ["thing"] (defScope s_is_told) := ⟨rfl, rfl, rfl, by decide +kernel, rfl, by decide +kernel, by decide +kernel⟩
abbrev s_fold : Stmt := top 23
theorem sc_fold : FnScope ["number"] ["number"] (defScope s_fold) := ⟨rfl, rfl, rfl, by decide +kernel, rfl, by decide +kernel, by decide +kernel⟩
abbrev s_unfold : Stmt := top 24
theorem sc_unfold : FnScope ["number"] ["number"] (defScope s_unfold) := ⟨rfl, rfl, rfl, by decide +kernel, rfl, by decide +kernel, by decide +kernel⟩
abbrev s_in_bits : Stmt := top 25
theorem sc_in_bits : FnScope ["number", "many"] ["number", "many"] (defScope s_in_bits) := ⟨rfl, rfl, rfl, by decide +kernel, rfl, by decide +kernel, by decide +kernel⟩
abbrev s__law_begun : Stmt := top 27
theorem sc__law_begun : FnScope ["script", "cells_here", "large", "cell"] ["script"] (defScope s__law_begun) := ⟨rfl, rfl, rfl, by decide +kernel, rfl, by decide +kernel, by decide +kernel⟩
abbrev s__law_draw : Stmt := top 28
theorem sc__law_draw : FnScope ["state", "size_here", "found", "turn", "cell", "mixed"] ["state", "size_here"] (defScope s__law_draw) := ⟨rfl, rfl, rfl, by decide +kernel, rfl, by decide +kernel, by decide +kernel⟩
abbrev s__law_pick : Stmt := top 29
theorem sc__law_pick : FnScope ["state", "several"] ["state", "several"] (defScope s__law_pick) := ⟨rfl, rfl, rfl, by decide +kernel, rfl, by decide +kernel, by decide +kernel⟩
abbrev s__law_caught : Stmt := top 30
theorem sc__law_caught : FnScope ["work", "caught", "error"] ["work"] (defScope s__law_caught) := ⟨rfl, rfl, rfl, by decide +kernel, rfl, by decide +kernel, by decide +kernel⟩
abbrev s__law_two : Stmt := top 31
theorem sc__law_two : FnScope ["size_here", "found", "turn"] ["size_here"] (defScope s__law_two) := ⟨rfl, rfl, rfl, by decide +kernel, rfl, by decide +kernel, by decide +kernel⟩
abbrev s__law_fold : Stmt := top 32
theorem sc__law_fold : FnScope ["item"] ["item"] (defScope s__law_fold) := ⟨rfl, rfl, rfl, by decide +kernel, rfl, by decide +kernel, by decide +kernel⟩
abbrev s__law_twos : Stmt := top 33
theorem sc__law_twos : FnScope ["item", "size_here", "found", "turn"] ["item", "size_here"] (defScope s__law_twos) := ⟨rfl, rfl, rfl, by decide +kernel, rfl, by decide +kernel, by decide +kernel⟩
abbrev s__law_long : Stmt := top 34
theorem sc__law_long : FnScope ["item", "told", "tail"] ["item"] (defScope s__law_long) := ⟨rfl, rfl, rfl, by decide +kernel, rfl, by decide +kernel, by decide +kernel⟩
abbrev s__law_graded : Stmt := top 35
theorem sc__law_graded : FnScope ["item", "rung", "told", "ones"] ["item", "rung"] (defScope s__law_graded) := ⟨rfl, rfl, rfl, by decide +kernel, rfl, by decide +kernel, by decide +kernel⟩
abbrev s__law_item : Stmt := top 36
theorem sc__law_item : FnScope ["state", "power", "some"] ["state"] (defScope s__law_item) := ⟨rfl, rfl, rfl, by decide +kernel, rfl, by decide +kernel, by decide +kernel⟩
abbrev s__law_refused : Stmt := top 37
theorem sc__law_refused : FnScope ["state", "item", "rung", "errors", "none", "odd", "wrong", "error"] ["state", "item", "rung"] (defScope s__law_refused) := ⟨rfl, rfl, rfl, by decide +kernel, rfl, by decide +kernel, by decide +kernel⟩
abbrev s_law : Stmt := top 38
theorem sc_law : FnScope ["script", "state", "turn", "item", "rung", "size_here", "told", "part", "nearer", "signs", "odd", "spot"] ["script"] (defScope s_law) := ⟨rfl, rfl, rfl, by decide +kernel, rfl, by decide +kernel, by decide +kernel⟩
/-- what the top has written -/
structure Top (K : PySem.W.Frag) (mg : Str → Option Value) where
  reel : ReelT K mg
  BadGrade : ExcT K mg "BadGrade" reel.C
  BadMany : ExcT K mg "BadMany" reel.C
  BadNumber : ExcT K mg "BadNumber" reel.C
  is_number : DefT K mg "is_number" s_is_number
  is_within : DefT K mg "is_within" s_is_within
  folded : DefT K mg "folded" s_folded
  unfolded : DefT K mg "unfolded" s_unfolded
  is_bits : DefT K mg "is_bits" s_is_bits
  fixed_bits : DefT K mg "fixed_bits" s_fixed_bits
  long_bits : DefT K mg "long_bits" s_long_bits
  grade_bits : DefT K mg "grade_bits" s_grade_bits
  check_told : DefT K mg "check_told" s_check_told
  check_many : DefT K mg "check_many" s_check_many
  check_grade : DefT K mg "check_grade" s_check_grade
  is_told : DefT K mg "is_told" s_is_told
  fold : DefT K mg "fold" s_fold
  unfold : DefT K mg "unfold" s_unfold
  in_bits : DefT K mg "in_bits" s_in_bits
  _law_begun : DefT K mg "_law_begun" s__law_begun
  _law_draw : DefT K mg "_law_draw" s__law_draw
  _law_pick : DefT K mg "_law_pick" s__law_pick
  _law_caught : DefT K mg "_law_caught" s__law_caught
  _law_two : DefT K mg "_law_two" s__law_two
  _law_fold : DefT K mg "_law_fold" s__law_fold
  _law_twos : DefT K mg "_law_twos" s__law_twos
  _law_long : DefT K mg "_law_long" s__law_long
  _law_graded : DefT K mg "_law_graded" s__law_graded
  _law_item : DefT K mg "_law_item" s__law_item
  _law_refused : DefT K mg "_law_refused" s__law_refused
  law : DefT K mg "law" s_law
  cMOST_TOLD : CstT mg "MOST_TOLD" 32767
  cMOST_FOLDED : CstT mg "MOST_FOLDED" 65534
  cONES_OF_GRADE : CstT mg "ONES_OF_GRADE" 12
  cBITS_BEHIND_ONES : CstT mg "BITS_BEHIND_ONES" 16
  b_isinstance : mg "isinstance" = none
  b_int : mg "int" = none
  b_bool : mg "bool" = none
  b_str : mg "str" = none
  b_len : mg "len" = none
  b_abs : mg "abs" = none
  b_range : mg "range" = none
  b_min : mg "min" = none
  b_repr : mg "repr" = none
  b_ValueError : mg "ValueError" = none
section
variable {K : PySem.W.Frag} {mg : Str → Option Value}
theorem bd_is_number (T : Top K mg) : Binds K T.is_number.d ["thing"] [] := T.is_number.f.binds fun _ _ _ _ _ _ us hl => match us, hl with | [_], _ => rfl
theorem bd_is_within (T : Top K mg) : Binds K T.is_within.d ["thing", "low", "high"] [] := T.is_within.f.binds fun _ _ _ _ _ _ us hl => match us, hl with | [_, _, _], _ => rfl
theorem bd_folded (T : Top K mg) : Binds K T.folded.d ["number"] [] := T.folded.f.binds fun _ _ _ _ _ _ us hl => match us, hl with | [_], _ => rfl
theorem bd_unfolded (T : Top K mg) : Binds K T.unfolded.d ["number"] [] := T.unfolded.f.binds fun _ _ _ _ _ _ us hl => match us, hl with | [_], _ => rfl
theorem bd_is_bits (T : Top K mg) : Binds K T.is_bits.d ["thing"] [] := T.is_bits.f.binds fun _ _ _ _ _ _ us hl => match us, hl with | [_], _ => rfl
theorem bd_fixed_bits (T : Top K mg) : Binds K T.fixed_bits.d ["number", "many"] [] := T.fixed_bits.f.binds fun _ _ _ _ _ _ us hl => match us, hl with | [_, _], _ => rfl
theorem bd_long_bits (T : Top K mg) : Binds K T.long_bits.d ["number"] [] := T.long_bits.f.binds fun _ _ _ _ _ _ us hl => match us, hl with | [_], _ => rfl
theorem bd_grade_bits (T : Top K mg) : Binds K T.grade_bits.d ["number", "grade"] [] := T.grade_bits.f.binds fun _ _ _ _ _ _ us hl => match us, hl with | [_, _], _ => rfl
theorem bd_check_told (T : Top K mg) : Binds K T.check_told.d ["number"] [] := T.check_told.f.binds fun _ _ _ _ _ _ us hl => match us, hl with | [_], _ => rfl
theorem bd_check_many (T : Top K mg) : Binds K T.check_many.d ["many"] [] := T.check_many.f.binds fun _ _ _ _ _ _ us hl => match us, hl with | [_], _ => rfl
theorem bd_check_grade (T : Top K mg) : Binds K T.check_grade.d ["grade"] [] := T.check_grade.f.binds fun _ _ _ _ _ _ us hl => match us, hl with | [_], _ => rfl
theorem bd_is_told (T : Top K mg) : Binds K T.is_told.d ["thing"] [] := T.is_told.f.binds fun _ _ _ _ _ _ us hl => match us, hl with | [_], _ => rfl
theorem bd_fold (T : Top K mg) : Binds K T.fold.d ["number"] [] := T.fold.f.binds fun _ _ _ _ _ _ us hl => match us, hl with | [_], _ => rfl
theorem bd_unfold (T : Top K mg) : Binds K T.unfold.d ["number"] [] := T.unfold.f.binds fun _ _ _ _ _ _ us hl => match us, hl with | [_], _ => rfl
theorem bd_in_bits (T : Top K mg) : Binds K T.in_bits.d ["number", "many"] [] := T.in_bits.f.binds fun _ _ _ _ _ _ us hl => match us, hl with | [_, _], _ => rfl
theorem bd__law_begun (T : Top K mg) : Binds K T._law_begun.d ["script"] [] := T._law_begun.f.binds fun _ _ _ _ _ _ us hl => match us, hl with | [_], _ => rfl
theorem bd__law_draw (T : Top K mg) : Binds K T._law_draw.d ["state", "size_here"] [] := T._law_draw.f.binds fun _ _ _ _ _ _ us hl => match us, hl with | [_, _], _ => rfl
theorem bd__law_pick (T : Top K mg) : Binds K T._law_pick.d ["state", "several"] [] := T._law_pick.f.binds fun _ _ _ _ _ _ us hl => match us, hl with | [_, _], _ => rfl
theorem bd__law_caught (T : Top K mg) : Binds K T._law_caught.d ["work"] [] := T._law_caught.f.binds fun _ _ _ _ _ _ us hl => match us, hl with | [_], _ => rfl
theorem bd__law_two (T : Top K mg) : Binds K T._law_two.d ["size_here"] [] := T._law_two.f.binds fun _ _ _ _ _ _ us hl => match us, hl with | [_], _ => rfl
theorem bd__law_fold (T : Top K mg) : Binds K T._law_fold.d ["item"] [] := T._law_fold.f.binds fun _ _ _ _ _ _ us hl => match us, hl with | [_], _ => rfl
theorem bd__law_twos (T : Top K mg) : Binds K T._law_twos.d ["item", "size_here"] [] := T._law_twos.f.binds fun _ _ _ _ _ _ us hl => match us, hl with | [_, _], _ => rfl
theorem bd__law_long (T : Top K mg) : Binds K T._law_long.d ["item"] [] := T._law_long.f.binds fun _ _ _ _ _ _ us hl => match us, hl with | [_], _ => rfl
theorem bd__law_graded (T : Top K mg) : Binds K T._law_graded.d ["item", "rung"] [] := T._law_graded.f.binds fun _ _ _ _ _ _ us hl => match us, hl with | [_, _], _ => rfl
theorem bd__law_item (T : Top K mg) : Binds K T._law_item.d ["state"] [] := T._law_item.f.binds fun _ _ _ _ _ _ us hl => match us, hl with | [_], _ => rfl
theorem bd__law_refused (T : Top K mg) : Binds K T._law_refused.d ["state", "item", "rung"] [] := T._law_refused.f.binds fun _ _ _ _ _ _ us hl => match us, hl with | [_, _, _], _ => rfl
theorem bd_law (T : Top K mg) : Binds K T.law.d ["script"] [] := T.law.f.binds fun _ _ _ _ _ _ us hl => match us, hl with | [_], _ => rfl
end
end K01
namespace K01
open PySem PySem.Spec PyProof.Rows L2 PySem.W LamX KA
/-! ### the promises -/
/-- a value whose type isinstance can tell; whether it is a number -/
inductive Pl (K : PySem.W.Frag) (H : Hp) : V → Bool → Prop where
  | int (i : Int) : Pl K H (.int i) true
  | bl (b : Bool) : Pl K H (.bl b) false
  | str (s : Str) : Pl K H (.str s) false
  | non : Pl K H .non false
  | tup {a : Addr} {xs : List V} (e : H a = some (.tup xs)) : Pl K H (.ref a) false
  | lst {a : Addr} {xs : List V} (e : H a = some (.lst xs)) : Pl K H (.ref a) false
  | dK {a : Addr} {kvs : List (Key × V)} (e : H a = some (.dK kvs)) : Pl K H (.ref a) false
theorem Pl.ty {K : PySem.W.Frag} {H : Hp} {x : V} {b : Bool} (h : Pl K H x b) : ∃ t : String, TyX K H x (.type t) ∧ kitB t "int" = some (b || (t == "bool")) ∧ kitB t "bool" = some (t == "bool") ∧ ((b || (t == "bool")) && !(t == "bool")) = b := by
  cases h with
  | int i => exact ⟨"int", .base (.int i), by decide +kernel, by decide +kernel, by decide⟩
  | bl i => exact ⟨"bool", .base (.bl i), by decide +kernel, by decide +kernel, by decide⟩
  | str i => exact ⟨"str", .base (.str i), by decide +kernel, by decide +kernel, by decide⟩
  | non => exact ⟨"NoneType", .base .non, by decide +kernel, by decide +kernel, by decide⟩
  | tup e => exact ⟨"tuple", .base (.tup e), by decide +kernel, by decide +kernel, by decide⟩
  | lst e => exact ⟨"list", .base (.lst e), by decide +kernel, by decide +kernel, by decide⟩
  | dK e => exact ⟨"dict", .base (.dK e), by decide +kernel, by decide +kernel, by decide⟩
def within (x : V) (lo hi : Int) : Bool := match x with
  | .int i => decide (lo ≤ i) && decide (i ≤ hi)
  | _ => false
def spNumber (K : PySem.W.Frag) : Sp := fun vs H Q _ => ∃ x b, vs = [x] ∧ Pl K H x b ∧ Q (.bl b) H
def spWithin (K : PySem.W.Frag) : Sp := fun vs H Q _ => ∃ x b lo hi, vs = [x, .int lo, .int hi] ∧ Pl K H x b ∧ Q (.bl (within x lo hi)) H
section
variable {P : Program} {w : World} {K : PySem.W.Frag} {mg : Str → Option Value} {base : Heap} (T : Top K mg)
abbrev pInt {X : Cx} {pos : Pos} (hg : Gl X "int") (hm : X.mg "int" = none) : PE X (.Name "int" pos) (tC (.ty "int")) := pe_bltn hg hm PyProof.Rows.boot_int rfl
theorem q_bl {Q : VK} {H : Hp} {a b : Bool} (k : Q (.bl b) H) (e : a = b) : Q (.bl a) H := e ▸ k
theorem q_int {Q : VK} {H : Hp} {a b : Int} (k : Q (.int b) H) (e : a = b) : Q (.int a) H := e ▸ k
theorem q_str {Q : VK} {H : Hp} {a b : Str} (k : Q (.str b) H) (e : a = b) : Q (.str a) H := e ▸ k
theorem ok_is_number : FnOk P w K mg base (L2.CX P w) 1 T.is_number.a T.is_number.d ["thing"] (spNumber K) := by
  refine T.is_number.f.okX sc_is_number (fun vs H Q E h => ?_) (fun cdv A outer s H vs Q E hr h => ?_)
  · obtain ⟨x, b, rfl, _⟩ := h
    rfl
  · obtain ⟨x, b, rfl, hp, k⟩ := h
    refine ⟨_, pss_one (ps_ret (pe_and
      (pe_callB call_isi (by rfl) T.b_isinstance PyProof.Rows.boot_isinstance (pa_cons (pv 0) (pa_cons (pe_bltn (v := .ty "int") (by rfl) T.b_int PyProof.Rows.boot_int rfl) pa_nil)))
      (pe_one (pe_not (pe_callB call_isi (by rfl) T.b_isinstance PyProof.Rows.boot_isinstance (pa_cons (pv 0) (pa_cons (pe_bltn (v := .ty "bool") (by rfl) T.b_bool (by decide +kernel) rfl) pa_nil))))))), ?_⟩
    obtain ⟨t, ht, h1, h2, h3⟩ := hp.ty
    refine ⟨_, rfl, x, _, _, _, _, rfl, .ty "int", ht, kit_ty h1, _, rfl, ?_⟩
    cases e : (b || (t == "bool"))
    · rw [e] at h3
      refine iteF ?_
      exact q_bl k h3
    · rw [e] at h3
      refine iteT ?_
      refine ⟨_, rfl, x, _, _, _, _, rfl, .ty "bool", ht, kit_ty h2, _, rfl, ?_⟩
      exact q_bl k (by simpa using h3)
theorem ok_is_within : FnOk P w K mg base (L2.CX P w) 2 T.is_within.a T.is_within.d ["thing", "low", "high"] (spWithin K) := by
  refine T.is_within.f.okX sc_is_within (fun vs H Q E h => ?_) (fun cdv A outer s H vs Q E hr h => ?_)
  · obtain ⟨x, b, lo, hi, rfl, _⟩ := h
    rfl
  · obtain ⟨x, b, lo, hi, rfl, hp, k⟩ := h
    refine ⟨_, pss_one (ps_ret (pe_and (pe_call (ok_is_number T) hr (by rfl) T.is_number.m T.is_number.f.kp (bd_is_number T) .nil passE (pa_cons (pv 0) pa_nil))
      (pe_one (pe_chain op_le op_le (pv 1) (pv 0) (pv 2))))), ?_⟩
    refine ⟨_, rfl, x, b, rfl, hp, b, rfl, ?_⟩
    cases hp with
    | int i =>
      refine iteT ⟨_, rfl, _, rfl, lo, i, rfl, rfl, _, rfl, ?_⟩
      by_cases h1 : lo ≤ i
      · rw [decide_eq_true h1]
        refine iteT ⟨_, rfl, i, hi, rfl, rfl, ?_⟩
        exact q_bl k (by simp [within, h1])
      · rw [decide_eq_false h1]
        refine iteF ?_
        exact q_bl k (by simp [within, h1])
    | _ => exact iteF k
def foldI (i : Int) : Int := if i > 0 then 2 * i - 1 else -2 * i
def spFold : Sp := fun vs H Q _ => ∃ i : Int, vs = [.int i] ∧ Q (.int (foldI i)) H
theorem ok_fold : FnOk P w K mg base (L2.CX P w) 1 T.fold.a T.fold.d ["number"] spFold := by
  refine T.fold.f.okX sc_fold (fun vs H Q E h => ?_) (fun cdv A outer s H vs Q E hr h => ?_)
  · obtain ⟨i, rfl, _⟩ := h
    rfl
  · obtain ⟨i, rfl, k⟩ := h
    refine ⟨_, pss_one (ps_ret (pe_ifExp (pt_cmpR op_gt (pv 0) pe_int (nomark _)) (pe_op op_sub (pe_op op_mul pe_int (pv 0)) pe_int) (pe_op op_mul (pe_un un_neg pe_int) (pv 0)))), ?_⟩
    refine ⟨_, rfl, _, _, rfl, rfl, _, rfl, ?_⟩
    by_cases h : i > 0
    · rw [show decide ((0 : Int) < i) = true from decide_eq_true h]
      refine iteT ⟨_, rfl, _, _, rfl, rfl, .inl ⟨by decide, by decide⟩, _, _, rfl, rfl, ?_⟩
      exact q_int k (by simp [foldI, h])
    · rw [show decide ((0 : Int) < i) = false from decide_eq_false h]
      refine iteF ⟨_, rfl, _, rfl, _, _, rfl, rfl, .inl ⟨by decide, by decide⟩, ?_⟩
      exact q_int k (by simp [foldI, h])
def unfoldI (n : Int) : Int := if Builtin.bitAnd n 1 != 0 then (n + 1) / 2 else -(n / 2)
def spUnfold : Sp := fun vs H Q _ => ∃ i : Int, vs = [.int i] ∧ Q (.int (unfoldI i)) H
theorem ok_unfold : FnOk P w K mg base (L2.CX P w) 1 T.unfold.a T.unfold.d ["number"] spUnfold := by
  refine T.unfold.f.okX sc_unfold (fun vs H Q E h => ?_) (fun cdv A outer s H vs Q E hr h => ?_)
  · obtain ⟨i, rfl, _⟩ := h
    rfl
  · obtain ⟨i, rfl, k⟩ := h
    refine ⟨_, pss_one (ps_ret (pe_ifExp (pt_truth (pe_op op_and (pv 0) pe_int) (by intro _; rfl)) (pe_op op_fdiv (pe_op op_add (pv 0) pe_int) pe_int) (pe_un un_neg (pe_op op_fdiv (pv 0) pe_int)))), ?_⟩
    refine ⟨_, rfl, _, _, rfl, rfl, _, rfl, ?_⟩
    cases h : (Builtin.bitAnd i 1 != 0)
    · refine iteF ⟨_, rfl, _, _, rfl, rfl, ⟨by decide, by decide⟩, _, rfl, ?_⟩
      exact q_int k (by simp only [unfoldI, h]; rfl)
    · refine iteT ⟨_, rfl, _, _, rfl, rfl, _, _, rfl, rfl, ⟨by decide, by decide⟩, ?_⟩
      exact q_int k (by simp only [unfoldI, h]; rfl)
/-- n in m bits, as the program writes it -/
theorem padOk {m : Int} (h0 : 0 ≤ m) (h1 : m ≤ 100) : PadOk m = true := by
  unfold PadOk fitsSsize Builtin.Str.tooLong
  have e : sizeLine = 16777216 := rfl
  rw [e]
  simp
  omega
def inBits (n m : Int) : Str := if m = 0 then "" else Txt.zfill (binText n.natAbs) m
def spInBits : Sp := fun vs H Q _ => ∃ n m : Int, vs = [.int n, .int m] ∧ 0 ≤ n ∧ (binText n.natAbs).length ≤ 100 ∧ 0 ≤ m ∧ m ≤ 100 ∧ Q (.str (inBits n m)) H
theorem ok_in_bits : FnOk P w K mg base (L2.CX P w) 1 T.in_bits.a T.in_bits.d ["number", "many"] spInBits := by
  refine T.in_bits.f.okX sc_in_bits (fun vs H Q E h => ?_) (fun cdv A outer s H vs Q E hr h => ?_)
  · obtain ⟨n, m, rfl, _⟩ := h
    rfl
  · obtain ⟨n, m, rfl, h0, hl, hm0, hm, k⟩ := h
    refine ⟨_, pss_one (ps_ret (pe_ifExp (pt_truth (pv 1) (by intro _; rfl))
      (pe_bm PySem.F.plainAttrs_str PySem.F.slot_str_zfill PySem.F.type_str_zfill mt_zfill (pe_joined1 (pe_fmtB (pv 0))) (pa_cons (pv 1) pa_nil)) pe_str)), ?_⟩
    refine ⟨_, rfl, _, rfl, ?_⟩
    cases h : (m != 0)
    · refine iteF ?_
      exact q_str k (by simp only [bne_eq_false_iff_eq] at h; simp [inBits, h])
    · refine iteT ⟨_, rfl, n, rfl, h0, Nat.le_trans hl (by decide), ?_⟩
      have h : m ≠ 0 := by simpa using h
      refine ⟨rfl, _, rfl, _, _, rfl, rfl, padOk hm0 hm, ?_⟩
      exact q_str k (by simp [inBits, h])
def spIsTold (K : PySem.W.Frag) : Sp := fun vs H Q _ => ∃ x b, vs = [x] ∧ Pl K H x b ∧ Q (.bl (within x (-32767) 32767)) H
theorem ok_is_told : FnOk P w K mg base (L2.CX P w) 3 T.is_told.a T.is_told.d ["thing"] (spIsTold K) := by
  refine T.is_told.f.okX sc_is_told (fun vs H Q E h => ?_) (fun cdv A outer s H vs Q E hr h => ?_)
  · obtain ⟨x, b, rfl, _⟩ := h
    rfl
  · obtain ⟨x, b, rfl, hp, k⟩ := h
    obtain ⟨t, hc⟩ := T.cMOST_TOLD
    refine ⟨_, pss_one (ps_ret (pe_call (ok_is_within T) hr (by rfl) T.is_within.m T.is_within.f.kp (bd_is_within T) .nil passE (pa_cons (pv 0) (pa_cons (pe_un un_neg (pe_glob (v := .int 32767) (by rfl) hc ⟨_, rfl⟩)) (pa_cons (pe_glob (v := .int 32767) (by rfl) hc ⟨_, rfl⟩) pa_nil))))), ?_⟩
    exact ⟨_, rfl, _, rfl, x, b, _, _, rfl, hp, k⟩
/-- a check: nothing, or an error of the class at C -/
def spCheck (K : PySem.W.Frag) (lo hi : Int) (C : Addr) : Sp := fun vs H Q E => ∃ x b, vs = [x] ∧ Pl K H x b ∧ (within x lo hi = true → Q .non H) ∧ (within x lo hi = false → E (.ref C) none H)
theorem iteNot {A B : Prop} {b : Bool} (h1 : b = false → A) (h2 : b = true → B) : if (!b) = true then A else B := by
  cases b
  · exact h1 rfl
  · exact h2 rfl
theorem passX {X : Cx} {E : XK} (hs : X.stack = X.env :: X.outer) (hf : X.env.frame = some X.env.locals) (hex : X.ex = []) (hx : X.xe = fun e s' => wpAny (model X.prog X.w) X.A (leaving X.env e) (fun _ s'' => L2.CX X.prog X.w X.outer X.H_0 X.s_0 E e s'') (fun e' s'' => L2.CX X.prog X.w X.outer X.H_0 X.s_0 E e' s'') s') :
    Passes (L2.CX X.prog X.w) X E := passes_call (takes_of hs hf hex hx) fun _ _ _ _ h => h
theorem ok_check_told : FnOk P w K mg base (L2.CX P w) 4 T.check_told.a T.check_told.d ["number"] (spCheck K (-32767) 32767 T.BadNumber.C) := by
  refine T.check_told.f.okX sc_check_told (fun vs H Q E h => ?_) (fun cdv A outer s H vs Q E hr h => ?_)
  · obtain ⟨x, b, rfl, _⟩ := h
    rfl
  · obtain ⟨x, b, rfl, hp, k1, k2⟩ := h
    refine ⟨_, pss_one (ps_if (pt_not (pt_val (pe_call (ok_is_told T) hr (by rfl) T.is_told.m T.is_told.f.kp (bd_is_told T) .nil passE (pa_cons (pv 0) pa_nil))))
      (pss_one (ps_raiseT rfl rfl T.BadNumber (by rfl) rfl (takes_of rfl rfl rfl rfl))) pss_nil), ?_⟩
    exact ⟨_, rfl, x, b, rfl, hp, _, rfl, iteNot k2 k1⟩
theorem ok_check_many : FnOk P w K mg base (L2.CX P w) 4 T.check_many.a T.check_many.d ["many"] (spCheck K 1 16 T.BadMany.C) := by
  refine T.check_many.f.okX sc_check_many (fun vs H Q E h => ?_) (fun cdv A outer s H vs Q E hr h => ?_)
  · obtain ⟨x, b, rfl, _⟩ := h
    rfl
  · obtain ⟨x, b, rfl, hp, k1, k2⟩ := h
    refine ⟨_, pss_one (ps_if (pt_not (pt_val (pe_call (ok_is_within T) (hr.mono (by decide)) (by rfl) T.is_within.m T.is_within.f.kp (bd_is_within T) .nil passE (pa_cons (pv 0) (pa_cons pe_int (pa_cons pe_int pa_nil))))))
      (pss_one (ps_raiseT rfl rfl T.BadMany (by rfl) rfl (takes_of rfl rfl rfl rfl))) pss_nil), ?_⟩
    exact ⟨_, rfl, x, b, _, _, rfl, hp, _, rfl, iteNot k2 k1⟩
theorem ok_check_grade : FnOk P w K mg base (L2.CX P w) 4 T.check_grade.a T.check_grade.d ["grade"] (spCheck K 0 7 T.BadGrade.C) := by
  refine T.check_grade.f.okX sc_check_grade (fun vs H Q E h => ?_) (fun cdv A outer s H vs Q E hr h => ?_)
  · obtain ⟨x, b, rfl, _⟩ := h
    rfl
  · obtain ⟨x, b, rfl, hp, k1, k2⟩ := h
    refine ⟨_, pss_one (ps_if (pt_not (pt_val (pe_call (ok_is_within T) (hr.mono (by decide)) (by rfl) T.is_within.m T.is_within.f.kp (bd_is_within T) .nil passE (pa_cons (pv 0) (pa_cons pe_int (pa_cons pe_int pa_nil))))))
      (pss_one (ps_raiseT rfl rfl T.BadGrade (by rfl) rfl (takes_of rfl rfl rfl rfl))) pss_nil), ?_⟩
    exact ⟨_, rfl, x, b, _, _, rfl, hp, _, rfl, iteNot k2 k1⟩
theorem within_int {x : V} {lo hi : Int} (h : within x lo hi = true) : ∃ i, x = .int i ∧ lo ≤ i ∧ i ≤ hi := by
  cases x with
  | int i =>
    simp only [within, Bool.and_eq_true, decide_eq_true_eq] at h
    exact ⟨i, rfl, h⟩
  | _ => cases h
def spFolded (K : PySem.W.Frag) (C : Addr) : Sp := fun vs H Q E => ∃ x b, vs = [x] ∧ Pl K H x b ∧ (∀ i, x = .int i → -32767 ≤ i → i ≤ 32767 → Q (.int (foldI i)) H) ∧ (within x (-32767) 32767 = false → E (.ref C) none H)
theorem ok_folded : FnOk P w K mg base (L2.CX P w) 5 T.folded.a T.folded.d ["number"] (spFolded K T.BadNumber.C) := by
  refine T.folded.f.okX sc_folded (fun vs H Q E h => ?_) (fun cdv A outer s H vs Q E hr h => ?_)
  · obtain ⟨x, b, rfl, _⟩ := h
    rfl
  · obtain ⟨x, b, rfl, hp, k1, k2⟩ := h
    refine ⟨_, pss_cons (ps_expr (pe_call (ok_check_told T) hr (by rfl) T.check_told.m T.check_told.f.kp (bd_check_told T) .nil (passX rfl rfl rfl rfl) (pa_cons (pv 0) pa_nil)))
      (pss_one (ps_ret (pe_call (ok_fold T) (hr.mono (by decide)) (by rfl) T.fold.m T.fold.f.kp (bd_fold T) .nil passE (pa_cons (pv 0) pa_nil)))), ?_⟩
    refine ⟨_, rfl, x, b, rfl, hp, fun e => ?_, k2⟩
    obtain ⟨i, rfl, h1, h2⟩ := within_int e
    exact ⟨_, rfl, i, rfl, k1 i rfl h1 h2⟩
def spUnfolded (K : PySem.W.Frag) (C : Addr) : Sp := fun vs H Q E => ∃ x b, vs = [x] ∧ Pl K H x b ∧ (∀ i, x = .int i → 0 ≤ i → i ≤ 65534 → Q (.int (unfoldI i)) H) ∧ (within x 0 65534 = false → E (.ref C) none H)
theorem ok_unfolded : FnOk P w K mg base (L2.CX P w) 5 T.unfolded.a T.unfolded.d ["number"] (spUnfolded K T.BadNumber.C) := by
  refine T.unfolded.f.okX sc_unfolded (fun vs H Q E h => ?_) (fun cdv A outer s H vs Q E hr h => ?_)
  · obtain ⟨x, b, rfl, _⟩ := h
    rfl
  · obtain ⟨x, b, rfl, hp, k1, k2⟩ := h
    obtain ⟨t, hc⟩ := T.cMOST_FOLDED
    refine ⟨_, pss_cons (ps_if (pt_not (pt_val (pe_call (ok_is_within T) (hr.mono (by decide)) (by rfl) T.is_within.m T.is_within.f.kp (bd_is_within T) .nil passE (pa_cons (pv 0) (pa_cons pe_int (pa_cons (pe_glob (v := .int 65534) (by rfl) hc ⟨_, rfl⟩) pa_nil))))))
      (pss_one (ps_raiseT rfl rfl T.BadNumber (by rfl) rfl (takes_of rfl rfl rfl rfl))) pss_nil)
      (pss_one (ps_ret (pe_call (ok_unfold T) (hr.mono (by decide)) (by rfl) T.unfold.m T.unfold.f.kp (bd_unfold T) .nil passE (pa_cons (pv 0) pa_nil)))), ?_⟩
    refine ⟨_, rfl, x, b, _, _, rfl, hp, _, rfl, iteNot k2 fun e => ?_⟩
    obtain ⟨i, rfl, h1, h2⟩ := within_int e
    exact ⟨_, rfl, i, rfl, k1 i rfl h1 h2⟩
end
end K01
namespace K01
open PySem PySem.Spec PyProof.Rows L2 PySem.W LamX KA
section
variable {P : Program} {w : World} {K : PySem.W.Frag} {mg : Str → Option Value} {base : Heap} (T : Top K mg)
def isStr (x : V) : Bool := match x with
  | .str _ => true
  | _ => false
theorem Pl.str? {K : PySem.W.Frag} {H : Hp} {x : V} {b : Bool} (h : Pl K H x b) : ∃ t : String, TyX K H x (.type t) ∧ kitB t "str" = some (isStr x) := by
  cases h with
  | int i => exact ⟨"int", .base (.int i), (by decide +kernel : kitB "int" "str" = some false)⟩
  | bl i => exact ⟨"bool", .base (.bl i), (by decide +kernel : kitB "bool" "str" = some false)⟩
  | str i => exact ⟨"str", .base (.str i), (by decide +kernel : kitB "str" "str" = some true)⟩
  | non => exact ⟨"NoneType", .base .non, by decide +kernel⟩
  | tup e => exact ⟨"tuple", .base (.tup e), (by decide +kernel : kitB "tuple" "str" = some false)⟩
  | lst e => exact ⟨"list", .base (.lst e), (by decide +kernel : kitB "list" "str" = some false)⟩
  | dK e => exact ⟨"dict", .base (.dK e), (by decide +kernel : kitB "dict" "str" = some false)⟩
def isBits (x : V) : Bool := match x with
  | .str s => decide (V.str (Txt.stripChars s "01") = V.str "")
  | _ => false
def spIsBits (K : PySem.W.Frag) : Sp := fun vs H Q _ => ∃ x b, vs = [x] ∧ Pl K H x b ∧ (∀ s, x = .str s → s.length ≤ 1000) ∧ Q (.bl (isBits x)) H
theorem ok_is_bits : FnOk P w K mg base (L2.CX P w) 1 T.is_bits.a T.is_bits.d ["thing"] (spIsBits K) := by
  refine T.is_bits.f.okX sc_is_bits (fun vs H Q E h => ?_) (fun cdv A outer s H vs Q E hr h => ?_)
  · obtain ⟨x, b, rfl, _⟩ := h
    rfl
  · obtain ⟨x, b, rfl, hp, hl, k⟩ := h
    refine ⟨_, pss_one (ps_ret (pe_and
      (pe_callB call_isi (by rfl) T.b_isinstance PyProof.Rows.boot_isinstance (pa_cons (pv 0) (pa_cons (pe_bltn (v := .ty "str") (by rfl) T.b_str (by decide +kernel) rfl) pa_nil)))
      (pe_one (pe_cmpR op_eq (pe_bm PySem.F.plainAttrs_str PySem.F.slot_str_strip PySem.F.type_str_strip mt_stripChars (pv 0) (pa_cons pe_str pa_nil)) pe_str (nomark _))))), ?_⟩
    obtain ⟨t, ht, h1⟩ := hp.str?
    refine ⟨_, rfl, x, _, _, _, _, rfl, .ty "str", ht, kit_ty h1, _, rfl, ?_⟩
    cases x with
    | str z => exact iteT ⟨_, rfl, rfl, _, _, rfl, rfl, Nat.le_trans (hl z rfl) (by decide), rfl, k⟩
    | _ => exact iteF k
def spFixed (K : PySem.W.Frag) (CM CN : Addr) : Sp := fun vs H Q E => ∃ x bx y «by», vs = [x, y] ∧ Pl K H x bx ∧ Pl K H y «by» ∧ (within y 1 16 = false → E (.ref CM) none H) ∧
  ∀ m : Nat, y = .int m → 1 ≤ m → m ≤ 16 → (within x 0 (2 ^ m - 1) = false → E (.ref CN) none H) ∧ ∀ n : Nat, x = .int n → n < 2 ^ m → Q (.str (twosT m n)) H
theorem pow16 {m : Nat} (h : m ≤ 16) : 2 ^ m ≤ 65536 := by
  have := Nat.pow_le_pow_right (n := 2) (by decide) h
  exact this
theorem binText_small {n : Nat} (h : n < 65536) : (binText n).length ≤ 100 := by
  rw [binText_len]
  have := binL_le 16 n (by decide) h
  omega
theorem inBits_eq {m n : Nat} (hm : 0 < m) (h : n < 2 ^ m) : inBits (n : Int) (m : Int) = twosT m n := by
  unfold inBits
  rw [if_neg (by omega), Int.natAbs_natCast]
  exact zfill_bin hm h
theorem ok_fixed_bits : FnOk P w K mg base (L2.CX P w) 5 T.fixed_bits.a T.fixed_bits.d ["number", "many"] (spFixed K T.BadMany.C T.BadNumber.C) := by
  refine T.fixed_bits.f.okX sc_fixed_bits (fun vs H Q E h => ?_) (fun cdv A outer s H vs Q E hr h => ?_)
  · obtain ⟨x, _, y, _, rfl, _⟩ := h
    rfl
  · obtain ⟨x, bx, y, yb, rfl, hx, hy, k1, k2⟩ := h
    refine ⟨_, pss_cons (ps_expr (pe_call (ok_check_many T) hr (by rfl) T.check_many.m T.check_many.f.kp (bd_check_many T) .nil (passX rfl rfl rfl rfl) (pa_cons (pv 1) pa_nil)))
      (pss_cons (ps_if (pt_not (pt_val (pe_call (ok_is_within T) (hr.mono (by decide)) (by rfl) T.is_within.m T.is_within.f.kp (bd_is_within T) .nil passE (pa_cons (pv 0) (pa_cons pe_int (pa_cons (pe_op op_sub (pe_op op_shl pe_int (pv 1)) pe_int) pa_nil))))))
        (pss_one (ps_raiseT rfl rfl T.BadNumber (by rfl) rfl (takes_of rfl rfl rfl rfl))) pss_nil)
      (pss_one (ps_ret (pe_call (ok_in_bits T) (hr.mono (by decide)) (by rfl) T.in_bits.m T.in_bits.f.kp (bd_in_bits T) .nil passE (pa_cons (pv 0) (pa_cons (pv 1) pa_nil)))))), ?_⟩
    refine ⟨_, rfl, y, yb, rfl, hy, fun e => ?_, k1⟩
    obtain ⟨i, rfl, h1, h2⟩ := within_int e
    obtain ⟨m, rfl⟩ : ∃ m : Nat, i = m := ⟨i.toNat, by omega⟩
    obtain ⟨k3, k4⟩ := k2 m rfl (by omega) (by omega)
    have hp := pow16 (m := m) (by omega)
    have e1 : (1 : Int) * 2 ^ (m : Int).toNat - 1 = 2 ^ m - 1 := by simp
    refine ⟨_, rfl, _, rfl, _, _, rfl, rfl, ⟨by omega, by omega, by decide⟩, _, _, rfl, rfl, x, bx, 0, _, rfl, hx, _, rfl, ?_⟩
    rw [show (1 : Int) * 2 ^ (m : Int).toNat - 1 = 2 ^ m - 1 from e1]
    refine iteNot k3 fun e2 => ?_
    obtain ⟨j, rfl, h3, h4⟩ := within_int e2
    obtain ⟨n, rfl⟩ : ∃ n : Nat, j = n := ⟨j.toNat, by omega⟩
    have hn : n < 2 ^ m := by
      have : ((2 ^ m : Nat) : Int) = (2 : Int) ^ m := by simp
      omega
    refine ⟨_, rfl, _, rfl, _, _, rfl, by omega, ?_, by omega, by omega, ?_⟩
    · rw [Int.natAbs_natCast]
      exact binText_small (by omega)
    · exact q_str (k4 n rfl hn) (inBits_eq (by omega) hn)
theorem cut_one {z : Str} (h : 1 ≤ z.length) : cutS z (some 1) none = ⟨(z.cps.toList.drop 1).toArray⟩ := by
  have e1 : HT.sIx z.length 0 (some 1) = 1 := (HT.sIx_nat z.length 0 1).trans (by omega)
  unfold cutS
  rw [e1, HT.sIx_none, List.take_of_length_le]
  simp [Str.length]
theorem len_app (x y : Str) : (x ++ y).length = x.length + y.length := Array.size_append
def longT (f : Nat) : Str := onesT (tailL (f + 1)).length ++ "0" ++ ⟨(tailL (f + 1)).toArray⟩
theorem foldI_nat {i : Int} (h1 : -32767 ≤ i) (h2 : i ≤ 32767) : ∃ f : Nat, foldI i = f ∧ f < 65535 := by
  refine ⟨(foldI i).toNat, ?_, ?_⟩ <;> (unfold foldI; split <;> omega)
def spLong (K : PySem.W.Frag) (C : Addr) : Sp := fun vs H Q E => ∃ x b, vs = [x] ∧ Pl K H x b ∧ (∀ i (f : Nat), x = .int i → foldI i = f → f < 65535 → Q (.str (longT f)) H) ∧ (within x (-32767) 32767 = false → E (.ref C) none H)
theorem ok_long_bits : FnOk P w K mg base (L2.CX P w) 5 T.long_bits.a T.long_bits.d ["number"] (spLong K T.BadNumber.C) := by
  refine T.long_bits.f.okX sc_long_bits (fun vs H Q E h => ?_) (fun cdv A outer s H vs Q E hr h => ?_)
  · obtain ⟨x, b, rfl, _⟩ := h
    rfl
  · obtain ⟨x, b, rfl, hp, k1, k2⟩ := h
    refine ⟨_, pss_cons (ps_expr (pe_call (ok_check_told T) hr (by rfl) T.check_told.m T.check_told.f.kp (bd_check_told T) .nil (passX rfl rfl rfl rfl) (pa_cons (pv 0) pa_nil)))
      (pss_cons (ps_set (i := 1) sc_long_bits.nd rfl (.inl rfl) (pe_joined1 (pe_fmtB (pe_op op_add (pe_call (ok_fold T) (hr.mono (by decide)) (by rfl) T.fold.m T.fold.f.kp (bd_fold T) .nil passE (pa_cons (pv 0) pa_nil)) pe_int))))
      (pss_one (ps_ret (pe_op op_add_str (pe_op op_add_str (pe_op op_mulS pe_str (pe_op op_sub (pe_callB call_len_str (by rfl) T.b_len PySem.boot_len (pa_cons (pv 1) pa_nil)) pe_int)) pe_str)
        (pe_slice sl_str (pv 1) (po_some pe_int) po_none))))), ?_⟩
    refine ⟨_, rfl, x, b, rfl, hp, fun e => ?_, k2⟩
    obtain ⟨i, rfl, h1, h2⟩ := within_int e
    obtain ⟨f, ef, hf⟩ := foldI_nat h1 h2
    have k := k1 i f rfl ef hf
    have e1 : foldI i + 1 = ((f + 1 : Nat) : Int) := by omega
    have hl : (binText (f + 1)).length ≤ 100 := binText_small (by omega)
    have e2 : (foldI i + 1).natAbs = f + 1 := by omega
    refine ⟨_, rfl, i, rfl, _, _, rfl, rfl, _, rfl, by omega, ?_, ?_⟩
    · show (binText (foldI i + 1).natAbs).length ≤ sizeLine
      rw [e2]
      exact Nat.le_trans hl (by decide)
    rw [e2]
    have e3 : (((binText (f + 1)).length : Int) - 1) = ((tailL (f + 1)).length : Nat) := by
      rw [binText_len, binL_head (f + 1) (by omega)]
      simp
    have ht : (tailL (f + 1)).length ≤ 100 := by
      have := binText_len (f + 1)
      rw [binL_head (f + 1) (by omega)] at this
      simp at this
      omega
    have e4 : Txt.mul "1" (((binText (f + 1)).length : Int) - 1) = onesT (tailL (f + 1)).length := by rw [e3, mul_ones]
    refine ⟨_, rfl, _, rfl, Nat.le_trans hl (by decide), _, _, rfl, rfl, _, _, rfl, rfl, by omega, by omega, by decide, ?_⟩
    rw [e4]
    refine ⟨_, _, rfl, rfl, ?_, _, rfl, _, rfl, _, rfl, Nat.le_trans hl (by decide), ?_⟩
    · rw [onesT_len]
      exact Nat.le_trans (Nat.add_le_add_right ht _) (by decide)
    rw [cut_one (by rw [binText_len, binL_head (f + 1) (by omega)]; simp)]
    refine ⟨_, _, rfl, rfl, ?_, k⟩
    rw [len_app, onesT_len]
    have : (⟨(List.drop 1 (binText (f + 1)).cps.toList).toArray⟩ : Str).length ≤ 100 := by
      show (List.drop 1 (binText (f + 1)).cps.toList).toArray.size ≤ 100
      simp
      have : (binText (f + 1)).length = (binText (f + 1)).cps.size := rfl
      omega
    have e : ("0" : Str).length = 1 := rfl
    refine Nat.le_trans (Nat.add_le_add (Nat.add_le_add_right ht _) this) ?_
    rw [e]
    decide
def gradeT (f g : Nat) : Str := if 12 ≤ f / 2 ^ g then onesT 12 ++ twosT 16 f else onesT (f / 2 ^ g) ++ "0" ++ twosT g (f % 2 ^ g)
theorem twosT_len (m n : Nat) : (twosT m n).length = m := by
  show ((bitsL m n).toArray).size = m
  simp [bitsL_len]
def spGrade (K : PySem.W.Frag) (CN CG : Addr) : Sp := fun vs H Q E => ∃ x b y yb, vs = [x, y] ∧ Pl K H x b ∧ Pl K H y yb ∧ (within x (-32767) 32767 = false → E (.ref CN) none H) ∧
  ∀ i (f : Nat), x = .int i → foldI i = f → f < 65535 → (within y 0 7 = false → E (.ref CG) none H) ∧ ∀ g : Nat, y = .int g → g ≤ 7 → Q (.str (gradeT f g)) H
theorem ok_grade_bits : FnOk P w K mg base (L2.CX P w) 5 T.grade_bits.a T.grade_bits.d ["number", "grade"] (spGrade K T.BadNumber.C T.BadGrade.C) := by
  refine T.grade_bits.f.okX sc_grade_bits (fun vs H Q E h => ?_) (fun cdv A outer s H vs Q E hr h => ?_)
  · obtain ⟨x, b, y, yb, rfl, _⟩ := h
    rfl
  · obtain ⟨x, b, y, yb, rfl, hp, hy, k2, k1⟩ := h
    obtain ⟨t1, hc1⟩ := T.cONES_OF_GRADE
    obtain ⟨t2, hc2⟩ := T.cBITS_BEHIND_ONES
    refine ⟨_, pss_cons (ps_expr (pe_call (ok_check_told T) hr (by rfl) T.check_told.m T.check_told.f.kp (bd_check_told T) .nil (passX rfl rfl rfl rfl) (pa_cons (pv 0) pa_nil)))
      (pss_cons (ps_expr (pe_call (ok_check_grade T) hr (by rfl) T.check_grade.m T.check_grade.f.kp (bd_check_grade T) .nil (passX rfl rfl rfl rfl) (pa_cons (pv 1) pa_nil)))
      (pss_cons (ps_set (i := 2) sc_grade_bits.nd rfl (.inl rfl) (pe_call (ok_fold T) (hr.mono (by decide)) (by rfl) T.fold.m T.fold.f.kp (bd_fold T) .nil passE (pa_cons (pv 0) pa_nil)))
      (pss_cons (ps_set (i := 3) sc_grade_bits.nd rfl (.inl rfl) (pe_op op_shr (pv 2) (pv 1)))
      (pss_cons (ps_if (pt_cmpR op_ge (pv 3) (pe_glob (v := .int 12) (by rfl) hc1 ⟨_, rfl⟩) (nomark _))
        (pss_one (ps_ret (pe_op op_add_str (pe_op op_mulS pe_str (pe_glob (v := .int 12) (by rfl) hc1 ⟨_, rfl⟩)) (pe_call (ok_in_bits T) (hr.mono (by decide)) (by rfl) T.in_bits.m T.in_bits.f.kp (bd_in_bits T) .nil passE (pa_cons (pv 2) (pa_cons (pe_glob (v := .int 16) (by rfl) hc2 ⟨_, rfl⟩) pa_nil)))))) pss_nil)
      (pss_one (ps_ret (pe_op op_add_str (pe_op op_add_str (pe_op op_mulS pe_str (pv 3)) pe_str)
        (pe_call (ok_in_bits T) (hr.mono (by decide)) (by rfl) T.in_bits.m T.in_bits.f.kp (bd_in_bits T) .nil passE (pa_cons (pe_op op_sub (pv 2) (pe_op op_shl (pv 3) (pv 1))) (pa_cons (pv 1) pa_nil)))))))))), ?_⟩
    refine ⟨_, rfl, x, b, rfl, hp, fun e => ?_, k2⟩
    obtain ⟨i, rfl, h1, h2⟩ := within_int e
    obtain ⟨f, ef, hf⟩ := foldI_nat h1 h2
    obtain ⟨k3, k4⟩ := k1 i f rfl ef hf
    refine ⟨_, rfl, y, yb, rfl, hy, fun e2 => ?_, k3⟩
    obtain ⟨j, rfl, h3, h4⟩ := within_int e2
    obtain ⟨g, rfl⟩ : ∃ g : Nat, j = g := ⟨j.toNat, by omega⟩
    have k := k4 g rfl (by omega)
    have hg := pow16 (m := g) (by omega)
    have hp0 : 0 < 2 ^ g := Nat.pow_pos (by decide)
    have ed : (f : Int) / 2 ^ (g : Int).toNat = ((f / 2 ^ g : Nat) : Int) := by
      rw [Int.toNat_natCast, Int.natCast_ediv, Int.natCast_pow]
      rfl
    refine ⟨_, rfl, i, rfl, _, rfl, _, rfl, _, _, rfl, rfl, by omega, _, rfl, _, _, rfl, rfl, _, rfl, ?_⟩
    dsimp only
    rw [ef, ed]
    have hq : f / 2 ^ g ≤ f := Nat.div_le_self _ _
    have eG : gradeT f g = if 12 ≤ f / 2 ^ g then onesT 12 ++ twosT 16 f else onesT (f / 2 ^ g) ++ "0" ++ twosT g (f % 2 ^ g) := rfl
    have em : (f : Int) - ((f / 2 ^ g : Nat) : Int) * 2 ^ (g : Int).toNat = ((f % 2 ^ g : Nat) : Int) := by
      rw [Int.toNat_natCast]
      have := Nat.div_add_mod f (2 ^ g)
      have e5 : ((2 : Int) ^ g) = ((2 ^ g : Nat) : Int) := by simp
      rw [e5, ← Int.natCast_mul, Nat.mul_comm]
      omega
    have hm : f % 2 ^ g < 2 ^ g := Nat.mod_lt _ hp0
    generalize f / 2 ^ g = q at hq eG em ⊢
    generalize f % 2 ^ g = m at eG em hm
    clear ed
    by_cases h : 12 ≤ q
    · rw [show decide ((12 : Int) ≤ ((q : Nat) : Int)) = true from decide_eq_true (by omega)]
      refine iteT ?_
      refine ⟨_, _, rfl, rfl, by decide, by decide, by decide, _, rfl, _, _, rfl, by omega, ?_, by decide, by decide, ?_⟩
      · rw [Int.natAbs_natCast]
        exact binText_small (by omega)
      · rw [show Txt.mul "1" 12 = onesT 12 from mul_ones 12, show inBits (f : Int) 16 = twosT 16 f from inBits_eq (m := 16) (by decide) (by omega)]
        refine ⟨_, _, rfl, rfl, ?_, ?_⟩
        · rw [onesT_len, twosT_len]
          decide
        · exact q_str k (by rw [eG, if_pos h])
    · rw [show decide ((12 : Int) ≤ ((q : Nat) : Int)) = false from decide_eq_false (by omega)]
      refine iteF ?_
      refine ⟨_, rfl, _, _, rfl, rfl, by omega, by omega, by decide, ?_⟩
      rw [mul_ones]
      refine ⟨_, _, rfl, rfl, ?_, _, rfl, _, rfl, _, rfl, _, _, rfl, rfl, ⟨by omega, by omega, by omega⟩, _, _, rfl, rfl, _, rfl, ?_⟩
      · rw [onesT_len]
        refine Nat.le_trans (Nat.add_le_add_right (show q ≤ 12 by omega) _) (by decide)
      dsimp only
      rw [em]
      refine ⟨_, _, rfl, by omega, ?_, by omega, by omega, ?_⟩
      · rw [Int.natAbs_natCast]
        exact binText_small (by omega)
      · have ei : inBits ((m : Nat) : Int) (g : Int) = twosT g (m) := by
          rcases Nat.eq_zero_or_pos g with z | z
          · subst z
            rfl
          · exact inBits_eq z hm
        rw [ei]
        refine ⟨_, _, rfl, rfl, ?_, ?_⟩
        · rw [len_app, onesT_len, twosT_len]
          refine Nat.le_trans (Nat.add_le_add (Nat.add_le_add_right (show q ≤ 12 by omega) _) (show g ≤ 7 by omega)) (by decide)
        · exact q_str k (by rw [eG, if_neg h])
end
end K01
namespace K01
open PySem PySem.Spec PyProof.Rows L2 PySem.W LamX KA
section
variable {P : Program} {w : World} {K : PySem.W.Frag} {mg : Str → Option Value} {base : Heap} (T : Top K mg)
def spTwo : Sp := fun vs H Q _ => ∃ n : Nat, vs = [.int n] ∧ n ≤ 1000 ∧ Q (.int ((2 ^ n : Nat) : Int)) H
theorem ok_two : FnOk P w K mg base (L2.CX P w) 1 T._law_two.a T._law_two.d ["size_here"] spTwo := by
  refine T._law_two.f.okX sc__law_two (fun vs H Q E h => ?_) (fun cdv A outer s H vs Q E hr h => ?_)
  · obtain ⟨n, rfl, _⟩ := h
    rfl
  · obtain ⟨n, rfl, hn, k⟩ := h
    refine ⟨_, pss_cons (ps_set (i := 1) sc__law_two.nd rfl (.inl rfl) pe_int)
      (pss_cons (ps_for (passes_of rfl) rfl (pi_range1 (by rfl) T.b_range (pa_cons (pv 0) pa_nil)) (pg_name (i := 2) sc__law_two.nd rfl (.inl rfl))
        (pss_one (ps_set (i := 1) sc__law_two.nd rfl (.inl rfl) (pe_op op_mul (pv 1) pe_int))))
      (pss_one (ps_ret (pv 1)))), ?_⟩
    refine ⟨_, rfl, _, rfl, by omega, by omega, for_range (n := (n : Int).toNat) (fun i σ H' => H' = H ∧ ∃ v, σ = [some (.int n), some (.int ((2 ^ i : Nat) : Int)), v]) ⟨rfl, none, rfl⟩ ?_ ?_⟩
    · rintro i σ H' hi ⟨rfl, v, rfl⟩
      refine ⟨_, rfl, _, _, rfl, rfl, .inr ⟨by decide, by decide⟩, rfl, some (.int (0 + i)), ?_⟩
      simp [Nat.pow_succ]
    · rintro σ H' ⟨rfl, v, rfl⟩
      exact ⟨_, rfl, q_int k (by rw [Int.toNat_natCast])⟩
theorem ok_lfold : FnOk P w K mg base (L2.CX P w) 1 T._law_fold.a T._law_fold.d ["item"] spFold := by
  refine T._law_fold.f.okX sc__law_fold (fun vs H Q E h => ?_) (fun cdv A outer s H vs Q E hr h => ?_)
  · obtain ⟨i, rfl, _⟩ := h
    rfl
  · obtain ⟨i, rfl, k⟩ := h
    refine ⟨_, pss_one (ps_ret (pe_ifExp (pt_cmpR op_gt (pv 0) pe_int (nomark _)) (pe_op op_sub (pe_op op_mul pe_int (pv 0)) pe_int) (pe_op op_sub pe_int (pe_op op_mul pe_int (pv 0))))), ?_⟩
    refine ⟨_, rfl, _, _, rfl, rfl, _, rfl, ?_⟩
    by_cases h : i > 0
    · rw [show decide ((0 : Int) < i) = true from decide_eq_true h]
      refine iteT ⟨_, rfl, _, _, rfl, rfl, .inl ⟨by decide, by decide⟩, _, _, rfl, rfl, ?_⟩
      exact q_int k (by simp [foldI, h])
    · rw [show decide ((0 : Int) < i) = false from decide_eq_false h]
      refine iteF ⟨_, rfl, _, _, rfl, rfl, .inl ⟨by decide, by decide⟩, _, _, rfl, rfl, ?_⟩
      exact q_int k (by simp [foldI, h]; omega)
theorem bitsL_front : ∀ (k n : Nat), bitsL (k + 1) n = (48 + (n / 2 ^ k) % 2) :: bitsL k n
  | 0, n => by simp [bitsL]
  | k + 1, n => by
    rw [bitsL, bitsL_front k (n / 2), Nat.div_div_eq_div_mul, ← Nat.pow_succ']
    simp [bitsL]
theorem bit_str (n : Nat) : (Str.ofString (toString ((n : Int) % 2)) : Str) = ⟨#[48 + n % 2]⟩ := by
  have h : (n : Int) % 2 = 0 ∧ n % 2 = 0 ∨ (n : Int) % 2 = 1 ∧ n % 2 = 1 := by omega
  rcases h with ⟨e1, e2⟩ | ⟨e1, e2⟩
  · rw [e1, e2]
    rfl
  · rw [e1, e2]
    rfl
theorem bit_log (n : Nat) : ((n : Int) % 2).natAbs.log2 < 1920 := by
  have h : (n : Int) % 2 = 0 ∨ (n : Int) % 2 = 1 := by omega
  rcases h with e | e <;> rw [e] <;> decide
theorem cons_str (d : Nat) (l : List Nat) : ((⟨#[d]⟩ : Str) ++ ⟨l.toArray⟩) = ⟨(d :: l).toArray⟩ := by
  show (⟨#[d] ++ l.toArray⟩ : Str) = _
  congr 1
  apply Array.toList_inj.mp
  simp
def spTwos : Sp := fun vs H Q _ => ∃ n m : Nat, vs = [.int n, .int m] ∧ m ≤ 100 ∧ Q (.str (twosT m n)) H
theorem ok_twos : FnOk P w K mg base (L2.CX P w) 1 T._law_twos.a T._law_twos.d ["item", "size_here"] spTwos := by
  refine T._law_twos.f.okX sc__law_twos (fun vs H Q E h => ?_) (fun cdv A outer s H vs Q E hr h => ?_)
  · obtain ⟨n, m, rfl, _⟩ := h
    rfl
  · obtain ⟨n, m, rfl, hm, k⟩ := h
    refine ⟨_, pss_cons (ps_set (i := 2) sc__law_twos.nd rfl (.inl rfl) pe_str)
      (pss_cons (ps_for (passes_of rfl) rfl (pi_range1 (by rfl) T.b_range (pa_cons (pv 1) pa_nil)) (pg_name (i := 3) sc__law_twos.nd rfl (.inl rfl))
        (pss_cons (ps_set (i := 2) sc__law_twos.nd rfl (.inl rfl) (pe_op op_add_str (pe_callTy call_str_int (by rfl) T.b_str (by decide +kernel) (pa_cons (pe_op op_mod (pe_callTy call_int1 (by rfl) T.b_int PyProof.Rows.boot_int (pa_cons (pv 0) pa_nil)) pe_int) pa_nil)) (pv 2)))
        (pss_one (ps_set (i := 0) sc__law_twos.nd rfl (.inl rfl) (pe_op op_fdiv (pv 0) pe_int)))))
      (pss_one (ps_ret (pv 2)))), ?_⟩
    refine ⟨_, rfl, _, rfl, by omega, by omega, for_range (n := (m : Int).toNat) (fun i σ H' => H' = H ∧ ∃ v, σ = [some (.int ((n / 2 ^ i : Nat) : Int)), some (.int m), some (.str ⟨(bitsL i n).toArray⟩), v]) ⟨rfl, none, by simp; rfl⟩ ?_ ?_⟩
    · rintro i σ H' hi ⟨rfl, v, rfl⟩
      rw [Int.toNat_natCast] at hi
      refine ⟨_, rfl, .inl ⟨_, rfl, _, _, rfl, rfl, (by show (0 : Int) < 2; decide), _, rfl, bit_log _, _, rfl, ?_⟩⟩
      rw [bit_str]
      refine ⟨_, _, rfl, rfl, ?_, _, rfl, _, _, rfl, rfl, ⟨by decide, by decide⟩, rfl, some (.int (0 + i)), ?_⟩
      · show 1 + (bitsL i n).toArray.size ≤ sizeLine
        rw [List.size_toArray, bitsL_len]
        exact Nat.le_trans (show 1 + i ≤ 200 by omega) (by decide)
      · rw [cons_str, ← bitsL_front]
        have e : (((n / 2 ^ i : Nat) : Int) / 2) = ((n / 2 ^ (i + 1) : Nat) : Int) := by
          rw [Nat.pow_succ, ← Nat.div_div_eq_div_mul]
          omega
        show [some (V.int (((n / 2 ^ i : Nat) : Int) / 2)), some (V.int m), some (V.str _), some _] = _
        rw [e]
    · rintro σ H' ⟨rfl, v, rfl⟩
      exact ⟨_, rfl, q_str k (by rw [Int.toNat_natCast]; rfl)⟩
def spLLong : Sp := fun vs H Q _ => ∃ (i : Int) (f : Nat), vs = [.int i] ∧ foldI i = f ∧ f < 65535 ∧ Q (.str (longT f)) H
theorem tail_small {f : Nat} (h : f < 65536) : (tailL f).length ≤ 16 := by
  rcases Nat.eq_zero_or_pos f with z | z
  · subst z
    decide
  · have := binL_le 16 f (by decide) h
    rw [binL_head f z] at this
    simp at this
    omega
theorem ok_llong : FnOk P w K mg base (L2.CX P w) 2 T._law_long.a T._law_long.d ["item"] spLLong := by
  refine T._law_long.f.okX sc__law_long (fun vs H Q E h => ?_) (fun cdv A outer s H vs Q E hr h => ?_)
  · obtain ⟨i, f, rfl, _⟩ := h
    rfl
  · obtain ⟨i, f, rfl, ef, hf, k⟩ := h
    refine ⟨_, pss_cons (ps_par (i := 1) (j := 2) rfl sc__law_long.nd rfl rfl (by decide) rfl rfl (pa_cons (pe_op op_add (pe_call (ok_lfold T) hr (by rfl) T._law_fold.m T._law_fold.f.kp (bd__law_fold T) .nil passE (pa_cons (pv 0) pa_nil)) pe_int) (pa_cons pe_str pa_nil)) (by rfl))
      (pss_cons (ps_while (passes_of rfl) (pt_cmpR op_gt (pv 1) pe_int (nomark _))
        (pss_cons (ps_set (i := 2) sc__law_long.nd rfl (.inl rfl) (pe_op op_add_str (pe_callTy call_str_int (by rfl) T.b_str (by decide +kernel) (pa_cons (pe_op op_mod (pe_callTy call_int1 (by rfl) T.b_int PyProof.Rows.boot_int (pa_cons (pv 1) pa_nil)) pe_int) pa_nil)) (pv 2)))
        (pss_one (ps_set (i := 1) sc__law_long.nd rfl (.inl rfl) (pe_op op_fdiv (pv 1) pe_int)))))
      (pss_one (ps_ret (pe_op op_add_str (pe_op op_add_str (pe_op op_mulS pe_str (pe_callB call_len_str (by rfl) T.b_len PySem.boot_len (pa_cons (pv 2) pa_nil))) pe_str) (pv 2))))), ?_⟩
    refine ⟨_, rfl, i, rfl, _, _, rfl, rfl, _, _, rfl, ?_⟩
    rw [ef]
    refine ⟨fun m σ H' => H' = H ∧ ∃ (t : Nat) (L : List Nat), t = m ∧ 1 ≤ t ∧ t ≤ f + 1 ∧ tailL (f + 1) = tailL t ++ L ∧ σ = [some (.int i), some (.int (t : Int)), some (.str ⟨L.toArray⟩)], ⟨f + 1, rfl, f + 1, [], rfl, by omega, by omega, by simp, rfl⟩, ?_⟩
    rintro m σ H' ⟨rfl, t, L, rfl, h1, h2, hL, rfl⟩
    have hlen := tail_small (f := f + 1) (by omega)
    have hLL : L.length ≤ 16 := by
      have := congrArg List.length hL
      rw [List.length_append] at this
      omega
    refine ⟨_, rfl, _, _, rfl, rfl, _, rfl, ?_⟩
    by_cases c : 1 < t
    · rw [show decide ((1 : Int) < (t : Int)) = true from decide_eq_true (by omega)]
      refine iteT ⟨fun σ' H'' => H'' = H' ∧ ∃ L', tailL (f + 1) = tailL (t / 2) ++ L' ∧ σ' = [some (.int i), some (.int ((t / 2 : Nat) : Int)), some (.str ⟨L'.toArray⟩)], fun σ' H'' ⟨e1, L', e2, e3⟩ => ⟨t / 2, by omega, e1, t / 2, L', rfl, by omega, by omega, e2, e3⟩, ?_⟩
      refine ⟨_, rfl, .inl ⟨_, rfl, _, _, rfl, rfl, (by show (0 : Int) < 2; decide), _, rfl, bit_log _, _, rfl, ?_⟩⟩
      rw [bit_str]
      refine ⟨_, _, rfl, rfl, ?_, _, rfl, _, _, rfl, rfl, ⟨by decide, by decide⟩, rfl, (48 + t % 2) :: L, ?_, ?_⟩
      · show 1 + L.toArray.size ≤ sizeLine
        rw [List.size_toArray]
        exact Nat.le_trans (show 1 + L.length ≤ 200 by omega) (by decide)
      · rw [hL, tailL_ge (by omega)]
        simp
      · rw [cons_str]
        show [some (V.int i), some (V.int ((t : Int) / 2)), some _] = _
        rw [show ((t : Int) / 2) = ((t / 2 : Nat) : Int) by omega]
    · rw [show decide ((1 : Int) < (t : Int)) = false from decide_eq_false (by omega)]
      have e : t = 1 := by omega
      subst e
      rw [show tailL 1 = [] from rfl, List.nil_append] at hL
      refine iteF ?_
      refine ⟨_, rfl, _, rfl, ?_, _, _, rfl, rfl, by omega, ?_, by decide, ?_⟩
      · show L.toArray.size ≤ sizeLine
        rw [List.size_toArray]
        exact Nat.le_trans hLL (by decide)
      · show ((L.toArray.size : Nat) : Int) ≤ 1000
        rw [List.size_toArray]
        omega
      · rw [show (((⟨L.toArray⟩ : Str).length : Nat) : Int) = ((L.length : Nat) : Int) by simp [Str.length], mul_ones]
        refine ⟨_, _, rfl, rfl, ?_, _, rfl, _, _, rfl, rfl, ?_, ?_⟩
        · rw [onesT_len]
          exact Nat.le_trans (Nat.add_le_add_right hLL _) (by decide)
        · rw [len_app, onesT_len]
          show L.length + 1 + L.toArray.size ≤ _
          rw [List.size_toArray]
          exact Nat.le_trans (show L.length + 1 + L.length ≤ 200 by omega) (by decide)
        · exact q_str k (by unfold longT; rw [hL])
def spLGraded : Sp := fun vs H Q _ => ∃ (i : Int) (f g : Nat), vs = [.int i, .int g] ∧ foldI i = f ∧ f < 65535 ∧ g ≤ 7 ∧ Q (.str (gradeT f g)) H
theorem ok_lgraded : FnOk P w K mg base (L2.CX P w) 2 T._law_graded.a T._law_graded.d ["item", "rung"] spLGraded := by
  refine T._law_graded.f.okX sc__law_graded (fun vs H Q E h => ?_) (fun cdv A outer s H vs Q E hr h => ?_)
  · obtain ⟨i, f, g, rfl, _⟩ := h
    rfl
  · obtain ⟨i, f, g, rfl, ef, hf, hg, k⟩ := h
    refine ⟨_, pss_cons (ps_set (i := 2) sc__law_graded.nd rfl (.inl rfl) (pe_call (ok_lfold T) hr (by rfl) T._law_fold.m T._law_fold.f.kp (bd__law_fold T) .nil passE (pa_cons (pv 0) pa_nil)))
      (pss_cons (ps_set (i := 3) sc__law_graded.nd rfl (.inl rfl) (pe_op op_fdiv (pv 2) (pe_call (ok_two T) hr (by rfl) T._law_two.m T._law_two.f.kp (bd__law_two T) .nil passE (pa_cons (pv 1) pa_nil))))
      (pss_cons (ps_if (pt_cmpR op_lt (pv 3) pe_int (nomark _))
        (pss_one (ps_ret (pe_op op_add_str (pe_op op_add_str (pe_op op_mulS pe_str (pv 3)) pe_str)
          (pe_call (ok_twos T) hr (by rfl) T._law_twos.m T._law_twos.f.kp (bd__law_twos T) .nil passE (pa_cons (pe_op op_mod (pe_callTy call_int1 (by rfl) T.b_int PyProof.Rows.boot_int (pa_cons (pv 2) pa_nil)) (pe_call (ok_two T) hr (by rfl) T._law_two.m T._law_two.f.kp (bd__law_two T) .nil passE (pa_cons (pv 1) pa_nil))) (pa_cons (pv 1) pa_nil)))))) pss_nil)
      (pss_one (ps_ret (pe_op op_add_str (pe_op op_mulS pe_str pe_int) (pe_call (ok_twos T) hr (by rfl) T._law_twos.m T._law_twos.f.kp (bd__law_twos T) .nil passE (pa_cons (pv 2) (pa_cons pe_int pa_nil)))))))), ?_⟩
    refine ⟨_, rfl, i, rfl, ?_⟩
    rw [ef]
    have hp0 : 0 < 2 ^ g := Nat.pow_pos (by decide)
    have hp1 : 2 ^ g ≤ 128 := by
      have := Nat.pow_le_pow_right (n := 2) (by decide) hg
      exact this
    have hq : f / 2 ^ g ≤ f := Nat.div_le_self _ _
    refine ⟨_, rfl, _, rfl, g, rfl, by omega, _, _, rfl, rfl, ⟨by omega, by omega⟩, ?_⟩
    dsimp only
    rw [show ((f : Int) / ((2 ^ g : Nat) : Int)) = ((f / 2 ^ g : Nat) : Int) from (Int.natCast_ediv _ _).symm]
    have eG : gradeT f g = if 12 ≤ f / 2 ^ g then onesT 12 ++ twosT 16 f else onesT (f / 2 ^ g) ++ "0" ++ twosT g (f % 2 ^ g) := rfl
    have em : ((f : Int) % ((2 ^ g : Nat) : Int)) = ((f % 2 ^ g : Nat) : Int) := (Int.natCast_emod _ _).symm
    generalize f / 2 ^ g = q at hq eG ⊢
    refine ⟨_, rfl, _, _, rfl, rfl, _, rfl, ?_⟩
    by_cases c : 12 ≤ q
    · rw [show decide ((q : Int) < 12) = false from decide_eq_false (by omega)]
      refine iteF ⟨_, _, rfl, rfl, by decide, by decide, by decide, _, rfl, f, 16, rfl, by decide, ?_⟩
      rw [show Txt.mul "1" 12 = onesT 12 from mul_ones 12]
      refine ⟨_, _, rfl, rfl, ?_, q_str k (by rw [eG, if_pos c])⟩
      rw [onesT_len, twosT_len]
      decide
    · rw [show decide ((q : Int) < 12) = true from decide_eq_true (by omega)]
      refine iteT ⟨_, rfl, _, _, rfl, rfl, by omega, by omega, by decide, ?_⟩
      rw [mul_ones]
      refine ⟨_, _, rfl, rfl, ?_, _, rfl, .inl ⟨_, rfl, _, rfl, g, rfl, by omega, _, _, rfl, rfl, (by show (0 : Int) < _; omega), _, rfl, ?_⟩⟩
      · rw [onesT_len]
        exact Nat.le_trans (Nat.add_le_add_right (show q ≤ 12 by omega) _) (by decide)
      dsimp only
      rw [em]
      refine ⟨_, g, rfl, by omega, _, _, rfl, rfl, ?_, q_str k (by rw [eG, if_neg c])⟩
      rw [len_app, onesT_len, twosT_len]
      exact Nat.le_trans (Nat.add_le_add (Nat.add_le_add_right (show q ≤ 12 by omega) _) (show g ≤ 7 by omega)) (by decide)
end
end K01
namespace K01
open PySem PySem.Spec PyProof.Rows L2 PySem.W LamX KA
open Evl (pss_cut tCut)
def spDraw : Sp := fun vs H Q _ => ∃ (st lg cl : Addr) (n m : Nat), vs = [.ref st, .int n] ∧ 0 < n ∧ n < 2 ^ 100 ∧ m ≤ 1000000 ∧ StAt H st lg cl m ∧
  ∀ (r : Nat) (H' : Hp), r < n → StAt H' st lg cl (m + 1) → Kp st lg H H' → Q (.int r) H'
section
variable {P : Program} {w : World} {K : PySem.W.Frag} {mg : Str → Option Value} {base : Heap} (T : Top K mg)
theorem draw_div {n : Nat} (h0 : 0 < n) (h : n < 2 ^ 100) {i : Int} : CDivW i (n : Int) := wide_div (b := 100) (by omega) (by simpa using h) (by decide) (by decide)
theorem ok_draw : FnOk P w K mg base (L2.CX P w) 1 T._law_draw.a T._law_draw.d ["state", "size_here"] spDraw := by
  refine T._law_draw.f.okX sc__law_draw (fun vs H Q E h => ?_) (fun cdv A outer s H vs Q E hr h => ?_)
  · obtain ⟨st, lg, cl, n, m, rfl, _⟩ := h
    rfl
  · obtain ⟨st, lg, cl, n, m, rfl, hn, hn2, hm, ⟨large, cells, left, turn, S, ht⟩, k⟩ := h
    have hu := hu_of hr
    refine ⟨_, pss_cut (ps_while (passes_of rfl) (PW.pt (pw_and (pt_cmpR op_eq (pe_dget hu (pv 0) pe_str (fun _ _ => rfl)) pe_int (nomark _)) (pw_and1 (pt_cmpR (op_neD hr.units) (pe_dget hu (pv 0) pe_str (fun _ _ => rfl)) (pe_lst pa_nil) (nomark _)))))
        (pss_one (ps_dput hu (pv 0) pe_str (pe_bm PySem.F.plainAttrs_list PySem.F.slot_list_pop PySem.F.type_list_pop mt_popAt (pe_dget hu (pv 0) pe_str (fun _ _ => rfl)) (pa_cons pe_int pa_nil)) rfl)))
      (pss_cons (ps_if (pt_cmpR op_gt (pe_dget hu (pv 0) pe_str (fun _ _ => rfl)) pe_int (nomark _))
        (pss_cons (ps_set (i := 2) sc__law_draw.nd rfl (.inl rfl) (pe_op op_mod (pe_callTy call_int1 (by rfl) T.b_int PyProof.Rows.boot_int (pa_cons (pe_dget hu (pv 0) pe_str (fun _ _ => rfl)) pa_nil)) (pv 1)))
        (pss_cons (ps_dput hu (pv 0) pe_str (pe_op op_fdivW (pe_dget hu (pv 0) pe_str (fun _ _ => rfl)) (pv 1)) rfl)
        (pss_one (ps_ret (pv 2))))) pss_nil)
      (pss_cons (ps_set (i := 3) sc__law_draw.nd rfl (.inl rfl) (pe_op op_add (pe_dget hu (pv 0) pe_str (fun _ _ => rfl)) pe_int))
      (pss_cons (ps_dput hu (pv 0) pe_str (pv 3) rfl)
      (pss_cut (ps_set (i := 4) sc__law_draw.nd rfl (.inl rfl) (pe_ifExp (pt_cmpR (op_neD hr.units) (pe_dget hu (pv 0) pe_str (fun _ _ => rfl)) (pe_lst pa_nil) (nomark _))
        (pe_ix ix_list (pe_dget hu (pv 0) pe_str (fun _ _ => rfl)) (pe_op op_mod (pe_callTy call_int1 (by rfl) T.b_int PyProof.Rows.boot_int (pa_cons (pv 3) pa_nil)) (pe_callB call_len_seq (by rfl) T.b_len PySem.boot_len (pa_cons (pe_dget hu (pv 0) pe_str (fun _ _ => rfl)) pa_nil))) (fun _ _ => rfl))
        pe_int))
      (pss_cons (ps_set (i := 5) sc__law_draw.nd rfl (.inl rfl) (pe_op op_mod (pe_callTy call_int1 (by rfl) T.b_int PyProof.Rows.boot_int (pa_cons (pe_op op_pow (pe_op op_add (pe_op op_add (pe_op op_mod (pe_callTy call_int1 (by rfl) T.b_int PyProof.Rows.boot_int (pa_cons (pv 4) pa_nil)) pe_int) (pe_op op_mul pe_int (pv 3))) pe_int) pe_int) pa_nil)) pe_int))
      (pss_one (ps_ret (pe_op op_mod (pe_callTy call_int1 (by rfl) T.b_int PyProof.Rows.boot_int (pa_cons (pe_op op_fdiv (pe_op op_mod (pe_callTy call_int1 (by rfl) T.b_int PyProof.Rows.boot_int (pa_cons (pe_op op_pow (pe_op op_add (pv 5) (pe_op op_mul pe_int (pv 3))) pe_int) pa_nil)) pe_int) pe_int) pa_nil)) (pv 1))))))))), ?_⟩
    -- the while
    refine ⟨fun σ' H' => σ' = [some (.ref st), some (.int n), none, none, none, none] ∧ ∃ large' left', StD H' st lg cl large' cells left' turn ∧ Kp st lg H H', ?_, ?_⟩
    · refine ⟨fun μ σ' H' => σ' = [some (.ref st), some (.int n), none, none, none, none] ∧ ∃ large' left', large'.length = μ ∧ StD H' st lg cl large' cells left' turn ∧ Kp st lg H H',
        ⟨large.length, rfl, large, left, rfl, S, Kp.refl⟩, ?_⟩
      rintro μ σ' H1 ⟨rfl, large', left', hμ, S1, kp1⟩
      refine ⟨_, rfl, st, _, rfl, (show DGet H1 st (kV kLeft) _ from st_left ▸ DGet.k S1.d), rfl, _, rfl, ?_⟩
      by_cases c1 : left' = 0
      · subst c1
        refine iteT ⟨_, rfl, st, _, rfl, (show DGet H1 st (kV kLarge) _ from st_large ▸ DGet.k S1.d), by decide, fun p hp => ?_⟩
        have S2 := S1.same (Same.new (o := .lst []) hp)
        have kp2 := kp1.trans (Kp.same (Same.new (o := .lst []) hp))
        refine ⟨_, _, dp_int_list S2.l, dp_nil upd_same, shaped_is _, shaped_nil, _, rfl, ?_⟩
        rw [eqv_ints_nil]
        cases large' with
        | nil => exact iteF ⟨rfl, [], 0, S2, kp2⟩
        | cons x rest =>
          refine iteT ⟨fun σ' H' => σ' = [some (.ref st), some (.int n), none, none, none, none] ∧ ∃ large' left', large'.length = rest.length ∧ StD H' st lg cl large' cells left' turn ∧ Kp st lg H H',
            fun σ' H' ⟨e, l', lf, e2, r⟩ => ⟨rest.length, by rw [← hμ]; exact Nat.lt_succ_self _, e, l', lf, e2, r⟩, ?_⟩
          refine ⟨_, rfl, st, .ref lg, rfl, (show DGet _ st (kV kLarge) _ from st_large ▸ DGet.k S2.d), .inl ⟨rfl, _, SqL.of S2.l⟩, lg, _, 0, 0, .int x, rfl, rfl, S2.l, by decide, by decide, by simp [seqIndex?], rfl, ?_⟩
          have S3 : StD (upd (upd H1 p (.lst [])) lg (.lst (rest.map V.int))) st lg cl rest cells 0 turn :=
            { d := (upd_ne S2.st_lg).trans S2.d, l := upd_same, c := (upd_ne S2.ne.symm).trans S2.c, ne := S2.ne, pl := fun y hy => S2.pl y (List.mem_cons_of_mem _ hy), p0 := S2.p0 }
          have hx : 0 ≤ x := S2.pl x List.mem_cons_self
          refine ⟨_, rfl, st, _, rfl, (show DPut _ st (kV kLeft) _ _ from DPut.k S3.d (by show 4 < sizeLine; decide)), ?_⟩
          rw [st_put_left]
          exact ⟨rfl, rest, x, rfl, S3.put hx, (kp2.trans Kp.put2).trans Kp.put⟩
      · rw [show decide (V.int left' = V.int 0) = false from decide_eq_false fun z => c1 (V.int.inj z)]
        exact iteF ⟨rfl, large', left', S1, kp1⟩
    · rintro σ' H1 ⟨rfl, large', left', S1, kp1⟩
      refine ⟨_, rfl, st, _, rfl, (show DGet H1 st (kV kLeft) _ from st_left ▸ DGet.k S1.d), _, _, rfl, rfl, _, rfl, ?_⟩
      by_cases c1 : 0 < left'
      · rw [show decide ((0 : Int) < left') = true from decide_eq_true c1]
        refine iteT ⟨_, rfl, st, _, rfl, (show DGet H1 st (kV kLeft) _ from st_left ▸ DGet.k S1.d), .inl ⟨_, rfl, _, rfl, _, _, rfl, rfl, (by show (0 : Int) < (n : Int); omega), ?_⟩⟩
        refine ⟨_, rfl, st, _, rfl, (show DGet H1 st (kV kLeft) _ from st_left ▸ DGet.k S1.d), _, rfl, _, _, rfl, rfl, draw_div hn hn2, _, rfl, st, _, rfl, (show DPut _ st (kV kLeft) _ _ from DPut.k S1.d (by show 4 < sizeLine; decide)), ?_⟩
        rw [st_put_left]
        have hr0 := Int.emod_nonneg left' (show (n : Int) ≠ 0 by omega)
        have hr1 := Int.emod_lt_of_pos left' (show (0 : Int) < n by omega)
        have S3 := S1.put (t := turn) (l := left' / (n : Int)) (Int.ediv_nonneg (by omega) (by omega))
        exact ⟨_, rfl, q_int (k (left' % (n : Int)).toNat _ (by omega) ⟨_, _, _, _, S3, by omega⟩ (kp1.trans Kp.put)) (by omega)⟩
      · rw [show decide ((0 : Int) < left') = false from decide_eq_false c1]
        refine iteF ⟨_, rfl, st, _, rfl, (show DGet H1 st (kV kTurn) _ from st_turn ▸ DGet.k S1.d), _, _, rfl, rfl, _, rfl, _, rfl, st, _, rfl, (show DPut _ st (kV kTurn) _ _ from DPut.k S1.d (by show 4 < sizeLine; decide)), ?_⟩
        rw [st_put_turn]
        have S2 : StD (upd H1 st (.dK (stKv lg cl left' ((turn + 1 : Nat) : Int)))) st lg cl large' cells left' (turn + 1) := S1.put S1.p0
        have kp2 : Kp st lg H (upd H1 st (.dK (stKv lg cl left' ((turn + 1 : Nat) : Int)))) := kp1.trans Kp.put
        have e1 : ((turn : Int) + 1) = ((turn + 1 : Nat) : Int) := by omega
        rw [e1]
        generalize upd H1 st (.dK (stKv lg cl left' ((turn + 1 : Nat) : Int))) = H2 at S2 kp2 ⊢
        refine ⟨fun σ' H' => ∃ c : Int, σ' = [some (.ref st), some (.int n), none, some (.int ((turn + 1 : Nat) : Int)), some (.int c), none] ∧ StD H' st lg cl large' cells left' (turn + 1) ∧ Kp st lg H H', ?_, ?_⟩
        · refine ⟨_, rfl, st, .ref cl, rfl, (show DGet H2 st (kV kCells) _ from st_cells ▸ DGet.k S2.d), by decide, fun p hp => ?_⟩
          have S3 := S2.same (Same.new (o := .lst []) hp)
          have kp3 := kp2.trans (Kp.same (Same.new (o := .lst []) hp))
          refine ⟨_, _, dp_int_list S3.c, dp_nil upd_same, shaped_is _, shaped_nil, _, rfl, ?_⟩
          rw [eqv_ints_nil]
          generalize upd H2 p (.lst []) = H3 at S3 kp3 ⊢
          cases cells with
          | nil => exact iteF ⟨0, rfl, S3, kp3⟩
          | cons y ys =>
            refine iteT ⟨_, rfl, st, .ref cl, rfl, (show DGet H3 st (kV kCells) _ from st_cells ▸ DGet.k S3.d), _, rfl, .inl ⟨_, rfl, _, rfl, st, .ref cl, rfl, (show DGet H3 st (kV kCells) _ from st_cells ▸ DGet.k S3.d), cl, _, rfl, .inl (SqL.of S3.c), _, _, rfl, rfl, ?_, ?_⟩⟩
            · show (0 : Int) < ((((y :: ys).map V.int).length : Nat) : Int)
              simp
            · have hlen : ((y :: ys).map V.int).length = (y :: ys).length := List.length_map _
              have hz : (turn + 1) % (y :: ys).length < (y :: ys).length := Nat.mod_lt _ (by simp)
              obtain ⟨c, hc⟩ : ∃ c, (y :: ys)[(turn + 1) % (y :: ys).length]? = some c := ⟨_, List.getElem?_eq_getElem hz⟩
              refine ⟨cl, _, _, .int c, rfl, rfl, SqL.of S3.c, ?_, c, rfl, S3, kp3⟩
              rw [hlen, show (((turn : Int) + 1) % (((y :: ys).length : Nat) : Int)) = (((turn + 1) % (y :: ys).length : Nat) : Int) from rfl]
              exact atI_nat (by rw [List.getElem?_map, hc]; rfl)
        · rintro σ' H3 ⟨c, rfl, S3, kp3⟩
          have h1 := Int.emod_nonneg c (show (2147483563 : Int) ≠ 0 by decide)
          have h2 := Int.emod_lt_of_pos c (show (0 : Int) < 2147483563 by decide)
          refine ⟨_, rfl, .inl ⟨_, rfl, _, _, rfl, rfl, (by show (0 : Int) < 2147483563; decide), _, rfl, _, _, rfl, rfl, .inl ⟨by decide, by decide⟩, _, _, rfl, rfl, _, _, rfl, rfl, _, _, rfl, rfl, ⟨by decide, by decide, ?_⟩, .inl ⟨_, rfl, _, _, rfl, rfl, (by show (0 : Int) < 2147483629; decide), ?_⟩⟩⟩
          · generalize c % 2147483563 = c' at h1 h2 ⊢
            omega
          generalize (c % 2147483563 + 40692 * ((turn + 1 : Nat) : Int) + 24681) ^ (3 : Int).toNat = z
          have h3 := Int.emod_nonneg z (show (2147483629 : Int) ≠ 0 by decide)
          have h4 := Int.emod_lt_of_pos z (show (0 : Int) < 2147483629 by decide)
          dsimp only
          generalize z % 2147483629 = y at h3 h4 ⊢
          refine ⟨_, rfl, _, rfl, _, _, rfl, rfl, .inl ⟨by decide, by decide⟩, _, _, rfl, rfl, _, _, rfl, rfl, ⟨by decide, by decide, by omega⟩, .inl ⟨_, rfl, _, _, rfl, rfl, (by show (0 : Int) < 2147483579; decide), _, _, rfl, rfl, ⟨by decide, by decide⟩, .inl ⟨_, rfl, _, rfl, _, _, rfl, rfl, (by show (0 : Int) < (n : Int); omega), ?_⟩⟩⟩
          generalize (y + 104917 * ((turn + 1 : Nat) : Int)) ^ (5 : Int).toNat % 2147483579 / 29 = x
          have h5 := Int.emod_nonneg x (show (n : Int) ≠ 0 by omega)
          have h6 := Int.emod_lt_of_pos x (show (0 : Int) < n by omega)
          exact q_int (k (x % (n : Int)).toNat _ (by omega) ⟨_, _, _, _, S3, by omega⟩ kp3) (by omega)
end
end K01
namespace K01
open PySem PySem.Spec PyProof.Rows L2 PySem.W LamX KA
open Evl (pss_cut tCut)
def spPick : Sp := fun vs H Q _ => ∃ (st lg cl a : Addr) (xs : List V) (m : Nat), vs = [.ref st, .ref a] ∧ H a = some (.lst xs) ∧ a ≠ lg ∧ 0 < xs.length ∧ xs.length ≤ 1000 ∧ m ≤ 1000000 ∧ StAt H st lg cl m ∧
  ∀ (x : V) (H' : Hp), x ∈ xs → StAt H' st lg cl (m + 1) → Kp st lg H H' → Q x H'
section
variable {P : Program} {w : World} {K : PySem.W.Frag} {mg : Str → Option Value} {base : Heap} (T : Top K mg)
theorem ok_pick : FnOk P w K mg base (L2.CX P w) 2 T._law_pick.a T._law_pick.d ["state", "several"] spPick := by
  refine T._law_pick.f.okX sc__law_pick (fun vs H Q E h => ?_) (fun cdv A outer s H vs Q E hr h => ?_)
  · obtain ⟨st, lg, cl, a, xs, m, rfl, _⟩ := h
    rfl
  · obtain ⟨st, lg, cl, a, xs, m, rfl, ha, hal, h0, h1, hm, S, k⟩ := h
    have has : a ≠ st := by
      obtain ⟨_, _, _, _, S', _⟩ := S
      exact ne_of ha S'.d (by intro z; cases z)
    refine ⟨_, pss_one (ps_ret (pe_ix ix_list (pv 1) (pe_call (ok_draw T) hr (by rfl) T._law_draw.m T._law_draw.f.kp (bd__law_draw T) .nil passE (pa_cons (pv 0) (pa_cons (pe_callB call_len_seq (by rfl) T.b_len PySem.boot_len (pa_cons (pv 1) pa_nil)) pa_nil))) (fun _ _ => rfl))), ?_⟩
    refine ⟨_, rfl, _, rfl, _, rfl, a, xs, rfl, .inl (SqL.of ha), st, lg, cl, xs.length, m, rfl, h0, ?_, hm, S, fun r H' hr' S' kp => ?_⟩
    · exact Nat.lt_of_le_of_lt h1 (by decide)
    · obtain ⟨x, hx⟩ : ∃ x, xs[r]? = some x := ⟨_, List.getElem?_eq_getElem hr'⟩
      exact ⟨a, xs, _, x, rfl, rfl, SqL.of (kp a _ ha has hal), atI_nat hx, k x H' (List.mem_of_getElem? hx) S' kp⟩
def spBegun (K : PySem.W.Frag) : Sp := fun vs H Q _ => ∃ (a : Addr) (ns : List Int), vs = [.ref a] ∧ SqL K H a (ns.map V.int) ∧ ns.length ≤ 63 ∧
  ∀ (st lg cl : Addr) (H' : Hp), StAt H' st lg cl 0 → Same H H' → H st = none → H lg = none → Q (.ref st) H'
theorem ok_begun : FnOk P w K mg base (L2.CX P w) 1 T._law_begun.a T._law_begun.d ["script"] (spBegun K) := by
  refine T._law_begun.f.okX sc__law_begun (fun vs H Q E h => ?_) (fun cdv A outer s H vs Q E hr h => ?_)
  · obtain ⟨a, ns, rfl, _⟩ := h
    rfl
  · obtain ⟨a, ns, rfl, hS, hl, k⟩ := h
    refine ⟨_, pss_cons (ps_setLc (i := 1) (own := [("cell", 3)]) (g := gName 3) (tt := tYes) rfl sc__law_begun.nd rfl rfl (sw_true rfl rfl rfl (by decide +kernel)) (pi_list (pv 0)) (blkOk_by (own := [("cell", 3)]) (N := ["script", "cells_here", "large", "cell"]) (sc := defScope s__law_begun) (by decide +kernel))
        (fun _ _ _ _ _ => pg_name (i := 3) sc__law_begun.nd rfl (Or.inl rfl)) (fun _ _ _ _ _ => pts_nil) (fun _ _ _ _ _ => pe_callB call_abs (by rfl) T.b_abs (by decide +kernel) (pa_cons (pv 3) pa_nil)))
      (pss_cons (ps_setLc (i := 2) (own := [("cell", 3)]) (g := gName 3) rfl sc__law_begun.nd rfl rfl (sw_true rfl rfl rfl (by decide +kernel)) (pi_list (pv 1)) (blkOk_by (own := [("cell", 3)]) (N := ["script", "cells_here", "large", "cell"]) (sc := defScope s__law_begun) (by decide +kernel))
        (fun _ _ _ _ _ => pg_name (i := 3) sc__law_begun.nd rfl (Or.inl rfl)) (fun _ _ _ _ _ => pts_one (pt_cmpR op_ge (pv 3) (pe_op op_pow pe_int pe_int) (nomark _))) (fun _ _ _ _ _ => pe_op op_sub (pv 3) (pe_op op_pow pe_int pe_int)))
      (pss_one (ps_ret (pe_disp (pps_cons pe_str (pv 2) (pps_cons pe_str (pv 1) (pps_cons pe_str pe_int (pps_cons pe_str pe_int pps_nil)))) (by rfl) (by rfl) (fun z => by cases z) (by decide))))), ?_⟩
    refine ⟨_, rfl, a, rfl, ⟨_, hS⟩, fun cl hcl => lc_list (K := K) (a := a) (xs := ns.map V.int) (fun i H' => H' cl = some (.lst ((ns.take i).map fun n => V.int (if n < 0 then -n else n))) ∧ Same H H') ⟨upd_same, Same.new hcl⟩ (fun i H' _ h => h.2.seq hS) ?_ ?_⟩
    · rintro i x H' hx ⟨h1, h2⟩
      obtain ⟨n, hn, rfl⟩ : ∃ n, ns[i]? = some n ∧ x = V.int n := by
        rw [List.getElem?_map] at hx
        cases e : ns[i]? with
        | none => rw [e] at hx; cases hx
        | some n => rw [e] at hx; exact ⟨n, rfl, (Option.some.inj hx).symm⟩
      refine ⟨rfl, ?_⟩
      dsimp only [tYes]
      rw [if_pos rfl]
      refine ⟨_, rfl, n, rfl, _, h1, ?_, ?_, ?_⟩
      · rw [List.length_map, List.length_take]
        exact Nat.lt_of_le_of_lt (Nat.min_le_right _ _) (Nat.lt_of_le_of_lt hl (by decide))
      · rw [upd_same, take_map_snoc _ _ _ _ hn]
      · intro b o e
        rw [upd_ne (ne_of_none e hcl)]
        exact h2 b o e
    rintro H1 ⟨h1, h2⟩
    rw [List.length_map, List.take_length] at h1
    have h1 : H1 cl = some (.lst ((ns.map fun n => if n < 0 then -n else n).map V.int)) := by rw [h1, List.map_map]; rfl
    have hlc : (ns.map fun n => if n < 0 then -n else n).length ≤ 63 := by rw [List.length_map]; exact hl
    generalize (ns.map fun n => if n < 0 then -n else n) = cells at h1 hlc
    refine ⟨_, rfl, cl, rfl, ⟨_, SqL.of h1⟩, fun lg hlg => lc_list (K := K) (a := cl) (xs := cells.map V.int) (fun i H' => H' lg = some (.lst ((((cells.take i).filter fun c => decide ((1000000000000000000 : Int) ≤ c)).map fun c => c - 1000000000000000000).map V.int)) ∧ Same H1 H') ⟨upd_same, Same.new hlg⟩ (fun i H' _ h => h.2.seq (SqL.of h1)) ?_ ?_⟩
    · rintro i x H' hx ⟨h3, h4⟩
      obtain ⟨n, hn, rfl⟩ : ∃ n, cells[i]? = some n ∧ x = V.int n := by
        rw [List.getElem?_map] at hx
        cases e : cells[i]? with
        | none => rw [e] at hx; cases hx
        | some n => rw [e] at hx; exact ⟨n, rfl, (Option.some.inj hx).symm⟩
      have et : cells.take (i + 1) = cells.take i ++ [n] := by rw [List.take_add_one, hn]; rfl
      refine ⟨rfl, _, rfl, _, _, rfl, rfl, ⟨by decide, by decide, by decide⟩, _, _, rfl, rfl, _, rfl, ?_⟩
      rw [show ((10 : Int) ^ (18 : Int).toNat) = 1000000000000000000 by decide, et, List.filter_append]
      by_cases c : (1000000000000000000 : Int) ≤ n
      · rw [show decide ((1000000000000000000 : Int) ≤ n) = true from decide_eq_true c]
        dsimp only
        rw [if_pos rfl]
        refine ⟨_, rfl, _, _, rfl, rfl, ⟨by decide, by decide, by decide⟩, _, _, rfl, rfl, _, h3, ?_, ?_, ?_⟩
        · rw [List.length_map, List.length_map]
          refine Nat.lt_of_le_of_lt (Nat.le_trans (List.length_filter_le _ _) ?_) (show 63 < sizeLine by decide)
          rw [List.length_take]
          omega
        · rw [upd_same]
          simp [c]
        · intro b o e
          rw [upd_ne (ne_of_none e hlg)]
          exact h4 b o e
      · rw [show decide ((1000000000000000000 : Int) ≤ n) = false from decide_eq_false c]
        dsimp only
        rw [if_neg Bool.false_ne_true]
        refine ⟨?_, h4⟩
        simpa [c] using h3
    rintro H2 ⟨h3, h4⟩
    intro st hst
    refine ⟨_, rfl, _, rfl, upd_same, stKv lg cl 0 0, rfl, (by show 4 ≤ 15; decide), ?_⟩
    rw [st_merge]
    have hne : cl ≠ lg := ne_of_none h1 hlg
    have h5 := h4 cl _ h1
    rw [List.length_map, List.take_length] at h3
    have hp : ∀ x ∈ (cells.filter fun c => decide ((1000000000000000000 : Int) ≤ c)).map (fun c => c - 1000000000000000000), 0 ≤ x := by
      intro x hx
      obtain ⟨c, hc, rfl⟩ := List.mem_map.mp hx
      have := (List.mem_filter.mp hc).2
      simp at this
      omega
    generalize (cells.filter fun c => decide ((1000000000000000000 : Int) ≤ c)).map (fun c => c - 1000000000000000000) = large at h3 hp
    have n1 : lg ≠ st := ne_of_none h3 hst
    have n2 : cl ≠ st := ne_of_none h5 hst
    have same : Same H (upd (upd H2 st (.dK [])) st (.dK (stKv lg cl 0 0))) := fun b o e => by
      have e2 := h4 b o (h2 b o e)
      rw [upd_upd, upd_ne (ne_of_none e2 hst)]
      exact e2
    refine k st lg cl _ ⟨large, cells, 0, 0, ⟨upd_same, ?_, ?_, hne.symm, hp, Int.le_refl _⟩, Nat.le_refl _⟩ same ((h2.trans h4).free hst) (h2.free hlg)
    · rw [upd_upd, upd_ne n1]
      exact h3
    · rw [upd_upd, upd_ne n2]
      exact h5
end
end K01
namespace K01
open PySem PySem.Spec PyProof.Rows L2 PySem.W LamX KA
open Evl (pss_cut tCut)
def spItem : Sp := fun vs H Q _ => ∃ (st lg cl : Addr) (m : Nat), vs = [.ref st] ∧ m ≤ 990000 ∧ StAt H st lg cl m ∧
  ∀ (i : Int) (H' : Hp), -32767 ≤ i → i ≤ 32767 → StAt H' st lg cl (m + 4) → Kp st lg H H' → Q (.int i) H'
section
variable {P : Program} {w : World} {K : PySem.W.Frag} {mg : Str → Option Value} {base : Heap} (T : Top K mg)
theorem ok_item : FnOk P w K mg base (L2.CX P w) 3 T._law_item.a T._law_item.d ["state"] spItem := by
  refine T._law_item.f.okX sc__law_item (fun vs H Q E h => ?_) (fun cdv A outer s H vs Q E hr h => ?_)
  · obtain ⟨st, lg, cl, m, rfl, _⟩ := h
    rfl
  · obtain ⟨st, lg, cl, m, rfl, hm, S, k⟩ := h
    refine ⟨_, pss_cons (ps_set (i := 1) sc__law_item.nd rfl (.inl rfl) (pe_call (ok_two T) (hr.mono (by decide)) (by rfl) T._law_two.m T._law_two.f.kp (bd__law_two T) .nil passE (pa_cons (pe_call (ok_draw T) (hr.mono (by decide)) (by rfl) T._law_draw.m T._law_draw.f.kp (bd__law_draw T) .nil passE (pa_cons (pv 0) (pa_cons pe_int pa_nil))) pa_nil)))
      (pss_cons (ps_set (i := 2) sc__law_item.nd rfl (.inl rfl) (pe_lst (pa_cons pe_int (pa_cons pe_int (pa_cons (pe_un un_neg pe_int) (pa_cons pe_int (pa_cons (pe_un un_neg pe_int)
        (pa_cons (pe_op op_sub (pe_call (ok_draw T) (hr.mono (by decide)) (by rfl) T._law_draw.m T._law_draw.f.kp (bd__law_draw T) .nil passE (pa_cons (pv 0) (pa_cons pe_int pa_nil))) pe_int)
        (pa_cons (pe_op op_sub (pe_call (ok_draw T) (hr.mono (by decide)) (by rfl) T._law_draw.m T._law_draw.f.kp (bd__law_draw T) .nil passE (pa_cons (pv 0) (pa_cons pe_int pa_nil))) pe_int)
        (pa_cons pe_int (pa_cons (pe_un un_neg pe_int) (pa_cons pe_int pa_nil))))))))))))
      (pss_one (ps_ret (pe_call (ok_pick T) hr (by rfl) T._law_pick.m T._law_pick.f.kp (bd__law_pick T) .nil passE (pa_cons (pv 0) (pa_cons (pe_op op_cat (pv 2)
        (pe_lst (pa_cons (pv 1) (pa_cons (pe_op op_sub pe_int (pv 1)) (pa_cons (pe_op op_sub (pv 1) pe_int) (pa_cons (pe_op op_sub pe_int (pv 1)) pa_nil)))))) pa_nil)))))), ?_⟩
    refine ⟨_, rfl, st, lg, cl, 15, m, rfl, by decide, by decide, by omega, S, fun r H1 hr1 S1 kp1 => ⟨r, rfl, by omega, ?_⟩⟩
    have hp0 : 1 ≤ 2 ^ r := Nat.pow_pos (by decide)
    have hp1 : 2 ^ r ≤ 2 ^ 14 := Nat.pow_le_pow_right (by decide) (by omega)
    generalize 2 ^ r = pw at hp0 hp1 ⊢
    have hp1 : pw ≤ 16384 := hp1
    refine ⟨_, rfl, _, rfl, _, rfl, st, lg, cl, 41, m + 1, rfl, by decide, by decide, by omega, S1, fun r2 H2 hr2 S2 kp2 => ⟨_, _, rfl, rfl, ?_⟩⟩
    refine ⟨_, rfl, st, lg, cl, 5001, m + 2, rfl, by decide, by decide, by omega, S2, fun r3 H3 hr3 S3 kp3 => ⟨_, _, rfl, rfl, _, rfl, (by show 10 ≤ sizeLine; decide), fun p hp => ?_⟩⟩
    have S4 := S3.same (Same.new (o := .lst [V.int 0, V.int 1, V.int (-1), V.int 2, V.int (-2), V.int (r2 - 20), V.int (r3 - 2500), V.int 32767, V.int (-32767), V.int 32766]) hp)
    refine ⟨_, rfl, _, rfl, _, rfl, _, rfl, _, _, rfl, rfl, _, rfl, _, _, rfl, rfl, _, rfl, _, _, rfl, rfl, (by show 4 ≤ sizeLine; decide), fun q hq => ?_⟩
    have npq : p ≠ q := ne_of_none upd_same hq
    have S5 := S4.same (Same.new (o := .lst [V.int pw, V.int (0 - pw), V.int (pw - 1), V.int (1 - pw)]) hq)
    refine ⟨_, _, _, _, rfl, rfl, (upd_ne npq).trans upd_same, upd_same, (by show 14 ≤ sizeLine; decide), fun z hz => ?_⟩
    have S6 := S5.same (Same.new (o := .lst ([V.int 0, V.int 1, V.int (-1), V.int 2, V.int (-2), V.int (r2 - 20), V.int (r3 - 2500), V.int 32767, V.int (-32767), V.int 32766] ++ [V.int pw, V.int (0 - pw), V.int (pw - 1), V.int (1 - pw)])) hz)
    refine ⟨st, lg, cl, z, _, m + 3, rfl, upd_same, (S5.off hz).2, (by show 0 < 14; decide), (by show 14 ≤ 1000; decide), by omega, S6, fun x H' hx S' kp' => ?_⟩
    have kp : Kp st lg H H' := (((((kp1.trans kp2).trans kp3).trans (Kp.same (Same.new hp))).trans (Kp.same (Same.new hq))).trans (Kp.same (Same.new hz))).trans kp'
    simp only [List.cons_append, List.nil_append, List.mem_cons, List.not_mem_nil, or_false] at hx
    rcases hx with h | h | h | h | h | h | h | h | h | h | h | h | h | h <;> (subst h; exact k _ H' (by omega) (by omega) S' kp)
end
end K01
namespace K01
open PySem PySem.Spec PyProof.Rows L2 PySem.W LamX KA
open Evl (pss_cut tCut)
/-- the code object of a def that makes lambdas, and its table -/
structure LamT (K : PySem.W.Frag) (x : Str) (st : Stmt) (a : Addr) (d : FuncData) (c P : Addr) : Prop where
  ex : ∃ (oc : Value) (od : Option Addr) (kV doc pm : Value) (an : Option Addr) (ct : Value) (osl : Array (Option Value)),
    d = PySem.W.fnOf x x (defArgs st) (defBody st) (defScope st) .none kV doc pm an (.ref c) ct ∧ K.lookup a = some ⟨oc, od, .func d, osl⟩ ∧ PySem.W.codeIn K (.ref c) x = true
theorem pe_caught {X : Cx} (T : Top X.K X.mg) {c Pt : Addr} {k : Nat} {params : Arguments} {body : Expr} {scope : Scope} {t : XK → TE} {p lpos pos : Pos} (TB : TabB X.base X.mg c Pt) (hcode : X.env.code = .ref c) (hr : Room (k + 2) X.A) (hg : Gl X "_law_caught") (L : LamS X.env.scope scope)
    (hdef : defaultsOf params X.env = ([], [])) (hbind : ∀ (q : Str) (cl : List (Str × Addr)) (pm cv ctv : Value), bindArgs (PySem.W.kla_fn "<lambda>" q params body scope cl pm cv ctv) ⟨[], []⟩ = pure [])
    (hbody : ∀ (A : Around) (outer : List Env) (s : Shared) (H : Hp) (E : XK) (f c' : Addr), Room k (A.deeper (lamEnv X scope s.heap.objs.size f c')) → PE (lamCx X A outer s H E scope f c') body (t E)) :
    PE X (.Call (.Name "_law_caught" p) [.Lambda params body scope lpos] [] pos) (tLam [(Pt, X.env.qual ++ "<lambda>")] (TCaught X.K T.reel.C) t) := by
  obtain ⟨oc, od, kV, doc, pm, an, cdv, ct, osl, ed, lk, hcd⟩ := T._law_caught.f.ex
  have hb := bd__law_caught T
  rw [ed] at lk hb
  exact pe_lamcall (T := [(Pt, X.env.qual ++ "<lambda>")]) hg T._law_caught.m T._law_caught.f.kp lk hcd hb sc__law_caught rfl (.inl rfl)
    (caught_gives sc__law_caught rfl rfl rfl rfl T.reel.g (by decide) (by decide) (by decide) (by decide) (by decide)) TB hcode List.mem_cons_self (fun p hp e => by
      rcases List.mem_singleton.mp hp with rfl
      rfl) hr L hdef hbind hbody
end K01
namespace K01
open PySem PySem.Spec PyProof.Rows L2 PySem.W LamX KA
open Evl (pss_cut tCut)
/-- all but the state and the tables stands as it stood -/
def KpN (st lg : Addr) (H H' : Hp) : Prop := ∀ b o, H b = some o → b ≠ st → b ≠ lg → (∀ ps, o ≠ .tbl ps) → H' b = some o
theorem KpN.refl {st lg : Addr} {H : Hp} : KpN st lg H H := fun _ _ h _ _ _ => h
theorem KpN.trans {st lg : Addr} {H H1 H2 : Hp} (a : KpN st lg H H1) (b : KpN st lg H1 H2) : KpN st lg H H2 := fun c o h n1 n2 n3 => b c o (a c o h n1 n2 n3) n1 n2 n3
theorem KpN.kp {st lg : Addr} {H H1 : Hp} (a : Kp st lg H H1) : KpN st lg H H1 := fun c o h n1 n2 _ => a c o h n1 n2
theorem KpN.ext {st lg : Addr} {H H1 : Hp} (a : ExtN H H1) : KpN st lg H H1 := fun c o h _ _ n => a c o h n
theorem KpN.new {st lg p : Addr} {H : Hp} {o : HO} (h : H p = none) : KpN st lg H (upd H p o) := .kp (.same (Same.new h))
abbrev lamQ : Str := (envOfC "_law_refused" (defScope s__law_refused) 0 0 .none).qual ++ "<lambda>"
abbrev tabs (Pt : Addr) : List (Addr × Str) := [(Pt, lamQ)]
theorem tabs_kp {st lg cl : Addr} {n : Nat} {L : List (Addr × Str)} {H H' : Hp} (t : Tabs L H) (S : StAt H st lg cl n) (e : Kp st lg H H') : Tabs L H' := by
  obtain ⟨_, _, _, _, S', _⟩ := S
  intro p hp
  obtain ⟨ps, h1, h2, h3⟩ := t p hp
  refine ⟨ps, e _ _ h1 (ne_of h1 S'.d (by intro z; cases z)) (ne_of h1 S'.l (by intro z; cases z)), h2, fun pos cv hc => ?_⟩
  obtain ⟨c, e1, e2⟩ := h3 pos cv hc
  exact ⟨c, e1, e _ _ e2 (ne_of e2 S'.d (by intro z; unfold CodeO at z; cases z)) (ne_of e2 S'.l (by intro z; unfold CodeO at z; cases z))⟩
theorem stAt_ext {H H' : Hp} {st lg cl : Addr} {n : Nat} (S : StAt H st lg cl n) (e : ExtN H H') : StAt H' st lg cl n := by
  obtain ⟨a, b, c, d, s, h⟩ := S
  exact ⟨a, b, c, d, { s with d := e _ _ s.d (fun _ z => by cases z), l := e _ _ s.l (fun _ z => by cases z), c := e _ _ s.c (fun _ z => by cases z) }, h⟩
def spRefused (K : PySem.W.Frag) (Pt : Addr) : Sp := fun vs H Q _ => ∃ (st lg cl : Addr) (i : Int) (f g m : Nat), vs = [.ref st, .int i, .int g] ∧ -32767 ≤ i ∧ i ≤ 32767 ∧ m ≤ 900000 ∧ StAt H st lg cl m ∧ Tabs (tabs Pt) H ∧
  ∀ H', StAt H' st lg cl (m + 5) → Tabs (tabs Pt) H' → KpN st lg H H' → Q (.bl true) H'
theorem Pl.kpN {K : PySem.W.Frag} {H H' : Hp} {st lg : Addr} {x : V} {b : Bool} (h : Pl K H x b) (n : ∀ a, x = .ref a → a ≠ st ∧ a ≠ lg) (e : KpN st lg H H') : Pl K H' x b := by
  cases h with
  | int i => exact .int i
  | bl i => exact .bl i
  | str i => exact .str i
  | non => exact .non
  | tup q => exact .tup (e _ _ q (n _ rfl).1 (n _ rfl).2 (fun _ z => by cases z))
  | lst q => exact .lst (e _ _ q (n _ rfl).1 (n _ rfl).2 (fun _ z => by cases z))
  | dK q => exact .dK (e _ _ q (n _ rfl).1 (n _ rfl).2 (fun _ z => by cases z))
/-- a value that a check refuses -/
structure Odd (K : PySem.W.Frag) (H : Hp) (st lg : Addr) (x : V) (lo hi : Int) : Prop where
  pl : ∃ b, Pl K H x b
  off : ∀ a, x = .ref a → a ≠ st ∧ a ≠ lg
  no : within x lo hi = false
theorem Odd.kpN {K : PySem.W.Frag} {H H' : Hp} {st lg : Addr} {x : V} {lo hi : Int} (h : Odd K H st lg x lo hi) (e : KpN st lg H H') : Odd K H' st lg x lo hi := by
  obtain ⟨⟨b, p⟩, n, w⟩ := h
  exact ⟨⟨b, p.kpN n e⟩, n, w⟩
theorem Odd.not {K : PySem.W.Frag} {H : Hp} {st lg : Addr} {x : V} {lo hi i : Int} (h : Odd K H st lg x lo hi) (e : x = .int i) (h1 : lo ≤ i) (h2 : i ≤ hi) : False := by
  have w := h.no
  rw [e] at w
  simp [within, h1, h2] at w
theorem Odd.flat {K : PySem.W.Frag} {H : Hp} {st lg : Addr} {x : V} {lo hi : Int} {b : Bool} (p : Pl K H x b) (r : ∀ a, x ≠ .ref a) (w : within x lo hi = false) : Odd K H st lg x lo hi := ⟨⟨b, p⟩, fun a e => absurd e (r a), w⟩
/-- the list of the errors that were caught, all of the class at C -/
structure Errs (H : Hp) (st lg er C : Addr) (as : List Addr) : Prop where
  l : H er = some (.lst (as.map V.ref))
  n1 : er ≠ st
  n2 : er ≠ lg
  e : ∀ a ∈ as, H a = some (ExV (.ref C) none a) ∧ a ≠ st ∧ a ≠ lg
theorem exV_tbl {c : Value} {d : Option Addr} {a : Addr} (ps : Array Value) : ExV c d a ≠ .tbl ps := fun z => by
  unfold ExV at z
  cases z
theorem exV_lst {c : Value} {d : Option Addr} {a : Addr} (xs : List V) : ExV c d a ≠ .lst xs := fun z => by
  unfold ExV at z
  cases z
theorem Errs.kpN {H H' : Hp} {st lg er C : Addr} {as : List Addr} (h : Errs H st lg er C as) (k : KpN st lg H H') : Errs H' st lg er C as :=
  ⟨k _ _ h.l h.n1 h.n2 (fun _ z => by cases z), h.n1, h.n2, fun a ha => ⟨k _ _ (h.e a ha).1 (h.e a ha).2.1 (h.e a ha).2.2 exV_tbl, (h.e a ha).2⟩⟩
theorem Errs.app {H : Hp} {st lg er C a : Addr} {as : List Addr} (h : Errs H st lg er C as) (ha : H a = some (ExV (.ref C) none a)) (h1 : a ≠ st) (h2 : a ≠ lg) : Errs (upd H er (.lst (as.map V.ref ++ [.ref a]))) st lg er C (as ++ [a]) := by
  have ne : ∀ b, H b = some (ExV (.ref C) none b) → b ≠ er := fun b hb => ne_of hb h.l (exV_lst _)
  refine ⟨by rw [upd_same]; simp, h.n1, h.n2, fun b hb => ?_⟩
  rcases List.mem_append.mp hb with hb | hb
  · exact ⟨(upd_ne (ne b (h.e b hb).1)).trans (h.e b hb).1, (h.e b hb).2⟩
  · rcases List.mem_singleton.mp hb with rfl
    exact ⟨(upd_ne (ne b ha)).trans ha, h1, h2⟩
theorem stAt_upd {H : Hp} {st lg cl er : Addr} {n : Nat} {xs ys : List V} (S : StAt H st lg cl n) (h : H er = some (.lst xs)) (h1 : er ≠ st) (h2 : er ≠ lg) (h3 : er ≠ cl) : StAt (upd H er (.lst ys)) st lg cl n := by
  obtain ⟨a, b, c, d, s, h'⟩ := S
  exact ⟨a, b, c, d, { s with d := (upd_ne h1.symm).trans s.d, l := (upd_ne h2.symm).trans s.l, c := (upd_ne h3.symm).trans s.c }, h'⟩
theorem tabs_upd {L : List (Addr × Str)} {H : Hp} {er : Addr} {xs ys : List V} (t : Tabs L H) (h : H er = some (.lst xs)) : Tabs L (upd H er (.lst ys)) := by
  intro p hp
  obtain ⟨ps, h1, h2, h3⟩ := t p hp
  refine ⟨ps, (upd_ne (ne_of h1 h (by intro z; cases z))).trans h1, h2, fun pos cv hc => ?_⟩
  obtain ⟨c, e1, e2⟩ := h3 pos cv hc
  exact ⟨c, e1, (upd_ne (ne_of e2 h (by intro z; unfold CodeO at z; cases z))).trans e2⟩
theorem KpN.upd {H X : Hp} {st lg er : Addr} {o : HO} (k : KpN st lg H X) (h : ∀ u, H er = some u → ∃ ps, u = .tbl ps) : KpN st lg H (upd X er o) := fun b u e n1 n2 n3 => by
  have : b ≠ er := fun z => by
    subst z
    obtain ⟨ps, q⟩ := h u e
    exact n3 ps q
  rw [upd_ne this]
  exact k b u e n1 n2 n3
theorem KpN.free {H X : Hp} {st lg er : Addr} (k : KpN st lg H X) (h : X er = none) (n1 : er ≠ st) (n2 : er ≠ lg) : ∀ u, H er = some u → ∃ ps, u = .tbl ps := fun u e => by
  by_cases c : ∃ ps, u = .tbl ps
  · exact c
  · have z := k er u e n1 n2 (fun ps q => c ⟨ps, q⟩)
    rw [h] at z
    cases z
theorem offc {H : Hp} {st lg cl p : Addr} {n : Nat} (S : StAt H st lg cl n) (hp : H p = none) : p ≠ cl := by
  obtain ⟨_, _, _, _, S', _⟩ := S
  exact (ne_of_none S'.c hp).symm
theorem Odd.updL {K : PySem.W.Frag} {H : Hp} {st lg er : Addr} {x : V} {lo hi : Int} {xs ys : List V} (h : Odd K H st lg x lo hi) (hl : H er = some (.lst xs)) : Odd K (upd H er (.lst ys)) st lg x lo hi := by
  obtain ⟨⟨b, p⟩, n, w⟩ := h
  refine ⟨⟨b, ?_⟩, n, w⟩
  cases p with
  | int i => exact .int i
  | bl i => exact .bl i
  | str i => exact .str i
  | non => exact .non
  | tup q => exact .tup ((upd_ne (ne_of q hl (by intro z; cases z))).trans q)
  | @lst a zs q =>
    by_cases e : a = er
    · subst e
      exact .lst upd_same
    · exact .lst ((upd_ne e).trans q)
  | dK q => exact .dK ((upd_ne (ne_of q hl (by intro z; cases z))).trans q)
theorem kit_self {K : PySem.W.Frag} {C : Addr} : PySem.W.kitOne K (.ref C) (.ref C) = some true := by
  unfold PySem.W.kitOne
  rw [if_pos (by simp)]
theorem Odd.same {K : PySem.W.Frag} {H H' : Hp} {st lg : Addr} {x : V} {lo hi : Int} (h : Odd K H st lg x lo hi) (e : Same H H') : Odd K H' st lg x lo hi := h.kpN (.kp (.same e))
theorem fold_lo {i : Int} {f : Nat} (h : foldI i = f) (h2 : f < 65535) : -32767 ≤ i := by
  unfold foldI at h
  split at h <;> omega
theorem fold_hi {i : Int} {f : Nat} (h : foldI i = f) (h2 : f < 65535) : i ≤ 32767 := by
  unfold foldI at h
  split at h <;> omega
theorem caught_err {K : PySem.W.Frag} {mg : Str → Option Value} (T : Top K mg) {n : Str} (X : ExcT K mg n T.reel.C) {Pt st lg cl : Addr} {m m' : Nat} {t : XK → TE} {σ : L2.St} {H : Hp} {Q : VK} (hT : Tabs (tabs Pt) H) (S : StAt H st lg cl m)
    (A : ∀ (H1 : Hp) (E : XK) (Q1 : VK), ExtN H H1 → StAt H1 st lg cl m → (∀ H2, Kp st lg H1 H2 → StAt H2 st lg cl m' → E (.ref X.C) none H2) → t E σ H1 Q1)
    (k : ∀ a H', StAt H' st lg cl m' → Tabs (tabs Pt) H' → KpN st lg H H' → H' a = some (ExV (.ref X.C) none a) → a ≠ st → a ≠ lg → Q (.ref a) H') : tLam (tabs Pt) (TCaught K T.reel.C) t σ H Q := by
  refine ⟨hT, fun H1 e1 t1 Q1 hQ1 => A H1 _ Q1 e1 (stAt_ext S e1) fun H2 kp S2 => ⟨X.exm T.reel, fun a ha => ?_⟩⟩
  have t2 := tabs_kp t1 (stAt_ext S e1) kp
  exact k a _ (S2.same (Same.new ha)) (t2.ext (Same.new ha)) (((KpN.ext e1).trans (.kp kp)).trans (.new ha)) upd_same (S2.off ha).1 (S2.off ha).2
section
variable {P : Program} {w : World} {K : PySem.W.Frag} {mg : Str → Option Value} {base : Heap} (T : Top K mg)
theorem ok_refused {c Pt : Addr} (LT : LamT K "_law_refused" s__law_refused T._law_refused.a T._law_refused.d c Pt) (TB : TabB base mg c Pt) : FnOk P w K mg base (L2.CX P w) 9 T._law_refused.a T._law_refused.d ["state", "item", "rung"] (spRefused K Pt) := by
  obtain ⟨oc, od, kV, doc, pm, an, ct, osl, ed, lk, hcd⟩ := LT.ex
  rw [ed] at lk ⊢
  refine fn_of lk hcd sc__law_refused (fun vs H Q E h => ?_) (fun A outer s H vs Q E hr h => ?_)
  · obtain ⟨st, lg, cl, i, f, g, m, rfl, _⟩ := h
    rfl
  · obtain ⟨st, lg, cl, i, f, g, m, rfl, hi1, hi2, hm, S, Tb, k⟩ := h
    have hr7 : Room (6 + 2) _ := hr
    refine ⟨_, pss_cons (ps_set (i := 5) sc__law_refused.nd rfl (.inr rfl) (pe_call (ok_pick T) (hr.mono (by decide)) (by rfl) T._law_pick.m T._law_pick.f.kp (bd__law_pick T) .nil passE (pa_cons (pv 0) (pa_cons (pe_lst (pa_cons pe_int (pa_cons (pe_un un_neg pe_int) (pa_cons pe_bl (pa_cons pe_non (pa_cons pe_str (pa_cons (pe_tup (pa_cons pe_int pa_nil)) (pa_cons (pe_op op_pow pe_int pe_int) pa_nil)))))))) pa_nil))))
      (pss_cons (ps_set (i := 6) sc__law_refused.nd rfl (.inr rfl) (pe_call (ok_pick T) (hr.mono (by decide)) (by rfl) T._law_pick.m T._law_pick.f.kp (bd__law_pick T) .nil passE (pa_cons (pv 0) (pa_cons (pe_lst (pa_cons (pe_un un_neg pe_int) (pa_cons pe_int (pa_cons pe_bl (pa_cons pe_non (pa_cons pe_str pa_nil)))))) pa_nil))))
      (pss_cons (ps_set (i := 4) sc__law_refused.nd rfl (.inr rfl) (pe_call (ok_pick T) (hr.mono (by decide)) (by rfl) T._law_pick.m T._law_pick.f.kp (bd__law_pick T) .nil passE (pa_cons (pv 0) (pa_cons (pe_lst (pa_cons pe_int (pa_cons pe_int (pa_cons pe_bl (pa_cons pe_non (pa_cons pe_str pa_nil)))))) pa_nil))))
      (pss_cons (ps_set (i := 3) sc__law_refused.nd rfl (.inl rfl) (pe_lst (pa_cons (pe_caught T TB rfl hr7 (by rfl) (lamS_by (sc := defScope s__law_refused) (by decide +kernel)) rfl (fun _ _ _ _ _ => rfl)
            (fun A outer s H E f c' h => pe_call (ok_folded T) (h.mono (by decide)) (by rfl) T.folded.m T.folded.f.kp (bd_folded T) .nil (passX rfl rfl rfl rfl) (pa_cons (pv 5) pa_nil)))
          (pa_cons (pe_caught T TB rfl hr7 (by rfl) (lamS_by (sc := defScope s__law_refused) (by decide +kernel)) rfl (fun _ _ _ _ _ => rfl)
            (fun A outer s H E f c' h => pe_call (ok_long_bits T) (h.mono (by decide)) (by rfl) T.long_bits.m T.long_bits.f.kp (bd_long_bits T) .nil (passX rfl rfl rfl rfl) (pa_cons (pv 5) pa_nil))) pa_nil))))
      (pss_cons (ps_expr (pe_bm PySem.F.plainAttrs_list PySem.F.slot_list_append PySem.F.type_list_append mt_append (pv 3) (pa_cons (pe_caught T TB rfl hr7 (by rfl) (lamS_by (sc := defScope s__law_refused) (by decide +kernel)) rfl (fun _ _ _ _ _ => rfl)
            (fun A outer s H E f c' h => pe_call (ok_grade_bits T) (h.mono (by decide)) (by rfl) T.grade_bits.m T.grade_bits.f.kp (bd_grade_bits T) .nil (passX rfl rfl rfl rfl) (pa_cons (pv 5) (pa_cons (pv 6) pa_nil)))) pa_nil)))
      (pss_cons (ps_expr (pe_bm PySem.F.plainAttrs_list PySem.F.slot_list_append PySem.F.type_list_append mt_append (pv 3) (pa_cons (pe_caught T TB rfl hr7 (by rfl) (lamS_by (sc := defScope s__law_refused) (by decide +kernel)) rfl (fun _ _ _ _ _ => rfl)
            (fun A outer s H E f c' h => pe_call (ok_unfolded T) (h.mono (by decide)) (by rfl) T.unfolded.m T.unfolded.f.kp (bd_unfolded T) .nil (passX rfl rfl rfl rfl) (pa_cons (pe_call (ok_pick T) (h.mono (by decide)) (by rfl) T._law_pick.m T._law_pick.f.kp (bd__law_pick T) .nil passE (pa_cons (pv 0) (pa_cons (pe_lst (pa_cons (pe_un un_neg pe_int) (pa_cons pe_int (pa_cons pe_bl (pa_cons pe_non (pa_cons pe_str pa_nil)))))) pa_nil))) pa_nil))) pa_nil)))
      (pss_cons (ps_expr (pe_bm PySem.F.plainAttrs_list PySem.F.slot_list_append PySem.F.type_list_append mt_append (pv 3) (pa_cons (pe_caught T TB rfl hr7 (by rfl) (lamS_by (sc := defScope s__law_refused) (by decide +kernel)) rfl (fun _ _ _ _ _ => rfl)
            (fun A outer s H E f c' h => pe_call (ok_fixed_bits T) (h.mono (by decide)) (by rfl) T.fixed_bits.m T.fixed_bits.f.kp (bd_fixed_bits T) .nil (passX rfl rfl rfl rfl) (pa_cons (pe_call (ok_pick T) (h.mono (by decide)) (by rfl) T._law_pick.m T._law_pick.f.kp (bd__law_pick T) .nil passE (pa_cons (pv 0) (pa_cons (pe_lst (pa_cons pe_int (pa_cons (pe_un un_neg pe_int) (pa_cons pe_bl (pa_cons pe_non (pa_cons pe_str pa_nil)))))) pa_nil))) (pa_cons pe_int pa_nil)))) pa_nil)))
      (pss_cut (ps_if (pt_cmpR (op_neD hr.units) (pe_lc (own := [("error", 7)]) (g := gName 7) rfl sc__law_refused.nd (pi_list (pv 3)) (blkOk_by (own := [("error", 7)]) (N := ["state", "item", "rung", "errors", "none", "odd", "wrong", "error"]) (sc := defScope s__law_refused) (by decide +kernel))
          (fun _ _ _ _ _ => pg_name (i := 7) sc__law_refused.nd rfl (Or.inl rfl)) (fun _ _ _ _ _ => pts_one (pt_not (pt_val (pe_callB (show CallR _ _ (rIs2 K) from call_is2) (by rfl) T.b_isinstance PyProof.Rows.boot_isinstance (pa_cons (pv 7) (pa_cons (pe_glob (v := .ref T.BadNumber.C) (by rfl) T.BadNumber.g rfl) pa_nil)))))) (fun _ _ _ _ _ => pe_int)) (pe_lst pa_nil) (nomark _)) (pss_one (ps_ret pe_bl)) pss_nil)
      (pss_cons (ps_if (pt_not (pt_val (pe_callB (show CallR _ _ (rIs2 K) from call_is2) (by rfl) T.b_isinstance PyProof.Rows.boot_isinstance (pa_cons (pe_caught T TB rfl hr7 (by rfl) (lamS_by (sc := defScope s__law_refused) (by decide +kernel)) rfl (fun _ _ _ _ _ => rfl)
            (fun A outer s H E f c' h => pe_call (ok_grade_bits T) (h.mono (by decide)) (by rfl) T.grade_bits.m T.grade_bits.f.kp (bd_grade_bits T) .nil (passX rfl rfl rfl rfl) (pa_cons (pv 1) (pa_cons (pv 6) pa_nil)))) (pa_cons (pe_glob (v := .ref T.BadGrade.C) (by rfl) T.BadGrade.g rfl) pa_nil))))) (pss_one (ps_ret pe_bl)) pss_nil)
      (pss_one (ps_ret (pe_callB (show CallR _ _ (rIs2 K) from call_is2) (by rfl) T.b_isinstance PyProof.Rows.boot_isinstance (pa_cons (pe_caught T TB rfl hr7 (by rfl) (lamS_by (sc := defScope s__law_refused) (by decide +kernel)) rfl (fun _ _ _ _ _ => rfl)
            (fun A outer s H E f c' h => pe_call (ok_fixed_bits T) (h.mono (by decide)) (by rfl) T.fixed_bits.m T.fixed_bits.f.kp (bd_fixed_bits T) .nil (passX rfl rfl rfl rfl) (pa_cons (pv 5) (pa_cons (pv 4) pa_nil)))) (pa_cons (pe_glob (v := .ref T.BadMany.C) (by rfl) T.BadMany.g rfl) pa_nil))))))))))))), ?_⟩
    refine ⟨_, rfl, _, rfl, (by show 1 ≤ sizeLine; decide), fun tp htp => ⟨_, _, rfl, rfl, ⟨by decide, by decide, by decide⟩, (by show 7 ≤ sizeLine; decide), fun p hp => ?_⟩⟩
    have S0 := (S.same (Same.new (o := .tup [V.int 0]) htp))
    have S1 := S0.same (Same.new (o := .lst [V.int 32768, V.int (-32768), V.bl true, V.non, V.str "1", V.ref tp, V.int (10 ^ (11 : Int).toNat)]) hp)
    refine ⟨st, lg, cl, p, _, m, rfl, upd_same, (S0.off hp).2, (by show 0 < 7; decide), (by show 7 ≤ 1000; decide), by omega, S1, fun xo Ha hxo Sa kpa => ?_⟩
    have kp1 : Kp st lg H Ha := ((Kp.same (Same.new htp)).trans (Kp.same (Same.new hp))).trans kpa
    have oddA : Odd K Ha st lg xo (-32767) 32767 := by
      have hp1 : p ≠ tp := (ne_of_none upd_same hp).symm
      have ht : Ha tp = some (.tup [V.int 0]) := kpa tp _ ((upd_ne hp1.symm).trans upd_same) (S.off htp).1 (S.off htp).2
      simp only [List.mem_cons, List.not_mem_nil, or_false] at hxo
      rcases hxo with h | h | h | h | h | h | h <;> subst h
      · exact .flat (.int _) (fun _ z => by cases z) (by decide)
      · exact .flat (.int _) (fun _ z => by cases z) (by decide)
      · exact .flat (.bl _) (fun _ z => by cases z) rfl
      · exact .flat .non (fun _ z => by cases z) rfl
      · exact .flat (.str _) (fun _ z => by cases z) rfl
      · exact ⟨⟨_, .tup ht⟩, fun a e => by
          cases e
          exact S.off htp, rfl⟩
      · exact .flat (.int _) (fun _ z => by cases z) (by decide)
    have Tba := tabs_kp Tb S kp1
    clear hxo
    refine ⟨_, rfl, _, rfl, (by show 5 ≤ sizeLine; decide), fun p2 hp2 => ⟨st, lg, cl, p2, _, m + 1, rfl, upd_same, (Sa.off hp2).2, (by show 0 < 5; decide), (by show 5 ≤ 1000; decide), by omega, Sa.same (Same.new hp2), fun xw Hb hxw Sb kpb => ?_⟩⟩
    have kp2 : Kp st lg Ha Hb := (Kp.same (Same.new hp2)).trans kpb
    have oddB : Odd K Hb st lg xw 0 7 := by
      simp only [List.mem_cons, List.not_mem_nil, or_false] at hxw
      rcases hxw with h | h | h | h | h <;> subst h
      · exact .flat (.int _) (fun _ z => by cases z) (by decide)
      · exact .flat (.int _) (fun _ z => by cases z) (by decide)
      · exact .flat (.bl _) (fun _ z => by cases z) rfl
      · exact .flat .non (fun _ z => by cases z) rfl
      · exact .flat (.str _) (fun _ z => by cases z) rfl
    have Tbb := tabs_kp Tba Sa kp2
    clear hxw
    refine ⟨_, rfl, (by show 5 ≤ sizeLine; decide), fun p3 hp3 => ⟨st, lg, cl, p3, _, m + 2, rfl, upd_same, (Sb.off hp3).2, (by show 0 < 5; decide), (by show 5 ≤ 1000; decide), by omega, Sb.same (Same.new hp3), fun xn Hc hxn Sc kpc => ?_⟩⟩
    have kp3 : Kp st lg Hb Hc := (Kp.same (Same.new hp3)).trans kpc
    have oddN : Odd K Hc st lg xn 1 16 := by
      simp only [List.mem_cons, List.not_mem_nil, or_false] at hxn
      rcases hxn with h | h | h | h | h <;> subst h
      · exact .flat (.int _) (fun _ z => by cases z) (by decide)
      · exact .flat (.int _) (fun _ z => by cases z) (by decide)
      · exact .flat (.bl _) (fun _ z => by cases z) rfl
      · exact .flat .non (fun _ z => by cases z) rfl
      · exact .flat (.str _) (fun _ z => by cases z) rfl
    have Tbc := tabs_kp Tbb Sb kp3
    clear hxn
    have oO : Odd K Hc st lg xo (-32767) 32767 := oddA.kpN ((KpN.kp kp2).trans (.kp kp3))
    have oW : Odd K Hc st lg xw 0 7 := oddB.kpN (.kp kp3)
    have kpc : KpN st lg H Hc := (KpN.kp kp1).trans ((KpN.kp kp2).trans (.kp kp3))
    clear oddA oddB kp1 kp2 kp3 Tba Tbb
    -- folded(odd)
    refine caught_err (m' := m + 3) T T.BadNumber Tbc Sc (fun H1 E1 Q1 e1 S1 k1 => ?_) (fun a1 Hd Sd Td kpd hd1 nd1 nd1' => ?_)
    · obtain ⟨b, pb⟩ := (oO.kpN (.ext e1)).pl
      exact ⟨_, rfl, xo, b, rfl, pb, fun i e h1 h2 => (oO.not e h1 h2).elim, fun _ => k1 H1 Kp.refl S1⟩
    have oO := oO.kpN kpd
    have oW := oW.kpN kpd
    have oN := oddN.kpN kpd
    have kpd := kpc.trans kpd
    -- long_bits(odd)
    refine caught_err (m' := m + 3) T T.BadNumber Td Sd (fun H1 E1 Q1 e1 S1 k1 => ?_) (fun a2 He Se Te kpe he2 ne2 ne2' => ⟨(by show 2 ≤ sizeLine; decide), fun er her => ?_⟩)
    · obtain ⟨b, pb⟩ := (oO.kpN (.ext e1)).pl
      exact ⟨_, rfl, xo, b, rfl, pb, fun i f e h1 h2 => (oO.not e (fold_lo h1 h2) (fold_hi h1 h2)).elim, fun _ => k1 H1 Kp.refl S1⟩
    have oO := oO.kpN kpe
    have oW := oW.kpN kpe
    have oN := oN.kpN kpe
    have hd1 := kpe _ _ hd1 nd1 nd1' exV_tbl
    have kpe := kpd.trans kpe
    have n1 := (Se.off her).1
    have n2 := (Se.off her).2
    have n3 := offc Se her
    have free := kpe.free her n1 n2
    have R : Errs (upd He er (.lst [.ref a1, .ref a2])) st lg er T.BadNumber.C [a1, a2] :=
      ⟨upd_same, n1, n2, fun a ha => by
        simp only [List.mem_cons, List.not_mem_nil, or_false] at ha
        rcases ha with h | h <;> subst h
        · exact ⟨(upd_ne (ne_of_none hd1 her)).trans hd1, nd1, nd1'⟩
        · exact ⟨(upd_ne (ne_of_none he2 her)).trans he2, ne2, ne2'⟩⟩
    have kpf : KpN st lg He (upd He er (.lst [.ref a1, .ref a2])) := .new her
    have S := Se.same (Same.new (o := .lst [.ref a1, .ref a2]) her)
    have Tb := Te.ext (Same.new (o := .lst [.ref a1, .ref a2]) her)
    have oO := oO.kpN kpf
    have oW := oW.kpN kpf
    have oN := oN.kpN kpf
    have kp := kpe.trans kpf
    generalize upd He er (.lst [.ref a1, .ref a2]) = H1 at R S Tb oO oW oN kp ⊢
    clear kpf kpe he2 hd1 her Te Se Sd Td Sc Tbc kpd kpc oddN Sa Sb S0 S1
    -- errors.append(grade_bits(odd, wrong))
    refine ⟨_, rfl, .inl ⟨rfl, _, SqL.of R.l⟩, ?_⟩
    refine caught_err (m' := m + 3) T T.BadNumber Tb S (fun H2 E2 Q2 e2 S2 k2 => ?_) (fun a3 H3 S3 T3 kp3 h3 m1 m2 => ?_)
    · obtain ⟨b, pb⟩ := (oO.kpN (.ext e2)).pl
      obtain ⟨b', pb'⟩ := (oW.kpN (.ext e2)).pl
      exact ⟨_, rfl, _, rfl, xo, b, xw, b', rfl, pb, pb', fun _ => k2 H2 Kp.refl S2, fun i f e h1 h2 => (oO.not e (fold_lo h1 h2) (fold_hi h1 h2)).elim⟩
    have R3 := R.kpN kp3
    refine ⟨er, _, _, rfl, rfl, R3.l, (by show 2 < sizeLine; decide), ?_⟩
    have R4 := R3.app h3 m1 m2
    have kpA : KpN st lg H (upd H3 er (.lst ([a1, a2].map V.ref ++ [.ref a3]))) := (kp.trans kp3).upd free
    have S4 := stAt_upd (ys := [a1, a2].map V.ref ++ [.ref a3]) S3 R3.l n1 n2 n3
    have T4 := tabs_upd (ys := [a1, a2].map V.ref ++ [.ref a3]) T3 R3.l
    have oO := (oO.kpN kp3).updL (ys := [a1, a2].map V.ref ++ [.ref a3]) R3.l
    have oW := (oW.kpN kp3).updL (ys := [a1, a2].map V.ref ++ [.ref a3]) R3.l
    have oN := (oN.kpN kp3).updL (ys := [a1, a2].map V.ref ++ [.ref a3]) R3.l
    generalize upd H3 er (.lst ([a1, a2].map V.ref ++ [.ref a3])) = H1 at R4 S4 T4 oO oW oN kpA ⊢
    clear R3 T3 S3 kp3 h3 kp R S Tb
    -- errors.append(unfolded(pick(..)))
    refine ⟨_, rfl, .inl ⟨rfl, _, SqL.of R4.l⟩, ?_⟩
    refine caught_err (m' := m + 4) T T.BadNumber T4 S4 (fun H2 E2 Q2 e2 S2 k2 => ?_) (fun a4 H3 S3 T3 kp3 h3 m1 m2 => ?_)
    · refine ⟨_, rfl, _, rfl, (by show 5 ≤ sizeLine; decide), fun p hp => ⟨st, lg, cl, p, _, m + 3, rfl, upd_same, (S2.off hp).2, (by show 0 < 5; decide), (by show 5 ≤ 1000; decide), by omega, S2.same (Same.new hp), fun x H3 hx S3 kp3 => ?_⟩⟩
      have o : Odd K H3 st lg x 0 65534 := by
        simp only [List.mem_cons, List.not_mem_nil, or_false] at hx
        rcases hx with h | h | h | h | h <;> subst h
        · exact .flat (.int _) (fun _ z => by cases z) (by decide)
        · exact .flat (.int _) (fun _ z => by cases z) (by decide)
        · exact .flat (.bl _) (fun _ z => by cases z) rfl
        · exact .flat .non (fun _ z => by cases z) rfl
        · exact .flat (.str _) (fun _ z => by cases z) rfl
      obtain ⟨b, pb⟩ := o.pl
      exact ⟨x, b, rfl, pb, fun i e h1 h2 => (o.not e h1 h2).elim, fun _ => k2 H3 ((Kp.same (Same.new hp)).trans kp3) S3⟩
    have R3 := R4.kpN kp3
    refine ⟨er, _, _, rfl, rfl, R3.l, (by show 3 < sizeLine; decide), ?_⟩
    have R5 := R3.app h3 m1 m2
    have kpB : KpN st lg H (upd H3 er (.lst (([a1, a2] ++ [a3]).map V.ref ++ [.ref a4]))) := (kpA.trans kp3).upd free
    have S5 := stAt_upd (ys := ([a1, a2] ++ [a3]).map V.ref ++ [.ref a4]) S3 R3.l n1 n2 n3
    have T5 := tabs_upd (ys := ([a1, a2] ++ [a3]).map V.ref ++ [.ref a4]) T3 R3.l
    have oO := (oO.kpN kp3).updL (ys := ([a1, a2] ++ [a3]).map V.ref ++ [.ref a4]) R3.l
    have oW := (oW.kpN kp3).updL (ys := ([a1, a2] ++ [a3]).map V.ref ++ [.ref a4]) R3.l
    have oN := (oN.kpN kp3).updL (ys := ([a1, a2] ++ [a3]).map V.ref ++ [.ref a4]) R3.l
    generalize upd H3 er (.lst (([a1, a2] ++ [a3]).map V.ref ++ [.ref a4])) = H1 at R5 S5 T5 oO oW oN kpB ⊢
    clear R3 T3 S3 kp3 h3 kpA R4 S4 T4 m1 m2
    -- errors.append(fixed_bits(pick(..), 4))
    refine ⟨_, rfl, .inl ⟨rfl, _, SqL.of R5.l⟩, ?_⟩
    refine caught_err (m' := m + 5) T T.BadNumber T5 S5 (fun H2 E2 Q2 e2 S2 k2 => ?_) (fun a5 H3 S3 T3 kp3 h3 m1 m2 => ?_)
    · refine ⟨_, rfl, _, rfl, (by show 5 ≤ sizeLine; decide), fun p hp => ⟨st, lg, cl, p, _, m + 4, rfl, upd_same, (S2.off hp).2, (by show 0 < 5; decide), (by show 5 ≤ 1000; decide), by omega, S2.same (Same.new hp), fun x H3 hx S3 kp3 => ?_⟩⟩
      have o : Odd K H3 st lg x 0 15 := by
        simp only [List.mem_cons, List.not_mem_nil, or_false] at hx
        rcases hx with h | h | h | h | h <;> subst h
        · exact .flat (.int _) (fun _ z => by cases z) (by decide)
        · exact .flat (.int _) (fun _ z => by cases z) (by decide)
        · exact .flat (.bl _) (fun _ z => by cases z) rfl
        · exact .flat .non (fun _ z => by cases z) rfl
        · exact .flat (.str _) (fun _ z => by cases z) rfl
      obtain ⟨b, pb⟩ := o.pl
      refine ⟨x, b, .int 4, true, rfl, pb, .int 4, (fun z => by cases z), fun mm e h1 h2 => ?_⟩
      have e4 : mm = 4 := by
        have := V.int.inj e
        omega
      subst e4
      exact ⟨fun _ => k2 H3 ((Kp.same (Same.new hp)).trans kp3) S3, fun n e h => (o.not e (by omega) (by omega)).elim⟩
    have R3 := R5.kpN kp3
    refine ⟨er, _, _, rfl, rfl, R3.l, (by show 4 < sizeLine; decide), ?_⟩
    have R6 := R3.app h3 m1 m2
    have kpC : KpN st lg H (upd H3 er (.lst (([a1, a2] ++ [a3] ++ [a4]).map V.ref ++ [.ref a5]))) := (kpB.trans kp3).upd free
    have S6 := stAt_upd (ys := ([a1, a2] ++ [a3] ++ [a4]).map V.ref ++ [.ref a5]) S3 R3.l n1 n2 n3
    have T6 := tabs_upd (ys := ([a1, a2] ++ [a3] ++ [a4]).map V.ref ++ [.ref a5]) T3 R3.l
    have oO := (oO.kpN kp3).updL (ys := ([a1, a2] ++ [a3] ++ [a4]).map V.ref ++ [.ref a5]) R3.l
    have oW := (oW.kpN kp3).updL (ys := ([a1, a2] ++ [a3] ++ [a4]).map V.ref ++ [.ref a5]) R3.l
    have oN := (oN.kpN kp3).updL (ys := ([a1, a2] ++ [a3] ++ [a4]).map V.ref ++ [.ref a5]) R3.l
    generalize upd H3 er (.lst (([a1, a2] ++ [a3] ++ [a4]).map V.ref ++ [.ref a5])) = H1 at R6 S6 T6 oO oW oN kpC ⊢
    clear R3 T3 S3 kp3 h3 kpB R5 S5 T5 m1 m2
    generalize [a1, a2] ++ [a3] ++ [a4] ++ [a5] = as at R6
    refine ⟨fun σ' H' => σ' = [some (.ref st), some (.int i), some (.int g), some (.ref er), some xn, some xo, some xw, none] ∧ StAt H' st lg cl (m + 5) ∧ Tabs (tabs Pt) H' ∧ Odd K H' st lg xo (-32767) 32767 ∧ Odd K H' st lg xw 0 7 ∧ Odd K H' st lg xn 1 16 ∧ KpN st lg H H', ?_, ?_⟩
    · refine ⟨_, rfl, er, rfl, ⟨_, SqL.of R6.l⟩, fun D hD => lc_list (K := K) (a := er) (xs := as.map V.ref) (fun i H' => H' D = some (.lst []) ∧ Same H1 H') ⟨upd_same, Same.new hD⟩ (fun i H' _ h => h.2.seq (SqL.of R6.l)) ?_ ?_⟩
      · rintro j x H' hx ⟨h1, h2⟩
        obtain ⟨a, ha, rfl⟩ : ∃ a, a ∈ as ∧ x = V.ref a := by
          obtain ⟨a, ha, e⟩ := List.mem_map.mp (List.mem_of_getElem? hx)
          exact ⟨a, ha, e.symm⟩
        refine ⟨rfl, _, rfl, .inr ⟨a, T.BadNumber.C, _, _, true, rfl, h2 _ _ (R6.e a ha).1, T.BadNumber.e, .own _, kit_self, _, rfl, ?_⟩⟩
        exact iteF ⟨h1, h2⟩
      · rintro H2 ⟨h1, h2⟩
        refine ⟨by decide, fun p hp => ?_⟩
        refine ⟨_, _, dp_nil ((Same.new hp) _ _ h1), dp_nil upd_same, shaped_nil, shaped_nil, _, rfl, ?_⟩
        have sm := h2.trans (Same.new (o := .lst []) hp)
        exact iteF ⟨rfl, S6.same sm, T6.ext sm, oO.same sm, oW.same sm, oN.same sm, kpC.trans (.kp (.same sm))⟩
    clear R6 S6 T6 oO oW oN kpC
    rintro σ' H1 ⟨rfl, S6, T6, oO, oW, oN, kpC⟩
    -- grade_bits(item, wrong)
    refine caught_err (m' := m + 5) T T.BadGrade T6 S6 (fun H2 E2 Q2 e2 S2 k2 => ?_) (fun a6 H3 S3 T3 kp3 h3 m1 m2 => ?_)
    · obtain ⟨b', pb'⟩ := (oW.kpN (.ext e2)).pl
      refine ⟨_, rfl, _, rfl, .int i, true, xw, b', rfl, .int i, pb', fun z => ?_, fun i' f' e h1 h2 => ⟨fun _ => k2 H2 Kp.refl S2, fun g' e3 h3 => (oW.not e3 (by omega) (by omega)).elim⟩⟩
      simp [within, hi1, hi2] at z
    refine .inr ⟨a6, T.BadGrade.C, _, _, true, rfl, h3, T.BadGrade.e, .own _, kit_self, _, rfl, ?_⟩
    refine iteF ?_
    have oO := oO.kpN kp3
    have oN := oN.kpN kp3
    -- fixed_bits(odd, none)
    refine caught_err (m' := m + 5) T T.BadMany T3 S3 (fun H2 E2 Q2 e2 S2 k2 => ?_) (fun a7 H4 S4 T4 kp4 h4 l1 l2 => ?_)
    · obtain ⟨b, pb⟩ := (oO.kpN (.ext e2)).pl
      obtain ⟨b', pb'⟩ := (oN.kpN (.ext e2)).pl
      exact ⟨_, rfl, _, rfl, xo, b, xn, b', rfl, pb, pb', fun _ => k2 H2 Kp.refl S2, fun mm e h1 h2 => (oN.not e (by omega) (by omega)).elim⟩
    exact .inr ⟨a7, T.BadMany.C, _, _, true, rfl, h4, T.BadMany.e, .own _, kit_self, k H4 S4 T4 ((kpC.trans kp3).trans kp4)⟩
end
end K01
namespace K01
open PySem PySem.Spec PyProof.Rows L2 PySem.W LamX KA
open Builtin Builtin.Str
/-! ### what the law's own body reckons with -/
theorem unfold_fold (i : Int) : unfoldI (foldI i) = i := by
  unfold unfoldI
  rw [bitAnd_m1]
  unfold foldI
  by_cases h : i > 0
  · rw [if_pos h]
    have e : (2 * i - 1) % 2 = 1 := by omega
    rw [e]
    show (2 * i - 1 + 1) / 2 = i
    omega
  · rw [if_neg h]
    have e : (-2 * i) % 2 = 0 := by omega
    rw [e]
    show -((-2 * i) / 2) = i
    omega
/-- made of 0 and 1 -/
def Ones (s : Str) : Prop := ∀ c ∈ s.cps.toList, c = 48 ∨ c = 49
theorem Ones.app {x y : Str} (h : Ones x) (k : Ones y) : Ones (x ++ y) := fun c hc => by
  have e : (x ++ y).cps = x.cps ++ y.cps := rfl
  rw [e, Array.toList_append] at hc
  rcases List.mem_append.mp hc with q | q
  · exact h c q
  · exact k c q
theorem ones_ones (n : Nat) : Ones (onesT n) := fun c hc => by
  have : c ∈ List.replicate n 49 := by simpa [onesT] using hc
  exact .inr (List.eq_of_mem_replicate this)
theorem bitsL_mem : ∀ (k n c : Nat), c ∈ bitsL k n → c = 48 ∨ c = 49
  | 0, _, _, h => by cases h
  | k + 1, n, c, h => by
    rw [bitsL] at h
    rcases List.mem_append.mp h with q | q
    · exact bitsL_mem k _ c q
    · have : c = 48 + n % 2 := by simpa using q
      omega
theorem ones_twos (m n : Nat) : Ones (twosT m n) := fun c hc => bitsL_mem m n c (by simpa [twosT] using hc)
theorem binL_mem : ∀ (n c : Nat), c ∈ binL n → c = 48 ∨ c = 49 := by
  intro n
  induction n using Nat.strongRecOn with
  | _ n ih =>
    intro c h
    by_cases h2 : n < 2
    · rw [binL_lt h2] at h
      have : c = 48 + n := by simpa using h
      omega
    · rw [binL_ge (by omega)] at h
      rcases List.mem_append.mp h with q | q
      · exact ih (n / 2) (by omega) c q
      · have : c = 48 + n % 2 := by simpa using q
        omega
theorem ones_tail (n : Nat) : Ones ⟨(tailL n).toArray⟩ := fun c hc => by
  have h : c ∈ tailL n := by simpa using hc
  exact binL_mem n c (List.mem_of_mem_drop h)
theorem ones_zero : Ones "0" := fun c hc => by
  have e : ("0" : Str).cps.toList = [48] := rfl
  rw [e] at hc
  exact .inl (List.mem_singleton.mp hc)
theorem ones_one : Ones "1" := fun c hc => by
  have e : ("1" : Str).cps.toList = [49] := rfl
  rw [e] at hc
  exact .inr (List.mem_singleton.mp hc)
theorem ones_long (f : Nat) : Ones (longT f) := ((ones_ones _).app ones_zero).app (ones_tail _)
theorem ones_grade (f g : Nat) : Ones (gradeT f g) := by
  unfold gradeT
  split
  · exact (ones_ones _).app (ones_twos _ _)
  · exact ((ones_ones _).app ones_zero).app (ones_twos _ _)
/-! lengths -/
theorem binL_mono : ∀ (n m : Nat), m ≤ n → (binL m).length ≤ (binL n).length := by
  intro n
  induction n using Nat.strongRecOn with
  | _ n ih =>
    intro m h
    by_cases h2 : m < 2
    · rw [binL_lt h2]
      exact List.length_pos_iff.mpr (binL_ne n)
    · rw [binL_ge (n := m) (by omega), binL_ge (n := n) (by omega)]
      have := ih (n / 2) (by omega) (m / 2) (by omega)
      simp
      omega
theorem tailL_len (n : Nat) : (tailL n).length = (binL n).length - 1 := by
  unfold tailL
  exact List.length_drop
theorem longT_len (f : Nat) : (longT f).length = 2 * (tailL (f + 1)).length + 1 := by
  unfold longT
  rw [len_app, len_app, onesT_len]
  have e1 : ("0" : Str).length = 1 := rfl
  have e2 : (⟨(tailL (f + 1)).toArray⟩ : Str).length = (tailL (f + 1)).length := by simp [Str.length]
  omega
theorem longT_mono {f f' : Nat} (h : f ≤ f') : (longT f).length ≤ (longT f').length := by
  rw [longT_len, longT_len, tailL_len, tailL_len]
  have := binL_mono (f' + 1) (f + 1) (by omega)
  omega
theorem longT_le {f : Nat} (h : f < 65535) : (longT f).length ≤ 100 := by
  rw [longT_len, tailL_len]
  have := binL_le 16 (f + 1) (by decide) (by omega)
  omega
theorem gradeT_len (f g : Nat) : (gradeT f g).length = if 12 ≤ f / 2 ^ g then 28 else f / 2 ^ g + 1 + g := by
  unfold gradeT
  split
  · rw [len_app, onesT_len, twosT_len]
  · rw [len_app, len_app, onesT_len, twosT_len]
    have e1 : ("0" : Str).length = 1 := rfl
    omega
theorem gradeT_le {f g : Nat} (h : g ≤ 7) : (gradeT f g).length ≤ 28 := by
  rw [gradeT_len]
  generalize f / 2 ^ g = q
  split <;> omega
theorem gradeT_mono {f f' g : Nat} (h : f ≤ f') (hg : g ≤ 7) : (gradeT f g).length ≤ (gradeT f' g).length := by
  rw [gradeT_len, gradeT_len]
  have := Nat.div_le_div_right (c := 2 ^ g) h
  generalize f / 2 ^ g = q at this ⊢
  generalize f' / 2 ^ g = q' at this ⊢
  split <;> split <;> omega
/-! texts without 0 and 1 at the ends -/
theorem whole_takes {p : Nat → Bool} : ∀ l : List Nat, (∀ c ∈ l, p c = true) → l.takeWhile p = l
  | [], _ => rfl
  | c :: r, h => by rw [List.takeWhile_cons, h c List.mem_cons_self, if_pos rfl, whole_takes r fun d hd => h d (List.mem_cons_of_mem _ hd)]
theorem strip_ones {s : Str} (h : Ones s) : Txt.stripChars s "01" = "" := by
  have hg : ∀ c ∈ s.cps.toList, ("01" : Str).cps.contains c = true := fun c hc => by
    rcases h c hc with e | e <;> (subst e; decide +kernel)
  have hl : stripLo ("01" : Str).cps.contains true s = s.length := by
    have e : s.cps.toList.takeWhile ("01" : Str).cps.contains = s.cps.toList := whole_takes _ hg
    simp only [stripLo, if_true]
    rw [e]
    simp [Str.length]
  unfold Txt.stripChars
  rw [PyProof.Rows.stripBy_eq, hl]
  have hh := (hi_facts ("01" : Str).cps.contains s s.length (Nat.le_refl _))
  have e : stripHi ("01" : Str).cps.contains true s s.length = s.length := by omega
  rw [e]
  unfold strSub
  have : s.cps.extract s.length s.length = #[] := by
    simp
    exact Nat.min_le_left _ _
  rw [this]
  rfl
theorem isBits_ones {s : Str} (h : Ones s) : isBits (.str s) = true := by
  show decide (V.str (Txt.stripChars s "01") = V.str "") = true
  rw [strip_ones h]
  exact decide_eq_true rfl
theorem strip_two (s : Str) : Txt.stripChars (s ++ "2") "01" ≠ "" := by
  have hn : (s ++ "2").length = s.length + 1 := len_app s "2"
  have hlast : (s ++ "2").cps.getD s.length 0 = 50 := by
    have e : (s ++ "2").cps = s.cps ++ #[50] := rfl
    rw [e]
    simp [Array.getD, Str.length]
  have hno : ("01" : Str).cps.contains 50 = false := by decide +kernel
  obtain ⟨l1, l2, l3⟩ := lo_facts ("01" : Str).cps.contains (s ++ "2")
  have hlo : stripLo ("01" : Str).cps.contains true (s ++ "2") ≤ s.length := by
    refine Nat.le_of_not_lt fun z => ?_
    have := l2 s.length z
    rw [hlast, hno] at this
    cases this
  obtain ⟨k1, k2, k3, k4⟩ := hi_facts ("01" : Str).cps.contains (s ++ "2") _ l1
  have hhi : stripHi ("01" : Str).cps.contains true (s ++ "2") (stripLo ("01" : Str).cps.contains true (s ++ "2")) = s.length + 1 := by
    refine Nat.le_antisymm (by omega) (Nat.le_of_not_lt fun z => ?_)
    have := k3 s.length (by omega) (by omega)
    rw [hlast, hno] at this
    cases this
  intro z
  unfold Txt.stripChars at z
  rw [PyProof.Rows.stripBy_eq, hhi] at z
  have zl := congrArg Str.length z
  have e0 : ("" : Str).length = 0 := rfl
  rw [e0] at zl
  unfold strSub at zl
  have e1 : ∀ i j : Nat, (⟨(s ++ "2").cps.extract i j⟩ : Str).length = min j (s ++ "2").length - i := fun i j => Array.size_extract
  rw [e1, hn] at zl
  omega
theorem isBits_two (s : Str) : isBits (.str (s ++ "2")) = false := by
  show decide (V.str (Txt.stripChars (s ++ "2") "01") = V.str "") = false
  exact decide_eq_false fun z => strip_two s (V.str.inj z)
theorem join_ones : ∀ ys : List Str, (∀ y ∈ ys, Ones y) → Ones (Txt.join "" ys) := by
  intro ys h c hc
  have key : ∀ (l : List Str) (acc : Array Nat), (∀ y ∈ l, Ones y) → (∀ c ∈ acc.toList, c = 48 ∨ c = 49) → ∀ c ∈ (l.foldl (fun acc p => acc ++ ("" : Str).cps ++ p.cps) acc).toList, c = 48 ∨ c = 49 := by
    intro l
    induction l with
    | nil => intro acc _ h2; exact h2
    | cons y r ih =>
      intro acc h1 h2
      rw [List.foldl_cons]
      refine ih _ (fun z hz => h1 z (List.mem_cons_of_mem _ hz)) fun c hc => ?_
      have e : ("" : Str).cps = #[] := rfl
      rw [e, Array.append_empty, Array.toList_append] at hc
      rcases List.mem_append.mp hc with q | q
      · exact h2 c q
      · exact h1 y List.mem_cons_self c q
  unfold Txt.join glued at hc
  cases ys with
  | nil => exact key [] _ (fun _ z => by cases z) (fun c z => by cases z) c hc
  | cons y r => exact key r y.cps (fun z hz => h z (List.mem_cons_of_mem _ hz)) (h y List.mem_cons_self) c hc
/-! what repr shows -/
theorem small_fits {d : PyData} (hl : d.leavesShort 13 = true) (hw : d.weight ≤ 2 ^ 20) : d.shown.length ≤ sizeLine := PyData.shown_fits (by decide) (by decide) hl hw
theorem int_small {i : Int} (h1 : -65535 ≤ i) (h2 : i ≤ 65535) : (PyData.int i).leavesShort 13 = true ∧ (PyData.int i).weight ≤ 17 ∧ (PyData.int i).showable = true := by
  have hn : i.natAbs < 2 ^ 17 := by omega
  have hl : i.natAbs.log2 ≤ 17 := by
    rcases Nat.eq_zero_or_pos i.natAbs with z | z
    · rw [z]
      decide
    · exact Nat.le_of_lt ((Nat.log2_lt (by omega)).mpr hn)
  have hl2 : i.natAbs.log2 < 17 ∨ i.natAbs = 0 := by
    rcases Nat.eq_zero_or_pos i.natAbs with z | z
    · exact .inr z
    · exact .inl ((Nat.log2_lt (by omega)).mpr hn)
  refine ⟨?_, ?_, ?_⟩
  · simp only [PyData.leavesShort, decide_eq_true_eq]
    exact PyData.shown_int_le (by omega)
  · simp only [PyData.weight]
    split
    · omega
    · rename_i c
      rcases hl2 with q | q
      · omega
      · exact absurd (by simpa using q) c
  · simp only [PyData.showable, decide_eq_true_eq]
    omega
theorem str_small {s : Str} (h : Ones s) (hl : s.length ≤ 1000) : (PyData.str s).leavesShort 13 = true ∧ (PyData.str s).weight ≤ 1000 ∧ (PyData.str s).showable = true := by
  refine ⟨?_, hl, rfl⟩
  simp only [PyData.leavesShort, List.all_eq_true, decide_eq_true_eq]
  intro c hc
  have e : (16 : Nat) ^ 8 = 4294967296 := by decide
  rcases h c hc with q | q <;> omega
/-- a list of small data can be shown -/
structure Small (d : PyData) : Prop where
  l : d.leavesShort 13 = true
  w : d.weight ≤ 1000
  s : d.showable = true
  n : d.hasDict = false
  z : d.depth = 0
theorem small_int {i : Int} (h1 : -65535 ≤ i) (h2 : i ≤ 65535) : Small (.int i) := by
  obtain ⟨a, b, c⟩ := int_small h1 h2
  exact ⟨a, by omega, c, rfl, rfl⟩
theorem small_str {s : Str} (h : Ones s) (hl : s.length ≤ 1000) : Small (.str s) := by
  obtain ⟨a, b, c⟩ := str_small h hl
  exact ⟨a, b, c, rfl, rfl⟩
theorem small_list : ∀ ds : List PyData, (∀ d ∈ ds, Small d) → PyData.leavesShortAll 13 ds = true ∧ PyData.weightAll ds ≤ 1001 * ds.length ∧ PyData.showableAll ds = true ∧ PyData.hasDictAll ds = false ∧ PyData.depthAll ds = 0
  | [], _ => ⟨rfl, Nat.zero_le _, rfl, rfl, rfl⟩
  | d :: r, h => by
    obtain ⟨a, b, c, e, f⟩ := small_list r fun x hx => h x (List.mem_cons_of_mem _ hx)
    obtain ⟨a', b', c', e', f'⟩ := h d List.mem_cons_self
    refine ⟨by simp [PyData.leavesShortAll, a, a'], ?_, by simp [PyData.showableAll, c, c'], by simp [PyData.hasDictAll, e, e'], by simp [PyData.depthAll, f, f']⟩
    simp only [PyData.weightAll, List.length_cons]
    omega
/-- repr of such a list -/
theorem repr_small {K : PySem.W.Frag} {H : Hp} {x : Addr} {vs : List V} {ds : List PyData} {Q : VK} (hd : SqL K H x vs) (ha : DpAll K H vs ds) (h : ∀ d ∈ ds, Small d) (hl : ds.length ≤ 10) (q : Q (.str (PyData.list ds).shown) H) : rRepr K [.ref x] H Q := by
  obtain ⟨a, b, c, e, f⟩ := small_list ds h
  refine ⟨x, .list ds, rfl, .lst hd ha, by simpa only [PyData.showable] using c, by simpa only [PyData.hasDict] using e, ?_, small_fits (by simpa only [PyData.leavesShort] using a) ?_, q⟩
  · simp only [PyData.depth]
    omega
  · simp only [PyData.weight]
    have : (2 : Nat) ^ 20 = 1048576 := by decide
    omega
end K01
namespace K01
open PySem PySem.Spec PyProof.Rows L2 PySem.W LamX KA
/-! ### the promises at the law's own numbers -/
section
variable {K : PySem.W.Frag} {H : Hp} {Q : VK} {E : XK} {C D : Addr} {i : Int} {f g m n : Nat}
theorem in_range {lo hi : Int} (h1 : lo ≤ i) (h2 : i ≤ hi) : within (.int i) lo hi = true := by simp [within, h1, h2]
theorem no_range {lo hi : Int} {A : Prop} (h1 : lo ≤ i) (h2 : i ≤ hi) (z : within (.int i) lo hi = false) : A := by
  rw [in_range h1 h2] at z
  cases z
theorem folded_ok (h1 : -32767 ≤ i) (h2 : i ≤ 32767) (q : Q (.int (foldI i)) H) : spFolded K C [.int i] H Q E :=
  ⟨.int i, true, rfl, .int i, fun j e _ _ => by
    cases e
    exact q, no_range h1 h2⟩
theorem unfolded_ok (h1 : 0 ≤ i) (h2 : i ≤ 65534) (q : Q (.int (unfoldI i)) H) : spUnfolded K C [.int i] H Q E :=
  ⟨.int i, true, rfl, .int i, fun j e _ _ => by
    cases e
    exact q, no_range h1 h2⟩
theorem long_ok (h1 : -32767 ≤ i) (h2 : i ≤ 32767) (e : foldI i = f) (q : Q (.str (longT f)) H) : spLong K C [.int i] H Q E :=
  ⟨.int i, true, rfl, .int i, fun j f' e1 e2 _ => by
    cases e1
    have : f' = f := by omega
    subst this
    exact q, no_range h1 h2⟩
theorem grade_ok (h1 : -32767 ≤ i) (h2 : i ≤ 32767) (e : foldI i = f) (hg : g ≤ 7) (q : Q (.str (gradeT f g)) H) : spGrade K C D [.int i, .int g] H Q E :=
  ⟨.int i, true, .int g, true, rfl, .int i, .int g, no_range h1 h2, fun j f' e1 e2 _ => by
    cases e1
    have : f' = f := by omega
    subst this
    exact ⟨no_range (by omega) (by omega), fun g' e3 _ => by
      have : (g : Int) = g' := V.int.inj e3
      have : g' = g := by omega
      subst this
      exact q⟩⟩
theorem fixed_ok (h1 : 1 ≤ m) (h2 : m ≤ 16) (hn : n < 2 ^ m) (q : Q (.str (twosT m n)) H) : spFixed K C D [.int n, .int m] H Q E :=
  ⟨.int n, true, .int m, true, rfl, .int n, .int m, no_range (by omega) (by omega), fun m' e1 _ _ => by
    have : (m : Int) = m' := V.int.inj e1
    have : m' = m := by omega
    subst this
    have hp : ((2 ^ m' : Nat) : Int) = (2 : Int) ^ m' := by simp
    exact ⟨no_range (by omega) (by omega), fun n' e3 _ => by
      have : (n : Int) = n' := V.int.inj e3
      have : n' = n := by omega
      subst this
      exact q⟩⟩
theorem ite_same {x : V} {A B : Prop} {d : Decidable (x = x)} (h : B) : if (!@decide (x = x) d) = true then A else B := by
  rw [if_neg (by simp)]
  exact h
theorem ite_le {x y : Nat} {A B : Prop} {d : Decidable ((y : Int) < x)} (h : x ≤ y) (b : B) : if @decide ((y : Int) < x) d = true then A else B := by
  rw [if_neg (by simpa using h)]
  exact b
/-- repr of a list of small data -/
theorem repr_fits {ds : List PyData} (h : ∀ d ∈ ds, Small d) (hl : ds.length ≤ 10) : (PyData.list ds).showable = true ∧ (PyData.list ds).hasDict = false ∧ (PyData.list ds).depth ≤ 60 ∧ (PyData.list ds).shown.length ≤ sizeLine := by
  obtain ⟨a, b, c, e, f⟩ := small_list ds h
  refine ⟨by simpa only [PyData.showable] using c, by simpa only [PyData.hasDict] using e, ?_, small_fits (by simpa only [PyData.leavesShort] using a) ?_⟩
  · simp only [PyData.depth]
    omega
  · simp only [PyData.weight]
    have : (2 : Nat) ^ 20 = 1048576 := by decide
    omega
theorem dp_strs {K : PySem.W.Frag} {H : Hp} : ∀ ss : List Str, DpAll K H (ss.map V.str) (ss.map PyData.str)
  | [] => .nil
  | n :: r => .cons (.str n) (dp_strs r)
/-- a number nearer to 0 -/
def nearI (i : Int) : Int := if i > 0 then i - 1 else if 0 < i + 1 then 0 else i + 1
theorem near_fold (h1 : -32767 ≤ i) (h2 : i ≤ 32767) (e : foldI i = f) : ∃ f' : Nat, foldI (nearI i) = f' ∧ f' ≤ f ∧ -32767 ≤ nearI i ∧ nearI i ≤ 32767 := by
  refine ⟨(foldI (nearI i)).toNat, ?_, ?_, ?_, ?_⟩ <;> unfold foldI at * <;> unfold nearI <;> (repeat' split at *) <;> omega
end
end K01
namespace K01
open PySem PySem.Spec PyProof.Rows L2 PySem.W LamX KA
open Evl (pss_cut tCut)
def spLaw (K : PySem.W.Frag) (Pt : Addr) : Sp := fun vs H Q _ => ∃ (a : Addr) (ns : List Int), vs = [.ref a] ∧ SqL K H a (ns.map V.int) ∧ ns.length ≤ 63 ∧ Tabs (tabs Pt) H ∧ ∀ H', Q (.bl true) H'
section
variable {P : Program} {w : World} {K : PySem.W.Frag} {mg : Str → Option Value} {base : Heap} (T : Top K mg)
theorem ok_law {c Pt : Addr} (LT : LamT K "_law_refused" s__law_refused T._law_refused.a T._law_refused.d c Pt) (TB : TabB base mg c Pt) : FnG P w K mg base (L2.CX P w) 10 T.law.a T.law.d ["script"] (spLaw K Pt) := by
  refine fnG_of T.law.f sc_law (fun vs H Q E h => ?_) (fun cdv A outer s H vs Q E hr hg h => ?_)
  · obtain ⟨a, ns, rfl, _⟩ := h
    rfl
  · obtain ⟨a, ns, rfl, hS, hl, Tb, k⟩ := h
    refine ⟨_, pss_cons (ps_set (i := 1) sc_law.nd rfl (.inr rfl) (pe_call (ok_begun T) (hr.mono (by decide)) (by rfl) T._law_begun.m T._law_begun.f.kp (bd__law_begun T) .nil passE (pa_cons (pv 0) pa_nil)))
      (pss_cons (ps_for (passes_of rfl) rfl (pi_range1 (by rfl) T.b_range (pa_cons (pe_op op_add pe_int (pe_callB (call_min2 rfl) (by rfl) T.b_min PyProof.Rows.boot_min (pa_cons (pe_callB call_len_seq (by rfl) T.b_len PySem.boot_len (pa_cons (pv 0) pa_nil)) (pa_cons pe_int pa_nil)))) pa_nil)) (pg_name (i := 2) sc_law.nd rfl (.inl rfl))
        (pss_cons (ps_par3 (i := 3) (j := 4) (l := 5) rfl sc_law.nd rfl rfl rfl (by decide) (by decide) (by decide) rfl rfl rfl (pa_cons (pe_call (ok_item T) (hr.mono (by decide)) (by rfl) T._law_item.m T._law_item.f.kp (bd__law_item T) .nil passE (pa_cons (pv 1) pa_nil)) (pa_cons (pe_call (ok_draw T) (hr.mono (by decide)) (by rfl) T._law_draw.m T._law_draw.f.kp (bd__law_draw T) .nil passE (pa_cons (pv 1) (pa_cons pe_int pa_nil))) (pa_cons (pe_op op_add pe_int (pe_call (ok_draw T) (hr.mono (by decide)) (by rfl) T._law_draw.m T._law_draw.f.kp (bd__law_draw T) .nil passE (pa_cons (pv 1) (pa_cons pe_int pa_nil)))) pa_nil))) rfl)
        (pss_cons (ps_set (i := 6) sc_law.nd rfl (.inl rfl) (pe_lst (pa_cons (pe_call (ok_folded T) (hr.mono (by decide)) (by rfl) T.folded.m T.folded.f.kp (bd_folded T) .nil passE (pa_cons (pv 3) pa_nil)) (pa_cons (pe_kw (ok_folded T) (hr.mono (by decide)) (by rfl) T.folded.m T.folded.f.kp (KA.Fun.kw1 T.folded.f fun _ _ _ _ _ _ _ => rfl) passE (pk_cons (pv 3) pk_nil)) (pa_cons (pe_call (ok_unfolded T) (hr.mono (by decide)) (by rfl) T.unfolded.m T.unfolded.f.kp (bd_unfolded T) .nil passE (pa_cons (pe_call (ok_lfold T) (hr.mono (by decide)) (by rfl) T._law_fold.m T._law_fold.f.kp (bd__law_fold T) .nil passE (pa_cons (pv 3) pa_nil)) pa_nil)) (pa_cons (pe_kw (ok_unfolded T) (hr.mono (by decide)) (by rfl) T.unfolded.m T.unfolded.f.kp (KA.Fun.kw1 T.unfolded.f fun _ _ _ _ _ _ _ => rfl) passE (pk_cons (pe_call (ok_lfold T) (hr.mono (by decide)) (by rfl) T._law_fold.m T._law_fold.f.kp (bd__law_fold T) .nil passE (pa_cons (pv 3) pa_nil)) pk_nil)) pa_nil))))))
        (pss_cut (ps_if (pt_cmpR op_ne (pe_callB (call_repr hg hr) (by rfl) T.b_repr (by decide +kernel) (pa_cons (pv 6) pa_nil)) (pe_callB (call_repr hg hr) (by rfl) T.b_repr (by decide +kernel) (pa_cons (pe_lst (pa_cons (pe_call (ok_lfold T) (hr.mono (by decide)) (by rfl) T._law_fold.m T._law_fold.f.kp (bd__law_fold T) .nil passE (pa_cons (pv 3) pa_nil)) (pa_cons (pe_call (ok_lfold T) (hr.mono (by decide)) (by rfl) T._law_fold.m T._law_fold.f.kp (bd__law_fold T) .nil passE (pa_cons (pv 3) pa_nil)) (pa_cons (pv 3) (pa_cons (pv 3) pa_nil))))) pa_nil)) (nomark _)) (pss_one (ps_ret pe_bl)) pss_nil)
        (pss_cons (ps_set (i := 6) sc_law.nd rfl (.inl rfl) (pe_lst (pa_cons (pe_call (ok_long_bits T) (hr.mono (by decide)) (by rfl) T.long_bits.m T.long_bits.f.kp (bd_long_bits T) .nil passE (pa_cons (pv 3) pa_nil)) (pa_cons (pe_kw (ok_long_bits T) (hr.mono (by decide)) (by rfl) T.long_bits.m T.long_bits.f.kp (KA.Fun.kw1 T.long_bits.f fun _ _ _ _ _ _ _ => rfl) passE (pk_cons (pv 3) pk_nil)) (pa_cons (pe_call (ok_grade_bits T) (hr.mono (by decide)) (by rfl) T.grade_bits.m T.grade_bits.f.kp (bd_grade_bits T) .nil passE (pa_cons (pv 3) (pa_cons (pv 4) pa_nil))) (pa_cons (pe_kw (ok_grade_bits T) (hr.mono (by decide)) (by rfl) T.grade_bits.m T.grade_bits.f.kp (KA.Fun.kw2 T.grade_bits.f fun _ _ _ _ _ _ _ _ => rfl) passE (pk_cons (pv 4) (pk_cons (pv 3) pk_nil))) pa_nil))))))
        (pss_cut (ps_if (pt_cmpR op_ne (pe_callB (call_repr hg hr) (by rfl) T.b_repr (by decide +kernel) (pa_cons (pv 6) pa_nil)) (pe_callB (call_repr hg hr) (by rfl) T.b_repr (by decide +kernel) (pa_cons (pe_op op_cat (pe_op op_rep (pe_lst (pa_cons (pe_call (ok_llong T) (hr.mono (by decide)) (by rfl) T._law_long.m T._law_long.f.kp (bd__law_long T) .nil passE (pa_cons (pv 3) pa_nil)) pa_nil)) pe_int) (pe_op op_rep (pe_lst (pa_cons (pe_call (ok_lgraded T) (hr.mono (by decide)) (by rfl) T._law_graded.m T._law_graded.f.kp (bd__law_graded T) .nil passE (pa_cons (pv 3) (pa_cons (pv 4) pa_nil))) pa_nil)) pe_int)) pa_nil)) (nomark _)) (pss_one (ps_ret pe_bl)) pss_nil)
        (pss_cons (ps_set (i := 7) sc_law.nd rfl (.inl rfl) (pe_call (ok_pick T) (hr.mono (by decide)) (by rfl) T._law_pick.m T._law_pick.f.kp (bd__law_pick T) .nil passE (pa_cons (pv 1) (pa_cons (pe_lst (pa_cons pe_int (pa_cons (pe_op op_sub (pe_call (ok_two T) (hr.mono (by decide)) (by rfl) T._law_two.m T._law_two.f.kp (bd__law_two T) .nil passE (pa_cons (pv 5) pa_nil)) pe_int) (pa_cons (pe_call (ok_draw T) (hr.mono (by decide)) (by rfl) T._law_draw.m T._law_draw.f.kp (bd__law_draw T) .nil passE (pa_cons (pv 1) (pa_cons (pe_call (ok_two T) (hr.mono (by decide)) (by rfl) T._law_two.m T._law_two.f.kp (bd__law_two T) .nil passE (pa_cons (pv 5) pa_nil)) pa_nil))) pa_nil)))) pa_nil))))
        (pss_cons (ps_set (i := 6) sc_law.nd rfl (.inl rfl) (pe_lst (pa_cons (pe_call (ok_fixed_bits T) (hr.mono (by decide)) (by rfl) T.fixed_bits.m T.fixed_bits.f.kp (bd_fixed_bits T) .nil passE (pa_cons (pv 7) (pa_cons (pv 5) pa_nil))) (pa_cons (pe_kw (ok_fixed_bits T) (hr.mono (by decide)) (by rfl) T.fixed_bits.m T.fixed_bits.f.kp (KA.Fun.kw2 T.fixed_bits.f fun _ _ _ _ _ _ _ _ => rfl) passE (pk_cons (pv 5) (pk_cons (pv 7) pk_nil))) pa_nil))))
        (pss_cut (ps_if (pt_cmpR op_ne (pe_callB (call_repr hg hr) (by rfl) T.b_repr (by decide +kernel) (pa_cons (pv 6) pa_nil)) (pe_callB (call_repr hg hr) (by rfl) T.b_repr (by decide +kernel) (pa_cons (pe_op op_rep (pe_lst (pa_cons (pe_call (ok_twos T) (hr.mono (by decide)) (by rfl) T._law_twos.m T._law_twos.f.kp (bd__law_twos T) .nil passE (pa_cons (pv 7) (pa_cons (pv 5) pa_nil))) pa_nil)) pe_int) pa_nil)) (nomark _)) (pss_one (ps_ret pe_bl)) pss_nil)
        (pss_cut (ps_set (i := 8) sc_law.nd rfl (.inl rfl) (pe_ifExp (pt_cmpR op_gt (pv 3) pe_int (nomark _)) (pe_op op_sub (pv 3) pe_int) (pe_callB (call_min2 rfl) (by rfl) T.b_min PyProof.Rows.boot_min (pa_cons (pe_op op_add (pv 3) pe_int) (pa_cons pe_int pa_nil)))))
        (pss_cut (ps_if (PW.pt (pw_or (pt_cmpR op_gt (pe_callB call_len_str (by rfl) T.b_len PySem.boot_len (pa_cons (pe_call (ok_long_bits T) (hr.mono (by decide)) (by rfl) T.long_bits.m T.long_bits.f.kp (bd_long_bits T) .nil passE (pa_cons (pv 8) pa_nil)) pa_nil)) (pe_callB call_len_str (by rfl) T.b_len PySem.boot_len (pa_cons (pe_call (ok_long_bits T) (hr.mono (by decide)) (by rfl) T.long_bits.m T.long_bits.f.kp (bd_long_bits T) .nil passE (pa_cons (pv 3) pa_nil)) pa_nil)) (nomark _)) (pw_or1 (pt_cmpR op_gt (pe_callB call_len_str (by rfl) T.b_len PySem.boot_len (pa_cons (pe_call (ok_grade_bits T) (hr.mono (by decide)) (by rfl) T.grade_bits.m T.grade_bits.f.kp (bd_grade_bits T) .nil passE (pa_cons (pv 8) (pa_cons (pv 4) pa_nil))) pa_nil)) (pe_callB call_len_str (by rfl) T.b_len PySem.boot_len (pa_cons (pe_call (ok_grade_bits T) (hr.mono (by decide)) (by rfl) T.grade_bits.m T.grade_bits.f.kp (bd_grade_bits T) .nil passE (pa_cons (pv 3) (pa_cons (pv 4) pa_nil))) pa_nil)) (nomark _))))) (pss_one (ps_ret pe_bl)) pss_nil)
        (pss_cut (ps_if (PW.pt (pw_or (pt_cmpR op_gt (pe_callB call_len_str (by rfl) T.b_len PySem.boot_len (pa_cons (pe_call (ok_grade_bits T) (hr.mono (by decide)) (by rfl) T.grade_bits.m T.grade_bits.f.kp (bd_grade_bits T) .nil passE (pa_cons (pv 3) (pa_cons (pv 4) pa_nil))) pa_nil)) pe_int (nomark _)) (pw_or1 (pt_not (pt_val (pe_call (ok_refused T LT TB) hr (by rfl) T._law_refused.m T._law_refused.f.kp (bd__law_refused T) .nil passE (pa_cons (pv 1) (pa_cons (pv 3) (pa_cons (pv 4) pa_nil))))))))) (pss_one (ps_ret pe_bl)) pss_nil)
        (pss_cut (ps_set (i := 9) sc_law.nd rfl (.inl rfl) (pe_join pe_str (pe_lc (own := [("spot", 11)]) (g := gName 11) rfl sc_law.nd (pi_range1 (by rfl) T.b_range (pa_cons (pe_call (ok_draw T) (hr.mono (by decide)) (by rfl) T._law_draw.m T._law_draw.f.kp (bd__law_draw T) .nil passE (pa_cons (pv 1) (pa_cons pe_int pa_nil))) pa_nil)) (blkOk_by (own := [("spot", 11)]) (N := ["script", "state", "turn", "item", "rung", "size_here", "told", "part", "nearer", "signs", "odd", "spot"]) (sc := defScope s_law) (by decide +kernel)) (fun _ _ _ _ _ => pg_name (i := 11) sc_law.nd rfl (Or.inl rfl)) (fun _ _ _ _ _ => pts_nil) (fun _ _ _ _ _ => (pe_call (ok_pick T) (hr.mono (by decide)) (by rfl) T._law_pick.m T._law_pick.f.kp (bd__law_pick T) .nil passE (pa_cons (pv 1) (pa_cons (pe_lst (pa_cons pe_str (pa_cons pe_str pa_nil))) pa_nil)))))))
        (pss_cut (ps_set (i := 10) sc_law.nd rfl (.inl rfl) (pe_call (ok_pick T) (hr.mono (by decide)) (by rfl) T._law_pick.m T._law_pick.f.kp (bd__law_pick T) .nil passE (pa_cons (pv 1) (pa_cons (pe_lst (pa_cons (pe_op op_add_str (pv 9) pe_str) (pa_cons pe_str (pa_cons pe_str (pa_cons pe_non (pa_cons pe_int (pa_cons pe_bl (pa_cons (pe_lst (pa_cons (pv 9) pa_nil)) (pa_cons (pe_tup (pa_cons pe_str pa_nil)) (pa_cons pe_dnewK (pa_cons pe_str (pa_cons pe_str pa_nil)))))))))))) pa_nil))))
        (pss_one (ps_if (PW.pt (pw_or (pt_cmpR op_notBl (pe_call (ok_is_bits T) (hr.mono (by decide)) (by rfl) T.is_bits.m T.is_bits.f.kp (bd_is_bits T) .nil passE (pa_cons (pv 9) pa_nil)) pe_bl (nomark _)) (pw_or (pt_cmpR op_notBl (pe_kw (ok_is_bits T) (hr.mono (by decide)) (by rfl) T.is_bits.m T.is_bits.f.kp (KA.Fun.kw1 T.is_bits.f fun _ _ _ _ _ _ _ => rfl) passE (pk_cons (pv 9) pk_nil)) pe_bl (nomark _)) (pw_or1 (pt_cmpR op_notBl (pe_call (ok_is_bits T) (hr.mono (by decide)) (by rfl) T.is_bits.m T.is_bits.f.kp (bd_is_bits T) .nil passE (pa_cons (pv 10) pa_nil)) pe_bl (nomark _)))))) (pss_one (ps_ret pe_bl)) pss_nil))))))))))))))))
      (pss_one (ps_ret pe_bl))), ?_⟩
    refine ⟨_, rfl, a, ns, rfl, hS, hl, fun st lg cl H1 S1 sm1 n1 n2 => ?_⟩
    have T1 := Tb.ext sm1
    clear Tb
    refine ⟨_, rfl, a, _, rfl, .inl (sm1.seq hS), _, _, rfl, _, _, rfl, rfl, _, rfl, by split <;> omega, by split <;> omega, for_range (n := _) (fun j σ H => StAt H st lg cl (100 * j) ∧ Tabs (tabs Pt) H ∧ ∃ v2 v3 v4 v5 v6 v7 v8 v9 v10 v11, σ = [some (.ref a), some (.ref st), v2, v3, v4, v5, v6, v7, v8, v9, v10, v11]) ⟨S1, T1, _, _, _, _, _, _, _, _, _, _, rfl⟩ ?_ fun σ H _ => k H⟩
    clear S1 T1 sm1 hS n1 n2 H1
    rintro j σ H hj ⟨S, Tb, v2, v3, v4, v5, v6, v7, v8, v9, v10, v11, rfl⟩
    have hj : j < 12 := by
      refine Nat.lt_of_lt_of_le hj ?_
      split <;> omega
    -- item, rung, size_here
    refine ⟨_, rfl, st, lg, cl, 100 * j, rfl, by omega, S, fun i Ha i1 i2 Sa kpa => ?_⟩
    refine ⟨_, rfl, st, lg, cl, 8, 100 * j + 4, rfl, by decide, by decide, by omega, Sa, fun g Hb hg8 Sb kpb => ?_⟩
    refine ⟨_, rfl, st, lg, cl, 16, 100 * j + 4 + 1, rfl, by decide, by decide, by omega, Sb, fun z Hc hz Sc kpc => ⟨_, _, rfl, rfl, _, _, _, rfl, ?_⟩⟩
    have Tc := tabs_kp Tb S ((kpa.trans kpb).trans kpc)
    obtain ⟨n, en, hn1, hn2⟩ : ∃ n : Nat, (1 : Int) + z = n ∧ 1 ≤ n ∧ n ≤ 16 := ⟨1 + z, by omega, by omega, by omega⟩
    show tSeq _ _ _ [some (V.ref a), some (V.ref st), some (V.int (0 + j)), some (V.int i), some (V.int g), some (V.int (1 + z)), v6, v7, v8, v9, v10, v11] Hc
    rw [en]
    clear en hz z Sa Sb S Tb kpa kpb kpc
    obtain ⟨f, ef, hf⟩ := foldI_nat i1 i2
    generalize e0 : 100 * j + 4 + 1 + 1 = m0 at Sc
    have hlim : m0 ≤ 2000 := by omega
    generalize some (V.int (0 + j)) = v2
    -- told: folded, unfolded
    have w1 : 0 ≤ foldI i := by omega
    have w2 : foldI i ≤ 65534 := by omega
    refine ⟨_, rfl, ?_⟩
    refine ⟨_, _, rfl, .int i, fun j' e _ _ => ?_, no_range i1 i2⟩
    cases e
    refine ⟨_, rfl, rfl, ?_⟩
    refine ⟨_, _, rfl, .int i, fun j' e _ _ => ?_, no_range i1 i2⟩
    cases e
    refine ⟨_, rfl, i, rfl, ?_⟩
    refine ⟨_, _, rfl, .int (foldI i), fun j' e _ _ => ?_, no_range w1 w2⟩
    cases e
    refine ⟨_, rfl, i, rfl, rfl, ?_⟩
    refine ⟨_, _, rfl, .int (foldI i), fun j' e _ _ => ?_, no_range w1 w2⟩
    cases e
    refine ⟨(by show 4 ≤ sizeLine; decide), fun p hp => ?_⟩
    show tCut _ _ _ [some (V.ref a), some (V.ref st), v2, some (V.int i), some (V.int g), some (V.int n), some (V.ref p), v7, v8, v9, v10, v11] (upd Hc p (.lst [V.int (foldI i), V.int (foldI i), V.int (unfoldI (foldI i)), V.int (unfoldI (foldI i))]))
    rw [unfold_fold]
    refine ⟨fun σ' H' => (∃ v6, σ' = [some (V.ref a), some (V.ref st), v2, some (V.int i), some (V.int g), some (V.int n), v6, v7, v8, v9, v10, v11]) ∧ StAt H' st lg cl m0 ∧ Tabs (tabs Pt) H', ?_, ?_⟩
    · have sm : ∀ d ∈ [PyData.int (foldI i), .int (foldI i), .int i, .int i], Small d := fun d hd => by
        simp only [List.mem_cons, List.not_mem_nil, or_false] at hd
        rcases hd with h | h | h | h <;> subst h <;> exact small_int (by omega) (by omega)
      obtain ⟨r1, r2, r3, r4⟩ := repr_fits sm (by show 4 ≤ 10; decide)
      refine ⟨_, rfl, p, _, rfl, .lst (SqL.of upd_same) (dp_ints [foldI i, foldI i, i, i]), r1, r2, r3, r4, ?_⟩
      refine ⟨_, rfl, i, rfl, _, rfl, i, rfl, _, rfl, _, rfl, (by show 4 ≤ sizeLine; decide), fun q hq => ?_⟩
      refine ⟨q, _, rfl, .lst (SqL.of upd_same) (dp_ints [foldI i, foldI i, i, i]), r1, r2, r3, r4, ?_⟩
      refine ⟨rfl, _, rfl, ite_same ⟨⟨_, rfl⟩, ?_, ?_⟩⟩
      · exact (Sc.same (Same.new hp)).same (Same.new hq)
      · exact (Tc.ext (Same.new hp)).ext (Same.new hq)
    clear Sc Tc hp p
    rintro σ H1 ⟨⟨v6, rfl⟩, Sc, Tc⟩
    -- told: long_bits, grade_bits
    refine ⟨_, rfl, ?_⟩
    refine ⟨_, _, rfl, .int i, fun j' f' e1 e2 _ => ?_, no_range i1 i2⟩
    cases e1
    obtain rfl : f = f' := by omega
    refine ⟨_, rfl, rfl, ?_⟩
    refine ⟨_, _, rfl, .int i, fun j' f' e1 e2 _ => ?_, no_range i1 i2⟩
    cases e1
    obtain rfl : f = f' := by omega
    refine ⟨_, rfl, _, rfl, ?_⟩
    refine ⟨_, _, _, _, rfl, .int i, .int g, no_range i1 i2, fun j' f' e1 e2 _ => ?_⟩
    cases e1
    obtain rfl : f = f' := by omega
    refine ⟨no_range (by omega) (by omega), fun g' e3 _ => ?_⟩
    obtain rfl : g = g' := by
      have := V.int.inj e3
      omega
    refine ⟨_, rfl, _, rfl, rfl, ?_⟩
    refine ⟨_, _, _, _, rfl, .int i, .int g, no_range i1 i2, fun j' f' e1 e2 _ => ?_⟩
    cases e1
    obtain rfl : f = f' := by omega
    refine ⟨no_range (by omega) (by omega), fun g' e3 _ => ?_⟩
    obtain rfl : g = g' := by
      have := V.int.inj e3
      omega
    refine ⟨(by show 4 ≤ sizeLine; decide), fun p hp => ?_⟩
    refine ⟨fun σ' H' => (∃ v6, σ' = [some (V.ref a), some (V.ref st), v2, some (V.int i), some (V.int g), some (V.int n), v6, v7, v8, v9, v10, v11]) ∧ StAt H' st lg cl m0 ∧ Tabs (tabs Pt) H', ?_, ?_⟩
    · have sm : ∀ d ∈ [PyData.str (longT f), .str (longT f), .str (gradeT f g), .str (gradeT f g)], Small d := fun d hd => by
        simp only [List.mem_cons, List.not_mem_nil, or_false] at hd
        have l1 := longT_le hf
        have l2 := gradeT_le (f := f) (show g ≤ 7 by omega)
        rcases hd with h | h | h | h <;> subst h
        · exact small_str (ones_long f) (by omega)
        · exact small_str (ones_long f) (by omega)
        · exact small_str (ones_grade f g) (by omega)
        · exact small_str (ones_grade f g) (by omega)
      obtain ⟨r1, r2, r3, r4⟩ := repr_fits sm (by show 4 ≤ 10; decide)
      refine ⟨_, rfl, p, _, rfl, .lst (SqL.of upd_same) (dp_strs [longT f, longT f, gradeT f g, gradeT f g]), r1, r2, r3, r4, ?_⟩
      refine ⟨_, rfl, i, f, rfl, ef, hf, (by show 1 ≤ sizeLine; decide), fun q1 h1 => ⟨q1, 2, _, rfl, rfl, upd_same, by decide, by decide, (by show 1 * 2 ≤ sizeLine; decide), fun q2 h2 => ?_⟩⟩
      refine ⟨_, rfl, _, rfl, i, f, g, rfl, ef, hf, by omega, (by show 1 ≤ sizeLine; decide), fun q3 h3 => ⟨q3, 2, _, rfl, rfl, upd_same, by decide, by decide, (by show 1 * 2 ≤ sizeLine; decide), fun q4 h4 => ?_⟩⟩
      refine ⟨q2, q4, _, _, rfl, rfl, (Same.new h4) _ _ ((Same.new h3) _ _ upd_same), upd_same, (by show 4 ≤ sizeLine; decide), fun q5 h5 => ?_⟩
      refine ⟨q5, _, rfl, .lst (SqL.of upd_same) (dp_strs [longT f, longT f, gradeT f g, gradeT f g]), r1, r2, r3, r4, ?_⟩
      exact ⟨rfl, _, rfl, ite_same ⟨⟨_, rfl⟩, ((((((Sc.same (Same.new hp)).same (Same.new h1)).same (Same.new h2)).same (Same.new h3)).same (Same.new h4)).same (Same.new h5)), ((((((Tc.ext (Same.new hp)).ext (Same.new h1)).ext (Same.new h2)).ext (Same.new h3)).ext (Same.new h4)).ext (Same.new h5))⟩⟩
    clear Sc Tc hp p
    rintro σ H1 ⟨⟨v6, rfl⟩, Sc, Tc⟩
    -- part
    have hp0 : 1 ≤ 2 ^ n := Nat.pow_pos (by decide)
    have hp1 := pow16 hn2
    have hp : ((2 ^ n : Nat) : Int) = (2 : Int) ^ n := by simp
    refine ⟨_, rfl, _, rfl, n, rfl, by omega, _, _, rfl, rfl, ?_⟩
    refine ⟨_, rfl, _, rfl, n, rfl, by omega, st, lg, cl, 2 ^ n, m0, rfl, hp0, Nat.lt_of_le_of_lt hp1 (by decide), by omega, Sc, fun d Hd hd Sd kpd => ⟨(by show 3 ≤ sizeLine; decide), fun p hp' => ?_⟩⟩
    refine ⟨st, lg, cl, p, _, m0 + 1, rfl, upd_same, (Sd.off hp').2, (by show 0 < 3; decide), (by show 3 ≤ 1000; decide), by omega, Sd.same (Same.new hp'), fun x He hx Se kpe => ?_⟩
    obtain ⟨r, hr', rfl⟩ : ∃ r : Nat, r < 2 ^ n ∧ x = .int r := by
      simp only [List.mem_cons, List.not_mem_nil, or_false] at hx
      rcases hx with h | h | h
      · exact ⟨0, hp0, h⟩
      · exact ⟨2 ^ n - 1, by omega, by rw [h]; congr 1; omega⟩
      · exact ⟨d, hd, h⟩
    have Te := tabs_kp Tc Sc ((kpd.trans (Kp.same (Same.new hp'))).trans kpe)
    clear hx Sc Tc hp' p Sd kpd kpe hd d
    -- told: fixed_bits
    refine ⟨_, rfl, _, rfl, ?_⟩
    refine ⟨_, _, _, _, rfl, .int r, .int n, no_range (by omega) (by omega), fun m' e1 _ _ => ?_⟩
    obtain rfl : n = m' := by
      have := V.int.inj e1
      omega
    refine ⟨no_range (by omega) (by omega), fun r' e3 _ => ?_⟩
    obtain rfl : r = r' := by
      have := V.int.inj e3
      omega
    refine ⟨_, rfl, _, rfl, rfl, ?_⟩
    refine ⟨_, _, _, _, rfl, .int r, .int n, no_range (by omega) (by omega), fun m' e1 _ _ => ?_⟩
    obtain rfl : n = m' := by
      have := V.int.inj e1
      omega
    refine ⟨no_range (by omega) (by omega), fun r' e3 _ => ?_⟩
    obtain rfl : r = r' := by
      have := V.int.inj e3
      omega
    refine ⟨(by show 2 ≤ sizeLine; decide), fun p hp' => ?_⟩
    refine ⟨fun σ' H' => (∃ v6, σ' = [some (V.ref a), some (V.ref st), v2, some (V.int i), some (V.int g), some (V.int n), v6, some (V.int r), v8, v9, v10, v11]) ∧ StAt H' st lg cl (m0 + 2) ∧ Tabs (tabs Pt) H', ?_, ?_⟩
    · have sm : ∀ d ∈ [PyData.str (twosT n r), .str (twosT n r)], Small d := fun d hd => by
        simp only [List.mem_cons, List.not_mem_nil, or_false] at hd
        rcases hd with h | h <;> subst h <;> exact small_str (ones_twos n r) (by rw [twosT_len]; omega)
      obtain ⟨r1, r2, r3, r4⟩ := repr_fits sm (by show 2 ≤ 10; decide)
      refine ⟨_, rfl, p, _, rfl, .lst (SqL.of upd_same) (dp_strs [twosT n r, twosT n r]), r1, r2, r3, r4, ?_⟩
      refine ⟨_, rfl, _, rfl, r, n, rfl, by omega, (by show 1 ≤ sizeLine; decide), fun q1 h1 => ⟨q1, 2, _, rfl, rfl, upd_same, by decide, by decide, (by show 1 * 2 ≤ sizeLine; decide), fun q2 h2 => ?_⟩⟩
      refine ⟨q2, _, rfl, .lst (SqL.of upd_same) (dp_strs [twosT n r, twosT n r]), r1, r2, r3, r4, ?_⟩
      exact ⟨rfl, _, rfl, ite_same ⟨⟨_, rfl⟩, (((Se.same (Same.new hp')).same (Same.new h1)).same (Same.new h2)), (((Te.ext (Same.new hp')).ext (Same.new h1)).ext (Same.new h2))⟩⟩
    clear Se Te hp' p He
    rintro σ H1 ⟨⟨v6, rfl⟩, S, Tb⟩
    -- nearer
    clear hp0 hp1 hp hr'
    obtain ⟨f2, ef2, hff, i3, i4⟩ := near_fold i1 i2 ef
    refine ⟨fun σ' H' => σ' = [some (V.ref a), some (V.ref st), v2, some (V.int i), some (V.int g), some (V.int n), v6, some (V.int r), some (V.int (nearI i)), v9, v10, v11] ∧ StAt H' st lg cl (m0 + 2) ∧ Tabs (tabs Pt) H', ?_, ?_⟩
    · refine ⟨_, rfl, _, _, rfl, rfl, _, rfl, ?_⟩
      by_cases c1 : i > 0
      · rw [show decide ((0 : Int) < i) = true from decide_eq_true c1]
        have en : i - 1 = nearI i := by
          unfold nearI
          rw [if_pos c1]
        exact iteT ⟨_, rfl, _, _, rfl, rfl, by dsimp only; rw [en]; exact ⟨rfl, S, Tb⟩⟩
      · rw [show decide ((0 : Int) < i) = false from decide_eq_false c1]
        have en : (if 0 < i + 1 then 0 else i + 1) = nearI i := by
          unfold nearI
          rw [if_neg c1]
        exact iteF ⟨_, rfl, _, _, rfl, rfl, _, _, rfl, by dsimp only; rw [en]; exact ⟨rfl, S, Tb⟩⟩
    clear S Tb H1
    rintro σ H1 ⟨rfl, S, Tb⟩
    generalize nearI i = ni at ef2 i3 i4 ⊢
    have hf2 : f2 < 65535 := by omega
    have l1 : (longT f).length ≤ sizeLine := Nat.le_trans (longT_le hf) (by decide)
    have l2 : (longT f2).length ≤ sizeLine := Nat.le_trans (longT_le hf2) (by decide)
    have l3 : (gradeT f g).length ≤ sizeLine := Nat.le_trans (gradeT_le (by omega)) (by decide)
    have l4 : (gradeT f2 g).length ≤ sizeLine := Nat.le_trans (gradeT_le (by omega)) (by decide)
    refine ⟨fun σ' H' => σ' = [some (V.ref a), some (V.ref st), v2, some (V.int i), some (V.int g), some (V.int n), v6, some (V.int r), some (V.int ni), v9, v10, v11] ∧ StAt H' st lg cl (m0 + 2) ∧ Tabs (tabs Pt) H', ?_, ?_⟩
    · skip
      refine ⟨_, rfl, ?_⟩
      refine ⟨_, _, rfl, .int ni, fun j' f' e1 e2 _ => ?_, no_range i3 i4⟩
      cases e1
      obtain rfl : f2 = f' := by omega
      refine ⟨_, rfl, l2, ?_⟩
      refine ⟨_, rfl, ?_⟩
      refine ⟨_, _, rfl, .int i, fun j' f' e1 e2 _ => ?_, no_range i1 i2⟩
      cases e1
      obtain rfl : f = f' := by omega
      refine ⟨_, rfl, l1, ?_⟩
      refine ⟨_, _, rfl, rfl, _, rfl, ite_le (longT_mono hff) ?_⟩
      refine ⟨_, rfl, _, rfl, ?_⟩
      refine ⟨_, _, _, _, rfl, .int ni, .int g, no_range i3 i4, fun j' f' e1 e2 _ => ?_⟩
      cases e1
      obtain rfl : f2 = f' := by omega
      refine ⟨no_range (by omega) (by omega), fun g' e3 _ => ?_⟩
      obtain rfl : g = g' := by
        have := V.int.inj e3
        omega
      refine ⟨_, rfl, l4, ?_⟩
      refine ⟨_, rfl, _, rfl, ?_⟩
      refine ⟨_, _, _, _, rfl, .int i, .int g, no_range i1 i2, fun j' f' e1 e2 _ => ?_⟩
      cases e1
      obtain rfl : f = f' := by omega
      refine ⟨no_range (by omega) (by omega), fun g' e3 _ => ?_⟩
      obtain rfl : g = g' := by
        have := V.int.inj e3
        omega
      refine ⟨_, rfl, l3, ?_⟩
      refine ⟨_, _, rfl, rfl, _, rfl, ite_le (gradeT_mono hff (by omega)) ?_⟩
      exact ⟨rfl, S, Tb⟩
    clear S Tb H1
    rintro σ H1 ⟨rfl, S, Tb⟩
    -- a word's length, refused
    refine ⟨fun σ' H' => σ' = [some (V.ref a), some (V.ref st), v2, some (V.int i), some (V.int g), some (V.int n), v6, some (V.int r), some (V.int ni), v9, v10, v11] ∧ StAt H' st lg cl (m0 + 7) ∧ Tabs (tabs Pt) H', ?_, ?_⟩
    · skip
      refine ⟨_, rfl, _, rfl, ?_⟩
      refine ⟨_, _, _, _, rfl, .int i, .int g, no_range i1 i2, fun j' f' e1 e2 _ => ?_⟩
      cases e1
      obtain rfl : f = f' := by omega
      refine ⟨no_range (by omega) (by omega), fun g' e3 _ => ?_⟩
      obtain rfl : g = g' := by
        have := V.int.inj e3
        omega
      refine ⟨_, rfl, l3, ?_⟩
      refine ⟨_, _, rfl, rfl, _, rfl, ite_le (y := 28) (gradeT_le (by omega)) ?_⟩
      refine ⟨_, rfl, _, rfl, _, rfl, st, lg, cl, i, f, g, m0 + 2, rfl, i1, i2, by omega, S, Tb, fun H2 S2 T2 _ => ⟨_, rfl, ?_⟩⟩
      exact iteF ⟨rfl, S2, T2⟩
    clear S Tb H1
    rintro σ H1 ⟨rfl, S, Tb⟩
    -- signs
    refine ⟨fun σ' H' => ∃ s9 : Str, Ones s9 ∧ s9.length ≤ 100 ∧ σ' = [some (V.ref a), some (V.ref st), v2, some (V.int i), some (V.int g), some (V.int n), v6, some (V.int r), some (V.int ni), some (V.str s9), v10, v11] ∧ StAt H' st lg cl (m0 + 20) ∧ Tabs (tabs Pt) H', ?_, ?_⟩
    · refine ⟨⟨_, rfl⟩, ?_⟩
      refine ⟨_, rfl, st, lg, cl, 9, m0 + 7, rfl, by decide, by decide, by omega, S, fun c Hd hc Sd kpd => ⟨_, rfl, by omega, by omega, fun D hD => ?_⟩⟩
      have Td := tabs_kp Tb S kpd
      have d1 := (Sd.off hD).1
      have d2 := (Sd.off hD).2
      have d3 := offc Sd hD
      refine lc_range (n := (c : Int).toNat) (fun j' H' => ∃ ys : List Str, ys.length = j' ∧ (∀ y ∈ ys, y = "0" ∨ y = "1") ∧ H' D = some (.lst (ys.map V.str)) ∧ StAt H' st lg cl (m0 + 7 + 1 + j') ∧ Tabs (tabs Pt) H')
        ⟨[], rfl, (fun _ hy => nomatch hy), upd_same, Sd.same (Same.new hD), Td.ext (Same.new hD)⟩ ?_ ?_
      · rintro j' H' hj' ⟨ys, hy1, hy2, hy3, S3, T3⟩
        refine ⟨rfl, ?_⟩
        dsimp only [tYes]
        rw [if_pos rfl]
        refine ⟨_, rfl, (by show 2 ≤ sizeLine; decide), fun p hp => ⟨st, lg, cl, p, _, m0 + 7 + 1 + j', rfl, upd_same, (S3.off hp).2, (by show 0 < 2; decide), (by show 2 ≤ 1000; decide), by omega, S3.same (Same.new hp), fun x H2 hx S4 kp4 => ?_⟩⟩
        have hD2 := kp4 D _ ((Same.new hp) _ _ hy3) d1 d2
        have T4 := tabs_kp T3 S3 ((Kp.same (Same.new hp)).trans kp4)
        obtain ⟨y, hy, rfl⟩ : ∃ y : Str, (y = "0" ∨ y = "1") ∧ x = .str y := by
          simp only [List.mem_cons, List.not_mem_nil, or_false] at hx
          rcases hx with h | h
          · exact ⟨_, .inl rfl, h⟩
          · exact ⟨_, .inr rfl, h⟩
        refine ⟨_, hD2, ?_, ys ++ [y], by simp [hy1], fun z hz => ?_, ?_, stAt_upd S4 hD2 d1 d2 d3, tabs_upd T4 hD2⟩
        · rw [List.length_map, hy1]
          exact Nat.lt_trans (show j' < 20 by omega) (by decide)
        · rcases List.mem_append.mp hz with h | h
          · exact hy2 z h
          · rw [List.mem_singleton.mp h]
            exact hy
        · rw [upd_same, List.map_append]
          rfl
      · rintro H' ⟨ys, hy1, hy2, hy3, S3, T3⟩
        have hs : (ys.map (·.length)).sum = ys.length := by
          clear hy1 hy3
          induction ys with
          | nil => rfl
          | cons y r ih =>
            rw [List.map_cons, List.sum_cons, ih fun z hz => hy2 z (List.mem_cons_of_mem _ hz)]
            have : y.length = 1 := by
              rcases hy2 y List.mem_cons_self with h | h <;> (rw [h]; rfl)
            rw [this, List.length_cons]
            omega
        have e0' : ("" : Str).length = 0 := rfl
        have hl9 : (Txt.join "" ys).length ≤ 100 := by
          have := StrLaws.join_length_le "" ys
          have e : Txt.join "" ys = Str.join "" ys := StrLaws.glued_eq_join "" ys
          rw [e]
          rw [hs, e0'] at this
          omega
        refine ⟨_, D, ys, rfl, rfl, .inl (SqL.of hy3), ?_, ?_⟩
        · rw [hs, e0']
          omega
        refine ⟨_, join_ones ys fun y hy => ?_, hl9, rfl, S3.mono (by omega), T3⟩
        rcases hy2 y hy with h | h <;> rw [h]
        · exact ones_zero
        · exact ones_one
    clear S Tb H1
    rintro σ H1 ⟨s9, ho, hl9, rfl, S, Tb⟩
    -- odd
    refine ⟨fun σ' H' => ∃ x : V, (∃ b, Pl K H' x b) ∧ (∀ s, x = .str s → s.length ≤ 1000) ∧ isBits x = false ∧ σ' = [some (V.ref a), some (V.ref st), v2, some (V.int i), some (V.int g), some (V.int n), v6, some (V.int r), some (V.int ni), some (V.str s9), some x, v11] ∧ StAt H' st lg cl (m0 + 21) ∧ Tabs (tabs Pt) H', ?_, ?_⟩
    · refine ⟨_, rfl, _, rfl, _, _, rfl, rfl, ?_, _, rfl, (by show 1 ≤ sizeLine; decide), fun p1 h1 => ⟨(by show 1 ≤ sizeLine; decide), fun p2 h2 => ?_⟩⟩
      · have e : ("2" : Str).length = 1 := rfl
        rw [e]
        exact Nat.le_trans (Nat.add_le_add_right hl9 1) (by decide)
      refine fun p3 h3 => ⟨(by show 11 ≤ sizeLine; decide), fun p4 h4 => ?_⟩
      have S1 := S.same (Same.new (o := .lst [V.str s9]) h1)
      have S2 := S1.same (Same.new (o := .tup [V.str "0"]) h2)
      have S3 := S2.same (Same.new (o := .dK []) h3)
      have S4 := S3.same (Same.new (o := .lst [V.str (s9 ++ "2"), .str "0 1", .str "a", .non, .int 5, .bl true, .ref p1, .ref p2, .ref p3, .str "01\n", .str "0b1"]) h4)
      refine ⟨st, lg, cl, p4, _, m0 + 20, rfl, upd_same, (S3.off h4).2, (by show 0 < 11; decide), (by show 11 ≤ 1000; decide), by omega, S4, fun x H2 hx S5 kp => ?_⟩
      have T5 := tabs_kp ((((Tb.ext (Same.new h1)).ext (Same.new h2)).ext (Same.new h3)).ext (Same.new h4)) S4 kp
      have q1 := kp p1 _ ((Same.new h4) _ _ ((Same.new h3) _ _ ((Same.new h2) _ _ upd_same))) (S.off h1).1 (S.off h1).2
      have q2 := kp p2 _ ((Same.new h4) _ _ ((Same.new h3) _ _ upd_same)) (S1.off h2).1 (S1.off h2).2
      have q3 := kp p3 _ ((Same.new h4) _ _ upd_same) (S2.off h3).1 (S2.off h3).2
      refine ⟨x, ?_, ?_, ?_, rfl, S5, T5⟩
      · simp only [List.mem_cons, List.not_mem_nil, or_false] at hx
        rcases hx with h | h | h | h | h | h | h | h | h | h | h <;> subst h
        · exact ⟨_, .str _⟩
        · exact ⟨_, .str _⟩
        · exact ⟨_, .str _⟩
        · exact ⟨_, .non⟩
        · exact ⟨_, .int _⟩
        · exact ⟨_, .bl _⟩
        · exact ⟨_, .lst q1⟩
        · exact ⟨_, .tup q2⟩
        · exact ⟨_, .dK q3⟩
        · exact ⟨_, .str _⟩
        · exact ⟨_, .str _⟩
      · intro s e
        subst e
        simp only [List.mem_cons, List.not_mem_nil, or_false, V.str.injEq, reduceCtorEq, false_or] at hx
        rcases hx with h | h | h | h | h <;> subst h
        · rw [len_app]
          have e : ("2" : Str).length = 1 := rfl
          omega
        · decide +kernel
        · decide +kernel
        · decide +kernel
        · decide +kernel
      · simp only [List.mem_cons, List.not_mem_nil, or_false] at hx
        rcases hx with h | h | h | h | h | h | h | h | h | h | h <;> subst h
        · exact isBits_two _
        · decide +kernel
        · decide +kernel
        · rfl
        · rfl
        · rfl
        · rfl
        · rfl
        · rfl
        · decide +kernel
        · decide +kernel
    clear S Tb H1
    rintro σ H1 ⟨x, ⟨b, px⟩, hxl, hxb, rfl, S, Tb⟩
    have ib := isBits_ones ho
    have hs9 : ∀ s, V.str s9 = .str s → s.length ≤ 1000 := fun s e => by
      cases e
      omega
    refine ⟨_, rfl, _, _, rfl, .str s9, hs9, true, true, congrArg V.bl ib, rfl, _, rfl, ?_⟩
    refine iteF ⟨_, rfl, rfl, _, _, rfl, .str s9, hs9, true, true, congrArg V.bl ib, rfl, _, rfl, ?_⟩
    refine iteF ⟨_, rfl, x, b, rfl, px, hxl, false, false, congrArg V.bl hxb, rfl, _, rfl, ?_⟩
    exact iteF ⟨S.mono (by omega), Tb, _, _, _, _, _, _, _, _, _, _, rfl⟩
end
end K01
namespace K01
open PySem PySem.Spec PyProof.Rows L2 PySem.W LamX KA
/-! ### what the head's heap says, put together -/
section
variable {K : PySem.W.Frag} {mg : Str → Option Value} {h : Heap}
theorem defT_of {x : Str} {st : Stmt} {f : Addr} {od an : Option Addr} {sl : Array (Option Value)} {oc kV dc pm cd ct : Value} (X : K.In h) (G : h.Ns mainGlobals mg)
    (a : PySem.W.nsIn K mainGlobals x = some (some (.ref f))) (l : K.lookup f = some ⟨oc, od, .func (PySem.W.fnOf x x (defArgs st) (defBody st) (defScope st) .none kV dc pm an cd ct), sl⟩) (c : PySem.W.codeIn K cd x = true) (k : PySem.W.keepIn K (.ref f) = true) :
    Nonempty (DefT K mg x st) := ⟨⟨f, _, fun_mk l c k, PySem.W.mg_of X G a⟩⟩
theorem lamT_of {x : Str} {st : Stmt} {f c Pt : Addr} {od an : Option Addr} {sl : Array (Option Value)} {oc kV dc pm ct : Value} (X : K.In h) (G : h.Ns mainGlobals mg) (T : DefT K mg x st)
    (a : PySem.W.nsIn K mainGlobals x = some (some (.ref f))) (l : K.lookup f = some ⟨oc, od, .func (PySem.W.fnOf x x (defArgs st) (defBody st) (defScope st) .none kV dc pm an (.ref c) ct), sl⟩) (cc : PySem.W.codeIn K (.ref c) x = true) :
    LamT K x st T.a T.d c Pt := by
  have e := (PySem.W.mg_of X G a).symm.trans T.m
  have e : f = T.a := Value.ref.inj (Option.some.inj e)
  obtain ⟨oc', od', kV', dc', pm', an', cd', ct', sl', ed, lk, hcd⟩ := T.f.ex
  rw [e] at l
  have e2 := l.symm.trans lk
  have e3 := congrArg Obj.data (Option.some.inj e2)
  have e4 := Data.func.inj e3
  exact ⟨oc, od, kV, dc, pm, an, ct, sl, e4.symm, by rw [← e4]; exact l, cc⟩
theorem reelT_of {C : Addr} (X : K.In h) (G : h.Ns mainGlobals mg) (a : PySem.W.nsIn K mainGlobals "ReelError" = some (some (.ref C))) (b : PySem.W.subIn K (.ref C) (.type "BaseException") = some true)
    (t : PySem.W.typeIn K (.ref C) = some (.type "type")) (d : PySem.W.hasDictIn K C = true) : ∃ R : ReelT K mg, R.C = C := ⟨⟨C, PySem.W.mg_of X G a, b, t, d⟩, rfl⟩
theorem excT_of {x : Str} {C R : Addr} (X : K.In h) (G : h.Ns mainGlobals mg) (a : PySem.W.nsIn K mainGlobals x = some (some (.ref C))) (q : PySem.W.excIn K C veB "ValueError.__new__" = true) (k : PySem.W.keepIn K (.ref C) = true)
    (b : PySem.W.subIn K (.ref C) (.type "BaseException") = some true) (t : PySem.W.typeIn K (.ref C) = some (.type "type")) (r : PySem.W.subIn K (.ref C) (.ref R) = some true)
    (e1 : PySem.W.findIn K (.ref C) "__getattribute__" = some (some (.builtin "BaseException.__getattribute__"))) (e2 : PySem.W.findIn K (.ref C) "__getattr__" = some none) (e3 : PySem.W.hasDictIn K C = true)
    (e4 : PySem.W.findIn K (.ref C) "__class__" = some (some (.builtin "object.__class__"))) (e5 : PySem.W.specialIn K (.builtin "object.__class__") "__get__" = some (some (.builtin "getset_descriptor.__get__")))
    (e6 : PySem.W.takesIn K (.builtin "object.__class__") = some true) (e7 : PySem.W.mroIn K C (.type "object") = some true) : Nonempty (ExcT K mg x R) :=
  ⟨⟨C, PySem.W.mg_of X G a, q, k, b, t, r, ⟨e1, e2, b, e3, e4, e5, e6, e7⟩⟩⟩
theorem cstT_of {x : Str} {n : Int} {t : Tok} (X : K.In h) (G : h.Ns mainGlobals mg) (a : PySem.W.nsIn K mainGlobals x = some (some (.int n t))) : CstT mg x n := ⟨t, PySem.W.mg_of X G a⟩
/-- the law, at the head's heap -/
theorem law_at {l : PySem.W.OpenLaw} {w : World} {fa c Pt : Addr} (T : Top K mg) (name : mg "law" = some (.ref fa)) (LT : LamT K "_law_refused" s__law_refused T._law_refused.a T._law_refused.d c Pt)
    (ht : h.get? Pt = some { cls := .none, data := .fields #[] }) (hk : K.lookup Pt = none) (hc : PySem.W.CodeHd h c Pt) : LawAtG l w K (L2.CX l.prog w) 10 63 "script" mg fa h := by
  have e : fa = T.law.a := Value.ref.inj (Option.some.inj (name.symm.trans T.law.m))
  subst e
  have one : ∀ {A : Addr × Addr → Prop}, A (c, Pt) → ∀ p ∈ [(c, Pt)], A p := fun q p hp => by
    rw [List.mem_singleton.mp hp]
    exact q
  refine ⟨T.law.d, [(c, Pt)], spLaw K Pt, ⟨one ht, one hk, one hc⟩, fun s u => ?_, fun H a ns short t S => ?_, fun base _ _ tb => ok_law T LT (tb (c, Pt) (List.mem_singleton.mpr rfl))⟩
  · obtain ⟨oc, od, kV, doc, pm, an, cdv, ct, osl, ed, lk, hcd⟩ := T.law.f.ex
    rw [ed]
    exact .of_eq rfl
  · refine ⟨a, ns, rfl, S, short, fun p hp => ?_, fun _ => rfl⟩
    rw [List.mem_singleton.mp hp]
    exact TabS.nil (t (c, Pt) (List.mem_singleton.mpr rfl))
theorem calm_cx {P : Program} {w : World} {H : Hp} {s : Shared} {e : Value} {s' : Shared} (z : L2.CX P w [] H s (fun _ _ _ => False) e s') : False := by
  obtain ⟨_, _, _, _, _, _, _, _, _, _, _, _, f⟩ := z
  exact f
end
end K01
namespace K01
open PySem PySem.Spec PyProof.Rows L2 PySem.W LamX KA
section
variable {K : PySem.W.Frag} {mg : Str → Option Value} {h : Heap} {A : Prop}
theorem reel_use {C : Addr} (X : K.In h) (G : h.Ns mainGlobals mg) (a : PySem.W.nsIn K mainGlobals "ReelError" = some (some (.ref C))) (b : PySem.W.subIn K (.ref C) (.type "BaseException") = some true)
    (t : PySem.W.typeIn K (.ref C) = some (.type "type")) (d : PySem.W.hasDictIn K C = true) (n : ∀ R : ReelT K mg, R.C = C → A) : A := by
  obtain ⟨R, e⟩ := reelT_of X G a b t d
  exact n R e
theorem exc_use {x : Str} {C B : Addr} (X : K.In h) (G : h.Ns mainGlobals mg) (R : ReelT K mg) (eR : R.C = B) (a : PySem.W.nsIn K mainGlobals x = some (some (.ref C))) (q : PySem.W.excIn K C veB "ValueError.__new__" = true) (k : PySem.W.keepIn K (.ref C) = true)
    (b : PySem.W.subIn K (.ref C) (.type "BaseException") = some true) (t : PySem.W.typeIn K (.ref C) = some (.type "type")) (r : PySem.W.subIn K (.ref C) (.ref B) = some true)
    (e1 : PySem.W.findIn K (.ref C) "__getattribute__" = some (some (.builtin "BaseException.__getattribute__"))) (e2 : PySem.W.findIn K (.ref C) "__getattr__" = some none) (e3 : PySem.W.hasDictIn K C = true)
    (e4 : PySem.W.findIn K (.ref C) "__class__" = some (some (.builtin "object.__class__"))) (e5 : PySem.W.specialIn K (.builtin "object.__class__") "__get__" = some (some (.builtin "getset_descriptor.__get__")))
    (e6 : PySem.W.takesIn K (.builtin "object.__class__") = some true) (e7 : PySem.W.mroIn K C (.type "object") = some true) (n : ExcT K mg x R.C → A) : A := by
  rw [← eR] at r
  obtain ⟨D⟩ := excT_of X G a q k b t r e1 e2 e3 e4 e5 e6 e7
  exact n D
theorem def_use {x : Str} {st : Stmt} {f : Addr} {od an : Option Addr} {sl : Array (Option Value)} {oc kV dc pm cd ct : Value} (X : K.In h) (G : h.Ns mainGlobals mg)
    (a : PySem.W.nsIn K mainGlobals x = some (some (.ref f))) (l : K.lookup f = some ⟨oc, od, .func (PySem.W.fnOf x x (defArgs st) (defBody st) (defScope st) .none kV dc pm an cd ct), sl⟩) (c : PySem.W.codeIn K cd x = true) (k : PySem.W.keepIn K (.ref f) = true)
    (n : DefT K mg x st → A) : A := by
  obtain ⟨D⟩ := defT_of X G a l c k
  exact n D
theorem lam_use {x : Str} {st : Stmt} {f c Pt : Addr} {od an : Option Addr} {sl : Array (Option Value)} {oc kV dc pm ct : Value} (X : K.In h) (G : h.Ns mainGlobals mg) (T : DefT K mg x st) (t : h.get? Pt = some { cls := .none, data := .fields #[] })
    (a : PySem.W.nsIn K mainGlobals x = some (some (.ref f))) (l : K.lookup f = some ⟨oc, od, .func (PySem.W.fnOf x x (defArgs st) (defBody st) (defScope st) .none kV dc pm an (.ref c) ct), sl⟩) (cc : PySem.W.codeIn K (.ref c) x = true)
    (hk : K.lookup Pt = none) (hc : PySem.W.codeHdIn K c Pt = true) (n : LamT K x st T.a T.d c Pt → K.lookup Pt = none → PySem.W.CodeHd h c Pt → A) : A := n (lamT_of X G T a l cc) hk (PySem.W.codeHd_of_K X hc)
end
end K01
open PySem PySem.W PyProof.Rows
set_option maxRecDepth 100000 in
set_option maxHeartbeats 0 in
theorem PySem.Challenge.cw_pricedreels_k01_numbers_written_in_bits_holds : PySem.Challenge.rw_pricedreels_k01_numbers_written_in_bits.Holds := by
  w_on; o_law; k_head; (case hw => w_witness2)
  k_fill
  refine KA.walk_ofG (l := PySem.Challenge.rw_pricedreels_k01_numbers_written_in_bits) (k := 10) (n := 63) (x := "script") (CX := fun w => L2.CX PySem.Challenge.rw_pricedreels_k01_numbers_written_in_bits.prog w) rfl (by decide) rfl ⟨rfl, by decide, by decide⟩ (fun w h Y => km_in_of Y) ?F (fun _ _ _ _ _ z => K01.calm_cx z)
  case F =>
    intro w mg fa h Y KX G hmg
    have tabs := km_tabs_of Y
    have one := tabs _ List.mem_cons_self
    refine' K01.reel_use KX G ?ya ?yb ?yt ?yd ?_
    (case ya => k_is); (case yb => k_is); (case yt => k_is); (case yd => k_is)
    intro R eR
    refine' K01.exc_use (x := "BadGrade") KX G R eR ?ya ?yq ?yk ?yb ?yt ?yr ?ye1 ?ye2 ?ye3 ?ye4 ?ye5 ?ye6 ?ye7 ?_
    (case ya => k_is); (case yq => k_exc); (case yk => k_is); (case yb => k_is); (case yt => k_is); (case yr => k_is); (case ye1 => k_is); (case ye2 => k_is); (case ye3 => k_is); (case ye4 => k_is); (case ye5 => k_is); (case ye6 => k_is); (case ye7 => k_is)
    intro BadGrade
    refine' K01.exc_use (x := "BadMany") KX G R eR ?ya ?yq ?yk ?yb ?yt ?yr ?ye1 ?ye2 ?ye3 ?ye4 ?ye5 ?ye6 ?ye7 ?_
    (case ya => k_is); (case yq => k_exc); (case yk => k_is); (case yb => k_is); (case yt => k_is); (case yr => k_is); (case ye1 => k_is); (case ye2 => k_is); (case ye3 => k_is); (case ye4 => k_is); (case ye5 => k_is); (case ye6 => k_is); (case ye7 => k_is)
    intro BadMany
    refine' K01.exc_use (x := "BadNumber") KX G R eR ?ya ?yq ?yk ?yb ?yt ?yr ?ye1 ?ye2 ?ye3 ?ye4 ?ye5 ?ye6 ?ye7 ?_
    (case ya => k_is); (case yq => k_exc); (case yk => k_is); (case yb => k_is); (case yt => k_is); (case yr => k_is); (case ye1 => k_is); (case ye2 => k_is); (case ye3 => k_is); (case ye4 => k_is); (case ye5 => k_is); (case ye6 => k_is); (case ye7 => k_is)
    intro BadNumber
    refine' K01.def_use (x := "is_number") (st := K01.s_is_number) KX G ?ya ?yl ?yc ?yk ?_
    (case ya => k_is); (case yl => k_is); (case yc => k_is); (case yk => k_is)
    intro f_is_number
    refine' K01.def_use (x := "is_within") (st := K01.s_is_within) KX G ?ya ?yl ?yc ?yk ?_
    (case ya => k_is); (case yl => k_is); (case yc => k_is); (case yk => k_is)
    intro f_is_within
    refine' K01.def_use (x := "folded") (st := K01.s_folded) KX G ?ya ?yl ?yc ?yk ?_
    (case ya => k_is); (case yl => k_is); (case yc => k_is); (case yk => k_is)
    intro f_folded
    refine' K01.def_use (x := "unfolded") (st := K01.s_unfolded) KX G ?ya ?yl ?yc ?yk ?_
    (case ya => k_is); (case yl => k_is); (case yc => k_is); (case yk => k_is)
    intro f_unfolded
    refine' K01.def_use (x := "is_bits") (st := K01.s_is_bits) KX G ?ya ?yl ?yc ?yk ?_
    (case ya => k_is); (case yl => k_is); (case yc => k_is); (case yk => k_is)
    intro f_is_bits
    refine' K01.def_use (x := "fixed_bits") (st := K01.s_fixed_bits) KX G ?ya ?yl ?yc ?yk ?_
    (case ya => k_is); (case yl => k_is); (case yc => k_is); (case yk => k_is)
    intro f_fixed_bits
    refine' K01.def_use (x := "long_bits") (st := K01.s_long_bits) KX G ?ya ?yl ?yc ?yk ?_
    (case ya => k_is); (case yl => k_is); (case yc => k_is); (case yk => k_is)
    intro f_long_bits
    refine' K01.def_use (x := "grade_bits") (st := K01.s_grade_bits) KX G ?ya ?yl ?yc ?yk ?_
    (case ya => k_is); (case yl => k_is); (case yc => k_is); (case yk => k_is)
    intro f_grade_bits
    refine' K01.def_use (x := "check_told") (st := K01.s_check_told) KX G ?ya ?yl ?yc ?yk ?_
    (case ya => k_is); (case yl => k_is); (case yc => k_is); (case yk => k_is)
    intro f_check_told
    refine' K01.def_use (x := "check_many") (st := K01.s_check_many) KX G ?ya ?yl ?yc ?yk ?_
    (case ya => k_is); (case yl => k_is); (case yc => k_is); (case yk => k_is)
    intro f_check_many
    refine' K01.def_use (x := "check_grade") (st := K01.s_check_grade) KX G ?ya ?yl ?yc ?yk ?_
    (case ya => k_is); (case yl => k_is); (case yc => k_is); (case yk => k_is)
    intro f_check_grade
    refine' K01.def_use (x := "is_told") (st := K01.s_is_told) KX G ?ya ?yl ?yc ?yk ?_
    (case ya => k_is); (case yl => k_is); (case yc => k_is); (case yk => k_is)
    intro f_is_told
    refine' K01.def_use (x := "fold") (st := K01.s_fold) KX G ?ya ?yl ?yc ?yk ?_
    (case ya => k_is); (case yl => k_is); (case yc => k_is); (case yk => k_is)
    intro f_fold
    refine' K01.def_use (x := "unfold") (st := K01.s_unfold) KX G ?ya ?yl ?yc ?yk ?_
    (case ya => k_is); (case yl => k_is); (case yc => k_is); (case yk => k_is)
    intro f_unfold
    refine' K01.def_use (x := "in_bits") (st := K01.s_in_bits) KX G ?ya ?yl ?yc ?yk ?_
    (case ya => k_is); (case yl => k_is); (case yc => k_is); (case yk => k_is)
    intro f_in_bits
    refine' K01.def_use (x := "_law_begun") (st := K01.s__law_begun) KX G ?ya ?yl ?yc ?yk ?_
    (case ya => k_is); (case yl => k_is); (case yc => k_is); (case yk => k_is)
    intro f__law_begun
    refine' K01.def_use (x := "_law_draw") (st := K01.s__law_draw) KX G ?ya ?yl ?yc ?yk ?_
    (case ya => k_is); (case yl => k_is); (case yc => k_is); (case yk => k_is)
    intro f__law_draw
    refine' K01.def_use (x := "_law_pick") (st := K01.s__law_pick) KX G ?ya ?yl ?yc ?yk ?_
    (case ya => k_is); (case yl => k_is); (case yc => k_is); (case yk => k_is)
    intro f__law_pick
    refine' K01.def_use (x := "_law_caught") (st := K01.s__law_caught) KX G ?ya ?yl ?yc ?yk ?_
    (case ya => k_is); (case yl => k_is); (case yc => k_is); (case yk => k_is)
    intro f__law_caught
    refine' K01.def_use (x := "_law_two") (st := K01.s__law_two) KX G ?ya ?yl ?yc ?yk ?_
    (case ya => k_is); (case yl => k_is); (case yc => k_is); (case yk => k_is)
    intro f__law_two
    refine' K01.def_use (x := "_law_fold") (st := K01.s__law_fold) KX G ?ya ?yl ?yc ?yk ?_
    (case ya => k_is); (case yl => k_is); (case yc => k_is); (case yk => k_is)
    intro f__law_fold
    refine' K01.def_use (x := "_law_twos") (st := K01.s__law_twos) KX G ?ya ?yl ?yc ?yk ?_
    (case ya => k_is); (case yl => k_is); (case yc => k_is); (case yk => k_is)
    intro f__law_twos
    refine' K01.def_use (x := "_law_long") (st := K01.s__law_long) KX G ?ya ?yl ?yc ?yk ?_
    (case ya => k_is); (case yl => k_is); (case yc => k_is); (case yk => k_is)
    intro f__law_long
    refine' K01.def_use (x := "_law_graded") (st := K01.s__law_graded) KX G ?ya ?yl ?yc ?yk ?_
    (case ya => k_is); (case yl => k_is); (case yc => k_is); (case yk => k_is)
    intro f__law_graded
    refine' K01.def_use (x := "_law_item") (st := K01.s__law_item) KX G ?ya ?yl ?yc ?yk ?_
    (case ya => k_is); (case yl => k_is); (case yc => k_is); (case yk => k_is)
    intro f__law_item
    refine' K01.def_use (x := "_law_refused") (st := K01.s__law_refused) KX G ?ya ?yl ?yc ?yk ?_
    (case ya => k_is); (case yl => k_is); (case yc => k_is); (case yk => k_is)
    intro f__law_refused
    refine' K01.def_use (x := "law") (st := K01.s_law) KX G ?ya ?yl ?yc ?yk ?_
    (case ya => k_is); (case yl => k_is); (case yc => k_is); (case yk => k_is)
    intro f_law
    refine' K01.lam_use KX G f__law_refused one ?ya ?yl ?yc ?yh ?yj ?_
    (case ya => k_is); (case yl => k_is); (case yc => k_is); (case yh => kernel_rfl); (case yj => kernel_rfl)
    intro LT noT hd
    have cMOST_TOLD := K01.cstT_of (x := "MOST_TOLD") (n := 32767) KX G (by k_is)
    have cMOST_FOLDED := K01.cstT_of (x := "MOST_FOLDED") (n := 65534) KX G (by k_is)
    have cONES_OF_GRADE := K01.cstT_of (x := "ONES_OF_GRADE") (n := 12) KX G (by k_is)
    have cBITS_BEHIND_ONES := K01.cstT_of (x := "BITS_BEHIND_ONES") (n := 16) KX G (by k_is)
    have b_isinstance := PySem.W.mg_none_of (n := "isinstance") KX G (by k_is)
    have b_int := PySem.W.mg_none_of (n := "int") KX G (by k_is)
    have b_bool := PySem.W.mg_none_of (n := "bool") KX G (by k_is)
    have b_str := PySem.W.mg_none_of (n := "str") KX G (by k_is)
    have b_len := PySem.W.mg_none_of (n := "len") KX G (by k_is)
    have b_abs := PySem.W.mg_none_of (n := "abs") KX G (by k_is)
    have b_range := PySem.W.mg_none_of (n := "range") KX G (by k_is)
    have b_min := PySem.W.mg_none_of (n := "min") KX G (by k_is)
    have b_repr := PySem.W.mg_none_of (n := "repr") KX G (by k_is)
    have b_ValueError := PySem.W.mg_none_of (n := "ValueError") KX G (by k_is)
    exact K01.law_at (Pt := _) { reel := R, BadGrade := BadGrade, BadMany := BadMany, BadNumber := BadNumber, is_number := f_is_number, is_within := f_is_within, folded := f_folded, unfolded := f_unfolded, is_bits := f_is_bits, fixed_bits := f_fixed_bits, long_bits := f_long_bits, grade_bits := f_grade_bits, check_told := f_check_told, check_many := f_check_many, check_grade := f_check_grade, is_told := f_is_told, fold := f_fold, unfold := f_unfold, in_bits := f_in_bits, _law_begun := f__law_begun, _law_draw := f__law_draw, _law_pick := f__law_pick, _law_caught := f__law_caught, _law_two := f__law_two, _law_fold := f__law_fold, _law_twos := f__law_twos, _law_long := f__law_long, _law_graded := f__law_graded, _law_item := f__law_item, _law_refused := f__law_refused, law := f_law, cMOST_TOLD := cMOST_TOLD, cMOST_FOLDED := cMOST_FOLDED, cONES_OF_GRADE := cONES_OF_GRADE, cBITS_BEHIND_ONES := cBITS_BEHIND_ONES, b_isinstance := b_isinstance, b_int := b_int, b_bool := b_bool, b_str := b_str, b_len := b_len, b_abs := b_abs, b_range := b_range, b_min := b_min, b_repr := b_repr, b_ValueError := b_ValueError } hmg LT one noT hd
