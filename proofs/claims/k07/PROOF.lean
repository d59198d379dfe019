import PyProof.Rows.All
import Wide.All
import OpenK.AllK
import Wide.FinOn
import PyProof.FString3
import PyProof.StrBlock2
import PyProof.ReprRoads
import KE.KxField
import HandS.ForMost
import HandS.EndTab
import HandS.WordsExc
import HandS.ExcOwn
import HandS.ExcValue
import HandS.ExcIs
import HandS.IsInst
import HandS.StrMore
import HandS.FStr
import HandS.Style
import HandS.Wide
import HandS.WideBits
import HandS.RaiseMore
import HandS.Small
import HandS.Evl
import HandS.Defaults
import KE.KExcSuper
import KE.KExcIs
import PySem.Challenge.RW_pricedreels_k07_levels_and_what_is_rebui
import HandS.Conv
import KE.RegKSuper
import KE.KExcLine
set_option Elab.async false
set_option linter.all false
set_option maxRecDepth 100000
set_option maxHeartbeats 4000000
namespace KA
open PySem PySem.Spec PyProof.Rows L2
section
variable {X : Cx}
/-- text * int -/
def rMulS : R2 := fun x y H Q => ∃ (a : Str) (n : Int), x = .str a ∧ y = .int n ∧ 0 ≤ n ∧ n ≤ 1000 ∧ a.length ≤ 1000 ∧ Q (.str (Txt.mul a n)) H
theorem op_mulS : OpR X (binaryOp .Mult) rMulS := by
  intro pins s σ H x y v u Q I rx ry h
  obtain ⟨a, n, rfl, rfl, h0, h1, h2, q⟩ := h
  obtain ⟨t, rfl⟩ := rx
  obtain ⟨t', rfl⟩ := ry
  refine SB.mul ⟨?_, fun hn hz => ?_, fun hn hz => ?_⟩ fun t' k => ⟨.str (Txt.mul a n), H, I.tok _, ⟨_, rfl⟩, q⟩
  · simp
    omega
  · have h3 : (1000 : Int) ≤ (2 ^ 63 - 1) / n := by
      refine Int.le_ediv_of_mul_le (by omega) ?_
      omega
    omega
  · have : a.length * n.toNat ≤ 1000 * 1000 := Nat.mul_le_mul h2 (by omega)
    unfold Builtin.Str.tooLong
    simp
    have e : sizeLine = 16777216 := by rfl
    omega
end
end KA
namespace KA
open PySem PySem.Spec PyProof.Rows L2 PySem.W
/-- the binary digits of a number from 0 on, as a text -/
def binText (n : Nat) : Str := ⟨((Nat.toDigits 2 n).map Char.toNat).toArray⟩
def specB : Str := ⟨#[98]⟩
theorem digits_some (n : Nat) : ∃ d ds, (Nat.toDigits 2 n).map Char.toNat = d :: ds := by
  cases e : (Nat.toDigits 2 n).map Char.toNat with
  | nil =>
    have h := congrArg List.length e
    simp at h
  | cons d ds => exact ⟨d, ds, rfl⟩
theorem meets_b {a : Int} {t : Tok} (h0 : 0 ≤ a) (hl : (binText a.natAbs).length ≤ sizeLine) (u : Tok) :
    Meets (Builtin.«int.__format__» ⟨[.int a t, .str specB u], []⟩) (fun _ R s => ∀ t' k, R (.ok (.ret (.str (binText a.natAbs) t'))) { s with toks := k }) := by
  apply KPc.meets_of
  intro _ _ _ _ _ _ _
  unfold Builtin.«int.__format__»
  refine wpAny_bind (wpAny_of_eq (a := (_, _)) rfl ?_)
  refine wpAny_bind (wpAny_of_eq (a := _) rfl ?_)
  kxf_if
  refine wpAny_bind (wpAny_typeNameOf (T := "str") (typeIs_str _ _ _) (by decide) fun _ => ?_)
  refine wpAny_bind (wpAny_of_eq (a := some _) rfl ?_)
  kxf_if
  kxf_if
  refine wpAny_bind (wpAny_typeNameOfCut_int ?_)
  have hneg : decide (a < 0) = false := decide_eq_false (by omega)
  (repeat kxf_if)
  refine KXf.ret_text (T := binText a.natAbs) ?_ ?_ ?_
  · rw [hneg]
    obtain ⟨d, ds, e⟩ := digits_some a.natAbs
    unfold binText
    rw [e]
    generalize hL : List.map _ _ = L
    have eL : L = d :: ds := hL.symm.trans e
    subst eL
    show ((⟨(List.replicate (((-1 : Int) - ((([] : List Nat).length : Nat) + (([] : List Nat).length : Nat) + (([] : List Nat).length : Nat)) - ((List.replicate ((0 : Int).toNat - (d :: ds).length) 48 ++ (d :: ds)).length : Nat)).toNat) 32 ++ ([] : List Nat) ++ [] ++ List.replicate 0 32 ++ (List.replicate ((0 : Int).toNat - (d :: ds).length) 48 ++ (d :: ds)) ++ [] ++ List.replicate 0 32).toArray⟩ : Str)) = _
    have z1 : (0 : Int).toNat - (d :: ds).length = 0 := by simp
    rw [z1]
    have z2 : ((-1 : Int) - ((([] : List Nat).length : Nat) + (([] : List Nat).length : Nat) + (([] : List Nat).length : Nat)) - ((List.replicate 0 48 ++ (d :: ds)).length : Nat)).toNat = 0 := by
      simp
      omega
    rw [z2]
    simp
  · rw [hneg]
    obtain ⟨d, ds, e⟩ := digits_some a.natAbs
    unfold binText at hl
    rw [e] at hl
    generalize hL : List.map _ _ = L
    have eL : L = d :: ds := hL.symm.trans e
    subst eL
    show (⟨(List.replicate (((-1 : Int) - ((([] : List Nat).length : Nat) + (([] : List Nat).length : Nat) + (([] : List Nat).length : Nat)) - ((List.replicate ((0 : Int).toNat - (d :: ds).length) 48 ++ (d :: ds)).length : Nat)).toNat) 32 ++ ([] : List Nat) ++ [] ++ List.replicate 0 32 ++ (List.replicate ((0 : Int).toNat - (d :: ds).length) 48 ++ (d :: ds)) ++ [] ++ List.replicate 0 32).toArray⟩ : Str).length ≤ _
    have z1 : (0 : Int).toNat - (d :: ds).length = 0 := by simp
    rw [z1]
    have z2 : ((-1 : Int) - ((([] : List Nat).length : Nat) + (([] : List Nat).length : Nat) + (([] : List Nat).length : Nat)) - ((List.replicate 0 48 ++ (d :: ds)).length : Nat)).toNat = 0 := by
      simp
      omega
    rw [z2]
    simpa using hl
  · assumption
end KA
namespace KA
open PySem PySem.Spec PyProof.Rows L2 PySem.W
section
variable {X : Cx}
/-- f'{e:b}', a number from 0 on -/
theorem pe_fmtB {e : Expr} {te : TE} {pos p1 p2 : Pos} {k : Nat} (he : PE X e te) :
    PE X (.FormattedValue e (-1) (some (.JoinedStr [.Constant (.str "b") k p1] p2)) pos) (fun σ H Q => te σ H fun x H1 => ∃ i : Int, x = .int i ∧ 0 ≤ i ∧ (binText i.natAbs).length ≤ sizeLine ∧ Q (.str (binText i.natAbs)) H1) := by
  refine ⟨fun pins s σ H Q I h => ?_⟩
  refine wpAny_FormattedValue_spec (thn (he.run pins s σ H _ I h) fun v s1 hv => ?_)
  obtain ⟨x, H1, I1, r1, i, rfl, h0, hz, q⟩ := hv
  obtain ⟨t, rfl⟩ := r1
  refine wpAny_JoinedStr_one ?_
  refine Calls.Constant_str ⟨("b" : Str), _, rfl, ?_⟩
  exact KXf.field_int (spec' := specB) (by decide +kernel) (by decide) (by decide) (fun u => meets_b h0 hz u) fun t' k => ⟨.str (binText i.natAbs), H1, (I1.tok _).tok _, ⟨_, rfl⟩, q⟩
end
end KA
namespace KA
open PySem PySem.Spec PyProof.Rows L2 PySem.W
/-! ### an exception that was caught, kept as a value -/
/-- an exception of the class cls with the own dict d stands at a -/
def ExV (cls : Value) (d : Option Addr) (a : Addr) : HO := .ext fun h => ∃ oe : Obj, h.get? a = some oe ∧ Zc cls d oe ∧ ∃ vs, oe.data = .fields vs
theorem exV_ok {P : Program} {w : World} {H : Hp} {h : Heap} {a : Addr} {cls : Value} {d : Option Addr} {oe : Obj} {vs : Array Value} (e : h.get? a = some oe) (z : Zc cls d oe) (f : oe.data = .fields vs) :
    ObjOk P w H h a (ExV cls d a) := ⟨⟨oe, e, z, vs, f⟩, ⟨oe, e⟩, fun _ _ ⟨o, q, r⟩ k => ⟨o, k o q, r⟩⟩
section
variable {X : Cx} {pins : List (Addr × Obj)} {σ : L2.St} {H : Hp} {s : Shared}
/-- what was pinned, and did not stand at the entry, is tracked from here on -/
theorem track {a : Addr} {oe : Obj} {φ : Heap → Prop} (J : Inv X ((a, oe) :: pins) σ H s) (ok : X.Ok) (n0 : X.s_0.heap.get? a = none) (np : ∀ p ∈ X.pn ++ pins, p.1 ≠ a)
    (new : ObjOk X.prog X.w (upd H a (.ext φ)) s.heap a (.ext φ)) : Inv X pins σ (upd H a (.ext φ)) s := by
  obtain ⟨ea, na, nL, notF, nc⟩ := J.pin (a, oe) (List.mem_append_right _ List.mem_cons_self)
  have nz : ∀ b u, H b = some u → b ≠ a := fun b u q => ne_of_none q na
  have cut : ∀ p, p ∈ X.pn ++ pins → p ∈ X.pn ++ (a, oe) :: pins := fun p hp => by
    rcases List.mem_append.mp hp with h | h
    · exact List.mem_append_left _ h
    · exact List.mem_append_right _ (List.mem_cons_of_mem _ h)
  have old : ∀ b o, X.s_0.heap.get? b = some o → b ≠ a := fun b o q z => by
    rw [z, n0] at q
    cases q
  have base : Un X.fs X.ex X.H_0 (upd H a (.ext φ)) X.s_0.heap s.heap :=
    { keep := J.base.keep, slot := J.base.slot, there := J.base.there
      free := fun b o q n hx => (upd_ne (old b o q)).trans (J.base.free b o q n hx)
      tups := fun b xs q => (upd_ne (nz b _ (J.base.tups b xs q))).trans (J.base.tups b xs q)
      frzs := fun b o u q => (upd_ne (nz b _ (J.base.frzs b o u q))).trans (J.base.frzs b o u q)
      tbls := fun b ps q => by
        obtain ⟨more, z⟩ := J.base.tbls b ps q
        exact ⟨more, (upd_ne (nz b _ z)).trans z⟩ }
  have apart : ∀ b, b ≠ a → H b = none → upd H a (.ext φ) b = none := fun b hb hn => (upd_ne hb).trans hn
  have ce : ∀ x c, X.env.cells.lookup x = some c → c ≠ a := fun x c q z => by
    obtain ⟨v, o, ho, hd⟩ := J.cell x c q
    rw [z, ea] at ho
    cases ho
    exact nc v hd
  have hk : HOk X.prog X.w (upd H a (.ext φ)) s.heap := fun b o q => by
    by_cases hb : b = a
    · subst hb
      rw [upd_same] at q
      cases q
      exact new
    · rw [upd_ne hb] at q
      exact (J.hok b o q).stay (fun c v _ r => r) (fun c r => (upd_ne (nz c _ r)).trans r) (fun c xs r => (upd_ne (nz c _ r)).trans r)
  have pk : ∀ p ∈ X.pn ++ pins, s.heap.get? p.1 = some p.2 ∧ upd H a (.ext φ) p.1 = none ∧ p.1 ≠ X.env.locals ∧ p.1 ∉ X.fs ∧ ∀ v, p.2.data ≠ .cell v := fun p hp => by
    obtain ⟨e1, e2, e3⟩ := J.pin p (cut p hp)
    exact ⟨e1, apart _ (np p hp) e2, e3⟩
  exact { ok := ok, os := J.os, bare := J.bare, base := base, loc := J.loc, cell := J.cell, free := apart _ (Ne.symm nL) J.free
          freeC := fun x c q => apart _ (ce x c q) (J.freeC x c q), pin := pk, hok := hk, len := J.len }
end
/-- what 'except x as n: m = n' wishes of an exception of the body: it is of the clause's class, and m holds it behind the try (slots: n in i, m in j) -/
def wKeep (K : PySem.W.Frag) (c : Value) (i j len : Nat) (D : Ends) : WX := fun cls d σ H =>
  PySem.W.exmOne K cls c = some true ∧ ∀ a, H a = none → σ.length = len → D.nx ((((σ.set i (some (.ref a))).set j (some (.ref a)))).set i none) (upd H a (ExV cls d a))
section
variable {X : Cx} {x n m : Str} {c : Value} {i j : Nat} {body : List Stmt} {np pm pr pa ph pt : Pos} {tb : WX → TS}
theorem ps_try_keep (hx : X.ex = []) (hs : X.stack = X.env :: X.outer) (hf : X.env.frame = some X.env.locals) (hN : X.N.Nodup) (hi : X.N[i]? = some n) (hj : X.N[j]? = some m) (hln : X.env.kindOf n = some .local) (hlm : X.env.kindOf m = some .local) (hc : Names X x c)
    (hd : (n == ("__debug__" : Str)) = false) (hcd : (n == ("__classdict__" : Str)) = false)
    (hb : ∀ (W : WX) (pn : List (Addr × Obj)) (xe : Value → Shared → Prop), Takes (X.tr pn xe) W → PassesOwn (model X.prog X.w) X.A X.env xe → PSs (X.tr pn xe) body (tb W)) :
    PS X (.Try body [.ExceptHandler (some (.Name x np)) (some n) [.Assign [.Name m pm] (.Name n pr) pa] ph] [] [] pt) (fun D σ H => tb (wKeep X.K c i j X.N.length D) D σ H) := by
  refine ⟨fun pins s σ H D I h => wpAny_Try_except ?_⟩
  have ok := I.ok
  have fr : X.A.frames = some (X.env :: X.outer) := ok.frames.trans (congrArg some hs)
  have ways : ∀ u s', XE (X.tr (X.pn ++ pins) (fun e s₁ => wpAny (model X.prog X.w) X.A (noteFrame e X.env)
      (fun _ s₂ => wpAny (model X.prog X.w) X.A (setFlight e none)
        (fun _ s₃ => wpAny (model X.prog X.w) X.A (handleBy e X.env [.ExceptHandler (some (.Name x np)) (some n) [.Assign [.Name m pm] (.Name n pr) pa] ph]) (SP X pins D) X.xe s₃) X.xe s₂) X.xe s₁)) (wKeep X.K c i j X.N.length D) u s' →
      wpAny (model X.prog X.w) X.A (noteFrame u X.env)
        (fun _ s₂ => wpAny (model X.prog X.w) X.A (setFlight u none)
          (fun _ s₃ => wpAny (model X.prog X.w) X.A (handleBy u X.env [.ExceptHandler (some (.Name x np)) (some n) [.Assign [.Name m pm] (.Name n pr) pa] ph]) (SP X pins D) X.xe s₃) X.xe s₂) X.xe s' := by
    rintro u s' ⟨a, B, sI, pins', σ', H', cls, d, rfl, Jt, nb, up, sky, na, os, ag, hyes, hgo⟩
    have J : Inv X pins σ' H' sI := Jt.ofTry ok
    have nb : ∀ b o, sI.heap.get? b = some o → b ∉ frs X.stack → B.get? b = some o := nb
    have sky : Sky B (X.env :: X.outer) a (Zc cls d) X.env.locals s'.heap := hs ▸ sky
    refine Sky.land Zc.steady fr hf sky fun h3 air3 grow3 => ?_
    have J3 : Inv X pins σ' H' { s' with heap := h3 } := J.landed nb air3.1 (up.trans grow3) os ag
    obtain ⟨o3, v3, e3, z3, f3⟩ := air3.there
    have away : a ∉ frs (X.env :: X.outer) := fun hm => by
      obtain ⟨_, o', e', hnf⟩ := air3.2.2.1.mem hm
      cases e3.symm.trans e'
      exact hnf _ f3
    have nL : a ≠ X.env.locals := fun z => away (List.mem_filterMap.mpr ⟨X.env, List.mem_cons_self, hf.trans (congrArg some z.symm)⟩)
    have notF : a ∉ X.fs := fun hm => by
      obtain ⟨e, inX, q⟩ := List.mem_filterMap.mp hm
      exact away (List.mem_filterMap.mpr ⟨e, List.mem_cons_of_mem _ inX, q⟩)
    have gone : sI.heap.get? a = none := by
      cases q : sI.heap.get? a with
      | none => rfl
      | some o =>
        have z := nb a o q (by rw [hs]; exact away)
        rw [air3.2.1] at z
        cases z
    have n0 : X.s_0.heap.get? a = none := by
      cases q : X.s_0.heap.get? a with
      | none => rfl
      | some o =>
        obtain ⟨o', z⟩ := J.base.there a o q (by rw [hx]; exact fun z => nomatch z)
        rw [gone] at z
        cases z
    have np' : ∀ p ∈ X.pn ++ pins, p.1 ≠ a := fun p hp z => by
      have q := (J.pin p hp).1
      rw [z, gone] at q
      cases q
    have S3 := J3.suite e3 f3 na nL notF
    refine wpAny_handleBy_cons (codeAny_handlers_test ?_) (by intro q; cases q)
    have LT : PySem.W.Looks (model X.prog X.w) h3 (typeOf (.ref a)) cls := fun A Q E s k q => wpAny_typeOf_ref (k _ _ e3) (z3.1.symm ▸ q)
    have LM := PySem.W.exm_one (M := model X.prog X.w) J3.kIn LT hyes
    have named : ∀ {Q E : Value → Shared → Prop}, Q c { s' with heap := h3 } →
        wpAny (model X.prog X.w) (X.A.mark (some (.ref a))) (eval (.Name x np) X.env) Q E { s' with heap := h3 } := fun {Q E} q => by
      obtain ⟨g, gd, gm | ⟨gm, gv, gn⟩⟩ := hc
      · exact ld_glob (X := X.suite a _) S3 g gm q gd
      · exact ld_blt (X := X.suite a _) S3 g gm gv q gn gd
    refine named (LM.here (codeAny_handlers_suite_as ?_))
    refine HandSPX.lands_againZ air3 fun h4 air4 grow4 => ?_
    have J4 : Inv X pins σ' H' { s' with heap := h4 } := J.landed nb air4.1 ((up.trans grow3).trans grow4) os ag
    obtain ⟨o4, v4, e4, z4, f4⟩ := air4.there
    refine store_ok (X := X.suite a ((a, o4) :: (X.pn ++ pins))) (v := .ref a) (J4.suite e4 f4 na nL notF) hN hi (.inl hln) rfl (fun s5 S5 => ?_) (.inr hln)
    have assign : PSs (X.suite a ((a, o4) :: (X.pn ++ pins))) [.Assign [.Name m pm] (.Name n pr) pa] (tAsg (tVar i) (gName j)) :=
      pss_one (ps_set (i := j) hN hj (.inl hlm) (pe_var hi (.inl hln) hd hcd) (hf := .inr hlm))
    have hlt : i < (σ'.set i (some (V.ref a))).length := by
      rw [List.length_set, J.len]
      exact (List.getElem?_eq_some_iff.mp hi).1
    refine wpAny_mono (assign.run [] s5 _ H' { D with nx := fun σ6 H6 => σ6 = (σ'.set i (some (.ref a))).set j (some (.ref a)) ∧ H6 = H', rt := fun _ _ => False, bk := fun _ _ => False, ct := fun _ _ => False } S5
      ⟨.ref a, by rw [List.getElem?_set_self (by simpa using hlt)], rfl, rfl⟩) (fun f s6 q6 => ?_) (fun _ _ z => z.elim)
    cases f with
    | next =>
      obtain ⟨σ6, H6, S6, eσ, eH⟩ := q6
      subst eσ
      subst eH
      have U : Inv X pins _ H6 s6 := S6.unsuite ok
      have P6 := S6.pin (a, o4) (List.mem_append_left _ List.mem_cons_self)
      have pin2 : ∀ p ∈ X.pn ++ (a, o4) :: pins, s6.heap.get? p.1 = some p.2 ∧ H6 p.1 = none ∧ p.1 ≠ X.env.locals ∧ p.1 ∉ X.fs ∧ ∀ v, p.2.data ≠ .cell v := fun p hp => by
        rcases List.mem_append.mp hp with h | h
        · exact U.pin p (List.mem_append_left _ h)
        · rcases List.mem_cons.mp h with e | h
          · rw [e]
            exact P6
          · exact U.pin p (List.mem_append_right _ h)
      have U2 : Inv X ((a, o4) :: pins) _ H6 s6 := { U with pin := pin2 }
      refine gone_ok U2 hN hi hln fun s7 J7 => ?_
      have P7 := (J7.pin (a, o4) (List.mem_append_right _ List.mem_cons_self)).1
      exact ⟨_, _, track J7 ok n0 np' (exV_ok P7 z4 f4), hgo a na J.len⟩
    | brk =>
      obtain ⟨_, _, _, z⟩ := q6
      exact z.elim
    | cont =>
      obtain ⟨_, _, _, z⟩ := q6
      exact z.elim
    | ret u =>
      obtain ⟨_, _, _, _, _, z⟩ := q6
      exact z.elim
  refine wpAny_mono ((hb (wKeep X.K c i j X.N.length D) (X.pn ++ pins) _ ways PassesOwn.looking).run [] s σ H D (I.toTry _) h) (fun f s1 q => ?_) fun _ _ z => z
  cases f with
  | next =>
    obtain ⟨σ1, H1, J1, q1⟩ := q
    exact wpAny_execs_nil ⟨σ1, H1, J1.ofTry ok, q1⟩
  | brk =>
    obtain ⟨σ1, H1, J1, q1⟩ := q
    exact ⟨σ1, H1, J1.ofTry ok, q1⟩
  | cont =>
    obtain ⟨σ1, H1, J1, q1⟩ := q
    exact ⟨σ1, H1, J1.ofTry ok, q1⟩
  | ret u =>
    obtain ⟨v, σ1, H1, J1, r, q1⟩ := q
    exact ⟨v, σ1, H1, J1.ofTry ok, r, q1⟩
end
end KA
namespace KA
open PySem PySem.Spec PyProof.Rows L2 PySem.W
/-- isinstance of an exception that is kept as a value, its class without fields of its own -/
def rIsV (K : PySem.W.Frag) : List V → Hp → VK → Prop := fun xs H Q => ∃ (a D : Addr) (c : V) (cv : Value) (b : Bool), xs = [.ref a, c] ∧ H a = some (ExV (.ref D) none a) ∧ ExcC K D ∧ ClsV c cv ∧ PySem.W.kitOne K (.ref D) cv = some b ∧ Q (.bl b) H
def rIs2 (K : PySem.W.Frag) : List V → Hp → VK → Prop := fun xs H Q => rIsi K xs H Q ∨ rIsV K xs H Q
section
variable {X : Cx}
theorem call_isV : CallR X (.builtin "isinstance") (rIsV X.K) := by
  intro pins s σ H xs us Q I r h
  obtain ⟨a, D, c, cv, b, rfl, ha, C, k, e, q⟩ := h
  obtain ⟨u1, u2, rfl, r1, r2⟩ := vals2 r
  cases k.eq r2
  cases (show u1 = Value.ref a from r1)
  obtain ⟨⟨oe, h1, ⟨z1, z2⟩, vs, z3⟩, _⟩ := I.hok a _ ha
  obtain ⟨oc, od, dt, sl⟩ := oe
  dsimp only at z1 z2 z3
  subst z1 z2 z3
  have J : PySem.W.InstAt s.heap a ⟨.ref D, none, .fields vs, sl⟩ D none := ⟨h1, rfl, rfl, trivial⟩
  exact PySem.W.kia_one (PySem.W.handS_kitx_exc C.hg C.hk C.hs C.hd C.ha C.hn C.ht C.hm) I.kIn J e (fun z => nomatch z) fun tk => ⟨.bl b, H, I.tok tk, rfl, q⟩
theorem call_is2 : CallR X (.builtin "isinstance") (rIs2 X.K) := by
  intro pins s σ H xs us Q I r h
  rcases h with h | h
  · exact call_isi pins s σ H xs us Q I r h
  · exact call_isV pins s σ H xs us Q I r h
/-- repr of data -/
def rRepr (K : PySem.W.Frag) : List V → Hp → VK → Prop := fun xs H Q => ∃ (x : Addr) (d : PyData), xs = [.ref x] ∧ Dp K H (.ref x) d ∧ d.showable = true ∧ d.hasDict = false ∧ d.depth ≤ 60 ∧ d.shown.length ≤ sizeLine ∧ Q (.str d.shown) H
theorem call_repr {k : Nat} (hg : X.A.guards = some []) (hr : Room k X.A) : CallR X (.builtin "repr") (rRepr X.K) := by
  intro pins s σ H xs us Q I r h
  obtain ⟨x, d, rfl, hd, hs, hn, hz, hl, q⟩ := h
  obtain ⟨u1, rfl, r1⟩ := vals1 r
  cases (show u1 = Value.ref x from r1)
  obtain ⟨as, rd⟩ := Dp.reads I d (.ref x) (.ref x) hd rfl
  have hu := hr.un
  refine repr_of_reads' rd hs (fun z => by rw [hn] at z; cases z) hg (by omega) (fun _ _ e => e) (fun h' u tk hk => ?_) hl
  exact ⟨.str d.shown, H, I.kept (t' := tk) hk, ⟨_, rfl⟩, q⟩
end
end KA
namespace KA
open PySem PySem.Spec PyProof.Rows L2 PySem.W LamX
section
variable {X : Cx}
/-- caught: what the lambda raises is kept and handed back, None if it raises nothing -/
def TCaught (K : PySem.W.Frag) (CS : Addr) : (XK → Hp → VK → Prop) → Hp → VK → Prop := fun tl H Q => ∀ Q1 : VK, (∀ v H', Q .non H' → Q1 v H') →
  tl (fun cls d H' => PySem.W.exmOne K cls (.ref CS) = some true ∧ ∀ a, H' a = none → Q (.ref a) (upd H' a (ExV cls d a))) H Q1
theorem caught_gives {a e n m q x : Str} {sg : Scope} {g CS : Addr} {cdg : Value} {j1 : Nat} {p1 p2 p3 p4 p5 p6 p7 p8 p9 pa pb pc pd pe : Pos} (S : FnScope [a, m, n] [a] sg)
    (la : sg.names.lookup a = some .local) (lm : sg.names.lookup m = some .local) (ln : sg.names.lookup n = some .local) (he : sg.names.lookup e = some .globalImplicit) (hme : X.mg e = some (.ref CS)) (hde : (e == ("__debug__" : Str)) = false)
    (d1 : (n == ("__debug__" : Str)) = false) (d2 : (n == ("__classdict__" : Str)) = false) (d3 : (m == ("__debug__" : Str)) = false) (d4 : (m == ("__classdict__" : Str)) = false) :
    GivesTo X [a, m, n] x sg g cdg
      [.Assign [.Name m p1] (.Constant .none j1 p2) p3,
       .Try [.Expr (.Call (.Name a p4) [] [] p5) p6] [.ExceptHandler (some (.Name e p7)) (some n) [.Assign [.Name m p8] (.Name n p9) pa] pb] [] [] pc,
       .Return (some (.Name m pd)) pe] a q (TCaught X.K CS) := by
  intro f c' s H Q tl act hc h
  have hgl : Gl (cxOf C8.CX0 X.prog X.w X.K X.mg X.base [a, m, n] x sg g cdg X.A X.stack s H C8.E0).nox e := he
  refine ⟨_, pss_cons (ps_set (i := 1) S.nd rfl (.inl lm) pe_non) (pss_cons (ps_try_keep (X := (cxOf C8.CX0 X.prog X.w X.K X.mg X.base [a, m, n] x sg g cdg X.A X.stack s H C8.E0).nox) (c := .ref CS) (i := 2) (j := 1)
      (tb := fun W D σ H => ∃ Eb : XK, (∀ cls d σ' H', Eb cls d H' → W cls d σ' H') ∧ σ[0]? = some (some (.ref f)) ∧ H c' = some (CodeO c' q) ∧ tl Eb H (fun _ H' => D.nx σ H'))
      rfl rfl rfl S.nd rfl rfl ln lm ⟨hgl, hde, .inl hme⟩ d1 d2 (fun W pn xe tk _ => ?_))
    (pss_one (ps_ret (pe_var (i := 1) rfl (.inl lm) d3 d4)))), ?_⟩
  · refine ⟨fun pins s' σ H' D I h' => ?_⟩
    obtain ⟨Eb, wish, h1, h2, h3⟩ := h'
    exact (pss_one (ps_expr (act W pn xe Eb p4 p5 tk wish))).run pins s' σ H' D I ⟨h1, h2, h3⟩
  · refine ⟨fun cls d H' => PySem.W.exmOne X.K cls (.ref CS) = some true ∧ ∀ a, H' a = none → Q (.ref a) (upd H' a (ExV cls d a)), fun cls d σ' H' ⟨e1, e2⟩ => ⟨e1, fun b hb hl => ?_⟩, rfl, hc, ?_⟩
    · match σ', hl with
      | [u, v, w], _ => exact ⟨_, rfl, e2 b hb⟩
    · exact h _ fun v H' z => ⟨_, rfl, z⟩
end
end KA
namespace KA
open PySem PySem.Spec PyProof.Rows L2 PySem.W LamX
/-! ### what the top has written, by name -/
/-- a def of the top -/
structure DefT (K : PySem.W.Frag) (mg : Str → Option Value) (x : Str) (st : Stmt) where
  a : Addr
  d : FuncData
  f : Fun K x x st a d
  m : mg x = some (.ref a)
abbrev veB : List Value := [.type "ValueError", .type "Exception", .type "BaseException", .type "object"]
/-- an exception class of the top over ReelError at R, without an __init__ of its own -/
structure ExcT (K : PySem.W.Frag) (mg : Str → Option Value) (x : Str) (R : Addr) where
  C : Addr
  g : mg x = some (.ref C)
  q : PySem.W.excIn K C veB "ValueError.__new__" = true
  k : PySem.W.keepIn K (.ref C) = true
  b : PySem.W.subIn K (.ref C) (.type "BaseException") = some true
  t : PySem.W.typeIn K (.ref C) = some (.type "type")
  r : PySem.W.subIn K (.ref C) (.ref R) = some true
  e : ExcC K C
/-- ReelError -/
structure ReelT (K : PySem.W.Frag) (mg : Str → Option Value) where
  C : Addr
  g : mg "ReelError" = some (.ref C)
  b : PySem.W.subIn K (.ref C) (.type "BaseException") = some true
  t : PySem.W.typeIn K (.ref C) = some (.type "type")
  d : PySem.W.hasDictIn K C = true
theorem ExcT.exm {K : PySem.W.Frag} {mg : Str → Option Value} {x : Str} (R : ReelT K mg) (T : ExcT K mg x R.C) : PySem.W.exmOne K (.ref T.C) (.ref R.C) = some true := PySem.W.exm_ref R.b R.d R.t T.r
/-- an int constant of the top -/
def CstT (mg : Str → Option Value) (x : Str) (n : Int) : Prop := ∃ t, mg x = some (.int n t)
abbrev C1 := L2.CX
theorem passE {X : Cx} : Passes (L2.CX X.prog X.w) X E0 := passL
section
variable {X : Cx} {E : XK}
/-- raise C('..') in a def that lets it out -/
theorem ps_raiseT {K : PySem.W.Frag} {mg : Str → Option Value} {x : Str} {R : Addr} {pos p1 p2 pc : Pos} {j : Nat} {m : Str} (hK : X.K = K) (hM : X.mg = mg) (T : ExcT K mg x R) (hg : Gl X x) (hc : X.calm = true) {W : WX} (tk : Takes X W)
    (hdb : (x == ("__debug__" : Str)) = false := by decide) :
    PS X (.Raise (some (.Call (.Name x p1) [.Constant (.str m) j pc] [] p2)) none pos) (fun _ σ H => W (.ref T.C) none σ H) := by
  subst hK
  subst hM
  exact ps_raise hc tk (pmk_own PySem.F.excBase_ValueError T.q T.g T.k (raises_own T.b T.t) hg hdb)
end
end KA
namespace KA
open PySem
/-! ### numbers in bits: the mathematics -/
/-- n in k bits, as codes -/
def bitsL : Nat → Nat → List Nat
  | 0, _ => []
  | k + 1, n => bitsL k (n / 2) ++ [48 + n % 2]
theorem bitsL_len : ∀ k n, (bitsL k n).length = k
  | 0, _ => rfl
  | k + 1, n => by simp [bitsL, bitsL_len k]
def binL (n : Nat) : List Nat := (Nat.toDigits 2 n).map Char.toNat
theorem binL_lt {n : Nat} (h : n < 2) : binL n = [48 + n] := by
  unfold binL
  rw [Nat.toDigits_of_lt_base h]
  have : n = 0 ∨ n = 1 := by omega
  rcases this with rfl | rfl <;> rfl
theorem binL_ge {n : Nat} (h : 2 ≤ n) : binL n = binL (n / 2) ++ [48 + n % 2] := by
  unfold binL
  rw [Nat.toDigits_of_base_le (by decide) h, List.map_append]
  have : n % 2 = 0 ∨ n % 2 = 1 := by omega
  rcases this with e | e <;> rw [e] <;> rfl
/-- the digits behind the first one -/
def tailL (n : Nat) : List Nat := (binL n).drop 1
theorem binL_ne (n : Nat) : binL n ≠ [] := by
  unfold binL
  intro h
  exact Nat.toDigits_ne_nil (List.map_eq_nil_iff.mp h)
theorem tailL_lt {n : Nat} (h : n < 2) : tailL n = [] := by
  unfold tailL
  rw [binL_lt h]
  rfl
theorem tailL_ge {n : Nat} (h : 2 ≤ n) : tailL n = tailL (n / 2) ++ [48 + n % 2] := by
  unfold tailL
  rw [binL_ge h, List.drop_append_of_le_length]
  have := List.length_pos_iff.mpr (binL_ne (n / 2))
  omega
theorem binL_head : ∀ (n : Nat), 1 ≤ n → binL n = 49 :: tailL n := by
  intro n
  induction n using Nat.strongRecOn with
  | _ n ih =>
    intro h
    by_cases h2 : n < 2
    · have : n = 1 := by omega
      subst this
      rfl
    · rw [tailL_ge (by omega), binL_ge (by omega), ih (n / 2) (by omega) (by omega)]
      rfl
theorem binL_le : ∀ (k n : Nat), 0 < k → n < 2 ^ k → (binL n).length ≤ k
  | 0, _, h, _ => by omega
  | k + 1, n, _, h => by
    by_cases h2 : n < 2
    · rw [binL_lt h2]
      simp
    · rw [binL_ge (by omega), List.length_append]
      have hk : 0 < k := by
        rcases Nat.eq_zero_or_pos k with e | e
        · subst e
          simp at h
          omega
        · exact e
      have := binL_le k (n / 2) hk (by rw [Nat.pow_succ] at h; omega)
      simp
      omega
theorem bitsL_bin : ∀ (k n : Nat), 0 < k → n < 2 ^ k → List.replicate (k - (binL n).length) 48 ++ binL n = bitsL k n
  | 0, _, h, _ => by omega
  | k + 1, n, _, h => by
    rw [bitsL]
    by_cases h2 : n < 2
    · rw [binL_lt h2]
      have e : n / 2 = 0 := by omega
      have e2 : n % 2 = n := by omega
      rw [e, e2]
      have z : ∀ j, bitsL j 0 = List.replicate j 48 := fun j => by
        induction j with
        | zero => rfl
        | succ j ih => rw [bitsL, Nat.zero_div, ih, List.replicate_succ']
      rw [z]
      simp
    · have hk : 0 < k := by
        rcases Nat.eq_zero_or_pos k with e | e
        · subst e
          simp at h
          omega
        · exact e
      have hd : n / 2 < 2 ^ k := by
        rw [Nat.pow_succ] at h
        omega
      rw [← bitsL_bin k (n / 2) hk hd, binL_ge (by omega), List.length_append]
      have e : k + 1 - ((binL (n / 2)).length + [48 + n % 2].length) = k - (binL (n / 2)).length := by simp
      rw [e, List.append_assoc]
theorem binText_eq (n : Nat) : binText n = ⟨(binL n).toArray⟩ := rfl
theorem binText_len (n : Nat) : (binText n).length = (binL n).length := by simp [binText, binL, Str.length]
/-- n in m bits, as a text -/
def twosT (m n : Nat) : Str := ⟨(bitsL m n).toArray⟩
theorem zfill_bin {m n : Nat} (hm : 0 < m) (h : n < 2 ^ m) : Txt.zfill (binText n) (m : Int) = twosT m n := by
  have hl := binL_le m n hm h
  have hb := bitsL_bin m n hm h
  unfold Txt.zfill
  rw [binText_len]
  by_cases e : (m : Int) ≤ ((binL n).length : Nat)
  · rw [if_pos e]
    have : m - (binL n).length = 0 := by omega
    rw [this] at hb
    simp only [List.replicate_zero, List.nil_append] at hb
    rw [binText_eq, hb]
    rfl
  · rw [if_neg e]
    have h0 : (binText n).cps[0]? = some 48 ∨ (binText n).cps[0]? = some 49 := by
      rw [binText_eq]
      rcases Nat.eq_zero_or_pos n with z | z
      · subst z
        exact .inl rfl
      · rw [binL_head n z]
        exact .inr rfl
    have e2 : zfilled (binText n) ((m : Int).toNat - (binL n).length) = Builtin.Str.padded (binText n) ((m : Int).toNat - (binL n).length) 0 48 := by
      unfold zfilled
      rcases h0 with z | z
      · rw [z]
        rfl
      · rw [z]
        rfl
    rw [e2]
    unfold Builtin.Str.padded twosT
    rw [← hb, binText_eq]
    congr 1
    apply Array.toList_inj.mp
    simp
/-- n ones -/
def onesT (n : Nat) : Str := ⟨(List.replicate n 49).toArray⟩
theorem onesT_len (n : Nat) : (onesT n).length = n := by simp [onesT, Str.length]
theorem fold_ones (n : Nat) : ∀ acc : Array Nat, (List.replicate n (#[49] : Array Nat)).foldl (· ++ ·) acc = acc ++ (List.replicate n 49).toArray := by
  induction n with
  | zero => intro acc; simp
  | succ n ih =>
    intro acc
    rw [List.replicate_succ, List.foldl_cons, ih, List.replicate_succ]
    apply Array.toList_inj.mp
    simp
theorem mul_ones (n : Nat) : Txt.mul "1" (n : Int) = onesT n := by
  unfold Txt.mul
  by_cases h : (n : Int) < 1
  · rw [if_pos h]
    have : n = 0 := by omega
    subst this
    rfl
  · rw [if_neg h]
    by_cases h1 : n = 1
    · subst h1
      rfl
    · rw [if_neg (by
        have e : ((n : Int) == 1) = false := by
          rw [beq_eq_false_iff_ne]
          omega
        rw [e]
        decide)]
      show (⟨(List.replicate (n : Int).toNat (#[49] : Array Nat)).foldl (· ++ ·) #[]⟩ : Str) = _
      rw [Int.toNat_natCast, fold_ones]
      unfold onesT
      congr 1
      apply Array.toList_inj.mp
      simp
end KA
namespace KA
open PySem PySem.Spec PyProof.Rows L2 PySem.W LamX
/-! ### the law's own draws: their state -/
abbrev kLarge : Key := Sum.inr "large"
abbrev kCells : Key := Sum.inr "cells"
abbrev kLeft : Key := Sum.inr "left"
abbrev kTurn : Key := Sum.inr "turn"
def stKv (lg cl : Addr) (left turn : Int) : List (Key × V) := [(kLarge, .ref lg), (kCells, .ref cl), (kLeft, .int left), (kTurn, .int turn)]
section
variable {lg cl : Addr} {left turn : Int}
theorem k12 : ¬ kLarge = kCells := by decide +kernel
theorem k13 : ¬ kLarge = kLeft := by decide +kernel
theorem k14 : ¬ kLarge = kTurn := by decide +kernel
theorem k23 : ¬ kCells = kLeft := by decide +kernel
theorem k24 : ¬ kCells = kTurn := by decide +kernel
theorem k34 : ¬ kLeft = kTurn := by decide +kernel
theorem st_large : valV (stKv lg cl left turn) kLarge = some (.ref lg) := valV_pos rfl
theorem st_cells : valV (stKv lg cl left turn) kCells = some (.ref cl) := (valV_neg k12).trans (valV_pos rfl)
theorem st_left : valV (stKv lg cl left turn) kLeft = some (.int left) := (valV_neg k13).trans ((valV_neg k23).trans (valV_pos rfl))
theorem st_turn : valV (stKv lg cl left turn) kTurn = some (.int turn) := (valV_neg k14).trans ((valV_neg k24).trans ((valV_neg k34).trans (valV_pos rfl)))
theorem st_put_left (l : Int) : putK (stKv lg cl left turn) kLeft (.int l) = stKv lg cl l turn := by
  unfold putK
  rw [valV_any, st_left, Option.isSome_some, if_pos rfl]
  simp only [stKv, List.map_cons, List.map_nil, if_neg k13, if_neg k23, if_neg (Ne.symm k34), if_true]
theorem st_put_turn (t : Int) : putK (stKv lg cl left turn) kTurn (.int t) = stKv lg cl left t := by
  unfold putK
  rw [valV_any, st_turn, Option.isSome_some, if_pos rfl]
  simp only [stKv, List.map_cons, List.map_nil, if_neg k14, if_neg k24, if_neg k34, if_true]
end
/-- the state stands at st: the numbers that are left to draw from at lg, the script's at cl -/
structure StD (H : Hp) (st lg cl : Addr) (large cells : List Int) (left : Int) (turn : Nat) : Prop where
  d : H st = some (.dK (stKv lg cl left turn))
  l : H lg = some (.lst (large.map V.int))
  c : H cl = some (.lst (cells.map V.int))
  ne : lg ≠ cl
  pl : ∀ x ∈ large, 0 ≤ x
  p0 : 0 ≤ left
def StAt (H : Hp) (st lg cl : Addr) (n : Nat) : Prop := ∃ large cells left turn, StD H st lg cl large cells left turn ∧ turn ≤ n
/-- all but the state stands as it stood -/
def Kp (st lg : Addr) (H H' : Hp) : Prop := ∀ b o, H b = some o → b ≠ st → b ≠ lg → H' b = some o
theorem Kp.refl {st lg : Addr} {H : Hp} : Kp st lg H H := fun _ _ h _ _ => h
theorem Kp.trans {st lg : Addr} {H H1 H2 : Hp} (a : Kp st lg H H1) (b : Kp st lg H1 H2) : Kp st lg H H2 := fun c o h n1 n2 => b c o (a c o h n1 n2) n1 n2
theorem Kp.same {st lg : Addr} {H H1 : Hp} (a : Same H H1) : Kp st lg H H1 := fun c o h _ _ => a c o h
theorem Same.new {H : Hp} {p : Addr} {o : HO} (h : H p = none) : Same H (upd H p o) := fun b u e => by
  rw [upd_ne (ne_of_none e h)]
  exact e
theorem StD.same {H H' : Hp} {st lg cl : Addr} {large cells : List Int} {left : Int} {turn : Nat} (S : StD H st lg cl large cells left turn) (e : Same H H') : StD H' st lg cl large cells left turn :=
  { S with d := e _ _ S.d, l := e _ _ S.l, c := e _ _ S.c }
theorem StAt.same {H H' : Hp} {st lg cl : Addr} {n : Nat} (S : StAt H st lg cl n) (e : Same H H') : StAt H' st lg cl n := by
  obtain ⟨a, b, c, d, s, h⟩ := S
  exact ⟨a, b, c, d, s.same e, h⟩
theorem StAt.mono {H : Hp} {st lg cl : Addr} {n m : Nat} (S : StAt H st lg cl n) (h : n ≤ m) : StAt H st lg cl m := by
  obtain ⟨a, b, c, d, s, h'⟩ := S
  exact ⟨a, b, c, d, s, Nat.le_trans h' h⟩
theorem StD.st_lg {H : Hp} {st lg cl : Addr} {large cells : List Int} {left : Int} {turn : Nat} (S : StD H st lg cl large cells left turn) : st ≠ lg := ne_of S.d S.l (by intro z; cases z)
theorem StD.st_cl {H : Hp} {st lg cl : Addr} {large cells : List Int} {left : Int} {turn : Nat} (S : StD H st lg cl large cells left turn) : st ≠ cl := ne_of S.d S.c (by intro z; cases z)
/-- the state's dict is written -/
theorem StD.put {H : Hp} {st lg cl : Addr} {large cells : List Int} {left l : Int} {turn t : Nat} (S : StD H st lg cl large cells left turn) (h : 0 ≤ l) : StD (upd H st (.dK (stKv lg cl l t))) st lg cl large cells l t :=
  { d := upd_same, l := (upd_ne S.st_lg.symm).trans S.l, c := (upd_ne S.st_cl.symm).trans S.c, ne := S.ne, pl := S.pl, p0 := h }
theorem Kp.put {st lg : Addr} {H : Hp} {o : HO} : Kp st lg H (upd H st o) := fun b u e n _ => (upd_ne n).trans e
theorem Kp.put2 {st lg : Addr} {H : Hp} {o : HO} : Kp st lg H (upd H lg o) := fun b u e _ n => (upd_ne n).trans e
theorem dp_ints {K : PySem.W.Frag} {H : Hp} : ∀ ns : List Int, DpAll K H (ns.map V.int) (ns.map PyData.int)
  | [] => .nil
  | n :: r => .cons (.int n) (dp_ints r)
theorem dp_int_list {K : PySem.W.Frag} {H : Hp} {a : Addr} {ns : List Int} (h : H a = some (.lst (ns.map V.int))) : Dp K H (.ref a) (.list (ns.map PyData.int)) := .lst (SqL.of h) (dp_ints ns)
theorem dp_nil {K : PySem.W.Frag} {H : Hp} {a : Addr} (h : H a = some (.lst [])) : Dp K H (.ref a) (.list []) := .lst (SqL.of h) .nil
theorem lay_is : ∀ ns : List Int, PyData.canLayAll0 (ns.map PyData.int) = true ∧ PyData.depthAll (ns.map PyData.int) = 0
  | [] => ⟨rfl, rfl⟩
  | n :: r => by
    obtain ⟨h1, h2⟩ := lay_is r
    exact ⟨by simp [PyData.canLayAll0, PyData.canLay0, h1], by simp [PyData.depthAll, PyData.depth, h2]⟩
theorem shaped_is (ns : List Int) : SeqAt.shaped (.list (ns.map PyData.int)) = true := by
  obtain ⟨h1, h2⟩ := lay_is ns
  simp [SeqAt.shaped, PyData.canLay0, PyData.depth, h1, h2]
theorem shaped_nil : SeqAt.shaped (.list []) = true := shaped_is []
theorem eqv_ints_nil (ns : List Int) : PyData.eqv (.list (ns.map PyData.int)) (.list []) = ns.isEmpty := by
  cases ns <;> rfl
theorem st_merge (lg cl : Addr) (left turn : Int) : mergeK [] (stKv lg cl left turn) = stKv lg cl left turn := by
  unfold stKv mergeK
  simp only [List.foldl_cons, List.foldl_nil]
  rw [putK_new (kvs := []) _ valV_nil, List.nil_append]
  rw [putK_new (k := kCells) _ ((valV_neg (show ¬ kLarge = kCells from k12)).trans valV_nil), List.cons_append, List.nil_append]
  rw [putK_new (k := kLeft) _ ((valV_neg (show ¬ kLarge = kLeft from k13)).trans ((valV_neg (show ¬ kCells = kLeft from k23)).trans valV_nil)), List.cons_append, List.cons_append, List.nil_append]
  rw [putK_new (k := kTurn) _ ((valV_neg (show ¬ kLarge = kTurn from k14)).trans ((valV_neg (show ¬ kCells = kTurn from k24)).trans ((valV_neg (show ¬ kLeft = kTurn from k34)).trans valV_nil)))]
  rfl
theorem take_map_snoc {α β : Type} (f : α → β) (l : List α) (i : Nat) (x : α) (h : l[i]? = some x) : (l.take (i + 1)).map f = (l.take i).map f ++ [f x] := by
  rw [List.take_add_one, h]
  simp
theorem StAt.off {H : Hp} {st lg cl p : Addr} {n : Nat} (S : StAt H st lg cl n) (hp : H p = none) : p ≠ st ∧ p ≠ lg := by
  obtain ⟨_, _, _, _, S', _⟩ := S
  exact ⟨(ne_of_none S'.d hp).symm, (ne_of_none S'.l hp).symm⟩
end KA
namespace KA
open PySem PySem.Spec PyProof.Rows L2 PySem.W LamX
/-! ### calls by names alone; defs whose frame must know that no repr is running -/
section
variable {X : Cx} {CX : CXT} {k : Nat} {f : Addr} {fd : FuncData} {ps ks : List Str} {sp : Sp} {E : XK} {x : Str} {p pos : Pos} {kws : List Keyword} {tk : TA} {g : List Value → List Value → List Value} {gV : List V → List V → List V}
def tKw (m : Nat) (sp : Sp) (gV : List V → List V → List V) (E : XK) (tk : TA) : TE := fun σ H Q => tk σ H fun zs H2 => zs.length = m ∧ sp (gV [] zs) H2 Q E
/-- f(k = v, ..) -/
theorem pe_kw (F : FnOk X.prog X.w X.K X.mg X.base CX k f fd ps sp) (hr : Room k X.A) (hg : Gl X x) (hm : X.mg x = some (.ref f)) (hk : PySem.W.keepIn X.K (.ref f) = true) (hb : KBn X.K fd ps 0 ks g gV) (hx : Passes CX X E) (hkw : PK X kws tk)
    (named : (backToKw pos (keywordEach kws X.env)).all (·.1.isSome) = true := by rfl) (theirs : (backToKw pos (keywordEach kws X.env)).filterMap (·.1) = ks := by rfl) (hdb : (x == ("__debug__" : Str)) = false := by decide)
    (noStars : ((backTo pos (starEach [] X.env)).any (·.1) || (backToKw pos (keywordEach kws X.env)).any (·.1.isNone)) = false := by rfl) :
    PE X (.Call (.Name x p) [] kws pos) (tKw ks.length sp gV E tk) :=
  ⟨fun pins s σ H Q I h => wpAny_Call_Name_kw (ld_glob I hg hm (PySem.W.callWith_KW0 (h₀ := X.base) I.ok.mod.kin hk named (thn (hkw.run pos pins s σ H _ I h) fun ws s2 hw => by
    obtain ⟨zs, H2, I2, rz, l2, q2⟩ := hw
    refine ⟨I2.kIn, ?_⟩
    rw [theirs]
    exact run_fnN F hr hb hx I2 .nil rz rfl l2 q2) noStars) hdb)⟩
end
section
variable {K : PySem.W.Frag} {x qual : Str} {st : Stmt} {f : Addr} {fd : FuncData} {ps ks : List Str}
/-- one parameter, by its name -/
theorem Fun.kw1 {a : Str} (F : Fun K x qual st f fd) (h : ∀ (kV doc pm : Value) (an : Option Addr) (cdv ct u : Value), bindArgs (PySem.W.fnOf x qual (defArgs st) (defBody st) (defScope st) .none kV doc pm an cdv ct) ⟨[], [(a, u)]⟩ = pure [(a, u)]) :
    KBn K fd [a] 0 [a] (fun _ ws => ws) (fun _ zs => zs) := by
  obtain ⟨oc, od, kV, doc, pm, an, cdv, ct, osl, rfl, lk, hcd⟩ := F.ex
  refine ⟨fun s us ws X l1 l2 => ?_, fun _ r => r⟩
  match us, ws, l1, l2 with
  | [], [u], _, _ => exact .of_eq (h kV doc pm an cdv ct u)
/-- two parameters a, b, called as f(b = .., a = ..) -/
theorem Fun.kw2 {a b : Str} (F : Fun K x qual st f fd) (h : ∀ (kV doc pm : Value) (an : Option Addr) (cdv ct u v : Value), bindArgs (PySem.W.fnOf x qual (defArgs st) (defBody st) (defScope st) .none kV doc pm an cdv ct) ⟨[], [(b, u), (a, v)]⟩ = pure [(a, v), (b, u)]) :
    KBn K fd [a, b] 0 [b, a] (fun _ ws => ws.reverse) (fun _ zs => zs.reverse) := by
  obtain ⟨oc, od, kV, doc, pm, an, cdv, ct, osl, rfl, lk, hcd⟩ := F.ex
  refine ⟨fun s us ws X l1 l2 => ?_, fun {_ _ zs ws} _ r => ?_⟩
  · match us, ws, l1, l2 with
    | [], [u, v], _, _ => exact .of_eq (h kV doc pm an cdv ct u v)
  · clear h
    have rev : ∀ {zs : List V} {ws : List Value}, Vals zs ws → Vals zs.reverse ws.reverse := fun {zs ws} r => by
      induction r with
      | nil => exact .nil
      | cons h _ ih =>
        rw [List.reverse_cons, List.reverse_cons]
        exact ih.append (.cons h .nil)
    exact rev r
end
end KA
namespace KA
open PySem PySem.Spec PyProof.Rows L2 PySem.W LamX
/-- as FnOk, where no repr is running around the call -/
structure FnG (P : Program) (w : World) (K : PySem.W.Frag) (mg : Str → Option Value) (base : Heap) (CX : CXT) (k : Nat) (f : Addr) (fd : FuncData) (ps : List Str) (sp : Sp) : Prop where
  len : ∀ vs H Q E, sp vs H Q E → vs.length = ps.length
  run : ∀ (A : Around) (outer : List Env) (s : Shared) (H : Hp) (args : Args) (us : List Value) (vs : List V) (Q : VK) (E : XK), Room k A → A.guards = some [] →
    Env0 P w K mg base A outer s H → BindsTo s fd args (ps.zip us) → Vals vs us → sp vs H Q E → codeAny (model P w) A (.call (.ref f) args) (CR CX outer P w H s Q E) s
theorem fnG_of {CX : CXT} {P : Program} {w : World} {K : PySem.W.Frag} {mg : Str → Option Value} {base : Heap} {k : Nat} {f : Addr} {x qual : Str} {st : Stmt} {fd : FuncData} {N ps : List Str} {sp : Sp} (F : Fun K x qual st f fd) (S : FnScope N ps (defScope st))
    (len : ∀ vs H Q E, sp vs H Q E → vs.length = ps.length)
    (hbody : ∀ (cdv : Value) (A : Around) (outer : List Env) (s : Shared) (H : Hp) (vs : List V) (Q : VK) (E : XK), Room k (A.deeper (envOfC qual (defScope st) s.heap.objs.size f cdv)) → A.guards = some [] → sp vs H Q E →
      ∃ t, PSs (cxOf CX P w K mg base N qual (defScope st) f cdv A outer s H E) (defBody st) t ∧ t { nx := fun _ H' => Q .non H', rt := Q } (L2.start N vs) H) : FnG P w K mg base CX (k + 1) f fd ps sp := by
  obtain ⟨oc, od, kV, doc, pm, an, cdv, ct, osl, rfl, lk, hcd⟩ := F.ex
  exact ⟨len, fun A outer s H args us vs Q E hr hg e0 hb r h => run_ofS lk hcd S hr e0 hb r (len _ _ _ _ h) fun hr' => hbody cdv A outer s H vs Q E hr' hg h⟩
/-- what stands around the law's call: the script at a, the tables of cs (each a code object and its table) empty -/
structure Law (h : Heap) (mg mb : Str → Option Value) (K : PySem.W.Frag) (cs : List (Addr × Addr)) (a : Addr) (vs : List Value) (ns : List Int) : Prop where
  kx : K.In h
  nsM : h.Ns mainGlobals mg
  bn : h.Ns builtinsNs mb
  bb : ∀ x : Str, x ≠ "__name__" → mb x = bootBuiltins x
  lim : h.NoLimit
  tab : ∀ p ∈ cs, h.get? p.2 = some { cls := .none, data := .fields #[] }
  notab : ∀ p ∈ cs, K.lookup p.2 = none
  code : ∀ p ∈ cs, PySem.W.CodeHd h p.1 p.2
  bm : ∃ (bm : Addr) (ob : Obj), mg "__builtins__" = some (.ref bm) ∧ bm ≠ builtinsNs ∧ h.get? bm = some ob ∧ ob.cls = .type "module" ∧ ob.dict = some builtinsNs ∧ ob.data = .plain
  at_ : h.get? a = some { cls := .type "list", data := .seq vs.toArray }
  isI : IntsAre vs ns
  len : ns.length ≤ sizeLine
/-- the abstract heap at the law's call -/
def lawH (K : PySem.W.Frag) (cs : List (Addr × Addr)) (a : Addr) (vs : List Value) (ns : List Int) : Hp := fun b =>
  if b = a ∧ K.lookup a = none then some (.frz { cls := .type "list", data := .seq vs.toArray } (.lst (ns.map V.int)))
  else if b ∈ cs.map (·.2) then some (.tbl #[]) else none
section
variable {P : Program} {w : World} {K : PySem.W.Frag} {mg mb : Str → Option Value} {h : Heap} {cs : List (Addr × Addr)} {a : Addr} {vs : List Value} {ns : List Int}
theorem Law.tabAt (L : Law h mg mb K cs a vs ns) {b : Addr} (hb : b ∈ cs.map (·.2)) : h.get? b = some { cls := .none, data := .fields #[] } ∧ K.lookup b = none := by
  obtain ⟨p, hp, rfl⟩ := List.mem_map.mp hb
  exact ⟨L.tab p hp, L.notab p hp⟩
theorem Law.ne (L : Law h mg mb K cs a vs ns) {b : Addr} (hb : b ∈ cs.map (·.2)) : b ≠ a := fun z => by
  have q := (L.tabAt hb).1
  rw [z, L.at_] at q
  cases q
/-- what is tracked: the script, or a table -/
theorem Law.cases (L : Law h mg mb K cs a vs ns) {b : Addr} {u : HO} (e : lawH K cs a vs ns b = some u) :
    (b = a ∧ K.lookup a = none ∧ u = .frz { cls := .type "list", data := .seq vs.toArray } (.lst (ns.map V.int))) ∨ (b ∈ cs.map (·.2) ∧ u = .tbl #[]) := by
  unfold lawH at e
  split at e
  · rename_i c
    exact .inl ⟨c.1, c.2, (Option.some.inj e).symm⟩
  · split at e
    · rename_i c
      exact .inr ⟨c, (Option.some.inj e).symm⟩
    · cases e
theorem Law.tbl (L : Law h mg mb K cs a vs ns) {b : Addr} (hb : b ∈ cs.map (·.2)) : lawH K cs a vs ns b = some (.tbl #[]) := by
  unfold lawH
  rw [if_neg (fun z => L.ne hb z.1), if_pos hb]
theorem Law.seq (L : Law h mg mb K cs a vs ns) : SqL K (lawH K cs a vs ns) a (ns.map V.int) := by
  cases q : K.lookup a with
  | none => exact .inl (.inr ⟨_, by unfold lawH; rw [if_pos ⟨rfl, q⟩]⟩)
  | some o =>
    have e := L.kx a o q
    rw [L.at_] at e
    cases e
    exact .inr ⟨_, vs.toArray, _, q, rfl, rfl, rfl, by rw [List.size_toArray, L.isI.length]; exact L.len, by simpa using vals_ints L.isI⟩
theorem Law.hok (L : Law h mg mb K cs a vs ns) : HOk P w (lawH K cs a vs ns) h := fun b u e => by
  rcases L.cases e with ⟨rfl, _, rfl⟩ | ⟨hb, rfl⟩
  · exact ⟨L.at_, by rw [List.length_map]; exact L.len, vs, _, vals_ints L.isI, L.at_⟩
  · exact (L.tabAt hb).1
/-- an object that is neither a list nor an empty record is not tracked -/
theorem Law.free (L : Law h mg mb K cs a vs ns) {b : Addr} {o : Obj} (e : h.get? b = some o) (h1 : ∀ vs n, o.data ≠ .seq vs n) (h2 : o.data ≠ .fields #[]) : lawH K cs a vs ns b = none := by
  cases q : lawH K cs a vs ns b with
  | none => rfl
  | some u =>
    rcases L.cases q with ⟨rfl, _⟩ | ⟨hb, _⟩
    · rw [L.at_] at e
      cases e
      exact absurd rfl (h1 _ _)
    · rw [(L.tabAt hb).1] at e
      cases e
      exact absurd rfl h2
theorem Law.nsK (L : Law h mg mb K cs a vs ns) {b : Addr} {m : Str → Option Value} (x : h.Ns b m) : (hidT h (lawH K cs a vs ns)).Ns b m := by
  obtain ⟨o, es, ep, e, d, r⟩ := x
  refine ⟨o, es, ep, hidT_get e (L.free e (fun _ _ z => ?_) fun z => ?_), d, r⟩ <;> (rw [d] at z; cases z)
theorem Law.kin (L : Law h mg mb K cs a vs ns) : K.In (hidT h (lawH K cs a vs ns)) := fun b o e => hidT_get (L.kx b o e) (by
  cases q : lawH K cs a vs ns b with
  | none => rfl
  | some u =>
    rcases L.cases q with ⟨rfl, z, _⟩ | ⟨hb, _⟩
    · rw [z] at e
      cases e
    · rw [(L.tabAt hb).2] at e
      cases e)
theorem Law.mod (L : Law h mg mb K cs a vs ns) : L2.Mod K mg (hidT h (lawH K cs a vs ns)) := by
  obtain ⟨mc, h1, h2⟩ := L.lim
  exact ⟨L.kin, L.nsK L.nsM, ⟨mb, L.nsK L.bn, L.bb⟩, mc, L.nsK h1, h2⟩
theorem Law.main (L : Law h mg mb K cs a vs ns) {b : Addr} {o : Obj} (e : h.get? b = some o) (n : ∀ es ep, o.data ≠ .dict es ep) : b ≠ mainGlobals := fun z => by
  obtain ⟨o', es, ep, e', d, _⟩ := L.nsM
  rw [z, e'] at e
  cases e
  exact n _ _ d
theorem Law.tabs (L : Law h mg mb K cs a vs ns) : ∀ p ∈ cs, TabB (hidT h (lawH K cs a vs ns)) mg p.1 p.2 := fun p hp => by
  have hm : p.2 ∈ cs.map (·.2) := List.mem_map.mpr ⟨p, hp, rfl⟩
  have ht := (L.tabAt hm).1
  refine ⟨?_, ?_, fun z => L.main ht (fun _ _ q => by cases q) z.symm⟩
  · obtain ⟨o, us, file, tf, flags, tg, inF, text, tt, e1, r1, r2, r3, rest⟩ := L.code p hp
    refine ⟨o, us, file, tf, flags, tg, inF, text, tt, hidT_get e1 (L.free e1 (fun _ _ z => ?_) fun z => ?_), r1, r2, r3, rest⟩
    · rw [r2] at z
      cases z
    · rw [r2] at z
      cases z
      simp at r3
  · obtain ⟨bm, ob, b1, b2, b3, b4, b5, b6⟩ := L.bm
    refine ⟨bm, ob, b1, b2, L.main b3 (fun _ _ q => by rw [b6] at q; cases q), fun q => ?_, hidT_get b3 (L.free b3 (fun _ _ z => ?_) fun z => ?_), b4, b5, b6⟩
    · rw [q, ht] at b3
      cases b3
      cases b6
    · rw [b6] at z
      cases z
    · rw [b6] at z
      cases z
/-- an address of the heap at the call stands as it stood, or it is a table that has grown -/
theorem Law.stay (L : Law h mg mb K cs a vs ns) {s' : Shared} {H' : Hp} {b : Addr} {o : Obj} (un : Un [] [] (lawH K cs a vs ns) H' h s'.heap) (ok : HOk P w H' s'.heap) (e : h.get? b = some o) (nb : b ∉ cs.map (·.2)) : s'.heap.get? b = some o := by
  cases q : lawH K cs a vs ns b with
  | none => exact un.keep b o e q (by simp) (by simp)
  | some u =>
    rcases L.cases q with ⟨rfl, _, rfl⟩ | ⟨z, _⟩
    · have e2 := (ok b _ (un.frzs b _ _ q)).1
      rw [L.at_] at e
      rw [← e]
      exact e2
    · exact absurd z nb
theorem Law.grown (L : Law h mg mb K cs a vs ns) {s' : Shared} {H' : Hp} {b : Addr} (un : Un [] [] (lawH K cs a vs ns) H' h s'.heap) (ok : HOk P w H' s'.heap) (hb : b ∈ cs.map (·.2)) : ∃ more : Array Value, s'.heap.get? b = some { cls := .none, data := .fields more } := by
  obtain ⟨more, z⟩ := un.tbls b #[] (L.tbl hb)
  exact ⟨_, ok b _ z⟩
theorem Law.old (L : Law h mg mb K cs a vs ns) {s' : Shared} {H' : Hp} (un : Un [] [] (lawH K cs a vs ns) H' h s'.heap) (ok : HOk P w H' s'.heap) : OldK h s'.heap := by
  constructor
  · intro b o e
    by_cases hb : b ∈ cs.map (·.2)
    · obtain ⟨p, hp, rfl⟩ := List.mem_map.mp hb
      obtain ⟨more, hm⟩ := L.grown un ok hb
      have ht := L.tab p hp
      rw [ht] at e
      cases e
      refine .inr (.inl ⟨((L.code p hp).tab ht).isCodeTable, rfl, #[], more, rfl, ?_⟩)
      rw [Array.empty_append]
      exact hm
    · exact .inl (L.stay un ok e hb)
  · intro b o e
    by_cases hb : b ∈ cs.map (·.2)
    · obtain ⟨more, hm⟩ := L.grown un ok hb
      exact ⟨_, hm⟩
    · exact ⟨o, L.stay un ok e hb⟩
end
/-- the law, called with the script at a -/
theorem law_callG {P : Program} {w : World} {K : PySem.W.Frag} {mg mb : Str → Option Value} {CX : CXT} {k : Nat} {fa a : Addr} {cs : List (Addr × Addr)} {fd : FuncData} {x : Str} {sp : Sp} {s : Shared} {vs : List Value} {ns : List Int}
    (L : Law s.heap mg mb K cs a vs ns) (hg : s.gens = #[]) (hr : Room k callerA) (F : ∀ base : Heap, K.In base → base.Ns mainGlobals mg → (∀ p ∈ cs, TabB base mg p.1 p.2) → FnG P w K mg base CX k fa fd [x] sp)
    (hbind : ∀ (s : Shared) (u : Value), BindsTo s fd ⟨[u], []⟩ [(x, u)]) (hsp : ∀ H : Hp, (∀ p ∈ cs, H p.2 = some (.tbl #[])) → SqL K H a (ns.map V.int) → sp [.ref a] H (fun v _ => v = .bl true) fun _ _ _ => False)
    (hCX : ∀ H e s', CX [] H s (fun _ _ _ => False) e s' → False) :
    codeAny (model P w) callerA (.call (.ref fa) ⟨[.ref a], []⟩) (fun r s' => r = .ok (.ret (.bool true)) ∧ OldK s.heap s'.heap ∧ s'.os = s.os ∧ AllBare s'.gens) s := by
  have env : Env0 P w K mg (hidT s.heap (lawH K cs a vs ns)) callerA [] s (lawH K cs a vs ns) :=
    ⟨rfl, L.mod, fun _ _ => of_hidT, Nat.le_of_eq (hidT_size _ _), trivial, fun b hb => absurd (show b ∈ ([] : List Addr) from hb) List.not_mem_nil, L.hok, .of_eq hg⟩
  have pre := hsp (lawH K cs a vs ns) (fun p hp => L.tbl (List.mem_map.mpr ⟨p, hp, rfl⟩)) L.seq
  have run := (F _ L.kin (L.nsK L.nsM) L.tabs).run callerA [] s _ ⟨[.ref a], []⟩ [.ref a] [.ref a] _ _ hr rfl env (hbind s _) (.cons rfl .nil) pre
  refine codeAny_mono run fun r s' q => ?_
  match r, q with
  | .error e, q => exact (hCX _ e s' q).elim
  | .ok .next, q => exact False.elim q
  | .ok .brk, q => exact False.elim q
  | .ok .cont, q => exact False.elim q
  | .ok (.ret u), q =>
    obtain ⟨v, H', os, bare, un, ok, rv, e⟩ := q
    cases (show v = .bl true from e)
    cases (show u = Value.bool true from rv)
    exact ⟨rfl, L.old un ok, os, bare⟩
/-- what is known of the law at the head's heap h -/
def LawAtG (l : PySem.W.OpenLaw) (w : World) (K : PySem.W.Frag) (CX : CXT) (k n : Nat) (x : Str) (mg : Str → Option Value) (fa : Addr) (h : Heap) : Prop :=
  ∃ (fd : FuncData) (cs : List (Addr × Addr)) (sp : Sp), ((∀ p ∈ cs, h.get? p.2 = some { cls := .none, data := .fields #[] }) ∧ (∀ p ∈ cs, K.lookup p.2 = none) ∧ ∀ p ∈ cs, PySem.W.CodeHd h p.1 p.2) ∧
    (∀ (s : Shared) (u : Value), BindsTo s fd ⟨[u], []⟩ [(x, u)]) ∧
    (∀ (H : Hp) (a : Addr) (ns : List Int), ns.length ≤ n → (∀ p ∈ cs, H p.2 = some (.tbl #[])) → SqL K H a (ns.map V.int) → sp [.ref a] H (fun v _ => v = .bl true) fun _ _ _ => False) ∧
    ∀ base : Heap, K.In base → base.Ns mainGlobals mg → (∀ p ∈ cs, TabB base mg p.1 p.2) → FnG l.prog w K mg base CX k fa fd [x] sp
theorem walk_ofG {l : PySem.W.OpenLaw} {n k : Nat} {q : Program} {loose : List Str} {XP : (Str → Option Value) → Heap → Prop} {YP : World → Heap → Prop} {d : DefRec} {K : Params → PySem.W.Frag} {CX : World → CXT} {x : Str}
    (most : l.most = some n) (line : n ≤ sizeLine) (plain : d.params.defaults = []) (room : Room k callerA) (known : ∀ (w : World) (h : Heap), YP w h → (K w.params).In h)
    (at_ : ∀ (w : World) (mg : Str → Option Value) (fa : Addr) (h : Heap), YP w h → (K w.params).In h → h.Ns mainGlobals mg → mg d.name = some (.ref fa) → LawAtG l w (K w.params) (CX w) k n x mg fa h)
    (calm : ∀ (w : World) (H : Hp) (s : Shared) (e : Value) (s' : Shared), CX w [] H s (fun _ _ _ => False) e s' → False) : PySem.W.WalkO q loose XP YP l.row.toRowW d [] (fun f vs => PySem.call f vs) := by
  refine Att.attach_callB most plain fun w _ s mg mb fa _ _ _ _ a vs ns G Y _ _ _ name here isI short _ bare => ?_
  obtain ⟨fd, cs, sp, ⟨t1, t2, t3⟩, bind, pre, F⟩ := at_ w mg fa _ Y (known w _ Y) G.T.g name
  exact law_callG ⟨known w _ Y, G.T.g, G.T.b, G.T.builtins, G.T.nolimit, t1, t2, t3, G.T.bmain, here, isI, Nat.le_trans short line⟩ bare room F bind (fun H t S => pre H a ns short t S) fun H e s' => calm w H s e s'
end KA
namespace KU
open PySem PySem.W PySem.Calls PyProof.Rows PySem.HandSPX
/-! ### an own error whose __init__(self, f) says super().__init__(e) and self.f = f -/
abbrev upBody (f : Str) (e : Expr) (p0 p1 p2 p3 pe q1 q2 q3 q4 : Pos) : List Stmt :=
  [.Expr (.Call (.Attribute (.Call (.Name "super" p0) [] [] p1) "__init__" p2) [e] [] p3) pe, .Assign [.Attribute (.Name "self" q1) f q2] (.Name f q3) q4]
abbrev upArgs (f : Str) (r1 r2 : Pos) : Arguments := { posonlyargs := [], args := [{ arg := "self", annotation := none, pos := r1 }, { arg := f, annotation := none, pos := r2 }], vararg := none, kwonlyargs := [], kw_defaults := [], kwarg := none, defaults := [] }
abbrev upScope (f : Str) : Scope := { kind := .function, names := [(PySem.Str.ofString "self", .local), (f, .local), (PySem.Str.ofString "__class__", .free), (PySem.Str.ofString "super", .globalImplicit)], isGenerator := false, isCoroutine := false, more := [] }
/-- what the written part says of the class at C, of its __init__ at fI -/
structure UpTxt (P : Program) (K : Frag) (C fI cda cc : Addr) (qual f : Str) (e : Expr) : Prop where
  fn : ∃ (oc : Value) (od : Option Addr) (doc pm : Value) (an : Option Addr) (ct : Value) (osl : Array (Option Value)) (r1 r2 p0 p1 p2 p3 pe q1 q2 q3 q4 : Pos),
    K.lookup fI = some ⟨oc, od, .func (ksFn "__init__" qual (upArgs f r1 r2) (upBody f e p0 p1 p2 p3 pe q1 q2 q3 q4) (upScope f) .none .none doc pm an (.ref cda) ct cc), osl⟩ ∧
      (∀ a b : Value, bindArgs (ksFn "__init__" qual (upArgs f r1 r2) (upBody f e p0 p1 p2 p3 pe q1 q2 q3 q4) (upScope f) .none .none doc pm an (.ref cda) ct cc) ⟨[a, b], []⟩ = pure [(PySem.Str.ofString "self", a), (f, b)]) ∧
      (∀ L : Addr, swapsWith (.Name f q3) (some (.Attribute (.Name "self" q1) f q2)) q4.line (ksEnv qual (upScope f) L fI (.ref cda) cc) = pure false) ∧
      ∃ pl : Sem Bool, ∀ L : Addr, eval (.Call (.Attribute (.Call (.Name "super" p0) [] [] p1) "__init__" p2) [e] [] p3) (ksEnv qual (upScope f) L fI (.ref cda) cc) = (do
        let o ← attributeBase (.Call (.Name "super" p0) [] [] p1) "__init__" (ksEnv qual (upScope f) L fI (.ref cda) cc) (eval (.Call (.Name "super" p0) [] [] p1) (ksEnv qual (upScope f) L fI (.ref cda) cc))
        standAt p2.atName
        let (g, first) ← holding [o] (getMethod o "__init__" pl)
        callWith p3 g first (backTo p3 (starEach [e] (ksEnv qual (upScope f) L fI (.ref cda) cc))) [])
  star : ∀ env : Env, starEach [e] env = [(false, eval e env)]
  code : codeIn K (.ref cda) qual = true
  file : ∃ (cl : Value) (cdd : Option Addr) (vs : Array Value) (ccs : Array (Option Value)) (fl : Str) (tf : Tok), K.lookup cda = some ⟨cl, cdd, .fields vs, ccs⟩ ∧ vs[2]? = some (.str fl tf) ∧ ((P.main.file : Str) == fl) = true
  cell : ∃ (cl : Value) (cld : Option Addr) (csl : Array (Option Value)), K.lookup cc = some ⟨cl, cld, .cell (some (.ref C)), csl⟩
  cls : ∃ cd, clsIn K C = some cd ∧ refsVE cd.mro = true ∧ cd.hasDict = true
  self : mroIn K C (.ref C) = some true
  noSuper : nsIn K mainGlobals "super" = some none
  top : (P.main.scope.names.lookup ("super" : Str)).isSome = false
  third : nsIn K cStatics "thirdparty.any" = some none
  up : ks_superIn K C C "__init__" = some (some (.builtin "ValueError.__init__"))
  val : subIn K (.ref C) (.type "ValueError") = some true
  own : excInitIn K C [.type "ValueError", .type "Exception", .type "BaseException", .type "object"] "ValueError.__new__" = true
  set : findIn K (.ref C) "__setattr__" = some (some (.builtin "object.__setattr__"))
  noF : findIn K (.ref C) f = some none
  obj : ∃ (nm q : Str) (N : Addr) (bs bm : List Value) (sn : List Str) (sub : List Value) (ab : Bool) (col : Option Bool) (dd : Option Addr) (k0 k1 k2 k3 k5 : Option Value),
    K.lookup C = some (excClassObj nm q C N bs bm true sn sub ab col dd k0 k1 k2 k3 k5 "ValueError.__new__") ∧ refsVE bm = true
  iC : findIn K (.ref C) "__init__" = some (some (.ref fI))
  tC : typeIn K (.ref fI) = some (.type "function")
  ga : findIn K (.ref C) "__getattribute__" = some (some (.builtin "BaseException.__getattribute__"))
  gg : findIn K (.ref C) "__getattr__" = some none
  kC : keepIn K (.ref C) = true
  exC : subIn K (.ref C) (.type "BaseException") = some true
  tyC : typeIn K (.ref C) = some (.type "type")
  hdC : hasDictIn K C = true
  nf : f ≠ "self" ∧ f ≠ "__class__" ∧ f ≠ "super" ∧ f ≠ "__debug__"
/-- what it leaves of a fresh exception at x -/
structure UpEnd (h h' : Heap) (x C dx t1 : Addr) (f : Str) (v : Value) : Prop where
  keep : ∀ b o, b ≠ x → h.get? b = some o → h'.get? b = some o
  obj : h'.get? x = some { cls := .ref C, dict := some dx, data := .fields #[.ref t1, .none, .none, .none, .bool false, .none] }
  big : h.objs.size ≤ dx
  ne : dx ≠ x
  ns : h'.Ns1 dx (fun y => if y = f then some v else none)
section
variable {prog : Program} {w : World} {A : Around} {R : Result → Shared → Prop} {s : Shared} {K : Frag} {mg mb : Str → Option Value} {C fI cda cc : Addr} {qual f : Str} {e : Expr}
theorem up_init (T : UpTxt prog K C fI cda cc qual f e) {x t0 : Addr} {v : Value} (X : K.In s.heap) (hlim : s.heap.NoLimit) (hg : s.heap.Ns mainGlobals mg) (hb : s.heap.Ns builtinsNs mb) (hbb : ∀ y : Str, y ≠ "__name__" → mb y = bootBuiltins y)
    (hx : s.heap.get? x = some (excO C t0)) (hnx : K.lookup x = none) (hroom : A.depth < recursionLimit)
    (text : ∀ (A' : Around) (E : Value → Shared → Prop) (s' : Shared) (L : Addr) (m : Str → Option Value) (Q : Value → Shared → Prop), s'.heap.Ns L m → m f = some v → (∀ (z : Str) (t t' : Tok), Q (.str z t) { s' with toks := t' }) → wpAny (model prog w) A' (eval e (ksEnv qual (upScope f) L fI (.ref cda) cc)) Q E s')
    (hq : ∀ h' tk dx t1, UpEnd s.heap h' x C dx t1 f v → R (.ok (.ret .none)) { s with heap := h', toks := tk }) :
    codeAny (model prog w) A (.call (.ref fI) ⟨[.ref x, v], []⟩) R s := by
  obtain ⟨hp, g, dr, tk, os⟩ := s
  dsimp only at X hlim hg hb hx
  obtain ⟨oc, od, doc, pm, an, ct, osl, r1, r2, p0, p1, p2, p3, pe, q1, q2, q3, q4, ho, hbd, hswap, pl, hcall⟩ := T.fn
  obtain ⟨n1, n2, n3, n4⟩ := T.nf
  have lf : (upScope f).names.lookup f = some .local := by
    show List.lookup f ((PySem.Str.ofString "self", NameKind.local) :: _) = _
    rw [List.lookup_cons]
    cases f == PySem.Str.ofString "self" with
    | true => rfl
    | false =>
      show List.lookup f ((f, NameKind.local) :: _) = _
      rw [List.lookup_cons, beq_self_eq_true]
  refine ks_codeAny_call_defAt (binds := [(PySem.Str.ofString "self", .ref x), (f, v)]) (body := upBody f e p0 p1 p2 p3 pe q1 q2 q3 q4) hroom (X _ _ ho) rfl hlim (codeRec_of X T.code) rfl ?bind ?cells ?locs (fun h₁ hns keep => ?_) rfl rfl rfl
  case bind => exact .of_eq (hbd _ _)
  case cells =>
    intro y hy
    simp only [List.mem_cons, List.not_mem_nil, or_false] at hy
    rcases hy with z | z | z | z <;> (subst z; exact fun q => by cases q)
  case locs =>
    intro y hy
    simp only [List.mem_cons, List.not_mem_nil, or_false] at hy
    rcases hy with z | z <;> subst z
    · rfl
    · exact lf
  have X1 : K.In h₁ := X.keeps keep
  have ms : (List.lookup (PySem.Str.ofString "self") [(PySem.Str.ofString "self", Value.ref x), (f, v)].reverse) = some (.ref x) := by
    show List.lookup (PySem.Str.ofString "self") [(f, v), (PySem.Str.ofString "self", Value.ref x)] = _
    rw [List.lookup_cons, beq_false_of_ne (Ne.symm n1)]
    rfl
  have mf : (List.lookup f [(PySem.Str.ofString "self", Value.ref x), (f, v)].reverse) = some v := by
    show List.lookup f [(f, v), (PySem.Str.ofString "self", Value.ref x)] = _
    rw [List.lookup_cons, beq_self_eq_true]
  obtain ⟨cd, hcd, hmro, hdict⟩ := T.cls
  obtain ⟨cl, cdd, vs, ccs, fl, tf, hcode, hvs, hfile⟩ := T.file
  obtain ⟨ccl, cld, csl, hcell⟩ := T.cell
  have hx1 := keep _ _ hx
  generalize hm : (fun y => List.lookup y [(PySem.Str.ofString "self", Value.ref x), (f, v)].reverse) = m at hns
  have ms' : m "self" = some (.ref x) := by rw [← hm]; exact ms
  have mf' : m f = some v := by rw [← hm]; exact mf
  clear ms mf hm
  show PySem.wpAt _ _ _ (execs (upBody f e p0 p1 p2 p3 pe q1 q2 q3 q4) (ksEnv qual (upScope f) hp.objs.size fI (.ref cda) cc)) _ _ _
  refine ks_wpAt_execs_cons (ks_wpAt_Expr_any (ks_wpAt_MethodCall (pl := pl) ?_ (hcall _)))
  obtain ⟨oC, hC1, hC2⟩ : ∃ oC, h₁.get? C = some oC ∧ oC.data = .cls cd := by
    unfold clsIn at hcd
    split at hcd
    · rename_i c d cd' sl z
      cases hcd
      exact ⟨_, X1 _ _ z, rfl⟩
    · cases hcd
  have k1 : (upScope f).names.lookup ("super" : Str) = some .globalImplicit := by
    show List.lookup (PySem.Str.ofString "super") ((f, NameKind.local) :: _) = _
    rw [List.lookup_cons, beq_false_of_ne (Ne.symm n3)]
    rfl
  have k2 : (upScope f).names.lookup ("__class__" : Str) = some .free := by
    show List.lookup (PySem.Str.ofString "__class__") ((f, NameKind.local) :: _) = _
    rw [List.lookup_cons, beq_false_of_ne (Ne.symm n2)]
    rfl
  refine ks_wpAt_super_base (env := ksEnv qual (upScope f) hp.objs.size fI (.ref cda) cc) k1 k2 rfl rfl (X1 _ _ ho) rfl rfl rfl (X1 _ _ hcode) rfl hvs hfile T.top ?_
  refine ks_loadName_global rfl k1 (loadGlobal_builtin (env := ksEnv qual (upScope f) hp.objs.size fI (.ref cda) cc) (hg.keeps keep) (mg_none_of X hg T.noSuper) (hb.keeps keep) ((hbb _ (by decide +kernel)).trans (show bootBuiltins "super" = some (.type "super") by kernel_rfl)) ⟨rfl, ?_⟩)
  refine wpAny_loadName_free rfl k2 rfl ⟨_, X1 _ _ hcell, rfl⟩ ?_
  refine wpAny_loadName_local rfl rfl hns ms' ?_
  refine ks_wpAny_isType_cls hC1 hC2 ⟨rfl, ?_⟩
  refine ks_wpAny_call_super hC1 hC2 hx1 rfl (fun c z => by cases z) (looks_mroIn X1 T.self) (fun h2 so keep2 => ?_)
  have X2 : K.In h2 := X1.keeps keep2
  have hx2 := keep2 _ _ hx1
  have I2 : InstAt h2 x (excO C t0) C none := ⟨hx2, rfl, rfl, trivial⟩
  have along : alongIn K "__init__" ((cd.mro.dropWhile (· != .ref C)).drop 1) = some (some (.builtin "ValueError.__init__")) := by
    have z := T.up
    unfold ks_superIn at z
    rw [hcd] at z
    exact z
  refine kxs_getMethod kxs_ValueError so (looks_opaque X2 T.third) (l₀ := cd.mro) (fun A Q E s k q => wpAny_bind ((looks_clsIn X2 hcd) A _ E s k (wpAny_pure q))) rfl X2 along (I2.type.andThen (looks_subIn X2 T.val)) (ks_ne X2 I2 hcd) rfl ?_
  have push3 : ∀ b o, h2.get? b = some o → (h2.push (kxs_mw "ValueError.__init__" x)).get? b = some o := fun b o z => Heap.get?_push_of_some _ z
  generalize hh3 : h2.push (kxs_mw "ValueError.__init__" x) = h3 at push3
  have hu : h3.get? h2.objs.size = some (kxs_mw "ValueError.__init__" x) := by
    rw [← hh3]
    exact Heap.get?_push_at rfl rfl
  generalize h2.objs.size = u at hu
  have X3 : K.In h3 := X2.keeps push3
  have hx3 := push3 _ _ hx2
  have hns3 : h3.Ns hp.objs.size m := (hns.keeps keep2).keeps push3
  rw [T.star]
  refine kxs_callWith (i := "ValueError.__init__") (x := x) (u := u) rfl (evalArgs_plain (spliced_cons ?_))
  refine text _ _ _ _ _ _ hns3 mf' fun z zt t' => spliced_nil ⟨hu, ?_⟩
  obtain ⟨nm, N', qn, bs, bm, hdct, sn, sub, ab, col, dd, kk0, kk1, kk2, kk3, kk5, hC, hT⟩ := excInit_of X3 T.own
  refine wpAny_call (codeAny_of_tree ?_)
  show wpAny _ (Around.in1 _) (callAny (.ref u) ⟨[.str z zt], []⟩) _ _ _
  simp only [callAny]
  refine wpAny_bind (wpAny_load hu ?_)
  simp only [kxs_mw, show (Value.type "method-wrapper" == Value.type "method" || Value.type "method-wrapper" == Value.type "builtin_function_or_method" || Value.type "method-wrapper" == Value.type "method-wrapper") = true by decide, if_true]
  have FB := F.excBase_ValueError
  refine KFB.if_so (by decide) (wpAny_bind (check_bound_init FB.toExcCallFacts hC hx3 rfl (wpAny_bind (wpAny_pure (wpAny_pure ⟨plainId_quiet FB.init.plain _, codeAny_builtin FB.initEntry ?_⟩)))))
  refine exc_init_tree (cls := .ref C) (t0 := t0) (dv := none) (c2 := .none) (c3 := .none) (b4 := .bool false) hx3 (by show 1 ≤ sizeLine; decide) fun h4 keep4 hx4 _ => ?_
  have X4 : K.In h4 := fun b o z => keep4 b o (fun q => by rw [q, hnx] at z; cases z) (X3 b o z)
  have hns4 : h4.Ns hp.objs.size m := by
    obtain ⟨oL, es, ep, hL, rest⟩ := hns3
    exact ⟨oL, es, ep, keep4 _ _ (Nat.ne_of_gt (Heap.lt_size hx)) hL, rest⟩
  refine wpAt_of_wpAny (wpAny_execs_cons (plainObj_wpAny_Assign_Attribute ?_ (hswap _)))
  have kf : (ksEnv qual (upScope f) hp.objs.size fI (.ref cda) cc).kindOf f = some .local := lf
  have ndb : (f == ("__debug__" : Str)) = false := beq_false_of_ne n4
  refine wpAny_Name (wpAny_loadName_local rfl kf hns4 mf' ?_) ndb
  refine wpAny_Name (wpAny_loadName_local rfl rfl hns4 ms' ?_) rfl
  refine set_plain X4 (ox := excO C h3.objs.size) (od := none) ⟨hx4, rfl, rfl, trivial⟩ T.set ?_
  refine exc_osa X4 hx4 hcd hmro hdict T.noF fun h5 tk5 dx keep5 big ne5 hx5 hn5 => ?_
  refine wpAny_execs_nil (hq h5 tk5 dx h3.objs.size ⟨fun b o hb z => keep5 b o hb (keep4 b o hb (push3 b o (keep2 b o (keep b o z)))), hx5, ?_, ne5, hn5⟩)
  exact Nat.le_of_lt (Nat.lt_of_lt_of_le hns4.lt big)
/-- a made one -/
structure UpMade (h h' : Heap) (e C d : Addr) (f : Str) (v : Value) : Prop where
  keep : ∀ b o, h.get? b = some o → h'.get? b = some o
  new : h.objs.size ≤ e
  obj : ∃ oe vs, h'.get? e = some oe ∧ oe.cls = .ref C ∧ oe.dict = some d ∧ oe.data = .fields vs ∧ vs[1]? = some .none
  big : h.objs.size ≤ d
  ne : d ≠ e
  ns : h'.Ns1 d (fun y => if y = f then some v else none)
theorem up_made (T : UpTxt prog K C fI cda cc qual f e) {v : Value} (X : K.In s.heap) (hlim : s.heap.NoLimit) (hg : s.heap.Ns mainGlobals mg) (hb : s.heap.Ns builtinsNs mb) (hbb : ∀ y : Str, y ≠ "__name__" → mb y = bootBuiltins y) (hroom : A.depth + 1 < recursionLimit)
    (text : ∀ (A' : Around) (E : Value → Shared → Prop) (s' : Shared) (L : Addr) (m : Str → Option Value) (Q : Value → Shared → Prop), s'.heap.Ns L m → m f = some v → (∀ (z : Str) (t t' : Tok), Q (.str z t) { s' with toks := t' }) → wpAny (model prog w) A' (eval e (ksEnv qual (upScope f) L fI (.ref cda) cc)) Q E s')
    (hq : ∀ h' tk a d, UpMade s.heap h' a C d f v → R (.ok (.ret (.ref a))) { s with heap := h', toks := tk }) : codeAny (model prog w) A (.call (.ref C) ⟨[v], []⟩) R s := by
  obtain ⟨nm, q, N, bs, bm, sn, sub, ab, col, dd, k0, k1, k2, k3, k5, hC, hbm⟩ := T.obj
  obtain ⟨hp, g, dr, tk, os⟩ := s
  dsimp only at X hlim hg hb
  generalize hh : (hp.push (kdv_tup [v])).push (excO C hp.objs.size) = h1
  have k : ∀ b o, hp.get? b = some o → h1.get? b = some o := fun b o z => by
    rw [← hh]
    exact Heap.get?_push_of_some _ (Heap.get?_push_of_some _ z)
  have got : h1.get? (hp.objs.size + 1) = some (excO C hp.objs.size) := by
    rw [← hh]
    heap_get
  have fresh : K.lookup (hp.objs.size + 1) = none := by
    cases z : K.lookup (hp.objs.size + 1) with
    | none => rfl
    | some o => exact absurd (show hp.objs.size + 1 < hp.objs.size from Heap.lt_size (X _ _ z)) (Nat.not_lt.mpr (Nat.le_succ _))
  refine call_own F.excBase_ValueError (fun Y => refsVE_contains Y bm hbm) (X _ _ hC) (looks_findIn X T.iC) (fun self => bind_fn X self T.tC) (by show 1 ≤ sizeLine; decide) ?_
  rw [hh]
  refine up_init (s := ⟨h1, g, dr, tk, os⟩) T (X.keeps k) (hlim.keeps k) (hg.keeps k) (hb.keeps k) hbb got fresh hroom text fun h' tk' dx t1 Z => ?_
  have size1 : hp.objs.size ≤ h1.objs.size := Nat.le_of_lt (Nat.lt_of_succ_lt (Heap.lt_size got))
  exact ⟨rfl, hq h' tk' (hp.objs.size + 1) dx ⟨fun b o z => Z.keep b o (Nat.ne_of_lt (Nat.lt_succ_of_lt (Heap.lt_size z))) (k b o z), Nat.le_succ _, ⟨_, _, Z.obj, rfl, rfl, rfl, rfl⟩, Nat.le_trans size1 Z.big, Z.ne, Z.ns⟩⟩
end
end KU
namespace KU
open PySem PySem.W PySem.Calls PyProof.Rows PySem.HandSPX
/-- what the error says of v can be told -/
abbrev Text (P : Program) (w : World) (fI cda cc : Addr) (qual f : Str) (e : Expr) (v : Value) : Prop :=
  ∀ (A' : Around) (E : Value → Shared → Prop) (s' : Shared) (L : Addr) (m : Str → Option Value) (Q : Value → Shared → Prop), s'.heap.Ns L m → m f = some v → (∀ (z : Str) (t t' : Tok), Q (.str z t) { s' with toks := t' }) →
    wpAny (model P w) A' (eval e (ksEnv qual (upScope f) L fI (.ref cda) cc)) Q E s'
theorem kind_f {f : Str} : (upScope f).names.lookup f = some .local := by
  show List.lookup f ((PySem.Str.ofString "self", NameKind.local) :: _) = _
  rw [List.lookup_cons]
  cases f == PySem.Str.ofString "self" with
  | true => rfl
  | false =>
    show List.lookup f ((f, NameKind.local) :: _) = _
    rw [List.lookup_cons, beq_self_eq_true]
/-- f'z{f}' of an int, of a text -/
theorem text_of {P : Program} {w : World} {fI cda cc : Addr} {qual f z : Str} {j : Nat} {pc pn pf pj : Pos} {v : Value} {y : Str} (hd : f ≠ "__debug__")
    (fld : ∀ (A' : Around) (E : Value → Shared → Prop) (s' : Shared) (Q : Value → Shared → Prop), (∀ (t t' : Tok), Q (.str y t) { s' with toks := t' }) → wpAny (model P w) A' (formatField v Str.empty) Q E s')
    (h1 : z.length ≤ sizeLine) (h2 : (z ++ y).length ≤ sizeLine) : Text P w fI cda cc qual f (.JoinedStr [.Constant (.str z) j pc, .FormattedValue (.Name f pn) (-1) none pf] pj) v := by
  intro A' E s' L m Q hn hm k
  refine wpAny_JoinedStr ?_
  have e0 : ∀ env : Env, evalEach [.Constant (.str z) j pc, .FormattedValue (.Name f pn) (-1) none pf] env = [eval (.Constant (.str z) j pc) env, eval (.FormattedValue (.Name f pn) (-1) none pf) env] := fun _ => by first | rfl | simp [evalEach]
  rw [e0]
  have e1 : Str.empty ++ z = z := by
    show (⟨#[] ++ z.cps⟩ : Str) = z
    rw [Array.empty_append]
  refine Calls.Constant_str ⟨z, _, rfl, by rw [e1]; exact h1, ?_⟩
  rw [e1]
  refine wpAny_FormattedValue_plain (wpAny_Name (wpAny_loadName_local rfl (show (ksEnv qual (upScope f) L fI (.ref cda) cc).kindOf f = some .local from kind_f) hn hm ?_) (beq_false_of_ne hd))
  exact fld _ _ _ _ fun t t' => ⟨y, t, rfl, h2, h2, k _ _ _⟩
theorem text_int {P : Program} {w : World} {fI cda cc : Addr} {qual f z : Str} {j : Nat} {pc pn pf pj : Pos} {i : Int} {t : Tok} (hd : f ≠ "__debug__") (hi : i.natAbs.log2 < 1920) (h1 : z.length ≤ sizeLine) (h2 : (z ++ (toString i : String)).length ≤ sizeLine) :
    Text P w fI cda cc qual f (.JoinedStr [.Constant (.str z) j pc, .FormattedValue (.Name f pn) (-1) none pf] pj) (.int i t) :=
  text_of hd (fun _ _ _ _ k => wpAny_formatField_int hi (k _ _)) h1 h2
theorem text_str {P : Program} {w : World} {fI cda cc : Addr} {qual f z y : Str} {j : Nat} {pc pn pf pj : Pos} {t : Tok} (hd : f ≠ "__debug__") (h1 : z.length ≤ sizeLine) (h2 : (z ++ y).length ≤ sizeLine) (h3 : y.length ≤ sizeLine) :
    Text P w fI cda cc qual f (.JoinedStr [.Constant (.str z) j pc, .FormattedValue (.Name f pn) (-1) none pf] pj) (.str y t) :=
  text_of hd (fun _ _ _ _ k => wpAny_formatField_str (k _ _) (k _ _) h3) h1 h2
end KU
namespace KU
open PySem PySem.Spec PyProof.Rows L2
theorem relO_up {v : V} {v' : Value} {n : Str} (r : RelV v v') (f : Str) : RelO (List.lookup f [(n, v)]) (if f = n then some v' else none) := by
  by_cases c : f = n
  · subst c
    rw [if_pos rfl, List.lookup_cons, beq_self_eq_true]
    exact r
  · rw [if_neg c, List.lookup_cons, beq_false_of_ne c]
    trivial
section
variable {X : Cx} {C fI cda cc : Addr} {qual f x : Str} {e : Expr}
/-- x(a), x the class's name -/
def tMkUp (T : Value → Prop) (C : Addr) (f : Str) (ta : TA) : L2.St → Hp → XK → Prop := fun σ H Q => ta σ H fun vs H1 => ∃ v, vs = [v] ∧ (∀ v', RelV v v' → T v') ∧ ∀ d, H1 d = none → Q (.ref C) (some d) (upd H1 d (.xd [(f, v)]))
theorem pmk_up {a : Expr} {ta : TA} {p pos : Pos} {k : Nat} (T : UpTxt X.prog X.K C fI cda cc qual f e) (gC : X.mg x = some (.ref C)) (hr : Room k X.A) (ha : PA X [a] ta) (hg : Gl X x) (hdb : (x == ("__debug__" : Str)) = false := by decide)
    (he : starEach (a :: []) X.env = (false, eval a X.env) :: starEach [] X.env := by rfl) (hpl : (backTo pos (starEach [] X.env)).any (·.1) = false := by rfl) :
    PMk X (.Call (.Name x p) [a] [] pos) (tMkUp (Text X.prog X.w fI cda cc qual f e) C f ta) := by
  intro pins s σ H Q I h
  refine wpAny_Call_Name_kw (ld_glob I hg gC ?_ hdb)
  refine PySem.W.callWith_K (h₀ := X.base) I.ok.mod.kin T.kC (thn (ha.run pos pins s σ H _ I h) fun us s1 hh => ?_) he hpl
  obtain ⟨vs, H1, I1, r1, v, rfl, ht, q1⟩ := hh
  refine ⟨I1.kIn, ?_⟩
  cases r1 with
  | cons rv rn =>
    rename_i v' us'
    cases rn
    show wpAny _ _ (call (.ref C) [v']) _ _ _
    obtain ⟨mb, b1, b2⟩ := I1.mod.blt
    have lim := I1.nolimit
    have glob := I1.mod.glob.keeps I1.bk
    have blt := b1.keeps I1.bk
    have dp := hr.dp
    obtain ⟨hp, g, dr, tk, os⟩ := s1
    refine wpAny_call (up_made T I1.kIn lim glob blt b2 (by omega) (ht v' rv) fun h' tk' a' d M => ?_)
    show MkP X pins σ Q (.ref a') ⟨h', g, dr, tk', os⟩
    obtain ⟨oe, fv, hoe, hc, hd, hdat, one⟩ := M.obj
    obtain ⟨G, in_, out⟩ := restrict h' fun b => decide (b ≠ a')
    have same : ∀ b, b ≠ a' → G.get? b = h'.get? b := fun b hb => in_ b (decide_eq_true hb)
    have gone : G.get? a' = none := out a' (by simp)
    have stay : ∀ b o, hp.get? b = some o → G.get? b = some o := fun b o z => (same b (Nat.ne_of_lt (Nat.lt_of_lt_of_le (Heap.lt_size z) M.new))).trans (M.keep b o z)
    have own : ObjOk X.prog X.w (upd H1 d (.xd [(f, v)])) G d (.xd [(f, v)]) := ⟨_, M.ns.at (fun o z => (same d M.ne).trans z), fun y => relO_up rv y⟩
    have J : Inv X pins σ (upd H1 d (.xd [(f, v)])) ⟨G, g, dr, tk', os⟩ := I1.laid (t' := tk') stay M.big own
    refine ⟨a', oe, fv, ⟨G, g, dr, tk', os⟩, _, .ref C, some d, rfl, J, fun b o z => ?_, gone, hoe, ⟨hc, hd⟩, hdat, one, ?_, rfl, I1.bare, raises_own T.exC T.tyC, q1 d (I1.hok.fresh M.big)⟩
    · have hb : b ≠ a' := fun y => by
        rw [y] at z
        exact absurd (gone.symm.trans z) (by simp)
      exact (same b hb).symm.trans z
    · rw [upd_ne (Ne.symm M.ne)]
      exact I1.hok.fresh M.new
/-- raise x(a) -/
theorem ps_raiseUp {a : Expr} {ta : TA} {W : WX} {p pos pos2 : Pos} {k : Nat} (hc : X.calm = true) (T : UpTxt X.prog X.K C fI cda cc qual f e) (gC : X.mg x = some (.ref C)) (hr : Room k X.A) (tk : Takes X W) (ha : PA X [a] ta) (hg : Gl X x) (hdb : (x == ("__debug__" : Str)) = false := by decide)
    (he : starEach (a :: []) X.env = (false, eval a X.env) :: starEach [] X.env := by rfl) (hpl : (backTo pos (starEach [] X.env)).any (·.1) = false := by rfl) :
    PS X (.Raise (some (.Call (.Name x p) [a] [] pos)) none pos2) (fun _ σ H => tMkUp (Text X.prog X.w fI cda cc qual f e) C f ta σ H fun cls d H' => W cls d σ H') := ps_raise hc tk (pmk_up T gC hr ha hg hdb he hpl)
/-- err.f, err an exception that is kept as a value -/
def tUpGet (C : Addr) (f : Str) (te : TE) : TE := fun σ H Q => te σ H fun x H1 => ∃ (a d : Addr) (v : V), x = .ref a ∧ H1 a = some (KA.ExV (.ref C) (some d) a) ∧ H1 d = some (.xd [(f, v)]) ∧ Q v H1
theorem pe_upGet {o : Expr} {te : TE} {pos : Pos} (T : UpTxt X.prog X.K C fI cda cc qual f e) (he : PE X o te) (hb : attributeBase o f X.env (eval o X.env) = eval o X.env := by rfl) :
    PE X (.Attribute o f pos) (tUpGet C f te) := by
  refine ⟨fun pins s σ H Q I h => ?_⟩
  refine attr_of hb (thn (he.run pins s σ H _ I h) fun u s1 hh => ?_)
  obtain ⟨x, H1, I1, rx, a, d, v, rfl, ha, hd, q⟩ := hh
  obtain rfl : u = Value.ref a := rx
  obtain ⟨⟨oe, got, z, vs, dat⟩, _⟩ := I1.hok a _ ha
  obtain ⟨mA, ns, rel⟩ := I1.hok d _ hd
  obtain ⟨od, at_, look⟩ := lookIn_ns ns
  have l : List.lookup f [(f, v)] = some v := by rw [List.lookup_cons, beq_self_eq_true]
  obtain ⟨u, hu, ru⟩ := RelO.some_of (v := v) (o := mA f) (by rw [← l]; exact rel f)
  have J : PySem.W.InstAt s1.heap a oe C (some od) := ⟨got, z.1, by unfold PySem.W.notCls; rw [dat] <;> rfl, by rw [z.2]; exact at_⟩
  exact HandSPX.exc_get I1.kIn J T.ga T.gg T.exC (PySem.W.findObj_own T.hdC T.noF rfl (by rw [look, hu])) (handed_of ru) ⟨v, H1, I1.tok _, ru, q⟩
end
end KU
namespace KW
open PySem PySem.Spec PyProof.Rows L2 PySem.W LamX
/-! ### a lambda without parameters that is handed on from def to def: it stands as it was made, whoever calls it -/
theorem un_comp {fs gs : List Addr} {H H1 H2 : Hp} {h h1 h2 : Heap} (a : Un fs [] H H1 h h1) (b : Un gs [] H1 H2 h1 h2) (sub : ∀ x ∈ gs, x ∈ fs ∨ h.get? x = none) : Un fs [] H H2 h h2 := by
  have no : ∀ {x : Addr} {o : Obj}, h.get? x = some o → x ∉ fs → x ∉ gs := fun e n z => by
    rcases sub _ z with q | q
    · exact n q
    · rw [q] at e
      cases e
  refine ⟨fun x o e n hx _ => ?_, fun x o e n hx _ => ?_, fun x o e n _ => ?_, fun x o e _ => ?_, fun x xs e => b.tups _ _ (a.tups _ _ e), fun x o u e => b.frzs _ _ _ (a.frzs _ _ _ e), fun x ps e => ?_⟩
  · exact b.keep x o (a.keep x o e n hx (by simp)) (a.free x o e n (by simp)) (no e hx) (by simp)
  · obtain ⟨sl, e1⟩ := a.slot x o e n hx (by simp)
    have n1 := a.free x o e n (by simp)
    by_cases hg : x ∈ gs
    · obtain ⟨sl2, e2⟩ := b.slot x _ e1 n1 hg (by simp)
      exact ⟨sl2, e2⟩
    · exact ⟨sl, b.keep x _ e1 n1 hg (by simp)⟩
  · obtain ⟨o1, e1⟩ := a.there x o e (by simp)
    exact b.free x o1 e1 (a.free x o e n (by simp)) (by simp)
  · obtain ⟨o1, e1⟩ := a.there x o e (by simp)
    exact b.there x o1 e1 (by simp)
  · obtain ⟨m1, e1⟩ := a.tbls x ps e
    obtain ⟨m2, e2⟩ := b.tbls x _ e1
    exact ⟨m1 ++ m2, by rw [e2, Array.append_assoc]⟩
/-- the lambda at f, its code object at c' of the name q, made where the heaps were H0, h0; fs: the frames that ran then; t: what it promises -/
structure Work (P : Program) (w : World) (K : PySem.W.Frag) (mg : Str → Option Value) (base : Heap) (k : Nat) (fs : List Addr) (H0 : Hp) (h0 : Heap) (f c' : Addr) (q : Str) (t : XK → Hp → VK → Prop) : Prop where
  obj : ∃ (params : Arguments) (body : Expr) (scope : Scope) (cl : List (Str × Addr)) (pm ctv : Value), h0.get? f = some (PySem.W.kla_obj "<lambda>" q params body scope cl pm c' ctv)
  free : H0 f = none
  out : f ∉ fs
  run : ∀ (A : Around) (outer : List Env) (s1 : Shared) (HZ : Hp) (Q : VK) (E : XK), Room (k + 1) A → Env0 P w K mg base A outer s1 HZ → Un fs [] H0 HZ h0 s1.heap → HZ c' = some (CodeO c' q) → t E HZ Q →
    codeAny (model P w) A (.call (.ref f) ⟨[], []⟩) (CR (L2.CX P w) outer P w HZ s1 Q E) s1
section
variable {X : Cx} {pins : List (Addr × Obj)} {σ : L2.St} {H : Hp} {s : Shared}
theorem work_of {k : Nat} {f c' : Addr} {pm ctv : Value} {params : Arguments} {body : Expr} {scope : Scope} {tb : XK → TE} (I : Inv X pins σ H s) (L : LamS X.env.scope scope)
    (hf : s.heap.get? f = some (PySem.W.kla_obj "<lambda>" (X.env.qual ++ "<lambda>") params body scope (cloFrom X.env.cells scope.names []) pm c' ctv)) (hfn : H f = none) (hfr : f ∉ frs X.stack)
    (hbind : bindArgs (PySem.W.kla_fn "<lambda>" (X.env.qual ++ "<lambda>") params body scope (cloFrom X.env.cells scope.names []) pm (.ref c') ctv) ⟨[], []⟩ = pure [])
    (hbody : ∀ (A : Around) (outer : List Env) (s1 : Shared) (HZ : Hp) (E : XK), Room k (A.deeper (lamEnv X scope s1.heap.objs.size f c')) → PE (lamCx X A outer s1 HZ E scope f c') body (tb E)) :
    Work X.prog X.w X.K X.mg X.base k (frs X.stack) H s.heap f c' (X.env.qual ++ "<lambda>") (fun E HZ Q => tb E σ HZ Q) := by
  refine ⟨⟨_, _, _, _, _, _, hf⟩, hfn, hfr, fun A outer s1 HZ Q E hr e0 un hc ht => ?_⟩
  have of1 := un.keep f _ hf hfn hfr (by simp)
  obtain ⟨⟨oc, vs, t, hoc, hdc, hvc⟩, _, _⟩ := e0.hok c' _ hc
  have lim : s1.heap.NoLimit := e0.mod.nolimit.keeps fun b o e => (e0.bs b o e).1
  refine PySem.W.kla_callFunE hr.depth of1 rfl L.co L.gen rfl ⟨c', oc, vs, t, rfl, hoc, hdc, hvc⟩ ?_
  rw [hbind]
  refine wpAny_pure (wpAny_newFunctionEnv (fun y hy => (L.own y hy).2) (fun y hy => absurd hy (by simp)) (fun h₁ hns hsb => ⟨lim.fresh _ hsb, ?_⟩) L.kind)
  show codeAny _ _ (.expr body (lamEnv X scope s1.heap.objs.size f c')) _ _
  have kp : ∀ b o, s1.heap.get? b = some o → h₁.get? b = some o := fun b o e => hsb.extBut b o (Nat.ne_of_lt (Heap.lt_size e)) (Heap.get?_push_of_some _ e)
  have J : Inv (lamCx X A outer s1 HZ E scope f c') [] σ HZ { s1 with heap := h₁, toks := s1.toks + ([] : List (Str × Value)).length } := lam_start2 I L e0 hr.hd un hns kp
  refine PySem.W.kla_codeExpr (wpAny_mono ((hbody A outer s1 HZ E (hr.deeper _)).run [] _ _ HZ Q J ht) (fun v s' hq => ?_) fun e s' hq => hq)
  obtain ⟨w', H', J', rv, q⟩ := hq
  exact ⟨w', H', J'.os, J'.bare, J'.base, J'.hok, rv, q⟩
end
section
variable {Z : Cx} {k : Nat} {fs : List Addr} {H0 : Hp} {h0 : Heap} {f c' : Addr} {q : Str} {t : XK → Hp → VK → Prop}
/-- where Z stands to the making -/
structure Since (Z : Cx) (fs : List Addr) (H0 : Hp) (h0 : Heap) : Prop where
  un : Un fs [] H0 Z.H_0 h0 Z.s_0.heap
  sub : ∀ b ∈ Z.fs, b ∈ fs ∨ h0.get? b = none
  ex : Z.ex = []
theorem Since.now {pins : List (Addr × Obj)} {σ : L2.St} {H : Hp} {s : Shared} (S : Since Z fs H0 h0) (I : Inv Z pins σ H s) : Un fs [] H0 H h0 s.heap := by
  have b := I.base
  rw [S.ex] at b
  exact un_comp S.un b S.sub
theorem Since.stk {pins : List (Addr × Obj)} {σ : L2.St} {H : Hp} {s : Shared} (S : Since Z fs H0 h0) (I : Inv Z pins σ H s) : ∀ b ∈ frs Z.stack, b ∈ fs ∨ h0.get? b = none := fun b hb => by
  rcases List.mem_cons.mp (I.stkSub b hb) with e | e
  · refine .inr ?_
    cases z : h0.get? b with
    | none => rfl
    | some o =>
      obtain ⟨o', z'⟩ := S.un.there b o z (by simp)
      have l := Heap.lt_size z'
      have a := I.ok.above
      rw [e] at l
      exact absurd l (Nat.not_lt.mpr a)
  · exact S.sub b e
/-- the slot's name is called: a work stands in it -/
theorem pe_work {i : Nat} {a : Str} {E : XK} {p1 p2 : Pos} (Wk : Work Z.prog Z.w Z.K Z.mg Z.base k fs H0 h0 f c' q t) (S : Since Z fs H0 h0) (hx : Passes (L2.CX Z.prog Z.w) Z E) (hr : Room (k + 1) Z.A) (hN : Z.N[i]? = some a) (hv : Vis Z.env.scope a)
    (hd : (a == ("__debug__" : Str)) = false := by decide) (hcd : (a == ("__classdict__" : Str)) = false := by decide) :
    PE Z (.Call (.Name a p1) [] [] p2) (fun σ H Q => σ[i]? = some (some (.ref f)) ∧ H c' = some (CodeO c' q) ∧ t E H Q) := by
  refine ⟨fun pins s σ H Q I h => ?_⟩
  obtain ⟨hs, hc, ht⟩ := h
  refine wpAny_Call_Name_kw (thn ((pe_var (pos := p1) (i := i) hN hv hd hcd).run pins s σ H (fun v H1 => v = .ref f ∧ H1 = H) I ⟨.ref f, hs, rfl, rfl⟩) fun u s1 ⟨v, H1, I1, r1, q1⟩ => ?_)
  obtain ⟨ev, eH⟩ := q1
  subst ev
  rw [eH] at I1
  obtain rfl : u = Value.ref f := r1
  obtain ⟨_, _, _, _, _, _, ob⟩ := Wk.obj
  have un := S.now I1
  have of1 := un.keep f _ ob Wk.free Wk.out (by simp)
  refine PySem.W.callWith_F0 ⟨_, _, _, _, of1⟩ ?_
  refine wpAny_call (codeAny_mono (Wk.run Z.A Z.stack s1 H Q E hr I1.env0 un hc ht) fun r s' hq => ?_)
  match r, hq with
  | .error e, hq => exact hx pins σ H s1 e s' I1 hq
  | .ok (.ret u), hq => exact I1.after hq
  | .ok .next, hq => exact False.elim hq
  | .ok .brk, hq => exact False.elim hq
  | .ok .cont, hq => exact False.elim hq
end
/-- the promise of a def that a work is handed to -/
structure FnW (P : Program) (w : World) (K : PySem.W.Frag) (mg : Str → Option Value) (base : Heap) (fs : List Addr) (H0 : Hp) (h0 : Heap) (CX : CXT) (k : Nat) (g : Addr) (fd : FuncData) (ps : List Str) (sp : Sp) : Prop where
  len : ∀ vs H Q E, sp vs H Q E → vs.length = ps.length
  run : ∀ (A : Around) (outer : List Env) (s : Shared) (H : Hp) (args : Args) (us : List Value) (vs : List V) (Q : VK) (E : XK), Room k A → A.guards = some [] → Env0 P w K mg base A outer s H → Un fs [] H0 H h0 s.heap → (∀ b ∈ frs outer, b ∈ fs ∨ h0.get? b = none) →
    BindsTo s fd args (ps.zip us) → Vals vs us → sp vs H Q E → codeAny (model P w) A (.call (.ref g) args) (CR CX outer P w H s Q E) s
theorem fnW_of {CX : CXT} {P : Program} {w : World} {K : PySem.W.Frag} {mg : Str → Option Value} {base : Heap} {fs : List Addr} {H0 : Hp} {h0 : Heap} {k : Nat} {f : Addr} {x qual : Str} {st : Stmt} {fd : FuncData} {N ps : List Str} {sp : Sp} (F : Fun K x qual st f fd) (S : FnScope N ps (defScope st))
    (len : ∀ vs H Q E, sp vs H Q E → vs.length = ps.length)
    (hbody : ∀ (cdv : Value) (A : Around) (outer : List Env) (s : Shared) (H : Hp) (vs : List V) (Q : VK) (E : XK), Room k (A.deeper (envOfC qual (defScope st) s.heap.objs.size f cdv)) → A.guards = some [] → Since (cxOf CX P w K mg base N qual (defScope st) f cdv A outer s H E) fs H0 h0 → sp vs H Q E →
      ∃ t, PSs (cxOf CX P w K mg base N qual (defScope st) f cdv A outer s H E) (defBody st) t ∧ t { nx := fun _ H' => Q .non H', rt := Q } (L2.start N vs) H) : FnW P w K mg base fs H0 h0 CX (k + 1) f fd ps sp := by
  obtain ⟨oc, od, kV, doc, pm, an, cdv, ct, osl, rfl, lk, hcd⟩ := F.ex
  exact ⟨len, fun A outer s H args us vs Q E hr hgd e0 un sub hb r h => run_ofS lk hcd S hr e0 hb r (len _ _ _ _ h) fun hr' => hbody cdv A outer s H vs Q E hr' hgd ⟨un, sub, rfl⟩ h⟩
section
variable {Z : Cx} {CX : CXT} {k : Nat} {fs : List Addr} {H0 : Hp} {h0 : Heap} {g : Addr} {fd : FuncData} {ps : List Str} {sp : Sp} {E : XK} {x : Str} {p pos : Pos} {e : Expr} {es : List Expr} {t : TA}
/-- x(a, ..) in a def that the work has been handed to, handed on -/
theorem pe_wcall (F : FnW Z.prog Z.w Z.K Z.mg Z.base fs H0 h0 CX k g fd ps sp) (S : Since Z fs H0 h0) (hr : Room k Z.A) (hgd : Z.A.guards = some []) (hg : Gl Z x) (hm : Z.mg x = some (.ref g)) (hk : PySem.W.keepIn Z.K (.ref g) = true) (hb : Binds Z.K fd ps []) (hx : Passes CX Z E) (ha : PA Z (e :: es) t)
    (hdb : (x == ("__debug__" : Str)) = false := by decide) (he : starEach (e :: es) Z.env = (false, eval e Z.env) :: starEach es Z.env := by rfl) (hpl : (backTo pos (starEach es Z.env)).any (·.1) = false := by rfl) :
    PE Z (.Call (.Name x p) (e :: es) [] pos) (tCall sp [] E t) := by
  refine ⟨fun pins s σ H Q I h => ?_⟩
  refine wpAny_Call_Name_kw (ld_glob I hg hm ?_ hdb)
  refine PySem.W.callWith_K (h₀ := Z.base) I.ok.mod.kin hk (thn (ha.run pos pins s σ H _ I h) fun us s1 ⟨vs, H1, I1, r, q⟩ => ⟨I1.kIn, ?_⟩) he hpl
  have q : sp (vs ++ []) H1 Q E := q
  rw [List.append_nil] at q
  have hl : us.length = ps.length := by rw [← r.length]; exact F.len _ _ _ _ q
  have bt := hb s1 us I1.kIn (by simpa using hl)
  rw [List.append_nil] at bt
  refine wpAny_call (codeAny_mono (F.run Z.A Z.stack s1 H1 ⟨us, []⟩ us vs Q E hr hgd I1.env0 (S.now I1) (S.stk I1) bt r q) fun rr s' hq => ?_)
  match rr, hq with
  | .error e, hq => exact hx pins σ H1 s1 e s' I1 hq
  | .ok (.ret u), hq => exact I1.after hq
  | .ok .next, hq => exact False.elim hq
  | .ok .brk, hq => exact False.elim hq
  | .ok .cont, hq => exact False.elim hq
end
section
variable {X : Cx} {T : List (Addr × Str)} {CX : CXT} {kb k : Nat} {g c P : Addr} {fd : FuncData} {ps : List Str} {E : XK} {x : Str} {params : Arguments} {body : Expr} {scope : Scope} {t : XK → TE} {p lpos pos : Pos} {es : List Expr} {ta : TA} {sp : Addr → Addr → (XK → Hp → VK → Prop) → Sp}
/-- x(lambda: body, ..), x a def that hands it on -/
theorem pe_lamW (FW : ∀ (H0 : Hp) (h0 : Heap) (f c' : Addr) (t' : XK → Hp → VK → Prop), Work X.prog X.w X.K X.mg X.base kb (frs X.stack) H0 h0 f c' (X.env.qual ++ "<lambda>") t' → FnW X.prog X.w X.K X.mg X.base (frs X.stack) H0 h0 CX k g fd ps (sp f c' t'))
    (hg : Gl X x) (hm : X.mg x = some (.ref g)) (hk : PySem.W.keepIn X.K (.ref g) = true) (hb : Binds X.K fd ps []) (hx : Passes CX X E) (hr : Room k X.A) (hgd : X.A.guards = some []) (TB : TabB X.base X.mg c P) (hcode : X.env.code = .ref c) (hmT : (P, X.env.qual ++ "<lambda>") ∈ T) (hu : ∀ p ∈ T, p.1 = P → p.2 = X.env.qual ++ "<lambda>")
    (L : LamS X.env.scope scope) (hdef : defaultsOf params X.env = ([], [])) (hbind : ∀ (q : Str) (cl : List (Str × Addr)) (pm cv ctv : Value), bindArgs (PySem.W.kla_fn "<lambda>" q params body scope cl pm cv ctv) ⟨[], []⟩ = pure [])
    (hbody : ∀ (A : Around) (outer : List Env) (s : Shared) (H : Hp) (E : XK) (f c' : Addr), Room kb (A.deeper (lamEnv X scope s.heap.objs.size f c')) → PE (lamCx X A outer s H E scope f c') body (t E)) (ha : PA X es ta)
    (hdb : (x == ("__debug__" : Str)) = false := by decide) (he : starEach (.Lambda params body scope lpos :: es) X.env = (false, eval (.Lambda params body scope lpos) X.env) :: starEach es X.env := by rfl) (hpl : (backTo pos (starEach es X.env)).any (·.1) = false := by rfl) :
    PE X (.Call (.Name x p) (.Lambda params body scope lpos :: es) [] pos) (fun σ H Q => Tabs T H ∧ ∀ H1, ExtN H H1 → Tabs T H1 → ∀ f c' : Addr, H1 c' = some (CodeO c' (X.env.qual ++ "<lambda>")) →
      ta σ H1 fun vs H2 => sp f c' (fun E H Q => t E σ H Q) (.ref f :: vs) H2 Q E) := by
  refine ⟨fun pins s σ H Q I h => ?_⟩
  obtain ⟨hT, h⟩ := h
  refine wpAny_Call_Name_kw (ld_glob I hg hm ?_ hdb)
  refine PySem.W.callWith_K (h₀ := X.base) I.ok.mod.kin hk ?_ he hpl
  rw [he]
  show wpAny _ _ (spliced ((false, eval (.Lambda params body scope lpos) X.env) :: backTo pos (starEach es X.env))) _ _ s
  refine Calls.spliced_cons (lam_make2 I TB hcode hmT hu hT hdef (L.has I.ok) fun f c' pm' ctv H1 s' I1 eN T1 hf hfn hfr hco => ?_)
  have fl : f ≠ X.env.locals := fun z => by
    obtain ⟨m, ⟨o, es', ep, e1, e2, _⟩, _⟩ := I1.loc
    rw [← z, hf] at e1
    cases e1
    cases e2
  have ff : f ∉ X.fs := fun z => hfr (by
    rcases I1.ok.stk with q | ⟨q, _⟩
    · rw [q]
      exact z
    · rw [q]
      obtain ⟨e, he', q'⟩ := List.mem_filterMap.mp z
      exact List.mem_filterMap.mpr ⟨e, List.mem_cons_of_mem _ he', q'⟩)
  have J1 : Inv X ((f, PySem.W.kla_obj "<lambda>" (X.env.qual ++ "<lambda>") params body scope (cloFrom X.env.cells scope.names []) pm' c' ctv) :: pins) σ H1 s' := I1.pins_of fun q hq => by
    rcases List.mem_cons.mp hq with z | z
    · rw [z]
      exact ⟨hf, hfn, fl, ff, fun v y => by cases y⟩
    · exact I1.pin q (List.mem_append_right _ z)
  refine thn (ha.run pos _ s' σ H1 _ J1 (h H1 eN T1 f c' hco)) fun us s2 ⟨vs, H2, J2, r, q⟩ => ⟨J2.kIn, ?_⟩
  have at2 := J2.pin (f, _) (List.mem_append_right _ List.mem_cons_self)
  have I2 : Inv X pins σ H2 s2 := J2.pins_of fun q hq => J2.pin q (List.mem_append_right _ (List.mem_cons_of_mem _ hq))
  have Wk := work_of (tb := t) I2 L at2.1 at2.2.1 hfr (hbind _ _ _ _ _) (fun A outer s1 HZ E hr2 => hbody A outer s1 HZ E f c' hr2)
  have F := FW H2 s2.heap f c' _ Wk
  have r2 : Vals (.ref f :: vs) (.ref f :: us) := .cons rfl r
  have hl : (Value.ref f :: us).length = ps.length := by rw [← r2.length]; exact F.len _ _ _ _ q
  have bt := hb s2 (.ref f :: us) I2.kIn (by simpa using hl)
  rw [List.append_nil] at bt
  refine wpAny_call (codeAny_mono (F.run X.A X.stack s2 H2 ⟨.ref f :: us, []⟩ (.ref f :: us) (.ref f :: vs) Q E hr hgd I2.env0 (Un.kept fun _ _ z => z) (fun b hb => .inl hb) bt r2 q) fun rr s3 hq => ?_)
  match rr, hq with
  | .error e, hq => exact hx pins σ H2 s2 e s3 I2 hq
  | .ok (.ret u), hq => exact I2.after hq
  | .ok .next, hq => exact False.elim hq
  | .ok .brk, hq => exact False.elim hq
  | .ok .cont, hq => exact False.elim hq
end
end KW
namespace KA
open PySem PySem.Spec PyProof.Rows L2 PySem.W LamX KW
/-- isinstance of an exception that is kept as a value, with fields of its own -/
def rIsD (K : PySem.W.Frag) : List V → Hp → VK → Prop := fun xs H Q => ∃ (a D d : Addr) (fs : List (Str × V)) (c : V) (cv : Value) (b : Bool), xs = [.ref a, c] ∧ H a = some (ExV (.ref D) (some d) a) ∧ H d = some (.xd fs) ∧ ExcC K D ∧ ClsV c cv ∧ PySem.W.kitOne K (.ref D) cv = some b ∧ Q (.bl b) H
def rIs3 (K : PySem.W.Frag) : List V → Hp → VK → Prop := fun xs H Q => rIs2 K xs H Q ∨ rIsD K xs H Q
section
variable {X : Cx}
theorem call_isD : CallR X (.builtin "isinstance") (rIsD X.K) := by
  intro pins s σ H xs us Q I r h
  obtain ⟨a, D, d, fs, c, cv, b, rfl, ha, hd, C, k, e, q⟩ := h
  obtain ⟨u1, u2, rfl, r1, r2⟩ := vals2 r
  cases k.eq r2
  obtain rfl : u1 = Value.ref a := r1
  obtain ⟨⟨oe, at1, z, vs, dat⟩, _⟩ := I.hok a _ ha
  obtain ⟨mA, ns, _⟩ := I.hok d _ hd
  obtain ⟨od, at2, _⟩ := lookIn_ns ns
  have J : PySem.W.InstAt s.heap a oe D (some od) := ⟨at1, z.1, by unfold PySem.W.notCls; rw [dat] <;> rfl, by rw [z.2]; exact at2⟩
  obtain ⟨cd, hc, _⟩ := any_some C.hd
  exact PySem.W.kia_one (kitx_exc (by rw [hc]; rfl) C.hg C.hk C.hs C.ha C.hn C.ht C.hm) I.kIn J e (fun z => nomatch z) fun tk => ⟨.bl b, H, I.tok tk, rfl, q⟩
theorem call_is3 : CallR X (.builtin "isinstance") (rIs3 X.K) := by
  intro pins s σ H xs us Q I r h
  rcases h with h | h
  · exact call_is2 pins s σ H xs us Q I r h
  · exact call_isD pins s σ H xs us Q I r h
end
/-- caught, of a work that was handed on: at f, its code object at c' -/
def spCaughtW (K : PySem.W.Frag) (CS : Addr) (f c' : Addr) (q : Str) (t : XK → Hp → VK → Prop) : Sp := fun vs H Q _ => vs = [.ref f] ∧ H c' = some (CodeO c' q) ∧ TCaught K CS t H Q
theorem caught_work {P : Program} {w : World} {K : PySem.W.Frag} {mg : Str → Option Value} {base : Heap} {fs : List Addr} {H0 : Hp} {h0 : Heap} {k : Nat} {f c' : Addr} {q : Str} {t : XK → Hp → VK → Prop} {g : Addr} {fd : FuncData} {x a e n m : Str} {st : Stmt} {CS : Addr} {j1 : Nat} {p1 p2 p3 p4 p5 p6 p7 p8 p9 pa pb pc pd pe : Pos}
    (Wk : Work P w K mg base k fs H0 h0 f c' q t) (F : Fun K x x st g fd) (S : FnScope [a, m, n] [a] (defScope st))
    (hb : defBody st = [.Assign [.Name m p1] (.Constant .none j1 p2) p3,
       .Try [.Expr (.Call (.Name a p4) [] [] p5) p6] [.ExceptHandler (some (.Name e p7)) (some n) [.Assign [.Name m p8] (.Name n p9) pa] pb] [] [] pc,
       .Return (some (.Name m pd)) pe])
    (la : (defScope st).names.lookup a = some .local) (lm : (defScope st).names.lookup m = some .local) (ln : (defScope st).names.lookup n = some .local) (he : (defScope st).names.lookup e = some .globalImplicit) (hme : mg e = some (.ref CS)) (hde : (e == ("__debug__" : Str)) = false)
    (d0 : (a == ("__debug__" : Str)) = false) (d00 : (a == ("__classdict__" : Str)) = false) (d1 : (n == ("__debug__" : Str)) = false) (d2 : (n == ("__classdict__" : Str)) = false) (d3 : (m == ("__debug__" : Str)) = false) (d4 : (m == ("__classdict__" : Str)) = false) :
    FnW P w K mg base fs H0 h0 (L2.CX P w) (k + 2) g fd [a] (spCaughtW K CS f c' q t) := by
  refine fnW_of F S (fun vs H Q E h => by rw [h.1]; rfl) (fun cdv A outer s H vs Q E hr _ Sn h => ?_)
  obtain ⟨rfl, hc, hT⟩ := h
  rw [hb]
  refine ⟨_, pss_cons (ps_set (i := 1) S.nd rfl (.inl lm) pe_non) (pss_cons (ps_try_keep (c := .ref CS) (i := 2) (j := 1)
      (tb := fun W D σ H => ∃ Eb : XK, (∀ cls d σ' H', Eb cls d H' → W cls d σ' H') ∧ σ[0]? = some (some (.ref f)) ∧ H c' = some (CodeO c' q) ∧ t Eb H (fun _ H' => D.nx σ H'))
      rfl rfl rfl S.nd rfl rfl ln lm ⟨he, hde, .inl hme⟩ d1 d2 (fun W pn xe tk _ => ?_))
    (pss_one (ps_ret (pe_var (i := 1) rfl (.inl lm) d3 d4)))), ?_⟩
  · refine ⟨fun pins s' σ H' D I h' => ?_⟩
    obtain ⟨Eb, wish, h1, h2, h3⟩ := h'
    exact (pss_one (ps_expr (pe_work (Z := (cxOf (L2.CX P w) P w K mg base [a, m, n] x (defScope st) g cdv A outer s H E).tr pn xe) (i := 0) Wk ⟨Sn.un, Sn.sub, Sn.ex⟩ (passes_call tk wish) hr rfl (.inl la) d0 d00))).run pins s' σ H' D I ⟨h1, h2, h3⟩
  · refine ⟨fun cls d H' => PySem.W.exmOne K cls (.ref CS) = some true ∧ ∀ b, H' b = none → Q (.ref b) (upd H' b (ExV cls d b)), fun cls d σ' H' ⟨e1, e2⟩ => ⟨e1, fun b hb hl => ?_⟩, rfl, hc, ?_⟩
    · match σ', hl with
      | [u, v, z], _ => exact ⟨_, rfl, e2 b hb⟩
    · exact hT _ fun v H' z => ⟨_, rfl, z⟩
end KA
namespace KL
open PySem PySem.Spec PyProof.Rows L2 PySem.W LamX KA KW
/-! ### a lambda without parameters as a value: kept in a list, a local name, and called later by a def it is handed to -/
/-- the lambda at f, its code object at c', as the def with the frame env made it -/
def LamO (env : Env) (params : Arguments) (body : Expr) (scope : Scope) (f c' : Addr) : HO :=
  .ext fun h => ∃ pm ctv : Value, h.get? f = some (PySem.W.kla_obj "<lambda>" (env.qual ++ "<lambda>") params body scope (cloFrom env.cells scope.names []) pm c' ctv)
theorem lamO_tbl {env : Env} {params : Arguments} {body : Expr} {scope : Scope} {f c' : Addr} (ps : Array Value) : LamO env params body scope f c' ≠ .tbl ps := fun z => by
  unfold LamO at z
  cases z
theorem lamO_lst {env : Env} {params : Arguments} {body : Expr} {scope : Scope} {f c' : Addr} (xs : List V) : LamO env params body scope f c' ≠ .lst xs := fun z => by
  unfold LamO at z
  cases z
section
variable {X : Cx} {pins : List (Addr × Obj)} {σ : L2.St} {H : Hp} {s : Shared}
theorem laidLam {env : Env} {params : Arguments} {body : Expr} {scope : Scope} {c' : Addr} {pm ctv : Value} {h' : Heap} {tk : Nat} (I : Inv X pins σ H { s with heap := h', toks := tk }) :
    Inv X pins σ (upd H h'.objs.size (LamO env params body scope h'.objs.size c')) { s with heap := h'.push (PySem.W.kla_obj "<lambda>" (env.qual ++ "<lambda>") params body scope (cloFrom env.cells scope.names []) pm c' ctv), toks := tk } :=
  I.laid (t' := tk) (fun b o e => Heap.get?_push_of_some _ e) (Nat.le_refl _) ⟨⟨pm, ctv, Heap.get?_push_size _ rfl⟩, ⟨_, Heap.get?_push_size _ rfl⟩, fun h1 h2 ⟨a, b, e⟩ st => ⟨a, b, st _ e⟩⟩
/-- it is made: a value of the heap -/
theorem lam_val {T : List (Addr × Str)} {c P : Addr} {params : Arguments} {body : Expr} {scope : Scope} {pos : Pos} {E Q : Value → Shared → Prop} (I : Inv X pins σ H s) (TB : TabB X.base X.mg c P) (hcode : X.env.code = .ref c)
    (mem : (P, X.env.qual ++ "<lambda>") ∈ T) (one : ∀ p ∈ T, p.1 = P → p.2 = X.env.qual ++ "<lambda>") (hT : Tabs T H) (hdef : defaultsOf params X.env = ([], [])) (L : LamS X.env.scope scope)
    (k : ∀ (f c' : Addr) (H1 : Hp) (s' : Shared), ExtN H H1 → Tabs T H1 → H1 f = none → H1 c' = some (CodeO c' (X.env.qual ++ "<lambda>")) → Inv X pins σ (upd H1 f (LamO X.env params body scope f c')) s' → Q (.ref f) s') :
    wpAny (model X.prog X.w) X.A (eval (.Lambda params body scope pos) X.env) Q E s := by
  obtain ⟨tb, atP, tri, amg⟩ := hT _ mem
  have clo := closure_ok (L.has I.ok)
  have glob := I.mod.glob.keeps I.bk
  have code := TB.code.keeps I.bk
  have raw : s.heap.get? P = some { cls := .none, data := .fields tb } := I.hok P _ atP
  have bm := TB.bm.keeps I.bk
  refine PySem.W.kla_eval hdef ?_
  cases found : codeAmong pos tb.toList with
  | some cv =>
    obtain ⟨c', rfl, hco⟩ := amg pos cv found
    refine PySem.W.kla_makeFunctionHit clo I.ok.glob glob hcode code raw tri found bm ?_
    intro ctv h' tk hx hsz
    have J : Inv X pins σ H { s with heap := h', toks := tk } := I.kept fun b o e => hx b o e
    exact k _ c' H _ (ExtN.refl H) hT (I.hok.fresh hsz) hco (laidLam J)
  | none =>
    refine PySem.W.kla_makeFunction clo I.ok.glob glob hcode code raw tri found TB.gP bm ?_
    intro c' ctv h' tk hx hge hlt rec tbl
    obtain ⟨c2, oc, vs, t, ec, hoc, hd, hv⟩ := rec
    cases ec
    have free : H c' = none := I.hok.fresh hge
    have ne : P ≠ c' := ne_of_none atP free
    have J := inv_table (t' := tk) (more := #[rawInt pos.line, rawInt pos.col, .ref c']) (h' := h') I atP hx tbl hge ⟨oc, vs, t, hoc, hd, hv⟩
    generalize hH : upd (upd H P (.tbl (tb ++ #[rawInt pos.line, rawInt pos.col, .ref c']))) c' (CodeO c' (X.env.qual ++ "<lambda>")) = H1 at J
    have at1 : H1 c' = some (CodeO c' (X.env.qual ++ "<lambda>")) := by rw [← hH, upd_same]
    have at2 : H1 P = some (.tbl (tb ++ #[rawInt pos.line, rawInt pos.col, .ref c'])) := by rw [← hH, upd_ne ne, upd_same]
    have at3 : ∀ b, b ≠ P → b ≠ c' → H1 b = H b := fun b h1 h2 => by rw [← hH, upd_ne h2, upd_ne h1]
    have ext : ExtN H H1 := fun b o e n => by
      rw [at3 b (fun z => n tb (Option.some.inj (e.symm.trans (z ▸ atP)))) (ne_of_none e free)]
      exact e
    have eL : (tb ++ #[rawInt pos.line, rawInt pos.col, .ref c']).toList = tb.toList ++ [rawInt pos.line, rawInt pos.col, .ref c'] := by simp
    refine k _ c' H1 _ ext (fun p hp => ?_) (J.hok.fresh (Nat.le_refl _)) at1 (laidLam J)
    by_cases hb : p.1 = P
    · rw [one p hp hb, hb]
      refine ⟨_, at2, eL ▸ PySem.TriplesOk_snoc _ _ _ _ tri, fun p' cv hcv => ?_⟩
      rw [eL] at hcv
      cases among_app _ tri hcv with
      | inl z =>
        obtain ⟨c0, e1, e2⟩ := amg p' cv z
        exact ⟨c0, e1, ext _ _ e2 codeO_ne⟩
      | inr z => exact ⟨c', z, at1⟩
    · obtain ⟨ps', a1, a2, a3⟩ := hT p hp
      refine ⟨ps', (at3 p.1 hb (ne_of_none a1 free)).trans a1, a2, fun p' cv hcv => ?_⟩
      obtain ⟨c0, e1, e2⟩ := a3 p' cv hcv
      exact ⟨c0, e1, ext _ _ e2 codeO_ne⟩
end
def tLamV (T : List (Addr × Str)) (env : Env) (params : Arguments) (body : Expr) (scope : Scope) : TE := fun _ H Q => Tabs T H ∧ ∀ H1, ExtN H H1 → Tabs T H1 → ∀ f c' : Addr, H1 f = none → H1 c' = some (CodeO c' (env.qual ++ "<lambda>")) → Q (.ref f) (upd H1 f (LamO env params body scope f c'))
theorem pe_lamV {X : Cx} {T : List (Addr × Str)} {c P : Addr} {params : Arguments} {body : Expr} {scope : Scope} {pos : Pos} (TB : TabB X.base X.mg c P) (hcode : X.env.code = .ref c) (mem : (P, X.env.qual ++ "<lambda>") ∈ T) (one : ∀ p ∈ T, p.1 = P → p.2 = X.env.qual ++ "<lambda>")
    (L : LamS X.env.scope scope) (hdef : defaultsOf params X.env = ([], [])) : PE X (.Lambda params body scope pos) (tLamV T X.env params body scope) := by
  refine ⟨fun pins s σ H Q I h => ?_⟩
  obtain ⟨hT, h⟩ := h
  exact lam_val I TB hcode mem one hT hdef L fun f c' H1 s' ext T1 fr co J => ⟨.ref f, _, J, rfl, h H1 ext T1 f c' fr co⟩
/-- what is known of a lambda that was handed on: pre tells that it stands, t what its call promises -/
structure WorkL (P : Program) (w : World) (K : PySem.W.Frag) (mg : Str → Option Value) (base : Heap) (k : Nat) (fs : List Addr) (H0 : Hp) (h0 : Heap) (f : Addr) (pre : Hp → Prop) (t : XK → Hp → VK → Prop) : Prop where
  fn : ∀ (HZ : Hp) (h1 : Heap), HOk P w HZ h1 → pre HZ → ∃ (qual : Str) (params : Arguments) (body : Expr) (scope : Scope) (cl : List (Str × Addr)) (pm : Value) (c' : Addr) (ctv : Value), h1.get? f = some (PySem.W.kla_obj "<lambda>" qual params body scope cl pm c' ctv)
  run : ∀ (A : Around) (outer : List Env) (s1 : Shared) (HZ : Hp) (Q : VK) (E : XK), Room (k + 1) A → Env0 P w K mg base A outer s1 HZ → Un fs [] H0 HZ h0 s1.heap → pre HZ → t E HZ Q →
    codeAny (model P w) A (.call (.ref f) ⟨[], []⟩) (CR (L2.CX P w) outer P w HZ s1 Q E) s1
section
variable {X : Cx} {pins : List (Addr × Obj)} {σ : L2.St} {H : Hp} {s : Shared}
theorem work_ofL {k : Nat} {f c' : Addr} {params : Arguments} {body : Expr} {scope : Scope} {tb : XK → TE} (I : Inv X pins σ H s) (L : LamS X.env.scope scope)
    (hbind : ∀ (q : Str) (cl : List (Str × Addr)) (pm cv ctv : Value), bindArgs (PySem.W.kla_fn "<lambda>" q params body scope cl pm cv ctv) ⟨[], []⟩ = pure [])
    (hbody : ∀ (A : Around) (outer : List Env) (s1 : Shared) (HZ : Hp) (E : XK), Room k (A.deeper (lamEnv X scope s1.heap.objs.size f c')) → PE (lamCx X A outer s1 HZ E scope f c') body (tb E)) :
    WorkL X.prog X.w X.K X.mg X.base k (frs X.stack) H s.heap f (fun HZ => HZ f = some (LamO X.env params body scope f c') ∧ HZ c' = some (CodeO c' (X.env.qual ++ "<lambda>"))) (fun E HZ Q => tb E σ HZ Q) := by
  refine ⟨fun HZ h1 ok pre => ?_, fun A outer s1 HZ Q E hr e0 un pre ht => ?_⟩
  · obtain ⟨⟨pm, ctv, e⟩, _⟩ := ok f _ pre.1
    exact ⟨_, _, _, _, _, _, _, _, e⟩
  · obtain ⟨pf, pc⟩ := pre
    obtain ⟨⟨pm, ctv, of1⟩, _⟩ := e0.hok f _ pf
    obtain ⟨⟨oc, vs, t, hoc, hdc, hvc⟩, _⟩ := e0.hok c' _ pc
    have lim : s1.heap.NoLimit := e0.mod.nolimit.keeps fun b o e => (e0.bs b o e).1
    refine PySem.W.kla_callFunE hr.depth of1 rfl L.co L.gen rfl ⟨c', oc, vs, t, rfl, hoc, hdc, hvc⟩ ?_
    rw [hbind]
    refine wpAny_pure (wpAny_newFunctionEnv (fun y hy => (L.own y hy).2) (fun y hy => absurd hy (by simp)) (fun h₁ hns hsb => ⟨lim.fresh _ hsb, ?_⟩) L.kind)
    show codeAny _ _ (.expr body (lamEnv X scope s1.heap.objs.size f c')) _ _
    have keep : ∀ b o, s1.heap.get? b = some o → h₁.get? b = some o := fun b o e => hsb.extBut b o (Nat.ne_of_lt (Heap.lt_size e)) (Heap.get?_push_of_some _ e)
    have J : Inv (lamCx X A outer s1 HZ E scope f c') [] σ HZ { s1 with heap := h₁, toks := s1.toks + ([] : List (Str × Value)).length } := lam_start2 I L e0 hr.hd un hns keep
    refine PySem.W.kla_codeExpr (wpAny_mono ((hbody A outer s1 HZ E (hr.deeper _)).run [] _ _ HZ Q J ht) (fun v s' hq => ?_) fun e s' hq => hq)
    obtain ⟨w', H', J', rv, q⟩ := hq
    exact ⟨w', H', J'.os, J'.bare, J'.base, J'.hok, rv, q⟩
end
section
variable {Z : Cx} {k : Nat} {fs : List Addr} {H0 : Hp} {h0 : Heap} {f : Addr} {pre : Hp → Prop} {t : XK → Hp → VK → Prop}
theorem pe_workL {i : Nat} {a : Str} {E : XK} {p1 p2 : Pos} (Wk : WorkL Z.prog Z.w Z.K Z.mg Z.base k fs H0 h0 f pre t) (S : Since Z fs H0 h0) (hx : Passes (L2.CX Z.prog Z.w) Z E) (hr : Room (k + 1) Z.A) (hN : Z.N[i]? = some a) (hv : Vis Z.env.scope a)
    (hd : (a == ("__debug__" : Str)) = false := by decide) (hcd : (a == ("__classdict__" : Str)) = false := by decide) :
    PE Z (.Call (.Name a p1) [] [] p2) (fun σ H Q => σ[i]? = some (some (.ref f)) ∧ pre H ∧ t E H Q) := by
  refine ⟨fun pins s σ H Q I h => ?_⟩
  obtain ⟨hs, hp, ht⟩ := h
  refine wpAny_Call_Name_kw (thn ((pe_var (pos := p1) (i := i) hN hv hd hcd).run pins s σ H (fun v H1 => v = .ref f ∧ H1 = H) I ⟨.ref f, hs, rfl, rfl⟩) fun u s1 ⟨v, H1, I1, r1, q1⟩ => ?_)
  obtain ⟨rfl, rfl⟩ := q1
  obtain rfl : u = Value.ref f := r1
  obtain ⟨_, _, _, _, _, _, _, _, ob⟩ := Wk.fn H1 s1.heap I1.hok hp
  refine PySem.W.callWith_F0 ⟨_, _, _, _, ob⟩ ?_
  refine wpAny_call (codeAny_mono (Wk.run Z.A Z.stack s1 H1 Q E hr I1.env0 (S.now I1) hp ht) fun r s' hq => ?_)
  match r, hq with
  | .error e, hq => exact hx pins σ H1 s1 e s' I1 hq
  | .ok (.ret u), hq => exact I1.after hq
  | .ok .next, hq => exact False.elim hq
  | .ok .brk, hq => exact False.elim hq
  | .ok .cont, hq => exact False.elim hq
end
/-- caught, of such a lambda -/
def spCaughtL (K : PySem.W.Frag) (CS : Addr) (f : Addr) (pre : Hp → Prop) (t : XK → Hp → VK → Prop) : Sp := fun vs H Q _ => vs = [.ref f] ∧ pre H ∧ TCaught K CS t H Q
theorem caught_workL {P : Program} {w : World} {K : PySem.W.Frag} {mg : Str → Option Value} {base : Heap} {fs : List Addr} {H0 : Hp} {h0 : Heap} {k : Nat} {f : Addr} {pre : Hp → Prop} {t : XK → Hp → VK → Prop} {g : Addr} {fd : FuncData} {x a e n m : Str} {st : Stmt} {CS : Addr} {j1 : Nat} {p1 p2 p3 p4 p5 p6 p7 p8 p9 pa pb pc pd pe : Pos}
    (Wk : WorkL P w K mg base k fs H0 h0 f pre t) (F : Fun K x x st g fd) (S : FnScope [a, m, n] [a] (defScope st))
    (hb : defBody st = [.Assign [.Name m p1] (.Constant .none j1 p2) p3,
       .Try [.Expr (.Call (.Name a p4) [] [] p5) p6] [.ExceptHandler (some (.Name e p7)) (some n) [.Assign [.Name m p8] (.Name n p9) pa] pb] [] [] pc,
       .Return (some (.Name m pd)) pe])
    (la : (defScope st).names.lookup a = some .local) (lm : (defScope st).names.lookup m = some .local) (ln : (defScope st).names.lookup n = some .local) (he : (defScope st).names.lookup e = some .globalImplicit) (hme : mg e = some (.ref CS)) (hde : (e == ("__debug__" : Str)) = false)
    (d0 : (a == ("__debug__" : Str)) = false) (d00 : (a == ("__classdict__" : Str)) = false) (d1 : (n == ("__debug__" : Str)) = false) (d2 : (n == ("__classdict__" : Str)) = false) (d3 : (m == ("__debug__" : Str)) = false) (d4 : (m == ("__classdict__" : Str)) = false) :
    FnW P w K mg base fs H0 h0 (L2.CX P w) (k + 2) g fd [a] (spCaughtL K CS f pre t) := by
  refine fnW_of F S (fun vs H Q E h => by rw [h.1]; rfl) (fun cdv A outer s H vs Q E hr _ Sn h => ?_)
  obtain ⟨rfl, hp, hT⟩ := h
  rw [hb]
  refine ⟨_, pss_cons (ps_set (i := 1) S.nd rfl (.inl lm) pe_non) (pss_cons (ps_try_keep (c := .ref CS) (i := 2) (j := 1)
      (tb := fun W D σ H => ∃ Eb : XK, (∀ cls d σ' H', Eb cls d H' → W cls d σ' H') ∧ σ[0]? = some (some (.ref f)) ∧ pre H ∧ t Eb H (fun _ H' => D.nx σ H'))
      rfl rfl rfl S.nd rfl rfl ln lm ⟨he, hde, .inl hme⟩ d1 d2 (fun W pn xe tk _ => ?_))
    (pss_one (ps_ret (pe_var (i := 1) rfl (.inl lm) d3 d4)))), ?_⟩
  · refine ⟨fun pins s' σ H' D I h' => ?_⟩
    obtain ⟨Eb, wish, h1, h2, h3⟩ := h'
    exact (pss_one (ps_expr (pe_workL (Z := (cxOf (L2.CX P w) P w K mg base [a, m, n] x (defScope st) g cdv A outer s H E).tr pn xe) (i := 0) Wk ⟨Sn.un, Sn.sub, Sn.ex⟩ (passes_call tk wish) hr rfl (.inl la) d0 d00))).run pins s' σ H' D I ⟨h1, h2, h3⟩
  · refine ⟨fun cls d H' => PySem.W.exmOne K cls (.ref CS) = some true ∧ ∀ b, H' b = none → Q (.ref b) (upd H' b (ExV cls d b)), fun cls d σ' H' ⟨e1, e2⟩ => ⟨e1, fun b hb hl => ?_⟩, rfl, hp, ?_⟩
    · match σ', hl with
      | [u, v, z], _ => exact ⟨_, rfl, e2 b hb⟩
    · exact hT _ fun v H' z => ⟨_, rfl, z⟩
/-- a lambda of a def, and what its body promises -/
structure LamD where
  params : Arguments
  body : Expr
  scope : Scope
  t : XK → TE
structure LamOk (X : Cx) (kb : Nat) (l : LamD) : Prop where
  L : LamS X.env.scope l.scope
  bind : ∀ (q : Str) (cl : List (Str × Addr)) (pm cv ctv : Value), bindArgs (PySem.W.kla_fn "<lambda>" q l.params l.body l.scope cl pm cv ctv) ⟨[], []⟩ = pure []
  run : ∀ (A : Around) (outer : List Env) (s : Shared) (H : Hp) (E : XK) (f c' : Addr), Room kb (A.deeper (lamEnv X l.scope s.heap.objs.size f c')) → PE (lamCx X A outer s H E l.scope f c') l.body (l.t E)
/-- x(work): work, a name of this def, stands for one of its lambdas -/
theorem pe_callL {X : Cx} {CX : CXT} {kb k i : Nat} {g : Addr} {fd : FuncData} {ps : List Str} {E : XK} {x a : Str} {p p' pos : Pos} {sp : Addr → (Hp → Prop) → (XK → Hp → VK → Prop) → Sp} (lams : List LamD) (ok : ∀ l ∈ lams, LamOk X kb l)
    (FW : ∀ (H0 : Hp) (h0 : Heap) (f : Addr) (pre : Hp → Prop) (t' : XK → Hp → VK → Prop), WorkL X.prog X.w X.K X.mg X.base kb (frs X.stack) H0 h0 f pre t' → FnW X.prog X.w X.K X.mg X.base (frs X.stack) H0 h0 CX k g fd ps (sp f pre t'))
    (hg : Gl X x) (hm : X.mg x = some (.ref g)) (hk : PySem.W.keepIn X.K (.ref g) = true) (hb : Binds X.K fd ps []) (hx : Passes CX X E) (hr : Room k X.A) (hgd : X.A.guards = some []) (hN : X.N[i]? = some a) (hv : Vis X.env.scope a)
    (hdb : (x == ("__debug__" : Str)) = false := by decide) (hd : (a == ("__debug__" : Str)) = false := by decide) (hcd : (a == ("__classdict__" : Str)) = false := by decide)
    (he : starEach [.Name a p'] X.env = (false, eval (.Name a p') X.env) :: starEach [] X.env := by rfl) (hpl : (backTo pos (starEach [] X.env)).any (·.1) = false := by rfl) :
    PE X (.Call (.Name x p) [.Name a p'] [] pos) (fun σ H Q => ∃ l ∈ lams, ∃ f c' : Addr, σ[i]? = some (some (.ref f)) ∧ H f = some (LamO X.env l.params l.body l.scope f c') ∧ H c' = some (CodeO c' (X.env.qual ++ "<lambda>")) ∧
      sp f (fun HZ => HZ f = some (LamO X.env l.params l.body l.scope f c') ∧ HZ c' = some (CodeO c' (X.env.qual ++ "<lambda>"))) (fun E H Q => l.t E σ H Q) [.ref f] H Q E) := by
  refine ⟨fun pins s σ H Q I h => ?_⟩
  obtain ⟨l, hl, f, c', hs, hf, hc, q⟩ := h
  have O := ok l hl
  refine wpAny_Call_Name_kw (ld_glob I hg hm ?_ hdb)
  refine PySem.W.callWith_K (h₀ := X.base) I.ok.mod.kin hk ?_ he hpl
  rw [he]
  refine Calls.spliced_cons (thn ((pe_var (pos := p') (i := i) hN hv hd hcd).run pins s σ H (fun v H1 => v = .ref f ∧ H1 = H) I ⟨.ref f, hs, rfl, rfl⟩) fun u s1 ⟨v, H1, I1, r1, q1⟩ => ?_)
  obtain ⟨rfl, rfl⟩ := q1
  obtain rfl : u = Value.ref f := r1
  refine Calls.spliced_nil ⟨I1.kIn, ?_⟩
  have Wk := work_ofL (tb := l.t) (f := f) (c' := c') I1 O.L O.bind (fun A outer s2 HZ E hr2 => O.run A outer s2 HZ E f c' hr2)
  have F := FW H1 s1.heap f _ _ Wk
  have hlen : [Value.ref f].length = ps.length := by
    have := F.len _ _ _ _ q
    exact this
  have bt := hb s1 [.ref f] I1.kIn (by simpa using hlen)
  rw [List.append_nil] at bt
  refine wpAny_call (codeAny_mono (F.run X.A X.stack s1 H1 ⟨[.ref f], []⟩ [.ref f] [.ref f] Q E hr hgd I1.env0 (Un.kept fun _ _ z => z) (fun b hb => .inl hb) bt (.cons rfl .nil) q) fun rr s3 hq => ?_)
  match rr, hq with
  | .error e, hq => exact hx pins σ H1 s1 e s3 I1 hq
  | .ok (.ret u), hq => exact I1.after hq
  | .ok .next, hq => exact False.elim hq
  | .ok .brk, hq => exact False.elim hq
  | .ok .cont, hq => exact False.elim hq
end KL
namespace K07
open PySem PySem.Spec PyProof.Rows L2 PySem.W LamX KA
def top (i : Nat) : Stmt := PySem.Challenge.pw_pricedreels_k07_levels_and_what_is_rebui.main.body.getD i (.Pass ⟨0, 0, 0, 0⟩)
abbrev s_is_number : Stmt := top 1
theorem sc_is_number : FnScope ["thing"] ["thing"] (defScope s_is_number) := ⟨rfl, rfl, rfl, by decide +kernel, rfl, by decide +kernel, by decide +kernel⟩
abbrev s_is_within : Stmt := top 2
theorem sc_is_within : FnScope ["thing", "low", "high"] ["thing", "low", "high"] (defScope s_is_within) := ⟨rfl, rfl, rfl, by decide +kernel, rfl, by decide +kernel, by decide +kernel⟩
abbrev s_clipped : Stmt := top 3
theorem sc_clipped : FnScope ["number", "low", "high"] ["number", "low", "high"] (defScope s_clipped) := ⟨rfl, rfl, rfl, by decide +kernel, rfl, by decide +kernel, by decide +kernel⟩
abbrev s_grade_bits : Stmt := top 15
theorem sc_grade_bits : FnScope ["number", "grade", "fold_of", "ones"] ["number", "grade"] (defScope s_grade_bits) := ⟨rfl, rfl, rfl, by decide +kernel, rfl, by decide +kernel, by decide +kernel⟩
abbrev s_check_told : Stmt := top 16
theorem sc_check_told : FnScope ["number"] ["number"] (defScope s_check_told) := ⟨rfl, rfl, rfl, by decide +kernel, rfl, by decide +kernel, by decide +kernel⟩
abbrev s_check_grade : Stmt := top 17
theorem sc_check_grade : FnScope ["grade"] ["grade"] (defScope s_check_grade) := ⟨rfl, rfl, rfl, by decide +kernel, rfl, by decide +kernel, by decide +kernel⟩
abbrev s_is_told : Stmt := top 18
theorem sc_is_told : FnScope ["thing"] ["thing"] (defScope s_is_told) := ⟨rfl, rfl, rfl, by decide +kernel, rfl, by decide +kernel, by decide +kernel⟩
abbrev s_fold : Stmt := top 19
theorem sc_fold : FnScope ["number"] ["number"] (defScope s_fold) := ⟨rfl, rfl, rfl, by decide +kernel, rfl, by decide +kernel, by decide +kernel⟩
abbrev s_in_bits : Stmt := top 20
theorem sc_in_bits : FnScope ["number", "many"] ["number", "many"] (defScope s_in_bits) := ⟨rfl, rfl, rfl, by decide +kernel, rfl, by decide +kernel, by decide +kernel⟩
abbrev s_check_shape : Stmt := top 26
theorem sc_check_shape : FnScope ["shape"] ["shape"] (defScope s_check_shape) := ⟨rfl, rfl, rfl, by decide +kernel, rfl, by decide +kernel, by decide +kernel⟩
abbrev s_level_of : Stmt := top 28
theorem sc_level_of : FnScope ["rest", "loss"] ["rest", "loss"] (defScope s_level_of) := ⟨rfl, rfl, rfl, by decide +kernel, rfl, by decide +kernel, by decide +kernel⟩
abbrev s_rebuilt : Stmt := top 29
theorem sc_rebuilt : FnScope ["shape", "guess", "level", "loss"] ["shape", "guess", "level", "loss"] (defScope s_rebuilt) := ⟨rfl, rfl, rfl, by decide +kernel, rfl, by decide +kernel, by decide +kernel⟩
abbrev s_levels_that : Stmt := top 30
theorem sc_levels_that : FnScope ["shape", "guess", "sample", "loss", "step", "greatest", "least"] ["shape", "guess", "sample", "loss"] (defScope s_levels_that) := ⟨rfl, rfl, rfl, by decide +kernel, rfl, by decide +kernel, by decide +kernel⟩
abbrev s_check_loss : Stmt := top 31
theorem sc_check_loss : FnScope ["loss"] ["loss"] (defScope s_check_loss) := ⟨rfl, rfl, rfl, by decide +kernel, rfl, by decide +kernel, by decide +kernel⟩
abbrev s_check_guess : Stmt := top 32
theorem sc_check_guess : FnScope ["shape", "guess"] ["shape", "guess"] (defScope s_check_guess) := ⟨rfl, rfl, rfl, by decide +kernel, rfl, by decide +kernel, by decide +kernel⟩
abbrev s_step_of : Stmt := top 33
theorem sc_step_of : FnScope ["loss"] ["loss"] (defScope s_step_of) := ⟨rfl, rfl, rfl, by decide +kernel, rfl, by decide +kernel, by decide +kernel⟩
abbrev s_level_for : Stmt := top 34
theorem sc_level_for : FnScope ["rest", "loss", "level"] ["rest", "loss"] (defScope s_level_for) := ⟨rfl, rfl, rfl, by decide +kernel, rfl, by decide +kernel, by decide +kernel⟩
abbrev s__law_begun : Stmt := top 36
theorem sc__law_begun : FnScope ["script", "cells_here", "large", "cell"] ["script"] (defScope s__law_begun) := ⟨rfl, rfl, rfl, by decide +kernel, rfl, by decide +kernel, by decide +kernel⟩
abbrev s__law_draw : Stmt := top 37
theorem sc__law_draw : FnScope ["state", "size_here", "found", "turn", "cell", "mixed"] ["state", "size_here"] (defScope s__law_draw) := ⟨rfl, rfl, rfl, by decide +kernel, rfl, by decide +kernel, by decide +kernel⟩
abbrev s__law_pick : Stmt := top 38
theorem sc__law_pick : FnScope ["state", "several"] ["state", "several"] (defScope s__law_pick) := ⟨rfl, rfl, rfl, by decide +kernel, rfl, by decide +kernel, by decide +kernel⟩
abbrev s__law_caught : Stmt := top 39
theorem sc__law_caught : FnScope ["work", "caught", "error"] ["work"] (defScope s__law_caught) := ⟨rfl, rfl, rfl, by decide +kernel, rfl, by decide +kernel, by decide +kernel⟩
abbrev s__law_scope : Stmt := top 40
theorem sc__law_scope : FnScope ["state", "some", "tall", "wide", "least", "most"] ["state"] (defScope s__law_scope) := ⟨rfl, rfl, rfl, by decide +kernel, rfl, by decide +kernel, by decide +kernel⟩
abbrev s__law_form : Stmt := top 41
theorem sc__law_form : FnScope ["scope"] ["scope"] (defScope s__law_form) := ⟨rfl, rfl, rfl, by decide +kernel, rfl, by decide +kernel, by decide +kernel⟩
abbrev s__law_within : Stmt := top 42
theorem sc__law_within : FnScope ["scope", "item"] ["scope", "item"] (defScope s__law_within) := ⟨rfl, rfl, rfl, by decide +kernel, rfl, by decide +kernel, by decide +kernel⟩
abbrev s__law_grain : Stmt := top 43
theorem sc__law_grain : FnScope ["state", "scope"] ["state", "scope"] (defScope s__law_grain) := ⟨rfl, rfl, rfl, by decide +kernel, rfl, by decide +kernel, by decide +kernel⟩
abbrev s__law_level : Stmt := top 44
theorem sc__law_level : FnScope ["item", "slack", "size_here"] ["item", "slack"] (defScope s__law_level) := ⟨rfl, rfl, rfl, by decide +kernel, rfl, by decide +kernel, by decide +kernel⟩
abbrev s__law_built : Stmt := top 45
theorem sc__law_built : FnScope ["scope", "aim", "item", "slack"] ["scope", "aim", "item", "slack"] (defScope s__law_built) := ⟨rfl, rfl, rfl, by decide +kernel, rfl, by decide +kernel, by decide +kernel⟩
abbrev s__law_span : Stmt := top 46
theorem sc__law_span : FnScope ["scope", "aim", "grain", "slack", "near", "some", "found", "item"] ["scope", "aim", "grain", "slack"] (defScope s__law_span) := ⟨rfl, rfl, rfl, by decide +kernel, rfl, by decide +kernel, by decide +kernel⟩
abbrev s__law_refused : Stmt := top 47
theorem sc__law_refused : FnScope ["state", "form", "aim", "grain", "work", "caught", "works", "bad", "odd", "worse", "wrong"] ["state", "form", "aim", "grain"] (defScope s__law_refused) := ⟨rfl, rfl, rfl, by decide +kernel, rfl, by decide +kernel, by decide +kernel⟩
abbrev s_law : Stmt := top 48
theorem sc_law : FnScope ["script", "state", "turn", "scope", "form", "slack", "rung", "some", "aim", "grain", "item", "due", "told", "near", "span", "best", "end"] ["script"] (defScope s_law) := ⟨rfl, rfl, rfl, by decide +kernel, rfl, by decide +kernel, by decide +kernel⟩
/-- what stands in a class -/
def inClass (st : Stmt) (i : Nat) : Stmt := match st with
  | .ClassDef _ _ _ body _ _ _ _ _ _ _ => body.getD i (.Pass ⟨0, 0, 0, 0⟩)
  | _ => .Pass ⟨0, 0, 0, 0⟩
abbrev s_Shape_init : Stmt := inClass (top 25) 0
theorem sc_Shape_init : FnScope ["self", "height", "width", "low", "high"] ["self", "height", "width", "low", "high"] (defScope s_Shape_init) := ⟨rfl, rfl, rfl, by decide +kernel, rfl, by decide +kernel, by decide +kernel⟩
/-- what the top has written -/
structure Top (K : PySem.W.Frag) (mg : Str → Option Value) where
  reel : ReelT K mg
  BadGrade : ExcT K mg "BadGrade" reel.C
  BadGuess : ExcT K mg "BadGuess" reel.C
  BadLoss : ExcT K mg "BadLoss" reel.C
  BadNumber : ExcT K mg "BadNumber" reel.C
  is_number : DefT K mg "is_number" s_is_number
  is_within : DefT K mg "is_within" s_is_within
  clipped : DefT K mg "clipped" s_clipped
  grade_bits : DefT K mg "grade_bits" s_grade_bits
  check_told : DefT K mg "check_told" s_check_told
  check_grade : DefT K mg "check_grade" s_check_grade
  is_told : DefT K mg "is_told" s_is_told
  fold : DefT K mg "fold" s_fold
  in_bits : DefT K mg "in_bits" s_in_bits
  check_shape : DefT K mg "check_shape" s_check_shape
  level_of : DefT K mg "level_of" s_level_of
  rebuilt : DefT K mg "rebuilt" s_rebuilt
  levels_that : DefT K mg "levels_that" s_levels_that
  check_loss : DefT K mg "check_loss" s_check_loss
  check_guess : DefT K mg "check_guess" s_check_guess
  step_of : DefT K mg "step_of" s_step_of
  level_for : DefT K mg "level_for" s_level_for
  _law_begun : DefT K mg "_law_begun" s__law_begun
  _law_draw : DefT K mg "_law_draw" s__law_draw
  _law_pick : DefT K mg "_law_pick" s__law_pick
  _law_caught : DefT K mg "_law_caught" s__law_caught
  _law_scope : DefT K mg "_law_scope" s__law_scope
  _law_form : DefT K mg "_law_form" s__law_form
  _law_within : DefT K mg "_law_within" s__law_within
  _law_grain : DefT K mg "_law_grain" s__law_grain
  _law_level : DefT K mg "_law_level" s__law_level
  _law_built : DefT K mg "_law_built" s__law_built
  _law_span : DefT K mg "_law_span" s__law_span
  _law_refused : DefT K mg "_law_refused" s__law_refused
  law : DefT K mg "law" s_law
  cMOST_TOLD : CstT mg "MOST_TOLD" (32767)
  cONES_OF_GRADE : CstT mg "ONES_OF_GRADE" (12)
  cBITS_BEHIND_ONES : CstT mg "BITS_BEHIND_ONES" (16)
  cLOWEST : CstT mg "LOWEST" (-512)
  cHIGHEST : CstT mg "HIGHEST" (511)
  cMOST_SPOTS : CstT mg "MOST_SPOTS" (16)
  b_isinstance : mg "isinstance" = none
  b_int : mg "int" = none
  b_bool : mg "bool" = none
  b_str : mg "str" = none
  b_len : mg "len" = none
  b_abs : mg "abs" = none
  b_range : mg "range" = none
  b_min : mg "min" = none
  b_max : mg "max" = none
  b_repr : mg "repr" = none
  b_list : mg "list" = none
  b_sorted : mg "sorted" = none
  b_ValueError : mg "ValueError" = none
section
variable {K : PySem.W.Frag} {mg : Str → Option Value}
theorem bd_is_number (T : Top K mg) : Binds K T.is_number.d ["thing"] [] := T.is_number.f.binds fun _ _ _ _ _ _ us hl => match us, hl with | [_], _ => rfl
theorem bd_is_within (T : Top K mg) : Binds K T.is_within.d ["thing", "low", "high"] [] := T.is_within.f.binds fun _ _ _ _ _ _ us hl => match us, hl with | [_, _, _], _ => rfl
theorem bd_clipped (T : Top K mg) : Binds K T.clipped.d ["number", "low", "high"] [] := T.clipped.f.binds fun _ _ _ _ _ _ us hl => match us, hl with | [_, _, _], _ => rfl
theorem bd_grade_bits (T : Top K mg) : Binds K T.grade_bits.d ["number", "grade"] [] := T.grade_bits.f.binds fun _ _ _ _ _ _ us hl => match us, hl with | [_, _], _ => rfl
theorem bd_check_told (T : Top K mg) : Binds K T.check_told.d ["number"] [] := T.check_told.f.binds fun _ _ _ _ _ _ us hl => match us, hl with | [_], _ => rfl
theorem bd_check_grade (T : Top K mg) : Binds K T.check_grade.d ["grade"] [] := T.check_grade.f.binds fun _ _ _ _ _ _ us hl => match us, hl with | [_], _ => rfl
theorem bd_is_told (T : Top K mg) : Binds K T.is_told.d ["thing"] [] := T.is_told.f.binds fun _ _ _ _ _ _ us hl => match us, hl with | [_], _ => rfl
theorem bd_fold (T : Top K mg) : Binds K T.fold.d ["number"] [] := T.fold.f.binds fun _ _ _ _ _ _ us hl => match us, hl with | [_], _ => rfl
theorem bd_in_bits (T : Top K mg) : Binds K T.in_bits.d ["number", "many"] [] := T.in_bits.f.binds fun _ _ _ _ _ _ us hl => match us, hl with | [_, _], _ => rfl
theorem bd_check_shape (T : Top K mg) : Binds K T.check_shape.d ["shape"] [] := T.check_shape.f.binds fun _ _ _ _ _ _ us hl => match us, hl with | [_], _ => rfl
theorem bd_level_of (T : Top K mg) : Binds K T.level_of.d ["rest", "loss"] [] := T.level_of.f.binds fun _ _ _ _ _ _ us hl => match us, hl with | [_, _], _ => rfl
theorem bd_rebuilt (T : Top K mg) : Binds K T.rebuilt.d ["shape", "guess", "level", "loss"] [] := T.rebuilt.f.binds fun _ _ _ _ _ _ us hl => match us, hl with | [_, _, _, _], _ => rfl
theorem bd_levels_that (T : Top K mg) : Binds K T.levels_that.d ["shape", "guess", "sample", "loss"] [] := T.levels_that.f.binds fun _ _ _ _ _ _ us hl => match us, hl with | [_, _, _, _], _ => rfl
theorem bd_check_loss (T : Top K mg) : Binds K T.check_loss.d ["loss"] [] := T.check_loss.f.binds fun _ _ _ _ _ _ us hl => match us, hl with | [_], _ => rfl
theorem bd_check_guess (T : Top K mg) : Binds K T.check_guess.d ["shape", "guess"] [] := T.check_guess.f.binds fun _ _ _ _ _ _ us hl => match us, hl with | [_, _], _ => rfl
theorem bd_step_of (T : Top K mg) : Binds K T.step_of.d ["loss"] [] := T.step_of.f.binds fun _ _ _ _ _ _ us hl => match us, hl with | [_], _ => rfl
theorem bd_level_for (T : Top K mg) : Binds K T.level_for.d ["rest", "loss"] [] := T.level_for.f.binds fun _ _ _ _ _ _ us hl => match us, hl with | [_, _], _ => rfl
theorem bd__law_begun (T : Top K mg) : Binds K T._law_begun.d ["script"] [] := T._law_begun.f.binds fun _ _ _ _ _ _ us hl => match us, hl with | [_], _ => rfl
theorem bd__law_draw (T : Top K mg) : Binds K T._law_draw.d ["state", "size_here"] [] := T._law_draw.f.binds fun _ _ _ _ _ _ us hl => match us, hl with | [_, _], _ => rfl
theorem bd__law_pick (T : Top K mg) : Binds K T._law_pick.d ["state", "several"] [] := T._law_pick.f.binds fun _ _ _ _ _ _ us hl => match us, hl with | [_, _], _ => rfl
theorem bd__law_caught (T : Top K mg) : Binds K T._law_caught.d ["work"] [] := T._law_caught.f.binds fun _ _ _ _ _ _ us hl => match us, hl with | [_], _ => rfl
theorem bd__law_scope (T : Top K mg) : Binds K T._law_scope.d ["state"] [] := T._law_scope.f.binds fun _ _ _ _ _ _ us hl => match us, hl with | [_], _ => rfl
theorem bd__law_form (T : Top K mg) : Binds K T._law_form.d ["scope"] [] := T._law_form.f.binds fun _ _ _ _ _ _ us hl => match us, hl with | [_], _ => rfl
theorem bd__law_within (T : Top K mg) : Binds K T._law_within.d ["scope", "item"] [] := T._law_within.f.binds fun _ _ _ _ _ _ us hl => match us, hl with | [_, _], _ => rfl
theorem bd__law_grain (T : Top K mg) : Binds K T._law_grain.d ["state", "scope"] [] := T._law_grain.f.binds fun _ _ _ _ _ _ us hl => match us, hl with | [_, _], _ => rfl
theorem bd__law_level (T : Top K mg) : Binds K T._law_level.d ["item", "slack"] [] := T._law_level.f.binds fun _ _ _ _ _ _ us hl => match us, hl with | [_, _], _ => rfl
theorem bd__law_built (T : Top K mg) : Binds K T._law_built.d ["scope", "aim", "item", "slack"] [] := T._law_built.f.binds fun _ _ _ _ _ _ us hl => match us, hl with | [_, _, _, _], _ => rfl
theorem bd__law_span (T : Top K mg) : Binds K T._law_span.d ["scope", "aim", "grain", "slack"] [] := T._law_span.f.binds fun _ _ _ _ _ _ us hl => match us, hl with | [_, _, _, _], _ => rfl
theorem bd__law_refused (T : Top K mg) : Binds K T._law_refused.d ["state", "form", "aim", "grain"] [] := T._law_refused.f.binds fun _ _ _ _ _ _ us hl => match us, hl with | [_, _, _, _], _ => rfl
theorem bd_law (T : Top K mg) : Binds K T.law.d ["script"] [] := T.law.f.binds fun _ _ _ _ _ _ us hl => match us, hl with | [_], _ => rfl
end
end K07
namespace K07
open PySem PySem.Spec PyProof.Rows L2 PySem.W LamX KA
/-! ### the promises -/
/-- a value whose type isinstance can tell; whether it is a number -/
inductive Pl (K : PySem.W.Frag) (H : Hp) : V → Bool → Prop where
  | int (i : Int) : Pl K H (.int i) true
  | bl (b : Bool) : Pl K H (.bl b) false
  | str (s : Str) : Pl K H (.str s) false
  | non : Pl K H .non false
  | tup {a : Addr} {xs : List V} (e : H a = some (.tup xs)) : Pl K H (.ref a) false
  | lst {a : Addr} {xs : List V} (e : H a = some (.lst xs)) : Pl K H (.ref a) false
  | dK {a : Addr} {kvs : List (Key × V)} (e : H a = some (.dK kvs)) : Pl K H (.ref a) false
theorem Pl.ty {K : PySem.W.Frag} {H : Hp} {x : V} {b : Bool} (h : Pl K H x b) : ∃ t : String, TyX K H x (.type t) ∧ kitB t "int" = some (b || (t == "bool")) ∧ kitB t "bool" = some (t == "bool") ∧ ((b || (t == "bool")) && !(t == "bool")) = b := by
  cases h with
  | int i => exact ⟨"int", .base (.int i), by decide +kernel, by decide +kernel, by decide⟩
  | bl i => exact ⟨"bool", .base (.bl i), by decide +kernel, by decide +kernel, by decide⟩
  | str i => exact ⟨"str", .base (.str i), by decide +kernel, by decide +kernel, by decide⟩
  | non => exact ⟨"NoneType", .base .non, by decide +kernel, by decide +kernel, by decide⟩
  | tup e => exact ⟨"tuple", .base (.tup e), by decide +kernel, by decide +kernel, by decide⟩
  | lst e => exact ⟨"list", .base (.lst e), by decide +kernel, by decide +kernel, by decide⟩
  | dK e => exact ⟨"dict", .base (.dK e), by decide +kernel, by decide +kernel, by decide⟩
def within (x : V) (lo hi : Int) : Bool := match x with
  | .int i => decide (lo ≤ i) && decide (i ≤ hi)
  | _ => false
def spNumber (K : PySem.W.Frag) : Sp := fun vs H Q _ => ∃ x b, vs = [x] ∧ Pl K H x b ∧ Q (.bl b) H
def spWithin (K : PySem.W.Frag) : Sp := fun vs H Q _ => ∃ x b lo hi, vs = [x, .int lo, .int hi] ∧ Pl K H x b ∧ Q (.bl (within x lo hi)) H
section
variable {P : Program} {w : World} {K : PySem.W.Frag} {mg : Str → Option Value} {base : Heap} (T : Top K mg)
abbrev pInt {X : Cx} {pos : Pos} (hg : Gl X "int") (hm : X.mg "int" = none) : PE X (.Name "int" pos) (tC (.ty "int")) := pe_bltn hg hm PyProof.Rows.boot_int rfl
theorem q_bl {Q : VK} {H : Hp} {a b : Bool} (k : Q (.bl b) H) (e : a = b) : Q (.bl a) H := e ▸ k
theorem q_int {Q : VK} {H : Hp} {a b : Int} (k : Q (.int b) H) (e : a = b) : Q (.int a) H := e ▸ k
theorem q_str {Q : VK} {H : Hp} {a b : Str} (k : Q (.str b) H) (e : a = b) : Q (.str a) H := e ▸ k
theorem ok_is_number : FnOk P w K mg base (L2.CX P w) 1 T.is_number.a T.is_number.d ["thing"] (spNumber K) := by
  refine T.is_number.f.okX sc_is_number (fun vs H Q E h => ?_) (fun cdv A outer s H vs Q E hr h => ?_)
  · obtain ⟨x, b, rfl, _⟩ := h
    rfl
  · obtain ⟨x, b, rfl, hp, k⟩ := h
    refine ⟨_, pss_one (ps_ret (pe_and
      (pe_callB call_isi (by rfl) T.b_isinstance PyProof.Rows.boot_isinstance (pa_cons (pv 0) (pa_cons (pe_bltn (v := .ty "int") (by rfl) T.b_int PyProof.Rows.boot_int rfl) pa_nil)))
      (pe_one (pe_not (pe_callB call_isi (by rfl) T.b_isinstance PyProof.Rows.boot_isinstance (pa_cons (pv 0) (pa_cons (pe_bltn (v := .ty "bool") (by rfl) T.b_bool (by decide +kernel) rfl) pa_nil))))))), ?_⟩
    obtain ⟨t, ht, h1, h2, h3⟩ := hp.ty
    refine ⟨_, rfl, x, _, _, _, _, rfl, .ty "int", ht, kit_ty h1, _, rfl, ?_⟩
    cases e : (b || (t == "bool"))
    · rw [e] at h3
      refine iteF ?_
      exact q_bl k h3
    · rw [e] at h3
      refine iteT ?_
      refine ⟨_, rfl, x, _, _, _, _, rfl, .ty "bool", ht, kit_ty h2, _, rfl, ?_⟩
      exact q_bl k (by simpa using h3)
theorem ok_is_within : FnOk P w K mg base (L2.CX P w) 2 T.is_within.a T.is_within.d ["thing", "low", "high"] (spWithin K) := by
  refine T.is_within.f.okX sc_is_within (fun vs H Q E h => ?_) (fun cdv A outer s H vs Q E hr h => ?_)
  · obtain ⟨x, b, lo, hi, rfl, _⟩ := h
    rfl
  · obtain ⟨x, b, lo, hi, rfl, hp, k⟩ := h
    refine ⟨_, pss_one (ps_ret (pe_and (pe_call (ok_is_number T) hr (by rfl) T.is_number.m T.is_number.f.kp (bd_is_number T) .nil passE (pa_cons (pv 0) pa_nil))
      (pe_one (pe_chain op_le op_le (pv 1) (pv 0) (pv 2))))), ?_⟩
    refine ⟨_, rfl, x, b, rfl, hp, b, rfl, ?_⟩
    cases hp with
    | int i =>
      refine iteT ⟨_, rfl, _, rfl, lo, i, rfl, rfl, _, rfl, ?_⟩
      by_cases h1 : lo ≤ i
      · rw [decide_eq_true h1]
        refine iteT ⟨_, rfl, i, hi, rfl, rfl, ?_⟩
        exact q_bl k (by simp [within, h1])
      · rw [decide_eq_false h1]
        refine iteF ?_
        exact q_bl k (by simp [within, h1])
    | _ => exact iteF k
def foldI (i : Int) : Int := if i > 0 then 2 * i - 1 else -2 * i
def spFold : Sp := fun vs H Q _ => ∃ i : Int, vs = [.int i] ∧ Q (.int (foldI i)) H
theorem ok_fold : FnOk P w K mg base (L2.CX P w) 1 T.fold.a T.fold.d ["number"] spFold := by
  refine T.fold.f.okX sc_fold (fun vs H Q E h => ?_) (fun cdv A outer s H vs Q E hr h => ?_)
  · obtain ⟨i, rfl, _⟩ := h
    rfl
  · obtain ⟨i, rfl, k⟩ := h
    refine ⟨_, pss_one (ps_ret (pe_ifExp (pt_cmpR op_gt (pv 0) pe_int (nomark _)) (pe_op op_sub (pe_op op_mul pe_int (pv 0)) pe_int) (pe_op op_mul (pe_un un_neg pe_int) (pv 0)))), ?_⟩
    refine ⟨_, rfl, _, _, rfl, rfl, _, rfl, ?_⟩
    by_cases h : i > 0
    · rw [show decide ((0 : Int) < i) = true from decide_eq_true h]
      refine iteT ⟨_, rfl, _, _, rfl, rfl, .inl ⟨by decide, by decide⟩, _, _, rfl, rfl, ?_⟩
      exact q_int k (by simp [foldI, h])
    · rw [show decide ((0 : Int) < i) = false from decide_eq_false h]
      refine iteF ⟨_, rfl, _, rfl, _, _, rfl, rfl, .inl ⟨by decide, by decide⟩, ?_⟩
      exact q_int k (by simp [foldI, h])
def unfoldI (n : Int) : Int := if Builtin.bitAnd n 1 != 0 then (n + 1) / 2 else -(n / 2)
def spUnfold : Sp := fun vs H Q _ => ∃ i : Int, vs = [.int i] ∧ Q (.int (unfoldI i)) H
/-- n in m bits, as the program writes it -/
theorem padOk {m : Int} (h0 : 0 ≤ m) (h1 : m ≤ 100) : PadOk m = true := by
  unfold PadOk fitsSsize Builtin.Str.tooLong
  have e : sizeLine = 16777216 := rfl
  rw [e]
  simp
  omega
def inBits (n m : Int) : Str := if m = 0 then "" else Txt.zfill (binText n.natAbs) m
def spInBits : Sp := fun vs H Q _ => ∃ n m : Int, vs = [.int n, .int m] ∧ 0 ≤ n ∧ (binText n.natAbs).length ≤ 100 ∧ 0 ≤ m ∧ m ≤ 100 ∧ Q (.str (inBits n m)) H
theorem ok_in_bits : FnOk P w K mg base (L2.CX P w) 1 T.in_bits.a T.in_bits.d ["number", "many"] spInBits := by
  refine T.in_bits.f.okX sc_in_bits (fun vs H Q E h => ?_) (fun cdv A outer s H vs Q E hr h => ?_)
  · obtain ⟨n, m, rfl, _⟩ := h
    rfl
  · obtain ⟨n, m, rfl, h0, hl, hm0, hm, k⟩ := h
    refine ⟨_, pss_one (ps_ret (pe_ifExp (pt_truth (pv 1) (by intro _; rfl))
      (pe_bm PySem.F.plainAttrs_str PySem.F.slot_str_zfill PySem.F.type_str_zfill mt_zfill (pe_joined1 (pe_fmtB (pv 0))) (pa_cons (pv 1) pa_nil)) pe_str)), ?_⟩
    refine ⟨_, rfl, _, rfl, ?_⟩
    cases h : (m != 0)
    · refine iteF ?_
      exact q_str k (by simp only [bne_eq_false_iff_eq] at h; simp [inBits, h])
    · refine iteT ⟨_, rfl, n, rfl, h0, Nat.le_trans hl (by decide), ?_⟩
      have h : m ≠ 0 := by simpa using h
      refine ⟨rfl, _, rfl, _, _, rfl, rfl, padOk hm0 hm, ?_⟩
      exact q_str k (by simp [inBits, h])
def spIsTold (K : PySem.W.Frag) : Sp := fun vs H Q _ => ∃ x b, vs = [x] ∧ Pl K H x b ∧ Q (.bl (within x (-32767) 32767)) H
theorem ok_is_told : FnOk P w K mg base (L2.CX P w) 3 T.is_told.a T.is_told.d ["thing"] (spIsTold K) := by
  refine T.is_told.f.okX sc_is_told (fun vs H Q E h => ?_) (fun cdv A outer s H vs Q E hr h => ?_)
  · obtain ⟨x, b, rfl, _⟩ := h
    rfl
  · obtain ⟨x, b, rfl, hp, k⟩ := h
    obtain ⟨t, hc⟩ := T.cMOST_TOLD
    refine ⟨_, pss_one (ps_ret (pe_call (ok_is_within T) hr (by rfl) T.is_within.m T.is_within.f.kp (bd_is_within T) .nil passE (pa_cons (pv 0) (pa_cons (pe_un un_neg (pe_glob (v := .int 32767) (by rfl) hc ⟨_, rfl⟩)) (pa_cons (pe_glob (v := .int 32767) (by rfl) hc ⟨_, rfl⟩) pa_nil))))), ?_⟩
    exact ⟨_, rfl, _, rfl, x, b, _, _, rfl, hp, k⟩
/-- a check: nothing, or an error of the class at C -/
def spCheck (K : PySem.W.Frag) (lo hi : Int) (C : Addr) : Sp := fun vs H Q E => ∃ x b, vs = [x] ∧ Pl K H x b ∧ (within x lo hi = true → Q .non H) ∧ (within x lo hi = false → E (.ref C) none H)
theorem iteNot {A B : Prop} {b : Bool} (h1 : b = false → A) (h2 : b = true → B) : if (!b) = true then A else B := by
  cases b
  · exact h1 rfl
  · exact h2 rfl
theorem passX {X : Cx} {E : XK} (hs : X.stack = X.env :: X.outer) (hf : X.env.frame = some X.env.locals) (hex : X.ex = []) (hx : X.xe = fun e s' => wpAny (model X.prog X.w) X.A (leaving X.env e) (fun _ s'' => L2.CX X.prog X.w X.outer X.H_0 X.s_0 E e s'') (fun e' s'' => L2.CX X.prog X.w X.outer X.H_0 X.s_0 E e' s'') s') :
    Passes (L2.CX X.prog X.w) X E := passes_call (takes_of hs hf hex hx) fun _ _ _ _ h => h
theorem ok_check_told : FnOk P w K mg base (L2.CX P w) 4 T.check_told.a T.check_told.d ["number"] (spCheck K (-32767) 32767 T.BadNumber.C) := by
  refine T.check_told.f.okX sc_check_told (fun vs H Q E h => ?_) (fun cdv A outer s H vs Q E hr h => ?_)
  · obtain ⟨x, b, rfl, _⟩ := h
    rfl
  · obtain ⟨x, b, rfl, hp, k1, k2⟩ := h
    refine ⟨_, pss_one (ps_if (pt_not (pt_val (pe_call (ok_is_told T) hr (by rfl) T.is_told.m T.is_told.f.kp (bd_is_told T) .nil passE (pa_cons (pv 0) pa_nil))))
      (pss_one (ps_raiseT rfl rfl T.BadNumber (by rfl) rfl (takes_of rfl rfl rfl rfl))) pss_nil), ?_⟩
    exact ⟨_, rfl, x, b, rfl, hp, _, rfl, iteNot k2 k1⟩
theorem ok_check_grade : FnOk P w K mg base (L2.CX P w) 4 T.check_grade.a T.check_grade.d ["grade"] (spCheck K 0 7 T.BadGrade.C) := by
  refine T.check_grade.f.okX sc_check_grade (fun vs H Q E h => ?_) (fun cdv A outer s H vs Q E hr h => ?_)
  · obtain ⟨x, b, rfl, _⟩ := h
    rfl
  · obtain ⟨x, b, rfl, hp, k1, k2⟩ := h
    refine ⟨_, pss_one (ps_if (pt_not (pt_val (pe_call (ok_is_within T) (hr.mono (by decide)) (by rfl) T.is_within.m T.is_within.f.kp (bd_is_within T) .nil passE (pa_cons (pv 0) (pa_cons pe_int (pa_cons pe_int pa_nil))))))
      (pss_one (ps_raiseT rfl rfl T.BadGrade (by rfl) rfl (takes_of rfl rfl rfl rfl))) pss_nil), ?_⟩
    exact ⟨_, rfl, x, b, _, _, rfl, hp, _, rfl, iteNot k2 k1⟩
theorem within_int {x : V} {lo hi : Int} (h : within x lo hi = true) : ∃ i, x = .int i ∧ lo ≤ i ∧ i ≤ hi := by
  cases x with
  | int i =>
    simp only [within, Bool.and_eq_true, decide_eq_true_eq] at h
    exact ⟨i, rfl, h⟩
  | _ => cases h
def spFolded (K : PySem.W.Frag) (C : Addr) : Sp := fun vs H Q E => ∃ x b, vs = [x] ∧ Pl K H x b ∧ (∀ i, x = .int i → -32767 ≤ i → i ≤ 32767 → Q (.int (foldI i)) H) ∧ (within x (-32767) 32767 = false → E (.ref C) none H)
def spUnfolded (K : PySem.W.Frag) (C : Addr) : Sp := fun vs H Q E => ∃ x b, vs = [x] ∧ Pl K H x b ∧ (∀ i, x = .int i → 0 ≤ i → i ≤ 65534 → Q (.int (unfoldI i)) H) ∧ (within x 0 65534 = false → E (.ref C) none H)
end
end K07
namespace K07
open PySem PySem.Spec PyProof.Rows L2 PySem.W LamX KA
section
variable {P : Program} {w : World} {K : PySem.W.Frag} {mg : Str → Option Value} {base : Heap} (T : Top K mg)
def isStr (x : V) : Bool := match x with
  | .str _ => true
  | _ => false
theorem Pl.str? {K : PySem.W.Frag} {H : Hp} {x : V} {b : Bool} (h : Pl K H x b) : ∃ t : String, TyX K H x (.type t) ∧ kitB t "str" = some (isStr x) := by
  cases h with
  | int i => exact ⟨"int", .base (.int i), (by decide +kernel : kitB "int" "str" = some false)⟩
  | bl i => exact ⟨"bool", .base (.bl i), (by decide +kernel : kitB "bool" "str" = some false)⟩
  | str i => exact ⟨"str", .base (.str i), (by decide +kernel : kitB "str" "str" = some true)⟩
  | non => exact ⟨"NoneType", .base .non, by decide +kernel⟩
  | tup e => exact ⟨"tuple", .base (.tup e), (by decide +kernel : kitB "tuple" "str" = some false)⟩
  | lst e => exact ⟨"list", .base (.lst e), (by decide +kernel : kitB "list" "str" = some false)⟩
  | dK e => exact ⟨"dict", .base (.dK e), (by decide +kernel : kitB "dict" "str" = some false)⟩
def isBits (x : V) : Bool := match x with
  | .str s => decide (V.str (Txt.stripChars s "01") = V.str "")
  | _ => false
def spIsBits (K : PySem.W.Frag) : Sp := fun vs H Q _ => ∃ x b, vs = [x] ∧ Pl K H x b ∧ (∀ s, x = .str s → s.length ≤ 1000) ∧ Q (.bl (isBits x)) H
def spFixed (K : PySem.W.Frag) (CM CN : Addr) : Sp := fun vs H Q E => ∃ x bx y «by», vs = [x, y] ∧ Pl K H x bx ∧ Pl K H y «by» ∧ (within y 1 16 = false → E (.ref CM) none H) ∧
  ∀ m : Nat, y = .int m → 1 ≤ m → m ≤ 16 → (within x 0 (2 ^ m - 1) = false → E (.ref CN) none H) ∧ ∀ n : Nat, x = .int n → n < 2 ^ m → Q (.str (twosT m n)) H
theorem pow16 {m : Nat} (h : m ≤ 16) : 2 ^ m ≤ 65536 := by
  have := Nat.pow_le_pow_right (n := 2) (by decide) h
  exact this
theorem binText_small {n : Nat} (h : n < 65536) : (binText n).length ≤ 100 := by
  rw [binText_len]
  have := binL_le 16 n (by decide) h
  omega
theorem inBits_eq {m n : Nat} (hm : 0 < m) (h : n < 2 ^ m) : inBits (n : Int) (m : Int) = twosT m n := by
  unfold inBits
  rw [if_neg (by omega), Int.natAbs_natCast]
  exact zfill_bin hm h
theorem cut_one {z : Str} (h : 1 ≤ z.length) : cutS z (some 1) none = ⟨(z.cps.toList.drop 1).toArray⟩ := by
  have e1 : HT.sIx z.length 0 (some 1) = 1 := (HT.sIx_nat z.length 0 1).trans (by omega)
  unfold cutS
  rw [e1, HT.sIx_none, List.take_of_length_le]
  simp [Str.length]
theorem len_app (x y : Str) : (x ++ y).length = x.length + y.length := Array.size_append
def longT (f : Nat) : Str := onesT (tailL (f + 1)).length ++ "0" ++ ⟨(tailL (f + 1)).toArray⟩
theorem foldI_nat {i : Int} (h1 : -32767 ≤ i) (h2 : i ≤ 32767) : ∃ f : Nat, foldI i = f ∧ f < 65535 := by
  refine ⟨(foldI i).toNat, ?_, ?_⟩ <;> (unfold foldI; split <;> omega)
def spLong (K : PySem.W.Frag) (C : Addr) : Sp := fun vs H Q E => ∃ x b, vs = [x] ∧ Pl K H x b ∧ (∀ i (f : Nat), x = .int i → foldI i = f → f < 65535 → Q (.str (longT f)) H) ∧ (within x (-32767) 32767 = false → E (.ref C) none H)
def gradeT (f g : Nat) : Str := if 12 ≤ f / 2 ^ g then onesT 12 ++ twosT 16 f else onesT (f / 2 ^ g) ++ "0" ++ twosT g (f % 2 ^ g)
theorem twosT_len (m n : Nat) : (twosT m n).length = m := by
  show ((bitsL m n).toArray).size = m
  simp [bitsL_len]
def spGrade (K : PySem.W.Frag) (CN CG : Addr) : Sp := fun vs H Q E => ∃ x b y yb, vs = [x, y] ∧ Pl K H x b ∧ Pl K H y yb ∧ (within x (-32767) 32767 = false → E (.ref CN) none H) ∧
  ∀ i (f : Nat), x = .int i → foldI i = f → f < 65535 → (within y 0 7 = false → E (.ref CG) none H) ∧ ∀ g : Nat, y = .int g → g ≤ 7 → Q (.str (gradeT f g)) H
theorem ok_grade_bits : FnOk P w K mg base (L2.CX P w) 5 T.grade_bits.a T.grade_bits.d ["number", "grade"] (spGrade K T.BadNumber.C T.BadGrade.C) := by
  refine T.grade_bits.f.okX sc_grade_bits (fun vs H Q E h => ?_) (fun cdv A outer s H vs Q E hr h => ?_)
  · obtain ⟨x, b, y, yb, rfl, _⟩ := h
    rfl
  · obtain ⟨x, b, y, yb, rfl, hp, hy, k2, k1⟩ := h
    obtain ⟨t1, hc1⟩ := T.cONES_OF_GRADE
    obtain ⟨t2, hc2⟩ := T.cBITS_BEHIND_ONES
    refine ⟨_, pss_cons (ps_expr (pe_call (ok_check_told T) hr (by rfl) T.check_told.m T.check_told.f.kp (bd_check_told T) .nil (passX rfl rfl rfl rfl) (pa_cons (pv 0) pa_nil)))
      (pss_cons (ps_expr (pe_call (ok_check_grade T) hr (by rfl) T.check_grade.m T.check_grade.f.kp (bd_check_grade T) .nil (passX rfl rfl rfl rfl) (pa_cons (pv 1) pa_nil)))
      (pss_cons (ps_set (i := 2) sc_grade_bits.nd rfl (.inl rfl) (pe_call (ok_fold T) (hr.mono (by decide)) (by rfl) T.fold.m T.fold.f.kp (bd_fold T) .nil passE (pa_cons (pv 0) pa_nil)))
      (pss_cons (ps_set (i := 3) sc_grade_bits.nd rfl (.inl rfl) (pe_op op_shr (pv 2) (pv 1)))
      (pss_cons (ps_if (pt_cmpR op_ge (pv 3) (pe_glob (v := .int 12) (by rfl) hc1 ⟨_, rfl⟩) (nomark _))
        (pss_one (ps_ret (pe_op op_add_str (pe_op op_mulS pe_str (pe_glob (v := .int 12) (by rfl) hc1 ⟨_, rfl⟩)) (pe_call (ok_in_bits T) (hr.mono (by decide)) (by rfl) T.in_bits.m T.in_bits.f.kp (bd_in_bits T) .nil passE (pa_cons (pv 2) (pa_cons (pe_glob (v := .int 16) (by rfl) hc2 ⟨_, rfl⟩) pa_nil)))))) pss_nil)
      (pss_one (ps_ret (pe_op op_add_str (pe_op op_add_str (pe_op op_mulS pe_str (pv 3)) pe_str)
        (pe_call (ok_in_bits T) (hr.mono (by decide)) (by rfl) T.in_bits.m T.in_bits.f.kp (bd_in_bits T) .nil passE (pa_cons (pe_op op_sub (pv 2) (pe_op op_shl (pv 3) (pv 1))) (pa_cons (pv 1) pa_nil)))))))))), ?_⟩
    refine ⟨_, rfl, x, b, rfl, hp, fun e => ?_, k2⟩
    obtain ⟨i, rfl, h1, h2⟩ := within_int e
    obtain ⟨f, ef, hf⟩ := foldI_nat h1 h2
    obtain ⟨k3, k4⟩ := k1 i f rfl ef hf
    refine ⟨_, rfl, y, yb, rfl, hy, fun e2 => ?_, k3⟩
    obtain ⟨j, rfl, h3, h4⟩ := within_int e2
    obtain ⟨g, rfl⟩ : ∃ g : Nat, j = g := ⟨j.toNat, by omega⟩
    have k := k4 g rfl (by omega)
    have hg := pow16 (m := g) (by omega)
    have hp0 : 0 < 2 ^ g := Nat.pow_pos (by decide)
    have ed : (f : Int) / 2 ^ (g : Int).toNat = ((f / 2 ^ g : Nat) : Int) := by
      rw [Int.toNat_natCast, Int.natCast_ediv, Int.natCast_pow]
      rfl
    refine ⟨_, rfl, i, rfl, _, rfl, _, rfl, _, _, rfl, rfl, by omega, _, rfl, _, _, rfl, rfl, _, rfl, ?_⟩
    dsimp only
    rw [ef, ed]
    have hq : f / 2 ^ g ≤ f := Nat.div_le_self _ _
    have eG : gradeT f g = if 12 ≤ f / 2 ^ g then onesT 12 ++ twosT 16 f else onesT (f / 2 ^ g) ++ "0" ++ twosT g (f % 2 ^ g) := rfl
    have em : (f : Int) - ((f / 2 ^ g : Nat) : Int) * 2 ^ (g : Int).toNat = ((f % 2 ^ g : Nat) : Int) := by
      rw [Int.toNat_natCast]
      have := Nat.div_add_mod f (2 ^ g)
      have e5 : ((2 : Int) ^ g) = ((2 ^ g : Nat) : Int) := by simp
      rw [e5, ← Int.natCast_mul, Nat.mul_comm]
      omega
    have hm : f % 2 ^ g < 2 ^ g := Nat.mod_lt _ hp0
    generalize f / 2 ^ g = q at hq eG em ⊢
    generalize f % 2 ^ g = m at eG em hm
    clear ed
    by_cases h : 12 ≤ q
    · rw [show decide ((12 : Int) ≤ ((q : Nat) : Int)) = true from decide_eq_true (by omega)]
      refine iteT ?_
      refine ⟨_, _, rfl, rfl, by decide, by decide, by decide, _, rfl, _, _, rfl, by omega, ?_, by decide, by decide, ?_⟩
      · rw [Int.natAbs_natCast]
        exact binText_small (by omega)
      · rw [show Txt.mul "1" 12 = onesT 12 from mul_ones 12, show inBits (f : Int) 16 = twosT 16 f from inBits_eq (m := 16) (by decide) (by omega)]
        refine ⟨_, _, rfl, rfl, ?_, ?_⟩
        · rw [onesT_len, twosT_len]
          decide
        · exact q_str k (by rw [eG, if_pos h])
    · rw [show decide ((12 : Int) ≤ ((q : Nat) : Int)) = false from decide_eq_false (by omega)]
      refine iteF ?_
      refine ⟨_, rfl, _, _, rfl, rfl, by omega, by omega, by decide, ?_⟩
      rw [mul_ones]
      refine ⟨_, _, rfl, rfl, ?_, _, rfl, _, rfl, _, rfl, _, _, rfl, rfl, ⟨by omega, by omega, by omega⟩, _, _, rfl, rfl, _, rfl, ?_⟩
      · rw [onesT_len]
        refine Nat.le_trans (Nat.add_le_add_right (show q ≤ 12 by omega) _) (by decide)
      dsimp only
      rw [em]
      refine ⟨_, _, rfl, by omega, ?_, by omega, by omega, ?_⟩
      · rw [Int.natAbs_natCast]
        exact binText_small (by omega)
      · have ei : inBits ((m : Nat) : Int) (g : Int) = twosT g (m) := by
          rcases Nat.eq_zero_or_pos g with z | z
          · subst z
            rfl
          · exact inBits_eq z hm
        rw [ei]
        refine ⟨_, _, rfl, rfl, ?_, ?_⟩
        · rw [len_app, onesT_len, twosT_len]
          refine Nat.le_trans (Nat.add_le_add (Nat.add_le_add_right (show q ≤ 12 by omega) _) (show g ≤ 7 by omega)) (by decide)
        · exact q_str k (by rw [eG, if_neg h])
end
end K07
namespace K07
open PySem PySem.Spec PyProof.Rows L2 PySem.W LamX KA
section
variable {P : Program} {w : World} {K : PySem.W.Frag} {mg : Str → Option Value} {base : Heap} (T : Top K mg)
def spTwo : Sp := fun vs H Q _ => ∃ n : Nat, vs = [.int n] ∧ n ≤ 1000 ∧ Q (.int ((2 ^ n : Nat) : Int)) H
theorem bitsL_front : ∀ (k n : Nat), bitsL (k + 1) n = (48 + (n / 2 ^ k) % 2) :: bitsL k n
  | 0, n => by simp [bitsL]
  | k + 1, n => by
    rw [bitsL, bitsL_front k (n / 2), Nat.div_div_eq_div_mul, ← Nat.pow_succ']
    simp [bitsL]
theorem bit_str (n : Nat) : (Str.ofString (toString ((n : Int) % 2)) : Str) = ⟨#[48 + n % 2]⟩ := by
  have h : (n : Int) % 2 = 0 ∧ n % 2 = 0 ∨ (n : Int) % 2 = 1 ∧ n % 2 = 1 := by omega
  rcases h with ⟨e1, e2⟩ | ⟨e1, e2⟩
  · rw [e1, e2]
    rfl
  · rw [e1, e2]
    rfl
theorem bit_log (n : Nat) : ((n : Int) % 2).natAbs.log2 < 1920 := by
  have h : (n : Int) % 2 = 0 ∨ (n : Int) % 2 = 1 := by omega
  rcases h with e | e <;> rw [e] <;> decide
theorem cons_str (d : Nat) (l : List Nat) : ((⟨#[d]⟩ : Str) ++ ⟨l.toArray⟩) = ⟨(d :: l).toArray⟩ := by
  show (⟨#[d] ++ l.toArray⟩ : Str) = _
  congr 1
  apply Array.toList_inj.mp
  simp
def spTwos : Sp := fun vs H Q _ => ∃ n m : Nat, vs = [.int n, .int m] ∧ m ≤ 100 ∧ Q (.str (twosT m n)) H
def spLLong : Sp := fun vs H Q _ => ∃ (i : Int) (f : Nat), vs = [.int i] ∧ foldI i = f ∧ f < 65535 ∧ Q (.str (longT f)) H
theorem tail_small {f : Nat} (h : f < 65536) : (tailL f).length ≤ 16 := by
  rcases Nat.eq_zero_or_pos f with z | z
  · subst z
    decide
  · have := binL_le 16 f (by decide) h
    rw [binL_head f z] at this
    simp at this
    omega
def spLGraded : Sp := fun vs H Q _ => ∃ (i : Int) (f g : Nat), vs = [.int i, .int g] ∧ foldI i = f ∧ f < 65535 ∧ g ≤ 7 ∧ Q (.str (gradeT f g)) H
end
end K07
namespace K07
open PySem PySem.Spec PyProof.Rows L2 PySem.W LamX KA
open Evl (pss_cut tCut)
def spDraw : Sp := fun vs H Q _ => ∃ (st lg cl : Addr) (n m : Nat), vs = [.ref st, .int n] ∧ 0 < n ∧ n < 2 ^ 100 ∧ m ≤ 1000000 ∧ StAt H st lg cl m ∧
  ∀ (r : Nat) (H' : Hp), r < n → StAt H' st lg cl (m + 1) → Kp st lg H H' → Q (.int r) H'
section
variable {P : Program} {w : World} {K : PySem.W.Frag} {mg : Str → Option Value} {base : Heap} (T : Top K mg)
theorem draw_div {n : Nat} (h0 : 0 < n) (h : n < 2 ^ 100) {i : Int} : CDivW i (n : Int) := wide_div (b := 100) (by omega) (by simpa using h) (by decide) (by decide)
theorem ok_draw : FnOk P w K mg base (L2.CX P w) 1 T._law_draw.a T._law_draw.d ["state", "size_here"] spDraw := by
  refine T._law_draw.f.okX sc__law_draw (fun vs H Q E h => ?_) (fun cdv A outer s H vs Q E hr h => ?_)
  · obtain ⟨st, lg, cl, n, m, rfl, _⟩ := h
    rfl
  · obtain ⟨st, lg, cl, n, m, rfl, hn, hn2, hm, ⟨large, cells, left, turn, S, ht⟩, k⟩ := h
    have hu := hu_of hr
    refine ⟨_, pss_cut (ps_while (passes_of rfl) (PW.pt (pw_and (pt_cmpR op_eq (pe_dget hu (pv 0) pe_str (fun _ _ => rfl)) pe_int (nomark _)) (pw_and1 (pt_cmpR (op_neD hr.units) (pe_dget hu (pv 0) pe_str (fun _ _ => rfl)) (pe_lst pa_nil) (nomark _)))))
        (pss_one (ps_dput hu (pv 0) pe_str (pe_bm PySem.F.plainAttrs_list PySem.F.slot_list_pop PySem.F.type_list_pop mt_popAt (pe_dget hu (pv 0) pe_str (fun _ _ => rfl)) (pa_cons pe_int pa_nil)) rfl)))
      (pss_cons (ps_if (pt_cmpR op_gt (pe_dget hu (pv 0) pe_str (fun _ _ => rfl)) pe_int (nomark _))
        (pss_cons (ps_set (i := 2) sc__law_draw.nd rfl (.inl rfl) (pe_op op_mod (pe_callTy call_int1 (by rfl) T.b_int PyProof.Rows.boot_int (pa_cons (pe_dget hu (pv 0) pe_str (fun _ _ => rfl)) pa_nil)) (pv 1)))
        (pss_cons (ps_dput hu (pv 0) pe_str (pe_op op_fdivW (pe_dget hu (pv 0) pe_str (fun _ _ => rfl)) (pv 1)) rfl)
        (pss_one (ps_ret (pv 2))))) pss_nil)
      (pss_cons (ps_set (i := 3) sc__law_draw.nd rfl (.inl rfl) (pe_op op_add (pe_dget hu (pv 0) pe_str (fun _ _ => rfl)) pe_int))
      (pss_cons (ps_dput hu (pv 0) pe_str (pv 3) rfl)
      (pss_cut (ps_set (i := 4) sc__law_draw.nd rfl (.inl rfl) (pe_ifExp (pt_cmpR (op_neD hr.units) (pe_dget hu (pv 0) pe_str (fun _ _ => rfl)) (pe_lst pa_nil) (nomark _))
        (pe_ix ix_list (pe_dget hu (pv 0) pe_str (fun _ _ => rfl)) (pe_op op_mod (pe_callTy call_int1 (by rfl) T.b_int PyProof.Rows.boot_int (pa_cons (pv 3) pa_nil)) (pe_callB call_len_seq (by rfl) T.b_len PySem.boot_len (pa_cons (pe_dget hu (pv 0) pe_str (fun _ _ => rfl)) pa_nil))) (fun _ _ => rfl))
        pe_int))
      (pss_cons (ps_set (i := 5) sc__law_draw.nd rfl (.inl rfl) (pe_op op_mod (pe_callTy call_int1 (by rfl) T.b_int PyProof.Rows.boot_int (pa_cons (pe_op op_pow (pe_op op_add (pe_op op_add (pe_op op_mod (pe_callTy call_int1 (by rfl) T.b_int PyProof.Rows.boot_int (pa_cons (pv 4) pa_nil)) pe_int) (pe_op op_mul pe_int (pv 3))) pe_int) pe_int) pa_nil)) pe_int))
      (pss_one (ps_ret (pe_op op_mod (pe_callTy call_int1 (by rfl) T.b_int PyProof.Rows.boot_int (pa_cons (pe_op op_fdiv (pe_op op_mod (pe_callTy call_int1 (by rfl) T.b_int PyProof.Rows.boot_int (pa_cons (pe_op op_pow (pe_op op_add (pv 5) (pe_op op_mul pe_int (pv 3))) pe_int) pa_nil)) pe_int) pe_int) pa_nil)) (pv 1))))))))), ?_⟩
    -- the while
    refine ⟨fun σ' H' => σ' = [some (.ref st), some (.int n), none, none, none, none] ∧ ∃ large' left', StD H' st lg cl large' cells left' turn ∧ Kp st lg H H', ?_, ?_⟩
    · refine ⟨fun μ σ' H' => σ' = [some (.ref st), some (.int n), none, none, none, none] ∧ ∃ large' left', large'.length = μ ∧ StD H' st lg cl large' cells left' turn ∧ Kp st lg H H',
        ⟨large.length, rfl, large, left, rfl, S, Kp.refl⟩, ?_⟩
      rintro μ σ' H1 ⟨rfl, large', left', hμ, S1, kp1⟩
      refine ⟨_, rfl, st, _, rfl, (show DGet H1 st (kV kLeft) _ from st_left ▸ DGet.k S1.d), rfl, _, rfl, ?_⟩
      by_cases c1 : left' = 0
      · subst c1
        refine iteT ⟨_, rfl, st, _, rfl, (show DGet H1 st (kV kLarge) _ from st_large ▸ DGet.k S1.d), by decide, fun p hp => ?_⟩
        have S2 := S1.same (Same.new (o := .lst []) hp)
        have kp2 := kp1.trans (Kp.same (Same.new (o := .lst []) hp))
        refine ⟨_, _, dp_int_list S2.l, dp_nil upd_same, shaped_is _, shaped_nil, _, rfl, ?_⟩
        rw [eqv_ints_nil]
        cases large' with
        | nil => exact iteF ⟨rfl, [], 0, S2, kp2⟩
        | cons x rest =>
          refine iteT ⟨fun σ' H' => σ' = [some (.ref st), some (.int n), none, none, none, none] ∧ ∃ large' left', large'.length = rest.length ∧ StD H' st lg cl large' cells left' turn ∧ Kp st lg H H',
            fun σ' H' ⟨e, l', lf, e2, r⟩ => ⟨rest.length, by rw [← hμ]; exact Nat.lt_succ_self _, e, l', lf, e2, r⟩, ?_⟩
          refine ⟨_, rfl, st, .ref lg, rfl, (show DGet _ st (kV kLarge) _ from st_large ▸ DGet.k S2.d), .inl ⟨rfl, _, SqL.of S2.l⟩, lg, _, 0, 0, .int x, rfl, rfl, S2.l, by decide, by decide, by simp [seqIndex?], rfl, ?_⟩
          have S3 : StD (upd (upd H1 p (.lst [])) lg (.lst (rest.map V.int))) st lg cl rest cells 0 turn :=
            { d := (upd_ne S2.st_lg).trans S2.d, l := upd_same, c := (upd_ne S2.ne.symm).trans S2.c, ne := S2.ne, pl := fun y hy => S2.pl y (List.mem_cons_of_mem _ hy), p0 := S2.p0 }
          have hx : 0 ≤ x := S2.pl x List.mem_cons_self
          refine ⟨_, rfl, st, _, rfl, (show DPut _ st (kV kLeft) _ _ from DPut.k S3.d (by show 4 < sizeLine; decide)), ?_⟩
          rw [st_put_left]
          exact ⟨rfl, rest, x, rfl, S3.put hx, (kp2.trans Kp.put2).trans Kp.put⟩
      · rw [show decide (V.int left' = V.int 0) = false from decide_eq_false fun z => c1 (V.int.inj z)]
        exact iteF ⟨rfl, large', left', S1, kp1⟩
    · rintro σ' H1 ⟨rfl, large', left', S1, kp1⟩
      refine ⟨_, rfl, st, _, rfl, (show DGet H1 st (kV kLeft) _ from st_left ▸ DGet.k S1.d), _, _, rfl, rfl, _, rfl, ?_⟩
      by_cases c1 : 0 < left'
      · rw [show decide ((0 : Int) < left') = true from decide_eq_true c1]
        refine iteT ⟨_, rfl, st, _, rfl, (show DGet H1 st (kV kLeft) _ from st_left ▸ DGet.k S1.d), .inl ⟨_, rfl, _, rfl, _, _, rfl, rfl, (by show (0 : Int) < (n : Int); omega), ?_⟩⟩
        refine ⟨_, rfl, st, _, rfl, (show DGet H1 st (kV kLeft) _ from st_left ▸ DGet.k S1.d), _, rfl, _, _, rfl, rfl, draw_div hn hn2, _, rfl, st, _, rfl, (show DPut _ st (kV kLeft) _ _ from DPut.k S1.d (by show 4 < sizeLine; decide)), ?_⟩
        rw [st_put_left]
        have hr0 := Int.emod_nonneg left' (show (n : Int) ≠ 0 by omega)
        have hr1 := Int.emod_lt_of_pos left' (show (0 : Int) < n by omega)
        have S3 := S1.put (t := turn) (l := left' / (n : Int)) (Int.ediv_nonneg (by omega) (by omega))
        exact ⟨_, rfl, q_int (k (left' % (n : Int)).toNat _ (by omega) ⟨_, _, _, _, S3, by omega⟩ (kp1.trans Kp.put)) (by omega)⟩
      · rw [show decide ((0 : Int) < left') = false from decide_eq_false c1]
        refine iteF ⟨_, rfl, st, _, rfl, (show DGet H1 st (kV kTurn) _ from st_turn ▸ DGet.k S1.d), _, _, rfl, rfl, _, rfl, _, rfl, st, _, rfl, (show DPut _ st (kV kTurn) _ _ from DPut.k S1.d (by show 4 < sizeLine; decide)), ?_⟩
        rw [st_put_turn]
        have S2 : StD (upd H1 st (.dK (stKv lg cl left' ((turn + 1 : Nat) : Int)))) st lg cl large' cells left' (turn + 1) := S1.put S1.p0
        have kp2 : Kp st lg H (upd H1 st (.dK (stKv lg cl left' ((turn + 1 : Nat) : Int)))) := kp1.trans Kp.put
        have e1 : ((turn : Int) + 1) = ((turn + 1 : Nat) : Int) := by omega
        rw [e1]
        generalize upd H1 st (.dK (stKv lg cl left' ((turn + 1 : Nat) : Int))) = H2 at S2 kp2 ⊢
        refine ⟨fun σ' H' => ∃ c : Int, σ' = [some (.ref st), some (.int n), none, some (.int ((turn + 1 : Nat) : Int)), some (.int c), none] ∧ StD H' st lg cl large' cells left' (turn + 1) ∧ Kp st lg H H', ?_, ?_⟩
        · refine ⟨_, rfl, st, .ref cl, rfl, (show DGet H2 st (kV kCells) _ from st_cells ▸ DGet.k S2.d), by decide, fun p hp => ?_⟩
          have S3 := S2.same (Same.new (o := .lst []) hp)
          have kp3 := kp2.trans (Kp.same (Same.new (o := .lst []) hp))
          refine ⟨_, _, dp_int_list S3.c, dp_nil upd_same, shaped_is _, shaped_nil, _, rfl, ?_⟩
          rw [eqv_ints_nil]
          generalize upd H2 p (.lst []) = H3 at S3 kp3 ⊢
          cases cells with
          | nil => exact iteF ⟨0, rfl, S3, kp3⟩
          | cons y ys =>
            refine iteT ⟨_, rfl, st, .ref cl, rfl, (show DGet H3 st (kV kCells) _ from st_cells ▸ DGet.k S3.d), _, rfl, .inl ⟨_, rfl, _, rfl, st, .ref cl, rfl, (show DGet H3 st (kV kCells) _ from st_cells ▸ DGet.k S3.d), cl, _, rfl, .inl (SqL.of S3.c), _, _, rfl, rfl, ?_, ?_⟩⟩
            · show (0 : Int) < ((((y :: ys).map V.int).length : Nat) : Int)
              simp
            · have hlen : ((y :: ys).map V.int).length = (y :: ys).length := List.length_map _
              have hz : (turn + 1) % (y :: ys).length < (y :: ys).length := Nat.mod_lt _ (by simp)
              obtain ⟨c, hc⟩ : ∃ c, (y :: ys)[(turn + 1) % (y :: ys).length]? = some c := ⟨_, List.getElem?_eq_getElem hz⟩
              refine ⟨cl, _, _, .int c, rfl, rfl, SqL.of S3.c, ?_, c, rfl, S3, kp3⟩
              rw [hlen, show (((turn : Int) + 1) % (((y :: ys).length : Nat) : Int)) = (((turn + 1) % (y :: ys).length : Nat) : Int) from rfl]
              exact atI_nat (by rw [List.getElem?_map, hc]; rfl)
        · rintro σ' H3 ⟨c, rfl, S3, kp3⟩
          have h1 := Int.emod_nonneg c (show (2147483563 : Int) ≠ 0 by decide)
          have h2 := Int.emod_lt_of_pos c (show (0 : Int) < 2147483563 by decide)
          refine ⟨_, rfl, .inl ⟨_, rfl, _, _, rfl, rfl, (by show (0 : Int) < 2147483563; decide), _, rfl, _, _, rfl, rfl, .inl ⟨by decide, by decide⟩, _, _, rfl, rfl, _, _, rfl, rfl, _, _, rfl, rfl, ⟨by decide, by decide, ?_⟩, .inl ⟨_, rfl, _, _, rfl, rfl, (by show (0 : Int) < 2147483629; decide), ?_⟩⟩⟩
          · generalize c % 2147483563 = c' at h1 h2 ⊢
            omega
          generalize (c % 2147483563 + 40692 * ((turn + 1 : Nat) : Int) + 24681) ^ (3 : Int).toNat = z
          have h3 := Int.emod_nonneg z (show (2147483629 : Int) ≠ 0 by decide)
          have h4 := Int.emod_lt_of_pos z (show (0 : Int) < 2147483629 by decide)
          dsimp only
          generalize z % 2147483629 = y at h3 h4 ⊢
          refine ⟨_, rfl, _, rfl, _, _, rfl, rfl, .inl ⟨by decide, by decide⟩, _, _, rfl, rfl, _, _, rfl, rfl, ⟨by decide, by decide, by omega⟩, .inl ⟨_, rfl, _, _, rfl, rfl, (by show (0 : Int) < 2147483579; decide), _, _, rfl, rfl, ⟨by decide, by decide⟩, .inl ⟨_, rfl, _, rfl, _, _, rfl, rfl, (by show (0 : Int) < (n : Int); omega), ?_⟩⟩⟩
          generalize (y + 104917 * ((turn + 1 : Nat) : Int)) ^ (5 : Int).toNat % 2147483579 / 29 = x
          have h5 := Int.emod_nonneg x (show (n : Int) ≠ 0 by omega)
          have h6 := Int.emod_lt_of_pos x (show (0 : Int) < n by omega)
          exact q_int (k (x % (n : Int)).toNat _ (by omega) ⟨_, _, _, _, S3, by omega⟩ kp3) (by omega)
end
end K07
namespace K07
open PySem PySem.Spec PyProof.Rows L2 PySem.W LamX KA
open Evl (pss_cut tCut)
def spPick : Sp := fun vs H Q _ => ∃ (st lg cl a : Addr) (xs : List V) (m : Nat), vs = [.ref st, .ref a] ∧ H a = some (.lst xs) ∧ a ≠ lg ∧ 0 < xs.length ∧ xs.length ≤ 1000 ∧ m ≤ 1000000 ∧ StAt H st lg cl m ∧
  ∀ (x : V) (H' : Hp), x ∈ xs → StAt H' st lg cl (m + 1) → Kp st lg H H' → Q x H'
section
variable {P : Program} {w : World} {K : PySem.W.Frag} {mg : Str → Option Value} {base : Heap} (T : Top K mg)
theorem ok_pick : FnOk P w K mg base (L2.CX P w) 2 T._law_pick.a T._law_pick.d ["state", "several"] spPick := by
  refine T._law_pick.f.okX sc__law_pick (fun vs H Q E h => ?_) (fun cdv A outer s H vs Q E hr h => ?_)
  · obtain ⟨st, lg, cl, a, xs, m, rfl, _⟩ := h
    rfl
  · obtain ⟨st, lg, cl, a, xs, m, rfl, ha, hal, h0, h1, hm, S, k⟩ := h
    have has : a ≠ st := by
      obtain ⟨_, _, _, _, S', _⟩ := S
      exact ne_of ha S'.d (by intro z; cases z)
    refine ⟨_, pss_one (ps_ret (pe_ix ix_list (pv 1) (pe_call (ok_draw T) hr (by rfl) T._law_draw.m T._law_draw.f.kp (bd__law_draw T) .nil passE (pa_cons (pv 0) (pa_cons (pe_callB call_len_seq (by rfl) T.b_len PySem.boot_len (pa_cons (pv 1) pa_nil)) pa_nil))) (fun _ _ => rfl))), ?_⟩
    refine ⟨_, rfl, _, rfl, _, rfl, a, xs, rfl, .inl (SqL.of ha), st, lg, cl, xs.length, m, rfl, h0, ?_, hm, S, fun r H' hr' S' kp => ?_⟩
    · exact Nat.lt_of_le_of_lt h1 (by decide)
    · obtain ⟨x, hx⟩ : ∃ x, xs[r]? = some x := ⟨_, List.getElem?_eq_getElem hr'⟩
      exact ⟨a, xs, _, x, rfl, rfl, SqL.of (kp a _ ha has hal), atI_nat hx, k x H' (List.mem_of_getElem? hx) S' kp⟩
def spBegun (K : PySem.W.Frag) : Sp := fun vs H Q _ => ∃ (a : Addr) (ns : List Int), vs = [.ref a] ∧ SqL K H a (ns.map V.int) ∧ ns.length ≤ 63 ∧
  ∀ (st lg cl : Addr) (H' : Hp), StAt H' st lg cl 0 → Same H H' → H st = none → H lg = none → Q (.ref st) H'
theorem ok_begun : FnOk P w K mg base (L2.CX P w) 1 T._law_begun.a T._law_begun.d ["script"] (spBegun K) := by
  refine T._law_begun.f.okX sc__law_begun (fun vs H Q E h => ?_) (fun cdv A outer s H vs Q E hr h => ?_)
  · obtain ⟨a, ns, rfl, _⟩ := h
    rfl
  · obtain ⟨a, ns, rfl, hS, hl, k⟩ := h
    refine ⟨_, pss_cons (ps_setLc (i := 1) (own := [("cell", 3)]) (g := gName 3) (tt := tYes) rfl sc__law_begun.nd rfl rfl (sw_true rfl rfl rfl (by decide +kernel)) (pi_list (pv 0)) (blkOk_by (own := [("cell", 3)]) (N := ["script", "cells_here", "large", "cell"]) (sc := defScope s__law_begun) (by decide +kernel))
        (fun _ _ _ _ _ => pg_name (i := 3) sc__law_begun.nd rfl (Or.inl rfl)) (fun _ _ _ _ _ => pts_nil) (fun _ _ _ _ _ => pe_callB call_abs (by rfl) T.b_abs (by decide +kernel) (pa_cons (pv 3) pa_nil)))
      (pss_cons (ps_setLc (i := 2) (own := [("cell", 3)]) (g := gName 3) rfl sc__law_begun.nd rfl rfl (sw_true rfl rfl rfl (by decide +kernel)) (pi_list (pv 1)) (blkOk_by (own := [("cell", 3)]) (N := ["script", "cells_here", "large", "cell"]) (sc := defScope s__law_begun) (by decide +kernel))
        (fun _ _ _ _ _ => pg_name (i := 3) sc__law_begun.nd rfl (Or.inl rfl)) (fun _ _ _ _ _ => pts_one (pt_cmpR op_ge (pv 3) (pe_op op_pow pe_int pe_int) (nomark _))) (fun _ _ _ _ _ => pe_op op_sub (pv 3) (pe_op op_pow pe_int pe_int)))
      (pss_one (ps_ret (pe_disp (pps_cons pe_str (pv 2) (pps_cons pe_str (pv 1) (pps_cons pe_str pe_int (pps_cons pe_str pe_int pps_nil)))) (by rfl) (by rfl) (fun z => by cases z) (by decide))))), ?_⟩
    refine ⟨_, rfl, a, rfl, ⟨_, hS⟩, fun cl hcl => lc_list (K := K) (a := a) (xs := ns.map V.int) (fun i H' => H' cl = some (.lst ((ns.take i).map fun n => V.int (if n < 0 then -n else n))) ∧ Same H H') ⟨upd_same, Same.new hcl⟩ (fun i H' _ h => h.2.seq hS) ?_ ?_⟩
    · rintro i x H' hx ⟨h1, h2⟩
      obtain ⟨n, hn, rfl⟩ : ∃ n, ns[i]? = some n ∧ x = V.int n := by
        rw [List.getElem?_map] at hx
        cases e : ns[i]? with
        | none => rw [e] at hx; cases hx
        | some n => rw [e] at hx; exact ⟨n, rfl, (Option.some.inj hx).symm⟩
      refine ⟨rfl, ?_⟩
      dsimp only [tYes]
      rw [if_pos rfl]
      refine ⟨_, rfl, n, rfl, _, h1, ?_, ?_, ?_⟩
      · rw [List.length_map, List.length_take]
        exact Nat.lt_of_le_of_lt (Nat.min_le_right _ _) (Nat.lt_of_le_of_lt hl (by decide))
      · rw [upd_same, take_map_snoc _ _ _ _ hn]
      · intro b o e
        rw [upd_ne (ne_of_none e hcl)]
        exact h2 b o e
    rintro H1 ⟨h1, h2⟩
    rw [List.length_map, List.take_length] at h1
    have h1 : H1 cl = some (.lst ((ns.map fun n => if n < 0 then -n else n).map V.int)) := by rw [h1, List.map_map]; rfl
    have hlc : (ns.map fun n => if n < 0 then -n else n).length ≤ 63 := by rw [List.length_map]; exact hl
    generalize (ns.map fun n => if n < 0 then -n else n) = cells at h1 hlc
    refine ⟨_, rfl, cl, rfl, ⟨_, SqL.of h1⟩, fun lg hlg => lc_list (K := K) (a := cl) (xs := cells.map V.int) (fun i H' => H' lg = some (.lst ((((cells.take i).filter fun c => decide ((1000000000000000000 : Int) ≤ c)).map fun c => c - 1000000000000000000).map V.int)) ∧ Same H1 H') ⟨upd_same, Same.new hlg⟩ (fun i H' _ h => h.2.seq (SqL.of h1)) ?_ ?_⟩
    · rintro i x H' hx ⟨h3, h4⟩
      obtain ⟨n, hn, rfl⟩ : ∃ n, cells[i]? = some n ∧ x = V.int n := by
        rw [List.getElem?_map] at hx
        cases e : cells[i]? with
        | none => rw [e] at hx; cases hx
        | some n => rw [e] at hx; exact ⟨n, rfl, (Option.some.inj hx).symm⟩
      have et : cells.take (i + 1) = cells.take i ++ [n] := by rw [List.take_add_one, hn]; rfl
      refine ⟨rfl, _, rfl, _, _, rfl, rfl, ⟨by decide, by decide, by decide⟩, _, _, rfl, rfl, _, rfl, ?_⟩
      rw [show ((10 : Int) ^ (18 : Int).toNat) = 1000000000000000000 by decide, et, List.filter_append]
      by_cases c : (1000000000000000000 : Int) ≤ n
      · rw [show decide ((1000000000000000000 : Int) ≤ n) = true from decide_eq_true c]
        dsimp only
        rw [if_pos rfl]
        refine ⟨_, rfl, _, _, rfl, rfl, ⟨by decide, by decide, by decide⟩, _, _, rfl, rfl, _, h3, ?_, ?_, ?_⟩
        · rw [List.length_map, List.length_map]
          refine Nat.lt_of_le_of_lt (Nat.le_trans (List.length_filter_le _ _) ?_) (show 63 < sizeLine by decide)
          rw [List.length_take]
          omega
        · rw [upd_same]
          simp [c]
        · intro b o e
          rw [upd_ne (ne_of_none e hlg)]
          exact h4 b o e
      · rw [show decide ((1000000000000000000 : Int) ≤ n) = false from decide_eq_false c]
        dsimp only
        rw [if_neg Bool.false_ne_true]
        refine ⟨?_, h4⟩
        simpa [c] using h3
    rintro H2 ⟨h3, h4⟩
    intro st hst
    refine ⟨_, rfl, _, rfl, upd_same, stKv lg cl 0 0, rfl, (by show 4 ≤ 15; decide), ?_⟩
    rw [st_merge]
    have hne : cl ≠ lg := ne_of_none h1 hlg
    have h5 := h4 cl _ h1
    rw [List.length_map, List.take_length] at h3
    have hp : ∀ x ∈ (cells.filter fun c => decide ((1000000000000000000 : Int) ≤ c)).map (fun c => c - 1000000000000000000), 0 ≤ x := by
      intro x hx
      obtain ⟨c, hc, rfl⟩ := List.mem_map.mp hx
      have := (List.mem_filter.mp hc).2
      simp at this
      omega
    generalize (cells.filter fun c => decide ((1000000000000000000 : Int) ≤ c)).map (fun c => c - 1000000000000000000) = large at h3 hp
    have n1 : lg ≠ st := ne_of_none h3 hst
    have n2 : cl ≠ st := ne_of_none h5 hst
    have same : Same H (upd (upd H2 st (.dK [])) st (.dK (stKv lg cl 0 0))) := fun b o e => by
      have e2 := h4 b o (h2 b o e)
      rw [upd_upd, upd_ne (ne_of_none e2 hst)]
      exact e2
    refine k st lg cl _ ⟨large, cells, 0, 0, ⟨upd_same, ?_, ?_, hne.symm, hp, Int.le_refl _⟩, Nat.le_refl _⟩ same ((h2.trans h4).free hst) (h2.free hlg)
    · rw [upd_upd, upd_ne n1]
      exact h3
    · rw [upd_upd, upd_ne n2]
      exact h5
end
end K07
namespace K07
open PySem PySem.Spec PyProof.Rows L2 PySem.W LamX KA KW KU KL
/-! ### the class of shapes, its error -/
structure BadShapeT (P : Program) (w : World) (K : PySem.W.Frag) (mg : Str → Option Value) (R : Addr) where
  C : Addr
  fI : Addr
  cda : Addr
  cc : Addr
  e : Expr
  g : mg "BadShape" = some (.ref C)
  u : UpTxt P K C fI cda cc "BadShape.__init__" "part" e
  r : PySem.W.subIn K (.ref C) (.ref R) = some true
  x : ExcC K C
  sayN : Text P w fI cda cc "BadShape.__init__" "part" e .none
  sayS : ∀ (y : Str) (t : Tok), y.length ≤ 1000 → Text P w fI cda cc "BadShape.__init__" "part" e (.str y t)
theorem exd_exm {P : Program} {w : World} {K : PySem.W.Frag} {mg : Str → Option Value} (R : ReelT K mg) (S : BadShapeT P w K mg R.C) : PySem.W.exmOne K (.ref S.C) (.ref R.C) = some true := PySem.W.exm_ref R.b R.d R.t S.r
structure ShapeT (K : PySem.W.Frag) (mg : Str → Option Value) where
  C : Addr
  f : Addr
  d : FuncData
  F : Fun K "__init__" "Shape.__init__" s_Shape_init f d
  M : Mk K C f
  g : mg "Shape" = some (.ref C)
  i : C8.InsC K C
  n1 : NoAttr K C "height"
  n2 : NoAttr K C "width"
  n3 : NoAttr K C "low"
  n4 : NoAttr K C "high"
  n5 : NoAttr K C "middle"
  kI : PySem.W.kitOne K (.type "int") (.ref C) = some false
  kS : PySem.W.kitOne K (.type "str") (.ref C) = some false
  kN : PySem.W.kitOne K (.type "NoneType") (.ref C) = some false
def shapeFs (h w lo hi : Int) : List (Str × V) := [("height", .int h), ("width", .int w), ("low", .int lo), ("high", .int hi), ("middle", .int ((lo + hi) / 2))]
/-- x is a shape with the ends lo and hi -/
def ShV (C : Addr) (H : Hp) (x : V) (lo hi : Int) : Prop := ∃ (a dx : Addr) (h w : Int), x = .ref a ∧ H a = some (.ins C dx (shapeFs h w lo hi)) ∧ -512 ≤ lo ∧ lo ≤ hi ∧ hi ≤ 511
theorem ShV.keep {C : Addr} {H H' : Hp} {x : V} {lo hi : Int} (h : ShV C H x lo hi) (e : ∀ a o, x = .ref a → H a = some o → H' a = some o) : ShV C H' x lo hi := by
  obtain ⟨a, dx, h, w, rfl, h1, h2⟩ := h
  exact ⟨a, dx, h, w, rfl, e a _ rfl h1, h2⟩
/-- no shape, and of a kind that isinstance tells -/
inductive OddS : V → Prop where
  | int (i : Int) : OddS (.int i)
  | str (s : Str) : OddS (.str s)
  | non : OddS .non
theorem OddS.ty {K : PySem.W.Frag} {mg : Str → Option Value} {H : Hp} {x : V} (S : ShapeT K mg) (h : OddS x) : ∃ t, TyX K H x t ∧ PySem.W.kitOne K t (.ref S.C) = some false := by
  cases h with
  | int i => exact ⟨_, .base (.int i), S.kI⟩
  | str i => exact ⟨_, .base (.str i), S.kS⟩
  | non => exact ⟨_, .base .non, S.kN⟩
theorem ShV.ty {K : PySem.W.Frag} {mg : Str → Option Value} {H : Hp} {x : V} {lo hi : Int} (S : ShapeT K mg) (h : ShV S.C H x lo hi) : TyX K H x (.ref S.C) := by
  obtain ⟨a, dx, _, _, rfl, h1, _⟩ := h
  exact .base (.ins h1 S.i.cl S.i.ha S.i.hn S.i.htk S.i.hm)
def clipI (lo hi n : Int) : Int := if (if hi < n then hi else n) > lo then (if hi < n then hi else n) else lo
theorem clip_eq {lo hi n : Int} (h : lo ≤ hi) : clipI lo hi n = if n < lo then lo else if hi < n then hi else n := by
  unfold clipI
  split <;> (repeat' split) <;> omega
def levelI (r l : Int) : Int := if 0 ≤ r then ((if r < 0 then -r else r) + l) / (2 * l + 1) else -(((if r < 0 then -r else r) + l) / (2 * l + 1))
section
variable {P : Program} {w : World} {K : PySem.W.Frag} {mg : Str → Option Value} {base : Heap} (T : Top K mg) (SH : ShapeT K mg) (BE : BadShapeT P w K mg T.reel.C)
/-- clipped -/
def spClip : Sp := fun vs H Q _ => ∃ n lo hi : Int, vs = [.int n, .int lo, .int hi] ∧ Q (.int (clipI lo hi n)) H
theorem ok_clipped : FnOk P w K mg base (L2.CX P w) 1 T.clipped.a T.clipped.d ["number", "low", "high"] spClip := by
  refine T.clipped.f.okX sc_clipped (fun vs H Q E h => ?_) (fun cdv A outer s H vs Q E hr h => ?_)
  · obtain ⟨n, lo, hi, rfl, _⟩ := h
    rfl
  · obtain ⟨n, lo, hi, rfl, k⟩ := h
    refine ⟨_, pss_one (ps_ret (pe_callB (call_max2 rfl) (by rfl) T.b_max PyProof.Rows.boot_max (pa_cons (pv 1) (pa_cons (pe_callB (call_min2 rfl) (by rfl) T.b_min PyProof.Rows.boot_min (pa_cons (pv 0) (pa_cons (pv 2) pa_nil))) pa_nil)))), ?_⟩
    exact ⟨_, rfl, _, rfl, _, rfl, _, _, rfl, _, _, rfl, k⟩
def spStep : Sp := fun vs H Q _ => ∃ l : Int, vs = [.int l] ∧ 0 ≤ l ∧ l ≤ 1000 ∧ Q (.int (2 * l + 1)) H
theorem ok_step : FnOk P w K mg base (L2.CX P w) 1 T.step_of.a T.step_of.d ["loss"] spStep := by
  refine T.step_of.f.okX sc_step_of (fun vs H Q E h => ?_) (fun cdv A outer s H vs Q E hr h => ?_)
  · obtain ⟨l, rfl, _⟩ := h
    rfl
  · obtain ⟨l, rfl, h1, h2, k⟩ := h
    refine ⟨_, pss_one (ps_ret (pe_op op_add (pe_op op_mul pe_int (pv 0)) pe_int)), ?_⟩
    exact ⟨_, rfl, _, _, rfl, rfl, .inl ⟨by omega, by omega⟩, _, _, rfl, rfl, k⟩
def spLevelFor : Sp := fun vs H Q _ => ∃ r l : Int, vs = [.int r, .int l] ∧ 0 ≤ l ∧ l ≤ 1000 ∧ Q (.int (levelI r l)) H
theorem ok_level_for : FnOk P w K mg base (L2.CX P w) 2 T.level_for.a T.level_for.d ["rest", "loss"] spLevelFor := by
  refine T.level_for.f.okX sc_level_for (fun vs H Q E h => ?_) (fun cdv A outer s H vs Q E hr h => ?_)
  · obtain ⟨r, l, rfl, _⟩ := h
    rfl
  · obtain ⟨r, l, rfl, h1, h2, k⟩ := h
    refine ⟨_, pss_cons (ps_set (i := 2) sc_level_for.nd rfl (.inl rfl) (pe_op op_fdiv (pe_op op_add (pe_callB call_abs (by rfl) T.b_abs PyProof.Rows.boot_abs (pa_cons (pv 0) pa_nil)) (pv 1)) (pe_call (ok_step T) hr (by rfl) T.step_of.m T.step_of.f.kp (bd_step_of T) .nil passE (pa_cons (pv 1) pa_nil))))
      (pss_one (ps_ret (pe_ifExp (pt_cmpR op_ge (pv 0) pe_int (nomark _)) (pv 2) (pe_un un_neg (pv 2))))), ?_⟩
    refine ⟨_, rfl, _, rfl, _, rfl, _, _, rfl, rfl, _, rfl, l, rfl, h1, h2, _, _, rfl, rfl, ⟨by omega, by omega⟩, ?_⟩
    refine ⟨_, rfl, _, _, rfl, rfl, _, rfl, ?_⟩
    unfold levelI at k
    by_cases c : 0 ≤ r
    · rw [if_pos c] at k
      rw [decide_eq_true c]
      exact iteT ⟨_, rfl, k⟩
    · rw [if_neg c] at k
      rw [decide_eq_false c]
      exact iteF ⟨_, rfl, _, rfl, k⟩
theorem ok_check_loss : FnOk P w K mg base (L2.CX P w) 4 T.check_loss.a T.check_loss.d ["loss"] (spCheck K 0 7 T.BadLoss.C) := by
  refine T.check_loss.f.okX sc_check_loss (fun vs H Q E h => ?_) (fun cdv A outer s H vs Q E hr h => ?_)
  · obtain ⟨x, b, rfl, _⟩ := h
    rfl
  · obtain ⟨x, b, rfl, hp, k1, k2⟩ := h
    refine ⟨_, pss_one (ps_if (pt_not (pt_val (pe_call (ok_is_within T) (hr.mono (by decide)) (by rfl) T.is_within.m T.is_within.f.kp (bd_is_within T) .nil passE (pa_cons (pv 0) (pa_cons pe_int (pa_cons pe_int pa_nil))))))
      (pss_one (ps_raiseT rfl rfl T.BadLoss (by rfl) rfl (takes_of rfl rfl rfl rfl))) pss_nil), ?_⟩
    exact ⟨_, rfl, x, b, _, _, rfl, hp, _, rfl, iteNot k2 k1⟩
/-- a guess against a shape -/
def spCheckG (C CG : Addr) : Sp := fun vs H Q E => ∃ x y yb lo hi, vs = [x, y] ∧ ShV C H x lo hi ∧ Pl K H y yb ∧ (within y lo hi = true → Q .non H) ∧ (within y lo hi = false → E (.ref CG) none H)
theorem ok_check_guess : FnOk P w K mg base (L2.CX P w) 4 T.check_guess.a T.check_guess.d ["shape", "guess"] (spCheckG (K := K) SH.C T.BadGuess.C) := by
  refine T.check_guess.f.okX sc_check_guess (fun vs H Q E h => ?_) (fun cdv A outer s H vs Q E hr h => ?_)
  · obtain ⟨x, y, _, _, _, rfl, _⟩ := h
    rfl
  · obtain ⟨x, y, yb, lo, hi, rfl, ⟨a, dx, ht, wd, rfl, ha, _⟩, hp, k1, k2⟩ := h
    refine ⟨_, pss_one (ps_if (pt_not (pt_val (pe_call (ok_is_within T) (hr.mono (by decide)) (by rfl) T.is_within.m T.is_within.f.kp (bd_is_within T) .nil passE (pa_cons (pv 1) (pa_cons (pe_fld (pv 0) rfl) (pa_cons (pe_fld (pv 0) rfl) pa_nil))))))
      (pss_one (ps_raiseT rfl rfl T.BadGuess (by rfl) rfl (takes_of rfl rfl rfl rfl))) pss_nil), ?_⟩
    exact ⟨_, rfl, _, rfl, a, SH.C, dx, _, _, rfl, ha, SH.i.cl, SH.n3, rfl, _, rfl, a, SH.C, dx, _, _, rfl, ha, SH.i.cl, SH.n4, rfl, y, yb, _, _, rfl, hp, _, rfl, iteNot k2 k1⟩
/-- what comes of no shape -/
def noShape (CB : Addr) (H : Hp) (E : XK) : Prop := ∀ d, H d = none → E (.ref CB) (some d) (upd H d (.xd [("part", .non)]))
def spCheckS (C CB : Addr) : Sp := fun vs H Q E => ∃ x, vs = [x] ∧ ((∃ lo hi, ShV C H x lo hi ∧ Q .non H) ∨ (OddS x ∧ noShape CB H E))
theorem ok_check_shape : FnOk P w K mg base (L2.CX P w) 4 T.check_shape.a T.check_shape.d ["shape"] (spCheckS SH.C BE.C) := by
  refine T.check_shape.f.okX sc_check_shape (fun vs H Q E h => ?_) (fun cdv A outer s H vs Q E hr h => ?_)
  · obtain ⟨x, rfl, _⟩ := h
    rfl
  · obtain ⟨x, rfl, h⟩ := h
    refine ⟨_, pss_one (ps_if (pt_not (pt_val (pe_callB call_isi (by rfl) T.b_isinstance PyProof.Rows.boot_isinstance (pa_cons (pv 0) (pa_cons (pe_glob (v := .ref SH.C) (by rfl) SH.g rfl) pa_nil)))))
      (pss_one (ps_raiseUp rfl BE.u BE.g hr (takes_of rfl rfl rfl rfl) (pa_cons pe_non pa_nil) (by rfl))) pss_nil), ?_⟩
    rcases h with ⟨lo, hi, hs, k⟩ | ⟨ho, k⟩
    · exact ⟨_, rfl, x, _, _, _, true, rfl, .own _, hs.ty SH, SH.i.me, _, rfl, iteF k⟩
    · obtain ⟨t, ht, hk⟩ := ho.ty (H := H) SH
      refine ⟨_, rfl, x, _, _, _, false, rfl, .own _, ht, hk, _, rfl, iteT ⟨_, rfl, fun v' r => ?_, k⟩⟩
      cases r
      exact BE.sayN
end
end K07
namespace K07
open PySem PySem.Spec PyProof.Rows L2 PySem.W LamX KA KW KU KL
open Evl (pss_cut tCut)
section
variable {P : Program} {w : World} {K : PySem.W.Frag} {mg : Str → Option Value} {base : Heap} (T : Top K mg) (SH : ShapeT K mg) (BE : BadShapeT P w K mg T.reel.C)
/-! ### levels -/
def spLevelOf (K : PySem.W.Frag) (CN CL : Addr) : Sp := fun vs H Q E => ∃ x y xb yb, vs = [x, y] ∧ Pl K H x xb ∧ Pl K H y yb ∧ (within x (-32767) 32767 = false → E (.ref CN) none H) ∧
  (∀ r, x = .int r → -32767 ≤ r → r ≤ 32767 → (within y 0 7 = false → E (.ref CL) none H) ∧ ∀ l, y = .int l → 0 ≤ l → l ≤ 7 → Q (.int (levelI r l)) H)
theorem ok_level_of : FnOk P w K mg base (L2.CX P w) 6 T.level_of.a T.level_of.d ["rest", "loss"] (spLevelOf K T.BadNumber.C T.BadLoss.C) := by
  refine T.level_of.f.okX sc_level_of (fun vs H Q E h => ?_) (fun cdv A outer s H vs Q E hr h => ?_)
  · obtain ⟨x, y, _, _, rfl, _⟩ := h
    rfl
  · obtain ⟨x, y, xb, yb, rfl, hx, hy, k1, k2⟩ := h
    refine ⟨_, pss_cons (ps_expr (pe_call (ok_check_told T) (hr.mono (by decide)) (by rfl) T.check_told.m T.check_told.f.kp (bd_check_told T) .nil (passX rfl rfl rfl rfl) (pa_cons (pv 0) pa_nil)))
      (pss_cons (ps_expr (pe_call (ok_check_loss T) (hr.mono (by decide)) (by rfl) T.check_loss.m T.check_loss.f.kp (bd_check_loss T) .nil (passX rfl rfl rfl rfl) (pa_cons (pv 1) pa_nil)))
      (pss_one (ps_ret (pe_call (ok_level_for T) (hr.mono (by decide)) (by rfl) T.level_for.m T.level_for.f.kp (bd_level_for T) .nil passE (pa_cons (pv 0) (pa_cons (pv 1) pa_nil)))))), ?_⟩
    refine ⟨_, rfl, x, xb, rfl, hx, fun q => ?_, k1⟩
    obtain ⟨r, rfl, h1, h2⟩ := within_int q
    obtain ⟨k3, k4⟩ := k2 r rfl h1 h2
    refine ⟨_, rfl, y, yb, rfl, hy, fun q => ?_, k3⟩
    obtain ⟨l, rfl, h3, h4⟩ := within_int q
    exact ⟨_, rfl, _, rfl, r, l, rfl, h3, by omega, k4 l rfl h3 h4⟩
/-- a shape and a guess, then as told -/
def spShG (K : PySem.W.Frag) (C CB CG : Addr) (sp : Int → Int → Int → Hp → VK → XK → Prop) : V → V → Hp → VK → XK → Prop := fun x y H Q E => ∃ yb, Pl K H y yb ∧ ((OddS x ∧ noShape CB H E) ∨ ∃ lo hi, ShV C H x lo hi ∧ (within y lo hi = false → E (.ref CG) none H) ∧
  ∀ g, y = .int g → lo ≤ g → g ≤ hi → sp lo hi g H Q E)
def spRebuilt (K : PySem.W.Frag) (C CB CG CN CL : Addr) : Sp := fun vs H Q E => ∃ x y u v ub vb, vs = [x, y, u, v] ∧ Pl K H u ub ∧ Pl K H v vb ∧ spShG K C CB CG (fun lo hi g H Q E => (within u (-32767) 32767 = false → E (.ref CN) none H) ∧
  ∀ m, u = .int m → -32767 ≤ m → m ≤ 32767 → (within v 0 7 = false → E (.ref CL) none H) ∧ ∀ l, v = .int l → 0 ≤ l → l ≤ 7 → Q (.int (clipI lo hi (g + m * (2 * l + 1)))) H) x y H Q E
theorem ok_rebuilt : FnOk P w K mg base (L2.CX P w) 6 T.rebuilt.a T.rebuilt.d ["shape", "guess", "level", "loss"] (spRebuilt K SH.C BE.C T.BadGuess.C T.BadNumber.C T.BadLoss.C) := by
  refine T.rebuilt.f.okX sc_rebuilt (fun vs H Q E h => ?_) (fun cdv A outer s H vs Q E hr h => ?_)
  · obtain ⟨x, y, u, v, _, _, rfl, _⟩ := h
    rfl
  · obtain ⟨x, y, u, v, ub, vb, rfl, hu, hv, yb, hy, h⟩ := h
    refine ⟨_, pss_cons (ps_expr (pe_call (ok_check_shape T SH BE) (hr.mono (by decide)) (by rfl) T.check_shape.m T.check_shape.f.kp (bd_check_shape T) .nil (passX rfl rfl rfl rfl) (pa_cons (pv 0) pa_nil)))
      (pss_cons (ps_expr (pe_call (ok_check_guess T SH) (hr.mono (by decide)) (by rfl) T.check_guess.m T.check_guess.f.kp (bd_check_guess T) .nil (passX rfl rfl rfl rfl) (pa_cons (pv 0) (pa_cons (pv 1) pa_nil))))
      (pss_cons (ps_expr (pe_call (ok_check_told T) (hr.mono (by decide)) (by rfl) T.check_told.m T.check_told.f.kp (bd_check_told T) .nil (passX rfl rfl rfl rfl) (pa_cons (pv 2) pa_nil)))
      (pss_cons (ps_expr (pe_call (ok_check_loss T) (hr.mono (by decide)) (by rfl) T.check_loss.m T.check_loss.f.kp (bd_check_loss T) .nil (passX rfl rfl rfl rfl) (pa_cons (pv 3) pa_nil)))
      (pss_one (ps_ret (pe_call (ok_clipped T) (hr.mono (by decide)) (by rfl) T.clipped.m T.clipped.f.kp (bd_clipped T) .nil passE (pa_cons (pe_op op_add (pv 1) (pe_op op_mul (pv 2) (pe_call (ok_step T) (hr.mono (by decide)) (by rfl) T.step_of.m T.step_of.f.kp (bd_step_of T) .nil passE (pa_cons (pv 3) pa_nil))))
        (pa_cons (pe_fld (pv 0) rfl) (pa_cons (pe_fld (pv 0) rfl) pa_nil))))))))), ?_⟩
    rcases h with ⟨ho, k⟩ | ⟨lo, hi, hs, k1, k2⟩
    · exact ⟨_, rfl, x, rfl, .inr ⟨ho, k⟩⟩
    refine ⟨_, rfl, x, rfl, .inl ⟨lo, hi, hs, ?_⟩⟩
    refine ⟨_, rfl, _, rfl, x, y, yb, lo, hi, rfl, hs, hy, fun q => ?_, k1⟩
    obtain ⟨g, rfl, h1, h2⟩ := within_int q
    obtain ⟨k3, k4⟩ := k2 g rfl h1 h2
    refine ⟨_, rfl, u, ub, rfl, hu, fun q => ?_, k3⟩
    obtain ⟨m, rfl, h3, h4⟩ := within_int q
    obtain ⟨k5, k6⟩ := k4 m rfl h3 h4
    refine ⟨_, rfl, v, vb, rfl, hv, fun q => ?_, k5⟩
    obtain ⟨l, rfl, h5, h6⟩ := within_int q
    obtain ⟨a, dx, ht, wd, rfl, ha, _⟩ := hs
    exact ⟨_, rfl, _, rfl, _, rfl, l, rfl, h5, by omega, _, _, rfl, rfl, .inl ⟨by omega, by omega⟩, _, _, rfl, rfl, _, rfl, a, SH.C, dx, _, _, rfl, ha, SH.i.cl, SH.n3, rfl, _, rfl, a, SH.C, dx, _, _, rfl, ha, SH.i.cl, SH.n4, rfl, _, _, _, rfl, k6 l rfl h5 h6⟩
def leastI (lo g s l : Int) : Int := if s = lo then -32767 else -((g - s) / (2 * l + 1))
def greatI (hi g s l : Int) : Int := if s = hi then 32767 else (s - g) / (2 * l + 1)
/-- the span of levels, None or a pair -/
def SpanQ (a b : Int) (H : Hp) (Q : VK) : Prop := (a ≤ b → ∀ p, H p = none → Q (.ref p) (upd H p (.tup [.int a, .int b]))) ∧ (b < a → Q .non H)
def spLevels (K : PySem.W.Frag) (C CB CG CN CL : Addr) : Sp := fun vs H Q E => ∃ x y u v ub vb, vs = [x, y, u, v] ∧ Pl K H u ub ∧ Pl K H v vb ∧ spShG K C CB CG (fun lo hi g H Q E => (within u lo hi = false → E (.ref CN) none H) ∧
  ∀ m, u = .int m → lo ≤ m → m ≤ hi → (within v 0 7 = false → E (.ref CL) none H) ∧ ∀ l, v = .int l → 0 ≤ l → l ≤ 7 → SpanQ (leastI lo g m l) (greatI hi g m l) H Q) x y H Q E
theorem ok_levels_that : FnOk P w K mg base (L2.CX P w) 6 T.levels_that.a T.levels_that.d ["shape", "guess", "sample", "loss"] (spLevels K SH.C BE.C T.BadGuess.C T.BadNumber.C T.BadLoss.C) := by
  refine T.levels_that.f.okX sc_levels_that (fun vs H Q E h => ?_) (fun cdv A outer s H vs Q E hr h => ?_)
  · obtain ⟨x, y, u, v, _, _, rfl, _⟩ := h
    rfl
  · obtain ⟨x, y, u, v, ub, vb, rfl, hu, hv, yb, hy, h⟩ := h
    obtain ⟨t1, hc1⟩ := T.cMOST_TOLD
    refine ⟨_, pss_cons (ps_expr (pe_call (ok_check_shape T SH BE) (hr.mono (by decide)) (by rfl) T.check_shape.m T.check_shape.f.kp (bd_check_shape T) .nil (passX rfl rfl rfl rfl) (pa_cons (pv 0) pa_nil)))
      (pss_cons (ps_expr (pe_call (ok_check_guess T SH) (hr.mono (by decide)) (by rfl) T.check_guess.m T.check_guess.f.kp (bd_check_guess T) .nil (passX rfl rfl rfl rfl) (pa_cons (pv 0) (pa_cons (pv 1) pa_nil))))
      (pss_cons (ps_if (pt_not (pt_val (pe_call (ok_is_within T) (hr.mono (by decide)) (by rfl) T.is_within.m T.is_within.f.kp (bd_is_within T) .nil passE (pa_cons (pv 2) (pa_cons (pe_fld (pv 0) rfl) (pa_cons (pe_fld (pv 0) rfl) pa_nil))))))
        (pss_one (ps_raiseT rfl rfl T.BadNumber (by rfl) rfl (takes_of rfl rfl rfl rfl))) pss_nil)
      (pss_cons (ps_expr (pe_call (ok_check_loss T) (hr.mono (by decide)) (by rfl) T.check_loss.m T.check_loss.f.kp (bd_check_loss T) .nil (passX rfl rfl rfl rfl) (pa_cons (pv 3) pa_nil)))
      (pss_cons (ps_set (i := 4) sc_levels_that.nd rfl (.inl rfl) (pe_call (ok_step T) (hr.mono (by decide)) (by rfl) T.step_of.m T.step_of.f.kp (bd_step_of T) .nil passE (pa_cons (pv 3) pa_nil)))
      (pss_cons (ps_set (i := 5) sc_levels_that.nd rfl (.inl rfl) (pe_op op_fdiv (pe_op op_sub (pv 2) (pv 1)) (pv 4)))
      (pss_cons (ps_set (i := 6) sc_levels_that.nd rfl (.inl rfl) (pe_un un_neg (pe_op op_fdiv (pe_op op_sub (pv 1) (pv 2)) (pv 4))))
      (pss_cut (ps_if (pt_cmpR op_eq (pv 2) (pe_fld (pv 0) rfl) (nomark _)) (pss_one (ps_set (i := 6) sc_levels_that.nd rfl (.inl rfl) (pe_un un_neg (pe_glob (v := .int 32767) (by rfl) hc1 ⟨_, rfl⟩)))) pss_nil)
      (pss_cut (ps_if (pt_cmpR op_eq (pv 2) (pe_fld (pv 0) rfl) (nomark _)) (pss_one (ps_set (i := 5) sc_levels_that.nd rfl (.inl rfl) (pe_glob (v := .int 32767) (by rfl) hc1 ⟨_, rfl⟩))) pss_nil)
      (pss_one (ps_ret (pe_ifExp (pt_cmpR op_le (pv 6) (pv 5) (nomark _)) (pe_tup (pa_cons (pv 6) (pa_cons (pv 5) pa_nil))) pe_non))))))))))), ?_⟩
    rcases h with ⟨ho, k⟩ | ⟨lo, hi, hs, k1, k2⟩
    · exact ⟨_, rfl, x, rfl, .inr ⟨ho, k⟩⟩
    refine ⟨_, rfl, x, rfl, .inl ⟨lo, hi, hs, ?_⟩⟩
    refine ⟨_, rfl, _, rfl, x, y, yb, lo, hi, rfl, hs, hy, fun q => ?_, k1⟩
    obtain ⟨g, rfl, h1, h2⟩ := within_int q
    obtain ⟨k3, k4⟩ := k2 g rfl h1 h2
    obtain ⟨a, dx, ht, wd, rfl, ha, b1, b2, b3⟩ := hs
    refine ⟨_, rfl, _, rfl, a, SH.C, dx, _, _, rfl, ha, SH.i.cl, SH.n3, rfl, _, rfl, a, SH.C, dx, _, _, rfl, ha, SH.i.cl, SH.n4, rfl, u, ub, _, _, rfl, hu, _, rfl, iteNot k3 fun q => ?_⟩
    obtain ⟨m, rfl, h3, h4⟩ := within_int q
    obtain ⟨k5, k6⟩ := k4 m rfl h3 h4
    refine ⟨_, rfl, v, vb, rfl, hv, fun q => ?_, k5⟩
    obtain ⟨l, rfl, h5, h6⟩ := within_int q
    have k := k6 l rfl h5 h6
    refine ⟨_, rfl, l, rfl, h5, by omega, _, rfl, _, rfl, _, _, rfl, rfl, _, rfl, _, _, rfl, rfl, ⟨by omega, by omega⟩, _, rfl, _, rfl, _, _, rfl, rfl, _, rfl, _, _, rfl, rfl, ⟨by omega, by omega⟩, _, rfl, ?_⟩
    refine ⟨fun σ' H' => σ' = [some (.ref a), some (.int g), some (.int m), some (.int l), some (.int (2 * l + 1)), some (.int ((m - g) / (2 * l + 1))), some (.int (leastI lo g m l))] ∧ H' = H, ?_, ?_⟩
    · refine ⟨_, rfl, _, rfl, a, SH.C, dx, _, _, rfl, ha, SH.i.cl, SH.n3, rfl, rfl, _, rfl, ?_⟩
      by_cases c : m = lo
      · subst c
        rw [show decide (V.int m = V.int m) = true from decide_eq_true rfl]
        refine iteT ⟨_, rfl, ⟨?_, rfl⟩⟩
        unfold leastI
        rw [if_pos rfl]
        rfl
      · rw [show decide (V.int m = V.int lo) = false from decide_eq_false fun z => c (V.int.inj z)]
        refine iteF ⟨?_, rfl⟩
        unfold leastI
        rw [if_neg c]
        rfl
    rintro σ' H' ⟨rfl, rfl⟩
    refine ⟨fun σ' H'' => σ' = [some (.ref a), some (.int g), some (.int m), some (.int l), some (.int (2 * l + 1)), some (.int (greatI hi g m l)), some (.int (leastI lo g m l))] ∧ H'' = H', ?_, ?_⟩
    · refine ⟨_, rfl, _, rfl, a, SH.C, dx, _, _, rfl, ha, SH.i.cl, SH.n4, rfl, rfl, _, rfl, ?_⟩
      by_cases c : m = hi
      · subst c
        rw [show decide (V.int m = V.int m) = true from decide_eq_true rfl]
        refine iteT ⟨?_, rfl⟩
        unfold greatI
        rw [if_pos rfl]
        rfl
      · rw [show decide (V.int m = V.int hi) = false from decide_eq_false fun z => c (V.int.inj z)]
        refine iteF ⟨?_, rfl⟩
        unfold greatI
        rw [if_neg c]
    rintro σ' H'' ⟨rfl, rfl⟩
    refine ⟨_, rfl, _, rfl, _, _, rfl, rfl, _, rfl, ?_⟩
    obtain ⟨k7, k8⟩ := k
    by_cases c : leastI lo g m l ≤ greatI hi g m l
    · rw [decide_eq_true c]
      exact iteT ⟨_, rfl, _, rfl, (by show 2 ≤ sizeLine; decide), k7 c⟩
    · rw [decide_eq_false c]
      exact iteF (k8 (by omega))
/-! ### a shape is made -/
def spInit (C : Addr) : Sp := fun vs H Q _ => ∃ (a dx : Addr) (h w lo hi : Int), vs = [.ref a, .int h, .int w, .int lo, .int hi] ∧ 1 ≤ h ∧ h ≤ 16 ∧ 1 ≤ w ∧ w ≤ 16 ∧ -512 ≤ lo ∧ lo ≤ hi ∧ hi ≤ 511 ∧ H a = some (.ins C dx []) ∧
  ∀ H', H' a = some (.ins C dx (shapeFs h w lo hi)) → (∀ b, b ≠ a → H' b = H b) → Q .non H'
include T BE in
theorem ok_init : FnOk P w K mg base (L2.CX P w) 4 SH.f SH.d ["self", "height", "width", "low", "high"] (spInit SH.C) := by
  refine SH.F.okX sc_Shape_init (fun vs H Q E h => ?_) (fun cdv A outer s H vs Q E hr h => ?_)
  · obtain ⟨a, dx, ht, wd, lo, hi, rfl, _⟩ := h
    rfl
  · obtain ⟨a, dx, ht, wd, lo, hi, rfl, h1, h2, h3, h4, h5, h6, h7, ha, k⟩ := h
    obtain ⟨t1, hc1⟩ := T.cMOST_SPOTS
    obtain ⟨t2, hc2⟩ := T.cLOWEST
    obtain ⟨t3, hc3⟩ := T.cHIGHEST
    refine ⟨_, pss_cons (ps_if (pt_not (pt_val (pe_call (ok_is_within T) (hr.mono (by decide)) (by rfl) T.is_within.m T.is_within.f.kp (bd_is_within T) .nil passE (pa_cons (pv 1) (pa_cons pe_int (pa_cons (pe_glob (v := .int 16) (by rfl) hc1 ⟨_, rfl⟩) pa_nil))))))
        (pss_one (ps_raiseUp rfl BE.u BE.g hr (takes_of rfl rfl rfl rfl) (pa_cons pe_str pa_nil) (by rfl))) pss_nil)
      (pss_cons (ps_if (pt_not (pt_val (pe_call (ok_is_within T) (hr.mono (by decide)) (by rfl) T.is_within.m T.is_within.f.kp (bd_is_within T) .nil passE (pa_cons (pv 2) (pa_cons pe_int (pa_cons (pe_glob (v := .int 16) (by rfl) hc1 ⟨_, rfl⟩) pa_nil))))))
        (pss_one (ps_raiseUp rfl BE.u BE.g hr (takes_of rfl rfl rfl rfl) (pa_cons pe_str pa_nil) (by rfl))) pss_nil)
      (pss_cons (ps_if (pt_not (pt_val (pe_call (ok_is_within T) (hr.mono (by decide)) (by rfl) T.is_within.m T.is_within.f.kp (bd_is_within T) .nil passE (pa_cons (pv 3) (pa_cons (pe_glob (v := .int (-512)) (by rfl) hc2 ⟨_, rfl⟩) (pa_cons (pe_glob (v := .int 511) (by rfl) hc3 ⟨_, rfl⟩) pa_nil))))))
        (pss_one (ps_raiseUp rfl BE.u BE.g hr (takes_of rfl rfl rfl rfl) (pa_cons pe_str pa_nil) (by rfl))) pss_nil)
      (pss_cons (ps_if (pt_not (pt_val (pe_call (ok_is_within T) (hr.mono (by decide)) (by rfl) T.is_within.m T.is_within.f.kp (bd_is_within T) .nil passE (pa_cons (pv 4) (pa_cons (pv 3) (pa_cons (pe_glob (v := .int 511) (by rfl) hc3 ⟨_, rfl⟩) pa_nil))))))
        (pss_one (ps_raiseUp rfl BE.u BE.g hr (takes_of rfl rfl rfl rfl) (pa_cons pe_str pa_nil) (by rfl))) pss_nil)
      (pss_cons (ps_fld (pv 0) (pv 1) rfl) (pss_cons (ps_fld (pv 0) (pv 2) rfl) (pss_cons (ps_fld (pv 0) (pv 3) rfl) (pss_cons (ps_fld (pv 0) (pv 4) rfl)
      (pss_one (ps_fld (pv 0) (pe_op op_fdiv (pe_op op_add (pv 3) (pv 4)) pe_int) rfl))))))))), ?_⟩
    have in_range : ∀ {i lo hi : Int}, lo ≤ i → i ≤ hi → within (.int i) lo hi = true := fun h1 h2 => by simp [within, h1, h2]
    refine ⟨_, rfl, _, true, _, _, rfl, .int ht, _, rfl, ?_⟩
    rw [in_range h1 h2]
    refine iteF ⟨_, rfl, _, true, _, _, rfl, .int wd, _, rfl, ?_⟩
    rw [in_range h3 h4]
    refine iteF ⟨_, rfl, _, true, _, _, rfl, .int lo, _, rfl, ?_⟩
    rw [in_range h5 (by omega)]
    refine iteF ⟨_, rfl, _, rfl, _, true, _, _, rfl, .int hi, _, rfl, ?_⟩
    rw [in_range h6 h7]
    refine iteF ⟨_, rfl, _, rfl, a, SH.C, dx, [], rfl, ha, SH.i.cl, SH.n1, by decide, _, rfl, _, rfl, a, SH.C, dx, _, rfl, upd_same, SH.i.cl, SH.n2, (by show 1 < 1000; decide), _, rfl, _, rfl, a, SH.C, dx, _, rfl, upd_same, SH.i.cl, SH.n3, (by show 2 < 1000; decide),
      _, rfl, _, rfl, a, SH.C, dx, _, rfl, upd_same, SH.i.cl, SH.n4, (by show 3 < 1000; decide), _, rfl, _, rfl, _, _, rfl, rfl, _, _, rfl, rfl, ⟨by decide, by decide⟩, _, rfl, a, SH.C, dx, _, rfl, upd_same, SH.i.cl, SH.n5, (by show 4 < 1000; decide), ?_⟩
    refine k _ upd_same fun b hb => ?_
    rw [upd_ne hb, upd_ne hb, upd_ne hb, upd_ne hb, upd_ne hb]
end
end K07
namespace K07
open PySem PySem.Spec PyProof.Rows L2 PySem.W LamX KA KW KU KL
open Evl (pss_cut tCut)
/-! ### the law's scope: a dict of sides and ends -/
abbrev kTall : Key := Sum.inr "tall"
abbrev kWide : Key := Sum.inr "wide"
abbrev kLeast : Key := Sum.inr "least"
abbrev kMost : Key := Sum.inr "most"
def scKv (t w lo hi : Int) : List (Key × V) := [(kTall, .int t), (kWide, .int w), (kLeast, .int lo), (kMost, .int hi)]
section
variable {t w lo hi : Int}
theorem kTW : ¬ kTall = kWide := by decide +kernel
theorem kTL : ¬ kTall = kLeast := by decide +kernel
theorem kTM : ¬ kTall = kMost := by decide +kernel
theorem kWL : ¬ kWide = kLeast := by decide +kernel
theorem kWM : ¬ kWide = kMost := by decide +kernel
theorem kLM : ¬ kLeast = kMost := by decide +kernel
theorem sc_tall : valV (scKv t w lo hi) kTall = some (.int t) := valV_pos rfl
theorem sc_wide : valV (scKv t w lo hi) kWide = some (.int w) := (valV_neg kTW).trans (valV_pos rfl)
theorem sc_least : valV (scKv t w lo hi) kLeast = some (.int lo) := (valV_neg kTL).trans ((valV_neg kWL).trans (valV_pos rfl))
theorem sc_most : valV (scKv t w lo hi) kMost = some (.int hi) := (valV_neg kTM).trans ((valV_neg kWM).trans ((valV_neg kLM).trans (valV_pos rfl)))
theorem sc_merge : mergeK [] (scKv t w lo hi) = scKv t w lo hi := by
  unfold scKv mergeK
  simp only [List.foldl_cons, List.foldl_nil]
  rw [putK_new (kvs := []) _ valV_nil, List.nil_append]
  rw [putK_new (k := kWide) _ ((valV_neg (show ¬ kTall = kWide from kTW)).trans valV_nil), List.cons_append, List.nil_append]
  rw [putK_new (k := kLeast) _ ((valV_neg (show ¬ kTall = kLeast from kTL)).trans ((valV_neg (show ¬ kWide = kLeast from kWL)).trans valV_nil)), List.cons_append, List.cons_append, List.nil_append]
  rw [putK_new (k := kMost) _ ((valV_neg (show ¬ kTall = kMost from kTM)).trans ((valV_neg (show ¬ kWide = kMost from kWM)).trans ((valV_neg (show ¬ kLeast = kMost from kLM)).trans valV_nil)))]
  rfl
end
/-- x is such a dict -/
structure ScV (H : Hp) (a : Addr) (t w lo hi : Int) : Prop where
  d : H a = some (.dK (scKv t w lo hi))
  t1 : 1 ≤ t
  t2 : t ≤ 16
  w1 : 1 ≤ w
  w2 : w ≤ 16
  l1 : -512 ≤ lo
  l2 : lo ≤ hi
  l3 : hi ≤ 511
theorem ScV.keep {H H' : Hp} {a : Addr} {t w lo hi : Int} (h : ScV H a t w lo hi) (e : ∀ o, H a = some o → H' a = some o) : ScV H' a t w lo hi := { h with d := e _ h.d }
def withI (lo hi n : Int) : Int := if hi < (if lo > n then lo else n) then hi else (if lo > n then lo else n)
theorem with_eq {lo hi n : Int} (h : lo ≤ hi) : withI lo hi n = if n < lo then lo else if hi < n then hi else n := by
  unfold withI
  split <;> (repeat' split) <;> omega
section
variable {P : Program} {w : World} {K : PySem.W.Frag} {mg : Str → Option Value} {base : Heap} (T : Top K mg) (SH : ShapeT K mg) (BE : BadShapeT P w K mg T.reel.C)
def spWithinL : Sp := fun vs H Q _ => ∃ (a : Addr) (t w lo hi n : Int), vs = [.ref a, .int n] ∧ ScV H a t w lo hi ∧ Q (.int (withI lo hi n)) H
theorem ok_lwithin : FnOk P w K mg base (L2.CX P w) 1 T._law_within.a T._law_within.d ["scope", "item"] spWithinL := by
  refine T._law_within.f.okX sc__law_within (fun vs H Q E h => ?_) (fun cdv A outer s H vs Q E hr h => ?_)
  · obtain ⟨a, t, w, lo, hi, n, rfl, _⟩ := h
    rfl
  · obtain ⟨a, t, w, lo, hi, n, rfl, h, k⟩ := h
    have hu := hu_of hr
    refine ⟨_, pss_one (ps_ret (pe_callB (call_min2 rfl) (by rfl) T.b_min PyProof.Rows.boot_min (pa_cons (pe_callB (call_max2 rfl) (by rfl) T.b_max PyProof.Rows.boot_max (pa_cons (pv 1) (pa_cons (pe_dget hu (pv 0) pe_str (fun _ _ => rfl)) pa_nil))) (pa_cons (pe_dget hu (pv 0) pe_str (fun _ _ => rfl)) pa_nil)))), ?_⟩
    exact ⟨_, rfl, _, rfl, a, _, rfl, (show DGet H a (kV kLeast) _ from sc_least ▸ DGet.k h.d), _, _, rfl, _, rfl, a, _, rfl, (show DGet H a (kV kMost) _ from sc_most ▸ DGet.k h.d), _, _, rfl, k⟩
def spGrain : Sp := fun vs H Q _ => ∃ (st lg cl a : Addr) (t w lo hi : Int) (m : Nat), vs = [.ref st, .ref a] ∧ ScV H a t w lo hi ∧ m ≤ 990000 ∧ StAt H st lg cl m ∧
  ∀ (i : Int) (H' : Hp), lo ≤ i → i ≤ hi → StAt H' st lg cl (m + 1) → Kp st lg H H' → Q (.int i) H'
theorem ok_grain : FnOk P w K mg base (L2.CX P w) 2 T._law_grain.a T._law_grain.d ["state", "scope"] spGrain := by
  refine T._law_grain.f.okX sc__law_grain (fun vs H Q E h => ?_) (fun cdv A outer s H vs Q E hr h => ?_)
  · obtain ⟨st, lg, cl, a, t, w, lo, hi, m, rfl, _⟩ := h
    rfl
  · obtain ⟨st, lg, cl, a, t, w, lo, hi, m, rfl, h, hm, S, k⟩ := h
    have hu := hu_of hr
    have b1 := h.l1
    have b2 := h.l2
    have b3 := h.l3
    refine ⟨_, pss_one (ps_ret (pe_op op_add (pe_dget hu (pv 1) pe_str (fun _ _ => rfl)) (pe_call (ok_draw T) hr (by rfl) T._law_draw.m T._law_draw.f.kp (bd__law_draw T) .nil passE (pa_cons (pv 0) (pa_cons (pe_op op_add (pe_op op_sub (pe_dget hu (pv 1) pe_str (fun _ _ => rfl)) (pe_dget hu (pv 1) pe_str (fun _ _ => rfl))) pe_int) pa_nil))))), ?_⟩
    obtain ⟨n, hn⟩ : ∃ n : Nat, hi - lo + 1 = n := ⟨(hi - lo + 1).toNat, by omega⟩
    refine ⟨_, rfl, a, _, rfl, (show DGet H a (kV kLeast) _ from sc_least ▸ DGet.k h.d), _, rfl, _, rfl, a, _, rfl, (show DGet H a (kV kMost) _ from sc_most ▸ DGet.k h.d), _, rfl, a, _, rfl, (show DGet H a (kV kLeast) _ from sc_least ▸ DGet.k h.d), _, _, rfl, rfl, _, _, rfl, rfl, ?_⟩
    exact ⟨st, lg, cl, n, m, (by show [V.ref st, V.int (hi - lo + 1)] = _; rw [hn]), by omega, Nat.lt_of_le_of_lt (show n ≤ 1024 by omega) (by decide), by omega, S, fun r H' hr' S' kp => ⟨_, _, rfl, rfl, k _ H' (by omega) (by omega) S' kp⟩⟩
def spLLevel : Sp := fun vs H Q _ => ∃ r l : Int, vs = [.int r, .int l] ∧ 0 ≤ l ∧ l ≤ 1000 ∧ Q (.int (levelI r l)) H
theorem ok_llevel : FnOk P w K mg base (L2.CX P w) 1 T._law_level.a T._law_level.d ["item", "slack"] spLLevel := by
  refine T._law_level.f.okX sc__law_level (fun vs H Q E h => ?_) (fun cdv A outer s H vs Q E hr h => ?_)
  · obtain ⟨r, l, rfl, _⟩ := h
    rfl
  · obtain ⟨r, l, rfl, h1, h2, k⟩ := h
    refine ⟨_, pss_cons (ps_set (i := 2) sc__law_level.nd rfl (.inl rfl) (pe_op op_fdiv (pe_op op_add (pe_callB call_abs (by rfl) T.b_abs PyProof.Rows.boot_abs (pa_cons (pv 0) pa_nil)) (pv 1)) (pe_op op_add (pe_op op_mul pe_int (pv 1)) pe_int)))
      (pss_one (ps_ret (pe_ifExp (pt_cmpR op_ge (pv 0) pe_int (nomark _)) (pv 2) (pe_op op_sub pe_int (pv 2))))), ?_⟩
    refine ⟨_, rfl, _, rfl, _, rfl, _, _, rfl, rfl, _, rfl, _, _, rfl, rfl, .inl ⟨by omega, by omega⟩, _, _, rfl, rfl, _, _, rfl, rfl, ⟨by omega, by omega⟩, ?_⟩
    refine ⟨_, rfl, _, _, rfl, rfl, _, rfl, ?_⟩
    unfold levelI at k
    by_cases c : 0 ≤ r
    · rw [if_pos c] at k
      rw [decide_eq_true c]
      exact iteT ⟨_, rfl, k⟩
    · rw [if_neg c] at k
      rw [decide_eq_false c]
      exact iteF ⟨_, rfl, _, _, rfl, rfl, q_int k (by omega)⟩
def spBuilt : Sp := fun vs H Q _ => ∃ (a : Addr) (t w lo hi g n l : Int), vs = [.ref a, .int g, .int n, .int l] ∧ ScV H a t w lo hi ∧ 0 ≤ l ∧ l ≤ 1000 ∧ Q (.int (withI lo hi (g + n * (2 * l + 1)))) H
theorem ok_built : FnOk P w K mg base (L2.CX P w) 2 T._law_built.a T._law_built.d ["scope", "aim", "item", "slack"] spBuilt := by
  refine T._law_built.f.okX sc__law_built (fun vs H Q E h => ?_) (fun cdv A outer s H vs Q E hr h => ?_)
  · obtain ⟨a, t, w, lo, hi, g, n, l, rfl, _⟩ := h
    rfl
  · obtain ⟨a, t, w, lo, hi, g, n, l, rfl, h, h1, h2, k⟩ := h
    refine ⟨_, pss_one (ps_ret (pe_call (ok_lwithin T) hr (by rfl) T._law_within.m T._law_within.f.kp (bd__law_within T) .nil passE (pa_cons (pv 0) (pa_cons (pe_op op_add (pv 1) (pe_op op_mul (pv 2) (pe_op op_add (pe_op op_mul pe_int (pv 3)) pe_int))) pa_nil)))), ?_⟩
    exact ⟨_, rfl, _, rfl, _, rfl, _, rfl, _, _, rfl, rfl, .inl ⟨by omega, by omega⟩, _, _, rfl, rfl, _, _, rfl, rfl, .inr ⟨by omega, by omega⟩, _, _, rfl, rfl, a, t, w, lo, hi, _, rfl, h, k⟩
/-- a shape by the scope -/
def spForm (C : Addr) : Sp := fun vs H Q _ => ∃ (a : Addr) (t w lo hi : Int), vs = [.ref a] ∧ ScV H a t w lo hi ∧ ∀ (x : Addr) (H' : Hp), ShV C H' (.ref x) lo hi → H x = none → Same H H' → (∀ tb, H' x ≠ some (.tbl tb)) → Q (.ref x) H'
include BE in
theorem ok_form : FnOk P w K mg base (L2.CX P w) 7 T._law_form.a T._law_form.d ["scope"] (spForm SH.C) := by
  refine T._law_form.f.okX sc__law_form (fun vs H Q E h => ?_) (fun cdv A outer s H vs Q E hr h => ?_)
  · obtain ⟨a, t, w, lo, hi, rfl, _⟩ := h
    rfl
  · obtain ⟨a, t, w, lo, hi, rfl, h, k⟩ := h
    have hu := hu_of hr
    refine ⟨_, pss_one (ps_ret (pe_make SH.M (ok_init T SH BE) (hr.mono (by decide)) (by rfl) SH.g (SH.F.binds fun _ _ _ _ _ _ us hl => match us, hl with | [_, _, _, _, _], _ => rfl) .nil passE (pa_cons (pe_dget hu (pv 0) pe_str (fun _ _ => rfl)) (pa_cons (pe_dget hu (pv 0) pe_str (fun _ _ => rfl)) (pa_cons (pe_dget hu (pv 0) pe_str (fun _ _ => rfl)) (pa_cons (pe_dget hu (pv 0) pe_str (fun _ _ => rfl)) pa_nil)))))), ?_⟩
    refine ⟨_, rfl, a, _, rfl, (show DGet H a (kV kTall) _ from sc_tall ▸ DGet.k h.d), _, rfl, a, _, rfl, (show DGet H a (kV kWide) _ from sc_wide ▸ DGet.k h.d), _, rfl, a, _, rfl, (show DGet H a (kV kLeast) _ from sc_least ▸ DGet.k h.d), _, rfl, a, _, rfl, (show DGet H a (kV kMost) _ from sc_most ▸ DGet.k h.d), fun x dx hx hdx ne => ?_⟩
    refine ⟨x, dx, t, w, lo, hi, rfl, h.t1, h.t2, h.w1, h.w2, h.l1, h.l2, h.l3, upd_same, fun H' e1 e2 => ⟨rfl, k x H' ⟨x, dx, t, w, rfl, e1, h.l1, h.l2, h.l3⟩ hx (fun b o e => ?_) (fun tb z => ?_)⟩⟩
    · have n1 : b ≠ x := ne_of_none e hx
      have n2 : b ≠ dx := ne_of_none e hdx
      rw [e2 b n1, upd_ne n1, upd_ne n2]
      exact e
    · rw [e1] at z
      cases z
end
end K07
namespace K07
open PySem PySem.Spec PyProof.Rows L2 PySem.W LamX KA KW KU KL
open Evl (pss_cut tCut)
/-! ### the span of levels, by going through the ones near -/
section
variable {lo hi g s l n : Int}
theorem le_iff (hl : 0 ≤ l) : n ≤ (s - g) / (2 * l + 1) ↔ n * (2 * l + 1) ≤ s - g := Int.le_ediv_iff_mul_le (by omega)
theorem ge_iff (hl : 0 ≤ l) : -((g - s) / (2 * l + 1)) ≤ n ↔ s - g ≤ n * (2 * l + 1) := by
  have e : -n ≤ (g - s) / (2 * l + 1) ↔ -n * (2 * l + 1) ≤ g - s := Int.le_ediv_iff_mul_le (by omega)
  rw [Int.neg_mul] at e
  constructor
  · intro h
    have := e.mp (by omega)
    omega
  · intro h
    have := e.mpr (by omega)
    omega
theorem with_iff (h1 : lo ≤ s) (h2 : s ≤ hi) (x : Int) : withI lo hi x = s ↔ (s = lo ∨ s ≤ x) ∧ (s = hi ∨ x ≤ s) := by
  rw [with_eq (by omega)]
  split <;> (repeat' split) <;> omega
theorem built_iff (hl : 0 ≤ l) (h1 : lo ≤ s) (h2 : s ≤ hi) (n1 : -32767 ≤ n) (n2 : n ≤ 32767) : withI lo hi (g + n * (2 * l + 1)) = s ↔ leastI lo g s l ≤ n ∧ n ≤ greatI hi g s l := by
  rw [with_iff h1 h2]
  have e1 := ge_iff (g := g) (s := s) (n := n) hl
  have e2 := le_iff (g := g) (s := s) (n := n) hl
  unfold leastI greatI
  generalize n * (2 * l + 1) = y at e1 e2 ⊢
  generalize (g - s) / (2 * l + 1) = c at e1 ⊢
  generalize (s - g) / (2 * l + 1) = d at e2 ⊢
  split <;> split <;> constructor <;> intro h <;> omega
theorem near_least (hl : 0 ≤ l) : (s - g) / (2 * l + 1) ≤ -((g - s) / (2 * l + 1)) ∧ -((g - s) / (2 * l + 1)) ≤ (s - g) / (2 * l + 1) + 1 := by
  have p : (0 : Int) < 2 * l + 1 := by omega
  have a := (le_iff (n := (s - g) / (2 * l + 1)) (g := g) (s := s) hl).mp (Int.le_refl _)
  have b := (ge_iff (n := -((g - s) / (2 * l + 1))) (g := g) (s := s) hl).mp (Int.le_refl _)
  constructor
  · exact Int.le_of_mul_le_mul_right (Int.le_trans a b) p
  · refine (ge_iff hl).mpr ?_
    have c : ¬ ((s - g) / (2 * l + 1) + 1) * (2 * l + 1) ≤ s - g := fun h => by
      have := (le_iff (g := g) (s := s) hl).mpr h
      omega
    omega
theorem near_small (hl : 0 ≤ l) (h1 : -1023 ≤ s - g) (h2 : s - g ≤ 1023) : -1023 ≤ (s - g) / (2 * l + 1) ∧ (s - g) / (2 * l + 1) ≤ 1023 := by
  have p : (0 : Int) < 2 * l + 1 := by omega
  constructor
  · exact (le_iff hl).mpr (by omega)
  · have : (s - g) / (2 * l + 1) < 1024 := (Int.ediv_lt_iff_lt_mul p).mpr (by omega)
    omega
def cand (q : Int) : List Int := [q - 3, q - 2, q - 1, q, q + 1, q + 2, q + 3, -32767, -32766, 32766, 32767]
theorem cand_small {q : Int} (h1 : -1023 ≤ q) (h2 : q ≤ 1023) : ∀ n ∈ cand q, -32767 ≤ n ∧ n ≤ 32767 := fun n hn => by
  simp only [cand, List.mem_cons, List.not_mem_nil, or_false] at hn
  rcases hn with h | h | h | h | h | h | h | h | h | h | h <;> subst h <;> constructor <;> omega
def goods (lo hi g s l : Int) : List Int := (cand ((s - g) / (2 * l + 1))).filter fun n => decide (withI lo hi (g + n * (2 * l + 1)) = s)
theorem goods_mem (hl : 0 ≤ l) (h1 : lo ≤ s) (h2 : s ≤ hi) (h3 : -1023 ≤ s - g) (h4 : s - g ≤ 1023) : ∀ n, n ∈ goods lo hi g s l ↔ n ∈ cand ((s - g) / (2 * l + 1)) ∧ leastI lo g s l ≤ n ∧ n ≤ greatI hi g s l := fun n => by
  obtain ⟨q1, q2⟩ := near_small (g := g) (s := s) hl h3 h4
  unfold goods
  rw [List.mem_filter]
  constructor
  · rintro ⟨a, b⟩
    obtain ⟨n1, n2⟩ := cand_small q1 q2 n a
    exact ⟨a, (built_iff hl h1 h2 n1 n2).mp (by simpa using b)⟩
  · rintro ⟨a, b⟩
    obtain ⟨n1, n2⟩ := cand_small q1 q2 n a
    exact ⟨a, by simpa using (built_iff hl h1 h2 n1 n2).mpr b⟩
theorem least_cand (hl : 0 ≤ l) : leastI lo g s l ∈ cand ((s - g) / (2 * l + 1)) := by
  unfold leastI
  split
  · simp [cand]
  · obtain ⟨a, b⟩ := near_least (g := g) (s := s) hl
    have : -((g - s) / (2 * l + 1)) = (s - g) / (2 * l + 1) ∨ -((g - s) / (2 * l + 1)) = (s - g) / (2 * l + 1) + 1 := by omega
    rcases this with h | h <;> rw [h] <;> simp [cand]
theorem great_cand : greatI hi g s l ∈ cand ((s - g) / (2 * l + 1)) := by
  unfold greatI
  split <;> simp [cand]
/-- sorted, the first is the least level and the last the greatest -/
theorem sorted_ends {ns : List Int} (hl : 0 ≤ l) (h1 : lo ≤ s) (h2 : s ≤ hi) (h3 : -1023 ≤ s - g) (h4 : s - g ≤ 1023) (p : ns.Perm (goods lo hi g s l)) (r : ns.Pairwise (· ≤ ·)) (c : leastI lo g s l ≤ greatI hi g s l) :
    ns[0]? = some (leastI lo g s l) ∧ ∃ r', ns = r' ++ [greatI hi g s l] := by
  have mem := goods_mem (lo := lo) (hi := hi) (g := g) (s := s) hl h1 h2 h3 h4
  have a : leastI lo g s l ∈ ns := p.mem_iff.mpr ((mem _).mpr ⟨least_cand hl, Int.le_refl _, c⟩)
  have b : greatI hi g s l ∈ ns := p.mem_iff.mpr ((mem _).mpr ⟨great_cand, c, Int.le_refl _⟩)
  have bd : ∀ n ∈ ns, leastI lo g s l ≤ n ∧ n ≤ greatI hi g s l := fun n hn => ((mem n).mp (p.mem_iff.mp hn)).2
  constructor
  · cases ns with
    | nil => cases a
    | cons x t =>
      have hx := (bd x List.mem_cons_self).1
      rcases List.mem_cons.mp a with e | e
      · rw [e]
        rfl
      · have := (List.pairwise_cons.mp r).1 _ e
        have : x = leastI lo g s l := by omega
        rw [this]
        rfl
  · have ne : ns ≠ [] := fun z => by
      rw [z] at a
      cases a
    refine ⟨ns.dropLast, ?_⟩
    have e := List.dropLast_concat_getLast ne
    have last : ns.getLast ne = greatI hi g s l := by
      have h5 := (bd _ (List.getLast_mem ne)).2
      have h6 : greatI hi g s l ≤ ns.getLast ne := by
        rw [← e] at b r
        rcases List.mem_append.mp b with z | z
        · exact (List.pairwise_append.mp r).2.2 _ z _ List.mem_cons_self
        · rw [List.mem_singleton.mp z]
          exact Int.le_refl _
      omega
    rw [← last]
    exact e.symm
theorem goods_none (hl : 0 ≤ l) (h1 : lo ≤ s) (h2 : s ≤ hi) (h3 : -1023 ≤ s - g) (h4 : s - g ≤ 1023) (c : greatI hi g s l < leastI lo g s l) : goods lo hi g s l = [] := by
  cases e : goods lo hi g s l with
  | nil => rfl
  | cons x t =>
    have := (goods_mem (lo := lo) (hi := hi) (g := g) (s := s) hl h1 h2 h3 h4 x).mp (by rw [e]; exact List.mem_cons_self)
    omega
end
section
variable {P : Program} {w : World} {K : PySem.W.Frag} {mg : Str → Option Value} {base : Heap} (T : Top K mg) (SH : ShapeT K mg) (BE : BadShapeT P w K mg T.reel.C)
def spSpan : Sp := fun vs H Q _ => ∃ (a : Addr) (t w lo hi g s l : Int), vs = [.ref a, .int g, .int s, .int l] ∧ ScV H a t w lo hi ∧ 0 ≤ l ∧ l ≤ 7 ∧ lo ≤ g ∧ g ≤ hi ∧ lo ≤ s ∧ s ≤ hi ∧
  ∀ H', Same H H' → SpanQ (leastI lo g s l) (greatI hi g s l) H' Q
theorem ok_span : FnOk P w K mg base (L2.CX P w) 3 T._law_span.a T._law_span.d ["scope", "aim", "grain", "slack"] spSpan := by
  refine T._law_span.f.okX sc__law_span (fun vs H Q E h => ?_) (fun cdv A outer s H vs Q E hr h => ?_)
  · obtain ⟨a, t, w, lo, hi, g, s, l, rfl, _⟩ := h
    rfl
  · obtain ⟨a, t, wd, lo, hi, g, m, l, rfl, h, hl1, hl2, g1, g2, m1, m2, k⟩ := h
    have b1 := h.l1
    have b3 := h.l3
    refine ⟨_, pss_cons (ps_set (i := 4) sc__law_span.nd rfl (.inl rfl) (pe_op op_fdiv (pe_op op_sub (pv 2) (pv 1)) (pe_op op_add (pe_op op_mul pe_int (pv 3)) pe_int)))
      (pss_cons (ps_set (i := 5) sc__law_span.nd rfl (.inl rfl) (pe_op op_cat (pe_listRg rfl (by rfl) T.b_list (prg_2 (by rfl) T.b_range (pe_op op_sub (pv 4) pe_int) (pe_op op_add (pv 4) pe_int))) (pe_lst (pa_cons (pe_un un_neg pe_int) (pa_cons (pe_un un_neg pe_int) (pa_cons pe_int (pa_cons pe_int pa_nil)))))))
      (pss_cons (ps_set (i := 6) sc__law_span.nd rfl (.inl rfl) (pe_callB cr_sorted (by rfl) T.b_sorted (by decide +kernel) (pa_cons (pe_lc (own := [("item", 7)]) (g := gName 7) rfl sc__law_span.nd (pi_list (pv 5)) (blkOk_by (own := [("item", 7)]) (N := ["scope", "aim", "grain", "slack", "near", "some", "found", "item"]) (sc := defScope s__law_span) (by decide +kernel))
          (fun _ _ _ _ _ => pg_name (i := 7) sc__law_span.nd rfl (Or.inl rfl)) (fun _ _ _ _ _ => pts_one (pt_cmpR op_eq (pe_call (ok_built T) (hr.mono (by decide)) (by rfl) T._law_built.m T._law_built.f.kp (bd__law_built T) .nil passE (pa_cons (pv 0) (pa_cons (pv 1) (pa_cons (pv 7) (pa_cons (pv 3) pa_nil))))) (pv 2) (nomark _))) (fun _ _ _ _ _ => pv 7)) pa_nil)))
      (pss_one (ps_ret (pe_ifExp (pt_cmpR (op_neD hr.units) (pv 6) (pe_lst pa_nil) (nomark _)) (pe_tup (pa_cons (pe_ix ix_list (pv 6) pe_int (fun _ _ => rfl)) (pa_cons (pe_ix ix_list (pv 6) (pe_un un_neg pe_int) (fun _ _ => rfl)) pa_nil))) pe_non))))), ?_⟩
    refine ⟨_, rfl, _, rfl, _, _, rfl, rfl, _, rfl, _, _, rfl, rfl, .inl ⟨by omega, by omega⟩, _, _, rfl, rfl, _, _, rfl, rfl, ⟨by omega, by omega⟩, ?_⟩
    obtain ⟨q1, q2⟩ := near_small (g := g) (s := m) hl1 (by omega) (by omega)
    have hq0 : ∃ q, q = (m - g) / (2 * l + 1) := ⟨_, rfl⟩
    obtain ⟨q, hq⟩ := hq0
    show tSeq _ _ _ [some (.ref a), some (.int g), some (.int m), some (.int l), some (.int ((m - g) / (2 * l + 1))), none, none, none] H
    rw [← hq] at q1 q2 ⊢
    refine ⟨_, rfl, _, _, rfl, rfl, _, rfl, _, _, rfl, rfl, _, _, rfl, rfl, ⟨by omega, by omega, by omega, by omega, by omega⟩, fun r hr1 => ?_⟩
    refine ⟨_, rfl, _, rfl, (by show 4 ≤ sizeLine; decide), fun r2 hr2 => ?_⟩
    have n12 : r ≠ r2 := ne_of_none upd_same hr2
    refine ⟨r, r2, _, _, rfl, rfl, (upd_ne n12).trans upd_same, upd_same, ?_, fun r3 hr3 => ?_⟩
    · rw [rgV_length]
      exact Nat.le_trans (show _ ≤ 100 by simp; omega) (by decide)
    have hc : rgV (q - 3) (q + 4) ++ [V.int (-32767), V.int (-32766), V.int 32766, V.int 32767] = (cand q).map V.int := by
      have e : (q + 4 - (q - 3)).toNat = 7 := by omega
      unfold rgV
      rw [e]
      show [V.int (q - 3 + 0), V.int (q - 3 + 1), V.int (q - 3 + 2), V.int (q - 3 + 3), V.int (q - 3 + 4), V.int (q - 3 + 5), V.int (q - 3 + 6), V.int (-32767), V.int (-32766), V.int 32766, V.int 32767] = [V.int (q - 3), V.int (q - 2), V.int (q - 1), V.int q, V.int (q + 1), V.int (q + 2), V.int (q + 3), V.int (-32767), V.int (-32766), V.int 32766, V.int 32767]
      rw [show q - 3 + 0 = q - 3 by omega, show q - 3 + 1 = q - 2 by omega, show q - 3 + 2 = q - 1 by omega, show q - 3 + 3 = q by omega, show q - 3 + 4 = q + 1 by omega, show q - 3 + 5 = q + 2 by omega, show q - 3 + 6 = q + 3 by omega]
    show tSeq _ _ _ [some (.ref a), some (.int g), some (.int m), some (.int l), some (.int q), some (.ref r3), none, none] (upd _ r3 (.lst (rgV (q - 3) (q + 4) ++ [V.int (-32767), V.int (-32766), V.int 32766, V.int 32767])))
    rw [hc]
    have sm0 := ((Same.new (o := .lst (rgV (q - 3) (q + 4))) hr1).trans (Same.new (o := .lst [V.int (-32767), V.int (-32766), V.int 32766, V.int 32767]) hr2)).trans (Same.new (o := .lst ((cand q).map V.int)) hr3)
    generalize hH1 : upd (upd (upd H r (.lst (rgV (q - 3) (q + 4)))) r2 (.lst [V.int (-32767), V.int (-32766), V.int 32766, V.int 32767])) r3 (.lst ((cand q).map V.int)) = H1 at sm0 ⊢
    have at3 : H1 r3 = some (.lst ((cand q).map V.int)) := by rw [← hH1, upd_same]
    refine ⟨_, rfl, r3, rfl, ⟨_, SqL.of at3⟩, fun D hD => lc_list (K := K) (a := r3) (xs := (cand q).map V.int) (fun i H' => H' D = some (.lst ((((cand q).take i).filter fun n => decide (withI lo hi (g + n * (2 * l + 1)) = m)).map V.int)) ∧ Same H1 H') ⟨upd_same, Same.new hD⟩ (fun i H' _ h => h.2.seq (SqL.of at3)) ?_ ?_⟩
    · rintro i x H' hx ⟨h3, h4⟩
      obtain ⟨n, hn, rfl⟩ : ∃ n, (cand q)[i]? = some n ∧ x = V.int n := by
        rw [List.getElem?_map] at hx
        cases e : (cand q)[i]? with
        | none => rw [e] at hx; cases hx
        | some n => rw [e] at hx; exact ⟨n, rfl, (Option.some.inj hx).symm⟩
      have et : (cand q).take (i + 1) = (cand q).take i ++ [n] := by rw [List.take_add_one, hn]; rfl
      have hk : ScV H' a t wd lo hi := (h.keep (sm0 _)).keep (h4 _)
      refine ⟨rfl, _, rfl, _, rfl, _, rfl, _, rfl, a, t, wd, lo, hi, g, n, l, rfl, hk, hl1, by omega, _, rfl, rfl, _, rfl, ?_⟩
      rw [et, List.filter_append]
      by_cases c : withI lo hi (g + n * (2 * l + 1)) = m
      · rw [show decide (V.int (withI lo hi (g + n * (2 * l + 1))) = V.int m) = true from decide_eq_true (congrArg V.int c)]
        dsimp only
        rw [if_pos rfl]
        refine ⟨_, rfl, _, h3, ?_, ?_, ?_⟩
        · rw [List.length_map]
          refine Nat.lt_of_le_of_lt (Nat.le_trans (List.length_filter_le _ _) (List.length_take_le _ _)) (show i < sizeLine from ?_)
          have : i < (cand q).length := (List.getElem?_eq_some_iff.mp hn).1
          exact Nat.lt_trans this (by show 11 < sizeLine; decide)
        · rw [upd_same]
          simp [c]
        · intro b o e
          rw [upd_ne (ne_of_none e hD)]
          exact h4 b o e
      · rw [show decide (V.int (withI lo hi (g + n * (2 * l + 1))) = V.int m) = false from decide_eq_false fun z => c (V.int.inj z)]
        dsimp only
        rw [if_neg Bool.false_ne_true]
        refine ⟨?_, h4⟩
        simpa [c] using h3
    rintro H2 ⟨h3, h4⟩
    rw [List.length_map, List.take_length] at h3
    have eg : (cand q).filter (fun n => decide (withI lo hi (g + n * (2 * l + 1)) = m)) = goods lo hi g m l := by rw [hq]; rfl
    rw [eg] at h3
    have lg : (goods lo hi g m l).length ≤ 11 := by
      rw [← eg]
      exact Nat.le_trans (List.length_filter_le _ _) (Nat.le_refl 11)
    have sm2 : Same H H2 := sm0.trans h4
    refine ⟨D, goods lo hi g m l, rfl, SqL.of h3, by omega, fun ns p perm rise hp => ?_⟩
    refine ⟨_, rfl, (by show 0 ≤ sizeLine; decide), fun p2 hp2 => ?_⟩
    have sm3 := (sm2.trans (Same.new (o := .lst (ns.map V.int)) hp)).trans (Same.new (o := .lst []) hp2)
    have hpn : (upd (upd H2 p (.lst (ns.map V.int))) p2 (.lst [])) p = some (.lst (ns.map V.int)) := (Same.new hp2) _ _ upd_same
    refine ⟨_, _, dp_int_list hpn, dp_nil upd_same, shaped_is _, shaped_nil, _, rfl, ?_⟩
    rw [eqv_ints_nil]
    obtain ⟨k1, k2⟩ := k _ sm3
    by_cases c : leastI lo g m l ≤ greatI hi g m l
    · obtain ⟨e1, r', e2⟩ := sorted_ends hl1 m1 m2 (by omega) (by omega) perm rise c
      have e3 : ns.isEmpty = false := by
        cases ns with
        | nil => cases e1
        | cons _ _ => rfl
      rw [e3]
      refine iteT ⟨_, rfl, p, ns.map V.int, (0 : Int), .int (leastI lo g m l), rfl, rfl, SqL.of hpn, atI_nat (j := 0) (by rw [List.getElem?_map, e1]; rfl), _, rfl, _, rfl, p, ns.map V.int, (-1 : Int), .int (greatI hi g m l), rfl, rfl, SqL.of hpn, ?_, (by show 2 ≤ sizeLine; decide), k1 c⟩
      rw [e2, List.map_append]
      exact atI_last _ _
    · have e3 : ns = [] := by
        have := goods_none hl1 m1 m2 (by omega) (by omega) (show greatI hi g m l < leastI lo g m l by omega)
        rw [this] at perm
        exact List.Perm.eq_nil perm
      rw [show ns.isEmpty = true by rw [e3]; rfl]
      exact iteF (k2 (by omega))
end
end K07
namespace K07
open PySem PySem.Spec PyProof.Rows L2 PySem.W LamX KA KW KU KL
open Evl (pss_cut tCut)
/-! ### pairs of whole numbers in a list display -/
def tPairs0 : List (Int × Int) → TA
  | [] => tNil
  | c :: r => tCons (tTup (tCons (tC (.int c.1)) (tCons (tC (.int c.2)) tNil))) (tPairs0 r)
/-- the same, kept shut: what it is only these two rows tell -/
structure Shut where
  t : List (Int × Int) → TA
  nil : t [] = tNil
  cons : ∀ c r, t (c :: r) = tCons (tTup (tCons (tC (.int c.1)) (tCons (tC (.int c.2)) tNil))) (t r)
theorem shut_ex : Nonempty Shut := ⟨⟨tPairs0, rfl, fun _ _ => rfl⟩⟩
noncomputable def shut : Shut := Classical.choice shut_ex
noncomputable abbrev tPairs (l : List (Int × Int)) : TA := shut.t l
theorem pairs_read : ∀ (l : List (Int × Int)) (σ : L2.St) (H : Hp) (Q : List V → Hp → Prop), (∀ (ps : List Addr) (H' : Hp), Same H H' → ps.length = l.length → (∀ p ∈ ps, ∃ c ∈ l, H' p = some (.tup [.int c.1, .int c.2])) → Q (ps.map V.ref) H') → tPairs l σ H Q
  | [], σ, H, Q, k => by
    show shut.t [] σ H Q
    rw [shut.nil]
    exact k [] H (fun _ _ e => e) rfl fun p hp => nomatch hp
  | c :: r, σ, H, Q, k => by
    show shut.t (c :: r) σ H Q
    rw [shut.cons]
    refine ⟨(by show 2 ≤ sizeLine; decide), fun p hp => pairs_read r σ _ _ fun ps H' s hl h => k (p :: ps) H' ((Same.new hp).trans s) (by simp [hl]) fun q hq => ?_⟩
    rcases List.mem_cons.mp hq with e | e
    · subst e
      exact ⟨c, List.mem_cons_self, s _ _ upd_same⟩
    · obtain ⟨c', h1, h2⟩ := h q e
      exact ⟨c', List.mem_cons_of_mem _ h1, h2⟩
theorem pa_pair0 {X : Cx} : PA X [] (tPairs []) := by
  show PA X [] (shut.t [])
  rw [shut.nil]
  exact pa_nil
theorem pa_pair {X : Cx} {e : Expr} {es : List Expr} {a b : Int} {l : List (Int × Int)} (he : PE X e (tTup (tCons (tC (.int a)) (tCons (tC (.int b)) tNil)))) (h : PA X es (tPairs l)) (hs : starEach (e :: es) X.env = (false, eval e X.env) :: starEach es X.env := by rfl) : PA X (e :: es) (tPairs ((a, b) :: l)) := by
  show PA X (e :: es) (shut.t ((a, b) :: l))
  rw [shut.cons]
  exact pa_cons he h hs
section
variable {P : Program} {w : World} {K : PySem.W.Frag} {mg : Str → Option Value} {base : Heap} (T : Top K mg)
def spScope : Sp := fun vs H Q _ => ∃ (st lg cl : Addr) (m : Nat), vs = [.ref st] ∧ m ≤ 990000 ∧ StAt H st lg cl m ∧
  ∀ (a : Addr) (t w lo hi : Int) (H' : Hp), ScV H' a t w lo hi → a ≠ st → a ≠ lg → StAt H' st lg cl (m + 4) → Kp st lg H H' → Q (.ref a) H'
theorem ok_scope : FnOk P w K mg base (L2.CX P w) 3 T._law_scope.a T._law_scope.d ["state"] spScope := by
  refine T._law_scope.f.okX sc__law_scope (fun vs H Q E h => ?_) (fun cdv A outer s H vs Q E hr h => ?_)
  · obtain ⟨st, lg, cl, m, rfl, _⟩ := h
    rfl
  · obtain ⟨st, lg, cl, m, rfl, hm, S, k⟩ := h
    refine ⟨_, pss_cons (ps_set (i := 1) sc__law_scope.nd rfl (.inl rfl) (pe_lst (pa_pair (pe_tup (pa_cons pe_int (pa_cons pe_int pa_nil))) (pa_pair (pe_tup (pa_cons pe_int (pa_cons pe_int pa_nil))) (pa_pair (pe_tup (pa_cons pe_int (pa_cons pe_int pa_nil))) (pa_pair (pe_tup (pa_cons pe_int (pa_cons pe_int pa_nil))) (pa_pair (pe_tup (pa_cons pe_int (pa_cons pe_int pa_nil))) (pa_pair (pe_tup (pa_cons pe_int (pa_cons pe_int pa_nil))) (pa_pair (pe_tup (pa_cons pe_int (pa_cons pe_int pa_nil))) (pa_pair (pe_tup (pa_cons pe_int (pa_cons pe_int pa_nil))) (pa_pair (pe_tup (pa_cons pe_int (pa_cons pe_int pa_nil))) (pa_pair (pe_tup (pa_cons pe_int (pa_cons pe_int pa_nil))) (pa_pair (pe_tup (pa_cons pe_int (pa_cons pe_int pa_nil))) pa_pair0)))))))))))))
      (pss_cut (ps_set (i := 1) sc__law_scope.nd rfl (.inl rfl) (pe_ifExp (pt_cmpR op_gt (pe_call (ok_draw T) (hr.mono (by decide)) (by rfl) T._law_draw.m T._law_draw.f.kp (bd__law_draw T) .nil passE (pa_cons (pv 0) (pa_cons pe_int pa_nil))) pe_int (nomark _)) (pv 1) (pe_lst (pa_pair (pe_tup (pa_cons pe_int (pa_cons pe_int pa_nil))) (pa_pair (pe_tup (pa_cons pe_int (pa_cons pe_int pa_nil))) (pa_pair (pe_tup (pa_cons pe_int (pa_cons pe_int pa_nil))) (pa_pair (pe_tup (pa_cons pe_int (pa_cons pe_int pa_nil))) pa_pair0)))))))
      (pss_cons (ps_asg (pe_call (ok_pick T) (hr.mono (by decide)) (by rfl) T._law_pick.m T._law_pick.f.kp (bd__law_pick T) .nil passE (pa_cons (pv 0) (pa_cons (pv 1) pa_nil))) (pg_tup rfl (pgs_cons (pg_name (i := 2) sc__law_scope.nd rfl (.inl rfl)) (pgs_cons (pg_name (i := 3) sc__law_scope.nd rfl (.inl rfl)) pgs_nil))))
      (pss_cons (ps_set (i := 4) sc__law_scope.nd rfl (.inl rfl) (pe_call (ok_pick T) (hr.mono (by decide)) (by rfl) T._law_pick.m T._law_pick.f.kp (bd__law_pick T) .nil passE (pa_cons (pv 0) (pa_cons (pe_lst (pa_cons pe_int (pa_cons pe_int (pa_cons pe_int (pa_cons (pe_un un_neg pe_int) (pa_cons (pe_un un_neg pe_int) (pa_cons pe_int pa_nil))))))) pa_nil))))
      (pss_cons (ps_set (i := 5) sc__law_scope.nd rfl (.inl rfl) (pe_callB (call_min2 rfl) (by rfl) T.b_min PyProof.Rows.boot_min (pa_cons pe_int (pa_cons (pe_op op_add (pv 4) (pe_call (ok_pick T) (hr.mono (by decide)) (by rfl) T._law_pick.m T._law_pick.f.kp (bd__law_pick T) .nil passE (pa_cons (pv 0) (pa_cons (pe_lst (pa_cons pe_int (pa_cons pe_int (pa_cons pe_int (pa_cons pe_int (pa_cons pe_int (pa_cons pe_int (pa_cons pe_int pa_nil)))))))) pa_nil)))) pa_nil))))
      (pss_one (ps_ret (pe_disp (pps_cons pe_str (pv 2) (pps_cons pe_str (pv 3) (pps_cons pe_str (pv 4) (pps_cons pe_str (pv 5) pps_nil)))) (by rfl) (by rfl) (fun z => by cases z) (by decide)))))))), ?_⟩
    have ok1 : ∀ c ∈ [(1, 1), (2, 2), (2, 3), (3, 2), (4, 4), (1, 5), (5, 1), (3, 4), (2, 6), (5, 6), (9, 2)] ++ [(2, 10), (3, 16), (8, 8), (10, 9)], (1 : Int) ≤ c.1 ∧ c.1 ≤ 16 ∧ (1 : Int) ≤ c.2 ∧ c.2 ≤ 16 := by decide
    refine pairs_read [(1, 1), (2, 2), (2, 3), (3, 2), (4, 4), (1, 5), (5, 1), (3, 4), (2, 6), (5, 6), (9, 2)] _ H _ fun ps H1 s1 hl1 hp1 => ⟨?_, fun b hb => ?_⟩
    · rw [List.length_map, hl1]
      decide
    have S1 := (S.same s1).same (Same.new (o := .lst (ps.map V.ref)) hb)
    have kp1 : Kp st lg H (upd H1 b (.lst (ps.map V.ref))) := (Kp.same s1).trans (Kp.same (Same.new hb))
    have hp1 : ∀ p ∈ ps, ∃ c ∈ [(1, 1), (2, 2), (2, 3), (3, 2), (4, 4), (1, 5), (5, 1), (3, 4), (2, 6), (5, 6), (9, 2)] ++ [(2, 10), (3, 16), (8, 8), (10, 9)], (upd H1 b (.lst (ps.map V.ref))) p = some (.tup [V.int c.1, .int c.2]) := fun p hp => by
      obtain ⟨c, h1, h2⟩ := hp1 p hp
      exact ⟨c, List.mem_append_left _ h1, (Same.new hb) _ _ h2⟩
    have hb1 : (upd H1 b (.lst (ps.map V.ref))) b = some (.lst (ps.map V.ref)) := upd_same
    have nb := (S.same s1).off hb
    have lp : 0 < ps.length ∧ ps.length ≤ 11 := by
      rw [hl1]
      decide
    generalize upd H1 b (.lst (ps.map V.ref)) = H2 at S1 kp1 hp1 hb1 ⊢
    clear hb s1 hl1
    refine ⟨fun σ' H' => ∃ (b : Addr) (ps : List Addr), σ' = [some (.ref st), some (.ref b), none, none, none, none] ∧ StAt H' st lg cl (m + 1) ∧ Kp st lg H H' ∧ (∀ p ∈ ps, ∃ c ∈ [(1, 1), (2, 2), (2, 3), (3, 2), (4, 4), (1, 5), (5, 1), (3, 4), (2, 6), (5, 6), (9, 2)] ++ [(2, 10), (3, 16), (8, 8), (10, 9)], H' p = some (.tup [V.int c.1, .int c.2])) ∧ H' b = some (.lst (ps.map V.ref)) ∧ (b ≠ st ∧ b ≠ lg) ∧ 0 < ps.length ∧ ps.length ≤ 11, ?_, ?_⟩
    · refine ⟨_, rfl, st, lg, cl, 6, m, rfl, by decide, by decide, by omega, S1, fun r H3 hr3 S3 kp3 => ⟨_, _, rfl, rfl, _, rfl, ?_⟩⟩
      by_cases c : (0 : Int) < (r : Nat)
      · rw [decide_eq_true c]
        refine iteT ⟨_, rfl, b, ps, rfl, S3, kp1.trans kp3, fun p hp => ?_, kp3 _ _ hb1 nb.1 nb.2, nb, lp⟩
        obtain ⟨c, h1, h2⟩ := hp1 p hp
        have off : p ≠ st ∧ p ≠ lg := by
          obtain ⟨_, _, _, _, S', _⟩ := S1
          exact ⟨ne_of h2 S'.d (by intro z; cases z), ne_of h2 S'.l (by intro z; cases z)⟩
        exact ⟨c, h1, kp3 _ _ h2 off.1 off.2⟩
      · rw [decide_eq_false c]
        refine iteF (pairs_read [(2, 10), (3, 16), (8, 8), (10, 9)] _ H3 _ fun ps2 H4 s4 hl2 hp2 => ⟨?_, fun b2 hb2 => ⟨b2, ps2, rfl, (S3.same s4).same (Same.new hb2), ((kp1.trans kp3).trans (Kp.same s4)).trans (Kp.same (Same.new hb2)), fun p hp => ?_, upd_same, (S3.same s4).off hb2, ?_⟩⟩)
        · rw [List.length_map, hl2]
          decide
        · obtain ⟨c, h1, h2⟩ := hp2 p hp
          exact ⟨c, List.mem_append_right _ h1, (Same.new hb2) _ _ h2⟩
        · rw [hl2]
          decide
    clear S1 kp1 hp1 hb1 nb lp H2
    rintro σ H2 ⟨b, ps, rfl, S2, kp2, hp2, hb2, nb, lp1, lp2⟩
    -- tall, wide
    refine ⟨_, rfl, _, rfl, st, lg, cl, b, _, m + 1, rfl, hb2, nb.2, ?_, ?_, by omega, S2, fun x H3 hx S3 kp3 => ?_⟩
    · rw [List.length_map]
      exact lp1
    · rw [List.length_map]
      omega
    obtain ⟨p, hp, rfl⟩ := List.mem_map.mp hx
    obtain ⟨c, hc, h3⟩ := hp2 p hp
    obtain ⟨c1, c2, c3, c4⟩ := ok1 c hc
    have off : p ≠ st ∧ p ≠ lg := by
      obtain ⟨_, _, _, _, S', _⟩ := S2
      exact ⟨ne_of h3 S'.d (by intro z; cases z), ne_of h3 S'.l (by intro z; cases z)⟩
    have h4 := kp3 _ _ h3 off.1 off.2
    have kpA := kp2.trans kp3
    refine ⟨p, _, rfl, SqT.of h4, rfl, _, _, rfl, _, _, rfl, rfl, ?_⟩
    -- least
    refine ⟨_, rfl, _, rfl, _, rfl, (by show 6 ≤ sizeLine; decide), fun q hq => ⟨st, lg, cl, q, _, m + 2, rfl, upd_same, (S3.off hq).2, (by show 0 < 6; decide), (by show 6 ≤ 1000; decide), by omega, S3.same (Same.new hq), fun x H4 hx4 S4 kp4 => ?_⟩⟩
    obtain ⟨lo, rfl, lo1, lo2⟩ : ∃ lo : Int, x = .int lo ∧ -512 ≤ lo ∧ lo ≤ 3 := by
      simp only [List.mem_cons, List.not_mem_nil, or_false] at hx4
      rcases hx4 with h | h | h | h | h | h <;> exact ⟨_, h, by decide, by decide⟩
    have kpB := (kpA.trans (Kp.same (Same.new hq))).trans kp4
    -- most
    refine ⟨_, rfl, _, rfl, (by show 7 ≤ sizeLine; decide), fun q2 hq2 => ⟨st, lg, cl, q2, _, m + 3, rfl, upd_same, (S4.off hq2).2, (by show 0 < 7; decide), (by show 7 ≤ 1000; decide), by omega, S4.same (Same.new hq2), fun y H5 hx5 S5 kp5 => ?_⟩⟩
    obtain ⟨d, rfl, d1, d2⟩ : ∃ d : Int, y = .int d ∧ 0 ≤ d ∧ d ≤ 1023 := by
      simp only [List.mem_cons, List.not_mem_nil, or_false] at hx5
      rcases hx5 with h | h | h | h | h | h | h <;> exact ⟨_, h, by decide, by decide⟩
    have kpC := (kpB.trans (Kp.same (Same.new hq2))).trans kp5
    refine ⟨_, _, rfl, rfl, _, _, rfl, ?_⟩
    generalize hmost : (if lo + d < 511 then lo + d else (511 : Int)) = hi
    have hi1 : lo ≤ hi ∧ hi ≤ 511 := by
      rw [← hmost]
      split <;> omega
    -- the dict
    intro dt hdt
    refine ⟨_, rfl, _, rfl, _, rfl, _, rfl, upd_same, scKv c.1 c.2 lo hi, rfl, (by show 4 ≤ 15; decide), ?_⟩
    rw [sc_merge]
    have sm : Same H5 (upd (upd H5 dt (.dK [])) dt (.dK (scKv c.1 c.2 lo hi))) := fun b o e => by
      rw [upd_upd, upd_ne (ne_of_none e hdt)]
      exact e
    have nd := S5.off hdt
    exact k dt c.1 c.2 lo hi _ ⟨upd_same, c1, c2, c3, c4, lo1, hi1.1, hi1.2⟩ nd.1 nd.2 (S5.same sm) (kpC.trans (Kp.same sm))
end
end K07
namespace K07
open PySem PySem.Spec PyProof.Rows L2 PySem.W LamX KA KW KU KL
open Evl (pss_cut tCut)
/-- the code object of a def that makes lambdas, and its table -/
structure LamT (K : PySem.W.Frag) (x : Str) (st : Stmt) (a : Addr) (d : FuncData) (c P : Addr) : Prop where
  ex : ∃ (oc : Value) (od : Option Addr) (kV doc pm : Value) (an : Option Addr) (ct : Value) (osl : Array (Option Value)),
    d = PySem.W.fnOf x x (defArgs st) (defBody st) (defScope st) .none kV doc pm an (.ref c) ct ∧ K.lookup a = some ⟨oc, od, .func d, osl⟩ ∧ PySem.W.codeIn K (.ref c) x = true
/-- all but the state and the tables stands as it stood -/
def KpN (st lg : Addr) (H H' : Hp) : Prop := ∀ b o, H b = some o → b ≠ st → b ≠ lg → (∀ ps, o ≠ .tbl ps) → H' b = some o
theorem KpN.refl {st lg : Addr} {H : Hp} : KpN st lg H H := fun _ _ h _ _ _ => h
theorem KpN.trans {st lg : Addr} {H H1 H2 : Hp} (a : KpN st lg H H1) (b : KpN st lg H1 H2) : KpN st lg H H2 := fun c o h n1 n2 n3 => b c o (a c o h n1 n2 n3) n1 n2 n3
theorem KpN.kp {st lg : Addr} {H H1 : Hp} (a : Kp st lg H H1) : KpN st lg H H1 := fun c o h n1 n2 _ => a c o h n1 n2
theorem KpN.ext {st lg : Addr} {H H1 : Hp} (a : ExtN H H1) : KpN st lg H H1 := fun c o h _ _ n => a c o h n
theorem KpN.new {st lg p : Addr} {H : Hp} {o : HO} (h : H p = none) : KpN st lg H (upd H p o) := .kp (.same (Same.new h))
abbrev lamQ : Str := (envOfC "_law_refused" (defScope s__law_refused) 0 0 .none).qual ++ "<lambda>"
abbrev tabs (Pt : Addr) : List (Addr × Str) := [(Pt, lamQ)]
theorem tabs_kp {st lg cl : Addr} {n : Nat} {L : List (Addr × Str)} {H H' : Hp} (t : Tabs L H) (S : StAt H st lg cl n) (e : Kp st lg H H') : Tabs L H' := by
  obtain ⟨_, _, _, _, S', _⟩ := S
  intro p hp
  obtain ⟨ps, h1, h2, h3⟩ := t p hp
  refine ⟨ps, e _ _ h1 (ne_of h1 S'.d (by intro z; cases z)) (ne_of h1 S'.l (by intro z; cases z)), h2, fun pos cv hc => ?_⟩
  obtain ⟨c, e1, e2⟩ := h3 pos cv hc
  exact ⟨c, e1, e _ _ e2 (ne_of e2 S'.d (by intro z; unfold CodeO at z; cases z)) (ne_of e2 S'.l (by intro z; unfold CodeO at z; cases z))⟩
theorem stAt_ext {H H' : Hp} {st lg cl : Addr} {n : Nat} (S : StAt H st lg cl n) (e : ExtN H H') : StAt H' st lg cl n := by
  obtain ⟨a, b, c, d, s, h⟩ := S
  exact ⟨a, b, c, d, { s with d := e _ _ s.d (fun _ z => by cases z), l := e _ _ s.l (fun _ z => by cases z), c := e _ _ s.c (fun _ z => by cases z) }, h⟩
theorem exV_tbl {c : Value} {d : Option Addr} {a : Addr} (ps : Array Value) : ExV c d a ≠ .tbl ps := fun z => by
  unfold ExV at z
  cases z
theorem exV_lst {c : Value} {d : Option Addr} {a : Addr} (xs : List V) : ExV c d a ≠ .lst xs := fun z => by
  unfold ExV at z
  cases z
theorem kit_self {K : PySem.W.Frag} {C : Addr} : PySem.W.kitOne K (.ref C) (.ref C) = some true := by
  unfold PySem.W.kitOne
  rw [if_pos (by simp)]
theorem small_fits {d : PyData} (hl : d.leavesShort 13 = true) (hw : d.weight ≤ 2 ^ 20) : d.shown.length ≤ sizeLine := PyData.shown_fits (by decide) (by decide) hl hw
theorem int_small {i : Int} (h1 : -65535 ≤ i) (h2 : i ≤ 65535) : (PyData.int i).leavesShort 13 = true ∧ (PyData.int i).weight ≤ 17 ∧ (PyData.int i).showable = true := by
  have hn : i.natAbs < 2 ^ 17 := by omega
  have hl : i.natAbs.log2 ≤ 17 := by
    rcases Nat.eq_zero_or_pos i.natAbs with z | z
    · rw [z]
      decide
    · exact Nat.le_of_lt ((Nat.log2_lt (by omega)).mpr hn)
  have hl2 : i.natAbs.log2 < 17 ∨ i.natAbs = 0 := by
    rcases Nat.eq_zero_or_pos i.natAbs with z | z
    · exact .inr z
    · exact .inl ((Nat.log2_lt (by omega)).mpr hn)
  refine ⟨?_, ?_, ?_⟩
  · simp only [PyData.leavesShort, decide_eq_true_eq]
    exact PyData.shown_int_le (by omega)
  · simp only [PyData.weight]
    split
    · omega
    · rename_i c
      rcases hl2 with q | q
      · omega
      · exact absurd (by simpa using q) c
  · simp only [PyData.showable, decide_eq_true_eq]
    omega
theorem ite_same {x : V} {A B : Prop} {d : Decidable (x = x)} (h : B) : if (!@decide (x = x) d) = true then A else B := by
  rw [if_neg (by simp)]
  exact h
theorem pair_fits {i j : Int} (h1 : -65535 ≤ i) (h2 : i ≤ 65535) (h3 : -65535 ≤ j) (h4 : j ≤ 65535) : (PyData.tuple [.int i, .int j]).showable = true ∧ (PyData.tuple [.int i, .int j]).hasDict = false ∧ (PyData.tuple [.int i, .int j]).depth ≤ 60 ∧ (PyData.tuple [.int i, .int j]).shown.length ≤ sizeLine := by
  obtain ⟨a, b, c⟩ := int_small h1 h2
  obtain ⟨a', b', c'⟩ := int_small h3 h4
  refine ⟨by simp [PyData.showable, PyData.showableAll] at c c' ⊢; exact ⟨c, c'⟩, by simp [PyData.hasDict, PyData.hasDictAll], by simp [PyData.depth, PyData.depthAll], small_fits (by simp [PyData.leavesShort, PyData.leavesShortAll] at a a' ⊢; exact ⟨a, a'⟩) ?_⟩
  simp only [PyData.weight, PyData.weightAll] at b b' ⊢
  have : (2 : Nat) ^ 20 = 1048576 := by decide
  omega
/-- the law's code object, and its table: FnG of a def that makes lambdas -/
theorem fnG_ofC {CX : CXT} {P : Program} {w : World} {K : PySem.W.Frag} {mg : Str → Option Value} {base : Heap} {k : Nat} {f c Pt : Addr} {x : Str} {st : Stmt} {fd : FuncData} {N ps : List Str} {sp : Sp} (LT : LamT K x st f fd c Pt) (S : FnScope N ps (defScope st))
    (len : ∀ vs H Q E, sp vs H Q E → vs.length = ps.length)
    (hbody : ∀ (A : Around) (outer : List Env) (s : Shared) (H : Hp) (vs : List V) (Q : VK) (E : XK), Room k (A.deeper (envOfC x (defScope st) s.heap.objs.size f (.ref c))) → A.guards = some [] → sp vs H Q E →
      ∃ t, PSs (cxOf CX P w K mg base N x (defScope st) f (.ref c) A outer s H E) (defBody st) t ∧ t { nx := fun _ H' => Q .non H', rt := Q } (L2.start N vs) H) : FnG P w K mg base CX (k + 1) f fd ps sp := by
  obtain ⟨oc, od, kV, doc, pm, an, ct, osl, rfl, lk, hcd⟩ := LT.ex
  exact ⟨len, fun A outer s H args us vs Q E hr hg e0 hb r h => run_ofS lk hcd S hr e0 hb r (len _ _ _ _ h) fun hr' => hbody A outer s H vs Q E hr' hg h⟩
/-! ### the lambdas of _law_refused -/
def lamP : Expr → Arguments
  | .Lambda p _ _ _ => p
  | _ => ⟨[], [], none, [], [], none, []⟩
def lamB : Expr → Expr
  | .Lambda _ b _ _ => b
  | e => e
def lamSc : Expr → Scope
  | .Lambda _ _ s _ => s
  | _ => defScope s__law_refused
def itOf : Stmt → Expr
  | .For _ it _ _ _ => it
  | _ => .Constant .none 0 ⟨0, 0, 0, 0⟩
def valOf : Stmt → Expr
  | .Assign _ v _ => v
  | _ => .Constant .none 0 ⟨0, 0, 0, 0⟩
def elt : Expr → Nat → Expr
  | .List es _, i => es.getD i (.Constant .none 0 ⟨0, 0, 0, 0⟩)
  | e, _ => e
def rgt : Expr → Expr
  | .BinOp _ _ r _ => r
  | e => e
def stR (i : Nat) : Stmt := (defBody s__law_refused).getD i (.Pass ⟨0, 0, 0, 0⟩)
abbrev e10 : Expr := elt (itOf (stR 2)) 0
abbrev e11 : Expr := elt (itOf (stR 2)) 1
abbrev e20 : Expr := elt (itOf (stR 3)) 0
abbrev e21 : Expr := elt (itOf (stR 3)) 1
abbrev e30 : Expr := elt (valOf (stR 4)) 0
abbrev e31 : Expr := elt (valOf (stR 4)) 1
abbrev e32 : Expr := elt (rgt (itOf (stR 5))) 0
abbrev e40 : Expr := elt (valOf (stR 6)) 0
abbrev e41 : Expr := elt (valOf (stR 6)) 1
abbrev e42 : Expr := elt (rgt (itOf (stR 7))) 0
theorem ok_nil {X : Cx} {kb : Nat} : ∀ l ∈ ([] : List LamD), LamOk X kb l := fun _ h => nomatch h
theorem ok_cons {X : Cx} {kb : Nat} {l : LamD} {ls : List LamD} (h : LamOk X kb l) (r : ∀ l ∈ ls, LamOk X kb l) : ∀ x ∈ l :: ls, LamOk X kb x := fun x hx => by
  rcases List.mem_cons.mp hx with e | e
  · rw [e]
    exact h
  · exact r x e
/-- what stands while lambdas are called -/
structure Bun (Pt st lg cl : Addr) (m : Nat) (H0 H : Hp) (fa : Addr) (F : HO) : Prop where
  S : StAt H st lg cl m
  Tb : Tabs (tabs Pt) H
  F : H fa = some F
  k : KpN st lg H0 H
theorem Bun.same {Pt st lg cl : Addr} {m : Nat} {H0 H H' : Hp} {fa : Addr} {F : HO} (B : Bun Pt st lg cl m H0 H fa F) (e : Same H H') : Bun Pt st lg cl m H0 H' fa F := ⟨B.S.same e, B.Tb.ext e, e _ _ B.F, B.k.trans (.kp (.same e))⟩
theorem Bun.ext {Pt st lg cl : Addr} {m : Nat} {H0 H H' : Hp} {fa : Addr} {F : HO} (B : Bun Pt st lg cl m H0 H fa F) (nt : ∀ tb, F ≠ .tbl tb) (e : ExtN H H') (T : Tabs (tabs Pt) H') : Bun Pt st lg cl m H0 H' fa F := ⟨stAt_ext B.S e, T, e _ _ B.F nt, B.k.trans (.ext e)⟩
/-- a lambda stands -/
structure Lm (H : Hp) (f c' : Addr) (L : HO) (q : Str) : Prop where
  f : H f = some L
  c : H c' = some (CodeO c' q)
theorem Lm.same {H H' : Hp} {f c' : Addr} {L : HO} {q : Str} (l : Lm H f c' L q) (e : Same H H') : Lm H' f c' L q := ⟨e _ _ l.f, e _ _ l.c⟩
theorem Lm.ext {H H' : Hp} {f c' : Addr} {L : HO} {q : Str} (l : Lm H f c' L q) (nt : ∀ ps, L ≠ .tbl ps) (e : ExtN H H') : Lm H' f c' L q := ⟨e _ _ l.f nt, e _ _ l.c codeO_ne⟩
/-- a further lambda is made -/
theorem lam_step {Pt st lg cl : Addr} {m : Nat} {H0 H Ha : Hp} {fa f1 c1 : Addr} {F L1 : HO} {q : Str} (B : Bun Pt st lg cl m H0 H fa F) (nt : ∀ tb, F ≠ .tbl tb) (ea : ExtN H Ha) (Ta : Tabs (tabs Pt) Ha) (hf1 : Ha f1 = none) (hc1 : Ha c1 = some (CodeO c1 q)) :
    Bun Pt st lg cl m H0 (upd Ha f1 L1) fa F ∧ Lm (upd Ha f1 L1) f1 c1 L1 q := ⟨(B.ext nt ea Ta).same (Same.new hf1), upd_same, (Same.new hf1) _ _ hc1⟩
end K07
namespace K07
open PySem PySem.Spec PyProof.Rows L2 PySem.W LamX KA KW KU KL
open Evl (pss_cut tCut)
section
variable {P : Program} {w : World} {K : PySem.W.Frag} {mg : Str → Option Value} {base : Heap} (T : Top K mg) (SH : ShapeT K mg) (BE : BadShapeT P w K mg T.reel.C)
def spRefused (C : Addr) (Pt : Addr) : Sp := fun vs H Q _ => ∃ (st lg cl : Addr) (fm : V) (lo hi g s : Int) (m : Nat), vs = [.ref st, fm, .int g, .int s] ∧ ShV C H fm lo hi ∧ lo ≤ g ∧ g ≤ hi ∧ lo ≤ s ∧ s ≤ hi ∧ m ≤ 900000 ∧ StAt H st lg cl m ∧ Tabs (tabs Pt) H ∧
  ∀ H', StAt H' st lg cl (m + 4) → Tabs (tabs Pt) H' → KpN st lg H H' → Q (.bl true) H'
include BE in
theorem ok_refused {c Pt : Addr} (LT : LamT K "_law_refused" s__law_refused T._law_refused.a T._law_refused.d c Pt) (TB : TabB base mg c Pt) : FnG P w K mg base (L2.CX P w) 10 T._law_refused.a T._law_refused.d ["state", "form", "aim", "grain"] (spRefused SH.C Pt) := by
  refine fnG_ofC LT sc__law_refused (fun vs H Q E h => ?_) (fun A outer s0 H vs Q E hr hg h => ?_)
  · obtain ⟨st, lg, cl, fm, lo, hi, g, s, m, rfl, _⟩ := h
    rfl
  · obtain ⟨st, lg, cl, fm, lo, hi, g, s, m, rfl, hF, g1, g2, s1, s2, hm, S, Tb, k⟩ := h
    refine ⟨_, (pss_cons (ps_asg (pe_tup (pa_cons (pe_call (ok_pick T) (hr.mono (by decide)) (by rfl) T._law_pick.m T._law_pick.f.kp (bd__law_pick T) .nil passE (pa_cons (pv 0) (pa_cons (pe_lst (pa_cons pe_non (pa_cons pe_int (pa_cons pe_str pa_nil)))) pa_nil))) (pa_cons (pe_call (ok_pick T) (hr.mono (by decide)) (by rfl) T._law_pick.m T._law_pick.f.kp (bd__law_pick T) .nil passE (pa_cons (pv 0) (pa_cons (pe_lst (pa_cons (pe_op op_sub (pe_fld (pv 1) rfl) pe_int) (pa_cons (pe_op op_add (pe_fld (pv 1) rfl) pe_int) (pa_cons pe_non (pa_cons pe_bl (pa_cons pe_str pa_nil)))))) pa_nil))) pa_nil))) (pg_tup rfl (pgs_cons (pg_name (i := 8) sc__law_refused.nd rfl (.inr rfl)) (pgs_cons (pg_name (i := 10) sc__law_refused.nd rfl (.inr rfl)) pgs_nil))))
      (pss_cons (ps_asg (pe_tup (pa_cons (pe_call (ok_pick T) (hr.mono (by decide)) (by rfl) T._law_pick.m T._law_pick.f.kp (bd__law_pick T) .nil passE (pa_cons (pv 0) (pa_cons (pe_lst (pa_cons (pe_un un_neg pe_int) (pa_cons pe_int (pa_cons pe_non (pa_cons pe_bl (pa_cons pe_str pa_nil)))))) pa_nil))) (pa_cons (pe_call (ok_pick T) (hr.mono (by decide)) (by rfl) T._law_pick.m T._law_pick.f.kp (bd__law_pick T) .nil passE (pa_cons (pv 0) (pa_cons (pe_lst (pa_cons (pe_un un_neg pe_int) (pa_cons pe_int (pa_cons pe_non (pa_cons pe_bl (pa_cons pe_str pa_nil)))))) pa_nil))) pa_nil))) (pg_tup rfl (pgs_cons (pg_name (i := 7) sc__law_refused.nd rfl (.inr rfl)) (pgs_cons (pg_name (i := 9) sc__law_refused.nd rfl (.inr rfl)) pgs_nil))))
      (pss_cut (ps_for (passes_of rfl) rfl (pi_list (pe_lst (pa_cons (pe_lamV (params := lamP (e10)) (body := lamB (e10)) (scope := lamSc (e10)) TB rfl List.mem_cons_self (fun p hp e => by (rcases List.mem_singleton.mp hp with rfl; rfl)) (lamS_by (sc := defScope s__law_refused) (by decide +kernel)) rfl) (pa_cons (pe_lamV (params := lamP (e11)) (body := lamB (e11)) (scope := lamSc (e11)) TB rfl List.mem_cons_self (fun p hp e => by (rcases List.mem_singleton.mp hp with rfl; rfl)) (lamS_by (sc := defScope s__law_refused) (by decide +kernel)) rfl) pa_nil)))) (pg_name (i := 4) sc__law_refused.nd rfl (.inl rfl)) (pss_cons (ps_set (i := 5) sc__law_refused.nd rfl (.inl rfl) (pe_callL (kb := 6) (k := 8) (i := 4) (sp := fun f pre t => spCaughtL K T.reel.C f pre t) [⟨lamP e10, lamB e10, lamSc e10, _⟩, ⟨lamP e11, lamB e11, lamSc e11, _⟩] ((ok_cons ⟨(show LamS (defScope s__law_refused) (lamSc e10) from lamS_by (by decide +kernel)), fun _ _ _ _ _ => rfl, fun A outer s H E f c' h => (pe_call (ok_rebuilt T SH BE) (h.mono (by decide)) (by rfl) T.rebuilt.m T.rebuilt.f.kp (bd_rebuilt T) .nil (passX rfl rfl rfl rfl) (pa_cons (pv 8) (pa_cons (pv 10) (pa_cons (pv 7) (pa_cons (pv 9) pa_nil)))))⟩ (ok_cons ⟨(show LamS (defScope s__law_refused) (lamSc e11) from lamS_by (by decide +kernel)), fun _ _ _ _ _ => rfl, fun A outer s H E f c' h => (pe_call (ok_levels_that T SH BE) (h.mono (by decide)) (by rfl) T.levels_that.m T.levels_that.f.kp (bd_levels_that T) .nil (passX rfl rfl rfl rfl) (pa_cons (pv 8) (pa_cons (pv 10) (pa_cons (pv 10) (pa_cons (pv 9) pa_nil)))))⟩ ok_nil))) (fun H0 h0 f pre t' Wk => caught_workL Wk T._law_caught.f sc__law_caught rfl rfl rfl rfl rfl T.reel.g (by decide) (by decide) (by decide) (by decide) (by decide) (by decide) (by decide)) (by rfl) T._law_caught.m T._law_caught.f.kp (bd__law_caught T) passE (hr.mono (by decide)) hg rfl (.inl rfl)))
      (pss_one (ps_if (PW.pt (pw_or (pt_not (pt_val (pe_callB (show CallR _ _ (rIs3 K) from call_is3) (by rfl) T.b_isinstance PyProof.Rows.boot_isinstance (pa_cons (pv 5) (pa_cons (pe_glob (v := .ref BE.C) (by rfl) BE.g rfl) pa_nil))))) (pw_or1 (pt_cmpR op_notN (pe_upGet BE.u (pv 5)) pe_non (nomark _))))) (pss_one (ps_ret pe_bl)) pss_nil))))
      (pss_cut (ps_for (passes_of rfl) rfl (pi_list (pe_lst (pa_cons (pe_lamV (params := lamP (e20)) (body := lamB (e20)) (scope := lamSc (e20)) TB rfl List.mem_cons_self (fun p hp e => by (rcases List.mem_singleton.mp hp with rfl; rfl)) (lamS_by (sc := defScope s__law_refused) (by decide +kernel)) rfl) (pa_cons (pe_lamV (params := lamP (e21)) (body := lamB (e21)) (scope := lamSc (e21)) TB rfl List.mem_cons_self (fun p hp e => by (rcases List.mem_singleton.mp hp with rfl; rfl)) (lamS_by (sc := defScope s__law_refused) (by decide +kernel)) rfl) pa_nil)))) (pg_name (i := 4) sc__law_refused.nd rfl (.inl rfl)) (pss_one (ps_if (pt_not (pt_val (pe_callB (show CallR _ _ (rIs2 K) from call_is2) (by rfl) T.b_isinstance PyProof.Rows.boot_isinstance (pa_cons (pe_callL (kb := 6) (k := 8) (i := 4) (sp := fun f pre t => spCaughtL K T.reel.C f pre t) [⟨lamP e20, lamB e20, lamSc e20, _⟩, ⟨lamP e21, lamB e21, lamSc e21, _⟩] ((ok_cons ⟨(show LamS (defScope s__law_refused) (lamSc e20) from lamS_by (by decide +kernel)), fun _ _ _ _ _ => rfl, fun A outer s H E f c' h => (pe_call (ok_rebuilt T SH BE) (h.mono (by decide)) (by rfl) T.rebuilt.m T.rebuilt.f.kp (bd_rebuilt T) .nil (passX rfl rfl rfl rfl) (pa_cons (pv 1) (pa_cons (pv 10) (pa_cons (pv 7) (pa_cons (pv 9) pa_nil)))))⟩ (ok_cons ⟨(show LamS (defScope s__law_refused) (lamSc e21) from lamS_by (by decide +kernel)), fun _ _ _ _ _ => rfl, fun A outer s H E f c' h => (pe_call (ok_levels_that T SH BE) (h.mono (by decide)) (by rfl) T.levels_that.m T.levels_that.f.kp (bd_levels_that T) .nil (passX rfl rfl rfl rfl) (pa_cons (pv 1) (pa_cons (pv 10) (pa_cons (pv 10) (pa_cons (pv 9) pa_nil)))))⟩ ok_nil))) (fun H0 h0 f pre t' Wk => caught_workL Wk T._law_caught.f sc__law_caught rfl rfl rfl rfl rfl T.reel.g (by decide) (by decide) (by decide) (by decide) (by decide) (by decide) (by decide)) (by rfl) T._law_caught.m T._law_caught.f.kp (bd__law_caught T) passE (hr.mono (by decide)) hg rfl (.inl rfl)) (pa_cons (pe_glob (v := .ref T.BadGuess.C) (by rfl) T.BadGuess.g rfl) pa_nil))))) (pss_one (ps_ret pe_bl)) pss_nil)))
      (pss_cons (ps_set (i := 6) sc__law_refused.nd rfl (.inl rfl) (pe_lst (pa_cons (pe_lamV (params := lamP (e30)) (body := lamB (e30)) (scope := lamSc (e30)) TB rfl List.mem_cons_self (fun p hp e => by (rcases List.mem_singleton.mp hp with rfl; rfl)) (lamS_by (sc := defScope s__law_refused) (by decide +kernel)) rfl) (pa_cons (pe_lamV (params := lamP (e31)) (body := lamB (e31)) (scope := lamSc (e31)) TB rfl List.mem_cons_self (fun p hp e => by (rcases List.mem_singleton.mp hp with rfl; rfl)) (lamS_by (sc := defScope s__law_refused) (by decide +kernel)) rfl) pa_nil))))
      (pss_cut (ps_for (passes_of rfl) rfl (pi_list (pe_op op_cat (pv 6) (pe_lst (pa_cons (pe_lamV (params := lamP (e32)) (body := lamB (e32)) (scope := lamSc (e32)) TB rfl List.mem_cons_self (fun p hp e => by (rcases List.mem_singleton.mp hp with rfl; rfl)) (lamS_by (sc := defScope s__law_refused) (by decide +kernel)) rfl) pa_nil)))) (pg_name (i := 4) sc__law_refused.nd rfl (.inl rfl)) (pss_one (ps_if (pt_not (pt_val (pe_callB (show CallR _ _ (rIs2 K) from call_is2) (by rfl) T.b_isinstance PyProof.Rows.boot_isinstance (pa_cons (pe_callL (kb := 6) (k := 8) (i := 4) (sp := fun f pre t => spCaughtL K T.reel.C f pre t) [⟨lamP e30, lamB e30, lamSc e30, _⟩, ⟨lamP e31, lamB e31, lamSc e31, _⟩, ⟨lamP e32, lamB e32, lamSc e32, _⟩] ((ok_cons ⟨(show LamS (defScope s__law_refused) (lamSc e30) from lamS_by (by decide +kernel)), fun _ _ _ _ _ => rfl, fun A outer s H E f c' h => (pe_call (ok_rebuilt T SH BE) (h.mono (by decide)) (by rfl) T.rebuilt.m T.rebuilt.f.kp (bd_rebuilt T) .nil (passX rfl rfl rfl rfl) (pa_cons (pv 1) (pa_cons (pv 2) (pa_cons (pv 7) (pa_cons (pv 9) pa_nil)))))⟩ (ok_cons ⟨(show LamS (defScope s__law_refused) (lamSc e31) from lamS_by (by decide +kernel)), fun _ _ _ _ _ => rfl, fun A outer s H E f c' h => (pe_call (ok_levels_that T SH BE) (h.mono (by decide)) (by rfl) T.levels_that.m T.levels_that.f.kp (bd_levels_that T) .nil (passX rfl rfl rfl rfl) (pa_cons (pv 1) (pa_cons (pv 2) (pa_cons (pv 10) (pa_cons (pv 9) pa_nil)))))⟩ (ok_cons ⟨(show LamS (defScope s__law_refused) (lamSc e32) from lamS_by (by decide +kernel)), fun _ _ _ _ _ => rfl, fun A outer s H E f c' h => (pe_call (ok_level_of T) (h.mono (by decide)) (by rfl) T.level_of.m T.level_of.f.kp (bd_level_of T) .nil (passX rfl rfl rfl rfl) (pa_cons (pv 7) (pa_cons (pv 9) pa_nil)))⟩ ok_nil)))) (fun H0 h0 f pre t' Wk => caught_workL Wk T._law_caught.f sc__law_caught rfl rfl rfl rfl rfl T.reel.g (by decide) (by decide) (by decide) (by decide) (by decide) (by decide) (by decide)) (by rfl) T._law_caught.m T._law_caught.f.kp (bd__law_caught T) passE (hr.mono (by decide)) hg rfl (.inl rfl)) (pa_cons (pe_glob (v := .ref T.BadNumber.C) (by rfl) T.BadNumber.g rfl) pa_nil))))) (pss_one (ps_ret pe_bl)) pss_nil)))
      (pss_cons (ps_set (i := 6) sc__law_refused.nd rfl (.inl rfl) (pe_lst (pa_cons (pe_lamV (params := lamP (e40)) (body := lamB (e40)) (scope := lamSc (e40)) TB rfl List.mem_cons_self (fun p hp e => by (rcases List.mem_singleton.mp hp with rfl; rfl)) (lamS_by (sc := defScope s__law_refused) (by decide +kernel)) rfl) (pa_cons (pe_lamV (params := lamP (e41)) (body := lamB (e41)) (scope := lamSc (e41)) TB rfl List.mem_cons_self (fun p hp e => by (rcases List.mem_singleton.mp hp with rfl; rfl)) (lamS_by (sc := defScope s__law_refused) (by decide +kernel)) rfl) pa_nil))))
      (pss_cut (ps_for (passes_of rfl) rfl (pi_list (pe_op op_cat (pv 6) (pe_lst (pa_cons (pe_lamV (params := lamP (e42)) (body := lamB (e42)) (scope := lamSc (e42)) TB rfl List.mem_cons_self (fun p hp e => by (rcases List.mem_singleton.mp hp with rfl; rfl)) (lamS_by (sc := defScope s__law_refused) (by decide +kernel)) rfl) pa_nil)))) (pg_name (i := 4) sc__law_refused.nd rfl (.inl rfl)) (pss_one (ps_if (pt_not (pt_val (pe_callB (show CallR _ _ (rIs2 K) from call_is2) (by rfl) T.b_isinstance PyProof.Rows.boot_isinstance (pa_cons (pe_callL (kb := 6) (k := 8) (i := 4) (sp := fun f pre t => spCaughtL K T.reel.C f pre t) [⟨lamP e40, lamB e40, lamSc e40, _⟩, ⟨lamP e41, lamB e41, lamSc e41, _⟩, ⟨lamP e42, lamB e42, lamSc e42, _⟩] ((ok_cons ⟨(show LamS (defScope s__law_refused) (lamSc e40) from lamS_by (by decide +kernel)), fun _ _ _ _ _ => rfl, fun A outer s H E f c' h => (pe_call (ok_rebuilt T SH BE) (h.mono (by decide)) (by rfl) T.rebuilt.m T.rebuilt.f.kp (bd_rebuilt T) .nil (passX rfl rfl rfl rfl) (pa_cons (pv 1) (pa_cons (pv 2) (pa_cons pe_int (pa_cons (pv 9) pa_nil)))))⟩ (ok_cons ⟨(show LamS (defScope s__law_refused) (lamSc e41) from lamS_by (by decide +kernel)), fun _ _ _ _ _ => rfl, fun A outer s H E f c' h => (pe_call (ok_levels_that T SH BE) (h.mono (by decide)) (by rfl) T.levels_that.m T.levels_that.f.kp (bd_levels_that T) .nil (passX rfl rfl rfl rfl) (pa_cons (pv 1) (pa_cons (pv 2) (pa_cons (pv 3) (pa_cons (pv 9) pa_nil)))))⟩ (ok_cons ⟨(show LamS (defScope s__law_refused) (lamSc e42) from lamS_by (by decide +kernel)), fun _ _ _ _ _ => rfl, fun A outer s H E f c' h => (pe_call (ok_level_of T) (h.mono (by decide)) (by rfl) T.level_of.m T.level_of.f.kp (bd_level_of T) .nil (passX rfl rfl rfl rfl) (pa_cons pe_int (pa_cons (pv 9) pa_nil)))⟩ ok_nil)))) (fun H0 h0 f pre t' Wk => caught_workL Wk T._law_caught.f sc__law_caught rfl rfl rfl rfl rfl T.reel.g (by decide) (by decide) (by decide) (by decide) (by decide) (by decide) (by decide)) (by rfl) T._law_caught.m T._law_caught.f.kp (bd__law_caught T) passE (hr.mono (by decide)) hg rfl (.inl rfl)) (pa_cons (pe_glob (v := .ref T.BadLoss.C) (by rfl) T.BadLoss.g rfl) pa_nil))))) (pss_one (ps_ret pe_bl)) pss_nil)))
      (pss_one (ps_ret pe_bl)))))))))), ?_⟩
    obtain ⟨fa, dx, fh, fw, rfl, hfa, b1, b2, b3⟩ := hF
    have offF : fa ≠ st ∧ fa ≠ lg := by
      obtain ⟨_, _, _, _, S', _⟩ := S
      exact ⟨ne_of hfa S'.d (by intro z; cases z), ne_of hfa S'.l (by intro z; cases z)⟩
    -- odd, wrong
    refine ⟨_, rfl, (by show 3 ≤ sizeLine; decide), fun p hp => ⟨st, lg, cl, p, _, m, rfl, upd_same, (S.off hp).2, (by show 0 < 3; decide), (by show 3 ≤ 1000; decide), by omega, S.same (Same.new hp), fun xo Ha hxo Sa kpa => ?_⟩⟩
    have oo : OddS xo := by
      simp only [List.mem_cons, List.not_mem_nil, or_false] at hxo
      rcases hxo with h | h | h <;> subst h
      · exact .non
      · exact .int _
      · exact .str _
    have kp1 : Kp st lg H Ha := (Kp.same (Same.new hp)).trans kpa
    have hfa1 := kp1 _ _ hfa offF.1 offF.2
    refine ⟨_, rfl, _, rfl, fa, SH.C, dx, _, _, rfl, hfa1, SH.i.cl, SH.n3, rfl, _, _, rfl, rfl, _, rfl, fa, SH.C, dx, _, _, rfl, hfa1, SH.i.cl, SH.n4, rfl, _, _, rfl, rfl, (by show 5 ≤ sizeLine; decide), fun p2 hp2 => ?_⟩
    refine ⟨st, lg, cl, p2, _, m + 1, rfl, upd_same, (Sa.off hp2).2, (by show 0 < 5; decide), (by show 5 ≤ 1000; decide), by omega, Sa.same (Same.new hp2), fun xw Hb hxw Sb kpb => ⟨(by show 2 ≤ sizeLine; decide), fun p3 hp3 => ⟨p3, _, rfl, SqT.of upd_same, rfl, _, _, rfl, _, _, rfl, rfl, ?_⟩⟩⟩
    have fw1 : (∀ H, ∃ b, Pl K H xw b) ∧ within xw lo hi = false := by
      simp only [List.mem_cons, List.not_mem_nil, or_false] at hxw
      rcases hxw with h | h | h | h | h <;> subst h
      · exact ⟨fun H => ⟨_, .int _⟩, by simp [within]; omega⟩
      · exact ⟨fun H => ⟨_, .int _⟩, by simp [within]; omega⟩
      · exact ⟨fun H => ⟨_, .non⟩, rfl⟩
      · exact ⟨fun H => ⟨_, .bl _⟩, rfl⟩
      · exact ⟨fun H => ⟨_, .str _⟩, rfl⟩
    have kp2 : Kp st lg H (upd Hb p3 (.tup [xo, xw])) := ((kp1.trans (Kp.same (Same.new hp2))).trans kpb).trans (Kp.same (Same.new hp3))
    have Sc := Sb.same (Same.new (o := .tup [xo, xw]) hp3)
    generalize upd Hb p3 (.tup [xo, xw]) = Hc at kp2 Sc ⊢
    -- bad, worse
    refine ⟨_, rfl, _, rfl, (by show 5 ≤ sizeLine; decide), fun p4 hp4 => ⟨st, lg, cl, p4, _, m + 2, rfl, upd_same, (Sc.off hp4).2, (by show 0 < 5; decide), (by show 5 ≤ 1000; decide), by omega, Sc.same (Same.new hp4), fun xb Hd hxb Sd kpd => ?_⟩⟩
    have fb1 : (∀ H, ∃ b, Pl K H xb b) ∧ within xb (-32767) 32767 = false := by
      simp only [List.mem_cons, List.not_mem_nil, or_false] at hxb
      rcases hxb with h | h | h | h | h <;> subst h
      · exact ⟨fun H => ⟨_, .int _⟩, by decide⟩
      · exact ⟨fun H => ⟨_, .int _⟩, by decide⟩
      · exact ⟨fun H => ⟨_, .non⟩, rfl⟩
      · exact ⟨fun H => ⟨_, .bl _⟩, rfl⟩
      · exact ⟨fun H => ⟨_, .str _⟩, rfl⟩
    refine ⟨_, rfl, _, rfl, (by show 5 ≤ sizeLine; decide), fun p5 hp5 => ⟨st, lg, cl, p5, _, m + 3, rfl, upd_same, (Sd.off hp5).2, (by show 0 < 5; decide), (by show 5 ≤ 1000; decide), by omega, Sd.same (Same.new hp5), fun xe He hxe Se kpe => ⟨(by show 2 ≤ sizeLine; decide), fun p6 hp6 => ⟨p6, _, rfl, SqT.of upd_same, rfl, _, _, rfl, _, _, rfl, rfl, ?_⟩⟩⟩⟩
    have fe1 : (∀ H, ∃ b, Pl K H xe b) ∧ within xe 0 7 = false := by
      simp only [List.mem_cons, List.not_mem_nil, or_false] at hxe
      rcases hxe with h | h | h | h | h <;> subst h
      · exact ⟨fun H => ⟨_, .int _⟩, by decide⟩
      · exact ⟨fun H => ⟨_, .int _⟩, by decide⟩
      · exact ⟨fun H => ⟨_, .non⟩, rfl⟩
      · exact ⟨fun H => ⟨_, .bl _⟩, rfl⟩
      · exact ⟨fun H => ⟨_, .str _⟩, rfl⟩
    have kp3 : Kp st lg H (upd He p6 (.tup [xb, xe])) := (((kp2.trans (Kp.same (Same.new hp4))).trans kpd).trans ((Kp.same (Same.new hp5)).trans kpe)).trans (Kp.same (Same.new hp6))
    have Sf := Se.same (Same.new (o := .tup [xb, xe]) hp6)
    have B : Bun Pt st lg cl (m + 4) H (upd He p6 (.tup [xb, xe])) fa (.ins SH.C dx (shapeFs fh fw lo hi)) := ⟨Sf, tabs_kp Tb S kp3, kp3 _ _ hfa offF.1 offF.2, .kp kp3⟩
    show tCut _ _ _ [some (V.ref st), some (V.ref fa), some (V.int g), some (V.int s), none, none, none, some xb, some xo, some xe, some xw] (upd He p6 (.tup [xb, xe]))
    generalize upd He p6 (.tup [xb, xe]) = H1 at B ⊢
    clear kp3 Sf Se kpe hp6 hp5 Sd kpd hp4 Sc kp2 Sb kpb hp3 hp2 hp hfa1 kp1 Sa kpa hxe hxb hxw hxo hfa S Tb
    obtain ⟨pw, ww⟩ := fw1
    obtain ⟨pb, wb⟩ := fb1
    obtain ⟨pe', we⟩ := fe1
    have nt : ∀ tb, HO.ins SH.C dx (shapeFs fh fw lo hi) ≠ .tbl tb := fun _ z => by cases z
    have shv : ∀ {H' : Hp}, H' fa = some (.ins SH.C dx (shapeFs fh fw lo hi)) → ShV SH.C H' (.ref fa) lo hi := fun h => ⟨fa, dx, fh, fw, rfl, h, b1, b2, b3⟩
    have in_r : ∀ {i lo hi : Int} {A : Prop}, lo ≤ i → i ≤ hi → within (.int i) lo hi = false → A := fun h1 h2 z => by
      simp [within, h1, h2] at z
    refine ⟨fun σ' H' => (∃ v4 v5 v6, σ' = [some (V.ref st), some (V.ref fa), some (V.int g), some (V.int s), v4, v5, v6, some xb, some xo, some xe, some xw]) ∧ Bun Pt st lg cl (m + 4) H H' fa (HO.ins SH.C dx (shapeFs fh fw lo hi)), ?_, ?_⟩
    · refine ⟨B.Tb, fun Ha ea Ta f1 c1 hf1 hc1 => ⟨Ta.ext (Same.new hf1), fun Hb eb Tb2 f2 c2 hf2 hc2 => ⟨(by show 2 ≤ sizeLine; decide), fun p hp => ?_⟩⟩⟩
      obtain ⟨Ba, l1⟩ := lam_step (L1 := LamO (envOfC "_law_refused" (defScope s__law_refused) s0.heap.objs.size T._law_refused.a (.ref c)) (lamP e10) (lamB e10) (lamSc e10) f1 c1) B nt ea Ta hf1 hc1
      obtain ⟨Bb, l2⟩ := lam_step (L1 := LamO (envOfC "_law_refused" (defScope s__law_refused) s0.heap.objs.size T._law_refused.a (.ref c)) (lamP e11) (lamB e11) (lamSc e11) f2 c2) Ba nt eb Tb2 hf2 hc2
      have l1 := (l1.ext lamO_tbl eb).same (Same.new (o := LamO (envOfC "_law_refused" (defScope s__law_refused) s0.heap.objs.size T._law_refused.a (.ref c)) (lamP e11) (lamB e11) (lamSc e11) f2 c2) hf2)
      have B := Bb.same (Same.new (o := .lst [V.ref f1, V.ref f2]) hp)
      have l1 := l1.same (Same.new (o := .lst [V.ref f1, V.ref f2]) hp)
      have l2 := l2.same (Same.new (o := .lst [V.ref f1, V.ref f2]) hp)
      refine ⟨p, rfl, ⟨_, SqL.of upd_same⟩, for_list (xs := [V.ref f1, V.ref f2]) (fun _ σ H' => (∃ v4 v5, σ = [some (V.ref st), some (V.ref fa), some (V.int g), some (V.int s), v4, v5, none, some xb, some xo, some xe, some xw]) ∧ Bun Pt st lg cl (m + 4) H H' fa (HO.ins SH.C dx (shapeFs fh fw lo hi)) ∧ Lm H' f1 c1 (LamO (envOfC "_law_refused" (defScope s__law_refused) s0.heap.objs.size T._law_refused.a (.ref c)) (lamP e10) (lamB e10) (lamSc e10) f1 c1) lamQ ∧ Lm H' f2 c2 (LamO (envOfC "_law_refused" (defScope s__law_refused) s0.heap.objs.size T._law_refused.a (.ref c)) (lamP e11) (lamB e11) (lamSc e11) f2 c2) lamQ ∧ H' p = some (.lst [V.ref f1, V.ref f2])) ⟨⟨_, _, rfl⟩, B, l1, l2, upd_same⟩ (fun i σ H' _ h => SqL.of h.2.2.2.2) ?_ fun σ' H' ⟨⟨v4, v5, e⟩, B, _⟩ => ⟨⟨v4, v5, _, e⟩, B⟩⟩
      rintro i x σ H' hx ⟨⟨v4, v5, rfl⟩, B, l1, l2, hl⟩
      have hx2 : x = V.ref f1 ∨ x = V.ref f2 := by
        have := List.mem_of_getElem? hx
        simpa only [List.mem_cons, List.not_mem_nil, or_false] using this
      obtain ⟨q1, pxw⟩ := pw H'
      obtain ⟨q2, pxb⟩ := pb H'
      obtain ⟨q3, pxe⟩ := pe' H'
      rcases hx2 with rfl | rfl
      · refine ⟨_, List.mem_cons_self, f1, c1, rfl, l1.f, l1.c, rfl, ⟨l1.f, l1.c⟩, fun Q1 hQ1 => ⟨_, rfl, _, rfl, _, rfl, _, rfl, xo, xw, xb, xe, _, _, rfl, pxb, pxe, _, pxw, .inl ⟨oo, fun d hd => ⟨exd_exm T.reel BE, fun a ha => ?_⟩⟩⟩⟩
        have e2 : (upd (upd H' d (.xd [("part", V.non)])) a (ExV (.ref BE.C) (some d) a)) d = some (.xd [("part", V.non)]) := (upd_ne (ne_of_none upd_same ha)).trans upd_same
        have sm := (Same.new (o := .xd [("part", V.non)]) hd).trans (Same.new (o := ExV (.ref BE.C) (some d) a) ha)
        refine ⟨_, rfl, .inr ⟨a, BE.C, d, _, _, _, true, rfl, upd_same, e2, BE.x, .own _, kit_self, _, rfl, ?_⟩⟩
        exact iteF ⟨_, rfl, a, d, _, rfl, upd_same, e2, rfl, _, rfl, iteF ⟨⟨_, _, rfl⟩, B.same sm, l1.same sm, l2.same sm, sm _ _ hl⟩⟩
      · refine ⟨_, List.mem_cons_of_mem _ List.mem_cons_self, f2, c2, rfl, l2.f, l2.c, rfl, ⟨l2.f, l2.c⟩, fun Q1 hQ1 => ⟨_, rfl, _, rfl, _, rfl, _, rfl, xo, xw, xw, xe, _, _, rfl, pxw, pxe, _, pxw, .inl ⟨oo, fun d hd => ⟨exd_exm T.reel BE, fun a ha => ?_⟩⟩⟩⟩
        have e2 : (upd (upd H' d (.xd [("part", V.non)])) a (ExV (.ref BE.C) (some d) a)) d = some (.xd [("part", V.non)]) := (upd_ne (ne_of_none upd_same ha)).trans upd_same
        have sm := (Same.new (o := .xd [("part", V.non)]) hd).trans (Same.new (o := ExV (.ref BE.C) (some d) a) ha)
        refine ⟨_, rfl, .inr ⟨a, BE.C, d, _, _, _, true, rfl, upd_same, e2, BE.x, .own _, kit_self, _, rfl, ?_⟩⟩
        exact iteF ⟨_, rfl, a, d, _, rfl, upd_same, e2, rfl, _, rfl, iteF ⟨⟨_, _, rfl⟩, B.same sm, l1.same sm, l2.same sm, sm _ _ hl⟩⟩
    rintro σ H1 ⟨⟨v4, v5, v6, rfl⟩, B⟩
    refine ⟨fun σ' H' => (∃ v4 v5 v6, σ' = [some (V.ref st), some (V.ref fa), some (V.int g), some (V.int s), v4, v5, v6, some xb, some xo, some xe, some xw]) ∧ Bun Pt st lg cl (m + 4) H H' fa (HO.ins SH.C dx (shapeFs fh fw lo hi)), ?_, ?_⟩
    · refine ⟨B.Tb, fun Ha ea Ta f1 c1 hf1 hc1 => ⟨Ta.ext (Same.new hf1), fun Hb eb Tb2 f2 c2 hf2 hc2 => ⟨(by show 2 ≤ sizeLine; decide), fun p hp => ?_⟩⟩⟩
      obtain ⟨Ba, l1⟩ := lam_step (L1 := LamO (envOfC "_law_refused" (defScope s__law_refused) s0.heap.objs.size T._law_refused.a (.ref c)) (lamP e20) (lamB e20) (lamSc e20) f1 c1) B nt ea Ta hf1 hc1
      obtain ⟨Bb, l2⟩ := lam_step (L1 := LamO (envOfC "_law_refused" (defScope s__law_refused) s0.heap.objs.size T._law_refused.a (.ref c)) (lamP e21) (lamB e21) (lamSc e21) f2 c2) Ba nt eb Tb2 hf2 hc2
      have l1 := (l1.ext lamO_tbl eb).same (Same.new (o := LamO (envOfC "_law_refused" (defScope s__law_refused) s0.heap.objs.size T._law_refused.a (.ref c)) (lamP e21) (lamB e21) (lamSc e21) f2 c2) hf2)
      have B := Bb.same (Same.new (o := .lst [V.ref f1, V.ref f2]) hp)
      have l1 := l1.same (Same.new (o := .lst [V.ref f1, V.ref f2]) hp)
      have l2 := l2.same (Same.new (o := .lst [V.ref f1, V.ref f2]) hp)
      refine ⟨p, rfl, ⟨_, SqL.of upd_same⟩, for_list (xs := [V.ref f1, V.ref f2]) (fun _ σ H' => (∃ v4 v5, σ = [some (V.ref st), some (V.ref fa), some (V.int g), some (V.int s), v4, v5, v6, some xb, some xo, some xe, some xw]) ∧ Bun Pt st lg cl (m + 4) H H' fa (HO.ins SH.C dx (shapeFs fh fw lo hi)) ∧ Lm H' f1 c1 (LamO (envOfC "_law_refused" (defScope s__law_refused) s0.heap.objs.size T._law_refused.a (.ref c)) (lamP e20) (lamB e20) (lamSc e20) f1 c1) lamQ ∧ Lm H' f2 c2 (LamO (envOfC "_law_refused" (defScope s__law_refused) s0.heap.objs.size T._law_refused.a (.ref c)) (lamP e21) (lamB e21) (lamSc e21) f2 c2) lamQ ∧ H' p = some (.lst [V.ref f1, V.ref f2])) ⟨⟨_, _, rfl⟩, B, l1, l2, upd_same⟩ (fun i σ H' _ h => SqL.of h.2.2.2.2) ?_ fun σ' H' ⟨⟨v4, v5, e⟩, B, _⟩ => ⟨⟨v4, v5, _, e⟩, B⟩⟩
      · rintro i x σ H' hx ⟨⟨v4, v5, rfl⟩, B, l1, l2, hl⟩
        have hx2 : x = V.ref f1 ∨ x = V.ref f2 := by
          have := List.mem_of_getElem? hx
          simpa only [List.mem_cons, List.not_mem_nil, or_false] using this
        obtain ⟨q1, pxw⟩ := pw H'
        obtain ⟨q2, pxb⟩ := pb H'
        obtain ⟨q3, pxe⟩ := pe' H'
        rcases hx2 with rfl | rfl
        · refine ⟨_, List.mem_cons_self, f1, c1, rfl, l1.f, l1.c, rfl, ⟨l1.f, l1.c⟩, fun Q1 hQ1 => ⟨_, rfl, _, rfl, _, rfl, _, rfl, _, xw, xb, xe, _, _, rfl, pxb, pxe, _, pxw, .inr ⟨lo, hi, shv B.F, fun _ => ⟨T.BadGuess.exm T.reel, fun a ha => ?_⟩, fun g' e h1 h2 => by (subst e; exact in_r h1 h2 ww)⟩⟩⟩
          exact .inr ⟨a, T.BadGuess.C, _, _, true, rfl, upd_same, T.BadGuess.e, .own _, kit_self, _, rfl, iteF ⟨⟨_, _, rfl⟩, B.same (Same.new ha), l1.same (Same.new ha), l2.same (Same.new ha), (Same.new ha) _ _ hl⟩⟩
        · refine ⟨_, (List.mem_cons_of_mem _ List.mem_cons_self), f2, c2, rfl, l2.f, l2.c, rfl, ⟨l2.f, l2.c⟩, fun Q1 hQ1 => ⟨_, rfl, _, rfl, _, rfl, _, rfl, _, xw, xw, xe, _, _, rfl, pxw, pxe, _, pxw, .inr ⟨lo, hi, shv B.F, fun _ => ⟨T.BadGuess.exm T.reel, fun a ha => ?_⟩, fun g' e h1 h2 => by (subst e; exact in_r h1 h2 ww)⟩⟩⟩
          exact .inr ⟨a, T.BadGuess.C, _, _, true, rfl, upd_same, T.BadGuess.e, .own _, kit_self, _, rfl, iteF ⟨⟨_, _, rfl⟩, B.same (Same.new ha), l1.same (Same.new ha), l2.same (Same.new ha), (Same.new ha) _ _ hl⟩⟩
    rintro σ H1 ⟨⟨v4, v5, v6, rfl⟩, B⟩
    -- works
    refine ⟨B.Tb, fun Ha ea Ta f1 c1 hf1 hc1 => ⟨Ta.ext (Same.new hf1), fun Hb eb Tb2 f2 c2 hf2 hc2 => ⟨(by show 2 ≤ sizeLine; decide), fun p hp => ?_⟩⟩⟩
    obtain ⟨Ba, l1⟩ := lam_step (L1 := LamO (envOfC "_law_refused" (defScope s__law_refused) s0.heap.objs.size T._law_refused.a (.ref c)) (lamP e30) (lamB e30) (lamSc e30) f1 c1) B nt ea Ta hf1 hc1
    obtain ⟨Bb, l2⟩ := lam_step (L1 := LamO (envOfC "_law_refused" (defScope s__law_refused) s0.heap.objs.size T._law_refused.a (.ref c)) (lamP e31) (lamB e31) (lamSc e31) f2 c2) Ba nt eb Tb2 hf2 hc2
    have l1 := (l1.ext lamO_tbl eb).same (Same.new (o := LamO (envOfC "_law_refused" (defScope s__law_refused) s0.heap.objs.size T._law_refused.a (.ref c)) (lamP e31) (lamB e31) (lamSc e31) f2 c2) hf2)
    have B := Bb.same (Same.new (o := .lst [V.ref f1, V.ref f2]) hp)
    have l1 := l1.same (Same.new (o := .lst [V.ref f1, V.ref f2]) hp)
    have l2 := l2.same (Same.new (o := .lst [V.ref f1, V.ref f2]) hp)
    have hl : (upd (upd Hb f2 (LamO (envOfC "_law_refused" (defScope s__law_refused) s0.heap.objs.size T._law_refused.a (.ref c)) (lamP e31) (lamB e31) (lamSc e31) f2 c2)) p (.lst [V.ref f1, V.ref f2])) p = some (.lst [V.ref f1, V.ref f2]) := upd_same
    show tCut _ _ _ [some (V.ref st), some (V.ref fa), some (V.int g), some (V.int s), v4, v5, some (V.ref p), some xb, some xo, some xe, some xw] (upd (upd Hb f2 (LamO (envOfC "_law_refused" (defScope s__law_refused) s0.heap.objs.size T._law_refused.a (.ref c)) (lamP e31) (lamB e31) (lamSc e31) f2 c2)) p (.lst [V.ref f1, V.ref f2]))
    generalize upd (upd Hb f2 (LamO (envOfC "_law_refused" (defScope s__law_refused) s0.heap.objs.size T._law_refused.a (.ref c)) (lamP e31) (lamB e31) (lamSc e31) f2 c2)) p (.lst [V.ref f1, V.ref f2]) = H2 at B l1 l2 hl ⊢
    refine ⟨fun σ' H' => (∃ v4 v5 v6, σ' = [some (V.ref st), some (V.ref fa), some (V.int g), some (V.int s), v4, v5, v6, some xb, some xo, some xe, some xw]) ∧ Bun Pt st lg cl (m + 4) H H' fa (HO.ins SH.C dx (shapeFs fh fw lo hi)), ?_, ?_⟩
    · refine ⟨_, rfl, B.Tb, fun Hc ec Tc f3 c3 hf3 hc3 => ⟨(by show 1 ≤ sizeLine; decide), fun p2 hp2 => ?_⟩⟩
      obtain ⟨B, l3⟩ := lam_step (L1 := LamO (envOfC "_law_refused" (defScope s__law_refused) s0.heap.objs.size T._law_refused.a (.ref c)) (lamP e32) (lamB e32) (lamSc e32) f3 c3) B nt ec Tc hf3 hc3
      have l1 := (l1.ext lamO_tbl ec).same (Same.new (o := LamO (envOfC "_law_refused" (defScope s__law_refused) s0.heap.objs.size T._law_refused.a (.ref c)) (lamP e32) (lamB e32) (lamSc e32) f3 c3) hf3)
      have l2 := (l2.ext lamO_tbl ec).same (Same.new (o := LamO (envOfC "_law_refused" (defScope s__law_refused) s0.heap.objs.size T._law_refused.a (.ref c)) (lamP e32) (lamB e32) (lamSc e32) f3 c3) hf3)
      have hl := (Same.new (o := LamO (envOfC "_law_refused" (defScope s__law_refused) s0.heap.objs.size T._law_refused.a (.ref c)) (lamP e32) (lamB e32) (lamSc e32) f3 c3) hf3) _ _ (ec _ _ hl fun _ z => by cases z)
      have n2 : p ≠ p2 := ne_of_none hl hp2
      refine ⟨p, p2, _, _, rfl, rfl, (upd_ne n2).trans hl, upd_same, (by show 3 ≤ sizeLine; decide), fun p3 hp3 => ?_⟩
      have sm := (Same.new (o := .lst [V.ref f3]) hp2).trans (Same.new (o := .lst [V.ref f1, V.ref f2, V.ref f3]) hp3)
      refine ⟨p3, rfl, ⟨_, SqL.of upd_same⟩, for_list (xs := [V.ref f1, V.ref f2, V.ref f3]) (fun _ σ H' => (∃ v4 v5, σ = [some (V.ref st), some (V.ref fa), some (V.int g), some (V.int s), v4, v5, some (V.ref p), some xb, some xo, some xe, some xw]) ∧ Bun Pt st lg cl (m + 4) H H' fa (HO.ins SH.C dx (shapeFs fh fw lo hi)) ∧ Lm H' f1 c1 (LamO (envOfC "_law_refused" (defScope s__law_refused) s0.heap.objs.size T._law_refused.a (.ref c)) (lamP e30) (lamB e30) (lamSc e30) f1 c1) lamQ ∧ Lm H' f2 c2 (LamO (envOfC "_law_refused" (defScope s__law_refused) s0.heap.objs.size T._law_refused.a (.ref c)) (lamP e31) (lamB e31) (lamSc e31) f2 c2) lamQ ∧ Lm H' f3 c3 (LamO (envOfC "_law_refused" (defScope s__law_refused) s0.heap.objs.size T._law_refused.a (.ref c)) (lamP e32) (lamB e32) (lamSc e32) f3 c3) lamQ ∧ H' p3 = some (.lst [V.ref f1, V.ref f2, V.ref f3])) ⟨⟨_, _, rfl⟩, B.same sm, l1.same sm, l2.same sm, l3.same sm, upd_same⟩ (fun i σ H' _ h => SqL.of h.2.2.2.2.2) ?_ fun σ' H' ⟨⟨v4, v5, e⟩, B, _⟩ => ⟨⟨v4, v5, _, e⟩, B⟩⟩
      · rintro i x σ H' hx ⟨⟨v4, v5, rfl⟩, B, l1, l2, l3, hl⟩
        have hx2 : x = V.ref f1 ∨ x = V.ref f2 ∨ x = V.ref f3 := by
          have := List.mem_of_getElem? hx
          simpa only [List.mem_cons, List.not_mem_nil, or_false] using this
        obtain ⟨q1, pxw⟩ := pw H'
        obtain ⟨q2, pxb⟩ := pb H'
        obtain ⟨q3, pxe⟩ := pe' H'
        rcases hx2 with rfl | rfl | rfl
        · refine ⟨_, List.mem_cons_self, f1, c1, rfl, l1.f, l1.c, rfl, ⟨l1.f, l1.c⟩, fun Q1 hQ1 => ⟨_, rfl, _, rfl, _, rfl, _, rfl, _, .int g, xb, xe, _, _, rfl, pxb, pxe, _, .int g, .inr ⟨lo, hi, shv B.F, fun z => in_r g1 g2 z, fun g' e h1 h2 => ⟨fun _ => ⟨T.BadNumber.exm T.reel, fun a ha => ?_⟩, fun m' e2 h3 h4 => by (subst e2; exact in_r h3 h4 wb)⟩⟩⟩⟩
          exact .inr ⟨a, T.BadNumber.C, _, _, true, rfl, upd_same, T.BadNumber.e, .own _, kit_self, _, rfl, iteF ⟨⟨_, _, rfl⟩, B.same (Same.new ha), l1.same (Same.new ha), l2.same (Same.new ha), l3.same (Same.new ha), (Same.new ha) _ _ hl⟩⟩
        · refine ⟨_, (List.mem_cons_of_mem _ List.mem_cons_self), f2, c2, rfl, l2.f, l2.c, rfl, ⟨l2.f, l2.c⟩, fun Q1 hQ1 => ⟨_, rfl, _, rfl, _, rfl, _, rfl, _, .int g, xw, xe, _, _, rfl, pxw, pxe, _, .int g, .inr ⟨lo, hi, shv B.F, fun z => in_r g1 g2 z, fun g' e h1 h2 => ⟨fun _ => ⟨T.BadNumber.exm T.reel, fun a ha => ?_⟩, fun m' e2 h3 h4 => by (subst e2; exact in_r h3 h4 ww)⟩⟩⟩⟩
          exact .inr ⟨a, T.BadNumber.C, _, _, true, rfl, upd_same, T.BadNumber.e, .own _, kit_self, _, rfl, iteF ⟨⟨_, _, rfl⟩, B.same (Same.new ha), l1.same (Same.new ha), l2.same (Same.new ha), l3.same (Same.new ha), (Same.new ha) _ _ hl⟩⟩
        · refine ⟨_, (List.mem_cons_of_mem _ (List.mem_cons_of_mem _ List.mem_cons_self)), f3, c3, rfl, l3.f, l3.c, rfl, ⟨l3.f, l3.c⟩, fun Q1 hQ1 => ⟨_, rfl, _, rfl, xb, xe, _, _, rfl, pxb, pxe, fun _ => ⟨T.BadNumber.exm T.reel, fun a ha => ?_⟩, fun r e h1 h2 => by (subst e; exact in_r h1 h2 wb)⟩⟩
          exact .inr ⟨a, T.BadNumber.C, _, _, true, rfl, upd_same, T.BadNumber.e, .own _, kit_self, _, rfl, iteF ⟨⟨_, _, rfl⟩, B.same (Same.new ha), l1.same (Same.new ha), l2.same (Same.new ha), l3.same (Same.new ha), (Same.new ha) _ _ hl⟩⟩
    rintro σ H1 ⟨⟨v4, v5, v6, rfl⟩, B⟩
    -- works
    refine ⟨B.Tb, fun Ha ea Ta f1 c1 hf1 hc1 => ⟨Ta.ext (Same.new hf1), fun Hb eb Tb2 f2 c2 hf2 hc2 => ⟨(by show 2 ≤ sizeLine; decide), fun p hp => ?_⟩⟩⟩
    obtain ⟨Ba, l1⟩ := lam_step (L1 := LamO (envOfC "_law_refused" (defScope s__law_refused) s0.heap.objs.size T._law_refused.a (.ref c)) (lamP e40) (lamB e40) (lamSc e40) f1 c1) B nt ea Ta hf1 hc1
    obtain ⟨Bb, l2⟩ := lam_step (L1 := LamO (envOfC "_law_refused" (defScope s__law_refused) s0.heap.objs.size T._law_refused.a (.ref c)) (lamP e41) (lamB e41) (lamSc e41) f2 c2) Ba nt eb Tb2 hf2 hc2
    have l1 := (l1.ext lamO_tbl eb).same (Same.new (o := LamO (envOfC "_law_refused" (defScope s__law_refused) s0.heap.objs.size T._law_refused.a (.ref c)) (lamP e41) (lamB e41) (lamSc e41) f2 c2) hf2)
    have B := Bb.same (Same.new (o := .lst [V.ref f1, V.ref f2]) hp)
    have l1 := l1.same (Same.new (o := .lst [V.ref f1, V.ref f2]) hp)
    have l2 := l2.same (Same.new (o := .lst [V.ref f1, V.ref f2]) hp)
    have hl : (upd (upd Hb f2 (LamO (envOfC "_law_refused" (defScope s__law_refused) s0.heap.objs.size T._law_refused.a (.ref c)) (lamP e41) (lamB e41) (lamSc e41) f2 c2)) p (.lst [V.ref f1, V.ref f2])) p = some (.lst [V.ref f1, V.ref f2]) := upd_same
    show tCut _ _ _ [some (V.ref st), some (V.ref fa), some (V.int g), some (V.int s), v4, v5, some (V.ref p), some xb, some xo, some xe, some xw] (upd (upd Hb f2 (LamO (envOfC "_law_refused" (defScope s__law_refused) s0.heap.objs.size T._law_refused.a (.ref c)) (lamP e41) (lamB e41) (lamSc e41) f2 c2)) p (.lst [V.ref f1, V.ref f2]))
    generalize upd (upd Hb f2 (LamO (envOfC "_law_refused" (defScope s__law_refused) s0.heap.objs.size T._law_refused.a (.ref c)) (lamP e41) (lamB e41) (lamSc e41) f2 c2)) p (.lst [V.ref f1, V.ref f2]) = H2 at B l1 l2 hl ⊢
    refine ⟨fun σ' H' => (∃ v4 v5 v6, σ' = [some (V.ref st), some (V.ref fa), some (V.int g), some (V.int s), v4, v5, v6, some xb, some xo, some xe, some xw]) ∧ Bun Pt st lg cl (m + 4) H H' fa (HO.ins SH.C dx (shapeFs fh fw lo hi)), ?_, ?_⟩
    · refine ⟨_, rfl, B.Tb, fun Hc ec Tc f3 c3 hf3 hc3 => ⟨(by show 1 ≤ sizeLine; decide), fun p2 hp2 => ?_⟩⟩
      obtain ⟨B, l3⟩ := lam_step (L1 := LamO (envOfC "_law_refused" (defScope s__law_refused) s0.heap.objs.size T._law_refused.a (.ref c)) (lamP e42) (lamB e42) (lamSc e42) f3 c3) B nt ec Tc hf3 hc3
      have l1 := (l1.ext lamO_tbl ec).same (Same.new (o := LamO (envOfC "_law_refused" (defScope s__law_refused) s0.heap.objs.size T._law_refused.a (.ref c)) (lamP e42) (lamB e42) (lamSc e42) f3 c3) hf3)
      have l2 := (l2.ext lamO_tbl ec).same (Same.new (o := LamO (envOfC "_law_refused" (defScope s__law_refused) s0.heap.objs.size T._law_refused.a (.ref c)) (lamP e42) (lamB e42) (lamSc e42) f3 c3) hf3)
      have hl := (Same.new (o := LamO (envOfC "_law_refused" (defScope s__law_refused) s0.heap.objs.size T._law_refused.a (.ref c)) (lamP e42) (lamB e42) (lamSc e42) f3 c3) hf3) _ _ (ec _ _ hl fun _ z => by cases z)
      have n2 : p ≠ p2 := ne_of_none hl hp2
      refine ⟨p, p2, _, _, rfl, rfl, (upd_ne n2).trans hl, upd_same, (by show 3 ≤ sizeLine; decide), fun p3 hp3 => ?_⟩
      have sm := (Same.new (o := .lst [V.ref f3]) hp2).trans (Same.new (o := .lst [V.ref f1, V.ref f2, V.ref f3]) hp3)
      refine ⟨p3, rfl, ⟨_, SqL.of upd_same⟩, for_list (xs := [V.ref f1, V.ref f2, V.ref f3]) (fun _ σ H' => (∃ v4 v5, σ = [some (V.ref st), some (V.ref fa), some (V.int g), some (V.int s), v4, v5, some (V.ref p), some xb, some xo, some xe, some xw]) ∧ Bun Pt st lg cl (m + 4) H H' fa (HO.ins SH.C dx (shapeFs fh fw lo hi)) ∧ Lm H' f1 c1 (LamO (envOfC "_law_refused" (defScope s__law_refused) s0.heap.objs.size T._law_refused.a (.ref c)) (lamP e40) (lamB e40) (lamSc e40) f1 c1) lamQ ∧ Lm H' f2 c2 (LamO (envOfC "_law_refused" (defScope s__law_refused) s0.heap.objs.size T._law_refused.a (.ref c)) (lamP e41) (lamB e41) (lamSc e41) f2 c2) lamQ ∧ Lm H' f3 c3 (LamO (envOfC "_law_refused" (defScope s__law_refused) s0.heap.objs.size T._law_refused.a (.ref c)) (lamP e42) (lamB e42) (lamSc e42) f3 c3) lamQ ∧ H' p3 = some (.lst [V.ref f1, V.ref f2, V.ref f3])) ⟨⟨_, _, rfl⟩, B.same sm, l1.same sm, l2.same sm, l3.same sm, upd_same⟩ (fun i σ H' _ h => SqL.of h.2.2.2.2.2) ?_ fun σ' H' ⟨⟨v4, v5, e⟩, B, _⟩ => ⟨⟨v4, v5, _, e⟩, B⟩⟩
      · rintro i x σ H' hx ⟨⟨v4, v5, rfl⟩, B, l1, l2, l3, hl⟩
        have hx2 : x = V.ref f1 ∨ x = V.ref f2 ∨ x = V.ref f3 := by
          have := List.mem_of_getElem? hx
          simpa only [List.mem_cons, List.not_mem_nil, or_false] using this
        obtain ⟨q1, pxw⟩ := pw H'
        obtain ⟨q2, pxb⟩ := pb H'
        obtain ⟨q3, pxe⟩ := pe' H'
        rcases hx2 with rfl | rfl | rfl
        · refine ⟨_, List.mem_cons_self, f1, c1, rfl, l1.f, l1.c, rfl, ⟨l1.f, l1.c⟩, fun Q1 hQ1 => ⟨_, rfl, _, rfl, _, rfl, _, .int g, .int 1, xe, _, _, rfl, .int 1, pxe, _, .int g, .inr ⟨lo, hi, shv B.F, fun z => in_r g1 g2 z, fun g' e h1 h2 => ⟨fun z => in_r (by decide) (by decide) z, fun m' e2 h3 h4 => ⟨fun _ => ⟨T.BadLoss.exm T.reel, fun a ha => ?_⟩, fun l' e3 h5 h6 => by (subst e3; exact in_r h5 h6 we)⟩⟩⟩⟩⟩
          exact .inr ⟨a, T.BadLoss.C, _, _, true, rfl, upd_same, T.BadLoss.e, .own _, kit_self, _, rfl, iteF ⟨⟨_, _, rfl⟩, B.same (Same.new ha), l1.same (Same.new ha), l2.same (Same.new ha), l3.same (Same.new ha), (Same.new ha) _ _ hl⟩⟩
        · refine ⟨_, (List.mem_cons_of_mem _ List.mem_cons_self), f2, c2, rfl, l2.f, l2.c, rfl, ⟨l2.f, l2.c⟩, fun Q1 hQ1 => ⟨_, rfl, _, rfl, _, rfl, _, rfl, _, .int g, .int s, xe, _, _, rfl, .int s, pxe, _, .int g, .inr ⟨lo, hi, shv B.F, fun z => in_r g1 g2 z, fun g' e h1 h2 => ⟨fun z => in_r s1 s2 z, fun m' e2 h3 h4 => ⟨fun _ => ⟨T.BadLoss.exm T.reel, fun a ha => ?_⟩, fun l' e3 h5 h6 => by (subst e3; exact in_r h5 h6 we)⟩⟩⟩⟩⟩
          exact .inr ⟨a, T.BadLoss.C, _, _, true, rfl, upd_same, T.BadLoss.e, .own _, kit_self, _, rfl, iteF ⟨⟨_, _, rfl⟩, B.same (Same.new ha), l1.same (Same.new ha), l2.same (Same.new ha), l3.same (Same.new ha), (Same.new ha) _ _ hl⟩⟩
        · refine ⟨_, (List.mem_cons_of_mem _ (List.mem_cons_of_mem _ List.mem_cons_self)), f3, c3, rfl, l3.f, l3.c, rfl, ⟨l3.f, l3.c⟩, fun Q1 hQ1 => ⟨_, rfl, .int 1, xe, _, _, rfl, .int 1, pxe, fun z => in_r (by decide) (by decide) z, fun r e h1 h2 => ⟨fun _ => ⟨T.BadLoss.exm T.reel, fun a ha => ?_⟩, fun l' e3 h5 h6 => by (subst e3; exact in_r h5 h6 we)⟩⟩⟩
          exact .inr ⟨a, T.BadLoss.C, _, _, true, rfl, upd_same, T.BadLoss.e, .own _, kit_self, _, rfl, iteF ⟨⟨_, _, rfl⟩, B.same (Same.new ha), l1.same (Same.new ha), l2.same (Same.new ha), l3.same (Same.new ha), (Same.new ha) _ _ hl⟩⟩
    rintro σ H1 ⟨⟨v4, v5, v6, rfl⟩, B⟩
    exact k H1 B.S B.Tb B.k
end
end K07
namespace K07
open PySem PySem.Spec PyProof.Rows L2 PySem.W LamX KA KW KU KL
open Evl (pss_cut tCut)
/-- a list of small data can be shown -/
structure Small (d : PyData) : Prop where
  l : d.leavesShort 13 = true
  w : d.weight ≤ 1000
  s : d.showable = true
  n : d.hasDict = false
  z : d.depth = 0
theorem small_int {i : Int} (h1 : -65535 ≤ i) (h2 : i ≤ 65535) : Small (.int i) := by
  obtain ⟨a, b, c⟩ := int_small h1 h2
  exact ⟨a, by omega, c, rfl, rfl⟩
theorem small_list : ∀ ds : List PyData, (∀ d ∈ ds, Small d) → PyData.leavesShortAll 13 ds = true ∧ PyData.weightAll ds ≤ 1001 * ds.length ∧ PyData.showableAll ds = true ∧ PyData.hasDictAll ds = false ∧ PyData.depthAll ds = 0
  | [], _ => ⟨rfl, Nat.zero_le _, rfl, rfl, rfl⟩
  | d :: r, h => by
    obtain ⟨a, b, c, e, f⟩ := small_list r fun x hx => h x (List.mem_cons_of_mem _ hx)
    obtain ⟨a', b', c', e', f'⟩ := h d List.mem_cons_self
    refine ⟨by simp [PyData.leavesShortAll, a, a'], ?_, by simp [PyData.showableAll, c, c'], by simp [PyData.hasDictAll, e, e'], by simp [PyData.depthAll, f, f']⟩
    simp only [PyData.weightAll, List.length_cons]
    omega
/-- repr of a list of small data -/
theorem repr_fits {ds : List PyData} (h : ∀ d ∈ ds, Small d) (hl : ds.length ≤ 10) : (PyData.list ds).showable = true ∧ (PyData.list ds).hasDict = false ∧ (PyData.list ds).depth ≤ 60 ∧ (PyData.list ds).shown.length ≤ sizeLine := by
  obtain ⟨a, b, c, e, f⟩ := small_list ds h
  refine ⟨by simpa only [PyData.showable] using c, by simpa only [PyData.hasDict] using e, ?_, small_fits (by simpa only [PyData.leavesShort] using a) ?_⟩
  · simp only [PyData.depth]
    omega
  · simp only [PyData.weight]
    have : (2 : Nat) ^ 20 = 1048576 := by decide
    omega
theorem gradeT_len (f g : Nat) : (gradeT f g).length = if 12 ≤ f / 2 ^ g then 28 else f / 2 ^ g + 1 + g := by
  unfold gradeT
  split
  · rw [len_app, onesT_len, twosT_len]
  · rw [len_app, len_app, onesT_len, twosT_len]
    have e1 : ("0" : Str).length = 1 := rfl
    omega
theorem gradeT_mono {f f' g : Nat} (h : f ≤ f') (hg : g ≤ 7) : (gradeT f g).length ≤ (gradeT f' g).length := by
  rw [gradeT_len, gradeT_len]
  have := Nat.div_le_div_right (c := 2 ^ g) h
  generalize f / 2 ^ g = q at this ⊢
  generalize f' / 2 ^ g = q' at this ⊢
  split <;> split <;> omega
theorem FnG.w {P : Program} {w : World} {K : PySem.W.Frag} {mg : Str → Option Value} {base : Heap} {CX : CXT} {k : Nat} {f : Addr} {fd : FuncData} {ps : List Str} {sp : Sp} {fs : List Addr} {H0 : Hp} {h0 : Heap} (F : FnG P w K mg base CX k f fd ps sp) : FnW P w K mg base fs H0 h0 CX k f fd ps sp :=
  ⟨F.len, fun A outer s H args us vs Q E hr hg e0 _ _ b r h => F.run A outer s H args us vs Q E hr hg e0 b r h⟩
theorem since_self {Z : Cx} (h : Z.ex = []) : Since Z Z.fs Z.H_0 Z.s_0.heap := ⟨Un.kept fun _ _ z => z, fun _ hb => .inl hb, h⟩
section
variable {K : PySem.W.Frag} {x qual : Str} {st : Stmt} {f : Addr} {fd : FuncData}
theorem Fun.kw4 {a b c d : Str} (F : Fun K x qual st f fd) (h : ∀ (kV doc pm : Value) (an : Option Addr) (cdv ct u v y z : Value), bindArgs (PySem.W.fnOf x qual (defArgs st) (defBody st) (defScope st) .none kV doc pm an cdv ct) ⟨[], [(d, u), (c, v), (b, y), (a, z)]⟩ = pure [(a, z), (b, y), (c, v), (d, u)]) :
    KBn K fd [a, b, c, d] 0 [d, c, b, a] (fun _ ws => ws.reverse) (fun _ zs => zs.reverse) := by
  obtain ⟨oc, od, kV, doc, pm, an, cdv, ct, osl, rfl, lk, hcd⟩ := F.ex
  refine ⟨fun s us ws X l1 l2 => ?_, fun {_ _ zs ws} _ r => ?_⟩
  · match us, ws, l1, l2 with
    | [], [u, v, y, z], _, _ => exact .of_eq (h kV doc pm an cdv ct u v y z)
  · clear h
    have rev : ∀ {zs : List V} {ws : List Value}, Vals zs ws → Vals zs.reverse ws.reverse := fun {zs ws} r => by
      induction r with
      | nil => exact .nil
      | cons h _ ih =>
        rw [List.reverse_cons, List.reverse_cons]
        exact ih.append (.cons h .nil)
    exact rev r
end
section
variable {lo hi g s l n r : Int}
theorem level_div (hl : 0 ≤ l) : 0 ≤ ((if r < 0 then -r else r) + l) / (2 * l + 1) ∧ ((if r < 0 then -r else r) + l) / (2 * l + 1) ≤ (if r < 0 then -r else r) + l ∧
    (if r < 0 then -r else r) - l ≤ ((if r < 0 then -r else r) + l) / (2 * l + 1) * (2 * l + 1) ∧ ((if r < 0 then -r else r) + l) / (2 * l + 1) * (2 * l + 1) ≤ (if r < 0 then -r else r) + l := by
  have h0 : 0 ≤ (if r < 0 then -r else r) := by split <;> omega
  generalize (if r < 0 then -r else r) = x at h0 ⊢
  have p : (0 : Int) < 2 * l + 1 := by omega
  have a := Int.ediv_nonneg (a := x + l) (b := 2 * l + 1) (by omega) (by omega)
  have b := Int.ediv_le_self (b := 2 * l + 1) (a := x + l) (by omega)
  have c := (Int.le_ediv_iff_mul_le (a := (x + l) / (2 * l + 1)) (b := x + l) p).mp (Int.le_refl _)
  have d := Int.lt_ediv_add_one_mul_self (x + l) p
  rw [Int.add_mul] at d
  exact ⟨a, b, by omega, c⟩
theorem level_small (hl : 0 ≤ l) (h1 : -32767 ≤ r) (h2 : r ≤ 32767) (h3 : l ≤ 7) : -32774 ≤ levelI r l ∧ levelI r l ≤ 32774 := by
  obtain ⟨a, b, _, _⟩ := level_div (r := r) hl
  unfold levelI
  generalize ((if r < 0 then -r else r) + l) / (2 * l + 1) = q at a b ⊢
  have : (if r < 0 then -r else r) ≤ 32767 := by split <;> omega
  split <;> omega
theorem level_near (hl : 0 ≤ l) (h1 : -1023 ≤ r) (h2 : r ≤ 1023) (h3 : l ≤ 7) : -32767 ≤ levelI r l ∧ levelI r l ≤ 32767 := by
  obtain ⟨a, b, _, _⟩ := level_div (r := r) hl
  unfold levelI
  generalize ((if r < 0 then -r else r) + l) / (2 * l + 1) = q at a b ⊢
  have : (if r < 0 then -r else r) ≤ 1023 := by split <;> omega
  split <;> omega
/-- what is rebuilt of the level of the rest is not farther than the loss -/
theorem near_err (hl : 0 ≤ l) (h1 : lo ≤ s) (h2 : s ≤ hi) : (if clipI lo hi (g + levelI (s - g) l * (2 * l + 1)) - s < 0 then -(clipI lo hi (g + levelI (s - g) l * (2 * l + 1)) - s) else clipI lo hi (g + levelI (s - g) l * (2 * l + 1)) - s) ≤ l := by
  rw [clip_eq (by omega)]
  obtain ⟨_, _, c, d⟩ := level_div (r := s - g) hl
  have e : levelI (s - g) l * (2 * l + 1) = if 0 ≤ s - g then ((if s - g < 0 then -(s - g) else s - g) + l) / (2 * l + 1) * (2 * l + 1) else -(((if s - g < 0 then -(s - g) else s - g) + l) / (2 * l + 1) * (2 * l + 1)) := by
    unfold levelI
    by_cases z : 0 ≤ s - g
    · rw [if_pos z, if_pos z]
    · rw [if_neg z, if_neg z, Int.neg_mul]
  rw [e]
  generalize ((if s - g < 0 then -(s - g) else s - g) + l) / (2 * l + 1) * (2 * l + 1) = y at c d ⊢
  (repeat' split at c) <;> (repeat' split at d) <;> (repeat' split) <;> omega
theorem clip_mono {a b : Int} (h : lo ≤ hi) (k : a ≤ b) : clipI lo hi a ≤ clipI lo hi b := by
  rw [clip_eq h, clip_eq h]
  (repeat' split) <;> omega
theorem clip_in (h : lo ≤ hi) : lo ≤ clipI lo hi n ∧ clipI lo hi n ≤ hi := by
  rw [clip_eq h]
  (repeat' split) <;> omega
theorem with_clip (h : lo ≤ hi) : withI lo hi n = clipI lo hi n := by rw [with_eq h, clip_eq h]
theorem span_zero (h1 : lo ≤ s) (h2 : s ≤ hi) (h3 : -1023 ≤ s - g) (h4 : s - g ≤ 1023) : leastI lo g s 0 ≤ s - g ∧ s - g ≤ greatI hi g s 0 := by
  unfold leastI greatI
  rw [show (2 * 0 + 1 : Int) = 1 by decide, Int.ediv_one, Int.ediv_one]
  constructor <;> split <;> omega
theorem least_small (hl : 0 ≤ l) (h3 : -1023 ≤ s - g) (h4 : s - g ≤ 1023) : -32767 ≤ leastI lo g s l ∧ leastI lo g s l ≤ 32767 := by
  obtain ⟨a, b⟩ := near_small (g := g) (s := s) hl h3 h4
  obtain ⟨c, d⟩ := near_least (g := g) (s := s) hl
  unfold leastI
  split <;> omega
theorem great_small (hl : 0 ≤ l) (h3 : -1023 ≤ s - g) (h4 : s - g ≤ 1023) : -32767 ≤ greatI hi g s l ∧ greatI hi g s l ≤ 32767 := by
  obtain ⟨a, b⟩ := near_small (g := g) (s := s) hl h3 h4
  unfold greatI
  split <;> omega
/-- the level of the span that is nearest to 0 -/
def bestI (a b : Int) : Int := if b < (if a > 0 then a else 0) then b else (if a > 0 then a else 0)
theorem best_in {a b : Int} (h : a ≤ b) : a ≤ bestI a b ∧ bestI a b ≤ b := by
  unfold bestI
  (repeat' split) <;> omega
theorem best_fold {a b e : Int} (h : a ≤ b) (h1 : a ≤ e) (h2 : e ≤ b) : foldI (bestI a b) ≤ foldI e := by
  unfold bestI foldI
  (repeat' split) <;> omega
end
/-! ### repr of two spans -/
theorem two_fits {d : PyData} (h1 : d.showable = true) (h2 : d.hasDict = false) (h3 : d.depth ≤ 10) (h4 : d.leavesShort 13 = true) (h5 : d.weight ≤ 5000) : (PyData.list [d, d]).showable = true ∧ (PyData.list [d, d]).hasDict = false ∧ (PyData.list [d, d]).depth ≤ 60 ∧ (PyData.list [d, d]).shown.length ≤ sizeLine := by
  refine ⟨by simp [PyData.showable, PyData.showableAll, h1], by simp [PyData.hasDict, PyData.hasDictAll, h2], ?_, small_fits (by simp [PyData.leavesShort, PyData.leavesShortAll, h4]) ?_⟩
  · simp only [PyData.depth, PyData.depthAll]
    omega
  · simp only [PyData.weight, PyData.weightAll]
    have : (2 : Nat) ^ 20 = 1048576 := by decide
    omega
theorem pair_data {i j : Int} (h1 : -65535 ≤ i) (h2 : i ≤ 65535) (h3 : -65535 ≤ j) (h4 : j ≤ 65535) : (PyData.tuple [.int i, .int j]).showable = true ∧ (PyData.tuple [.int i, .int j]).hasDict = false ∧ (PyData.tuple [.int i, .int j]).depth ≤ 10 ∧ (PyData.tuple [.int i, .int j]).leavesShort 13 = true ∧ (PyData.tuple [.int i, .int j]).weight ≤ 5000 := by
  obtain ⟨a, b, c⟩ := int_small h1 h2
  obtain ⟨a', b', c'⟩ := int_small h3 h4
  refine ⟨by simp [PyData.showable, PyData.showableAll] at c c' ⊢; exact ⟨c, c'⟩, by simp [PyData.hasDict, PyData.hasDictAll], by simp [PyData.depth, PyData.depthAll], by simp [PyData.leavesShort, PyData.leavesShortAll] at a a' ⊢; exact ⟨a, a'⟩, ?_⟩
  simp only [PyData.weight, PyData.weightAll] at b b' ⊢
  omega
end K07
namespace K07
open PySem PySem.Spec PyProof.Rows L2 PySem.W LamX KA KW KU KL
open Evl (pss_cut tCut)
theorem in_range {i lo hi : Int} (h1 : lo ≤ i) (h2 : i ≤ hi) : within (.int i) lo hi = true := by simp [within, h1, h2]
theorem no_range {i lo hi : Int} {A : Prop} (h1 : lo ≤ i) (h2 : i ≤ hi) (w : within (.int i) lo hi = false) : A := by
  rw [in_range h1 h2] at w
  cases w
/-- what stands while the law goes through its checks -/
structure LB (C Pt st lg cl : Addr) (m : Nat) (H : Hp) (ad fa : Addr) (t w lo hi : Int) : Prop where
  S : StAt H st lg cl m
  Tb : Tabs (tabs Pt) H
  Sc : ScV H ad t w lo hi
  F : ShV C H (.ref fa) lo hi
  n1 : ad ≠ st ∧ ad ≠ lg
  n2 : fa ≠ st ∧ fa ≠ lg
theorem ShV.off {C st lg cl : Addr} {m : Nat} {H : Hp} {fa : Addr} {lo hi : Int} (h : ShV C H (.ref fa) lo hi) (S : StAt H st lg cl m) : fa ≠ st ∧ fa ≠ lg := by
  obtain ⟨a, dx, _, _, e, h1, _⟩ := h
  cases e
  obtain ⟨_, _, _, _, S', _⟩ := S
  exact ⟨ne_of h1 S'.d (by intro z; cases z), ne_of h1 S'.l (by intro z; cases z)⟩
theorem ShV.kp {C st lg : Addr} {H H' : Hp} {fa : Addr} {lo hi : Int} (h : ShV C H (.ref fa) lo hi) (n : fa ≠ st ∧ fa ≠ lg) (e : Kp st lg H H') : ShV C H' (.ref fa) lo hi := h.keep fun a o e1 e2 => by
  cases e1
  exact e _ _ e2 n.1 n.2
theorem LB.same {C Pt st lg cl : Addr} {m : Nat} {H H' : Hp} {ad fa : Addr} {t w lo hi : Int} (B : LB C Pt st lg cl m H ad fa t w lo hi) (e : Same H H') : LB C Pt st lg cl m H' ad fa t w lo hi :=
  ⟨B.S.same e, B.Tb.ext e, B.Sc.keep (e _), B.F.keep fun a o _ q => e _ _ q, B.n1, B.n2⟩
section
variable {K : PySem.W.Frag} {C CB CG CN CL : Addr} {H : Hp} {Q : VK} {E : XK} {x : V} {n l g s lo hi : Int}
theorem level_at (n1 : -32767 ≤ n) (n2 : n ≤ 32767) (l1 : 0 ≤ l) (l2 : l ≤ 7) (q : Q (.int (levelI n l)) H) : spLevelOf K CN CL [.int n, .int l] H Q E :=
  ⟨_, _, _, _, rfl, .int n, .int l, no_range n1 n2, fun r e _ _ => ⟨no_range l1 l2, fun l' e2 _ _ => by
    cases e
    cases e2
    exact q⟩⟩
theorem rebuilt_at (F : ShV C H x lo hi) (g1 : lo ≤ g) (g2 : g ≤ hi) (n1 : -32767 ≤ n) (n2 : n ≤ 32767) (l1 : 0 ≤ l) (l2 : l ≤ 7) (q : Q (.int (clipI lo hi (g + n * (2 * l + 1)))) H) : spRebuilt K C CB CG CN CL [x, .int g, .int n, .int l] H Q E :=
  ⟨_, _, _, _, _, _, rfl, .int n, .int l, _, .int g, .inr ⟨lo, hi, F, no_range g1 g2, fun g' e _ _ => ⟨no_range n1 n2, fun n' e2 _ _ => ⟨no_range l1 l2, fun l' e3 _ _ => by
    cases e
    cases e2
    cases e3
    exact q⟩⟩⟩⟩
theorem levels_at (F : ShV C H x lo hi) (g1 : lo ≤ g) (g2 : g ≤ hi) (s1 : lo ≤ s) (s2 : s ≤ hi) (l1 : 0 ≤ l) (l2 : l ≤ 7) (q : SpanQ (leastI lo g s l) (greatI hi g s l) H Q) : spLevels K C CB CG CN CL [x, .int g, .int s, .int l] H Q E :=
  ⟨_, _, _, _, _, _, rfl, .int s, .int l, _, .int g, .inr ⟨lo, hi, F, no_range g1 g2, fun g' e _ _ => ⟨no_range s1 s2, fun s' e2 _ _ => ⟨no_range l1 l2, fun l' e3 _ _ => by
    cases e
    cases e2
    cases e3
    exact q⟩⟩⟩⟩
end
theorem iteD {A B : Prop} {b : Bool} (h : b = false) (k : B) : if b = true then A else B := by
  rw [h]
  exact iteF k
/-- a span, as it stands -/
def SpanV (a b : Int) (H : Hp) (y : V) : Prop := (a ≤ b ∧ ∃ p, y = .ref p ∧ H p = some (.tup [.int a, .int b])) ∨ (b < a ∧ y = .non)
theorem SpanV.same {a b : Int} {H H' : Hp} {y : V} (h : SpanV a b H y) (e : Same H H') : SpanV a b H' y := by
  rcases h with ⟨h1, p, h2, h3⟩ | h
  · exact .inl ⟨h1, p, h2, e _ _ h3⟩
  · exact .inr h
theorem SpanQ.of {a b : Int} {H : Hp} {Q : VK} (k : ∀ y H', Same H H' → SpanV a b H' y → Q y H') : SpanQ a b H Q := ⟨fun c p hp => k _ _ (Same.new hp) (.inl ⟨c, p, rfl, upd_same⟩), fun c => k _ H (fun _ _ e => e) (.inr ⟨c, rfl⟩)⟩
def spanD (a b : Int) : PyData := if a ≤ b then .tuple [.int a, .int b] else .none
theorem SpanV.dp {K : PySem.W.Frag} {a b : Int} {H : Hp} {y : V} (h : SpanV a b H y) : Dp K H y (spanD a b) := by
  unfold spanD
  rcases h with ⟨h1, p, rfl, h3⟩ | ⟨h1, rfl⟩
  · rw [if_pos h1]
    exact .tup (SqT.of h3) (.cons (.int _) (.cons (.int _) .nil))
  · rw [if_neg (by omega)]
    exact .non
theorem spanD_fits {a b : Int} (h1 : -32767 ≤ a) (h2 : a ≤ 32767) (h3 : -32767 ≤ b) (h4 : b ≤ 32767) : (PyData.list [spanD a b, spanD a b]).showable = true ∧ (PyData.list [spanD a b, spanD a b]).hasDict = false ∧ (PyData.list [spanD a b, spanD a b]).depth ≤ 60 ∧ (PyData.list [spanD a b, spanD a b]).shown.length ≤ sizeLine := by
  unfold spanD
  split
  · obtain ⟨r1, r2, r3, r4, r5⟩ := pair_data (i := a) (j := b) (by omega) (by omega) (by omega) (by omega)
    exact two_fits r1 r2 r3 r4 r5
  · exact two_fits rfl rfl (by decide) rfl (by decide)
end K07
namespace K07
open PySem PySem.Spec PyProof.Rows L2 PySem.W LamX KA KW KU KL
open Evl (pss_cut tCut)
def spLaw (K : PySem.W.Frag) (Pt : Addr) : Sp := fun vs H Q _ => ∃ (a : Addr) (ns : List Int), vs = [.ref a] ∧ SqL K H a (ns.map V.int) ∧ ns.length ≤ 63 ∧ Tabs (tabs Pt) H ∧ ∀ H', Q (.bl true) H'
section
variable {P : Program} {w : World} {K : PySem.W.Frag} {mg : Str → Option Value} {base : Heap} (T : Top K mg) (SH : ShapeT K mg) (BE : BadShapeT P w K mg T.reel.C)
include SH BE in
theorem ok_law {c Pt : Addr} (LT : LamT K "_law_refused" s__law_refused T._law_refused.a T._law_refused.d c Pt) (TB : TabB base mg c Pt) : FnG P w K mg base (L2.CX P w) 12 T.law.a T.law.d ["script"] (spLaw K Pt) := by
  refine fnG_of T.law.f sc_law (fun vs H Q E h => ?_) (fun cdv A outer s0 H vs Q E hr hg h => ?_)
  · obtain ⟨a, ns, rfl, _⟩ := h
    rfl
  · obtain ⟨a, ns, rfl, hS, hl, Tb, k⟩ := h
    have hu := hu_of hr
    refine ⟨_, pss_cons (ps_set (i := 1) sc_law.nd rfl (.inl rfl) (pe_call (ok_begun T) (hr.mono (by decide)) (by rfl) T._law_begun.m T._law_begun.f.kp (bd__law_begun T) .nil passE (pa_cons (pv 0) pa_nil)))
      (pss_cons (ps_for (passes_of rfl) rfl (pi_range1 (by rfl) T.b_range (pa_cons (pe_op op_add pe_int (pe_callB (call_min2 rfl) (by rfl) T.b_min PyProof.Rows.boot_min (pa_cons (pe_callB call_len_seq (by rfl) T.b_len PySem.boot_len (pa_cons (pv 0) pa_nil)) (pa_cons pe_int pa_nil)))) pa_nil)) (pg_name (i := 2) sc_law.nd rfl (.inl rfl))
        (pss_cons (ps_set (i := 3) sc_law.nd rfl (.inl rfl) (pe_call (ok_scope T) (hr.mono (by decide)) (by rfl) T._law_scope.m T._law_scope.f.kp (bd__law_scope T) .nil passE (pa_cons (pv 1) pa_nil)))
        (pss_cons (ps_par3 (i := 4) (j := 5) (l := 6) rfl sc_law.nd rfl rfl rfl (by decide) (by decide) (by decide) rfl rfl rfl (pa_cons (pe_call (ok_form T SH BE) (hr.mono (by decide)) (by rfl) T._law_form.m T._law_form.f.kp (bd__law_form T) .nil passE (pa_cons (pv 3) pa_nil)) (pa_cons (pe_call (ok_draw T) (hr.mono (by decide)) (by rfl) T._law_draw.m T._law_draw.f.kp (bd__law_draw T) .nil passE (pa_cons (pv 1) (pa_cons pe_int pa_nil))) (pa_cons (pe_call (ok_draw T) (hr.mono (by decide)) (by rfl) T._law_draw.m T._law_draw.f.kp (bd__law_draw T) .nil passE (pa_cons (pv 1) (pa_cons pe_int pa_nil))) pa_nil))) rfl)
        (pss_cons (ps_set (i := 7) sc_law.nd rfl (.inl rfl) (pe_lst (pa_cons (pe_dget hu (pv 3) pe_str (fun _ _ => rfl)) (pa_cons (pe_dget hu (pv 3) pe_str (fun _ _ => rfl)) (pa_cons (pe_call (ok_grain T) (hr.mono (by decide)) (by rfl) T._law_grain.m T._law_grain.f.kp (bd__law_grain T) .nil passE (pa_cons (pv 1) (pa_cons (pv 3) pa_nil))) (pa_cons (pe_call (ok_grain T) (hr.mono (by decide)) (by rfl) T._law_grain.m T._law_grain.f.kp (bd__law_grain T) .nil passE (pa_cons (pv 1) (pa_cons (pv 3) pa_nil))) pa_nil))))))
        (pss_cons (ps_par (i := 8) (j := 9) rfl sc_law.nd rfl rfl (by decide) rfl rfl (pa_cons (pe_call (ok_pick T) (hr.mono (by decide)) (by rfl) T._law_pick.m T._law_pick.f.kp (bd__law_pick T) .nil passE (pa_cons (pv 1) (pa_cons (pv 7) pa_nil))) (pa_cons (pe_call (ok_pick T) (hr.mono (by decide)) (by rfl) T._law_pick.m T._law_pick.f.kp (bd__law_pick T) .nil passE (pa_cons (pv 1) (pa_cons (pv 7) pa_nil))) pa_nil)) (by rfl))
        (pss_cut (ps_set (i := 10) sc_law.nd rfl (.inl rfl) (pe_call (ok_pick T) (hr.mono (by decide)) (by rfl) T._law_pick.m T._law_pick.f.kp (bd__law_pick T) .nil passE (pa_cons (pv 1) (pa_cons (pe_lst (pa_cons (pe_op op_sub (pv 9) (pv 8)) (pa_cons pe_int (pa_cons (pe_op op_sub (pe_call (ok_draw T) (hr.mono (by decide)) (by rfl) T._law_draw.m T._law_draw.f.kp (bd__law_draw T) .nil passE (pa_cons (pv 1) (pa_cons pe_int pa_nil))) pe_int) (pa_cons pe_int (pa_cons (pe_un un_neg pe_int) pa_nil)))))) pa_nil))))
        (pss_cons (ps_set (i := 11) sc_law.nd rfl (.inl rfl) (pe_call (ok_llevel T) (hr.mono (by decide)) (by rfl) T._law_level.m T._law_level.f.kp (bd__law_level T) .nil passE (pa_cons (pv 10) (pa_cons (pv 5) pa_nil))))
        (pss_cut (ps_if (pt_cmpR op_ne (pe_callB (call_repr hg hr) (by rfl) T.b_repr (by decide +kernel) (pa_cons (pe_lst (pa_cons (pe_call (ok_level_of T) (hr.mono (by decide)) (by rfl) T.level_of.m T.level_of.f.kp (bd_level_of T) .nil passE (pa_cons (pv 10) (pa_cons (pv 5) pa_nil))) (pa_cons (pe_kw (ok_level_of T) (hr.mono (by decide)) (by rfl) T.level_of.m T.level_of.f.kp (KA.Fun.kw2 T.level_of.f fun _ _ _ _ _ _ _ _ => rfl) passE (pk_cons (pv 5) (pk_cons (pv 10) pk_nil))) pa_nil))) pa_nil)) (pe_callB (call_repr hg hr) (by rfl) T.b_repr (by decide +kernel) (pa_cons (pe_lst (pa_cons (pv 11) (pa_cons (pv 11) pa_nil))) pa_nil)) (nomark _)) (pss_one (ps_ret pe_bl)) pss_nil)
        (pss_cons (ps_set (i := 11) sc_law.nd rfl (.inl rfl) (pe_call (ok_built T) (hr.mono (by decide)) (by rfl) T._law_built.m T._law_built.f.kp (bd__law_built T) .nil passE (pa_cons (pv 3) (pa_cons (pv 8) (pa_cons (pv 10) (pa_cons (pv 5) pa_nil))))))
        (pss_cons (ps_set (i := 12) sc_law.nd rfl (.inl rfl) (pe_lst (pa_cons (pe_call (ok_rebuilt T SH BE) (hr.mono (by decide)) (by rfl) T.rebuilt.m T.rebuilt.f.kp (bd_rebuilt T) .nil passE (pa_cons (pv 4) (pa_cons (pv 8) (pa_cons (pv 10) (pa_cons (pv 5) pa_nil))))) (pa_cons (pe_kw (ok_rebuilt T SH BE) (hr.mono (by decide)) (by rfl) T.rebuilt.m T.rebuilt.f.kp (Fun.kw4 T.rebuilt.f fun _ _ _ _ _ _ _ _ _ _ => rfl) passE (pk_cons (pv 5) (pk_cons (pv 10) (pk_cons (pv 8) (pk_cons (pv 4) pk_nil))))) pa_nil))))
        (pss_cut (ps_if (PW.pt (pw_or (pt_cmpR op_ne (pe_callB (call_repr hg hr) (by rfl) T.b_repr (by decide +kernel) (pa_cons (pv 12) pa_nil)) (pe_callB (call_repr hg hr) (by rfl) T.b_repr (by decide +kernel) (pa_cons (pe_lst (pa_cons (pv 11) (pa_cons (pv 11) pa_nil))) pa_nil)) (nomark _)) (pw_or1 (PW.pt (pw_and (pt_cmpR op_lt (pv 8) (pe_dget hu (pv 3) pe_str (fun _ _ => rfl)) (nomark _)) (pw_and1 (pt_cmpR op_lt (pe_call (ok_rebuilt T SH BE) (hr.mono (by decide)) (by rfl) T.rebuilt.m T.rebuilt.f.kp (bd_rebuilt T) .nil passE (pa_cons (pv 4) (pa_cons (pe_op op_add (pv 8) pe_int) (pa_cons (pv 10) (pa_cons (pv 5) pa_nil))))) (pv 11) (nomark _)))))))) (pss_one (ps_ret pe_bl)) pss_nil)
        (pss_cons (ps_set (i := 13) sc_law.nd rfl (.inl rfl) (pe_call (ok_level_of T) (hr.mono (by decide)) (by rfl) T.level_of.m T.level_of.f.kp (bd_level_of T) .nil passE (pa_cons (pe_op op_sub (pv 9) (pv 8)) (pa_cons (pv 5) pa_nil))))
        (pss_cut (ps_if (pt_cmpR op_gt (pe_callB call_abs (by rfl) T.b_abs PyProof.Rows.boot_abs (pa_cons (pe_op op_sub (pe_call (ok_rebuilt T SH BE) (hr.mono (by decide)) (by rfl) T.rebuilt.m T.rebuilt.f.kp (bd_rebuilt T) .nil passE (pa_cons (pv 4) (pa_cons (pv 8) (pa_cons (pv 13) (pa_cons (pv 5) pa_nil))))) (pv 9)) pa_nil)) (pv 5) (nomark _)) (pss_one (ps_ret pe_bl)) pss_nil)
        (pss_cut (ps_set (i := 14) sc_law.nd rfl (.inl rfl) (pe_call (ok_span T) (hr.mono (by decide)) (by rfl) T._law_span.m T._law_span.f.kp (bd__law_span T) .nil passE (pa_cons (pv 3) (pa_cons (pv 8) (pa_cons (pv 9) (pa_cons (pv 5) pa_nil))))))
        (pss_cut (ps_set (i := 12) sc_law.nd rfl (.inl rfl) (pe_lst (pa_cons (pe_call (ok_levels_that T SH BE) (hr.mono (by decide)) (by rfl) T.levels_that.m T.levels_that.f.kp (bd_levels_that T) .nil passE (pa_cons (pv 4) (pa_cons (pv 8) (pa_cons (pv 9) (pa_cons (pv 5) pa_nil))))) (pa_cons (pe_kw (ok_levels_that T SH BE) (hr.mono (by decide)) (by rfl) T.levels_that.m T.levels_that.f.kp (Fun.kw4 T.levels_that.f fun _ _ _ _ _ _ _ _ _ _ => rfl) passE (pk_cons (pv 5) (pk_cons (pv 9) (pk_cons (pv 8) (pk_cons (pv 4) pk_nil))))) pa_nil))))
        (pss_cut (ps_if (PW.pt (pw_or (pt_cmpR op_ne (pe_callB (call_repr hg hr) (by rfl) T.b_repr (by decide +kernel) (pa_cons (pv 12) pa_nil)) (pe_callB (call_repr hg hr) (by rfl) T.b_repr (by decide +kernel) (pa_cons (pe_lst (pa_cons (pv 14) (pa_cons (pv 14) pa_nil))) pa_nil)) (nomark _)) (pw_or1 (PW.pt (pw_and (pt_cmpR op_eq (pv 5) pe_int (nomark _)) (pw_and1 (pt_not (pt_chain op_le op_le (pe_ix ix_tup (pv 14) pe_int (fun _ _ => rfl)) (pe_op op_sub (pv 9) (pv 8)) (pe_ix ix_tup (pv 14) pe_int (fun _ _ => rfl)))))))))) (pss_one (ps_ret pe_bl)) pss_nil)
        (pss_cut (ps_if (pt_cmpR op_notN (pv 14) pe_non (nomark _)) (pss_cons (ps_set (i := 15) sc_law.nd rfl (.inr rfl) (pe_callB (call_min2 rfl) (by rfl) T.b_min PyProof.Rows.boot_min (pa_cons (pe_callB (call_max2 rfl) (by rfl) T.b_max PyProof.Rows.boot_max (pa_cons pe_int (pa_cons (pe_ix ix_tup (pv 14) pe_int (fun _ _ => rfl)) pa_nil))) (pa_cons (pe_ix ix_tup (pv 14) pe_int (fun _ _ => rfl)) pa_nil))))
          (pss_one (ps_for (passes_of rfl) rfl (pi_list (pe_lc (own := [("end", 16)]) (g := gName 16) rfl sc_law.nd (pi_tup (pv 14)) (blkOk_by (own := [("end", 16)]) (N := ["script", "state", "turn", "scope", "form", "slack", "rung", "some", "aim", "grain", "item", "due", "told", "near", "span", "best", "end"]) (sc := defScope s_law) (by decide +kernel)) (fun _ _ _ _ _ => pg_name (i := 16) sc_law.nd rfl (Or.inl rfl)) (fun _ _ _ _ _ => pts_one (PW.pt (pw_or (pt_cmpR op_gt (pe_op op_mul (pv 16) (pv 15)) pe_int (nomark _)) (pw_or1 (pt_cmpR op_eq (pv 15) pe_int (nomark _)))))) (fun _ _ _ _ _ => pv 16))) (pg_name (i := 16) sc_law.nd rfl (.inl rfl)) (pss_one (ps_if (pt_cmpR op_lt (pe_callB call_len_str (by rfl) T.b_len PySem.boot_len (pa_cons (pe_call (ok_grade_bits T) (hr.mono (by decide)) (by rfl) T.grade_bits.m T.grade_bits.f.kp (bd_grade_bits T) .nil passE (pa_cons (pv 16) (pa_cons (pv 6) pa_nil))) pa_nil)) (pe_callB call_len_str (by rfl) T.b_len PySem.boot_len (pa_cons (pe_call (ok_grade_bits T) (hr.mono (by decide)) (by rfl) T.grade_bits.m T.grade_bits.f.kp (bd_grade_bits T) .nil passE (pa_cons (pv 15) (pa_cons (pv 6) pa_nil))) pa_nil)) (nomark _)) (pss_one (ps_ret pe_bl)) pss_nil))))) pss_nil)
        (pss_one (ps_if (pt_not (pt_val (pe_wcall (FnG.w (ok_refused T SH BE LT TB)) (since_self rfl) (hr.mono (by decide)) hg (by rfl) T._law_refused.m T._law_refused.f.kp (bd__law_refused T) passE (pa_cons (pv 1) (pa_cons (pv 4) (pa_cons (pv 8) (pa_cons (pv 9) pa_nil))))))) (pss_one (ps_ret pe_bl)) pss_nil)))))))))))))))))))
      (pss_one (ps_ret pe_bl))), ?_⟩
    -- begun
    refine ⟨_, rfl, a, ns, rfl, hS, hl, fun st lg cl H1 S1 sm1 n1 n2 => ?_⟩
    have T1 := Tb.ext sm1
    clear Tb
    refine ⟨_, rfl, a, _, rfl, .inl (sm1.seq hS), _, _, rfl, _, _, rfl, rfl, _, rfl, by split <;> omega, by split <;> omega, for_range (n := _) (fun j σ H => StAt H st lg cl (100 * j) ∧ Tabs (tabs Pt) H ∧ ∃ v2 v3 v4 v5 v6 v7 v8 v9 v10 v11 v12 v13 v14 v15 v16, σ = [some (.ref a), some (.ref st), v2, v3, v4, v5, v6, v7, v8, v9, v10, v11, v12, v13, v14, v15, v16]) ⟨S1, T1, _, _, _, _, _, _, _, _, _, _, _, _, _, _, _, rfl⟩ ?_ fun σ H _ => k H⟩
    clear S1 T1 sm1 hS n1 n2 H1
    rintro j σ H hj ⟨S, Tb, v2, v3, v4, v5, v6, v7, v8, v9, v10, v11, v12, v13, v14, v15, v16, rfl⟩
    have hj : j < 12 := by
      refine Nat.lt_of_lt_of_le hj ?_
      split <;> omega
    -- scope
    refine ⟨_, rfl, st, lg, cl, 100 * j, rfl, by omega, S, fun ad t wd lo hi Ha Sc na1 na2 Sa kpa => ?_⟩
    have Ta := tabs_kp Tb S kpa
    -- form, slack, rung
    refine ⟨_, rfl, ad, t, wd, lo, hi, rfl, Sc, fun fa Hb F hfa smb nt => ?_⟩
    have Sb := Sa.same smb
    have nf := F.off Sb
    refine ⟨_, rfl, st, lg, cl, 8, 100 * j + 4, rfl, by decide, by decide, by omega, Sb, fun l0 Hc hl8 Sc' kpc => ?_⟩
    refine ⟨_, rfl, st, lg, cl, 8, 100 * j + 4 + 1, rfl, by decide, by decide, by omega, Sc', fun r Hd hr8 Sd kpd => ⟨_, _, _, rfl, ?_⟩⟩
    have kpcd := kpc.trans kpd
    have Td := tabs_kp (Ta.ext smb) Sb kpcd
    have keepS : ScV Hd ad t wd lo hi := (Sc.keep (smb _)).keep fun o e => kpcd _ _ e na1 na2
    have FD := F.kp nf kpcd
    obtain ⟨l, el, l1, l2⟩ : ∃ l : Int, ((l0 : Nat) : Int) = l ∧ 0 ≤ l ∧ l ≤ 7 := ⟨l0, rfl, by omega, by omega⟩
    show tSeq _ _ _ [some (V.ref a), some (V.ref st), some (V.int (0 + j)), some (V.ref ad), some (V.ref fa), some (V.int (l0 : Nat)), some (V.int (r : Nat)), v7, v8, v9, v10, v11, v12, v13, v14, v15, v16] Hd
    rw [el]
    generalize some (V.int (0 + j)) = v2
    clear el hl8 l0 kpcd kpc kpd Sc' smb Ta Sb S Tb kpa Sa Sc F hfa nt
    -- some
    refine ⟨_, rfl, ad, _, rfl, (show DGet Hd ad (kV kLeast) _ from sc_least ▸ DGet.k keepS.d), _, rfl, ad, _, rfl, (show DGet Hd ad (kV kMost) _ from sc_most ▸ DGet.k keepS.d), ?_⟩
    refine ⟨_, rfl, _, rfl, st, lg, cl, ad, t, wd, lo, hi, 100 * j + 6, rfl, keepS, by omega, Sd, fun i1 He a1 a2 Se kpe => ?_⟩
    have ke := keepS.keep fun o e => kpe _ _ e na1 na2
    refine ⟨_, rfl, _, rfl, st, lg, cl, ad, t, wd, lo, hi, 100 * j + 7, rfl, ke, by omega, Se, fun i2 Hf b1 b2 Sf kpf => ⟨(by show 4 ≤ sizeLine; decide), fun so hso => ?_⟩⟩
    have hb0 := keepS.l2
    have nso := Sf.off hso
    have hso1 : (upd Hf so (.lst [V.int lo, V.int hi, V.int i1, V.int i2])) so = some (.lst [V.int lo, V.int hi, V.int i1, V.int i2]) := upd_same
    -- aim, grain
    refine ⟨_, rfl, _, rfl, st, lg, cl, so, _, 100 * j + 8, rfl, hso1, nso.2, (by show 0 < 4; decide), (by show 4 ≤ 1000; decide), by omega, Sf.same (Same.new hso), fun x1 Hg hx1 Sg kpg => ?_⟩
    have hso2 := kpg _ _ hso1 nso.1 nso.2
    refine ⟨_, rfl, _, rfl, st, lg, cl, so, _, 100 * j + 9, rfl, hso2, nso.2, (by show 0 < 4; decide), (by show 4 ≤ 1000; decide), by omega, Sg, fun x2 Hh hx2 Sh kph => ⟨_, _, rfl, ?_⟩⟩
    obtain ⟨g, rfl, g1, g2⟩ : ∃ g : Int, x1 = .int g ∧ lo ≤ g ∧ g ≤ hi := by
      simp only [List.mem_cons, List.not_mem_nil, or_false] at hx1
      rcases hx1 with h | h | h | h <;> exact ⟨_, h, by omega, by omega⟩
    obtain ⟨s, rfl, s1, s2⟩ : ∃ s : Int, x2 = .int s ∧ lo ≤ s ∧ s ≤ hi := by
      simp only [List.mem_cons, List.not_mem_nil, or_false] at hx2
      rcases hx2 with h | h | h | h <;> exact ⟨_, h, by omega, by omega⟩
    have kpA : Kp st lg Hd Hh := (((kpe.trans kpf).trans (Kp.same (Same.new hso))).trans kpg).trans kph
    have B : LB SH.C Pt st lg cl (100 * j + 10) Hh ad fa t wd lo hi := ⟨Sh, tabs_kp Td Sd kpA, keepS.keep fun o e => kpA _ _ e na1 na2, FD.kp nf kpA, ⟨na1, na2⟩, nf⟩
    show tCut _ _ _ [some (V.ref a), some (V.ref st), v2, some (V.ref ad), some (V.ref fa), some (V.int l), some (V.int r), some (V.ref so), some (V.int g), some (V.int s), v10, v11, v12, v13, v14, v15, v16] Hh
    generalize some (V.ref so) = v7
    have bl1 := keepS.l1
    have bl3 := keepS.l3
    clear kpA kph hx2 hx1 hso2 kpg Sg hso1 hso Sf kpf Se kpe ke Sd FD keepS Td Sh
    -- item
    refine ⟨fun σ' H' => ∃ (n : Int), -32767 ≤ n ∧ n ≤ 32767 ∧ (∃ v2 v7 v11 v12 v13 v14 v15 v16, σ' = [some (V.ref a), some (V.ref st), v2, some (V.ref ad), some (V.ref fa), some (V.int l), some (V.int r), v7, some (V.int g), some (V.int s), some (V.int n), v11, v12, v13, v14, v15, v16]) ∧ LB SH.C Pt st lg cl (100 * j + 20) H' ad fa t wd lo hi, ?_, ?_⟩
    · refine ⟨_, rfl, _, rfl, _, rfl, _, _, rfl, rfl, _, rfl, st, lg, cl, 4001, 100 * j + 10, rfl, by decide, by decide, by omega, B.S, fun d Hi hd Si kpi => ⟨_, _, rfl, rfl, _, rfl, (by show 5 ≤ sizeLine; decide), fun p hp => ?_⟩⟩
      refine ⟨st, lg, cl, p, _, 100 * j + 11, rfl, upd_same, (Si.off hp).2, (by show 0 < 5; decide), (by show 5 ≤ 1000; decide), by omega, Si.same (Same.new hp), fun x Hj hx Sj kpj => ?_⟩
      have kpB := (kpi.trans (Kp.same (Same.new hp))).trans kpj
      obtain ⟨n, rfl, n1, n2⟩ : ∃ n : Int, x = .int n ∧ -32767 ≤ n ∧ n ≤ 32767 := by
        simp only [List.mem_cons, List.not_mem_nil, or_false] at hx
        rcases hx with h | h | h | h | h <;> exact ⟨_, h, by omega, by omega⟩
      exact ⟨n, n1, n2, ⟨_, _, _, _, _, _, _, _, rfl⟩, ⟨Sj.mono (by omega), tabs_kp B.Tb B.S kpB, B.Sc.keep fun o e => kpB _ _ e na1 na2, B.F.kp nf kpB, B.n1, B.n2⟩⟩
    clear B v2 v7 v10 v11 v12 v13 v14 v15 v16 v3 v4 v5 v6 v8 v9
    rintro σ H1 ⟨n, n1, n2, ⟨v2, v7, v11, v12, v13, v14, v15, v16, rfl⟩, B⟩
    -- level_of
    obtain ⟨lv1, lv2⟩ := level_small (r := n) l1 n1 n2 l2
    refine ⟨_, rfl, _, rfl, n, l, rfl, l1, by omega, ?_⟩
    refine ⟨fun σ' H' => (∃ v2 v7 v11 v12 v13 v14 v15 v16, σ' = [some (V.ref a), some (V.ref st), v2, some (V.ref ad), some (V.ref fa), some (V.int l), some (V.int r), v7, some (V.int g), some (V.int s), some (V.int n), v11, v12, v13, v14, v15, v16]) ∧ LB SH.C Pt st lg cl (100 * j + 20) H' ad fa t wd lo hi, ?_, ?_⟩
    · obtain ⟨r1, r2, r3, r4⟩ := repr_fits (ds := [.int (levelI n l), .int (levelI n l)]) (fun d hd => by
        simp only [List.mem_cons, List.not_mem_nil, or_false, or_self] at hd
        subst hd
        exact small_int (by omega) (by omega)) (by show 2 ≤ 10; decide)
      refine ⟨_, rfl, _, rfl, _, _, _, _, rfl, .int n, .int l, no_range n1 n2, fun r' e _ _ => ⟨no_range l1 l2, fun l' e2 _ _ => ?_⟩⟩
      cases e
      cases e2
      refine ⟨_, rfl, _, rfl, rfl, _, _, _, _, rfl, .int n, .int l, no_range n1 n2, fun r' e _ _ => ⟨no_range l1 l2, fun l' e2 _ _ => ?_⟩⟩
      cases e
      cases e2
      refine ⟨(by show 2 ≤ sizeLine; decide), fun p hp => ?_⟩
      refine ⟨p, _, rfl, .lst (SqL.of upd_same) (dp_ints [levelI n l, levelI n l]), r1, r2, r3, r4, _, rfl, _, rfl, (by show 2 ≤ sizeLine; decide), fun q hq => ?_⟩
      refine ⟨q, _, rfl, .lst (SqL.of upd_same) (dp_ints [levelI n l, levelI n l]), r1, r2, r3, r4, ?_⟩
      exact ⟨rfl, _, rfl, ite_same ⟨⟨_, _, _, _, _, _, _, _, rfl⟩, (B.same (Same.new hp)).same (Same.new hq)⟩⟩
    clear B H1 v2 v7 v11 v12 v13 v14 v15 v16
    rintro σ H1 ⟨⟨v2, v7, v11, v12, v13, v14, v15, v16, rfl⟩, B⟩
    -- rebuilt
    have hb0 : lo ≤ hi := B.Sc.l2
    refine ⟨_, rfl, _, rfl, _, rfl, _, rfl, ad, t, wd, lo, hi, g, n, l, rfl, B.Sc, l1, by omega, ?_⟩
    rw [with_clip hb0]
    obtain ⟨cl1, cl2⟩ := clip_in (n := g + n * (2 * l + 1)) hb0
    refine ⟨_, rfl, _, rfl, _, rfl, _, rfl, _, _, _, _, _, _, rfl, .int n, .int l, _, .int g, .inr ⟨lo, hi, B.F, no_range g1 g2, fun g' e _ _ => ⟨no_range n1 n2, fun n' e2 _ _ => ⟨no_range l1 l2, fun l' e3 _ _ => ?_⟩⟩⟩⟩
    cases e
    cases e2
    cases e3
    refine ⟨_, rfl, _, rfl, _, rfl, _, rfl, rfl, _, _, _, _, _, _, rfl, .int n, .int l, _, .int g, .inr ⟨lo, hi, B.F, no_range g1 g2, fun g' e _ _ => ⟨no_range n1 n2, fun n' e2 _ _ => ⟨no_range l1 l2, fun l' e3 _ _ => ?_⟩⟩⟩⟩
    cases e
    cases e2
    cases e3
    refine ⟨(by show 2 ≤ sizeLine; decide), fun p hp => ?_⟩
    have B := B.same (Same.new (o := .lst [V.int (clipI lo hi (g + n * (2 * l + 1))), V.int (clipI lo hi (g + n * (2 * l + 1)))]) hp)
    have hp1 : (upd H1 p (.lst [V.int (clipI lo hi (g + n * (2 * l + 1))), V.int (clipI lo hi (g + n * (2 * l + 1)))])) p = some (.lst [V.int (clipI lo hi (g + n * (2 * l + 1))), V.int (clipI lo hi (g + n * (2 * l + 1)))]) := upd_same
    show tCut _ _ _ [some (V.ref a), some (V.ref st), v2, some (V.ref ad), some (V.ref fa), some (V.int l), some (V.int r), v7, some (V.int g), some (V.int s), some (V.int n), some (V.int (clipI lo hi (g + n * (2 * l + 1)))), some (V.ref p), v13, v14, v15, v16] (upd H1 p (.lst [V.int (clipI lo hi (g + n * (2 * l + 1))), V.int (clipI lo hi (g + n * (2 * l + 1)))]))
    generalize upd H1 p (.lst [V.int (clipI lo hi (g + n * (2 * l + 1))), V.int (clipI lo hi (g + n * (2 * l + 1)))]) = H2 at B hp1 ⊢
    refine ⟨fun σ' H' => (∃ v2 v7 v11 v12 v13 v14 v15 v16, σ' = [some (V.ref a), some (V.ref st), v2, some (V.ref ad), some (V.ref fa), some (V.int l), some (V.int r), v7, some (V.int g), some (V.int s), some (V.int n), v11, v12, v13, v14, v15, v16]) ∧ LB SH.C Pt st lg cl (100 * j + 20) H' ad fa t wd lo hi, ?_, ?_⟩
    · obtain ⟨r1, r2, r3, r4⟩ := repr_fits (ds := [.int (clipI lo hi (g + n * (2 * l + 1))), .int (clipI lo hi (g + n * (2 * l + 1)))]) (fun d hd => by
        simp only [List.mem_cons, List.not_mem_nil, or_false, or_self] at hd
        subst hd
        exact small_int (by omega) (by omega)) (by show 2 ≤ 10; decide)
      refine ⟨_, rfl, p, _, rfl, .lst (SqL.of hp1) (dp_ints [clipI lo hi (g + n * (2 * l + 1)), clipI lo hi (g + n * (2 * l + 1))]), r1, r2, r3, r4, _, rfl, _, rfl, (by show 2 ≤ sizeLine; decide), fun q hq => ?_⟩
      have B := B.same (Same.new (o := .lst [V.int (clipI lo hi (g + n * (2 * l + 1))), V.int (clipI lo hi (g + n * (2 * l + 1)))]) hq)
      refine ⟨q, _, rfl, .lst (SqL.of upd_same) (dp_ints [clipI lo hi (g + n * (2 * l + 1)), clipI lo hi (g + n * (2 * l + 1))]), r1, r2, r3, r4, ?_⟩
      refine ⟨rfl, _, rfl, ite_same ?_⟩
      refine ⟨_, rfl, _, rfl, ad, _, rfl, (show DGet _ ad (kV kMost) _ from sc_most ▸ DGet.k B.Sc.d), _, _, rfl, rfl, _, rfl, ?_⟩
      by_cases c : g < hi
      · rw [decide_eq_true c]
        refine iteT ⟨_, rfl, _, rfl, _, _, rfl, rfl, _, rfl, _, rfl, _, _, _, _, _, _, rfl, .int n, .int l, _, .int (g + 1), .inr ⟨lo, hi, B.F, no_range (by omega) (by omega), fun g' e _ _ => ⟨no_range n1 n2, fun n' e2 _ _ => ⟨no_range l1 l2, fun l' e3 _ _ => ?_⟩⟩⟩⟩
        cases e
        cases e2
        cases e3
        refine ⟨_, rfl, _, _, rfl, rfl, _, rfl, ?_⟩
        have m := clip_mono (lo := lo) (hi := hi) (a := g + n * (2 * l + 1)) (b := g + 1 + n * (2 * l + 1)) hb0 (by omega)
        rw [show decide (clipI lo hi (g + 1 + n * (2 * l + 1)) < clipI lo hi (g + n * (2 * l + 1))) = false from decide_eq_false (by omega)]
        exact iteF ⟨⟨_, _, _, _, _, _, _, _, rfl⟩, B⟩
      · rw [decide_eq_false c]
        exact iteF (iteF ⟨⟨_, _, _, _, _, _, _, _, rfl⟩, B⟩)
    clear hp hp1 cl1 cl2
    clear B H2 v2 v7 v11 v12 v13 v14 v15 v16
    rintro σ H1 ⟨⟨v2, v7, v11, v12, v13, v14, v15, v16, rfl⟩, B⟩
    -- near
    have hs1 : -1023 ≤ s - g := by omega
    have hs2 : s - g ≤ 1023 := by omega
    obtain ⟨nr1, nr2⟩ := level_near (r := s - g) l1 hs1 hs2 l2
    refine ⟨_, rfl, _, rfl, _, _, rfl, rfl, _, rfl, _, _, _, _, rfl, .int (s - g), .int l, no_range (by omega) (by omega), fun r' e _ _ => ⟨no_range l1 l2, fun l' e2 _ _ => ?_⟩⟩
    cases e
    cases e2
    refine ⟨fun σ' H' => (∃ v2 v7 v11 v12 v13 v14 v15 v16, σ' = [some (V.ref a), some (V.ref st), v2, some (V.ref ad), some (V.ref fa), some (V.int l), some (V.int r), v7, some (V.int g), some (V.int s), some (V.int n), v11, v12, v13, v14, v15, v16]) ∧ LB SH.C Pt st lg cl (100 * j + 20) H' ad fa t wd lo hi, ?_, ?_⟩
    · refine ⟨_, rfl, _, rfl, _, rfl, _, rfl, _, _, _, _, _, _, rfl, .int (levelI (s - g) l), .int l, _, .int g, .inr ⟨lo, hi, B.F, no_range g1 g2, fun g' e _ _ => ⟨no_range nr1 nr2, fun n' e2 _ _ => ⟨no_range l1 l2, fun l' e3 _ _ => ?_⟩⟩⟩⟩
      cases e
      cases e2
      cases e3
      refine ⟨_, rfl, _, _, rfl, rfl, _, rfl, _, rfl, _, _, rfl, rfl, _, rfl, ?_⟩
      have e := near_err (g := g) l1 s1 s2
      refine iteD (decide_eq_false (Int.not_lt.mpr e)) ?_
      exact ⟨⟨_, _, _, _, _, _, _, _, rfl⟩, B⟩
    clear B H1 v2 v7 v11 v12 v13 v14 v15 v16
    rintro σ H1 ⟨⟨v2, v7, v11, v12, v13, v14, v15, v16, rfl⟩, B⟩
    -- span
    obtain ⟨la1, la2⟩ := least_small (lo := lo) (l := l) l1 hs1 hs2
    obtain ⟨gr1, gr2⟩ := great_small (hi := hi) (l := l) l1 hs1 hs2
    refine ⟨fun σ' H' => (∃ v2 v7 v11 v12 v13 y v15 v16, σ' = [some (V.ref a), some (V.ref st), v2, some (V.ref ad), some (V.ref fa), some (V.int l), some (V.int r), v7, some (V.int g), some (V.int s), some (V.int n), v11, v12, v13, some y, v15, v16] ∧ SpanV (leastI lo g s l) (greatI hi g s l) H' y) ∧ LB SH.C Pt st lg cl (100 * j + 20) H' ad fa t wd lo hi, ?_, ?_⟩
    · exact ⟨_, rfl, _, rfl, _, rfl, _, rfl, ad, t, wd, lo, hi, g, s, l, rfl, B.Sc, l1, l2, g1, g2, s1, s2, fun H' sm => SpanQ.of fun y H'' sm2 hy => ⟨⟨_, _, _, _, _, y, _, _, rfl, hy⟩, (B.same sm).same sm2⟩⟩
    clear B H1 v2 v7 v11 v12 v13 v14 v15 v16
    rintro σ H1 ⟨⟨v2, v7, v11, v12, v13, y, v15, v16, rfl, hy⟩, B⟩
    refine ⟨fun σ' H' => (∃ v2 v7 v11 p v13 v15 v16, σ' = [some (V.ref a), some (V.ref st), v2, some (V.ref ad), some (V.ref fa), some (V.int l), some (V.int r), v7, some (V.int g), some (V.int s), some (V.int n), v11, some (V.ref p), v13, some y, v15, v16] ∧ ∃ y1 y2, H' p = some (.lst [y1, y2]) ∧ SpanV (leastI lo g s l) (greatI hi g s l) H' y1 ∧ SpanV (leastI lo g s l) (greatI hi g s l) H' y2) ∧ SpanV (leastI lo g s l) (greatI hi g s l) H' y ∧ LB SH.C Pt st lg cl (100 * j + 20) H' ad fa t wd lo hi, ?_, ?_⟩
    · refine ⟨_, rfl, _, rfl, _, rfl, _, rfl, _, _, _, _, _, _, rfl, .int s, .int l, _, .int g, .inr ⟨lo, hi, B.F, no_range g1 g2, fun g' e _ _ => ⟨no_range s1 s2, fun s' e2 _ _ => ⟨no_range l1 l2, fun l' e3 _ _ => ?_⟩⟩⟩⟩
      cases e
      cases e2
      cases e3
      refine SpanQ.of fun y1 Ha sma hy1 => ?_
      refine ⟨_, rfl, _, rfl, _, rfl, _, rfl, rfl, _, _, _, _, _, _, rfl, .int s, .int l, _, .int g, .inr ⟨lo, hi, (B.same sma).F, no_range g1 g2, fun g' e _ _ => ⟨no_range s1 s2, fun s' e2 _ _ => ⟨no_range l1 l2, fun l' e3 _ _ => ?_⟩⟩⟩⟩
      cases e
      cases e2
      cases e3
      refine SpanQ.of fun y2 Hb smb hy2 => ⟨(by show 2 ≤ sizeLine; decide), fun p hp => ?_⟩
      have sm := Same.new (o := .lst [y1, y2]) hp
      exact ⟨⟨_, _, _, p, _, _, _, rfl, y1, y2, upd_same, (hy1.same smb).same sm, hy2.same sm⟩, ((hy.same sma).same smb).same sm, ((B.same sma).same smb).same sm⟩
    clear B hy H1 v2 v7 v11 v12 v13 v15 v16
    rintro σ H1 ⟨⟨v2, v7, v11, p, v13, v15, v16, rfl, y1, y2, hp, hy1, hy2⟩, hy, B⟩
    refine ⟨fun σ' H' => (∃ v2 v7 v11 v12 v13 v15 v16, σ' = [some (V.ref a), some (V.ref st), v2, some (V.ref ad), some (V.ref fa), some (V.int l), some (V.int r), v7, some (V.int g), some (V.int s), some (V.int n), v11, v12, v13, some y, v15, v16]) ∧ SpanV (leastI lo g s l) (greatI hi g s l) H' y ∧ LB SH.C Pt st lg cl (100 * j + 20) H' ad fa t wd lo hi, ?_, ?_⟩
    · obtain ⟨r1, r2, r3, r4⟩ := spanD_fits la1 la2 gr1 gr2
      refine ⟨_, rfl, p, _, rfl, .lst (SqL.of hp) (.cons hy1.dp (.cons hy2.dp .nil)), r1, r2, r3, r4, _, rfl, _, rfl, (by show 2 ≤ sizeLine; decide), fun q hq => ?_⟩
      have sm := Same.new (o := .lst [y, y]) hq
      refine ⟨q, _, rfl, .lst (SqL.of upd_same) (.cons (hy.same sm).dp (.cons (hy.same sm).dp .nil)), r1, r2, r3, r4, ?_⟩
      refine ⟨rfl, _, rfl, ite_same ?_⟩
      refine ⟨_, rfl, rfl, _, rfl, ?_⟩
      by_cases c : l = 0
      · subst c
        obtain ⟨z1, z2⟩ := span_zero (lo := lo) (hi := hi) s1 s2 hs1 hs2
        rcases hy.same sm with ⟨_, p2, rfl, h3⟩ | ⟨h3, _⟩
        · refine iteT ⟨_, rfl, p2, _, (0 : Int), .int (leastI lo g s 0), rfl, rfl, SqT.of h3, atI_nat (j := 0) rfl, _, rfl, _, rfl, _, _, rfl, rfl, _, _, rfl, rfl, _, rfl, ?_⟩
          rw [decide_eq_true z1]
          refine iteT ⟨_, rfl, p2, _, (1 : Int), .int (greatI hi g s 0), rfl, rfl, SqT.of h3, atI_nat (j := 1) rfl, _, _, rfl, rfl, _, rfl, ?_⟩
          rw [decide_eq_true z2]
          exact iteF ⟨⟨_, _, _, _, _, _, _, rfl⟩, hy.same sm, B.same sm⟩
        · omega
      · rw [show decide (V.int l = V.int 0) = false from decide_eq_false fun z => c (V.int.inj z)]
        exact iteF (iteF ⟨⟨_, _, _, _, _, _, _, rfl⟩, hy.same sm, B.same sm⟩)
    clear B hy hy1 hy2 hp H1 v2 v7 v11 v13 v15 v16
    rintro σ H1 ⟨⟨v2, v7, v11, v12, v13, v15, v16, rfl⟩, hy, B⟩
    -- the best level
    refine ⟨fun σ' H' => (∃ v2 v7 v11 v12 v13 v14 v15 v16, σ' = [some (V.ref a), some (V.ref st), v2, some (V.ref ad), some (V.ref fa), some (V.int l), some (V.int r), v7, some (V.int g), some (V.int s), some (V.int n), v11, v12, v13, v14, v15, v16]) ∧ LB SH.C Pt st lg cl (100 * j + 20) H' ad fa t wd lo hi, ?_, ?_⟩
    · refine ⟨_, rfl, rfl, _, rfl, ?_⟩
      rcases hy with ⟨c, p2, rfl, h3⟩ | ⟨c, rfl⟩
      · refine iteT ⟨_, rfl, p2, _, (0 : Int), .int (leastI lo g s l), rfl, rfl, SqT.of h3, atI_nat (j := 0) rfl, _, _, rfl, _, rfl, p2, _, (1 : Int), .int (greatI hi g s l), rfl, rfl, SqT.of h3, atI_nat (j := 1) rfl, _, _, rfl, ?_⟩
        have be := best_in c
        have bf := fun e h1 h2 => best_fold (e := e) c h1 h2
        unfold bestI at be bf
        generalize hbest : (if greatI hi g s l < (if leastI lo g s l > 0 then leastI lo g s l else 0) then greatI hi g s l else (if leastI lo g s l > 0 then leastI lo g s l else 0)) = best at be bf ⊢
        obtain ⟨be1, be2⟩ := be
        refine ⟨_, rfl, p2, rfl, ⟨_, SqT.of h3⟩, fun D hD => ?_⟩
        refine lc_tup (K := K) (a := p2) (xs := [V.int (leastI lo g s l), V.int (greatI hi g s l)]) (fun i H' => ∃ es : List Int, H' D = some (.lst (es.map V.int)) ∧ (∀ e ∈ es, leastI lo g s l ≤ e ∧ e ≤ greatI hi g s l) ∧ es.length ≤ i ∧ Same H1 H') ⟨[], upd_same, (fun _ h => nomatch h), Nat.le_refl _, Same.new hD⟩ (fun i H' _ ⟨es, _, _, _, sm⟩ => SqT.of (sm _ _ h3)) ?_ ?_
        · rintro i x H' hx ⟨es, hE, hes, hel, sm⟩
          obtain ⟨e, rfl, he⟩ : ∃ e : Int, x = V.int e ∧ leastI lo g s l ≤ e ∧ e ≤ greatI hi g s l := by
            have := List.mem_of_getElem? hx
            simp only [List.mem_cons, List.not_mem_nil, or_false] at this
            rcases this with h | h
            · exact ⟨_, h, Int.le_refl _, c⟩
            · exact ⟨_, h, c, Int.le_refl _⟩
          have app : ∃ es2 : List Int, (upd H' D (.lst (es.map V.int ++ [V.int e]))) D = some (.lst (es2.map V.int)) ∧ (∀ e ∈ es2, leastI lo g s l ≤ e ∧ e ≤ greatI hi g s l) ∧ es2.length ≤ i + 1 ∧ Same H1 (upd H' D (.lst (es.map V.int ++ [V.int e]))) := by
            refine ⟨es ++ [e], by rw [upd_same, List.map_append]; rfl, fun y hy => ?_, by simp; omega, fun b o q => ?_⟩
            · rcases List.mem_append.mp hy with h | h
              · exact hes y h
              · rw [List.mem_singleton.mp h]
                exact he
            · rw [upd_ne (ne_of_none q hD)]
              exact sm b o q
          have skip : ∃ es2 : List Int, H' D = some (.lst (es2.map V.int)) ∧ (∀ e ∈ es2, leastI lo g s l ≤ e ∧ e ≤ greatI hi g s l) ∧ es2.length ≤ i + 1 ∧ Same H1 H' := ⟨es, hE, hes, Nat.le_succ_of_le hel, sm⟩
          have len : (es.map V.int).length < sizeLine := by
            rw [List.length_map]
            have : i < 2 := (List.getElem?_eq_some_iff.mp hx).1
            exact Nat.lt_trans (show es.length < 3 by omega) (by decide)
          refine ⟨rfl, _, rfl, _, rfl, _, _, rfl, rfl, .inl ⟨by omega, by omega⟩, _, _, rfl, rfl, _, rfl, ?_⟩
          by_cases z : 0 < e * best
          · rw [decide_eq_true z]
            refine iteT ?_
            dsimp only
            rw [if_pos rfl]
            exact ⟨_, rfl, _, hE, len, app⟩
          · rw [decide_eq_false z]
            refine iteF ⟨_, rfl, rfl, _, rfl, ?_⟩
            by_cases y : best = 0
            · rw [show decide (V.int best = V.int 0) = true from decide_eq_true (congrArg V.int y)]
              dsimp only
              rw [if_pos rfl]
              exact ⟨_, rfl, _, hE, len, app⟩
            · rw [show decide (V.int best = V.int 0) = false from decide_eq_false fun q => y (V.int.inj q)]
              dsimp only
              rw [if_neg Bool.false_ne_true]
              exact skip
        · rintro H2 ⟨es, hE, hes, hel, sm⟩
          have B2 := B.same sm
          refine ⟨D, rfl, ⟨_, SqL.of hE⟩, for_list (xs := es.map V.int) (fun _ σ H' => (∃ v16, σ = [some (V.ref a), some (V.ref st), v2, some (V.ref ad), some (V.ref fa), some (V.int l), some (V.int r), v7, some (V.int g), some (V.int s), some (V.int n), v11, v12, v13, some (V.ref p2), some (V.int best), v16]) ∧ LB SH.C Pt st lg cl (100 * j + 20) H' ad fa t wd lo hi ∧ H' D = some (.lst (es.map V.int))) ⟨⟨_, rfl⟩, B2, hE⟩ (fun i σ H' _ h => SqL.of h.2.2) ?_ fun σ' H' ⟨⟨v16, e⟩, B, _⟩ => ⟨⟨_, _, _, _, _, _, _, v16, e⟩, B⟩⟩
          rintro i x σ H' hx ⟨⟨v16, rfl⟩, B, hE⟩
          obtain ⟨e, he, rfl⟩ := List.mem_map.mp (List.mem_of_getElem? hx)
          obtain ⟨e1, e2⟩ := hes e he
          obtain ⟨fe, efe, hfe⟩ := foldI_nat (i := e) (by omega) (by omega)
          obtain ⟨fb, efb, hfb⟩ := foldI_nat (i := best) (by omega) (by omega)
          have fle : fb ≤ fe := by
            have := bf e e1 e2
            omega
          have m := gradeT_mono (g := r) fle (by omega)
          have lb : ∀ f : Nat, (gradeT f r).length ≤ sizeLine := fun f => by
            rw [gradeT_len]
            split
            · exact Nat.le_trans (show 28 ≤ 100 by decide) (by decide)
            · rename_i z
              generalize f / 2 ^ r = q at z ⊢
              exact Nat.le_trans (show q + 1 + r ≤ 100 by omega) (by decide)
          refine ⟨_, rfl, _, rfl, _, _, _, _, rfl, .int e, .int (r : Nat), no_range (by omega) (by omega), fun j' f' q1 q2 _ => ?_⟩
          cases q1
          obtain rfl : fe = f' := by omega
          refine ⟨no_range (by omega) (by omega), fun g' q3 _ => ?_⟩
          obtain rfl : r = g' := by
            have := V.int.inj q3
            omega
          refine ⟨_, rfl, lb fe, ?_⟩
          refine ⟨_, rfl, _, rfl, _, _, _, _, rfl, .int best, .int (r : Nat), no_range (by omega) (by omega), fun j' f' q1 q2 _ => ?_⟩
          cases q1
          obtain rfl : fb = f' := by omega
          refine ⟨no_range (by omega) (by omega), fun g' q3 _ => ?_⟩
          obtain rfl : r = g' := by
            have := V.int.inj q3
            omega
          refine ⟨_, rfl, lb fb, ?_⟩
          refine ⟨_, _, rfl, rfl, _, rfl, iteD (decide_eq_false (by omega)) ⟨⟨_, rfl⟩, B, hE⟩⟩
      · exact iteF ⟨⟨_, _, _, _, _, _, _, _, rfl⟩, B⟩
    rintro σ H1 ⟨⟨v2, v7, v11, v12, v13, v14, v15, v16, rfl⟩, B⟩
    -- refused
    refine ⟨_, rfl, _, rfl, _, rfl, _, rfl, st, lg, cl, .ref fa, lo, hi, g, s, 100 * j + 20, rfl, B.F, g1, g2, s1, s2, by omega, B.S, B.Tb, fun H' S' T' _ => ⟨_, rfl, ?_⟩⟩
    exact iteF ⟨S'.mono (by omega), T', _, _, _, _, _, _, _, _, _, _, _, _, _, _, _, rfl⟩
end
end K07
namespace K07
open PySem PySem.Spec PyProof.Rows L2 PySem.W LamX KA KW KU KL
/-! ### what the head's heap says, put together -/
section
variable {K : PySem.W.Frag} {mg : Str → Option Value} {h : Heap}
theorem defT_of {x : Str} {st : Stmt} {f : Addr} {od an : Option Addr} {sl : Array (Option Value)} {oc kV dc pm cd ct : Value} (X : K.In h) (G : h.Ns mainGlobals mg)
    (a : PySem.W.nsIn K mainGlobals x = some (some (.ref f))) (l : K.lookup f = some ⟨oc, od, .func (PySem.W.fnOf x x (defArgs st) (defBody st) (defScope st) .none kV dc pm an cd ct), sl⟩) (c : PySem.W.codeIn K cd x = true) (k : PySem.W.keepIn K (.ref f) = true) :
    Nonempty (DefT K mg x st) := ⟨⟨f, _, fun_mk l c k, PySem.W.mg_of X G a⟩⟩
theorem lamT_of {x : Str} {st : Stmt} {f c Pt : Addr} {od an : Option Addr} {sl : Array (Option Value)} {oc kV dc pm ct : Value} (X : K.In h) (G : h.Ns mainGlobals mg) (T : DefT K mg x st)
    (a : PySem.W.nsIn K mainGlobals x = some (some (.ref f))) (l : K.lookup f = some ⟨oc, od, .func (PySem.W.fnOf x x (defArgs st) (defBody st) (defScope st) .none kV dc pm an (.ref c) ct), sl⟩) (cc : PySem.W.codeIn K (.ref c) x = true) :
    LamT K x st T.a T.d c Pt := by
  have e := (PySem.W.mg_of X G a).symm.trans T.m
  have e : f = T.a := Value.ref.inj (Option.some.inj e)
  obtain ⟨oc', od', kV', dc', pm', an', cd', ct', sl', ed, lk, hcd⟩ := T.f.ex
  rw [e] at l
  have e2 := l.symm.trans lk
  have e3 := congrArg Obj.data (Option.some.inj e2)
  have e4 := Data.func.inj e3
  exact ⟨oc, od, kV, dc, pm, an, ct, sl, e4.symm, by rw [← e4]; exact l, cc⟩
theorem reelT_of {C : Addr} (X : K.In h) (G : h.Ns mainGlobals mg) (a : PySem.W.nsIn K mainGlobals "ReelError" = some (some (.ref C))) (b : PySem.W.subIn K (.ref C) (.type "BaseException") = some true)
    (t : PySem.W.typeIn K (.ref C) = some (.type "type")) (d : PySem.W.hasDictIn K C = true) : ∃ R : ReelT K mg, R.C = C := ⟨⟨C, PySem.W.mg_of X G a, b, t, d⟩, rfl⟩
theorem excT_of {x : Str} {C R : Addr} (X : K.In h) (G : h.Ns mainGlobals mg) (a : PySem.W.nsIn K mainGlobals x = some (some (.ref C))) (q : PySem.W.excIn K C veB "ValueError.__new__" = true) (k : PySem.W.keepIn K (.ref C) = true)
    (b : PySem.W.subIn K (.ref C) (.type "BaseException") = some true) (t : PySem.W.typeIn K (.ref C) = some (.type "type")) (r : PySem.W.subIn K (.ref C) (.ref R) = some true)
    (e1 : PySem.W.findIn K (.ref C) "__getattribute__" = some (some (.builtin "BaseException.__getattribute__"))) (e2 : PySem.W.findIn K (.ref C) "__getattr__" = some none) (e3 : PySem.W.hasDictIn K C = true)
    (e4 : PySem.W.findIn K (.ref C) "__class__" = some (some (.builtin "object.__class__"))) (e5 : PySem.W.specialIn K (.builtin "object.__class__") "__get__" = some (some (.builtin "getset_descriptor.__get__")))
    (e6 : PySem.W.takesIn K (.builtin "object.__class__") = some true) (e7 : PySem.W.mroIn K C (.type "object") = some true) : Nonempty (ExcT K mg x R) :=
  ⟨⟨C, PySem.W.mg_of X G a, q, k, b, t, r, ⟨e1, e2, b, e3, e4, e5, e6, e7⟩⟩⟩
theorem cstT_of {x : Str} {n : Int} {t : Tok} (X : K.In h) (G : h.Ns mainGlobals mg) (a : PySem.W.nsIn K mainGlobals x = some (some (.int n t))) : CstT mg x n := ⟨t, PySem.W.mg_of X G a⟩
/-- the law, at the head's heap -/
theorem law_at {l : PySem.W.OpenLaw} {w : World} {fa c Pt : Addr} (T : Top K mg) (SH : ShapeT K mg) (BE : BadShapeT l.prog w K mg T.reel.C) (name : mg "law" = some (.ref fa)) (LT : LamT K "_law_refused" s__law_refused T._law_refused.a T._law_refused.d c Pt)
    (ht : h.get? Pt = some { cls := .none, data := .fields #[] }) (hk : K.lookup Pt = none) (hc : PySem.W.CodeHd h c Pt) : LawAtG l w K (L2.CX l.prog w) 12 63 "script" mg fa h := by
  have e : fa = T.law.a := Value.ref.inj (Option.some.inj (name.symm.trans T.law.m))
  subst e
  have one : ∀ {A : Addr × Addr → Prop}, A (c, Pt) → ∀ p ∈ [(c, Pt)], A p := fun q p hp => by
    rw [List.mem_singleton.mp hp]
    exact q
  refine ⟨T.law.d, [(c, Pt)], spLaw K Pt, ⟨one ht, one hk, one hc⟩, fun s u => ?_, fun H a ns short t S => ?_, fun base _ _ tb => ok_law T SH BE LT (tb (c, Pt) (List.mem_singleton.mpr rfl))⟩
  · obtain ⟨oc, od, kV, doc, pm, an, cdv, ct, osl, ed, lk, hcd⟩ := T.law.f.ex
    rw [ed]
    exact .of_eq rfl
  · refine ⟨a, ns, rfl, S, short, fun p hp => ?_, fun _ => rfl⟩
    rw [List.mem_singleton.mp hp]
    exact TabS.nil (t (c, Pt) (List.mem_singleton.mpr rfl))
theorem calm_cx {P : Program} {w : World} {H : Hp} {s : Shared} {e : Value} {s' : Shared} (z : L2.CX P w [] H s (fun _ _ _ => False) e s') : False := by
  obtain ⟨_, _, _, _, _, _, _, _, _, _, _, _, f⟩ := z
  exact f
end
end K07
namespace K07
open PySem PySem.Spec PyProof.Rows L2 PySem.W LamX KA KW KU KL
section
variable {K : PySem.W.Frag} {mg : Str → Option Value} {h : Heap} {A : Prop}
theorem reel_use {C : Addr} (X : K.In h) (G : h.Ns mainGlobals mg) (a : PySem.W.nsIn K mainGlobals "ReelError" = some (some (.ref C))) (b : PySem.W.subIn K (.ref C) (.type "BaseException") = some true)
    (t : PySem.W.typeIn K (.ref C) = some (.type "type")) (d : PySem.W.hasDictIn K C = true) (n : ∀ R : ReelT K mg, R.C = C → A) : A := by
  obtain ⟨R, e⟩ := reelT_of X G a b t d
  exact n R e
theorem exc_use {x : Str} {C B : Addr} (X : K.In h) (G : h.Ns mainGlobals mg) (R : ReelT K mg) (eR : R.C = B) (a : PySem.W.nsIn K mainGlobals x = some (some (.ref C))) (q : PySem.W.excIn K C veB "ValueError.__new__" = true) (k : PySem.W.keepIn K (.ref C) = true)
    (b : PySem.W.subIn K (.ref C) (.type "BaseException") = some true) (t : PySem.W.typeIn K (.ref C) = some (.type "type")) (r : PySem.W.subIn K (.ref C) (.ref B) = some true)
    (e1 : PySem.W.findIn K (.ref C) "__getattribute__" = some (some (.builtin "BaseException.__getattribute__"))) (e2 : PySem.W.findIn K (.ref C) "__getattr__" = some none) (e3 : PySem.W.hasDictIn K C = true)
    (e4 : PySem.W.findIn K (.ref C) "__class__" = some (some (.builtin "object.__class__"))) (e5 : PySem.W.specialIn K (.builtin "object.__class__") "__get__" = some (some (.builtin "getset_descriptor.__get__")))
    (e6 : PySem.W.takesIn K (.builtin "object.__class__") = some true) (e7 : PySem.W.mroIn K C (.type "object") = some true) (n : ExcT K mg x R.C → A) : A := by
  rw [← eR] at r
  obtain ⟨D⟩ := excT_of X G a q k b t r e1 e2 e3 e4 e5 e6 e7
  exact n D
theorem def_use {x : Str} {st : Stmt} {f : Addr} {od an : Option Addr} {sl : Array (Option Value)} {oc kV dc pm cd ct : Value} (X : K.In h) (G : h.Ns mainGlobals mg)
    (a : PySem.W.nsIn K mainGlobals x = some (some (.ref f))) (l : K.lookup f = some ⟨oc, od, .func (PySem.W.fnOf x x (defArgs st) (defBody st) (defScope st) .none kV dc pm an cd ct), sl⟩) (c : PySem.W.codeIn K cd x = true) (k : PySem.W.keepIn K (.ref f) = true)
    (n : DefT K mg x st → A) : A := by
  obtain ⟨D⟩ := defT_of X G a l c k
  exact n D
theorem lam_use {x : Str} {st : Stmt} {f c Pt : Addr} {od an : Option Addr} {sl : Array (Option Value)} {oc kV dc pm ct : Value} (X : K.In h) (G : h.Ns mainGlobals mg) (T : DefT K mg x st) (t : h.get? Pt = some { cls := .none, data := .fields #[] })
    (a : PySem.W.nsIn K mainGlobals x = some (some (.ref f))) (l : K.lookup f = some ⟨oc, od, .func (PySem.W.fnOf x x (defArgs st) (defBody st) (defScope st) .none kV dc pm an (.ref c) ct), sl⟩) (cc : PySem.W.codeIn K (.ref c) x = true)
    (hk : K.lookup Pt = none) (hc : PySem.W.codeHdIn K c Pt = true) (n : LamT K x st T.a T.d c Pt → K.lookup Pt = none → PySem.W.CodeHd h c Pt → A) : A := n (lamT_of X G T a l cc) hk (PySem.W.codeHd_of_K X hc)
end
end K07
namespace K07
open PySem PySem.Spec PyProof.Rows L2 PySem.W LamX KA KW KU
open PySem.HandSPX (refsVE)
theorem say_none {P : Program} {w : World} {fI cda cc : Addr} {qual f z : Str} {j : Nat} {pc pn pf pj : Pos} (hd : f ≠ "__debug__") (h1 : z.length ≤ sizeLine) (h2 : (z ++ ("None" : Str)).length ≤ sizeLine) :
    Text P w fI cda cc qual f (.JoinedStr [.Constant (.str z) j pc, .FormattedValue (.Name f pn) (-1) none pf] pj) .none :=
  text_of hd (fun _ _ _ _ k => wpAny_formatField_none (k _ _)) h1 h2
theorem say_text {P : Program} {w : World} {fI cda cc : Addr} {qual f z y : Str} {j : Nat} {pc pn pf pj : Pos} {t : Tok} (hd : f ≠ "__debug__") (h1 : z.length ≤ 1000) (h3 : y.length ≤ 1000) :
    Text P w fI cda cc qual f (.JoinedStr [.Constant (.str z) j pc, .FormattedValue (.Name f pn) (-1) none pf] pj) (.str y t) := by
  have e : (z ++ y).length = z.length + y.length := Array.size_append
  exact text_str hd (Nat.le_trans h1 (by decide)) (by rw [e]; exact Nat.le_trans (show _ ≤ 2000 by omega) (by decide)) (Nat.le_trans h3 (by decide))
theorem kit_false {K : PySem.W.Frag} {C : Addr} {t : String} {cd : ClassData} (c : PySem.W.clsIn K C = some cd) (ty : PySem.W.typeIn K (.ref C) = some (.type "type")) (s : PySem.W.subIn K (.type t) (.ref C) = some false) : PySem.W.kitOne K (.type t) (.ref C) = some false := by
  unfold PySem.W.kitOne
  rw [if_neg (by simp)]
  unfold PySem.W.kitCls
  dsimp only
  rw [c, ty, if_pos (by simp)]
  exact s
section
variable {P : Program} {w : World} {K : PySem.W.Frag} {mg : Str → Option Value} {h : Heap} {A : Prop}
theorem badshape_use {C fI cda cc B : Addr} {e : Expr} (X : K.In h) (G : h.Ns mainGlobals mg) (R : ReelT K mg) (eR : R.C = B)
    (a : PySem.W.nsIn K mainGlobals "BadShape" = some (some (.ref C))) (iC : PySem.W.findIn K (.ref C) "__init__" = some (some (.ref fI)))
    {oc : Value} {od : Option Addr} {doc pm : Value} {an : Option Addr} {ct : Value} {osl : Array (Option Value)} {r1 r2 p0 p1 p2 p3 pe q1 q2 q3 q4 : Pos}
    (lk : K.lookup fI = some ⟨oc, od, .func (ksFn "__init__" "BadShape.__init__" (upArgs "part" r1 r2) (upBody "part" e p0 p1 p2 p3 pe q1 q2 q3 q4) (upScope "part") .none .none doc pm an (.ref cda) ct cc), osl⟩)
    (bd : ∀ a b : Value, bindArgs (ksFn "__init__" "BadShape.__init__" (upArgs "part" r1 r2) (upBody "part" e p0 p1 p2 p3 pe q1 q2 q3 q4) (upScope "part") .none .none doc pm an (.ref cda) ct cc) ⟨[a, b], []⟩ = pure [(PySem.Str.ofString "self", a), (PySem.Str.ofString "part", b)])
    (sw : ∀ L : Addr, swapsWith (.Name "part" q3) (some (.Attribute (.Name "self" q1) "part" q2)) q4.line (ksEnv "BadShape.__init__" (upScope "part") L fI (.ref cda) cc) = pure false)
    {pl : Sem Bool}
    (cl : ∀ L : Addr, eval (.Call (.Attribute (.Call (.Name "super" p0) [] [] p1) "__init__" p2) [e] [] p3) (ksEnv "BadShape.__init__" (upScope "part") L fI (.ref cda) cc) = (do
        let o ← attributeBase (.Call (.Name "super" p0) [] [] p1) "__init__" (ksEnv "BadShape.__init__" (upScope "part") L fI (.ref cda) cc) (eval (.Call (.Name "super" p0) [] [] p1) (ksEnv "BadShape.__init__" (upScope "part") L fI (.ref cda) cc))
        standAt p2.atName
        let (g, first) ← holding [o] (getMethod o "__init__" pl)
        callWith p3 g first (backTo p3 (starEach [e] (ksEnv "BadShape.__init__" (upScope "part") L fI (.ref cda) cc))) []))
    (star : ∀ env : Env, starEach [e] env = [(false, eval e env)])
    (sayN : Text P w fI cda cc "BadShape.__init__" "part" e .none)
    (sayS : ∀ (y : Str) (t : Tok), y.length ≤ 1000 → Text P w fI cda cc "BadShape.__init__" "part" e (.str y t))
    (code : PySem.W.codeIn K (.ref cda) "BadShape.__init__" = true)
    {fcl : Value} {cdd : Option Addr} {vs : Array Value} {ccs : Array (Option Value)} {fl : Str} {tf : Tok}
    (f1 : K.lookup cda = some ⟨fcl, cdd, .fields vs, ccs⟩) (f2 : vs[2]? = some (.str fl tf)) (f3 : ((P.main.file : Str) == fl) = true)
    {ecl : Value} {cld : Option Addr} {csl : Array (Option Value)} (cell : K.lookup cc = some ⟨ecl, cld, .cell (some (.ref C)), csl⟩)
    {cd : ClassData} (c1 : PySem.W.clsIn K C = some cd) (c2 : refsVE cd.mro = true) (c3 : cd.hasDict = true)
    (self : PySem.W.mroIn K C (.ref C) = some true) (noSuper : PySem.W.nsIn K mainGlobals "super" = some none) (top : (P.main.scope.names.lookup ("super" : Str)).isSome = false) (third : PySem.W.nsIn K cStatics "thirdparty.any" = some none)
    (up : PySem.W.ks_superIn K C C "__init__" = some (some (.builtin "ValueError.__init__"))) (val : PySem.W.subIn K (.ref C) (.type "ValueError") = some true)
    (own : PySem.W.excInitIn K C [.type "ValueError", .type "Exception", .type "BaseException", .type "object"] "ValueError.__new__" = true)
    (set_ : PySem.W.findIn K (.ref C) "__setattr__" = some (some (.builtin "object.__setattr__"))) (noF : PySem.W.findIn K (.ref C) "part" = some none)
    {nm q : Str} {N : Addr} {bs bm : List Value} {sn : List Str} {sub : List Value} {ab : Bool} {col : Option Bool} {dd : Option Addr} {k0 k1 k2 k3 k5 : Option Value}
    (o1 : K.lookup C = some (excClassObj nm q C N bs bm true sn sub ab col dd k0 k1 k2 k3 k5 "ValueError.__new__")) (o2 : refsVE bm = true)
    (tC : PySem.W.typeIn K (.ref fI) = some (.type "function")) (ga : PySem.W.findIn K (.ref C) "__getattribute__" = some (some (.builtin "BaseException.__getattribute__"))) (gg : PySem.W.findIn K (.ref C) "__getattr__" = some none)
    (kC : PySem.W.keepIn K (.ref C) = true) (exC : PySem.W.subIn K (.ref C) (.type "BaseException") = some true) (tyC : PySem.W.typeIn K (.ref C) = some (.type "type")) (hdC : PySem.W.hasDictIn K C = true)
    (r : PySem.W.subIn K (.ref C) (.ref B) = some true)
    (e4 : PySem.W.findIn K (.ref C) "__class__" = some (some (.builtin "object.__class__"))) (e5 : PySem.W.specialIn K (.builtin "object.__class__") "__get__" = some (some (.builtin "getset_descriptor.__get__")))
    (e6 : PySem.W.takesIn K (.builtin "object.__class__") = some true) (e7 : PySem.W.mroIn K C (.type "object") = some true)
    (n : BadShapeT P w K mg R.C → A) : A := by
  rw [← eR] at r
  exact n { C := C, fI := fI, cda := cda, cc := cc, e := e, g := PySem.W.mg_of X G a, u := { fn := ⟨oc, od, doc, pm, an, ct, osl, r1, r2, p0, p1, p2, p3, pe, q1, q2, q3, q4, lk, bd, sw, pl, cl⟩, star := star, code := code, file := ⟨fcl, cdd, vs, ccs, fl, tf, f1, f2, f3⟩, cell := ⟨ecl, cld, csl, cell⟩, cls := ⟨cd, c1, c2, c3⟩, self := self, noSuper := noSuper, top := top, third := third, up := up, val := val, own := own, «set» := set_, noF := noF, obj := ⟨nm, q, N, bs, bm, sn, sub, ab, col, dd, k0, k1, k2, k3, k5, o1, o2⟩, iC := iC, tC := tC, ga := ga, gg := gg, kC := kC, exC := exC, tyC := tyC, hdC := hdC, nf := by decide }, r := r, x := ⟨ga, gg, exC, hdC, e4, e5, e6, e7⟩, sayN := sayN, sayS := sayS }
theorem shape_use {C f : Addr} (X : K.In h) (G : h.Ns mainGlobals mg) {oc : Value} {od : Option Addr} {kV dc pm : Value} {an : Option Addr} {cd ct : Value} {sl : Array (Option Value)}
    (a : PySem.W.nsIn K mainGlobals "Shape" = some (some (.ref C))) (init : PySem.W.findIn K (.ref C) "__init__" = some (some (.ref f)))
    (l : K.lookup f = some ⟨oc, od, .func (PySem.W.fnOf "__init__" "Shape.__init__" (defArgs s_Shape_init) (defBody s_Shape_init) (defScope s_Shape_init) .none kV dc pm an cd ct), sl⟩) (c : PySem.W.codeIn K cd "Shape.__init__" = true) (k : PySem.W.keepIn K (.ref f) = true)
    (makes : PySem.W.makesIn K C = true) (fn : PySem.W.isFn K (.ref f) = true) (kp : PySem.W.keepIn K (.ref C) = true) (pg : PySem.W.plainGet K C Str.empty = true) (hd : PySem.W.hasDictIn K C = true) (po : PySem.W.plainOver K C = true)
    (sa : PySem.W.findIn K (.ref C) "__setattr__" = some (some (.builtin "object.__setattr__"))) (ha : PySem.W.findIn K (.ref C) "__class__" = some (some (.builtin "object.__class__")))
    (hn : PySem.W.specialIn K (.builtin "object.__class__") "__get__" = some (some (.builtin "getset_descriptor.__get__"))) (htk : PySem.W.takesIn K (.builtin "object.__class__") = some true) (hm : PySem.W.mroIn K C (.type "object") = some true)
    (n1 : PySem.W.findIn K (.ref C) "height" = some none) (n2 : PySem.W.findIn K (.ref C) "width" = some none) (n3 : PySem.W.findIn K (.ref C) "low" = some none) (n4 : PySem.W.findIn K (.ref C) "high" = some none) (n5 : PySem.W.findIn K (.ref C) "middle" = some none)
    {cld : ClassData} (cl : PySem.W.clsIn K C = some cld) (ty : PySem.W.typeIn K (.ref C) = some (.type "type")) (sI : PySem.W.subIn K (.type "int") (.ref C) = some false) (sS : PySem.W.subIn K (.type "str") (.ref C) = some false) (sN : PySem.W.subIn K (.type "NoneType") (.ref C) = some false)
    (n : ShapeT K mg → A) : A :=
  n { C := C, f := f, d := _, F := fun_mk l c k, M := ⟨makes, init, fn, kp⟩, g := PySem.W.mg_of X G a, i := ⟨⟨pg, hd, po, sa⟩, ha, hn, htk, hm, kit_self⟩, n1 := n1, n2 := n2, n3 := n3, n4 := n4, n5 := n5, kI := kit_false cl ty sI, kS := kit_false cl ty sS, kN := kit_false cl ty sN }
end
end K07
open PySem PySem.W PyProof.Rows
set_option maxRecDepth 100000 in
set_option maxHeartbeats 0 in
theorem PySem.Challenge.cw_pricedreels_k07_levels_and_what_is_rebui_holds : PySem.Challenge.rw_pricedreels_k07_levels_and_what_is_rebui.Holds := by
  w_on; o_law; k_head; (case hw => w_witness2)
  k_fill
  refine KA.walk_ofG (l := PySem.Challenge.rw_pricedreels_k07_levels_and_what_is_rebui) (k := 12) (n := 63) (x := "script") (CX := fun w => L2.CX PySem.Challenge.rw_pricedreels_k07_levels_and_what_is_rebui.prog w) rfl (by decide) rfl ⟨rfl, by decide, by decide⟩ (fun w h Y => km_in_of Y) ?F (fun _ _ _ _ _ z => K07.calm_cx z)
  case F =>
    intro w mg fa h Y KX G hmg
    have tabs := km_tabs_of Y
    have one := tabs _ List.mem_cons_self
    refine' K07.reel_use KX G ?ya ?yb ?yt ?yd ?_
    (case ya => k_is); (case yb => k_is); (case yt => k_is); (case yd => k_is)
    intro R eR
    refine' K07.badshape_use (P := (PySem.Challenge.rw_pricedreels_k07_levels_and_what_is_rebui).prog) (w := w) KX G R eR ?ya ?yiC ?ylk ?ybd ?ysw ?ycl ?ystar ?ysayN ?ysayS ?ycode ?yf1 ?yf2 ?yf3 ?ycell ?yc1 ?yc2 ?yc3 ?yself ?ynoS ?ytop ?ythird ?yup ?yval ?yown ?yset ?ynoF ?yo1 ?yo2 ?ytC ?yga ?ygg ?ykC ?yexC ?ytyC ?yhdC ?yr ?ye4 ?ye5 ?ye6 ?ye7 ?_
    (case ya => k_is); (case yiC => k_is); (case ylk => k_is)
    (case ybd => intro a b; rfl)
    (case ysw => intro L; rfl)
    (case ycl => intro L; rfl)
    (case ystar => intro env; rfl)
    (case ysayN => exact K07.say_none (by decide) (by decide) (by decide))
    (case ysayS => intro y t hy; exact K07.say_text (by decide) (by decide) hy)
    (case ycode => k_is)
    (case yf1 => k_is); (case yf2 => rfl); (case yf3 => decide +kernel)
    (case ycell => k_is); (case yc1 => k_is); (case yc2 => decide +kernel); (case yc3 => rfl)
    (case yself => k_is); (case ynoS => k_is); (case ytop => kernel_rfl); (case ythird => k_is)
    (case yup => ks_is); (case yval => k_is); (case yown => kx_is); (case yset => k_is); (case ynoF => k_is)
    (case yo1 => k_is); (case yo2 => decide +kernel)
    (case ytC => k_is); (case yga => k_is); (case ygg => k_is); (case ykC => k_is); (case yexC => k_is); (case ytyC => k_is); (case yhdC => k_is); (case yr => k_is); (case ye4 => k_is); (case ye5 => k_is); (case ye6 => k_is); (case ye7 => k_is)
    intro BE
    refine' K07.shape_use KX G ?ya ?yin ?yl ?yc ?yk ?ymk ?yfn ?ykp ?ypg ?yhd ?ypo ?ysa ?yha ?yhn ?yht ?yhm ?yn1 ?yn2 ?yn3 ?yn4 ?yn5 ?ycl ?yty ?ysI ?ysS ?ysN ?_
    (case ya => k_is); (case yin => k_is); (case yl => k_is)
    (case yc => k_is); (case yk => k_is); (case ymk => k_is); (case yfn => k_is); (case ykp => k_is); (case ypg => k_is); (case yhd => k_is); (case ypo => k_is); (case ysa => k_is); (case yha => k_is); (case yhn => k_is); (case yht => k_is); (case yhm => k_is); (case yn1 => k_is); (case yn2 => k_is); (case yn3 => k_is); (case yn4 => k_is); (case yn5 => k_is); (case ycl => k_is); (case yty => k_is); (case ysI => k_is); (case ysS => k_is); (case ysN => k_is)
    intro SH
    refine' K07.exc_use (x := "BadGrade") KX G R eR ?ya ?yq ?yk ?yb ?yt ?yr ?ye1 ?ye2 ?ye3 ?ye4 ?ye5 ?ye6 ?ye7 ?_
    (case ya => k_is); (case yq => k_exc); (case yk => k_is); (case yb => k_is); (case yt => k_is); (case yr => k_is); (case ye1 => k_is); (case ye2 => k_is); (case ye3 => k_is); (case ye4 => k_is); (case ye5 => k_is); (case ye6 => k_is); (case ye7 => k_is)
    intro BadGrade
    refine' K07.exc_use (x := "BadGuess") KX G R eR ?ya ?yq ?yk ?yb ?yt ?yr ?ye1 ?ye2 ?ye3 ?ye4 ?ye5 ?ye6 ?ye7 ?_
    (case ya => k_is); (case yq => k_exc); (case yk => k_is); (case yb => k_is); (case yt => k_is); (case yr => k_is); (case ye1 => k_is); (case ye2 => k_is); (case ye3 => k_is); (case ye4 => k_is); (case ye5 => k_is); (case ye6 => k_is); (case ye7 => k_is)
    intro BadGuess
    refine' K07.exc_use (x := "BadLoss") KX G R eR ?ya ?yq ?yk ?yb ?yt ?yr ?ye1 ?ye2 ?ye3 ?ye4 ?ye5 ?ye6 ?ye7 ?_
    (case ya => k_is); (case yq => k_exc); (case yk => k_is); (case yb => k_is); (case yt => k_is); (case yr => k_is); (case ye1 => k_is); (case ye2 => k_is); (case ye3 => k_is); (case ye4 => k_is); (case ye5 => k_is); (case ye6 => k_is); (case ye7 => k_is)
    intro BadLoss
    refine' K07.exc_use (x := "BadNumber") KX G R eR ?ya ?yq ?yk ?yb ?yt ?yr ?ye1 ?ye2 ?ye3 ?ye4 ?ye5 ?ye6 ?ye7 ?_
    (case ya => k_is); (case yq => k_exc); (case yk => k_is); (case yb => k_is); (case yt => k_is); (case yr => k_is); (case ye1 => k_is); (case ye2 => k_is); (case ye3 => k_is); (case ye4 => k_is); (case ye5 => k_is); (case ye6 => k_is); (case ye7 => k_is)
    intro BadNumber
    refine' K07.def_use (x := "is_number") (st := K07.s_is_number) KX G ?ya ?yl ?yc ?yk ?_
    (case ya => k_is); (case yl => k_is); (case yc => k_is); (case yk => k_is)
    intro f_is_number
    refine' K07.def_use (x := "is_within") (st := K07.s_is_within) KX G ?ya ?yl ?yc ?yk ?_
    (case ya => k_is); (case yl => k_is); (case yc => k_is); (case yk => k_is)
    intro f_is_within
    refine' K07.def_use (x := "clipped") (st := K07.s_clipped) KX G ?ya ?yl ?yc ?yk ?_
    (case ya => k_is); (case yl => k_is); (case yc => k_is); (case yk => k_is)
    intro f_clipped
    refine' K07.def_use (x := "grade_bits") (st := K07.s_grade_bits) KX G ?ya ?yl ?yc ?yk ?_
    (case ya => k_is); (case yl => k_is); (case yc => k_is); (case yk => k_is)
    intro f_grade_bits
    refine' K07.def_use (x := "check_told") (st := K07.s_check_told) KX G ?ya ?yl ?yc ?yk ?_
    (case ya => k_is); (case yl => k_is); (case yc => k_is); (case yk => k_is)
    intro f_check_told
    refine' K07.def_use (x := "check_grade") (st := K07.s_check_grade) KX G ?ya ?yl ?yc ?yk ?_
    (case ya => k_is); (case yl => k_is); (case yc => k_is); (case yk => k_is)
    intro f_check_grade
    refine' K07.def_use (x := "is_told") (st := K07.s_is_told) KX G ?ya ?yl ?yc ?yk ?_
    (case ya => k_is); (case yl => k_is); (case yc => k_is); (case yk => k_is)
    intro f_is_told
    refine' K07.def_use (x := "fold") (st := K07.s_fold) KX G ?ya ?yl ?yc ?yk ?_
    (case ya => k_is); (case yl => k_is); (case yc => k_is); (case yk => k_is)
    intro f_fold
    refine' K07.def_use (x := "in_bits") (st := K07.s_in_bits) KX G ?ya ?yl ?yc ?yk ?_
    (case ya => k_is); (case yl => k_is); (case yc => k_is); (case yk => k_is)
    intro f_in_bits
    refine' K07.def_use (x := "check_shape") (st := K07.s_check_shape) KX G ?ya ?yl ?yc ?yk ?_
    (case ya => k_is); (case yl => k_is); (case yc => k_is); (case yk => k_is)
    intro f_check_shape
    refine' K07.def_use (x := "level_of") (st := K07.s_level_of) KX G ?ya ?yl ?yc ?yk ?_
    (case ya => k_is); (case yl => k_is); (case yc => k_is); (case yk => k_is)
    intro f_level_of
    refine' K07.def_use (x := "rebuilt") (st := K07.s_rebuilt) KX G ?ya ?yl ?yc ?yk ?_
    (case ya => k_is); (case yl => k_is); (case yc => k_is); (case yk => k_is)
    intro f_rebuilt
    refine' K07.def_use (x := "levels_that") (st := K07.s_levels_that) KX G ?ya ?yl ?yc ?yk ?_
    (case ya => k_is); (case yl => k_is); (case yc => k_is); (case yk => k_is)
    intro f_levels_that
    refine' K07.def_use (x := "check_loss") (st := K07.s_check_loss) KX G ?ya ?yl ?yc ?yk ?_
    (case ya => k_is); (case yl => k_is); (case yc => k_is); (case yk => k_is)
    intro f_check_loss
    refine' K07.def_use (x := "check_guess") (st := K07.s_check_guess) KX G ?ya ?yl ?yc ?yk ?_
    (case ya => k_is); (case yl => k_is); (case yc => k_is); (case yk => k_is)
    intro f_check_guess
    refine' K07.def_use (x := "step_of") (st := K07.s_step_of) KX G ?ya ?yl ?yc ?yk ?_
    (case ya => k_is); (case yl => k_is); (case yc => k_is); (case yk => k_is)
    intro f_step_of
    refine' K07.def_use (x := "level_for") (st := K07.s_level_for) KX G ?ya ?yl ?yc ?yk ?_
    (case ya => k_is); (case yl => k_is); (case yc => k_is); (case yk => k_is)
    intro f_level_for
    refine' K07.def_use (x := "_law_begun") (st := K07.s__law_begun) KX G ?ya ?yl ?yc ?yk ?_
    (case ya => k_is); (case yl => k_is); (case yc => k_is); (case yk => k_is)
    intro f__law_begun
    refine' K07.def_use (x := "_law_draw") (st := K07.s__law_draw) KX G ?ya ?yl ?yc ?yk ?_
    (case ya => k_is); (case yl => k_is); (case yc => k_is); (case yk => k_is)
    intro f__law_draw
    refine' K07.def_use (x := "_law_pick") (st := K07.s__law_pick) KX G ?ya ?yl ?yc ?yk ?_
    (case ya => k_is); (case yl => k_is); (case yc => k_is); (case yk => k_is)
    intro f__law_pick
    refine' K07.def_use (x := "_law_caught") (st := K07.s__law_caught) KX G ?ya ?yl ?yc ?yk ?_
    (case ya => k_is); (case yl => k_is); (case yc => k_is); (case yk => k_is)
    intro f__law_caught
    refine' K07.def_use (x := "_law_scope") (st := K07.s__law_scope) KX G ?ya ?yl ?yc ?yk ?_
    (case ya => k_is); (case yl => k_is); (case yc => k_is); (case yk => k_is)
    intro f__law_scope
    refine' K07.def_use (x := "_law_form") (st := K07.s__law_form) KX G ?ya ?yl ?yc ?yk ?_
    (case ya => k_is); (case yl => k_is); (case yc => k_is); (case yk => k_is)
    intro f__law_form
    refine' K07.def_use (x := "_law_within") (st := K07.s__law_within) KX G ?ya ?yl ?yc ?yk ?_
    (case ya => k_is); (case yl => k_is); (case yc => k_is); (case yk => k_is)
    intro f__law_within
    refine' K07.def_use (x := "_law_grain") (st := K07.s__law_grain) KX G ?ya ?yl ?yc ?yk ?_
    (case ya => k_is); (case yl => k_is); (case yc => k_is); (case yk => k_is)
    intro f__law_grain
    refine' K07.def_use (x := "_law_level") (st := K07.s__law_level) KX G ?ya ?yl ?yc ?yk ?_
    (case ya => k_is); (case yl => k_is); (case yc => k_is); (case yk => k_is)
    intro f__law_level
    refine' K07.def_use (x := "_law_built") (st := K07.s__law_built) KX G ?ya ?yl ?yc ?yk ?_
    (case ya => k_is); (case yl => k_is); (case yc => k_is); (case yk => k_is)
    intro f__law_built
    refine' K07.def_use (x := "_law_span") (st := K07.s__law_span) KX G ?ya ?yl ?yc ?yk ?_
    (case ya => k_is); (case yl => k_is); (case yc => k_is); (case yk => k_is)
    intro f__law_span
    refine' K07.def_use (x := "_law_refused") (st := K07.s__law_refused) KX G ?ya ?yl ?yc ?yk ?_
    (case ya => k_is); (case yl => k_is); (case yc => k_is); (case yk => k_is)
    intro f__law_refused
    refine' K07.def_use (x := "law") (st := K07.s_law) KX G ?ya ?yl ?yc ?yk ?_
    (case ya => k_is); (case yl => k_is); (case yc => k_is); (case yk => k_is)
    intro f_law
    refine' K07.lam_use KX G f__law_refused one ?ya ?yl ?yc ?yh ?yj ?_
    (case ya => k_is); (case yl => k_is); (case yc => k_is); (case yh => kernel_rfl); (case yj => kernel_rfl)
    intro LT noT hd
    have cMOST_TOLD := K07.cstT_of (x := "MOST_TOLD") (n := 32767) KX G (by k_is)
    have cONES_OF_GRADE := K07.cstT_of (x := "ONES_OF_GRADE") (n := 12) KX G (by k_is)
    have cBITS_BEHIND_ONES := K07.cstT_of (x := "BITS_BEHIND_ONES") (n := 16) KX G (by k_is)
    have cLOWEST := K07.cstT_of (x := "LOWEST") (n := -512) KX G (by k_is)
    have cHIGHEST := K07.cstT_of (x := "HIGHEST") (n := 511) KX G (by k_is)
    have cMOST_SPOTS := K07.cstT_of (x := "MOST_SPOTS") (n := 16) KX G (by k_is)
    have b_isinstance := PySem.W.mg_none_of (n := "isinstance") KX G (by k_is)
    have b_int := PySem.W.mg_none_of (n := "int") KX G (by k_is)
    have b_bool := PySem.W.mg_none_of (n := "bool") KX G (by k_is)
    have b_str := PySem.W.mg_none_of (n := "str") KX G (by k_is)
    have b_len := PySem.W.mg_none_of (n := "len") KX G (by k_is)
    have b_abs := PySem.W.mg_none_of (n := "abs") KX G (by k_is)
    have b_range := PySem.W.mg_none_of (n := "range") KX G (by k_is)
    have b_min := PySem.W.mg_none_of (n := "min") KX G (by k_is)
    have b_max := PySem.W.mg_none_of (n := "max") KX G (by k_is)
    have b_repr := PySem.W.mg_none_of (n := "repr") KX G (by k_is)
    have b_list := PySem.W.mg_none_of (n := "list") KX G (by k_is)
    have b_sorted := PySem.W.mg_none_of (n := "sorted") KX G (by k_is)
    have b_ValueError := PySem.W.mg_none_of (n := "ValueError") KX G (by k_is)
    exact K07.law_at (Pt := _) { reel := R, BadGrade := BadGrade, BadGuess := BadGuess, BadLoss := BadLoss, BadNumber := BadNumber, is_number := f_is_number, is_within := f_is_within, clipped := f_clipped, grade_bits := f_grade_bits, check_told := f_check_told, check_grade := f_check_grade, is_told := f_is_told, fold := f_fold, in_bits := f_in_bits, check_shape := f_check_shape, level_of := f_level_of, rebuilt := f_rebuilt, levels_that := f_levels_that, check_loss := f_check_loss, check_guess := f_check_guess, step_of := f_step_of, level_for := f_level_for, _law_begun := f__law_begun, _law_draw := f__law_draw, _law_pick := f__law_pick, _law_caught := f__law_caught, _law_scope := f__law_scope, _law_form := f__law_form, _law_within := f__law_within, _law_grain := f__law_grain, _law_level := f__law_level, _law_built := f__law_built, _law_span := f__law_span, _law_refused := f__law_refused, law := f_law, cMOST_TOLD := cMOST_TOLD, cONES_OF_GRADE := cONES_OF_GRADE, cBITS_BEHIND_ONES := cBITS_BEHIND_ONES, cLOWEST := cLOWEST, cHIGHEST := cHIGHEST, cMOST_SPOTS := cMOST_SPOTS, b_isinstance := b_isinstance, b_int := b_int, b_bool := b_bool, b_str := b_str, b_len := b_len, b_abs := b_abs, b_range := b_range, b_min := b_min, b_max := b_max, b_repr := b_repr, b_list := b_list, b_sorted := b_sorted, b_ValueError := b_ValueError } SH BE hmg LT one noT hd
