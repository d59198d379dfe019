import PyProof.Rows.All
import Wide.All
import OpenK.AllK
import Wide.FinOn
import PyProof.FString3
import PyProof.StrBlock2
import PyProof.ReprRoads
import KE.KxField
import HandS.ForMost
import HandS.EndTab
import HandS.WordsExc
import HandS.ExcOwn
import HandS.ExcValue
import HandS.ExcIs
import HandS.IsInst
import HandS.StrMore
import HandS.FStr
import HandS.Style
import HandS.Wide
import HandS.WideBits
import HandS.RaiseMore
import HandS.Small
import HandS.Evl
import HandS.Defaults
import KE.KExcSuper
import KE.KExcIs
import PySem.Challenge.RW_pricedreels_k16_rectangles_lifted_there
import KE.DataMinMax
import HandS.TupMul
import HandS.TupAny
import PyProof.InstEq
import HandS.OwnEq
import HandS.Walk
import HandS.RevRange
import HandS.TryOnly
import KE.KDictDisplayH
import PyProof.DictTable
import HandS.CallLocal
import HandS.MakeKwOnly
set_option Elab.async false
set_option linter.all false
set_option maxRecDepth 100000
set_option maxHeartbeats 4000000
namespace KA
open PySem PySem.Spec PyProof.Rows L2
section
variable {X : Cx}
/-- text * int -/
def rMulS : R2 := fun x y H Q => ∃ (a : Str) (n : Int), x = .str a ∧ y = .int n ∧ 0 ≤ n ∧ n ≤ 1000 ∧ a.length ≤ 1000 ∧ Q (.str (Txt.mul a n)) H
theorem op_mulS : OpR X (binaryOp .Mult) rMulS := by
  intro pins s σ H x y v u Q I rx ry h
  obtain ⟨a, n, rfl, rfl, h0, h1, h2, q⟩ := h
  obtain ⟨t, rfl⟩ := rx
  obtain ⟨t', rfl⟩ := ry
  refine SB.mul ⟨?_, fun hn hz => ?_, fun hn hz => ?_⟩ fun t' k => ⟨.str (Txt.mul a n), H, I.tok _, ⟨_, rfl⟩, q⟩
  · simp
    omega
  · have h3 : (1000 : Int) ≤ (2 ^ 63 - 1) / n := by
      refine Int.le_ediv_of_mul_le (by omega) ?_
      omega
    omega
  · have : a.length * n.toNat ≤ 1000 * 1000 := Nat.mul_le_mul h2 (by omega)
    unfold Builtin.Str.tooLong
    simp
    have e : sizeLine = 16777216 := by rfl
    omega
end
end KA
namespace KA
open PySem PySem.Spec PyProof.Rows L2 PySem.W
/-- the binary digits of a number from 0 on, as a text -/
def binText (n : Nat) : Str := ⟨((Nat.toDigits 2 n).map Char.toNat).toArray⟩
def specB : Str := ⟨#[98]⟩
theorem digits_some (n : Nat) : ∃ d ds, (Nat.toDigits 2 n).map Char.toNat = d :: ds := by
  cases e : (Nat.toDigits 2 n).map Char.toNat with
  | nil =>
    have h := congrArg List.length e
    simp at h
  | cons d ds => exact ⟨d, ds, rfl⟩
theorem meets_b {a : Int} {t : Tok} (h0 : 0 ≤ a) (hl : (binText a.natAbs).length ≤ sizeLine) (u : Tok) :
    Meets (Builtin.«int.__format__» ⟨[.int a t, .str specB u], []⟩) (fun _ R s => ∀ t' k, R (.ok (.ret (.str (binText a.natAbs) t'))) { s with toks := k }) := by
  apply KPc.meets_of
  intro _ _ _ _ _ _ _
  unfold Builtin.«int.__format__»
  refine wpAny_bind (wpAny_of_eq (a := (_, _)) rfl ?_)
  refine wpAny_bind (wpAny_of_eq (a := _) rfl ?_)
  kxf_if
  refine wpAny_bind (wpAny_typeNameOf (T := "str") (typeIs_str _ _ _) (by decide) fun _ => ?_)
  refine wpAny_bind (wpAny_of_eq (a := some _) rfl ?_)
  kxf_if
  kxf_if
  refine wpAny_bind (wpAny_typeNameOfCut_int ?_)
  have hneg : decide (a < 0) = false := decide_eq_false (by omega)
  (repeat kxf_if)
  refine KXf.ret_text (T := binText a.natAbs) ?_ ?_ ?_
  · rw [hneg]
    obtain ⟨d, ds, e⟩ := digits_some a.natAbs
    unfold binText
    rw [e]
    generalize hL : List.map _ _ = L
    have eL : L = d :: ds := hL.symm.trans e
    subst eL
    show ((⟨(List.replicate (((-1 : Int) - ((([] : List Nat).length : Nat) + (([] : List Nat).length : Nat) + (([] : List Nat).length : Nat)) - ((List.replicate ((0 : Int).toNat - (d :: ds).length) 48 ++ (d :: ds)).length : Nat)).toNat) 32 ++ ([] : List Nat) ++ [] ++ List.replicate 0 32 ++ (List.replicate ((0 : Int).toNat - (d :: ds).length) 48 ++ (d :: ds)) ++ [] ++ List.replicate 0 32).toArray⟩ : Str)) = _
    have z1 : (0 : Int).toNat - (d :: ds).length = 0 := by simp
    rw [z1]
    have z2 : ((-1 : Int) - ((([] : List Nat).length : Nat) + (([] : List Nat).length : Nat) + (([] : List Nat).length : Nat)) - ((List.replicate 0 48 ++ (d :: ds)).length : Nat)).toNat = 0 := by
      simp
      omega
    rw [z2]
    simp
  · rw [hneg]
    obtain ⟨d, ds, e⟩ := digits_some a.natAbs
    unfold binText at hl
    rw [e] at hl
    generalize hL : List.map _ _ = L
    have eL : L = d :: ds := hL.symm.trans e
    subst eL
    show (⟨(List.replicate (((-1 : Int) - ((([] : List Nat).length : Nat) + (([] : List Nat).length : Nat) + (([] : List Nat).length : Nat)) - ((List.replicate ((0 : Int).toNat - (d :: ds).length) 48 ++ (d :: ds)).length : Nat)).toNat) 32 ++ ([] : List Nat) ++ [] ++ List.replicate 0 32 ++ (List.replicate ((0 : Int).toNat - (d :: ds).length) 48 ++ (d :: ds)) ++ [] ++ List.replicate 0 32).toArray⟩ : Str).length ≤ _
    have z1 : (0 : Int).toNat - (d :: ds).length = 0 := by simp
    rw [z1]
    have z2 : ((-1 : Int) - ((([] : List Nat).length : Nat) + (([] : List Nat).length : Nat) + (([] : List Nat).length : Nat)) - ((List.replicate 0 48 ++ (d :: ds)).length : Nat)).toNat = 0 := by
      simp
      omega
    rw [z2]
    simpa using hl
  · assumption
end KA
namespace KA
open PySem PySem.Spec PyProof.Rows L2 PySem.W
section
variable {X : Cx}
/-- f'{e:b}', a number from 0 on -/
theorem pe_fmtB {e : Expr} {te : TE} {pos p1 p2 : Pos} {k : Nat} (he : PE X e te) :
    PE X (.FormattedValue e (-1) (some (.JoinedStr [.Constant (.str "b") k p1] p2)) pos) (fun σ H Q => te σ H fun x H1 => ∃ i : Int, x = .int i ∧ 0 ≤ i ∧ (binText i.natAbs).length ≤ sizeLine ∧ Q (.str (binText i.natAbs)) H1) := by
  refine ⟨fun pins s σ H Q I h => ?_⟩
  refine wpAny_FormattedValue_spec (thn (he.run pins s σ H _ I h) fun v s1 hv => ?_)
  obtain ⟨x, H1, I1, r1, i, rfl, h0, hz, q⟩ := hv
  obtain ⟨t, rfl⟩ := r1
  refine wpAny_JoinedStr_one ?_
  refine Calls.Constant_str ⟨("b" : Str), _, rfl, ?_⟩
  exact KXf.field_int (spec' := specB) (by decide +kernel) (by decide) (by decide) (fun u => meets_b h0 hz u) fun t' k => ⟨.str (binText i.natAbs), H1, (I1.tok _).tok _, ⟨_, rfl⟩, q⟩
end
end KA
namespace KA
open PySem PySem.Spec PyProof.Rows L2 PySem.W
/-! ### an exception that was caught, kept as a value -/
/-- an exception of the class cls with the own dict d stands at a -/
def ExV (cls : Value) (d : Option Addr) (a : Addr) : HO := .ext fun h => ∃ oe : Obj, h.get? a = some oe ∧ Zc cls d oe ∧ ∃ vs, oe.data = .fields vs
theorem exV_ok {P : Program} {w : World} {H : Hp} {h : Heap} {a : Addr} {cls : Value} {d : Option Addr} {oe : Obj} {vs : Array Value} (e : h.get? a = some oe) (z : Zc cls d oe) (f : oe.data = .fields vs) :
    ObjOk P w H h a (ExV cls d a) := ⟨⟨oe, e, z, vs, f⟩, ⟨oe, e⟩, fun _ _ ⟨o, q, r⟩ k => ⟨o, k o q, r⟩⟩
section
variable {X : Cx} {pins : List (Addr × Obj)} {σ : L2.St} {H : Hp} {s : Shared}
/-- what was pinned, and did not stand at the entry, is tracked from here on -/
theorem track {a : Addr} {oe : Obj} {φ : Heap → Prop} (J : Inv X ((a, oe) :: pins) σ H s) (ok : X.Ok) (n0 : X.s_0.heap.get? a = none) (np : ∀ p ∈ X.pn ++ pins, p.1 ≠ a)
    (new : ObjOk X.prog X.w (upd H a (.ext φ)) s.heap a (.ext φ)) : Inv X pins σ (upd H a (.ext φ)) s := by
  obtain ⟨ea, na, nL, notF, nc⟩ := J.pin (a, oe) (List.mem_append_right _ List.mem_cons_self)
  have nz : ∀ b u, H b = some u → b ≠ a := fun b u q => ne_of_none q na
  have cut : ∀ p, p ∈ X.pn ++ pins → p ∈ X.pn ++ (a, oe) :: pins := fun p hp => by
    rcases List.mem_append.mp hp with h | h
    · exact List.mem_append_left _ h
    · exact List.mem_append_right _ (List.mem_cons_of_mem _ h)
  have old : ∀ b o, X.s_0.heap.get? b = some o → b ≠ a := fun b o q z => by
    rw [z, n0] at q
    cases q
  have base : Un X.fs X.ex X.H_0 (upd H a (.ext φ)) X.s_0.heap s.heap :=
    { keep := J.base.keep, slot := J.base.slot, there := J.base.there
      free := fun b o q n hx => (upd_ne (old b o q)).trans (J.base.free b o q n hx)
      tups := fun b xs q => (upd_ne (nz b _ (J.base.tups b xs q))).trans (J.base.tups b xs q)
      frzs := fun b o u q => (upd_ne (nz b _ (J.base.frzs b o u q))).trans (J.base.frzs b o u q)
      tbls := fun b ps q => by
        obtain ⟨more, z⟩ := J.base.tbls b ps q
        exact ⟨more, (upd_ne (nz b _ z)).trans z⟩ }
  have apart : ∀ b, b ≠ a → H b = none → upd H a (.ext φ) b = none := fun b hb hn => (upd_ne hb).trans hn
  have ce : ∀ x c, X.env.cells.lookup x = some c → c ≠ a := fun x c q z => by
    obtain ⟨v, o, ho, hd⟩ := J.cell x c q
    rw [z, ea] at ho
    cases ho
    exact nc v hd
  have hk : HOk X.prog X.w (upd H a (.ext φ)) s.heap := fun b o q => by
    by_cases hb : b = a
    · subst hb
      rw [upd_same] at q
      cases q
      exact new
    · rw [upd_ne hb] at q
      exact (J.hok b o q).stay (fun c v _ r => r) (fun c r => (upd_ne (nz c _ r)).trans r) (fun c xs r => (upd_ne (nz c _ r)).trans r)
  have pk : ∀ p ∈ X.pn ++ pins, s.heap.get? p.1 = some p.2 ∧ upd H a (.ext φ) p.1 = none ∧ p.1 ≠ X.env.locals ∧ p.1 ∉ X.fs ∧ ∀ v, p.2.data ≠ .cell v := fun p hp => by
    obtain ⟨e1, e2, e3⟩ := J.pin p (cut p hp)
    exact ⟨e1, apart _ (np p hp) e2, e3⟩
  exact { ok := ok, os := J.os, bare := J.bare, base := base, loc := J.loc, cell := J.cell, free := apart _ (Ne.symm nL) J.free
          freeC := fun x c q => apart _ (ce x c q) (J.freeC x c q), pin := pk, hok := hk, len := J.len }
end
/-- what 'except x as n: m = n' wishes of an exception of the body: it is of the clause's class, and m holds it behind the try (slots: n in i, m in j) -/
def wKeep (K : PySem.W.Frag) (c : Value) (i j len : Nat) (D : Ends) : WX := fun cls d σ H =>
  PySem.W.exmOne K cls c = some true ∧ ∀ a, H a = none → σ.length = len → D.nx ((((σ.set i (some (.ref a))).set j (some (.ref a)))).set i none) (upd H a (ExV cls d a))
section
variable {X : Cx} {x n m : Str} {c : Value} {i j : Nat} {body : List Stmt} {np pm pr pa ph pt : Pos} {tb : WX → TS}
theorem ps_try_keep (hx : X.ex = []) (hs : X.stack = X.env :: X.outer) (hf : X.env.frame = some X.env.locals) (hN : X.N.Nodup) (hi : X.N[i]? = some n) (hj : X.N[j]? = some m) (hln : X.env.kindOf n = some .local) (hlm : X.env.kindOf m = some .local) (hc : Names X x c)
    (hd : (n == ("__debug__" : Str)) = false) (hcd : (n == ("__classdict__" : Str)) = false)
    (hb : ∀ (W : WX) (pn : List (Addr × Obj)) (xe : Value → Shared → Prop), Takes (X.tr pn xe) W → PassesOwn (model X.prog X.w) X.A X.env xe → PSs (X.tr pn xe) body (tb W)) :
    PS X (.Try body [.ExceptHandler (some (.Name x np)) (some n) [.Assign [.Name m pm] (.Name n pr) pa] ph] [] [] pt) (fun D σ H => tb (wKeep X.K c i j X.N.length D) D σ H) := by
  refine ⟨fun pins s σ H D I h => wpAny_Try_except ?_⟩
  have ok := I.ok
  have fr : X.A.frames = some (X.env :: X.outer) := ok.frames.trans (congrArg some hs)
  have ways : ∀ u s', XE (X.tr (X.pn ++ pins) (fun e s₁ => wpAny (model X.prog X.w) X.A (noteFrame e X.env)
      (fun _ s₂ => wpAny (model X.prog X.w) X.A (setFlight e none)
        (fun _ s₃ => wpAny (model X.prog X.w) X.A (handleBy e X.env [.ExceptHandler (some (.Name x np)) (some n) [.Assign [.Name m pm] (.Name n pr) pa] ph]) (SP X pins D) X.xe s₃) X.xe s₂) X.xe s₁)) (wKeep X.K c i j X.N.length D) u s' →
      wpAny (model X.prog X.w) X.A (noteFrame u X.env)
        (fun _ s₂ => wpAny (model X.prog X.w) X.A (setFlight u none)
          (fun _ s₃ => wpAny (model X.prog X.w) X.A (handleBy u X.env [.ExceptHandler (some (.Name x np)) (some n) [.Assign [.Name m pm] (.Name n pr) pa] ph]) (SP X pins D) X.xe s₃) X.xe s₂) X.xe s' := by
    rintro u s' ⟨a, B, sI, pins', σ', H', cls, d, rfl, Jt, nb, up, sky, na, os, ag, hyes, hgo⟩
    have J : Inv X pins σ' H' sI := Jt.ofTry ok
    have nb : ∀ b o, sI.heap.get? b = some o → b ∉ frs X.stack → B.get? b = some o := nb
    have sky : Sky B (X.env :: X.outer) a (Zc cls d) X.env.locals s'.heap := hs ▸ sky
    refine Sky.land Zc.steady fr hf sky fun h3 air3 grow3 => ?_
    have J3 : Inv X pins σ' H' { s' with heap := h3 } := J.landed nb air3.1 (up.trans grow3) os ag
    obtain ⟨o3, v3, e3, z3, f3⟩ := air3.there
    have away : a ∉ frs (X.env :: X.outer) := fun hm => by
      obtain ⟨_, o', e', hnf⟩ := air3.2.2.1.mem hm
      cases e3.symm.trans e'
      exact hnf _ f3
    have nL : a ≠ X.env.locals := fun z => away (List.mem_filterMap.mpr ⟨X.env, List.mem_cons_self, hf.trans (congrArg some z.symm)⟩)
    have notF : a ∉ X.fs := fun hm => by
      obtain ⟨e, inX, q⟩ := List.mem_filterMap.mp hm
      exact away (List.mem_filterMap.mpr ⟨e, List.mem_cons_of_mem _ inX, q⟩)
    have gone : sI.heap.get? a = none := by
      cases q : sI.heap.get? a with
      | none => rfl
      | some o =>
        have z := nb a o q (by rw [hs]; exact away)
        rw [air3.2.1] at z
        cases z
    have n0 : X.s_0.heap.get? a = none := by
      cases q : X.s_0.heap.get? a with
      | none => rfl
      | some o =>
        obtain ⟨o', z⟩ := J.base.there a o q (by rw [hx]; exact fun z => nomatch z)
        rw [gone] at z
        cases z
    have np' : ∀ p ∈ X.pn ++ pins, p.1 ≠ a := fun p hp z => by
      have q := (J.pin p hp).1
      rw [z, gone] at q
      cases q
    have S3 := J3.suite e3 f3 na nL notF
    refine wpAny_handleBy_cons (codeAny_handlers_test ?_) (by intro q; cases q)
    have LT : PySem.W.Looks (model X.prog X.w) h3 (typeOf (.ref a)) cls := fun A Q E s k q => wpAny_typeOf_ref (k _ _ e3) (z3.1.symm ▸ q)
    have LM := PySem.W.exm_one (M := model X.prog X.w) J3.kIn LT hyes
    have named : ∀ {Q E : Value → Shared → Prop}, Q c { s' with heap := h3 } →
        wpAny (model X.prog X.w) (X.A.mark (some (.ref a))) (eval (.Name x np) X.env) Q E { s' with heap := h3 } := fun {Q E} q => by
      obtain ⟨g, gd, gm | ⟨gm, gv, gn⟩⟩ := hc
      · exact ld_glob (X := X.suite a _) S3 g gm q gd
      · exact ld_blt (X := X.suite a _) S3 g gm gv q gn gd
    refine named (LM.here (codeAny_handlers_suite_as ?_))
    refine HandSPX.lands_againZ air3 fun h4 air4 grow4 => ?_
    have J4 : Inv X pins σ' H' { s' with heap := h4 } := J.landed nb air4.1 ((up.trans grow3).trans grow4) os ag
    obtain ⟨o4, v4, e4, z4, f4⟩ := air4.there
    refine store_ok (X := X.suite a ((a, o4) :: (X.pn ++ pins))) (v := .ref a) (J4.suite e4 f4 na nL notF) hN hi (.inl hln) rfl (fun s5 S5 => ?_) (.inr hln)
    have assign : PSs (X.suite a ((a, o4) :: (X.pn ++ pins))) [.Assign [.Name m pm] (.Name n pr) pa] (tAsg (tVar i) (gName j)) :=
      pss_one (ps_set (i := j) hN hj (.inl hlm) (pe_var hi (.inl hln) hd hcd) (hf := .inr hlm))
    have hlt : i < (σ'.set i (some (V.ref a))).length := by
      rw [List.length_set, J.len]
      exact (List.getElem?_eq_some_iff.mp hi).1
    refine wpAny_mono (assign.run [] s5 _ H' { D with nx := fun σ6 H6 => σ6 = (σ'.set i (some (.ref a))).set j (some (.ref a)) ∧ H6 = H', rt := fun _ _ => False, bk := fun _ _ => False, ct := fun _ _ => False } S5
      ⟨.ref a, by rw [List.getElem?_set_self (by simpa using hlt)], rfl, rfl⟩) (fun f s6 q6 => ?_) (fun _ _ z => z.elim)
    cases f with
    | next =>
      obtain ⟨σ6, H6, S6, eσ, eH⟩ := q6
      subst eσ
      subst eH
      have U : Inv X pins _ H6 s6 := S6.unsuite ok
      have P6 := S6.pin (a, o4) (List.mem_append_left _ List.mem_cons_self)
      have pin2 : ∀ p ∈ X.pn ++ (a, o4) :: pins, s6.heap.get? p.1 = some p.2 ∧ H6 p.1 = none ∧ p.1 ≠ X.env.locals ∧ p.1 ∉ X.fs ∧ ∀ v, p.2.data ≠ .cell v := fun p hp => by
        rcases List.mem_append.mp hp with h | h
        · exact U.pin p (List.mem_append_left _ h)
        · rcases List.mem_cons.mp h with e | h
          · rw [e]
            exact P6
          · exact U.pin p (List.mem_append_right _ h)
      have U2 : Inv X ((a, o4) :: pins) _ H6 s6 := { U with pin := pin2 }
      refine gone_ok U2 hN hi hln fun s7 J7 => ?_
      have P7 := (J7.pin (a, o4) (List.mem_append_right _ List.mem_cons_self)).1
      exact ⟨_, _, track J7 ok n0 np' (exV_ok P7 z4 f4), hgo a na J.len⟩
    | brk =>
      obtain ⟨_, _, _, z⟩ := q6
      exact z.elim
    | cont =>
      obtain ⟨_, _, _, z⟩ := q6
      exact z.elim
    | ret u =>
      obtain ⟨_, _, _, _, _, z⟩ := q6
      exact z.elim
  refine wpAny_mono ((hb (wKeep X.K c i j X.N.length D) (X.pn ++ pins) _ ways PassesOwn.looking).run [] s σ H D (I.toTry _) h) (fun f s1 q => ?_) fun _ _ z => z
  cases f with
  | next =>
    obtain ⟨σ1, H1, J1, q1⟩ := q
    exact wpAny_execs_nil ⟨σ1, H1, J1.ofTry ok, q1⟩
  | brk =>
    obtain ⟨σ1, H1, J1, q1⟩ := q
    exact ⟨σ1, H1, J1.ofTry ok, q1⟩
  | cont =>
    obtain ⟨σ1, H1, J1, q1⟩ := q
    exact ⟨σ1, H1, J1.ofTry ok, q1⟩
  | ret u =>
    obtain ⟨v, σ1, H1, J1, r, q1⟩ := q
    exact ⟨v, σ1, H1, J1.ofTry ok, r, q1⟩
end
end KA
namespace KA
open PySem PySem.Spec PyProof.Rows L2 PySem.W
/-- isinstance of an exception that is kept as a value, its class without fields of its own -/
def rIsV (K : PySem.W.Frag) : List V → Hp → VK → Prop := fun xs H Q => ∃ (a D : Addr) (c : V) (cv : Value) (b : Bool), xs = [.ref a, c] ∧ H a = some (ExV (.ref D) none a) ∧ ExcC K D ∧ ClsV c cv ∧ PySem.W.kitOne K (.ref D) cv = some b ∧ Q (.bl b) H
def rIs2 (K : PySem.W.Frag) : List V → Hp → VK → Prop := fun xs H Q => rIsi K xs H Q ∨ rIsV K xs H Q
section
variable {X : Cx}
theorem call_isV : CallR X (.builtin "isinstance") (rIsV X.K) := by
  intro pins s σ H xs us Q I r h
  obtain ⟨a, D, c, cv, b, rfl, ha, C, k, e, q⟩ := h
  obtain ⟨u1, u2, rfl, r1, r2⟩ := vals2 r
  cases k.eq r2
  cases (show u1 = Value.ref a from r1)
  obtain ⟨⟨oe, h1, ⟨z1, z2⟩, vs, z3⟩, _⟩ := I.hok a _ ha
  obtain ⟨oc, od, dt, sl⟩ := oe
  dsimp only at z1 z2 z3
  subst z1 z2 z3
  have J : PySem.W.InstAt s.heap a ⟨.ref D, none, .fields vs, sl⟩ D none := ⟨h1, rfl, rfl, trivial⟩
  exact PySem.W.kia_one (PySem.W.handS_kitx_exc C.hg C.hk C.hs C.hd C.ha C.hn C.ht C.hm) I.kIn J e (fun z => nomatch z) fun tk => ⟨.bl b, H, I.tok tk, rfl, q⟩
theorem call_is2 : CallR X (.builtin "isinstance") (rIs2 X.K) := by
  intro pins s σ H xs us Q I r h
  rcases h with h | h
  · exact call_isi pins s σ H xs us Q I r h
  · exact call_isV pins s σ H xs us Q I r h
/-- repr of data -/
def rRepr (K : PySem.W.Frag) : List V → Hp → VK → Prop := fun xs H Q => ∃ (x : Addr) (d : PyData), xs = [.ref x] ∧ Dp K H (.ref x) d ∧ d.showable = true ∧ d.hasDict = false ∧ d.depth ≤ 60 ∧ d.shown.length ≤ sizeLine ∧ Q (.str d.shown) H
theorem call_repr {k : Nat} (hg : X.A.guards = some []) (hr : Room k X.A) : CallR X (.builtin "repr") (rRepr X.K) := by
  intro pins s σ H xs us Q I r h
  obtain ⟨x, d, rfl, hd, hs, hn, hz, hl, q⟩ := h
  obtain ⟨u1, rfl, r1⟩ := vals1 r
  cases (show u1 = Value.ref x from r1)
  obtain ⟨as, rd⟩ := Dp.reads I d (.ref x) (.ref x) hd rfl
  have hu := hr.un
  refine repr_of_reads' rd hs (fun z => by rw [hn] at z; cases z) hg (by omega) (fun _ _ e => e) (fun h' u tk hk => ?_) hl
  exact ⟨.str d.shown, H, I.kept (t' := tk) hk, ⟨_, rfl⟩, q⟩
end
end KA
namespace KA
open PySem PySem.Spec PyProof.Rows L2 PySem.W LamX
section
variable {X : Cx}
/-- caught: what the lambda raises is kept and handed back, None if it raises nothing -/
def TCaught (K : PySem.W.Frag) (CS : Addr) : (XK → Hp → VK → Prop) → Hp → VK → Prop := fun tl H Q => ∀ Q1 : VK, (∀ v H', Q .non H' → Q1 v H') →
  tl (fun cls d H' => PySem.W.exmOne K cls (.ref CS) = some true ∧ ∀ a, H' a = none → Q (.ref a) (upd H' a (ExV cls d a))) H Q1
theorem caught_gives {a e n m q x : Str} {sg : Scope} {g CS : Addr} {cdg : Value} {j1 : Nat} {p1 p2 p3 p4 p5 p6 p7 p8 p9 pa pb pc pd pe : Pos} (S : FnScope [a, m, n] [a] sg)
    (la : sg.names.lookup a = some .local) (lm : sg.names.lookup m = some .local) (ln : sg.names.lookup n = some .local) (he : sg.names.lookup e = some .globalImplicit) (hme : X.mg e = some (.ref CS)) (hde : (e == ("__debug__" : Str)) = false)
    (d1 : (n == ("__debug__" : Str)) = false) (d2 : (n == ("__classdict__" : Str)) = false) (d3 : (m == ("__debug__" : Str)) = false) (d4 : (m == ("__classdict__" : Str)) = false) :
    GivesTo X [a, m, n] x sg g cdg
      [.Assign [.Name m p1] (.Constant .none j1 p2) p3,
       .Try [.Expr (.Call (.Name a p4) [] [] p5) p6] [.ExceptHandler (some (.Name e p7)) (some n) [.Assign [.Name m p8] (.Name n p9) pa] pb] [] [] pc,
       .Return (some (.Name m pd)) pe] a q (TCaught X.K CS) := by
  intro f c' s H Q tl act hc h
  have hgl : Gl (cxOf C8.CX0 X.prog X.w X.K X.mg X.base [a, m, n] x sg g cdg X.A X.stack s H C8.E0).nox e := he
  refine ⟨_, pss_cons (ps_set (i := 1) S.nd rfl (.inl lm) pe_non) (pss_cons (ps_try_keep (X := (cxOf C8.CX0 X.prog X.w X.K X.mg X.base [a, m, n] x sg g cdg X.A X.stack s H C8.E0).nox) (c := .ref CS) (i := 2) (j := 1)
      (tb := fun W D σ H => ∃ Eb : XK, (∀ cls d σ' H', Eb cls d H' → W cls d σ' H') ∧ σ[0]? = some (some (.ref f)) ∧ H c' = some (CodeO c' q) ∧ tl Eb H (fun _ H' => D.nx σ H'))
      rfl rfl rfl S.nd rfl rfl ln lm ⟨hgl, hde, .inl hme⟩ d1 d2 (fun W pn xe tk _ => ?_))
    (pss_one (ps_ret (pe_var (i := 1) rfl (.inl lm) d3 d4)))), ?_⟩
  · refine ⟨fun pins s' σ H' D I h' => ?_⟩
    obtain ⟨Eb, wish, h1, h2, h3⟩ := h'
    exact (pss_one (ps_expr (act W pn xe Eb p4 p5 tk wish))).run pins s' σ H' D I ⟨h1, h2, h3⟩
  · refine ⟨fun cls d H' => PySem.W.exmOne X.K cls (.ref CS) = some true ∧ ∀ a, H' a = none → Q (.ref a) (upd H' a (ExV cls d a)), fun cls d σ' H' ⟨e1, e2⟩ => ⟨e1, fun b hb hl => ?_⟩, rfl, hc, ?_⟩
    · match σ', hl with
      | [u, v, w], _ => exact ⟨_, rfl, e2 b hb⟩
    · exact h _ fun v H' z => ⟨_, rfl, z⟩
end
end KA
namespace KA
open PySem PySem.Spec PyProof.Rows L2 PySem.W LamX
/-! ### what the top has written, by name -/
/-- a def of the top -/
structure DefT (K : PySem.W.Frag) (mg : Str → Option Value) (x : Str) (st : Stmt) where
  a : Addr
  d : FuncData
  f : Fun K x x st a d
  m : mg x = some (.ref a)
abbrev veB : List Value := [.type "ValueError", .type "Exception", .type "BaseException", .type "object"]
/-- an exception class of the top over ReelError at R, without an __init__ of its own -/
structure ExcT (K : PySem.W.Frag) (mg : Str → Option Value) (x : Str) (R : Addr) where
  C : Addr
  g : mg x = some (.ref C)
  q : PySem.W.excIn K C veB "ValueError.__new__" = true
  k : PySem.W.keepIn K (.ref C) = true
  b : PySem.W.subIn K (.ref C) (.type "BaseException") = some true
  t : PySem.W.typeIn K (.ref C) = some (.type "type")
  r : PySem.W.subIn K (.ref C) (.ref R) = some true
  e : ExcC K C
/-- ReelError -/
structure ReelT (K : PySem.W.Frag) (mg : Str → Option Value) where
  C : Addr
  g : mg "ReelError" = some (.ref C)
  b : PySem.W.subIn K (.ref C) (.type "BaseException") = some true
  t : PySem.W.typeIn K (.ref C) = some (.type "type")
  d : PySem.W.hasDictIn K C = true
theorem ExcT.exm {K : PySem.W.Frag} {mg : Str → Option Value} {x : Str} (R : ReelT K mg) (T : ExcT K mg x R.C) : PySem.W.exmOne K (.ref T.C) (.ref R.C) = some true := PySem.W.exm_ref R.b R.d R.t T.r
/-- an int constant of the top -/
def CstT (mg : Str → Option Value) (x : Str) (n : Int) : Prop := ∃ t, mg x = some (.int n t)
abbrev C1 := L2.CX
theorem passE {X : Cx} : Passes (L2.CX X.prog X.w) X E0 := passL
section
variable {X : Cx} {E : XK}
/-- raise C('..') in a def that lets it out -/
theorem ps_raiseT {K : PySem.W.Frag} {mg : Str → Option Value} {x : Str} {R : Addr} {pos p1 p2 pc : Pos} {j : Nat} {m : Str} (hK : X.K = K) (hM : X.mg = mg) (T : ExcT K mg x R) (hg : Gl X x) (hc : X.calm = true) {W : WX} (tk : Takes X W)
    (hdb : (x == ("__debug__" : Str)) = false := by decide) :
    PS X (.Raise (some (.Call (.Name x p1) [.Constant (.str m) j pc] [] p2)) none pos) (fun _ σ H => W (.ref T.C) none σ H) := by
  subst hK
  subst hM
  exact ps_raise hc tk (pmk_own PySem.F.excBase_ValueError T.q T.g T.k (raises_own T.b T.t) hg hdb)
end
end KA
namespace KA
open PySem PySem.Spec PyProof.Rows L2 PySem.W LamX
/-! ### the law's own draws: their state -/
abbrev kLarge : Key := Sum.inr "large"
abbrev kCells : Key := Sum.inr "cells"
abbrev kLeft : Key := Sum.inr "left"
abbrev kTurn : Key := Sum.inr "turn"
def stKv (lg cl : Addr) (left turn : Int) : List (Key × V) := [(kLarge, .ref lg), (kCells, .ref cl), (kLeft, .int left), (kTurn, .int turn)]
section
variable {lg cl : Addr} {left turn : Int}
theorem k12 : ¬ kLarge = kCells := by decide +kernel
theorem k13 : ¬ kLarge = kLeft := by decide +kernel
theorem k14 : ¬ kLarge = kTurn := by decide +kernel
theorem k23 : ¬ kCells = kLeft := by decide +kernel
theorem k24 : ¬ kCells = kTurn := by decide +kernel
theorem k34 : ¬ kLeft = kTurn := by decide +kernel
theorem st_large : valV (stKv lg cl left turn) kLarge = some (.ref lg) := valV_pos rfl
theorem st_cells : valV (stKv lg cl left turn) kCells = some (.ref cl) := (valV_neg k12).trans (valV_pos rfl)
theorem st_left : valV (stKv lg cl left turn) kLeft = some (.int left) := (valV_neg k13).trans ((valV_neg k23).trans (valV_pos rfl))
theorem st_turn : valV (stKv lg cl left turn) kTurn = some (.int turn) := (valV_neg k14).trans ((valV_neg k24).trans ((valV_neg k34).trans (valV_pos rfl)))
theorem st_put_left (l : Int) : putK (stKv lg cl left turn) kLeft (.int l) = stKv lg cl l turn := by
  unfold putK
  rw [valV_any, st_left, Option.isSome_some, if_pos rfl]
  simp only [stKv, List.map_cons, List.map_nil, if_neg k13, if_neg k23, if_neg (Ne.symm k34), if_true]
theorem st_put_turn (t : Int) : putK (stKv lg cl left turn) kTurn (.int t) = stKv lg cl left t := by
  unfold putK
  rw [valV_any, st_turn, Option.isSome_some, if_pos rfl]
  simp only [stKv, List.map_cons, List.map_nil, if_neg k14, if_neg k24, if_neg k34, if_true]
end
/-- the state stands at st: the numbers that are left to draw from at lg, the script's at cl -/
structure StD (H : Hp) (st lg cl : Addr) (large cells : List Int) (left : Int) (turn : Nat) : Prop where
  d : H st = some (.dK (stKv lg cl left turn))
  l : H lg = some (.lst (large.map V.int))
  c : H cl = some (.lst (cells.map V.int))
  ne : lg ≠ cl
  pl : ∀ x ∈ large, 0 ≤ x
  p0 : 0 ≤ left
def StAt (H : Hp) (st lg cl : Addr) (n : Nat) : Prop := ∃ large cells left turn, StD H st lg cl large cells left turn ∧ turn ≤ n
/-- all but the state stands as it stood -/
def Kp (st lg : Addr) (H H' : Hp) : Prop := ∀ b o, H b = some o → b ≠ st → b ≠ lg → H' b = some o
theorem Kp.refl {st lg : Addr} {H : Hp} : Kp st lg H H := fun _ _ h _ _ => h
theorem Kp.trans {st lg : Addr} {H H1 H2 : Hp} (a : Kp st lg H H1) (b : Kp st lg H1 H2) : Kp st lg H H2 := fun c o h n1 n2 => b c o (a c o h n1 n2) n1 n2
theorem Kp.same {st lg : Addr} {H H1 : Hp} (a : Same H H1) : Kp st lg H H1 := fun c o h _ _ => a c o h
theorem Same.new {H : Hp} {p : Addr} {o : HO} (h : H p = none) : Same H (upd H p o) := fun b u e => by
  rw [upd_ne (ne_of_none e h)]
  exact e
theorem StD.same {H H' : Hp} {st lg cl : Addr} {large cells : List Int} {left : Int} {turn : Nat} (S : StD H st lg cl large cells left turn) (e : Same H H') : StD H' st lg cl large cells left turn :=
  { S with d := e _ _ S.d, l := e _ _ S.l, c := e _ _ S.c }
theorem StAt.same {H H' : Hp} {st lg cl : Addr} {n : Nat} (S : StAt H st lg cl n) (e : Same H H') : StAt H' st lg cl n := by
  obtain ⟨a, b, c, d, s, h⟩ := S
  exact ⟨a, b, c, d, s.same e, h⟩
theorem StAt.mono {H : Hp} {st lg cl : Addr} {n m : Nat} (S : StAt H st lg cl n) (h : n ≤ m) : StAt H st lg cl m := by
  obtain ⟨a, b, c, d, s, h'⟩ := S
  exact ⟨a, b, c, d, s, Nat.le_trans h' h⟩
theorem StD.st_lg {H : Hp} {st lg cl : Addr} {large cells : List Int} {left : Int} {turn : Nat} (S : StD H st lg cl large cells left turn) : st ≠ lg := ne_of S.d S.l (by intro z; cases z)
theorem StD.st_cl {H : Hp} {st lg cl : Addr} {large cells : List Int} {left : Int} {turn : Nat} (S : StD H st lg cl large cells left turn) : st ≠ cl := ne_of S.d S.c (by intro z; cases z)
/-- the state's dict is written -/
theorem StD.put {H : Hp} {st lg cl : Addr} {large cells : List Int} {left l : Int} {turn t : Nat} (S : StD H st lg cl large cells left turn) (h : 0 ≤ l) : StD (upd H st (.dK (stKv lg cl l t))) st lg cl large cells l t :=
  { d := upd_same, l := (upd_ne S.st_lg.symm).trans S.l, c := (upd_ne S.st_cl.symm).trans S.c, ne := S.ne, pl := S.pl, p0 := h }
theorem Kp.put {st lg : Addr} {H : Hp} {o : HO} : Kp st lg H (upd H st o) := fun b u e n _ => (upd_ne n).trans e
theorem Kp.put2 {st lg : Addr} {H : Hp} {o : HO} : Kp st lg H (upd H lg o) := fun b u e _ n => (upd_ne n).trans e
theorem dp_ints {K : PySem.W.Frag} {H : Hp} : ∀ ns : List Int, DpAll K H (ns.map V.int) (ns.map PyData.int)
  | [] => .nil
  | n :: r => .cons (.int n) (dp_ints r)
theorem dp_int_list {K : PySem.W.Frag} {H : Hp} {a : Addr} {ns : List Int} (h : H a = some (.lst (ns.map V.int))) : Dp K H (.ref a) (.list (ns.map PyData.int)) := .lst (SqL.of h) (dp_ints ns)
theorem dp_nil {K : PySem.W.Frag} {H : Hp} {a : Addr} (h : H a = some (.lst [])) : Dp K H (.ref a) (.list []) := .lst (SqL.of h) .nil
theorem lay_is : ∀ ns : List Int, PyData.canLayAll0 (ns.map PyData.int) = true ∧ PyData.depthAll (ns.map PyData.int) = 0
  | [] => ⟨rfl, rfl⟩
  | n :: r => by
    obtain ⟨h1, h2⟩ := lay_is r
    exact ⟨by simp [PyData.canLayAll0, PyData.canLay0, h1], by simp [PyData.depthAll, PyData.depth, h2]⟩
theorem shaped_is (ns : List Int) : SeqAt.shaped (.list (ns.map PyData.int)) = true := by
  obtain ⟨h1, h2⟩ := lay_is ns
  simp [SeqAt.shaped, PyData.canLay0, PyData.depth, h1, h2]
theorem shaped_nil : SeqAt.shaped (.list []) = true := shaped_is []
theorem eqv_ints_nil (ns : List Int) : PyData.eqv (.list (ns.map PyData.int)) (.list []) = ns.isEmpty := by
  cases ns <;> rfl
theorem st_merge (lg cl : Addr) (left turn : Int) : mergeK [] (stKv lg cl left turn) = stKv lg cl left turn := by
  unfold stKv mergeK
  simp only [List.foldl_cons, List.foldl_nil]
  rw [putK_new (kvs := []) _ valV_nil, List.nil_append]
  rw [putK_new (k := kCells) _ ((valV_neg (show ¬ kLarge = kCells from k12)).trans valV_nil), List.cons_append, List.nil_append]
  rw [putK_new (k := kLeft) _ ((valV_neg (show ¬ kLarge = kLeft from k13)).trans ((valV_neg (show ¬ kCells = kLeft from k23)).trans valV_nil)), List.cons_append, List.cons_append, List.nil_append]
  rw [putK_new (k := kTurn) _ ((valV_neg (show ¬ kLarge = kTurn from k14)).trans ((valV_neg (show ¬ kCells = kTurn from k24)).trans ((valV_neg (show ¬ kLeft = kTurn from k34)).trans valV_nil)))]
  rfl
theorem take_map_snoc {α β : Type} (f : α → β) (l : List α) (i : Nat) (x : α) (h : l[i]? = some x) : (l.take (i + 1)).map f = (l.take i).map f ++ [f x] := by
  rw [List.take_add_one, h]
  simp
theorem StAt.off {H : Hp} {st lg cl p : Addr} {n : Nat} (S : StAt H st lg cl n) (hp : H p = none) : p ≠ st ∧ p ≠ lg := by
  obtain ⟨_, _, _, _, S', _⟩ := S
  exact ⟨(ne_of_none S'.d hp).symm, (ne_of_none S'.l hp).symm⟩
end KA
namespace KA
open PySem PySem.Spec PyProof.Rows L2 PySem.W LamX
/-! ### calls by names alone; defs whose frame must know that no repr is running -/
section
variable {X : Cx} {CX : CXT} {k : Nat} {f : Addr} {fd : FuncData} {ps ks : List Str} {sp : Sp} {E : XK} {x : Str} {p pos : Pos} {kws : List Keyword} {tk : TA} {g : List Value → List Value → List Value} {gV : List V → List V → List V}
def tKw (m : Nat) (sp : Sp) (gV : List V → List V → List V) (E : XK) (tk : TA) : TE := fun σ H Q => tk σ H fun zs H2 => zs.length = m ∧ sp (gV [] zs) H2 Q E
/-- f(k = v, ..) -/
theorem pe_kw (F : FnOk X.prog X.w X.K X.mg X.base CX k f fd ps sp) (hr : Room k X.A) (hg : Gl X x) (hm : X.mg x = some (.ref f)) (hk : PySem.W.keepIn X.K (.ref f) = true) (hb : KBn X.K fd ps 0 ks g gV) (hx : Passes CX X E) (hkw : PK X kws tk)
    (named : (backToKw pos (keywordEach kws X.env)).all (·.1.isSome) = true := by rfl) (theirs : (backToKw pos (keywordEach kws X.env)).filterMap (·.1) = ks := by rfl) (hdb : (x == ("__debug__" : Str)) = false := by decide)
    (noStars : ((backTo pos (starEach [] X.env)).any (·.1) || (backToKw pos (keywordEach kws X.env)).any (·.1.isNone)) = false := by rfl) :
    PE X (.Call (.Name x p) [] kws pos) (tKw ks.length sp gV E tk) :=
  ⟨fun pins s σ H Q I h => wpAny_Call_Name_kw (ld_glob I hg hm (PySem.W.callWith_KW0 (h₀ := X.base) I.ok.mod.kin hk named (thn (hkw.run pos pins s σ H _ I h) fun ws s2 hw => by
    obtain ⟨zs, H2, I2, rz, l2, q2⟩ := hw
    refine ⟨I2.kIn, ?_⟩
    rw [theirs]
    exact run_fnN F hr hb hx I2 .nil rz rfl l2 q2) noStars) hdb)⟩
end
section
variable {K : PySem.W.Frag} {x qual : Str} {st : Stmt} {f : Addr} {fd : FuncData} {ps ks : List Str}
/-- one parameter, by its name -/
theorem Fun.kw1 {a : Str} (F : Fun K x qual st f fd) (h : ∀ (kV doc pm : Value) (an : Option Addr) (cdv ct u : Value), bindArgs (PySem.W.fnOf x qual (defArgs st) (defBody st) (defScope st) .none kV doc pm an cdv ct) ⟨[], [(a, u)]⟩ = pure [(a, u)]) :
    KBn K fd [a] 0 [a] (fun _ ws => ws) (fun _ zs => zs) := by
  obtain ⟨oc, od, kV, doc, pm, an, cdv, ct, osl, rfl, lk, hcd⟩ := F.ex
  refine ⟨fun s us ws X l1 l2 => ?_, fun _ r => r⟩
  match us, ws, l1, l2 with
  | [], [u], _, _ => exact .of_eq (h kV doc pm an cdv ct u)
/-- two parameters a, b, called as f(b = .., a = ..) -/
theorem Fun.kw2 {a b : Str} (F : Fun K x qual st f fd) (h : ∀ (kV doc pm : Value) (an : Option Addr) (cdv ct u v : Value), bindArgs (PySem.W.fnOf x qual (defArgs st) (defBody st) (defScope st) .none kV doc pm an cdv ct) ⟨[], [(b, u), (a, v)]⟩ = pure [(a, v), (b, u)]) :
    KBn K fd [a, b] 0 [b, a] (fun _ ws => ws.reverse) (fun _ zs => zs.reverse) := by
  obtain ⟨oc, od, kV, doc, pm, an, cdv, ct, osl, rfl, lk, hcd⟩ := F.ex
  refine ⟨fun s us ws X l1 l2 => ?_, fun {_ _ zs ws} _ r => ?_⟩
  · match us, ws, l1, l2 with
    | [], [u, v], _, _ => exact .of_eq (h kV doc pm an cdv ct u v)
  · clear h
    have rev : ∀ {zs : List V} {ws : List Value}, Vals zs ws → Vals zs.reverse ws.reverse := fun {zs ws} r => by
      induction r with
      | nil => exact .nil
      | cons h _ ih =>
        rw [List.reverse_cons, List.reverse_cons]
        exact ih.append (.cons h .nil)
    exact rev r
end
end KA
namespace KA
open PySem PySem.Spec PyProof.Rows L2 PySem.W LamX
/-- as FnOk, where no repr is running around the call -/
structure FnG (P : Program) (w : World) (K : PySem.W.Frag) (mg : Str → Option Value) (base : Heap) (CX : CXT) (k : Nat) (f : Addr) (fd : FuncData) (ps : List Str) (sp : Sp) : Prop where
  len : ∀ vs H Q E, sp vs H Q E → vs.length = ps.length
  run : ∀ (A : Around) (outer : List Env) (s : Shared) (H : Hp) (args : Args) (us : List Value) (vs : List V) (Q : VK) (E : XK), Room k A → A.guards = some [] →
    Env0 P w K mg base A outer s H → BindsTo s fd args (ps.zip us) → Vals vs us → sp vs H Q E → codeAny (model P w) A (.call (.ref f) args) (CR CX outer P w H s Q E) s
theorem fnG_of {CX : CXT} {P : Program} {w : World} {K : PySem.W.Frag} {mg : Str → Option Value} {base : Heap} {k : Nat} {f : Addr} {x qual : Str} {st : Stmt} {fd : FuncData} {N ps : List Str} {sp : Sp} (F : Fun K x qual st f fd) (S : FnScope N ps (defScope st))
    (len : ∀ vs H Q E, sp vs H Q E → vs.length = ps.length)
    (hbody : ∀ (cdv : Value) (A : Around) (outer : List Env) (s : Shared) (H : Hp) (vs : List V) (Q : VK) (E : XK), Room k (A.deeper (envOfC qual (defScope st) s.heap.objs.size f cdv)) → A.guards = some [] → sp vs H Q E →
      ∃ t, PSs (cxOf CX P w K mg base N qual (defScope st) f cdv A outer s H E) (defBody st) t ∧ t { nx := fun _ H' => Q .non H', rt := Q } (L2.start N vs) H) : FnG P w K mg base CX (k + 1) f fd ps sp := by
  obtain ⟨oc, od, kV, doc, pm, an, cdv, ct, osl, rfl, lk, hcd⟩ := F.ex
  exact ⟨len, fun A outer s H args us vs Q E hr hg e0 hb r h => run_ofS lk hcd S hr e0 hb r (len _ _ _ _ h) fun hr' => hbody cdv A outer s H vs Q E hr' hg h⟩
/-- what stands around the law's call: the script at a, the tables of cs (each a code object and its table) empty -/
structure Law (h : Heap) (mg mb : Str → Option Value) (K : PySem.W.Frag) (cs : List (Addr × Addr)) (a : Addr) (vs : List Value) (ns : List Int) : Prop where
  kx : K.In h
  nsM : h.Ns mainGlobals mg
  bn : h.Ns builtinsNs mb
  bb : ∀ x : Str, x ≠ "__name__" → mb x = bootBuiltins x
  lim : h.NoLimit
  tab : ∀ p ∈ cs, h.get? p.2 = some { cls := .none, data := .fields #[] }
  notab : ∀ p ∈ cs, K.lookup p.2 = none
  code : ∀ p ∈ cs, PySem.W.CodeHd h p.1 p.2
  bm : ∃ (bm : Addr) (ob : Obj), mg "__builtins__" = some (.ref bm) ∧ bm ≠ builtinsNs ∧ h.get? bm = some ob ∧ ob.cls = .type "module" ∧ ob.dict = some builtinsNs ∧ ob.data = .plain
  at_ : h.get? a = some { cls := .type "list", data := .seq vs.toArray }
  isI : IntsAre vs ns
  len : ns.length ≤ sizeLine
/-- the abstract heap at the law's call -/
def lawH (K : PySem.W.Frag) (cs : List (Addr × Addr)) (a : Addr) (vs : List Value) (ns : List Int) : Hp := fun b =>
  if b = a ∧ K.lookup a = none then some (.frz { cls := .type "list", data := .seq vs.toArray } (.lst (ns.map V.int)))
  else if b ∈ cs.map (·.2) then some (.tbl #[]) else none
section
variable {P : Program} {w : World} {K : PySem.W.Frag} {mg mb : Str → Option Value} {h : Heap} {cs : List (Addr × Addr)} {a : Addr} {vs : List Value} {ns : List Int}
theorem Law.tabAt (L : Law h mg mb K cs a vs ns) {b : Addr} (hb : b ∈ cs.map (·.2)) : h.get? b = some { cls := .none, data := .fields #[] } ∧ K.lookup b = none := by
  obtain ⟨p, hp, rfl⟩ := List.mem_map.mp hb
  exact ⟨L.tab p hp, L.notab p hp⟩
theorem Law.ne (L : Law h mg mb K cs a vs ns) {b : Addr} (hb : b ∈ cs.map (·.2)) : b ≠ a := fun z => by
  have q := (L.tabAt hb).1
  rw [z, L.at_] at q
  cases q
/-- what is tracked: the script, or a table -/
theorem Law.cases (L : Law h mg mb K cs a vs ns) {b : Addr} {u : HO} (e : lawH K cs a vs ns b = some u) :
    (b = a ∧ K.lookup a = none ∧ u = .frz { cls := .type "list", data := .seq vs.toArray } (.lst (ns.map V.int))) ∨ (b ∈ cs.map (·.2) ∧ u = .tbl #[]) := by
  unfold lawH at e
  split at e
  · rename_i c
    exact .inl ⟨c.1, c.2, (Option.some.inj e).symm⟩
  · split at e
    · rename_i c
      exact .inr ⟨c, (Option.some.inj e).symm⟩
    · cases e
theorem Law.tbl (L : Law h mg mb K cs a vs ns) {b : Addr} (hb : b ∈ cs.map (·.2)) : lawH K cs a vs ns b = some (.tbl #[]) := by
  unfold lawH
  rw [if_neg (fun z => L.ne hb z.1), if_pos hb]
theorem Law.seq (L : Law h mg mb K cs a vs ns) : SqL K (lawH K cs a vs ns) a (ns.map V.int) := by
  cases q : K.lookup a with
  | none => exact .inl (.inr ⟨_, by unfold lawH; rw [if_pos ⟨rfl, q⟩]⟩)
  | some o =>
    have e := L.kx a o q
    rw [L.at_] at e
    cases e
    exact .inr ⟨_, vs.toArray, _, q, rfl, rfl, rfl, by rw [List.size_toArray, L.isI.length]; exact L.len, by simpa using vals_ints L.isI⟩
theorem Law.hok (L : Law h mg mb K cs a vs ns) : HOk P w (lawH K cs a vs ns) h := fun b u e => by
  rcases L.cases e with ⟨rfl, _, rfl⟩ | ⟨hb, rfl⟩
  · exact ⟨L.at_, by rw [List.length_map]; exact L.len, vs, _, vals_ints L.isI, L.at_⟩
  · exact (L.tabAt hb).1
/-- an object that is neither a list nor an empty record is not tracked -/
theorem Law.free (L : Law h mg mb K cs a vs ns) {b : Addr} {o : Obj} (e : h.get? b = some o) (h1 : ∀ vs n, o.data ≠ .seq vs n) (h2 : o.data ≠ .fields #[]) : lawH K cs a vs ns b = none := by
  cases q : lawH K cs a vs ns b with
  | none => rfl
  | some u =>
    rcases L.cases q with ⟨rfl, _⟩ | ⟨hb, _⟩
    · rw [L.at_] at e
      cases e
      exact absurd rfl (h1 _ _)
    · rw [(L.tabAt hb).1] at e
      cases e
      exact absurd rfl h2
theorem Law.nsK (L : Law h mg mb K cs a vs ns) {b : Addr} {m : Str → Option Value} (x : h.Ns b m) : (hidT h (lawH K cs a vs ns)).Ns b m := by
  obtain ⟨o, es, ep, e, d, r⟩ := x
  refine ⟨o, es, ep, hidT_get e (L.free e (fun _ _ z => ?_) fun z => ?_), d, r⟩ <;> (rw [d] at z; cases z)
theorem Law.kin (L : Law h mg mb K cs a vs ns) : K.In (hidT h (lawH K cs a vs ns)) := fun b o e => hidT_get (L.kx b o e) (by
  cases q : lawH K cs a vs ns b with
  | none => rfl
  | some u =>
    rcases L.cases q with ⟨rfl, z, _⟩ | ⟨hb, _⟩
    · rw [z] at e
      cases e
    · rw [(L.tabAt hb).2] at e
      cases e)
theorem Law.mod (L : Law h mg mb K cs a vs ns) : L2.Mod K mg (hidT h (lawH K cs a vs ns)) := by
  obtain ⟨mc, h1, h2⟩ := L.lim
  exact ⟨L.kin, L.nsK L.nsM, ⟨mb, L.nsK L.bn, L.bb⟩, mc, L.nsK h1, h2⟩
theorem Law.main (L : Law h mg mb K cs a vs ns) {b : Addr} {o : Obj} (e : h.get? b = some o) (n : ∀ es ep, o.data ≠ .dict es ep) : b ≠ mainGlobals := fun z => by
  obtain ⟨o', es, ep, e', d, _⟩ := L.nsM
  rw [z, e'] at e
  cases e
  exact n _ _ d
theorem Law.tabs (L : Law h mg mb K cs a vs ns) : ∀ p ∈ cs, TabB (hidT h (lawH K cs a vs ns)) mg p.1 p.2 := fun p hp => by
  have hm : p.2 ∈ cs.map (·.2) := List.mem_map.mpr ⟨p, hp, rfl⟩
  have ht := (L.tabAt hm).1
  refine ⟨?_, ?_, fun z => L.main ht (fun _ _ q => by cases q) z.symm⟩
  · obtain ⟨o, us, file, tf, flags, tg, inF, text, tt, e1, r1, r2, r3, rest⟩ := L.code p hp
    refine ⟨o, us, file, tf, flags, tg, inF, text, tt, hidT_get e1 (L.free e1 (fun _ _ z => ?_) fun z => ?_), r1, r2, r3, rest⟩
    · rw [r2] at z
      cases z
    · rw [r2] at z
      cases z
      simp at r3
  · obtain ⟨bm, ob, b1, b2, b3, b4, b5, b6⟩ := L.bm
    refine ⟨bm, ob, b1, b2, L.main b3 (fun _ _ q => by rw [b6] at q; cases q), fun q => ?_, hidT_get b3 (L.free b3 (fun _ _ z => ?_) fun z => ?_), b4, b5, b6⟩
    · rw [q, ht] at b3
      cases b3
      cases b6
    · rw [b6] at z
      cases z
    · rw [b6] at z
      cases z
/-- an address of the heap at the call stands as it stood, or it is a table that has grown -/
theorem Law.stay (L : Law h mg mb K cs a vs ns) {s' : Shared} {H' : Hp} {b : Addr} {o : Obj} (un : Un [] [] (lawH K cs a vs ns) H' h s'.heap) (ok : HOk P w H' s'.heap) (e : h.get? b = some o) (nb : b ∉ cs.map (·.2)) : s'.heap.get? b = some o := by
  cases q : lawH K cs a vs ns b with
  | none => exact un.keep b o e q (by simp) (by simp)
  | some u =>
    rcases L.cases q with ⟨rfl, _, rfl⟩ | ⟨z, _⟩
    · have e2 := (ok b _ (un.frzs b _ _ q)).1
      rw [L.at_] at e
      rw [← e]
      exact e2
    · exact absurd z nb
theorem Law.grown (L : Law h mg mb K cs a vs ns) {s' : Shared} {H' : Hp} {b : Addr} (un : Un [] [] (lawH K cs a vs ns) H' h s'.heap) (ok : HOk P w H' s'.heap) (hb : b ∈ cs.map (·.2)) : ∃ more : Array Value, s'.heap.get? b = some { cls := .none, data := .fields more } := by
  obtain ⟨more, z⟩ := un.tbls b #[] (L.tbl hb)
  exact ⟨_, ok b _ z⟩
theorem Law.old (L : Law h mg mb K cs a vs ns) {s' : Shared} {H' : Hp} (un : Un [] [] (lawH K cs a vs ns) H' h s'.heap) (ok : HOk P w H' s'.heap) : OldK h s'.heap := by
  constructor
  · intro b o e
    by_cases hb : b ∈ cs.map (·.2)
    · obtain ⟨p, hp, rfl⟩ := List.mem_map.mp hb
      obtain ⟨more, hm⟩ := L.grown un ok hb
      have ht := L.tab p hp
      rw [ht] at e
      cases e
      refine .inr (.inl ⟨((L.code p hp).tab ht).isCodeTable, rfl, #[], more, rfl, ?_⟩)
      rw [Array.empty_append]
      exact hm
    · exact .inl (L.stay un ok e hb)
  · intro b o e
    by_cases hb : b ∈ cs.map (·.2)
    · obtain ⟨more, hm⟩ := L.grown un ok hb
      exact ⟨_, hm⟩
    · exact ⟨o, L.stay un ok e hb⟩
end
/-- the law, called with the script at a -/
theorem law_callG {P : Program} {w : World} {K : PySem.W.Frag} {mg mb : Str → Option Value} {CX : CXT} {k : Nat} {fa a : Addr} {cs : List (Addr × Addr)} {fd : FuncData} {x : Str} {sp : Sp} {s : Shared} {vs : List Value} {ns : List Int}
    (L : Law s.heap mg mb K cs a vs ns) (hg : s.gens = #[]) (hr : Room k callerA) (F : ∀ base : Heap, K.In base → base.Ns mainGlobals mg → (∀ p ∈ cs, TabB base mg p.1 p.2) → FnG P w K mg base CX k fa fd [x] sp)
    (hbind : ∀ (s : Shared) (u : Value), BindsTo s fd ⟨[u], []⟩ [(x, u)]) (hsp : ∀ H : Hp, (∀ p ∈ cs, H p.2 = some (.tbl #[])) → SqL K H a (ns.map V.int) → sp [.ref a] H (fun v _ => v = .bl true) fun _ _ _ => False)
    (hCX : ∀ H e s', CX [] H s (fun _ _ _ => False) e s' → False) :
    codeAny (model P w) callerA (.call (.ref fa) ⟨[.ref a], []⟩) (fun r s' => r = .ok (.ret (.bool true)) ∧ OldK s.heap s'.heap ∧ s'.os = s.os ∧ AllBare s'.gens) s := by
  have env : Env0 P w K mg (hidT s.heap (lawH K cs a vs ns)) callerA [] s (lawH K cs a vs ns) :=
    ⟨rfl, L.mod, fun _ _ => of_hidT, Nat.le_of_eq (hidT_size _ _), trivial, fun b hb => absurd (show b ∈ ([] : List Addr) from hb) List.not_mem_nil, L.hok, .of_eq hg⟩
  have pre := hsp (lawH K cs a vs ns) (fun p hp => L.tbl (List.mem_map.mpr ⟨p, hp, rfl⟩)) L.seq
  have run := (F _ L.kin (L.nsK L.nsM) L.tabs).run callerA [] s _ ⟨[.ref a], []⟩ [.ref a] [.ref a] _ _ hr rfl env (hbind s _) (.cons rfl .nil) pre
  refine codeAny_mono run fun r s' q => ?_
  match r, q with
  | .error e, q => exact (hCX _ e s' q).elim
  | .ok .next, q => exact False.elim q
  | .ok .brk, q => exact False.elim q
  | .ok .cont, q => exact False.elim q
  | .ok (.ret u), q =>
    obtain ⟨v, H', os, bare, un, ok, rv, e⟩ := q
    cases (show v = .bl true from e)
    cases (show u = Value.bool true from rv)
    exact ⟨rfl, L.old un ok, os, bare⟩
/-- what is known of the law at the head's heap h -/
def LawAtG (l : PySem.W.OpenLaw) (w : World) (K : PySem.W.Frag) (CX : CXT) (k n : Nat) (x : Str) (mg : Str → Option Value) (fa : Addr) (h : Heap) : Prop :=
  ∃ (fd : FuncData) (cs : List (Addr × Addr)) (sp : Sp), ((∀ p ∈ cs, h.get? p.2 = some { cls := .none, data := .fields #[] }) ∧ (∀ p ∈ cs, K.lookup p.2 = none) ∧ ∀ p ∈ cs, PySem.W.CodeHd h p.1 p.2) ∧
    (∀ (s : Shared) (u : Value), BindsTo s fd ⟨[u], []⟩ [(x, u)]) ∧
    (∀ (H : Hp) (a : Addr) (ns : List Int), ns.length ≤ n → (∀ p ∈ cs, H p.2 = some (.tbl #[])) → SqL K H a (ns.map V.int) → sp [.ref a] H (fun v _ => v = .bl true) fun _ _ _ => False) ∧
    ∀ base : Heap, K.In base → base.Ns mainGlobals mg → (∀ p ∈ cs, TabB base mg p.1 p.2) → FnG l.prog w K mg base CX k fa fd [x] sp
theorem walk_ofG {l : PySem.W.OpenLaw} {n k : Nat} {q : Program} {loose : List Str} {XP : (Str → Option Value) → Heap → Prop} {YP : World → Heap → Prop} {d : DefRec} {K : Params → PySem.W.Frag} {CX : World → CXT} {x : Str}
    (most : l.most = some n) (line : n ≤ sizeLine) (plain : d.params.defaults = []) (room : Room k callerA) (known : ∀ (w : World) (h : Heap), YP w h → (K w.params).In h)
    (at_ : ∀ (w : World) (mg : Str → Option Value) (fa : Addr) (h : Heap), YP w h → (K w.params).In h → h.Ns mainGlobals mg → mg d.name = some (.ref fa) → LawAtG l w (K w.params) (CX w) k n x mg fa h)
    (calm : ∀ (w : World) (H : Hp) (s : Shared) (e : Value) (s' : Shared), CX w [] H s (fun _ _ _ => False) e s' → False) : PySem.W.WalkO q loose XP YP l.row.toRowW d [] (fun f vs => PySem.call f vs) := by
  refine Att.attach_callB most plain fun w _ s mg mb fa _ _ _ _ a vs ns G Y _ _ _ name here isI short _ bare => ?_
  obtain ⟨fd, cs, sp, ⟨t1, t2, t3⟩, bind, pre, F⟩ := at_ w mg fa _ Y (known w _ Y) G.T.g name
  exact law_callG ⟨known w _ Y, G.T.g, G.T.b, G.T.builtins, G.T.nolimit, t1, t2, t3, G.T.bmain, here, isI, Nat.le_trans short line⟩ bare room F bind (fun H t S => pre H a ns short t S) fun H e s' => calm w H s e s'
end KA
namespace KU
open PySem PySem.W PySem.Calls PyProof.Rows PySem.HandSPX
/-! ### an own error whose __init__(self, f) says super().__init__(e) and self.f = f -/
abbrev upBody (f : Str) (e : Expr) (p0 p1 p2 p3 pe q1 q2 q3 q4 : Pos) : List Stmt :=
  [.Expr (.Call (.Attribute (.Call (.Name "super" p0) [] [] p1) "__init__" p2) [e] [] p3) pe, .Assign [.Attribute (.Name "self" q1) f q2] (.Name f q3) q4]
abbrev upArgs (f : Str) (r1 r2 : Pos) : Arguments := { posonlyargs := [], args := [{ arg := "self", annotation := none, pos := r1 }, { arg := f, annotation := none, pos := r2 }], vararg := none, kwonlyargs := [], kw_defaults := [], kwarg := none, defaults := [] }
abbrev upScope (f : Str) : Scope := { kind := .function, names := [(PySem.Str.ofString "self", .local), (f, .local), (PySem.Str.ofString "__class__", .free), (PySem.Str.ofString "super", .globalImplicit)], isGenerator := false, isCoroutine := false, more := [] }
/-- what the written part says of the class at C, of its __init__ at fI -/
structure UpTxt (P : Program) (K : Frag) (C fI cda cc : Addr) (qual f : Str) (e : Expr) : Prop where
  fn : ∃ (oc : Value) (od : Option Addr) (doc pm : Value) (an : Option Addr) (ct : Value) (osl : Array (Option Value)) (r1 r2 p0 p1 p2 p3 pe q1 q2 q3 q4 : Pos),
    K.lookup fI = some ⟨oc, od, .func (ksFn "__init__" qual (upArgs f r1 r2) (upBody f e p0 p1 p2 p3 pe q1 q2 q3 q4) (upScope f) .none .none doc pm an (.ref cda) ct cc), osl⟩ ∧
      (∀ a b : Value, bindArgs (ksFn "__init__" qual (upArgs f r1 r2) (upBody f e p0 p1 p2 p3 pe q1 q2 q3 q4) (upScope f) .none .none doc pm an (.ref cda) ct cc) ⟨[a, b], []⟩ = pure [(PySem.Str.ofString "self", a), (f, b)]) ∧
      (∀ L : Addr, swapsWith (.Name f q3) (some (.Attribute (.Name "self" q1) f q2)) q4.line (ksEnv qual (upScope f) L fI (.ref cda) cc) = pure false) ∧
      ∃ pl : Sem Bool, ∀ L : Addr, eval (.Call (.Attribute (.Call (.Name "super" p0) [] [] p1) "__init__" p2) [e] [] p3) (ksEnv qual (upScope f) L fI (.ref cda) cc) = (do
        let o ← attributeBase (.Call (.Name "super" p0) [] [] p1) "__init__" (ksEnv qual (upScope f) L fI (.ref cda) cc) (eval (.Call (.Name "super" p0) [] [] p1) (ksEnv qual (upScope f) L fI (.ref cda) cc))
        standAt p2.atName
        let (g, first) ← holding [o] (getMethod o "__init__" pl)
        callWith p3 g first (backTo p3 (starEach [e] (ksEnv qual (upScope f) L fI (.ref cda) cc))) [])
  star : ∀ env : Env, starEach [e] env = [(false, eval e env)]
  code : codeIn K (.ref cda) qual = true
  file : ∃ (cl : Value) (cdd : Option Addr) (vs : Array Value) (ccs : Array (Option Value)) (fl : Str) (tf : Tok), K.lookup cda = some ⟨cl, cdd, .fields vs, ccs⟩ ∧ vs[2]? = some (.str fl tf) ∧ ((P.main.file : Str) == fl) = true
  cell : ∃ (cl : Value) (cld : Option Addr) (csl : Array (Option Value)), K.lookup cc = some ⟨cl, cld, .cell (some (.ref C)), csl⟩
  cls : ∃ cd, clsIn K C = some cd ∧ refsVE cd.mro = true ∧ cd.hasDict = true
  self : mroIn K C (.ref C) = some true
  noSuper : nsIn K mainGlobals "super" = some none
  top : (P.main.scope.names.lookup ("super" : Str)).isSome = false
  third : nsIn K cStatics "thirdparty.any" = some none
  up : ks_superIn K C C "__init__" = some (some (.builtin "ValueError.__init__"))
  val : subIn K (.ref C) (.type "ValueError") = some true
  own : excInitIn K C [.type "ValueError", .type "Exception", .type "BaseException", .type "object"] "ValueError.__new__" = true
  set : findIn K (.ref C) "__setattr__" = some (some (.builtin "object.__setattr__"))
  noF : findIn K (.ref C) f = some none
  obj : ∃ (nm q : Str) (N : Addr) (bs bm : List Value) (sn : List Str) (sub : List Value) (ab : Bool) (col : Option Bool) (dd : Option Addr) (k0 k1 k2 k3 k5 : Option Value),
    K.lookup C = some (excClassObj nm q C N bs bm true sn sub ab col dd k0 k1 k2 k3 k5 "ValueError.__new__") ∧ refsVE bm = true
  iC : findIn K (.ref C) "__init__" = some (some (.ref fI))
  tC : typeIn K (.ref fI) = some (.type "function")
  ga : findIn K (.ref C) "__getattribute__" = some (some (.builtin "BaseException.__getattribute__"))
  gg : findIn K (.ref C) "__getattr__" = some none
  kC : keepIn K (.ref C) = true
  exC : subIn K (.ref C) (.type "BaseException") = some true
  tyC : typeIn K (.ref C) = some (.type "type")
  hdC : hasDictIn K C = true
  nf : f ≠ "self" ∧ f ≠ "__class__" ∧ f ≠ "super" ∧ f ≠ "__debug__"
/-- what it leaves of a fresh exception at x -/
structure UpEnd (h h' : Heap) (x C dx t1 : Addr) (f : Str) (v : Value) : Prop where
  keep : ∀ b o, b ≠ x → h.get? b = some o → h'.get? b = some o
  obj : h'.get? x = some { cls := .ref C, dict := some dx, data := .fields #[.ref t1, .none, .none, .none, .bool false, .none] }
  big : h.objs.size ≤ dx
  ne : dx ≠ x
  ns : h'.Ns1 dx (fun y => if y = f then some v else none)
section
variable {prog : Program} {w : World} {A : Around} {R : Result → Shared → Prop} {s : Shared} {K : Frag} {mg mb : Str → Option Value} {C fI cda cc : Addr} {qual f : Str} {e : Expr}
theorem up_init (T : UpTxt prog K C fI cda cc qual f e) {x t0 : Addr} {v : Value} (X : K.In s.heap) (hlim : s.heap.NoLimit) (hg : s.heap.Ns mainGlobals mg) (hb : s.heap.Ns builtinsNs mb) (hbb : ∀ y : Str, y ≠ "__name__" → mb y = bootBuiltins y)
    (hx : s.heap.get? x = some (excO C t0)) (hnx : K.lookup x = none) (hroom : A.depth < recursionLimit)
    (text : ∀ (A' : Around) (E : Value → Shared → Prop) (s' : Shared) (L : Addr) (m : Str → Option Value) (Q : Value → Shared → Prop), s'.heap.Ns L m → m f = some v → (∀ (z : Str) (t t' : Tok), Q (.str z t) { s' with toks := t' }) → wpAny (model prog w) A' (eval e (ksEnv qual (upScope f) L fI (.ref cda) cc)) Q E s')
    (hq : ∀ h' tk dx t1, UpEnd s.heap h' x C dx t1 f v → R (.ok (.ret .none)) { s with heap := h', toks := tk }) :
    codeAny (model prog w) A (.call (.ref fI) ⟨[.ref x, v], []⟩) R s := by
  obtain ⟨hp, g, dr, tk, os⟩ := s
  dsimp only at X hlim hg hb hx
  obtain ⟨oc, od, doc, pm, an, ct, osl, r1, r2, p0, p1, p2, p3, pe, q1, q2, q3, q4, ho, hbd, hswap, pl, hcall⟩ := T.fn
  obtain ⟨n1, n2, n3, n4⟩ := T.nf
  have lf : (upScope f).names.lookup f = some .local := by
    show List.lookup f ((PySem.Str.ofString "self", NameKind.local) :: _) = _
    rw [List.lookup_cons]
    cases f == PySem.Str.ofString "self" with
    | true => rfl
    | false =>
      show List.lookup f ((f, NameKind.local) :: _) = _
      rw [List.lookup_cons, beq_self_eq_true]
  refine ks_codeAny_call_defAt (binds := [(PySem.Str.ofString "self", .ref x), (f, v)]) (body := upBody f e p0 p1 p2 p3 pe q1 q2 q3 q4) hroom (X _ _ ho) rfl hlim (codeRec_of X T.code) rfl ?bind ?cells ?locs (fun h₁ hns keep => ?_) rfl rfl rfl
  case bind => exact .of_eq (hbd _ _)
  case cells =>
    intro y hy
    simp only [List.mem_cons, List.not_mem_nil, or_false] at hy
    rcases hy with z | z | z | z <;> (subst z; exact fun q => by cases q)
  case locs =>
    intro y hy
    simp only [List.mem_cons, List.not_mem_nil, or_false] at hy
    rcases hy with z | z <;> subst z
    · rfl
    · exact lf
  have X1 : K.In h₁ := X.keeps keep
  have ms : (List.lookup (PySem.Str.ofString "self") [(PySem.Str.ofString "self", Value.ref x), (f, v)].reverse) = some (.ref x) := by
    show List.lookup (PySem.Str.ofString "self") [(f, v), (PySem.Str.ofString "self", Value.ref x)] = _
    rw [List.lookup_cons, beq_false_of_ne (Ne.symm n1)]
    rfl
  have mf : (List.lookup f [(PySem.Str.ofString "self", Value.ref x), (f, v)].reverse) = some v := by
    show List.lookup f [(f, v), (PySem.Str.ofString "self", Value.ref x)] = _
    rw [List.lookup_cons, beq_self_eq_true]
  obtain ⟨cd, hcd, hmro, hdict⟩ := T.cls
  obtain ⟨cl, cdd, vs, ccs, fl, tf, hcode, hvs, hfile⟩ := T.file
  obtain ⟨ccl, cld, csl, hcell⟩ := T.cell
  have hx1 := keep _ _ hx
  generalize hm : (fun y => List.lookup y [(PySem.Str.ofString "self", Value.ref x), (f, v)].reverse) = m at hns
  have ms' : m "self" = some (.ref x) := by rw [← hm]; exact ms
  have mf' : m f = some v := by rw [← hm]; exact mf
  clear ms mf hm
  show PySem.wpAt _ _ _ (execs (upBody f e p0 p1 p2 p3 pe q1 q2 q3 q4) (ksEnv qual (upScope f) hp.objs.size fI (.ref cda) cc)) _ _ _
  refine ks_wpAt_execs_cons (ks_wpAt_Expr_any (ks_wpAt_MethodCall (pl := pl) ?_ (hcall _)))
  obtain ⟨oC, hC1, hC2⟩ : ∃ oC, h₁.get? C = some oC ∧ oC.data = .cls cd := by
    unfold clsIn at hcd
    split at hcd
    · rename_i c d cd' sl z
      cases hcd
      exact ⟨_, X1 _ _ z, rfl⟩
    · cases hcd
  have k1 : (upScope f).names.lookup ("super" : Str) = some .globalImplicit := by
    show List.lookup (PySem.Str.ofString "super") ((f, NameKind.local) :: _) = _
    rw [List.lookup_cons, beq_false_of_ne (Ne.symm n3)]
    rfl
  have k2 : (upScope f).names.lookup ("__class__" : Str) = some .free := by
    show List.lookup (PySem.Str.ofString "__class__") ((f, NameKind.local) :: _) = _
    rw [List.lookup_cons, beq_false_of_ne (Ne.symm n2)]
    rfl
  refine ks_wpAt_super_base (env := ksEnv qual (upScope f) hp.objs.size fI (.ref cda) cc) k1 k2 rfl rfl (X1 _ _ ho) rfl rfl rfl (X1 _ _ hcode) rfl hvs hfile T.top ?_
  refine ks_loadName_global rfl k1 (loadGlobal_builtin (env := ksEnv qual (upScope f) hp.objs.size fI (.ref cda) cc) (hg.keeps keep) (mg_none_of X hg T.noSuper) (hb.keeps keep) ((hbb _ (by decide +kernel)).trans (show bootBuiltins "super" = some (.type "super") by kernel_rfl)) ⟨rfl, ?_⟩)
  refine wpAny_loadName_free rfl k2 rfl ⟨_, X1 _ _ hcell, rfl⟩ ?_
  refine wpAny_loadName_local rfl rfl hns ms' ?_
  refine ks_wpAny_isType_cls hC1 hC2 ⟨rfl, ?_⟩
  refine ks_wpAny_call_super hC1 hC2 hx1 rfl (fun c z => by cases z) (looks_mroIn X1 T.self) (fun h2 so keep2 => ?_)
  have X2 : K.In h2 := X1.keeps keep2
  have hx2 := keep2 _ _ hx1
  have I2 : InstAt h2 x (excO C t0) C none := ⟨hx2, rfl, rfl, trivial⟩
  have along : alongIn K "__init__" ((cd.mro.dropWhile (· != .ref C)).drop 1) = some (some (.builtin "ValueError.__init__")) := by
    have z := T.up
    unfold ks_superIn at z
    rw [hcd] at z
    exact z
  refine kxs_getMethod kxs_ValueError so (looks_opaque X2 T.third) (l₀ := cd.mro) (fun A Q E s k q => wpAny_bind ((looks_clsIn X2 hcd) A _ E s k (wpAny_pure q))) rfl X2 along (I2.type.andThen (looks_subIn X2 T.val)) (ks_ne X2 I2 hcd) rfl ?_
  have push3 : ∀ b o, h2.get? b = some o → (h2.push (kxs_mw "ValueError.__init__" x)).get? b = some o := fun b o z => Heap.get?_push_of_some _ z
  generalize hh3 : h2.push (kxs_mw "ValueError.__init__" x) = h3 at push3
  have hu : h3.get? h2.objs.size = some (kxs_mw "ValueError.__init__" x) := by
    rw [← hh3]
    exact Heap.get?_push_at rfl rfl
  generalize h2.objs.size = u at hu
  have X3 : K.In h3 := X2.keeps push3
  have hx3 := push3 _ _ hx2
  have hns3 : h3.Ns hp.objs.size m := (hns.keeps keep2).keeps push3
  rw [T.star]
  refine kxs_callWith (i := "ValueError.__init__") (x := x) (u := u) rfl (evalArgs_plain (spliced_cons ?_))
  refine text _ _ _ _ _ _ hns3 mf' fun z zt t' => spliced_nil ⟨hu, ?_⟩
  obtain ⟨nm, N', qn, bs, bm, hdct, sn, sub, ab, col, dd, kk0, kk1, kk2, kk3, kk5, hC, hT⟩ := excInit_of X3 T.own
  refine wpAny_call (codeAny_of_tree ?_)
  show wpAny _ (Around.in1 _) (callAny (.ref u) ⟨[.str z zt], []⟩) _ _ _
  simp only [callAny]
  refine wpAny_bind (wpAny_load hu ?_)
  simp only [kxs_mw, show (Value.type "method-wrapper" == Value.type "method" || Value.type "method-wrapper" == Value.type "builtin_function_or_method" || Value.type "method-wrapper" == Value.type "method-wrapper") = true by decide, if_true]
  have FB := F.excBase_ValueError
  refine KFB.if_so (by decide) (wpAny_bind (check_bound_init FB.toExcCallFacts hC hx3 rfl (wpAny_bind (wpAny_pure (wpAny_pure ⟨plainId_quiet FB.init.plain _, codeAny_builtin FB.initEntry ?_⟩)))))
  refine exc_init_tree (cls := .ref C) (t0 := t0) (dv := none) (c2 := .none) (c3 := .none) (b4 := .bool false) hx3 (by show 1 ≤ sizeLine; decide) fun h4 keep4 hx4 _ => ?_
  have X4 : K.In h4 := fun b o z => keep4 b o (fun q => by rw [q, hnx] at z; cases z) (X3 b o z)
  have hns4 : h4.Ns hp.objs.size m := by
    obtain ⟨oL, es, ep, hL, rest⟩ := hns3
    exact ⟨oL, es, ep, keep4 _ _ (Nat.ne_of_gt (Heap.lt_size hx)) hL, rest⟩
  refine wpAt_of_wpAny (wpAny_execs_cons (plainObj_wpAny_Assign_Attribute ?_ (hswap _)))
  have kf : (ksEnv qual (upScope f) hp.objs.size fI (.ref cda) cc).kindOf f = some .local := lf
  have ndb : (f == ("__debug__" : Str)) = false := beq_false_of_ne n4
  refine wpAny_Name (wpAny_loadName_local rfl kf hns4 mf' ?_) ndb
  refine wpAny_Name (wpAny_loadName_local rfl rfl hns4 ms' ?_) rfl
  refine set_plain X4 (ox := excO C h3.objs.size) (od := none) ⟨hx4, rfl, rfl, trivial⟩ T.set ?_
  refine exc_osa X4 hx4 hcd hmro hdict T.noF fun h5 tk5 dx keep5 big ne5 hx5 hn5 => ?_
  refine wpAny_execs_nil (hq h5 tk5 dx h3.objs.size ⟨fun b o hb z => keep5 b o hb (keep4 b o hb (push3 b o (keep2 b o (keep b o z)))), hx5, ?_, ne5, hn5⟩)
  exact Nat.le_of_lt (Nat.lt_of_lt_of_le hns4.lt big)
/-- a made one -/
structure UpMade (h h' : Heap) (e C d : Addr) (f : Str) (v : Value) : Prop where
  keep : ∀ b o, h.get? b = some o → h'.get? b = some o
  new : h.objs.size ≤ e
  obj : ∃ oe vs, h'.get? e = some oe ∧ oe.cls = .ref C ∧ oe.dict = some d ∧ oe.data = .fields vs ∧ vs[1]? = some .none
  big : h.objs.size ≤ d
  ne : d ≠ e
  ns : h'.Ns1 d (fun y => if y = f then some v else none)
theorem up_made (T : UpTxt prog K C fI cda cc qual f e) {v : Value} (X : K.In s.heap) (hlim : s.heap.NoLimit) (hg : s.heap.Ns mainGlobals mg) (hb : s.heap.Ns builtinsNs mb) (hbb : ∀ y : Str, y ≠ "__name__" → mb y = bootBuiltins y) (hroom : A.depth + 1 < recursionLimit)
    (text : ∀ (A' : Around) (E : Value → Shared → Prop) (s' : Shared) (L : Addr) (m : Str → Option Value) (Q : Value → Shared → Prop), s'.heap.Ns L m → m f = some v → (∀ (z : Str) (t t' : Tok), Q (.str z t) { s' with toks := t' }) → wpAny (model prog w) A' (eval e (ksEnv qual (upScope f) L fI (.ref cda) cc)) Q E s')
    (hq : ∀ h' tk a d, UpMade s.heap h' a C d f v → R (.ok (.ret (.ref a))) { s with heap := h', toks := tk }) : codeAny (model prog w) A (.call (.ref C) ⟨[v], []⟩) R s := by
  obtain ⟨nm, q, N, bs, bm, sn, sub, ab, col, dd, k0, k1, k2, k3, k5, hC, hbm⟩ := T.obj
  obtain ⟨hp, g, dr, tk, os⟩ := s
  dsimp only at X hlim hg hb
  generalize hh : (hp.push (kdv_tup [v])).push (excO C hp.objs.size) = h1
  have k : ∀ b o, hp.get? b = some o → h1.get? b = some o := fun b o z => by
    rw [← hh]
    exact Heap.get?_push_of_some _ (Heap.get?_push_of_some _ z)
  have got : h1.get? (hp.objs.size + 1) = some (excO C hp.objs.size) := by
    rw [← hh]
    heap_get
  have fresh : K.lookup (hp.objs.size + 1) = none := by
    cases z : K.lookup (hp.objs.size + 1) with
    | none => rfl
    | some o => exact absurd (show hp.objs.size + 1 < hp.objs.size from Heap.lt_size (X _ _ z)) (Nat.not_lt.mpr (Nat.le_succ _))
  refine call_own F.excBase_ValueError (fun Y => refsVE_contains Y bm hbm) (X _ _ hC) (looks_findIn X T.iC) (fun self => bind_fn X self T.tC) (by show 1 ≤ sizeLine; decide) ?_
  rw [hh]
  refine up_init (s := ⟨h1, g, dr, tk, os⟩) T (X.keeps k) (hlim.keeps k) (hg.keeps k) (hb.keeps k) hbb got fresh hroom text fun h' tk' dx t1 Z => ?_
  have size1 : hp.objs.size ≤ h1.objs.size := Nat.le_of_lt (Nat.lt_of_succ_lt (Heap.lt_size got))
  exact ⟨rfl, hq h' tk' (hp.objs.size + 1) dx ⟨fun b o z => Z.keep b o (Nat.ne_of_lt (Nat.lt_succ_of_lt (Heap.lt_size z))) (k b o z), Nat.le_succ _, ⟨_, _, Z.obj, rfl, rfl, rfl, rfl⟩, Nat.le_trans size1 Z.big, Z.ne, Z.ns⟩⟩
end
end KU
namespace KU
open PySem PySem.W PySem.Calls PyProof.Rows PySem.HandSPX
/-- what the error says of v can be told -/
abbrev Text (P : Program) (w : World) (fI cda cc : Addr) (qual f : Str) (e : Expr) (v : Value) : Prop :=
  ∀ (A' : Around) (E : Value → Shared → Prop) (s' : Shared) (L : Addr) (m : Str → Option Value) (Q : Value → Shared → Prop), s'.heap.Ns L m → m f = some v → (∀ (z : Str) (t t' : Tok), Q (.str z t) { s' with toks := t' }) →
    wpAny (model P w) A' (eval e (ksEnv qual (upScope f) L fI (.ref cda) cc)) Q E s'
theorem kind_f {f : Str} : (upScope f).names.lookup f = some .local := by
  show List.lookup f ((PySem.Str.ofString "self", NameKind.local) :: _) = _
  rw [List.lookup_cons]
  cases f == PySem.Str.ofString "self" with
  | true => rfl
  | false =>
    show List.lookup f ((f, NameKind.local) :: _) = _
    rw [List.lookup_cons, beq_self_eq_true]
/-- f'z{f}' of an int, of a text -/
theorem text_of {P : Program} {w : World} {fI cda cc : Addr} {qual f z : Str} {j : Nat} {pc pn pf pj : Pos} {v : Value} {y : Str} (hd : f ≠ "__debug__")
    (fld : ∀ (A' : Around) (E : Value → Shared → Prop) (s' : Shared) (Q : Value → Shared → Prop), (∀ (t t' : Tok), Q (.str y t) { s' with toks := t' }) → wpAny (model P w) A' (formatField v Str.empty) Q E s')
    (h1 : z.length ≤ sizeLine) (h2 : (z ++ y).length ≤ sizeLine) : Text P w fI cda cc qual f (.JoinedStr [.Constant (.str z) j pc, .FormattedValue (.Name f pn) (-1) none pf] pj) v := by
  intro A' E s' L m Q hn hm k
  refine wpAny_JoinedStr ?_
  have e0 : ∀ env : Env, evalEach [.Constant (.str z) j pc, .FormattedValue (.Name f pn) (-1) none pf] env = [eval (.Constant (.str z) j pc) env, eval (.FormattedValue (.Name f pn) (-1) none pf) env] := fun _ => by first | rfl | simp [evalEach]
  rw [e0]
  have e1 : Str.empty ++ z = z := by
    show (⟨#[] ++ z.cps⟩ : Str) = z
    rw [Array.empty_append]
  refine Calls.Constant_str ⟨z, _, rfl, by rw [e1]; exact h1, ?_⟩
  rw [e1]
  refine wpAny_FormattedValue_plain (wpAny_Name (wpAny_loadName_local rfl (show (ksEnv qual (upScope f) L fI (.ref cda) cc).kindOf f = some .local from kind_f) hn hm ?_) (beq_false_of_ne hd))
  exact fld _ _ _ _ fun t t' => ⟨y, t, rfl, h2, h2, k _ _ _⟩
theorem text_int {P : Program} {w : World} {fI cda cc : Addr} {qual f z : Str} {j : Nat} {pc pn pf pj : Pos} {i : Int} {t : Tok} (hd : f ≠ "__debug__") (hi : i.natAbs.log2 < 1920) (h1 : z.length ≤ sizeLine) (h2 : (z ++ (toString i : String)).length ≤ sizeLine) :
    Text P w fI cda cc qual f (.JoinedStr [.Constant (.str z) j pc, .FormattedValue (.Name f pn) (-1) none pf] pj) (.int i t) :=
  text_of hd (fun _ _ _ _ k => wpAny_formatField_int hi (k _ _)) h1 h2
theorem text_str {P : Program} {w : World} {fI cda cc : Addr} {qual f z y : Str} {j : Nat} {pc pn pf pj : Pos} {t : Tok} (hd : f ≠ "__debug__") (h1 : z.length ≤ sizeLine) (h2 : (z ++ y).length ≤ sizeLine) (h3 : y.length ≤ sizeLine) :
    Text P w fI cda cc qual f (.JoinedStr [.Constant (.str z) j pc, .FormattedValue (.Name f pn) (-1) none pf] pj) (.str y t) :=
  text_of hd (fun _ _ _ _ k => wpAny_formatField_str (k _ _) (k _ _) h3) h1 h2
end KU
namespace KU
open PySem PySem.Spec PyProof.Rows L2
theorem relO_up {v : V} {v' : Value} {n : Str} (r : RelV v v') (f : Str) : RelO (List.lookup f [(n, v)]) (if f = n then some v' else none) := by
  by_cases c : f = n
  · subst c
    rw [if_pos rfl, List.lookup_cons, beq_self_eq_true]
    exact r
  · rw [if_neg c, List.lookup_cons, beq_false_of_ne c]
    trivial
section
variable {X : Cx} {C fI cda cc : Addr} {qual f x : Str} {e : Expr}
/-- x(a), x the class's name -/
def tMkUp (T : Value → Prop) (C : Addr) (f : Str) (ta : TA) : L2.St → Hp → XK → Prop := fun σ H Q => ta σ H fun vs H1 => ∃ v, vs = [v] ∧ (∀ v', RelV v v' → T v') ∧ ∀ d, H1 d = none → Q (.ref C) (some d) (upd H1 d (.xd [(f, v)]))
theorem pmk_up {a : Expr} {ta : TA} {p pos : Pos} {k : Nat} (T : UpTxt X.prog X.K C fI cda cc qual f e) (gC : X.mg x = some (.ref C)) (hr : Room k X.A) (ha : PA X [a] ta) (hg : Gl X x) (hdb : (x == ("__debug__" : Str)) = false := by decide)
    (he : starEach (a :: []) X.env = (false, eval a X.env) :: starEach [] X.env := by rfl) (hpl : (backTo pos (starEach [] X.env)).any (·.1) = false := by rfl) :
    PMk X (.Call (.Name x p) [a] [] pos) (tMkUp (Text X.prog X.w fI cda cc qual f e) C f ta) := by
  intro pins s σ H Q I h
  refine wpAny_Call_Name_kw (ld_glob I hg gC ?_ hdb)
  refine PySem.W.callWith_K (h₀ := X.base) I.ok.mod.kin T.kC (thn (ha.run pos pins s σ H _ I h) fun us s1 hh => ?_) he hpl
  obtain ⟨vs, H1, I1, r1, v, rfl, ht, q1⟩ := hh
  refine ⟨I1.kIn, ?_⟩
  cases r1 with
  | cons rv rn =>
    rename_i v' us'
    cases rn
    show wpAny _ _ (call (.ref C) [v']) _ _ _
    obtain ⟨mb, b1, b2⟩ := I1.mod.blt
    have lim := I1.nolimit
    have glob := I1.mod.glob.keeps I1.bk
    have blt := b1.keeps I1.bk
    have dp := hr.dp
    obtain ⟨hp, g, dr, tk, os⟩ := s1
    refine wpAny_call (up_made T I1.kIn lim glob blt b2 (by omega) (ht v' rv) fun h' tk' a' d M => ?_)
    show MkP X pins σ Q (.ref a') ⟨h', g, dr, tk', os⟩
    obtain ⟨oe, fv, hoe, hc, hd, hdat, one⟩ := M.obj
    obtain ⟨G, in_, out⟩ := restrict h' fun b => decide (b ≠ a')
    have same : ∀ b, b ≠ a' → G.get? b = h'.get? b := fun b hb => in_ b (decide_eq_true hb)
    have gone : G.get? a' = none := out a' (by simp)
    have stay : ∀ b o, hp.get? b = some o → G.get? b = some o := fun b o z => (same b (Nat.ne_of_lt (Nat.lt_of_lt_of_le (Heap.lt_size z) M.new))).trans (M.keep b o z)
    have own : ObjOk X.prog X.w (upd H1 d (.xd [(f, v)])) G d (.xd [(f, v)]) := ⟨_, M.ns.at (fun o z => (same d M.ne).trans z), fun y => relO_up rv y⟩
    have J : Inv X pins σ (upd H1 d (.xd [(f, v)])) ⟨G, g, dr, tk', os⟩ := I1.laid (t' := tk') stay M.big own
    refine ⟨a', oe, fv, ⟨G, g, dr, tk', os⟩, _, .ref C, some d, rfl, J, fun b o z => ?_, gone, hoe, ⟨hc, hd⟩, hdat, one, ?_, rfl, I1.bare, raises_own T.exC T.tyC, q1 d (I1.hok.fresh M.big)⟩
    · have hb : b ≠ a' := fun y => by
        rw [y] at z
        exact absurd (gone.symm.trans z) (by simp)
      exact (same b hb).symm.trans z
    · rw [upd_ne (Ne.symm M.ne)]
      exact I1.hok.fresh M.new
/-- raise x(a) -/
theorem ps_raiseUp {a : Expr} {ta : TA} {W : WX} {p pos pos2 : Pos} {k : Nat} (hc : X.calm = true) (T : UpTxt X.prog X.K C fI cda cc qual f e) (gC : X.mg x = some (.ref C)) (hr : Room k X.A) (tk : Takes X W) (ha : PA X [a] ta) (hg : Gl X x) (hdb : (x == ("__debug__" : Str)) = false := by decide)
    (he : starEach (a :: []) X.env = (false, eval a X.env) :: starEach [] X.env := by rfl) (hpl : (backTo pos (starEach [] X.env)).any (·.1) = false := by rfl) :
    PS X (.Raise (some (.Call (.Name x p) [a] [] pos)) none pos2) (fun _ σ H => tMkUp (Text X.prog X.w fI cda cc qual f e) C f ta σ H fun cls d H' => W cls d σ H') := ps_raise hc tk (pmk_up T gC hr ha hg hdb he hpl)
/-- err.f, err an exception that is kept as a value -/
def tUpGet (C : Addr) (f : Str) (te : TE) : TE := fun σ H Q => te σ H fun x H1 => ∃ (a d : Addr) (v : V), x = .ref a ∧ H1 a = some (KA.ExV (.ref C) (some d) a) ∧ H1 d = some (.xd [(f, v)]) ∧ Q v H1
theorem pe_upGet {o : Expr} {te : TE} {pos : Pos} (T : UpTxt X.prog X.K C fI cda cc qual f e) (he : PE X o te) (hb : attributeBase o f X.env (eval o X.env) = eval o X.env := by rfl) :
    PE X (.Attribute o f pos) (tUpGet C f te) := by
  refine ⟨fun pins s σ H Q I h => ?_⟩
  refine attr_of hb (thn (he.run pins s σ H _ I h) fun u s1 hh => ?_)
  obtain ⟨x, H1, I1, rx, a, d, v, rfl, ha, hd, q⟩ := hh
  obtain rfl : u = Value.ref a := rx
  obtain ⟨⟨oe, got, z, vs, dat⟩, _⟩ := I1.hok a _ ha
  obtain ⟨mA, ns, rel⟩ := I1.hok d _ hd
  obtain ⟨od, at_, look⟩ := lookIn_ns ns
  have l : List.lookup f [(f, v)] = some v := by rw [List.lookup_cons, beq_self_eq_true]
  obtain ⟨u, hu, ru⟩ := RelO.some_of (v := v) (o := mA f) (by rw [← l]; exact rel f)
  have J : PySem.W.InstAt s1.heap a oe C (some od) := ⟨got, z.1, by unfold PySem.W.notCls; rw [dat] <;> rfl, by rw [z.2]; exact at_⟩
  exact HandSPX.exc_get I1.kIn J T.ga T.gg T.exC (PySem.W.findObj_own T.hdC T.noF rfl (by rw [look, hu])) (handed_of ru) ⟨v, H1, I1.tok _, ru, q⟩
end
end KU
namespace KW
open PySem PySem.Spec PyProof.Rows L2 PySem.W LamX
/-! ### a lambda without parameters that is handed on from def to def: it stands as it was made, whoever calls it -/
theorem un_comp {fs gs : List Addr} {H H1 H2 : Hp} {h h1 h2 : Heap} (a : Un fs [] H H1 h h1) (b : Un gs [] H1 H2 h1 h2) (sub : ∀ x ∈ gs, x ∈ fs ∨ h.get? x = none) : Un fs [] H H2 h h2 := by
  have no : ∀ {x : Addr} {o : Obj}, h.get? x = some o → x ∉ fs → x ∉ gs := fun e n z => by
    rcases sub _ z with q | q
    · exact n q
    · rw [q] at e
      cases e
  refine ⟨fun x o e n hx _ => ?_, fun x o e n hx _ => ?_, fun x o e n _ => ?_, fun x o e _ => ?_, fun x xs e => b.tups _ _ (a.tups _ _ e), fun x o u e => b.frzs _ _ _ (a.frzs _ _ _ e), fun x ps e => ?_⟩
  · exact b.keep x o (a.keep x o e n hx (by simp)) (a.free x o e n (by simp)) (no e hx) (by simp)
  · obtain ⟨sl, e1⟩ := a.slot x o e n hx (by simp)
    have n1 := a.free x o e n (by simp)
    by_cases hg : x ∈ gs
    · obtain ⟨sl2, e2⟩ := b.slot x _ e1 n1 hg (by simp)
      exact ⟨sl2, e2⟩
    · exact ⟨sl, b.keep x _ e1 n1 hg (by simp)⟩
  · obtain ⟨o1, e1⟩ := a.there x o e (by simp)
    exact b.free x o1 e1 (a.free x o e n (by simp)) (by simp)
  · obtain ⟨o1, e1⟩ := a.there x o e (by simp)
    exact b.there x o1 e1 (by simp)
  · obtain ⟨m1, e1⟩ := a.tbls x ps e
    obtain ⟨m2, e2⟩ := b.tbls x _ e1
    exact ⟨m1 ++ m2, by rw [e2, Array.append_assoc]⟩
/-- the lambda at f, its code object at c' of the name q, made where the heaps were H0, h0; fs: the frames that ran then; t: what it promises -/
structure Work (P : Program) (w : World) (K : PySem.W.Frag) (mg : Str → Option Value) (base : Heap) (k : Nat) (fs : List Addr) (H0 : Hp) (h0 : Heap) (f c' : Addr) (q : Str) (t : XK → Hp → VK → Prop) : Prop where
  obj : ∃ (params : Arguments) (body : Expr) (scope : Scope) (cl : List (Str × Addr)) (pm ctv : Value), h0.get? f = some (PySem.W.kla_obj "<lambda>" q params body scope cl pm c' ctv)
  free : H0 f = none
  out : f ∉ fs
  run : ∀ (A : Around) (outer : List Env) (s1 : Shared) (HZ : Hp) (Q : VK) (E : XK), Room (k + 1) A → Env0 P w K mg base A outer s1 HZ → Un fs [] H0 HZ h0 s1.heap → HZ c' = some (CodeO c' q) → t E HZ Q →
    codeAny (model P w) A (.call (.ref f) ⟨[], []⟩) (CR (L2.CX P w) outer P w HZ s1 Q E) s1
section
variable {X : Cx} {pins : List (Addr × Obj)} {σ : L2.St} {H : Hp} {s : Shared}
theorem work_of {k : Nat} {f c' : Addr} {pm ctv : Value} {params : Arguments} {body : Expr} {scope : Scope} {tb : XK → TE} (I : Inv X pins σ H s) (L : LamS X.env.scope scope)
    (hf : s.heap.get? f = some (PySem.W.kla_obj "<lambda>" (X.env.qual ++ "<lambda>") params body scope (cloFrom X.env.cells scope.names []) pm c' ctv)) (hfn : H f = none) (hfr : f ∉ frs X.stack)
    (hbind : bindArgs (PySem.W.kla_fn "<lambda>" (X.env.qual ++ "<lambda>") params body scope (cloFrom X.env.cells scope.names []) pm (.ref c') ctv) ⟨[], []⟩ = pure [])
    (hbody : ∀ (A : Around) (outer : List Env) (s1 : Shared) (HZ : Hp) (E : XK), Room k (A.deeper (lamEnv X scope s1.heap.objs.size f c')) → PE (lamCx X A outer s1 HZ E scope f c') body (tb E)) :
    Work X.prog X.w X.K X.mg X.base k (frs X.stack) H s.heap f c' (X.env.qual ++ "<lambda>") (fun E HZ Q => tb E σ HZ Q) := by
  refine ⟨⟨_, _, _, _, _, _, hf⟩, hfn, hfr, fun A outer s1 HZ Q E hr e0 un hc ht => ?_⟩
  have of1 := un.keep f _ hf hfn hfr (by simp)
  obtain ⟨⟨oc, vs, t, hoc, hdc, hvc⟩, _, _⟩ := e0.hok c' _ hc
  have lim : s1.heap.NoLimit := e0.mod.nolimit.keeps fun b o e => (e0.bs b o e).1
  refine PySem.W.kla_callFunE hr.depth of1 rfl L.co L.gen rfl ⟨c', oc, vs, t, rfl, hoc, hdc, hvc⟩ ?_
  rw [hbind]
  refine wpAny_pure (wpAny_newFunctionEnv (fun y hy => (L.own y hy).2) (fun y hy => absurd hy (by simp)) (fun h₁ hns hsb => ⟨lim.fresh _ hsb, ?_⟩) L.kind)
  show codeAny _ _ (.expr body (lamEnv X scope s1.heap.objs.size f c')) _ _
  have kp : ∀ b o, s1.heap.get? b = some o → h₁.get? b = some o := fun b o e => hsb.extBut b o (Nat.ne_of_lt (Heap.lt_size e)) (Heap.get?_push_of_some _ e)
  have J : Inv (lamCx X A outer s1 HZ E scope f c') [] σ HZ { s1 with heap := h₁, toks := s1.toks + ([] : List (Str × Value)).length } := lam_start2 I L e0 hr.hd un hns kp
  refine PySem.W.kla_codeExpr (wpAny_mono ((hbody A outer s1 HZ E (hr.deeper _)).run [] _ _ HZ Q J ht) (fun v s' hq => ?_) fun e s' hq => hq)
  obtain ⟨w', H', J', rv, q⟩ := hq
  exact ⟨w', H', J'.os, J'.bare, J'.base, J'.hok, rv, q⟩
end
section
variable {Z : Cx} {k : Nat} {fs : List Addr} {H0 : Hp} {h0 : Heap} {f c' : Addr} {q : Str} {t : XK → Hp → VK → Prop}
/-- where Z stands to the making -/
structure Since (Z : Cx) (fs : List Addr) (H0 : Hp) (h0 : Heap) : Prop where
  un : Un fs [] H0 Z.H_0 h0 Z.s_0.heap
  sub : ∀ b ∈ Z.fs, b ∈ fs ∨ h0.get? b = none
  ex : Z.ex = []
theorem Since.now {pins : List (Addr × Obj)} {σ : L2.St} {H : Hp} {s : Shared} (S : Since Z fs H0 h0) (I : Inv Z pins σ H s) : Un fs [] H0 H h0 s.heap := by
  have b := I.base
  rw [S.ex] at b
  exact un_comp S.un b S.sub
theorem Since.stk {pins : List (Addr × Obj)} {σ : L2.St} {H : Hp} {s : Shared} (S : Since Z fs H0 h0) (I : Inv Z pins σ H s) : ∀ b ∈ frs Z.stack, b ∈ fs ∨ h0.get? b = none := fun b hb => by
  rcases List.mem_cons.mp (I.stkSub b hb) with e | e
  · refine .inr ?_
    cases z : h0.get? b with
    | none => rfl
    | some o =>
      obtain ⟨o', z'⟩ := S.un.there b o z (by simp)
      have l := Heap.lt_size z'
      have a := I.ok.above
      rw [e] at l
      exact absurd l (Nat.not_lt.mpr a)
  · exact S.sub b e
/-- the slot's name is called: a work stands in it -/
theorem pe_work {i : Nat} {a : Str} {E : XK} {p1 p2 : Pos} (Wk : Work Z.prog Z.w Z.K Z.mg Z.base k fs H0 h0 f c' q t) (S : Since Z fs H0 h0) (hx : Passes (L2.CX Z.prog Z.w) Z E) (hr : Room (k + 1) Z.A) (hN : Z.N[i]? = some a) (hv : Vis Z.env.scope a)
    (hd : (a == ("__debug__" : Str)) = false := by decide) (hcd : (a == ("__classdict__" : Str)) = false := by decide) :
    PE Z (.Call (.Name a p1) [] [] p2) (fun σ H Q => σ[i]? = some (some (.ref f)) ∧ H c' = some (CodeO c' q) ∧ t E H Q) := by
  refine ⟨fun pins s σ H Q I h => ?_⟩
  obtain ⟨hs, hc, ht⟩ := h
  refine wpAny_Call_Name_kw (thn ((pe_var (pos := p1) (i := i) hN hv hd hcd).run pins s σ H (fun v H1 => v = .ref f ∧ H1 = H) I ⟨.ref f, hs, rfl, rfl⟩) fun u s1 ⟨v, H1, I1, r1, q1⟩ => ?_)
  obtain ⟨ev, eH⟩ := q1
  subst ev
  rw [eH] at I1
  obtain rfl : u = Value.ref f := r1
  obtain ⟨_, _, _, _, _, _, ob⟩ := Wk.obj
  have un := S.now I1
  have of1 := un.keep f _ ob Wk.free Wk.out (by simp)
  refine PySem.W.callWith_F0 ⟨_, _, _, _, of1⟩ ?_
  refine wpAny_call (codeAny_mono (Wk.run Z.A Z.stack s1 H Q E hr I1.env0 un hc ht) fun r s' hq => ?_)
  match r, hq with
  | .error e, hq => exact hx pins σ H s1 e s' I1 hq
  | .ok (.ret u), hq => exact I1.after hq
  | .ok .next, hq => exact False.elim hq
  | .ok .brk, hq => exact False.elim hq
  | .ok .cont, hq => exact False.elim hq
end
/-- the promise of a def that a work is handed to -/
structure FnW (P : Program) (w : World) (K : PySem.W.Frag) (mg : Str → Option Value) (base : Heap) (fs : List Addr) (H0 : Hp) (h0 : Heap) (CX : CXT) (k : Nat) (g : Addr) (fd : FuncData) (ps : List Str) (sp : Sp) : Prop where
  len : ∀ vs H Q E, sp vs H Q E → vs.length = ps.length
  run : ∀ (A : Around) (outer : List Env) (s : Shared) (H : Hp) (args : Args) (us : List Value) (vs : List V) (Q : VK) (E : XK), Room k A → A.guards = some [] → Env0 P w K mg base A outer s H → Un fs [] H0 H h0 s.heap → (∀ b ∈ frs outer, b ∈ fs ∨ h0.get? b = none) →
    BindsTo s fd args (ps.zip us) → Vals vs us → sp vs H Q E → codeAny (model P w) A (.call (.ref g) args) (CR CX outer P w H s Q E) s
theorem fnW_of {CX : CXT} {P : Program} {w : World} {K : PySem.W.Frag} {mg : Str → Option Value} {base : Heap} {fs : List Addr} {H0 : Hp} {h0 : Heap} {k : Nat} {f : Addr} {x qual : Str} {st : Stmt} {fd : FuncData} {N ps : List Str} {sp : Sp} (F : Fun K x qual st f fd) (S : FnScope N ps (defScope st))
    (len : ∀ vs H Q E, sp vs H Q E → vs.length = ps.length)
    (hbody : ∀ (cdv : Value) (A : Around) (outer : List Env) (s : Shared) (H : Hp) (vs : List V) (Q : VK) (E : XK), Room k (A.deeper (envOfC qual (defScope st) s.heap.objs.size f cdv)) → A.guards = some [] → Since (cxOf CX P w K mg base N qual (defScope st) f cdv A outer s H E) fs H0 h0 → sp vs H Q E →
      ∃ t, PSs (cxOf CX P w K mg base N qual (defScope st) f cdv A outer s H E) (defBody st) t ∧ t { nx := fun _ H' => Q .non H', rt := Q } (L2.start N vs) H) : FnW P w K mg base fs H0 h0 CX (k + 1) f fd ps sp := by
  obtain ⟨oc, od, kV, doc, pm, an, cdv, ct, osl, rfl, lk, hcd⟩ := F.ex
  exact ⟨len, fun A outer s H args us vs Q E hr hgd e0 un sub hb r h => run_ofS lk hcd S hr e0 hb r (len _ _ _ _ h) fun hr' => hbody cdv A outer s H vs Q E hr' hgd ⟨un, sub, rfl⟩ h⟩
section
variable {Z : Cx} {CX : CXT} {k : Nat} {fs : List Addr} {H0 : Hp} {h0 : Heap} {g : Addr} {fd : FuncData} {ps : List Str} {sp : Sp} {E : XK} {x : Str} {p pos : Pos} {e : Expr} {es : List Expr} {t : TA}
/-- x(a, ..) in a def that the work has been handed to, handed on -/
theorem pe_wcall (F : FnW Z.prog Z.w Z.K Z.mg Z.base fs H0 h0 CX k g fd ps sp) (S : Since Z fs H0 h0) (hr : Room k Z.A) (hgd : Z.A.guards = some []) (hg : Gl Z x) (hm : Z.mg x = some (.ref g)) (hk : PySem.W.keepIn Z.K (.ref g) = true) (hb : Binds Z.K fd ps []) (hx : Passes CX Z E) (ha : PA Z (e :: es) t)
    (hdb : (x == ("__debug__" : Str)) = false := by decide) (he : starEach (e :: es) Z.env = (false, eval e Z.env) :: starEach es Z.env := by rfl) (hpl : (backTo pos (starEach es Z.env)).any (·.1) = false := by rfl) :
    PE Z (.Call (.Name x p) (e :: es) [] pos) (tCall sp [] E t) := by
  refine ⟨fun pins s σ H Q I h => ?_⟩
  refine wpAny_Call_Name_kw (ld_glob I hg hm ?_ hdb)
  refine PySem.W.callWith_K (h₀ := Z.base) I.ok.mod.kin hk (thn (ha.run pos pins s σ H _ I h) fun us s1 ⟨vs, H1, I1, r, q⟩ => ⟨I1.kIn, ?_⟩) he hpl
  have q : sp (vs ++ []) H1 Q E := q
  rw [List.append_nil] at q
  have hl : us.length = ps.length := by rw [← r.length]; exact F.len _ _ _ _ q
  have bt := hb s1 us I1.kIn (by simpa using hl)
  rw [List.append_nil] at bt
  refine wpAny_call (codeAny_mono (F.run Z.A Z.stack s1 H1 ⟨us, []⟩ us vs Q E hr hgd I1.env0 (S.now I1) (S.stk I1) bt r q) fun rr s' hq => ?_)
  match rr, hq with
  | .error e, hq => exact hx pins σ H1 s1 e s' I1 hq
  | .ok (.ret u), hq => exact I1.after hq
  | .ok .next, hq => exact False.elim hq
  | .ok .brk, hq => exact False.elim hq
  | .ok .cont, hq => exact False.elim hq
end
section
variable {X : Cx} {T : List (Addr × Str)} {CX : CXT} {kb k : Nat} {g c P : Addr} {fd : FuncData} {ps : List Str} {E : XK} {x : Str} {params : Arguments} {body : Expr} {scope : Scope} {t : XK → TE} {p lpos pos : Pos} {es : List Expr} {ta : TA} {sp : Addr → Addr → (XK → Hp → VK → Prop) → Sp}
/-- x(lambda: body, ..), x a def that hands it on -/
theorem pe_lamW (FW : ∀ (H0 : Hp) (h0 : Heap) (f c' : Addr) (t' : XK → Hp → VK → Prop), Work X.prog X.w X.K X.mg X.base kb (frs X.stack) H0 h0 f c' (X.env.qual ++ "<lambda>") t' → FnW X.prog X.w X.K X.mg X.base (frs X.stack) H0 h0 CX k g fd ps (sp f c' t'))
    (hg : Gl X x) (hm : X.mg x = some (.ref g)) (hk : PySem.W.keepIn X.K (.ref g) = true) (hb : Binds X.K fd ps []) (hx : Passes CX X E) (hr : Room k X.A) (hgd : X.A.guards = some []) (TB : TabB X.base X.mg c P) (hcode : X.env.code = .ref c) (hmT : (P, X.env.qual ++ "<lambda>") ∈ T) (hu : ∀ p ∈ T, p.1 = P → p.2 = X.env.qual ++ "<lambda>")
    (L : LamS X.env.scope scope) (hdef : defaultsOf params X.env = ([], [])) (hbind : ∀ (q : Str) (cl : List (Str × Addr)) (pm cv ctv : Value), bindArgs (PySem.W.kla_fn "<lambda>" q params body scope cl pm cv ctv) ⟨[], []⟩ = pure [])
    (hbody : ∀ (A : Around) (outer : List Env) (s : Shared) (H : Hp) (E : XK) (f c' : Addr), Room kb (A.deeper (lamEnv X scope s.heap.objs.size f c')) → PE (lamCx X A outer s H E scope f c') body (t E)) (ha : PA X es ta)
    (hdb : (x == ("__debug__" : Str)) = false := by decide) (he : starEach (.Lambda params body scope lpos :: es) X.env = (false, eval (.Lambda params body scope lpos) X.env) :: starEach es X.env := by rfl) (hpl : (backTo pos (starEach es X.env)).any (·.1) = false := by rfl) :
    PE X (.Call (.Name x p) (.Lambda params body scope lpos :: es) [] pos) (fun σ H Q => Tabs T H ∧ ∀ H1, ExtN H H1 → Tabs T H1 → ∀ f c' : Addr, H1 c' = some (CodeO c' (X.env.qual ++ "<lambda>")) →
      ta σ H1 fun vs H2 => sp f c' (fun E H Q => t E σ H Q) (.ref f :: vs) H2 Q E) := by
  refine ⟨fun pins s σ H Q I h => ?_⟩
  obtain ⟨hT, h⟩ := h
  refine wpAny_Call_Name_kw (ld_glob I hg hm ?_ hdb)
  refine PySem.W.callWith_K (h₀ := X.base) I.ok.mod.kin hk ?_ he hpl
  rw [he]
  show wpAny _ _ (spliced ((false, eval (.Lambda params body scope lpos) X.env) :: backTo pos (starEach es X.env))) _ _ s
  refine Calls.spliced_cons (lam_make2 I TB hcode hmT hu hT hdef (L.has I.ok) fun f c' pm' ctv H1 s' I1 eN T1 hf hfn hfr hco => ?_)
  have fl : f ≠ X.env.locals := fun z => by
    obtain ⟨m, ⟨o, es', ep, e1, e2, _⟩, _⟩ := I1.loc
    rw [← z, hf] at e1
    cases e1
    cases e2
  have ff : f ∉ X.fs := fun z => hfr (by
    rcases I1.ok.stk with q | ⟨q, _⟩
    · rw [q]
      exact z
    · rw [q]
      obtain ⟨e, he', q'⟩ := List.mem_filterMap.mp z
      exact List.mem_filterMap.mpr ⟨e, List.mem_cons_of_mem _ he', q'⟩)
  have J1 : Inv X ((f, PySem.W.kla_obj "<lambda>" (X.env.qual ++ "<lambda>") params body scope (cloFrom X.env.cells scope.names []) pm' c' ctv) :: pins) σ H1 s' := I1.pins_of fun q hq => by
    rcases List.mem_cons.mp hq with z | z
    · rw [z]
      exact ⟨hf, hfn, fl, ff, fun v y => by cases y⟩
    · exact I1.pin q (List.mem_append_right _ z)
  refine thn (ha.run pos _ s' σ H1 _ J1 (h H1 eN T1 f c' hco)) fun us s2 ⟨vs, H2, J2, r, q⟩ => ⟨J2.kIn, ?_⟩
  have at2 := J2.pin (f, _) (List.mem_append_right _ List.mem_cons_self)
  have I2 : Inv X pins σ H2 s2 := J2.pins_of fun q hq => J2.pin q (List.mem_append_right _ (List.mem_cons_of_mem _ hq))
  have Wk := work_of (tb := t) I2 L at2.1 at2.2.1 hfr (hbind _ _ _ _ _) (fun A outer s1 HZ E hr2 => hbody A outer s1 HZ E f c' hr2)
  have F := FW H2 s2.heap f c' _ Wk
  have r2 : Vals (.ref f :: vs) (.ref f :: us) := .cons rfl r
  have hl : (Value.ref f :: us).length = ps.length := by rw [← r2.length]; exact F.len _ _ _ _ q
  have bt := hb s2 (.ref f :: us) I2.kIn (by simpa using hl)
  rw [List.append_nil] at bt
  refine wpAny_call (codeAny_mono (F.run X.A X.stack s2 H2 ⟨.ref f :: us, []⟩ (.ref f :: us) (.ref f :: vs) Q E hr hgd I2.env0 (Un.kept fun _ _ z => z) (fun b hb => .inl hb) bt r2 q) fun rr s3 hq => ?_)
  match rr, hq with
  | .error e, hq => exact hx pins σ H2 s2 e s3 I2 hq
  | .ok (.ret u), hq => exact I2.after hq
  | .ok .next, hq => exact False.elim hq
  | .ok .brk, hq => exact False.elim hq
  | .ok .cont, hq => exact False.elim hq
end
end KW
namespace KA
open PySem PySem.Spec PyProof.Rows L2 PySem.W LamX KW
/-- isinstance of an exception that is kept as a value, with fields of its own -/
def rIsD (K : PySem.W.Frag) : List V → Hp → VK → Prop := fun xs H Q => ∃ (a D d : Addr) (fs : List (Str × V)) (c : V) (cv : Value) (b : Bool), xs = [.ref a, c] ∧ H a = some (ExV (.ref D) (some d) a) ∧ H d = some (.xd fs) ∧ ExcC K D ∧ ClsV c cv ∧ PySem.W.kitOne K (.ref D) cv = some b ∧ Q (.bl b) H
def rIs3 (K : PySem.W.Frag) : List V → Hp → VK → Prop := fun xs H Q => rIs2 K xs H Q ∨ rIsD K xs H Q
section
variable {X : Cx}
theorem call_isD : CallR X (.builtin "isinstance") (rIsD X.K) := by
  intro pins s σ H xs us Q I r h
  obtain ⟨a, D, d, fs, c, cv, b, rfl, ha, hd, C, k, e, q⟩ := h
  obtain ⟨u1, u2, rfl, r1, r2⟩ := vals2 r
  cases k.eq r2
  obtain rfl : u1 = Value.ref a := r1
  obtain ⟨⟨oe, at1, z, vs, dat⟩, _⟩ := I.hok a _ ha
  obtain ⟨mA, ns, _⟩ := I.hok d _ hd
  obtain ⟨od, at2, _⟩ := lookIn_ns ns
  have J : PySem.W.InstAt s.heap a oe D (some od) := ⟨at1, z.1, by unfold PySem.W.notCls; rw [dat] <;> rfl, by rw [z.2]; exact at2⟩
  obtain ⟨cd, hc, _⟩ := any_some C.hd
  exact PySem.W.kia_one (kitx_exc (by rw [hc]; rfl) C.hg C.hk C.hs C.ha C.hn C.ht C.hm) I.kIn J e (fun z => nomatch z) fun tk => ⟨.bl b, H, I.tok tk, rfl, q⟩
theorem call_is3 : CallR X (.builtin "isinstance") (rIs3 X.K) := by
  intro pins s σ H xs us Q I r h
  rcases h with h | h
  · exact call_is2 pins s σ H xs us Q I r h
  · exact call_isD pins s σ H xs us Q I r h
end
/-- caught, of a work that was handed on: at f, its code object at c' -/
def spCaughtW (K : PySem.W.Frag) (CS : Addr) (f c' : Addr) (q : Str) (t : XK → Hp → VK → Prop) : Sp := fun vs H Q _ => vs = [.ref f] ∧ H c' = some (CodeO c' q) ∧ TCaught K CS t H Q
theorem caught_work {P : Program} {w : World} {K : PySem.W.Frag} {mg : Str → Option Value} {base : Heap} {fs : List Addr} {H0 : Hp} {h0 : Heap} {k : Nat} {f c' : Addr} {q : Str} {t : XK → Hp → VK → Prop} {g : Addr} {fd : FuncData} {x a e n m : Str} {st : Stmt} {CS : Addr} {j1 : Nat} {p1 p2 p3 p4 p5 p6 p7 p8 p9 pa pb pc pd pe : Pos}
    (Wk : Work P w K mg base k fs H0 h0 f c' q t) (F : Fun K x x st g fd) (S : FnScope [a, m, n] [a] (defScope st))
    (hb : defBody st = [.Assign [.Name m p1] (.Constant .none j1 p2) p3,
       .Try [.Expr (.Call (.Name a p4) [] [] p5) p6] [.ExceptHandler (some (.Name e p7)) (some n) [.Assign [.Name m p8] (.Name n p9) pa] pb] [] [] pc,
       .Return (some (.Name m pd)) pe])
    (la : (defScope st).names.lookup a = some .local) (lm : (defScope st).names.lookup m = some .local) (ln : (defScope st).names.lookup n = some .local) (he : (defScope st).names.lookup e = some .globalImplicit) (hme : mg e = some (.ref CS)) (hde : (e == ("__debug__" : Str)) = false)
    (d0 : (a == ("__debug__" : Str)) = false) (d00 : (a == ("__classdict__" : Str)) = false) (d1 : (n == ("__debug__" : Str)) = false) (d2 : (n == ("__classdict__" : Str)) = false) (d3 : (m == ("__debug__" : Str)) = false) (d4 : (m == ("__classdict__" : Str)) = false) :
    FnW P w K mg base fs H0 h0 (L2.CX P w) (k + 2) g fd [a] (spCaughtW K CS f c' q t) := by
  refine fnW_of F S (fun vs H Q E h => by rw [h.1]; rfl) (fun cdv A outer s H vs Q E hr _ Sn h => ?_)
  obtain ⟨rfl, hc, hT⟩ := h
  rw [hb]
  refine ⟨_, pss_cons (ps_set (i := 1) S.nd rfl (.inl lm) pe_non) (pss_cons (ps_try_keep (c := .ref CS) (i := 2) (j := 1)
      (tb := fun W D σ H => ∃ Eb : XK, (∀ cls d σ' H', Eb cls d H' → W cls d σ' H') ∧ σ[0]? = some (some (.ref f)) ∧ H c' = some (CodeO c' q) ∧ t Eb H (fun _ H' => D.nx σ H'))
      rfl rfl rfl S.nd rfl rfl ln lm ⟨he, hde, .inl hme⟩ d1 d2 (fun W pn xe tk _ => ?_))
    (pss_one (ps_ret (pe_var (i := 1) rfl (.inl lm) d3 d4)))), ?_⟩
  · refine ⟨fun pins s' σ H' D I h' => ?_⟩
    obtain ⟨Eb, wish, h1, h2, h3⟩ := h'
    exact (pss_one (ps_expr (pe_work (Z := (cxOf (L2.CX P w) P w K mg base [a, m, n] x (defScope st) g cdv A outer s H E).tr pn xe) (i := 0) Wk ⟨Sn.un, Sn.sub, Sn.ex⟩ (passes_call tk wish) hr rfl (.inl la) d0 d00))).run pins s' σ H' D I ⟨h1, h2, h3⟩
  · refine ⟨fun cls d H' => PySem.W.exmOne K cls (.ref CS) = some true ∧ ∀ b, H' b = none → Q (.ref b) (upd H' b (ExV cls d b)), fun cls d σ' H' ⟨e1, e2⟩ => ⟨e1, fun b hb hl => ?_⟩, rfl, hc, ?_⟩
    · match σ', hl with
      | [u, v, z], _ => exact ⟨_, rfl, e2 b hb⟩
    · exact hT _ fun v H' z => ⟨_, rfl, z⟩
end KA
namespace KL
open PySem PySem.Spec PyProof.Rows L2 PySem.W LamX KA KW
/-! ### a lambda without parameters as a value: kept in a list, a local name, and called later by a def it is handed to -/
/-- the lambda at f, its code object at c', as the def with the frame env made it -/
def LamO (env : Env) (params : Arguments) (body : Expr) (scope : Scope) (f c' : Addr) : HO :=
  .ext fun h => ∃ pm ctv : Value, h.get? f = some (PySem.W.kla_obj "<lambda>" (env.qual ++ "<lambda>") params body scope (cloFrom env.cells scope.names []) pm c' ctv)
theorem lamO_tbl {env : Env} {params : Arguments} {body : Expr} {scope : Scope} {f c' : Addr} (ps : Array Value) : LamO env params body scope f c' ≠ .tbl ps := fun z => by
  unfold LamO at z
  cases z
theorem lamO_lst {env : Env} {params : Arguments} {body : Expr} {scope : Scope} {f c' : Addr} (xs : List V) : LamO env params body scope f c' ≠ .lst xs := fun z => by
  unfold LamO at z
  cases z
section
variable {X : Cx} {pins : List (Addr × Obj)} {σ : L2.St} {H : Hp} {s : Shared}
theorem laidLam {env : Env} {params : Arguments} {body : Expr} {scope : Scope} {c' : Addr} {pm ctv : Value} {h' : Heap} {tk : Nat} (I : Inv X pins σ H { s with heap := h', toks := tk }) :
    Inv X pins σ (upd H h'.objs.size (LamO env params body scope h'.objs.size c')) { s with heap := h'.push (PySem.W.kla_obj "<lambda>" (env.qual ++ "<lambda>") params body scope (cloFrom env.cells scope.names []) pm c' ctv), toks := tk } :=
  I.laid (t' := tk) (fun b o e => Heap.get?_push_of_some _ e) (Nat.le_refl _) ⟨⟨pm, ctv, Heap.get?_push_size _ rfl⟩, ⟨_, Heap.get?_push_size _ rfl⟩, fun h1 h2 ⟨a, b, e⟩ st => ⟨a, b, st _ e⟩⟩
/-- it is made: a value of the heap -/
theorem lam_val {T : List (Addr × Str)} {c P : Addr} {params : Arguments} {body : Expr} {scope : Scope} {pos : Pos} {E Q : Value → Shared → Prop} (I : Inv X pins σ H s) (TB : TabB X.base X.mg c P) (hcode : X.env.code = .ref c)
    (mem : (P, X.env.qual ++ "<lambda>") ∈ T) (one : ∀ p ∈ T, p.1 = P → p.2 = X.env.qual ++ "<lambda>") (hT : Tabs T H) (hdef : defaultsOf params X.env = ([], [])) (L : LamS X.env.scope scope)
    (k : ∀ (f c' : Addr) (H1 : Hp) (s' : Shared), ExtN H H1 → Tabs T H1 → H1 f = none → H1 c' = some (CodeO c' (X.env.qual ++ "<lambda>")) → Inv X pins σ (upd H1 f (LamO X.env params body scope f c')) s' → Q (.ref f) s') :
    wpAny (model X.prog X.w) X.A (eval (.Lambda params body scope pos) X.env) Q E s := by
  obtain ⟨tb, atP, tri, amg⟩ := hT _ mem
  have clo := closure_ok (L.has I.ok)
  have glob := I.mod.glob.keeps I.bk
  have code := TB.code.keeps I.bk
  have raw : s.heap.get? P = some { cls := .none, data := .fields tb } := I.hok P _ atP
  have bm := TB.bm.keeps I.bk
  refine PySem.W.kla_eval hdef ?_
  cases found : codeAmong pos tb.toList with
  | some cv =>
    obtain ⟨c', rfl, hco⟩ := amg pos cv found
    refine PySem.W.kla_makeFunctionHit clo I.ok.glob glob hcode code raw tri found bm ?_
    intro ctv h' tk hx hsz
    have J : Inv X pins σ H { s with heap := h', toks := tk } := I.kept fun b o e => hx b o e
    exact k _ c' H _ (ExtN.refl H) hT (I.hok.fresh hsz) hco (laidLam J)
  | none =>
    refine PySem.W.kla_makeFunction clo I.ok.glob glob hcode code raw tri found TB.gP bm ?_
    intro c' ctv h' tk hx hge hlt rec tbl
    obtain ⟨c2, oc, vs, t, ec, hoc, hd, hv⟩ := rec
    cases ec
    have free : H c' = none := I.hok.fresh hge
    have ne : P ≠ c' := ne_of_none atP free
    have J := inv_table (t' := tk) (more := #[rawInt pos.line, rawInt pos.col, .ref c']) (h' := h') I atP hx tbl hge ⟨oc, vs, t, hoc, hd, hv⟩
    generalize hH : upd (upd H P (.tbl (tb ++ #[rawInt pos.line, rawInt pos.col, .ref c']))) c' (CodeO c' (X.env.qual ++ "<lambda>")) = H1 at J
    have at1 : H1 c' = some (CodeO c' (X.env.qual ++ "<lambda>")) := by rw [← hH, upd_same]
    have at2 : H1 P = some (.tbl (tb ++ #[rawInt pos.line, rawInt pos.col, .ref c'])) := by rw [← hH, upd_ne ne, upd_same]
    have at3 : ∀ b, b ≠ P → b ≠ c' → H1 b = H b := fun b h1 h2 => by rw [← hH, upd_ne h2, upd_ne h1]
    have ext : ExtN H H1 := fun b o e n => by
      rw [at3 b (fun z => n tb (Option.some.inj (e.symm.trans (z ▸ atP)))) (ne_of_none e free)]
      exact e
    have eL : (tb ++ #[rawInt pos.line, rawInt pos.col, .ref c']).toList = tb.toList ++ [rawInt pos.line, rawInt pos.col, .ref c'] := by simp
    refine k _ c' H1 _ ext (fun p hp => ?_) (J.hok.fresh (Nat.le_refl _)) at1 (laidLam J)
    by_cases hb : p.1 = P
    · rw [one p hp hb, hb]
      refine ⟨_, at2, eL ▸ PySem.TriplesOk_snoc _ _ _ _ tri, fun p' cv hcv => ?_⟩
      rw [eL] at hcv
      cases among_app _ tri hcv with
      | inl z =>
        obtain ⟨c0, e1, e2⟩ := amg p' cv z
        exact ⟨c0, e1, ext _ _ e2 codeO_ne⟩
      | inr z => exact ⟨c', z, at1⟩
    · obtain ⟨ps', a1, a2, a3⟩ := hT p hp
      refine ⟨ps', (at3 p.1 hb (ne_of_none a1 free)).trans a1, a2, fun p' cv hcv => ?_⟩
      obtain ⟨c0, e1, e2⟩ := a3 p' cv hcv
      exact ⟨c0, e1, ext _ _ e2 codeO_ne⟩
end
def tLamV (T : List (Addr × Str)) (env : Env) (params : Arguments) (body : Expr) (scope : Scope) : TE := fun _ H Q => Tabs T H ∧ ∀ H1, ExtN H H1 → Tabs T H1 → ∀ f c' : Addr, H1 f = none → H1 c' = some (CodeO c' (env.qual ++ "<lambda>")) → Q (.ref f) (upd H1 f (LamO env params body scope f c'))
theorem pe_lamV {X : Cx} {T : List (Addr × Str)} {c P : Addr} {params : Arguments} {body : Expr} {scope : Scope} {pos : Pos} (TB : TabB X.base X.mg c P) (hcode : X.env.code = .ref c) (mem : (P, X.env.qual ++ "<lambda>") ∈ T) (one : ∀ p ∈ T, p.1 = P → p.2 = X.env.qual ++ "<lambda>")
    (L : LamS X.env.scope scope) (hdef : defaultsOf params X.env = ([], [])) : PE X (.Lambda params body scope pos) (tLamV T X.env params body scope) := by
  refine ⟨fun pins s σ H Q I h => ?_⟩
  obtain ⟨hT, h⟩ := h
  exact lam_val I TB hcode mem one hT hdef L fun f c' H1 s' ext T1 fr co J => ⟨.ref f, _, J, rfl, h H1 ext T1 f c' fr co⟩
/-- what is known of a lambda that was handed on: pre tells that it stands, t what its call promises -/
structure WorkL (P : Program) (w : World) (K : PySem.W.Frag) (mg : Str → Option Value) (base : Heap) (k : Nat) (fs : List Addr) (H0 : Hp) (h0 : Heap) (f : Addr) (pre : Hp → Prop) (t : XK → Hp → VK → Prop) : Prop where
  fn : ∀ (HZ : Hp) (h1 : Heap), HOk P w HZ h1 → pre HZ → ∃ (qual : Str) (params : Arguments) (body : Expr) (scope : Scope) (cl : List (Str × Addr)) (pm : Value) (c' : Addr) (ctv : Value), h1.get? f = some (PySem.W.kla_obj "<lambda>" qual params body scope cl pm c' ctv)
  run : ∀ (A : Around) (outer : List Env) (s1 : Shared) (HZ : Hp) (Q : VK) (E : XK), Room (k + 1) A → Env0 P w K mg base A outer s1 HZ → Un fs [] H0 HZ h0 s1.heap → pre HZ → t E HZ Q →
    codeAny (model P w) A (.call (.ref f) ⟨[], []⟩) (CR (L2.CX P w) outer P w HZ s1 Q E) s1
section
variable {X : Cx} {pins : List (Addr × Obj)} {σ : L2.St} {H : Hp} {s : Shared}
theorem work_ofL {k : Nat} {f c' : Addr} {params : Arguments} {body : Expr} {scope : Scope} {tb : XK → TE} (I : Inv X pins σ H s) (L : LamS X.env.scope scope)
    (hbind : ∀ (q : Str) (cl : List (Str × Addr)) (pm cv ctv : Value), bindArgs (PySem.W.kla_fn "<lambda>" q params body scope cl pm cv ctv) ⟨[], []⟩ = pure [])
    (hbody : ∀ (A : Around) (outer : List Env) (s1 : Shared) (HZ : Hp) (E : XK), Room k (A.deeper (lamEnv X scope s1.heap.objs.size f c')) → PE (lamCx X A outer s1 HZ E scope f c') body (tb E)) :
    WorkL X.prog X.w X.K X.mg X.base k (frs X.stack) H s.heap f (fun HZ => HZ f = some (LamO X.env params body scope f c') ∧ HZ c' = some (CodeO c' (X.env.qual ++ "<lambda>"))) (fun E HZ Q => tb E σ HZ Q) := by
  refine ⟨fun HZ h1 ok pre => ?_, fun A outer s1 HZ Q E hr e0 un pre ht => ?_⟩
  · obtain ⟨⟨pm, ctv, e⟩, _⟩ := ok f _ pre.1
    exact ⟨_, _, _, _, _, _, _, _, e⟩
  · obtain ⟨pf, pc⟩ := pre
    obtain ⟨⟨pm, ctv, of1⟩, _⟩ := e0.hok f _ pf
    obtain ⟨⟨oc, vs, t, hoc, hdc, hvc⟩, _⟩ := e0.hok c' _ pc
    have lim : s1.heap.NoLimit := e0.mod.nolimit.keeps fun b o e => (e0.bs b o e).1
    refine PySem.W.kla_callFunE hr.depth of1 rfl L.co L.gen rfl ⟨c', oc, vs, t, rfl, hoc, hdc, hvc⟩ ?_
    rw [hbind]
    refine wpAny_pure (wpAny_newFunctionEnv (fun y hy => (L.own y hy).2) (fun y hy => absurd hy (by simp)) (fun h₁ hns hsb => ⟨lim.fresh _ hsb, ?_⟩) L.kind)
    show codeAny _ _ (.expr body (lamEnv X scope s1.heap.objs.size f c')) _ _
    have keep : ∀ b o, s1.heap.get? b = some o → h₁.get? b = some o := fun b o e => hsb.extBut b o (Nat.ne_of_lt (Heap.lt_size e)) (Heap.get?_push_of_some _ e)
    have J : Inv (lamCx X A outer s1 HZ E scope f c') [] σ HZ { s1 with heap := h₁, toks := s1.toks + ([] : List (Str × Value)).length } := lam_start2 I L e0 hr.hd un hns keep
    refine PySem.W.kla_codeExpr (wpAny_mono ((hbody A outer s1 HZ E (hr.deeper _)).run [] _ _ HZ Q J ht) (fun v s' hq => ?_) fun e s' hq => hq)
    obtain ⟨w', H', J', rv, q⟩ := hq
    exact ⟨w', H', J'.os, J'.bare, J'.base, J'.hok, rv, q⟩
end
section
variable {Z : Cx} {k : Nat} {fs : List Addr} {H0 : Hp} {h0 : Heap} {f : Addr} {pre : Hp → Prop} {t : XK → Hp → VK → Prop}
theorem pe_workL {i : Nat} {a : Str} {E : XK} {p1 p2 : Pos} (Wk : WorkL Z.prog Z.w Z.K Z.mg Z.base k fs H0 h0 f pre t) (S : Since Z fs H0 h0) (hx : Passes (L2.CX Z.prog Z.w) Z E) (hr : Room (k + 1) Z.A) (hN : Z.N[i]? = some a) (hv : Vis Z.env.scope a)
    (hd : (a == ("__debug__" : Str)) = false := by decide) (hcd : (a == ("__classdict__" : Str)) = false := by decide) :
    PE Z (.Call (.Name a p1) [] [] p2) (fun σ H Q => σ[i]? = some (some (.ref f)) ∧ pre H ∧ t E H Q) := by
  refine ⟨fun pins s σ H Q I h => ?_⟩
  obtain ⟨hs, hp, ht⟩ := h
  refine wpAny_Call_Name_kw (thn ((pe_var (pos := p1) (i := i) hN hv hd hcd).run pins s σ H (fun v H1 => v = .ref f ∧ H1 = H) I ⟨.ref f, hs, rfl, rfl⟩) fun u s1 ⟨v, H1, I1, r1, q1⟩ => ?_)
  obtain ⟨rfl, rfl⟩ := q1
  obtain rfl : u = Value.ref f := r1
  obtain ⟨_, _, _, _, _, _, _, _, ob⟩ := Wk.fn H1 s1.heap I1.hok hp
  refine PySem.W.callWith_F0 ⟨_, _, _, _, ob⟩ ?_
  refine wpAny_call (codeAny_mono (Wk.run Z.A Z.stack s1 H1 Q E hr I1.env0 (S.now I1) hp ht) fun r s' hq => ?_)
  match r, hq with
  | .error e, hq => exact hx pins σ H1 s1 e s' I1 hq
  | .ok (.ret u), hq => exact I1.after hq
  | .ok .next, hq => exact False.elim hq
  | .ok .brk, hq => exact False.elim hq
  | .ok .cont, hq => exact False.elim hq
end
/-- caught, of such a lambda -/
def spCaughtL (K : PySem.W.Frag) (CS : Addr) (f : Addr) (pre : Hp → Prop) (t : XK → Hp → VK → Prop) : Sp := fun vs H Q _ => vs = [.ref f] ∧ pre H ∧ TCaught K CS t H Q
theorem caught_workL {P : Program} {w : World} {K : PySem.W.Frag} {mg : Str → Option Value} {base : Heap} {fs : List Addr} {H0 : Hp} {h0 : Heap} {k : Nat} {f : Addr} {pre : Hp → Prop} {t : XK → Hp → VK → Prop} {g : Addr} {fd : FuncData} {x a e n m : Str} {st : Stmt} {CS : Addr} {j1 : Nat} {p1 p2 p3 p4 p5 p6 p7 p8 p9 pa pb pc pd pe : Pos}
    (Wk : WorkL P w K mg base k fs H0 h0 f pre t) (F : Fun K x x st g fd) (S : FnScope [a, m, n] [a] (defScope st))
    (hb : defBody st = [.Assign [.Name m p1] (.Constant .none j1 p2) p3,
       .Try [.Expr (.Call (.Name a p4) [] [] p5) p6] [.ExceptHandler (some (.Name e p7)) (some n) [.Assign [.Name m p8] (.Name n p9) pa] pb] [] [] pc,
       .Return (some (.Name m pd)) pe])
    (la : (defScope st).names.lookup a = some .local) (lm : (defScope st).names.lookup m = some .local) (ln : (defScope st).names.lookup n = some .local) (he : (defScope st).names.lookup e = some .globalImplicit) (hme : mg e = some (.ref CS)) (hde : (e == ("__debug__" : Str)) = false)
    (d0 : (a == ("__debug__" : Str)) = false) (d00 : (a == ("__classdict__" : Str)) = false) (d1 : (n == ("__debug__" : Str)) = false) (d2 : (n == ("__classdict__" : Str)) = false) (d3 : (m == ("__debug__" : Str)) = false) (d4 : (m == ("__classdict__" : Str)) = false) :
    FnW P w K mg base fs H0 h0 (L2.CX P w) (k + 2) g fd [a] (spCaughtL K CS f pre t) := by
  refine fnW_of F S (fun vs H Q E h => by rw [h.1]; rfl) (fun cdv A outer s H vs Q E hr _ Sn h => ?_)
  obtain ⟨rfl, hp, hT⟩ := h
  rw [hb]
  refine ⟨_, pss_cons (ps_set (i := 1) S.nd rfl (.inl lm) pe_non) (pss_cons (ps_try_keep (c := .ref CS) (i := 2) (j := 1)
      (tb := fun W D σ H => ∃ Eb : XK, (∀ cls d σ' H', Eb cls d H' → W cls d σ' H') ∧ σ[0]? = some (some (.ref f)) ∧ pre H ∧ t Eb H (fun _ H' => D.nx σ H'))
      rfl rfl rfl S.nd rfl rfl ln lm ⟨he, hde, .inl hme⟩ d1 d2 (fun W pn xe tk _ => ?_))
    (pss_one (ps_ret (pe_var (i := 1) rfl (.inl lm) d3 d4)))), ?_⟩
  · refine ⟨fun pins s' σ H' D I h' => ?_⟩
    obtain ⟨Eb, wish, h1, h2, h3⟩ := h'
    exact (pss_one (ps_expr (pe_workL (Z := (cxOf (L2.CX P w) P w K mg base [a, m, n] x (defScope st) g cdv A outer s H E).tr pn xe) (i := 0) Wk ⟨Sn.un, Sn.sub, Sn.ex⟩ (passes_call tk wish) hr rfl (.inl la) d0 d00))).run pins s' σ H' D I ⟨h1, h2, h3⟩
  · refine ⟨fun cls d H' => PySem.W.exmOne K cls (.ref CS) = some true ∧ ∀ b, H' b = none → Q (.ref b) (upd H' b (ExV cls d b)), fun cls d σ' H' ⟨e1, e2⟩ => ⟨e1, fun b hb hl => ?_⟩, rfl, hp, ?_⟩
    · match σ', hl with
      | [u, v, z], _ => exact ⟨_, rfl, e2 b hb⟩
    · exact hT _ fun v H' z => ⟨_, rfl, z⟩
/-- a lambda of a def, and what its body promises -/
structure LamD where
  params : Arguments
  body : Expr
  scope : Scope
  t : XK → TE
structure LamOk (X : Cx) (kb : Nat) (l : LamD) : Prop where
  L : LamS X.env.scope l.scope
  bind : ∀ (q : Str) (cl : List (Str × Addr)) (pm cv ctv : Value), bindArgs (PySem.W.kla_fn "<lambda>" q l.params l.body l.scope cl pm cv ctv) ⟨[], []⟩ = pure []
  run : ∀ (A : Around) (outer : List Env) (s : Shared) (H : Hp) (E : XK) (f c' : Addr), Room kb (A.deeper (lamEnv X l.scope s.heap.objs.size f c')) → PE (lamCx X A outer s H E l.scope f c') l.body (l.t E)
/-- x(work): work, a name of this def, stands for one of its lambdas -/
theorem pe_callL {X : Cx} {CX : CXT} {kb k i : Nat} {g : Addr} {fd : FuncData} {ps : List Str} {E : XK} {x a : Str} {p p' pos : Pos} {sp : Addr → (Hp → Prop) → (XK → Hp → VK → Prop) → Sp} (lams : List LamD) (ok : ∀ l ∈ lams, LamOk X kb l)
    (FW : ∀ (H0 : Hp) (h0 : Heap) (f : Addr) (pre : Hp → Prop) (t' : XK → Hp → VK → Prop), WorkL X.prog X.w X.K X.mg X.base kb (frs X.stack) H0 h0 f pre t' → FnW X.prog X.w X.K X.mg X.base (frs X.stack) H0 h0 CX k g fd ps (sp f pre t'))
    (hg : Gl X x) (hm : X.mg x = some (.ref g)) (hk : PySem.W.keepIn X.K (.ref g) = true) (hb : Binds X.K fd ps []) (hx : Passes CX X E) (hr : Room k X.A) (hgd : X.A.guards = some []) (hN : X.N[i]? = some a) (hv : Vis X.env.scope a)
    (hdb : (x == ("__debug__" : Str)) = false := by decide) (hd : (a == ("__debug__" : Str)) = false := by decide) (hcd : (a == ("__classdict__" : Str)) = false := by decide)
    (he : starEach [.Name a p'] X.env = (false, eval (.Name a p') X.env) :: starEach [] X.env := by rfl) (hpl : (backTo pos (starEach [] X.env)).any (·.1) = false := by rfl) :
    PE X (.Call (.Name x p) [.Name a p'] [] pos) (fun σ H Q => ∃ l ∈ lams, ∃ f c' : Addr, σ[i]? = some (some (.ref f)) ∧ H f = some (LamO X.env l.params l.body l.scope f c') ∧ H c' = some (CodeO c' (X.env.qual ++ "<lambda>")) ∧
      sp f (fun HZ => HZ f = some (LamO X.env l.params l.body l.scope f c') ∧ HZ c' = some (CodeO c' (X.env.qual ++ "<lambda>"))) (fun E H Q => l.t E σ H Q) [.ref f] H Q E) := by
  refine ⟨fun pins s σ H Q I h => ?_⟩
  obtain ⟨l, hl, f, c', hs, hf, hc, q⟩ := h
  have O := ok l hl
  refine wpAny_Call_Name_kw (ld_glob I hg hm ?_ hdb)
  refine PySem.W.callWith_K (h₀ := X.base) I.ok.mod.kin hk ?_ he hpl
  rw [he]
  refine Calls.spliced_cons (thn ((pe_var (pos := p') (i := i) hN hv hd hcd).run pins s σ H (fun v H1 => v = .ref f ∧ H1 = H) I ⟨.ref f, hs, rfl, rfl⟩) fun u s1 ⟨v, H1, I1, r1, q1⟩ => ?_)
  obtain ⟨rfl, rfl⟩ := q1
  obtain rfl : u = Value.ref f := r1
  refine Calls.spliced_nil ⟨I1.kIn, ?_⟩
  have Wk := work_ofL (tb := l.t) (f := f) (c' := c') I1 O.L O.bind (fun A outer s2 HZ E hr2 => O.run A outer s2 HZ E f c' hr2)
  have F := FW H1 s1.heap f _ _ Wk
  have hlen : [Value.ref f].length = ps.length := by
    have := F.len _ _ _ _ q
    exact this
  have bt := hb s1 [.ref f] I1.kIn (by simpa using hlen)
  rw [List.append_nil] at bt
  refine wpAny_call (codeAny_mono (F.run X.A X.stack s1 H1 ⟨[.ref f], []⟩ [.ref f] [.ref f] Q E hr hgd I1.env0 (Un.kept fun _ _ z => z) (fun b hb => .inl hb) bt (.cons rfl .nil) q) fun rr s3 hq => ?_)
  match rr, hq with
  | .error e, hq => exact hx pins σ H1 s1 e s3 I1 hq
  | .ok (.ret u), hq => exact I1.after hq
  | .ok .next, hq => exact False.elim hq
  | .ok .brk, hq => exact False.elim hq
  | .ok .cont, hq => exact False.elim hq
end KL
namespace K16
open PySem PySem.Spec PyProof.Rows L2 PySem.W LamX KA
def top (i : Nat) : Stmt := PySem.Challenge.pw_pricedreels_k16_rectangles_lifted_there.main.body.getD i (.Pass ⟨0, 0, 0, 0⟩)
abbrev s_is_number : Stmt := top 1
theorem sc_is_number : FnScope ["thing"] ["thing"] (defScope s_is_number) := ⟨rfl, rfl, rfl, by decide +kernel, rfl, by decide +kernel, by decide +kernel⟩
abbrev s_is_within : Stmt := top 2
theorem sc_is_within : FnScope ["thing", "low", "high"] ["thing", "low", "high"] (defScope s_is_within) := ⟨rfl, rfl, rfl, by decide +kernel, rfl, by decide +kernel, by decide +kernel⟩
abbrev s_is_row : Stmt := top 3
theorem sc_is_row : FnScope ["thing", "part"] ["thing"] (defScope s_is_row) := ⟨rfl, rfl, rfl, by decide +kernel, rfl, by decide +kernel, by decide +kernel⟩
abbrev s_is_rows : Stmt := top 4
theorem sc_is_rows : FnScope ["thing", "row"] ["thing"] (defScope s_is_rows) := ⟨rfl, rfl, rfl, by decide +kernel, rfl, by decide +kernel, by decide +kernel⟩
abbrev s_areas : Stmt := top 10
theorem sc_areas : FnScope ["height", "width"] ["height", "width"] (defScope s_areas) := ⟨rfl, rfl, rfl, by decide +kernel, rfl, by decide +kernel, by decide +kernel⟩
abbrev s_is_rectangle : Stmt := top 11
theorem sc_is_rectangle : FnScope ["thing"] ["thing"] (defScope s_is_rectangle) := ⟨rfl, rfl, rfl, by decide +kernel, rfl, by decide +kernel, by decide +kernel⟩
abbrev s_lifted : Stmt := top 12
theorem sc_lifted : FnScope ["rectangle", "all_areas", "means", "differences", "inner", "at", "first", "second", "top", "left", "_"] ["rectangle"] (defScope s_lifted) := ⟨rfl, rfl, rfl, by decide +kernel, rfl, by decide +kernel, by decide +kernel⟩
abbrev s_unlifted : Stmt := top 13
theorem sc_unlifted : FnScope ["rectangle"] ["rectangle"] (defScope s_unlifted) := ⟨rfl, rfl, rfl, by decide +kernel, rfl, by decide +kernel, by decide +kernel⟩
abbrev s_check_size : Stmt := top 14
theorem sc_check_size : FnScope ["height", "width"] ["height", "width"] (defScope s_check_size) := ⟨rfl, rfl, rfl, by decide +kernel, rfl, by decide +kernel, by decide +kernel⟩
abbrev s_check_rectangle : Stmt := top 15
theorem sc_check_rectangle : FnScope ["rectangle"] ["rectangle"] (defScope s_check_rectangle) := ⟨rfl, rfl, rfl, by decide +kernel, rfl, by decide +kernel, by decide +kernel⟩
abbrev s_is_inner : Stmt := top 16
theorem sc_is_inner : FnScope ["area"] ["area"] (defScope s_is_inner) := ⟨rfl, rfl, rfl, by decide +kernel, rfl, by decide +kernel, by decide +kernel⟩
abbrev s_halves : Stmt := top 17
theorem sc_halves : FnScope ["area", "top", "left", "height", "width", "many"] ["area"] (defScope s_halves) := ⟨rfl, rfl, rfl, by decide +kernel, rfl, by decide +kernel, by decide +kernel⟩
abbrev s_halves_at : Stmt := top 18
theorem sc_halves_at : FnScope ["inner"] ["inner"] (defScope s_halves_at) := ⟨rfl, rfl, rfl, by decide +kernel, rfl, by decide +kernel, by decide +kernel⟩
abbrev s_list_areas : Stmt := top 19
theorem sc_list_areas : FnScope ["height", "width", "found", "at", "area"] ["height", "width"] (defScope s_list_areas) := ⟨rfl, rfl, rfl, by decide +kernel, rfl, by decide +kernel, by decide +kernel⟩
abbrev s_in_rows : Stmt := top 20
theorem sc_in_rows : FnScope ["numbers", "width", "at"] ["numbers", "width"] (defScope s_in_rows) := ⟨rfl, rfl, rfl, by decide +kernel, rfl, by decide +kernel, by decide +kernel⟩
abbrev s_lowest : Stmt := top 21
theorem sc_lowest : FnScope ["lows", "highs", "height", "width", "least", "greatest", "all_areas", "means", "rows", "inner", "at", "area", "first", "second", "row", "number", "_"] ["lows", "highs"] (defScope s_lowest) := ⟨rfl, rfl, rfl, by decide +kernel, rfl, by decide +kernel, by decide +kernel⟩
abbrev s__law_begun : Stmt := top 23
theorem sc__law_begun : FnScope ["script", "cells_here", "large", "cell"] ["script"] (defScope s__law_begun) := ⟨rfl, rfl, rfl, by decide +kernel, rfl, by decide +kernel, by decide +kernel⟩
abbrev s__law_draw : Stmt := top 24
theorem sc__law_draw : FnScope ["state", "size_here", "found", "turn", "cell", "mixed"] ["state", "size_here"] (defScope s__law_draw) := ⟨rfl, rfl, rfl, by decide +kernel, rfl, by decide +kernel, by decide +kernel⟩
abbrev s__law_pick : Stmt := top 25
theorem sc__law_pick : FnScope ["state", "several"] ["state", "several"] (defScope s__law_pick) := ⟨rfl, rfl, rfl, by decide +kernel, rfl, by decide +kernel, by decide +kernel⟩
abbrev s__law_caught : Stmt := top 26
theorem sc__law_caught : FnScope ["work", "caught", "error"] ["work"] (defScope s__law_caught) := ⟨rfl, rfl, rfl, by decide +kernel, rfl, by decide +kernel, by decide +kernel⟩
abbrev s__law_is_whole : Stmt := top 27
theorem sc__law_is_whole : FnScope ["item"] ["item"] (defScope s__law_is_whole) := ⟨rfl, rfl, rfl, by decide +kernel, rfl, by decide +kernel, by decide +kernel⟩
abbrev s__law_odd : Stmt := top 28
theorem sc__law_odd : FnScope ["state"] ["state"] (defScope s__law_odd) := ⟨rfl, rfl, rfl, by decide +kernel, rfl, by decide +kernel, by decide +kernel⟩
abbrev s__law_areas : Stmt := top 29
theorem sc__law_areas : FnScope ["tall", "wide", "found", "turn"] ["tall", "wide"] (defScope s__law_areas) := ⟨rfl, rfl, rfl, by decide +kernel, rfl, by decide +kernel, by decide +kernel⟩
abbrev s__law_halves : Stmt := top 30
theorem sc__law_halves : FnScope ["area", "top", "left", "tall", "wide", "cut"] ["area"] (defScope s__law_halves) := ⟨rfl, rfl, rfl, by decide +kernel, rfl, by decide +kernel, by decide +kernel⟩
abbrev s__law_lift : Stmt := top 31
theorem sc__law_lift : FnScope ["tall", "wide", "numbers_here", "every", "means", "area", "halves_v", "found"] ["tall", "wide", "numbers_here"] (defScope s__law_lift) := ⟨rfl, rfl, rfl, by decide +kernel, rfl, by decide +kernel, by decide +kernel⟩
abbrev s__law_unlift : Stmt := top 32
theorem sc__law_unlift : FnScope ["tall", "wide", "numbers_here", "means", "spot", "found", "area", "halves_v", "first"] ["tall", "wide", "numbers_here"] (defScope s__law_unlift) := ⟨rfl, rfl, rfl, by decide +kernel, rfl, by decide +kernel, by decide +kernel⟩
abbrev s__law_lines_of : Stmt := top 33
theorem sc__law_lines_of : FnScope ["told", "wide", "spot"] ["told", "wide"] (defScope s__law_lines_of) := ⟨rfl, rfl, rfl, by decide +kernel, rfl, by decide +kernel, by decide +kernel⟩
abbrev s__law_row_by_row : Stmt := top 34
theorem sc__law_row_by_row : FnScope ["pane", "found", "line"] ["pane"] (defScope s__law_row_by_row) := ⟨rfl, rfl, rfl, by decide +kernel, rfl, by decide +kernel, by decide +kernel⟩
abbrev s__law_sizes : Stmt := top 35
theorem sc__law_sizes : FnScope ["state", "cap", "tall", "wide"] ["state", "cap"] (defScope s__law_sizes) := ⟨rfl, rfl, rfl, by decide +kernel, rfl, by decide +kernel, by decide +kernel⟩
abbrev s__law_figure : Stmt := top 36
theorem sc__law_figure : FnScope ["state", "fashion", "span"] ["state", "fashion"] (defScope s__law_figure) := ⟨rfl, rfl, rfl, by decide +kernel, rfl, by decide +kernel, by decide +kernel⟩
abbrev s__law_is_pane : Stmt := top 37
theorem sc__law_is_pane : FnScope ["item", "line", "each"] ["item"] (defScope s__law_is_pane) := ⟨rfl, rfl, rfl, by decide +kernel, rfl, by decide +kernel, by decide +kernel⟩
abbrev s__law_bent_pane : Stmt := top 38
theorem sc__law_bent_pane : FnScope ["state", "pane", "way", "turn", "line", "spot", "each"] ["state", "pane"] (defScope s__law_bent_pane) := ⟨rfl, rfl, rfl, by decide +kernel, rfl, by decide +kernel, by decide +kernel⟩
abbrev s__law_lies_in : Stmt := top 39
theorem sc__law_lies_in : FnScope ["area", "dot"] ["area", "dot"] (defScope s__law_lies_in) := ⟨rfl, rfl, rfl, by decide +kernel, rfl, by decide +kernel, by decide +kernel⟩
abbrev s__law_all_dots : Stmt := top 40
theorem sc__law_all_dots : FnScope ["tall", "wide", "found", "down", "across"] ["tall", "wide"] (defScope s__law_all_dots) := ⟨rfl, rfl, rfl, by decide +kernel, rfl, by decide +kernel, by decide +kernel⟩
abbrev s__law_says : Stmt := top 41
theorem sc__law_says : FnScope ["found", "due"] ["found", "due"] (defScope s__law_says) := ⟨rfl, rfl, rfl, by decide +kernel, rfl, by decide +kernel, by decide +kernel⟩
abbrev s__law_are_lifted : Stmt := top 42
theorem sc__law_are_lifted : FnScope ["state", "tall", "wide", "told", "pane", "up", "down", "more", "lines", "least", "most", "some", "each"] ["state", "tall", "wide", "told"] (defScope s__law_are_lifted) := ⟨rfl, rfl, rfl, by decide +kernel, rfl, by decide +kernel, by decide +kernel⟩
abbrev s__law_reaches : Stmt := top 43
theorem sc__law_reaches : FnScope ["state", "tall", "wide", "inner", "turn", "least", "most", "half", "flip", "told", "dot", "due", "area"] ["state", "tall", "wide"] (defScope s__law_reaches) := ⟨rfl, rfl, rfl, by decide +kernel, rfl, by decide +kernel, by decide +kernel⟩
abbrev s__law_are_refused : Stmt := top 44
theorem sc__law_are_refused : FnScope ["state", "pane", "lap", "fine", "caught", "bent", "good", "work", "wrong"] ["state", "pane"] (defScope s__law_are_refused) := ⟨rfl, rfl, rfl, by decide +kernel, rfl, by decide +kernel, by decide +kernel⟩
abbrev s_law : Stmt := top 45
theorem sc_law : FnScope ["script", "state", "turn", "tall", "wide", "fashion", "told", "spot", "area"] ["script"] (defScope s_law) := ⟨rfl, rfl, rfl, by decide +kernel, rfl, by decide +kernel, by decide +kernel⟩
/-- what the top has written -/
structure Top (K : PySem.W.Frag) (mg : Str → Option Value) where
  reel : ReelT K mg
  BadRectangle : ExcT K mg "BadRectangle" reel.C
  BadSize : ExcT K mg "BadSize" reel.C
  is_number : DefT K mg "is_number" s_is_number
  is_within : DefT K mg "is_within" s_is_within
  is_row : DefT K mg "is_row" s_is_row
  is_rows : DefT K mg "is_rows" s_is_rows
  areas : DefT K mg "areas" s_areas
  is_rectangle : DefT K mg "is_rectangle" s_is_rectangle
  lifted : DefT K mg "lifted" s_lifted
  unlifted : DefT K mg "unlifted" s_unlifted
  check_size : DefT K mg "check_size" s_check_size
  check_rectangle : DefT K mg "check_rectangle" s_check_rectangle
  is_inner : DefT K mg "is_inner" s_is_inner
  halves : DefT K mg "halves" s_halves
  halves_at : DefT K mg "halves_at" s_halves_at
  list_areas : DefT K mg "list_areas" s_list_areas
  in_rows : DefT K mg "in_rows" s_in_rows
  lowest : DefT K mg "lowest" s_lowest
  _law_begun : DefT K mg "_law_begun" s__law_begun
  _law_draw : DefT K mg "_law_draw" s__law_draw
  _law_pick : DefT K mg "_law_pick" s__law_pick
  _law_caught : DefT K mg "_law_caught" s__law_caught
  _law_is_whole : DefT K mg "_law_is_whole" s__law_is_whole
  _law_odd : DefT K mg "_law_odd" s__law_odd
  _law_areas : DefT K mg "_law_areas" s__law_areas
  _law_halves : DefT K mg "_law_halves" s__law_halves
  _law_lift : DefT K mg "_law_lift" s__law_lift
  _law_unlift : DefT K mg "_law_unlift" s__law_unlift
  _law_lines_of : DefT K mg "_law_lines_of" s__law_lines_of
  _law_row_by_row : DefT K mg "_law_row_by_row" s__law_row_by_row
  _law_sizes : DefT K mg "_law_sizes" s__law_sizes
  _law_figure : DefT K mg "_law_figure" s__law_figure
  _law_is_pane : DefT K mg "_law_is_pane" s__law_is_pane
  _law_bent_pane : DefT K mg "_law_bent_pane" s__law_bent_pane
  _law_lies_in : DefT K mg "_law_lies_in" s__law_lies_in
  _law_all_dots : DefT K mg "_law_all_dots" s__law_all_dots
  _law_says : DefT K mg "_law_says" s__law_says
  _law_are_lifted : DefT K mg "_law_are_lifted" s__law_are_lifted
  _law_reaches : DefT K mg "_law_reaches" s__law_reaches
  _law_are_refused : DefT K mg "_law_are_refused" s__law_are_refused
  law : DefT K mg "law" s_law
  b_isinstance : mg "isinstance" = none
  b_int : mg "int" = none
  b_bool : mg "bool" = none
  b_len : mg "len" = none
  b_abs : mg "abs" = none
  b_range : mg "range" = none
  b_min : mg "min" = none
  b_max : mg "max" = none
  b_list : mg "list" = none
  b_tuple : mg "tuple" = none
  b_all : mg "all" = none
  b_reversed : mg "reversed" = none
  b_enumerate : mg "enumerate" = none
  b_ValueError : mg "ValueError" = none
section
variable {K : PySem.W.Frag} {mg : Str → Option Value}
theorem bd_is_number (T : Top K mg) : Binds K T.is_number.d ["thing"] [] := T.is_number.f.binds fun _ _ _ _ _ _ us hl => match us, hl with | [_], _ => rfl
theorem bd_is_within (T : Top K mg) : Binds K T.is_within.d ["thing", "low", "high"] [] := T.is_within.f.binds fun _ _ _ _ _ _ us hl => match us, hl with | [_, _, _], _ => rfl
theorem bd_is_row (T : Top K mg) : Binds K T.is_row.d ["thing"] [] := T.is_row.f.binds fun _ _ _ _ _ _ us hl => match us, hl with | [_], _ => rfl
theorem bd_is_rows (T : Top K mg) : Binds K T.is_rows.d ["thing"] [] := T.is_rows.f.binds fun _ _ _ _ _ _ us hl => match us, hl with | [_], _ => rfl
theorem bd_areas (T : Top K mg) : Binds K T.areas.d ["height", "width"] [] := T.areas.f.binds fun _ _ _ _ _ _ us hl => match us, hl with | [_, _], _ => rfl
theorem bd_is_rectangle (T : Top K mg) : Binds K T.is_rectangle.d ["thing"] [] := T.is_rectangle.f.binds fun _ _ _ _ _ _ us hl => match us, hl with | [_], _ => rfl
theorem bd_lifted (T : Top K mg) : Binds K T.lifted.d ["rectangle"] [] := T.lifted.f.binds fun _ _ _ _ _ _ us hl => match us, hl with | [_], _ => rfl
theorem bd_unlifted (T : Top K mg) : Binds K T.unlifted.d ["rectangle"] [] := T.unlifted.f.binds fun _ _ _ _ _ _ us hl => match us, hl with | [_], _ => rfl
theorem bd_check_size (T : Top K mg) : Binds K T.check_size.d ["height", "width"] [] := T.check_size.f.binds fun _ _ _ _ _ _ us hl => match us, hl with | [_, _], _ => rfl
theorem bd_check_rectangle (T : Top K mg) : Binds K T.check_rectangle.d ["rectangle"] [] := T.check_rectangle.f.binds fun _ _ _ _ _ _ us hl => match us, hl with | [_], _ => rfl
theorem bd_is_inner (T : Top K mg) : Binds K T.is_inner.d ["area"] [] := T.is_inner.f.binds fun _ _ _ _ _ _ us hl => match us, hl with | [_], _ => rfl
theorem bd_halves (T : Top K mg) : Binds K T.halves.d ["area"] [] := T.halves.f.binds fun _ _ _ _ _ _ us hl => match us, hl with | [_], _ => rfl
theorem bd_halves_at (T : Top K mg) : Binds K T.halves_at.d ["inner"] [] := T.halves_at.f.binds fun _ _ _ _ _ _ us hl => match us, hl with | [_], _ => rfl
theorem bd_list_areas (T : Top K mg) : Binds K T.list_areas.d ["height", "width"] [] := T.list_areas.f.binds fun _ _ _ _ _ _ us hl => match us, hl with | [_, _], _ => rfl
theorem bd_in_rows (T : Top K mg) : Binds K T.in_rows.d ["numbers", "width"] [] := T.in_rows.f.binds fun _ _ _ _ _ _ us hl => match us, hl with | [_, _], _ => rfl
theorem bd_lowest (T : Top K mg) : Binds K T.lowest.d ["lows", "highs"] [] := T.lowest.f.binds fun _ _ _ _ _ _ us hl => match us, hl with | [_, _], _ => rfl
theorem bd__law_begun (T : Top K mg) : Binds K T._law_begun.d ["script"] [] := T._law_begun.f.binds fun _ _ _ _ _ _ us hl => match us, hl with | [_], _ => rfl
theorem bd__law_draw (T : Top K mg) : Binds K T._law_draw.d ["state", "size_here"] [] := T._law_draw.f.binds fun _ _ _ _ _ _ us hl => match us, hl with | [_, _], _ => rfl
theorem bd__law_pick (T : Top K mg) : Binds K T._law_pick.d ["state", "several"] [] := T._law_pick.f.binds fun _ _ _ _ _ _ us hl => match us, hl with | [_, _], _ => rfl
theorem bd__law_caught (T : Top K mg) : Binds K T._law_caught.d ["work"] [] := T._law_caught.f.binds fun _ _ _ _ _ _ us hl => match us, hl with | [_], _ => rfl
theorem bd__law_is_whole (T : Top K mg) : Binds K T._law_is_whole.d ["item"] [] := T._law_is_whole.f.binds fun _ _ _ _ _ _ us hl => match us, hl with | [_], _ => rfl
theorem bd__law_odd (T : Top K mg) : Binds K T._law_odd.d ["state"] [] := T._law_odd.f.binds fun _ _ _ _ _ _ us hl => match us, hl with | [_], _ => rfl
theorem bd__law_areas (T : Top K mg) : Binds K T._law_areas.d ["tall", "wide"] [] := T._law_areas.f.binds fun _ _ _ _ _ _ us hl => match us, hl with | [_, _], _ => rfl
theorem bd__law_halves (T : Top K mg) : Binds K T._law_halves.d ["area"] [] := T._law_halves.f.binds fun _ _ _ _ _ _ us hl => match us, hl with | [_], _ => rfl
theorem bd__law_lift (T : Top K mg) : Binds K T._law_lift.d ["tall", "wide", "numbers_here"] [] := T._law_lift.f.binds fun _ _ _ _ _ _ us hl => match us, hl with | [_, _, _], _ => rfl
theorem bd__law_unlift (T : Top K mg) : Binds K T._law_unlift.d ["tall", "wide", "numbers_here"] [] := T._law_unlift.f.binds fun _ _ _ _ _ _ us hl => match us, hl with | [_, _, _], _ => rfl
theorem bd__law_lines_of (T : Top K mg) : Binds K T._law_lines_of.d ["told", "wide"] [] := T._law_lines_of.f.binds fun _ _ _ _ _ _ us hl => match us, hl with | [_, _], _ => rfl
theorem bd__law_row_by_row (T : Top K mg) : Binds K T._law_row_by_row.d ["pane"] [] := T._law_row_by_row.f.binds fun _ _ _ _ _ _ us hl => match us, hl with | [_], _ => rfl
theorem bd__law_sizes (T : Top K mg) : Binds K T._law_sizes.d ["state", "cap"] [] := T._law_sizes.f.binds fun _ _ _ _ _ _ us hl => match us, hl with | [_, _], _ => rfl
theorem bd__law_figure (T : Top K mg) : Binds K T._law_figure.d ["state", "fashion"] [] := T._law_figure.f.binds fun _ _ _ _ _ _ us hl => match us, hl with | [_, _], _ => rfl
theorem bd__law_is_pane (T : Top K mg) : Binds K T._law_is_pane.d ["item"] [] := T._law_is_pane.f.binds fun _ _ _ _ _ _ us hl => match us, hl with | [_], _ => rfl
theorem bd__law_bent_pane (T : Top K mg) : Binds K T._law_bent_pane.d ["state", "pane"] [] := T._law_bent_pane.f.binds fun _ _ _ _ _ _ us hl => match us, hl with | [_, _], _ => rfl
theorem bd__law_lies_in (T : Top K mg) : Binds K T._law_lies_in.d ["area", "dot"] [] := T._law_lies_in.f.binds fun _ _ _ _ _ _ us hl => match us, hl with | [_, _], _ => rfl
theorem bd__law_all_dots (T : Top K mg) : Binds K T._law_all_dots.d ["tall", "wide"] [] := T._law_all_dots.f.binds fun _ _ _ _ _ _ us hl => match us, hl with | [_, _], _ => rfl
theorem bd__law_says (T : Top K mg) : Binds K T._law_says.d ["found", "due"] [] := T._law_says.f.binds fun _ _ _ _ _ _ us hl => match us, hl with | [_, _], _ => rfl
theorem bd__law_are_lifted (T : Top K mg) : Binds K T._law_are_lifted.d ["state", "tall", "wide", "told"] [] := T._law_are_lifted.f.binds fun _ _ _ _ _ _ us hl => match us, hl with | [_, _, _, _], _ => rfl
theorem bd__law_reaches (T : Top K mg) : Binds K T._law_reaches.d ["state", "tall", "wide"] [] := T._law_reaches.f.binds fun _ _ _ _ _ _ us hl => match us, hl with | [_, _, _], _ => rfl
theorem bd__law_are_refused (T : Top K mg) : Binds K T._law_are_refused.d ["state", "pane"] [] := T._law_are_refused.f.binds fun _ _ _ _ _ _ us hl => match us, hl with | [_, _], _ => rfl
theorem bd_law (T : Top K mg) : Binds K T.law.d ["script"] [] := T.law.f.binds fun _ _ _ _ _ _ us hl => match us, hl with | [_], _ => rfl
end
end K16
namespace KA
open PySem
/-! ### numbers in bits: the mathematics -/
/-- n in k bits, as codes -/
def bitsL : Nat → Nat → List Nat
  | 0, _ => []
  | k + 1, n => bitsL k (n / 2) ++ [48 + n % 2]
theorem bitsL_len : ∀ k n, (bitsL k n).length = k
  | 0, _ => rfl
  | k + 1, n => by simp [bitsL, bitsL_len k]
def binL (n : Nat) : List Nat := (Nat.toDigits 2 n).map Char.toNat
theorem binL_lt {n : Nat} (h : n < 2) : binL n = [48 + n] := by
  unfold binL
  rw [Nat.toDigits_of_lt_base h]
  have : n = 0 ∨ n = 1 := by omega
  rcases this with rfl | rfl <;> rfl
theorem binL_ge {n : Nat} (h : 2 ≤ n) : binL n = binL (n / 2) ++ [48 + n % 2] := by
  unfold binL
  rw [Nat.toDigits_of_base_le (by decide) h, List.map_append]
  have : n % 2 = 0 ∨ n % 2 = 1 := by omega
  rcases this with e | e <;> rw [e] <;> rfl
/-- the digits behind the first one -/
def tailL (n : Nat) : List Nat := (binL n).drop 1
theorem binL_ne (n : Nat) : binL n ≠ [] := by
  unfold binL
  intro h
  exact Nat.toDigits_ne_nil (List.map_eq_nil_iff.mp h)
theorem tailL_lt {n : Nat} (h : n < 2) : tailL n = [] := by
  unfold tailL
  rw [binL_lt h]
  rfl
theorem tailL_ge {n : Nat} (h : 2 ≤ n) : tailL n = tailL (n / 2) ++ [48 + n % 2] := by
  unfold tailL
  rw [binL_ge h, List.drop_append_of_le_length]
  have := List.length_pos_iff.mpr (binL_ne (n / 2))
  omega
theorem binL_head : ∀ (n : Nat), 1 ≤ n → binL n = 49 :: tailL n := by
  intro n
  induction n using Nat.strongRecOn with
  | _ n ih =>
    intro h
    by_cases h2 : n < 2
    · have : n = 1 := by omega
      subst this
      rfl
    · rw [tailL_ge (by omega), binL_ge (by omega), ih (n / 2) (by omega) (by omega)]
      rfl
theorem binL_le : ∀ (k n : Nat), 0 < k → n < 2 ^ k → (binL n).length ≤ k
  | 0, _, h, _ => by omega
  | k + 1, n, _, h => by
    by_cases h2 : n < 2
    · rw [binL_lt h2]
      simp
    · rw [binL_ge (by omega), List.length_append]
      have hk : 0 < k := by
        rcases Nat.eq_zero_or_pos k with e | e
        · subst e
          simp at h
          omega
        · exact e
      have := binL_le k (n / 2) hk (by rw [Nat.pow_succ] at h; omega)
      simp
      omega
theorem bitsL_bin : ∀ (k n : Nat), 0 < k → n < 2 ^ k → List.replicate (k - (binL n).length) 48 ++ binL n = bitsL k n
  | 0, _, h, _ => by omega
  | k + 1, n, _, h => by
    rw [bitsL]
    by_cases h2 : n < 2
    · rw [binL_lt h2]
      have e : n / 2 = 0 := by omega
      have e2 : n % 2 = n := by omega
      rw [e, e2]
      have z : ∀ j, bitsL j 0 = List.replicate j 48 := fun j => by
        induction j with
        | zero => rfl
        | succ j ih => rw [bitsL, Nat.zero_div, ih, List.replicate_succ']
      rw [z]
      simp
    · have hk : 0 < k := by
        rcases Nat.eq_zero_or_pos k with e | e
        · subst e
          simp at h
          omega
        · exact e
      have hd : n / 2 < 2 ^ k := by
        rw [Nat.pow_succ] at h
        omega
      rw [← bitsL_bin k (n / 2) hk hd, binL_ge (by omega), List.length_append]
      have e : k + 1 - ((binL (n / 2)).length + [48 + n % 2].length) = k - (binL (n / 2)).length := by simp
      rw [e, List.append_assoc]
theorem binText_eq (n : Nat) : binText n = ⟨(binL n).toArray⟩ := rfl
theorem binText_len (n : Nat) : (binText n).length = (binL n).length := by simp [binText, binL, Str.length]
/-- n in m bits, as a text -/
def twosT (m n : Nat) : Str := ⟨(bitsL m n).toArray⟩
theorem zfill_bin {m n : Nat} (hm : 0 < m) (h : n < 2 ^ m) : Txt.zfill (binText n) (m : Int) = twosT m n := by
  have hl := binL_le m n hm h
  have hb := bitsL_bin m n hm h
  unfold Txt.zfill
  rw [binText_len]
  by_cases e : (m : Int) ≤ ((binL n).length : Nat)
  · rw [if_pos e]
    have : m - (binL n).length = 0 := by omega
    rw [this] at hb
    simp only [List.replicate_zero, List.nil_append] at hb
    rw [binText_eq, hb]
    rfl
  · rw [if_neg e]
    have h0 : (binText n).cps[0]? = some 48 ∨ (binText n).cps[0]? = some 49 := by
      rw [binText_eq]
      rcases Nat.eq_zero_or_pos n with z | z
      · subst z
        exact .inl rfl
      · rw [binL_head n z]
        exact .inr rfl
    have e2 : zfilled (binText n) ((m : Int).toNat - (binL n).length) = Builtin.Str.padded (binText n) ((m : Int).toNat - (binL n).length) 0 48 := by
      unfold zfilled
      rcases h0 with z | z
      · rw [z]
        rfl
      · rw [z]
        rfl
    rw [e2]
    unfold Builtin.Str.padded twosT
    rw [← hb, binText_eq]
    congr 1
    apply Array.toList_inj.mp
    simp
/-- n ones -/
def onesT (n : Nat) : Str := ⟨(List.replicate n 49).toArray⟩
theorem onesT_len (n : Nat) : (onesT n).length = n := by simp [onesT, Str.length]
theorem fold_ones (n : Nat) : ∀ acc : Array Nat, (List.replicate n (#[49] : Array Nat)).foldl (· ++ ·) acc = acc ++ (List.replicate n 49).toArray := by
  induction n with
  | zero => intro acc; simp
  | succ n ih =>
    intro acc
    rw [List.replicate_succ, List.foldl_cons, ih, List.replicate_succ]
    apply Array.toList_inj.mp
    simp
theorem mul_ones (n : Nat) : Txt.mul "1" (n : Int) = onesT n := by
  unfold Txt.mul
  by_cases h : (n : Int) < 1
  · rw [if_pos h]
    have : n = 0 := by omega
    subst this
    rfl
  · rw [if_neg h]
    by_cases h1 : n = 1
    · subst h1
      rfl
    · rw [if_neg (by
        have e : ((n : Int) == 1) = false := by
          rw [beq_eq_false_iff_ne]
          omega
        rw [e]
        decide)]
      show (⟨(List.replicate (n : Int).toNat (#[49] : Array Nat)).foldl (· ++ ·) #[]⟩ : Str) = _
      rw [Int.toNat_natCast, fold_ones]
      unfold onesT
      congr 1
      apply Array.toList_inj.mp
      simp
end KA
namespace K16
open PySem PySem.Spec PyProof.Rows L2 PySem.W LamX KA
/-! ### the promises -/
/-- a value whose type isinstance can tell; whether it is a number -/
inductive Pl (K : PySem.W.Frag) (H : Hp) : V → Bool → Prop where
  | int (i : Int) : Pl K H (.int i) true
  | bl (b : Bool) : Pl K H (.bl b) false
  | str (s : Str) : Pl K H (.str s) false
  | non : Pl K H .non false
  | tup {a : Addr} {xs : List V} (e : H a = some (.tup xs)) : Pl K H (.ref a) false
  | lst {a : Addr} {xs : List V} (e : H a = some (.lst xs)) : Pl K H (.ref a) false
  | dK {a : Addr} {kvs : List (Key × V)} (e : H a = some (.dK kvs)) : Pl K H (.ref a) false
theorem Pl.ty {K : PySem.W.Frag} {H : Hp} {x : V} {b : Bool} (h : Pl K H x b) : ∃ t : String, TyX K H x (.type t) ∧ kitB t "int" = some (b || (t == "bool")) ∧ kitB t "bool" = some (t == "bool") ∧ ((b || (t == "bool")) && !(t == "bool")) = b := by
  cases h with
  | int i => exact ⟨"int", .base (.int i), by decide +kernel, by decide +kernel, by decide⟩
  | bl i => exact ⟨"bool", .base (.bl i), by decide +kernel, by decide +kernel, by decide⟩
  | str i => exact ⟨"str", .base (.str i), by decide +kernel, by decide +kernel, by decide⟩
  | non => exact ⟨"NoneType", .base .non, by decide +kernel, by decide +kernel, by decide⟩
  | tup e => exact ⟨"tuple", .base (.tup e), by decide +kernel, by decide +kernel, by decide⟩
  | lst e => exact ⟨"list", .base (.lst e), by decide +kernel, by decide +kernel, by decide⟩
  | dK e => exact ⟨"dict", .base (.dK e), by decide +kernel, by decide +kernel, by decide⟩
def within (x : V) (lo hi : Int) : Bool := match x with
  | .int i => decide (lo ≤ i) && decide (i ≤ hi)
  | _ => false
def spNumber (K : PySem.W.Frag) : Sp := fun vs H Q _ => ∃ x b, vs = [x] ∧ Pl K H x b ∧ Q (.bl b) H
def spWithin (K : PySem.W.Frag) : Sp := fun vs H Q _ => ∃ x b lo hi, vs = [x, .int lo, .int hi] ∧ Pl K H x b ∧ Q (.bl (within x lo hi)) H
section
variable {P : Program} {w : World} {K : PySem.W.Frag} {mg : Str → Option Value} {base : Heap} (T : Top K mg)
abbrev pInt {X : Cx} {pos : Pos} (hg : Gl X "int") (hm : X.mg "int" = none) : PE X (.Name "int" pos) (tC (.ty "int")) := pe_bltn hg hm PyProof.Rows.boot_int rfl
theorem q_bl {Q : VK} {H : Hp} {a b : Bool} (k : Q (.bl b) H) (e : a = b) : Q (.bl a) H := e ▸ k
theorem q_int {Q : VK} {H : Hp} {a b : Int} (k : Q (.int b) H) (e : a = b) : Q (.int a) H := e ▸ k
theorem q_str {Q : VK} {H : Hp} {a b : Str} (k : Q (.str b) H) (e : a = b) : Q (.str a) H := e ▸ k
theorem ok_is_number : FnOk P w K mg base (L2.CX P w) 1 T.is_number.a T.is_number.d ["thing"] (spNumber K) := by
  refine T.is_number.f.okX sc_is_number (fun vs H Q E h => ?_) (fun cdv A outer s H vs Q E hr h => ?_)
  · obtain ⟨x, b, rfl, _⟩ := h
    rfl
  · obtain ⟨x, b, rfl, hp, k⟩ := h
    refine ⟨_, pss_one (ps_ret (pe_and
      (pe_callB call_isi (by rfl) T.b_isinstance PyProof.Rows.boot_isinstance (pa_cons (pv 0) (pa_cons (pe_bltn (v := .ty "int") (by rfl) T.b_int PyProof.Rows.boot_int rfl) pa_nil)))
      (pe_one (pe_not (pe_callB call_isi (by rfl) T.b_isinstance PyProof.Rows.boot_isinstance (pa_cons (pv 0) (pa_cons (pe_bltn (v := .ty "bool") (by rfl) T.b_bool (by decide +kernel) rfl) pa_nil))))))), ?_⟩
    obtain ⟨t, ht, h1, h2, h3⟩ := hp.ty
    refine ⟨_, rfl, x, _, _, _, _, rfl, .ty "int", ht, kit_ty h1, _, rfl, ?_⟩
    cases e : (b || (t == "bool"))
    · rw [e] at h3
      refine iteF ?_
      exact q_bl k h3
    · rw [e] at h3
      refine iteT ?_
      refine ⟨_, rfl, x, _, _, _, _, rfl, .ty "bool", ht, kit_ty h2, _, rfl, ?_⟩
      exact q_bl k (by simpa using h3)
theorem ok_is_within : FnOk P w K mg base (L2.CX P w) 2 T.is_within.a T.is_within.d ["thing", "low", "high"] (spWithin K) := by
  refine T.is_within.f.okX sc_is_within (fun vs H Q E h => ?_) (fun cdv A outer s H vs Q E hr h => ?_)
  · obtain ⟨x, b, lo, hi, rfl, _⟩ := h
    rfl
  · obtain ⟨x, b, lo, hi, rfl, hp, k⟩ := h
    refine ⟨_, pss_one (ps_ret (pe_and (pe_call (ok_is_number T) hr (by rfl) T.is_number.m T.is_number.f.kp (bd_is_number T) .nil passE (pa_cons (pv 0) pa_nil))
      (pe_one (pe_chain op_le op_le (pv 1) (pv 0) (pv 2))))), ?_⟩
    refine ⟨_, rfl, x, b, rfl, hp, b, rfl, ?_⟩
    cases hp with
    | int i =>
      refine iteT ⟨_, rfl, _, rfl, lo, i, rfl, rfl, _, rfl, ?_⟩
      by_cases h1 : lo ≤ i
      · rw [decide_eq_true h1]
        refine iteT ⟨_, rfl, i, hi, rfl, rfl, ?_⟩
        exact q_bl k (by simp [within, h1])
      · rw [decide_eq_false h1]
        refine iteF ?_
        exact q_bl k (by simp [within, h1])
    | _ => exact iteF k
def foldI (i : Int) : Int := if i > 0 then 2 * i - 1 else -2 * i
def spFold : Sp := fun vs H Q _ => ∃ i : Int, vs = [.int i] ∧ Q (.int (foldI i)) H
def unfoldI (n : Int) : Int := if Builtin.bitAnd n 1 != 0 then (n + 1) / 2 else -(n / 2)
def spUnfold : Sp := fun vs H Q _ => ∃ i : Int, vs = [.int i] ∧ Q (.int (unfoldI i)) H
/-- n in m bits, as the program writes it -/
theorem padOk {m : Int} (h0 : 0 ≤ m) (h1 : m ≤ 100) : PadOk m = true := by
  unfold PadOk fitsSsize Builtin.Str.tooLong
  have e : sizeLine = 16777216 := rfl
  rw [e]
  simp
  omega
def inBits (n m : Int) : Str := if m = 0 then "" else Txt.zfill (binText n.natAbs) m
def spInBits : Sp := fun vs H Q _ => ∃ n m : Int, vs = [.int n, .int m] ∧ 0 ≤ n ∧ (binText n.natAbs).length ≤ 100 ∧ 0 ≤ m ∧ m ≤ 100 ∧ Q (.str (inBits n m)) H
def spIsTold (K : PySem.W.Frag) : Sp := fun vs H Q _ => ∃ x b, vs = [x] ∧ Pl K H x b ∧ Q (.bl (within x (-32767) 32767)) H
/-- a check: nothing, or an error of the class at C -/
def spCheck (K : PySem.W.Frag) (lo hi : Int) (C : Addr) : Sp := fun vs H Q E => ∃ x b, vs = [x] ∧ Pl K H x b ∧ (within x lo hi = true → Q .non H) ∧ (within x lo hi = false → E (.ref C) none H)
theorem iteNot {A B : Prop} {b : Bool} (h1 : b = false → A) (h2 : b = true → B) : if (!b) = true then A else B := by
  cases b
  · exact h1 rfl
  · exact h2 rfl
theorem passX {X : Cx} {E : XK} (hs : X.stack = X.env :: X.outer) (hf : X.env.frame = some X.env.locals) (hex : X.ex = []) (hx : X.xe = fun e s' => wpAny (model X.prog X.w) X.A (leaving X.env e) (fun _ s'' => L2.CX X.prog X.w X.outer X.H_0 X.s_0 E e s'') (fun e' s'' => L2.CX X.prog X.w X.outer X.H_0 X.s_0 E e' s'') s') :
    Passes (L2.CX X.prog X.w) X E := passes_call (takes_of hs hf hex hx) fun _ _ _ _ h => h
theorem within_int {x : V} {lo hi : Int} (h : within x lo hi = true) : ∃ i, x = .int i ∧ lo ≤ i ∧ i ≤ hi := by
  cases x with
  | int i =>
    simp only [within, Bool.and_eq_true, decide_eq_true_eq] at h
    exact ⟨i, rfl, h⟩
  | _ => cases h
def spFolded (K : PySem.W.Frag) (C : Addr) : Sp := fun vs H Q E => ∃ x b, vs = [x] ∧ Pl K H x b ∧ (∀ i, x = .int i → -32767 ≤ i → i ≤ 32767 → Q (.int (foldI i)) H) ∧ (within x (-32767) 32767 = false → E (.ref C) none H)
def spUnfolded (K : PySem.W.Frag) (C : Addr) : Sp := fun vs H Q E => ∃ x b, vs = [x] ∧ Pl K H x b ∧ (∀ i, x = .int i → 0 ≤ i → i ≤ 65534 → Q (.int (unfoldI i)) H) ∧ (within x 0 65534 = false → E (.ref C) none H)
end
end K16
namespace K16
open PySem PySem.Spec PyProof.Rows L2 PySem.W LamX KA
section
variable {P : Program} {w : World} {K : PySem.W.Frag} {mg : Str → Option Value} {base : Heap} (T : Top K mg)
def isStr (x : V) : Bool := match x with
  | .str _ => true
  | _ => false
theorem Pl.str? {K : PySem.W.Frag} {H : Hp} {x : V} {b : Bool} (h : Pl K H x b) : ∃ t : String, TyX K H x (.type t) ∧ kitB t "str" = some (isStr x) := by
  cases h with
  | int i => exact ⟨"int", .base (.int i), (by decide +kernel : kitB "int" "str" = some false)⟩
  | bl i => exact ⟨"bool", .base (.bl i), (by decide +kernel : kitB "bool" "str" = some false)⟩
  | str i => exact ⟨"str", .base (.str i), (by decide +kernel : kitB "str" "str" = some true)⟩
  | non => exact ⟨"NoneType", .base .non, by decide +kernel⟩
  | tup e => exact ⟨"tuple", .base (.tup e), (by decide +kernel : kitB "tuple" "str" = some false)⟩
  | lst e => exact ⟨"list", .base (.lst e), (by decide +kernel : kitB "list" "str" = some false)⟩
  | dK e => exact ⟨"dict", .base (.dK e), (by decide +kernel : kitB "dict" "str" = some false)⟩
def isBits (x : V) : Bool := match x with
  | .str s => decide (V.str (Txt.stripChars s "01") = V.str "")
  | _ => false
def spIsBits (K : PySem.W.Frag) : Sp := fun vs H Q _ => ∃ x b, vs = [x] ∧ Pl K H x b ∧ (∀ s, x = .str s → s.length ≤ 1000) ∧ Q (.bl (isBits x)) H
def spFixed (K : PySem.W.Frag) (CM CN : Addr) : Sp := fun vs H Q E => ∃ x bx y «by», vs = [x, y] ∧ Pl K H x bx ∧ Pl K H y «by» ∧ (within y 1 16 = false → E (.ref CM) none H) ∧
  ∀ m : Nat, y = .int m → 1 ≤ m → m ≤ 16 → (within x 0 (2 ^ m - 1) = false → E (.ref CN) none H) ∧ ∀ n : Nat, x = .int n → n < 2 ^ m → Q (.str (twosT m n)) H
theorem pow16 {m : Nat} (h : m ≤ 16) : 2 ^ m ≤ 65536 := by
  have := Nat.pow_le_pow_right (n := 2) (by decide) h
  exact this
theorem binText_small {n : Nat} (h : n < 65536) : (binText n).length ≤ 100 := by
  rw [binText_len]
  have := binL_le 16 n (by decide) h
  omega
theorem inBits_eq {m n : Nat} (hm : 0 < m) (h : n < 2 ^ m) : inBits (n : Int) (m : Int) = twosT m n := by
  unfold inBits
  rw [if_neg (by omega), Int.natAbs_natCast]
  exact zfill_bin hm h
theorem cut_one {z : Str} (h : 1 ≤ z.length) : cutS z (some 1) none = ⟨(z.cps.toList.drop 1).toArray⟩ := by
  have e1 : HT.sIx z.length 0 (some 1) = 1 := (HT.sIx_nat z.length 0 1).trans (by omega)
  unfold cutS
  rw [e1, HT.sIx_none, List.take_of_length_le]
  simp [Str.length]
theorem len_app (x y : Str) : (x ++ y).length = x.length + y.length := Array.size_append
def longT (f : Nat) : Str := onesT (tailL (f + 1)).length ++ "0" ++ ⟨(tailL (f + 1)).toArray⟩
theorem foldI_nat {i : Int} (h1 : -32767 ≤ i) (h2 : i ≤ 32767) : ∃ f : Nat, foldI i = f ∧ f < 65535 := by
  refine ⟨(foldI i).toNat, ?_, ?_⟩ <;> (unfold foldI; split <;> omega)
def spLong (K : PySem.W.Frag) (C : Addr) : Sp := fun vs H Q E => ∃ x b, vs = [x] ∧ Pl K H x b ∧ (∀ i (f : Nat), x = .int i → foldI i = f → f < 65535 → Q (.str (longT f)) H) ∧ (within x (-32767) 32767 = false → E (.ref C) none H)
def gradeT (f g : Nat) : Str := if 12 ≤ f / 2 ^ g then onesT 12 ++ twosT 16 f else onesT (f / 2 ^ g) ++ "0" ++ twosT g (f % 2 ^ g)
theorem twosT_len (m n : Nat) : (twosT m n).length = m := by
  show ((bitsL m n).toArray).size = m
  simp [bitsL_len]
def spGrade (K : PySem.W.Frag) (CN CG : Addr) : Sp := fun vs H Q E => ∃ x b y yb, vs = [x, y] ∧ Pl K H x b ∧ Pl K H y yb ∧ (within x (-32767) 32767 = false → E (.ref CN) none H) ∧
  ∀ i (f : Nat), x = .int i → foldI i = f → f < 65535 → (within y 0 7 = false → E (.ref CG) none H) ∧ ∀ g : Nat, y = .int g → g ≤ 7 → Q (.str (gradeT f g)) H
end
end K16
namespace K16
open PySem PySem.Spec PyProof.Rows L2 PySem.W LamX KA
open Evl (pss_cut tCut)
def spDraw : Sp := fun vs H Q _ => ∃ (st lg cl : Addr) (n m : Nat), vs = [.ref st, .int n] ∧ 0 < n ∧ n < 2 ^ 100 ∧ m ≤ 1000000 ∧ StAt H st lg cl m ∧
  ∀ (r : Nat) (H' : Hp), r < n → StAt H' st lg cl (m + 1) → Kp st lg H H' → Q (.int r) H'
section
variable {P : Program} {w : World} {K : PySem.W.Frag} {mg : Str → Option Value} {base : Heap} (T : Top K mg)
theorem draw_div {n : Nat} (h0 : 0 < n) (h : n < 2 ^ 100) {i : Int} : CDivW i (n : Int) := wide_div (b := 100) (by omega) (by simpa using h) (by decide) (by decide)
theorem ok_draw : FnOk P w K mg base (L2.CX P w) 1 T._law_draw.a T._law_draw.d ["state", "size_here"] spDraw := by
  refine T._law_draw.f.okX sc__law_draw (fun vs H Q E h => ?_) (fun cdv A outer s H vs Q E hr h => ?_)
  · obtain ⟨st, lg, cl, n, m, rfl, _⟩ := h
    rfl
  · obtain ⟨st, lg, cl, n, m, rfl, hn, hn2, hm, ⟨large, cells, left, turn, S, ht⟩, k⟩ := h
    have hu := hu_of hr
    refine ⟨_, pss_cut (ps_while (passes_of rfl) (PW.pt (pw_and (pt_cmpR op_eq (pe_dget hu (pv 0) pe_str (fun _ _ => rfl)) pe_int (nomark _)) (pw_and1 (pt_cmpR (op_neD hr.units) (pe_dget hu (pv 0) pe_str (fun _ _ => rfl)) (pe_lst pa_nil) (nomark _)))))
        (pss_one (ps_dput hu (pv 0) pe_str (pe_bm PySem.F.plainAttrs_list PySem.F.slot_list_pop PySem.F.type_list_pop mt_popAt (pe_dget hu (pv 0) pe_str (fun _ _ => rfl)) (pa_cons pe_int pa_nil)) rfl)))
      (pss_cons (ps_if (pt_cmpR op_gt (pe_dget hu (pv 0) pe_str (fun _ _ => rfl)) pe_int (nomark _))
        (pss_cons (ps_set (i := 2) sc__law_draw.nd rfl (.inl rfl) (pe_op op_mod (pe_callTy call_int1 (by rfl) T.b_int PyProof.Rows.boot_int (pa_cons (pe_dget hu (pv 0) pe_str (fun _ _ => rfl)) pa_nil)) (pv 1)))
        (pss_cons (ps_dput hu (pv 0) pe_str (pe_op op_fdivW (pe_dget hu (pv 0) pe_str (fun _ _ => rfl)) (pv 1)) rfl)
        (pss_one (ps_ret (pv 2))))) pss_nil)
      (pss_cons (ps_set (i := 3) sc__law_draw.nd rfl (.inl rfl) (pe_op op_add (pe_dget hu (pv 0) pe_str (fun _ _ => rfl)) pe_int))
      (pss_cons (ps_dput hu (pv 0) pe_str (pv 3) rfl)
      (pss_cut (ps_set (i := 4) sc__law_draw.nd rfl (.inl rfl) (pe_ifExp (pt_cmpR (op_neD hr.units) (pe_dget hu (pv 0) pe_str (fun _ _ => rfl)) (pe_lst pa_nil) (nomark _))
        (pe_ix ix_list (pe_dget hu (pv 0) pe_str (fun _ _ => rfl)) (pe_op op_mod (pe_callTy call_int1 (by rfl) T.b_int PyProof.Rows.boot_int (pa_cons (pv 3) pa_nil)) (pe_callB call_len_seq (by rfl) T.b_len PySem.boot_len (pa_cons (pe_dget hu (pv 0) pe_str (fun _ _ => rfl)) pa_nil))) (fun _ _ => rfl))
        pe_int))
      (pss_cons (ps_set (i := 5) sc__law_draw.nd rfl (.inl rfl) (pe_op op_mod (pe_callTy call_int1 (by rfl) T.b_int PyProof.Rows.boot_int (pa_cons (pe_op op_pow (pe_op op_add (pe_op op_add (pe_op op_mod (pe_callTy call_int1 (by rfl) T.b_int PyProof.Rows.boot_int (pa_cons (pv 4) pa_nil)) pe_int) (pe_op op_mul pe_int (pv 3))) pe_int) pe_int) pa_nil)) pe_int))
      (pss_one (ps_ret (pe_op op_mod (pe_callTy call_int1 (by rfl) T.b_int PyProof.Rows.boot_int (pa_cons (pe_op op_fdiv (pe_op op_mod (pe_callTy call_int1 (by rfl) T.b_int PyProof.Rows.boot_int (pa_cons (pe_op op_pow (pe_op op_add (pv 5) (pe_op op_mul pe_int (pv 3))) pe_int) pa_nil)) pe_int) pe_int) pa_nil)) (pv 1))))))))), ?_⟩
    -- the while
    refine ⟨fun σ' H' => σ' = [some (.ref st), some (.int n), none, none, none, none] ∧ ∃ large' left', StD H' st lg cl large' cells left' turn ∧ Kp st lg H H', ?_, ?_⟩
    · refine ⟨fun μ σ' H' => σ' = [some (.ref st), some (.int n), none, none, none, none] ∧ ∃ large' left', large'.length = μ ∧ StD H' st lg cl large' cells left' turn ∧ Kp st lg H H',
        ⟨large.length, rfl, large, left, rfl, S, Kp.refl⟩, ?_⟩
      rintro μ σ' H1 ⟨rfl, large', left', hμ, S1, kp1⟩
      refine ⟨_, rfl, st, _, rfl, (show DGet H1 st (kV kLeft) _ from st_left ▸ DGet.k S1.d), rfl, _, rfl, ?_⟩
      by_cases c1 : left' = 0
      · subst c1
        refine iteT ⟨_, rfl, st, _, rfl, (show DGet H1 st (kV kLarge) _ from st_large ▸ DGet.k S1.d), by decide, fun p hp => ?_⟩
        have S2 := S1.same (Same.new (o := .lst []) hp)
        have kp2 := kp1.trans (Kp.same (Same.new (o := .lst []) hp))
        refine ⟨_, _, dp_int_list S2.l, dp_nil upd_same, shaped_is _, shaped_nil, _, rfl, ?_⟩
        rw [eqv_ints_nil]
        cases large' with
        | nil => exact iteF ⟨rfl, [], 0, S2, kp2⟩
        | cons x rest =>
          refine iteT ⟨fun σ' H' => σ' = [some (.ref st), some (.int n), none, none, none, none] ∧ ∃ large' left', large'.length = rest.length ∧ StD H' st lg cl large' cells left' turn ∧ Kp st lg H H',
            fun σ' H' ⟨e, l', lf, e2, r⟩ => ⟨rest.length, by rw [← hμ]; exact Nat.lt_succ_self _, e, l', lf, e2, r⟩, ?_⟩
          refine ⟨_, rfl, st, .ref lg, rfl, (show DGet _ st (kV kLarge) _ from st_large ▸ DGet.k S2.d), .inl ⟨rfl, _, SqL.of S2.l⟩, lg, _, 0, 0, .int x, rfl, rfl, S2.l, by decide, by decide, by simp [seqIndex?], rfl, ?_⟩
          have S3 : StD (upd (upd H1 p (.lst [])) lg (.lst (rest.map V.int))) st lg cl rest cells 0 turn :=
            { d := (upd_ne S2.st_lg).trans S2.d, l := upd_same, c := (upd_ne S2.ne.symm).trans S2.c, ne := S2.ne, pl := fun y hy => S2.pl y (List.mem_cons_of_mem _ hy), p0 := S2.p0 }
          have hx : 0 ≤ x := S2.pl x List.mem_cons_self
          refine ⟨_, rfl, st, _, rfl, (show DPut _ st (kV kLeft) _ _ from DPut.k S3.d (by show 4 < sizeLine; decide)), ?_⟩
          rw [st_put_left]
          exact ⟨rfl, rest, x, rfl, S3.put hx, (kp2.trans Kp.put2).trans Kp.put⟩
      · rw [show decide (V.int left' = V.int 0) = false from decide_eq_false fun z => c1 (V.int.inj z)]
        exact iteF ⟨rfl, large', left', S1, kp1⟩
    · rintro σ' H1 ⟨rfl, large', left', S1, kp1⟩
      refine ⟨_, rfl, st, _, rfl, (show DGet H1 st (kV kLeft) _ from st_left ▸ DGet.k S1.d), _, _, rfl, rfl, _, rfl, ?_⟩
      by_cases c1 : 0 < left'
      · rw [show decide ((0 : Int) < left') = true from decide_eq_true c1]
        refine iteT ⟨_, rfl, st, _, rfl, (show DGet H1 st (kV kLeft) _ from st_left ▸ DGet.k S1.d), .inl ⟨_, rfl, _, rfl, _, _, rfl, rfl, (by show (0 : Int) < (n : Int); omega), ?_⟩⟩
        refine ⟨_, rfl, st, _, rfl, (show DGet H1 st (kV kLeft) _ from st_left ▸ DGet.k S1.d), _, rfl, _, _, rfl, rfl, draw_div hn hn2, _, rfl, st, _, rfl, (show DPut _ st (kV kLeft) _ _ from DPut.k S1.d (by show 4 < sizeLine; decide)), ?_⟩
        rw [st_put_left]
        have hr0 := Int.emod_nonneg left' (show (n : Int) ≠ 0 by omega)
        have hr1 := Int.emod_lt_of_pos left' (show (0 : Int) < n by omega)
        have S3 := S1.put (t := turn) (l := left' / (n : Int)) (Int.ediv_nonneg (by omega) (by omega))
        exact ⟨_, rfl, q_int (k (left' % (n : Int)).toNat _ (by omega) ⟨_, _, _, _, S3, by omega⟩ (kp1.trans Kp.put)) (by omega)⟩
      · rw [show decide ((0 : Int) < left') = false from decide_eq_false c1]
        refine iteF ⟨_, rfl, st, _, rfl, (show DGet H1 st (kV kTurn) _ from st_turn ▸ DGet.k S1.d), _, _, rfl, rfl, _, rfl, _, rfl, st, _, rfl, (show DPut _ st (kV kTurn) _ _ from DPut.k S1.d (by show 4 < sizeLine; decide)), ?_⟩
        rw [st_put_turn]
        have S2 : StD (upd H1 st (.dK (stKv lg cl left' ((turn + 1 : Nat) : Int)))) st lg cl large' cells left' (turn + 1) := S1.put S1.p0
        have kp2 : Kp st lg H (upd H1 st (.dK (stKv lg cl left' ((turn + 1 : Nat) : Int)))) := kp1.trans Kp.put
        have e1 : ((turn : Int) + 1) = ((turn + 1 : Nat) : Int) := by omega
        rw [e1]
        generalize upd H1 st (.dK (stKv lg cl left' ((turn + 1 : Nat) : Int))) = H2 at S2 kp2 ⊢
        refine ⟨fun σ' H' => ∃ c : Int, σ' = [some (.ref st), some (.int n), none, some (.int ((turn + 1 : Nat) : Int)), some (.int c), none] ∧ StD H' st lg cl large' cells left' (turn + 1) ∧ Kp st lg H H', ?_, ?_⟩
        · refine ⟨_, rfl, st, .ref cl, rfl, (show DGet H2 st (kV kCells) _ from st_cells ▸ DGet.k S2.d), by decide, fun p hp => ?_⟩
          have S3 := S2.same (Same.new (o := .lst []) hp)
          have kp3 := kp2.trans (Kp.same (Same.new (o := .lst []) hp))
          refine ⟨_, _, dp_int_list S3.c, dp_nil upd_same, shaped_is _, shaped_nil, _, rfl, ?_⟩
          rw [eqv_ints_nil]
          generalize upd H2 p (.lst []) = H3 at S3 kp3 ⊢
          cases cells with
          | nil => exact iteF ⟨0, rfl, S3, kp3⟩
          | cons y ys =>
            refine iteT ⟨_, rfl, st, .ref cl, rfl, (show DGet H3 st (kV kCells) _ from st_cells ▸ DGet.k S3.d), _, rfl, .inl ⟨_, rfl, _, rfl, st, .ref cl, rfl, (show DGet H3 st (kV kCells) _ from st_cells ▸ DGet.k S3.d), cl, _, rfl, .inl (SqL.of S3.c), _, _, rfl, rfl, ?_, ?_⟩⟩
            · show (0 : Int) < ((((y :: ys).map V.int).length : Nat) : Int)
              simp
            · have hlen : ((y :: ys).map V.int).length = (y :: ys).length := List.length_map _
              have hz : (turn + 1) % (y :: ys).length < (y :: ys).length := Nat.mod_lt _ (by simp)
              obtain ⟨c, hc⟩ : ∃ c, (y :: ys)[(turn + 1) % (y :: ys).length]? = some c := ⟨_, List.getElem?_eq_getElem hz⟩
              refine ⟨cl, _, _, .int c, rfl, rfl, SqL.of S3.c, ?_, c, rfl, S3, kp3⟩
              rw [hlen, show (((turn : Int) + 1) % (((y :: ys).length : Nat) : Int)) = (((turn + 1) % (y :: ys).length : Nat) : Int) from rfl]
              exact atI_nat (by rw [List.getElem?_map, hc]; rfl)
        · rintro σ' H3 ⟨c, rfl, S3, kp3⟩
          have h1 := Int.emod_nonneg c (show (2147483563 : Int) ≠ 0 by decide)
          have h2 := Int.emod_lt_of_pos c (show (0 : Int) < 2147483563 by decide)
          refine ⟨_, rfl, .inl ⟨_, rfl, _, _, rfl, rfl, (by show (0 : Int) < 2147483563; decide), _, rfl, _, _, rfl, rfl, .inl ⟨by decide, by decide⟩, _, _, rfl, rfl, _, _, rfl, rfl, _, _, rfl, rfl, ⟨by decide, by decide, ?_⟩, .inl ⟨_, rfl, _, _, rfl, rfl, (by show (0 : Int) < 2147483629; decide), ?_⟩⟩⟩
          · generalize c % 2147483563 = c' at h1 h2 ⊢
            omega
          generalize (c % 2147483563 + 40692 * ((turn + 1 : Nat) : Int) + 24681) ^ (3 : Int).toNat = z
          have h3 := Int.emod_nonneg z (show (2147483629 : Int) ≠ 0 by decide)
          have h4 := Int.emod_lt_of_pos z (show (0 : Int) < 2147483629 by decide)
          dsimp only
          generalize z % 2147483629 = y at h3 h4 ⊢
          refine ⟨_, rfl, _, rfl, _, _, rfl, rfl, .inl ⟨by decide, by decide⟩, _, _, rfl, rfl, _, _, rfl, rfl, ⟨by decide, by decide, by omega⟩, .inl ⟨_, rfl, _, _, rfl, rfl, (by show (0 : Int) < 2147483579; decide), _, _, rfl, rfl, ⟨by decide, by decide⟩, .inl ⟨_, rfl, _, rfl, _, _, rfl, rfl, (by show (0 : Int) < (n : Int); omega), ?_⟩⟩⟩
          generalize (y + 104917 * ((turn + 1 : Nat) : Int)) ^ (5 : Int).toNat % 2147483579 / 29 = x
          have h5 := Int.emod_nonneg x (show (n : Int) ≠ 0 by omega)
          have h6 := Int.emod_lt_of_pos x (show (0 : Int) < n by omega)
          exact q_int (k (x % (n : Int)).toNat _ (by omega) ⟨_, _, _, _, S3, by omega⟩ kp3) (by omega)
end
end K16
namespace K16
open PySem PySem.Spec PyProof.Rows L2 PySem.W LamX KA
open Evl (pss_cut tCut)
def spPick : Sp := fun vs H Q _ => ∃ (st lg cl a : Addr) (xs : List V) (m : Nat), vs = [.ref st, .ref a] ∧ H a = some (.lst xs) ∧ a ≠ lg ∧ 0 < xs.length ∧ xs.length ≤ 1000 ∧ m ≤ 1000000 ∧ StAt H st lg cl m ∧
  ∀ (x : V) (H' : Hp), x ∈ xs → StAt H' st lg cl (m + 1) → Kp st lg H H' → Q x H'
section
variable {P : Program} {w : World} {K : PySem.W.Frag} {mg : Str → Option Value} {base : Heap} (T : Top K mg)
theorem ok_pick : FnOk P w K mg base (L2.CX P w) 2 T._law_pick.a T._law_pick.d ["state", "several"] spPick := by
  refine T._law_pick.f.okX sc__law_pick (fun vs H Q E h => ?_) (fun cdv A outer s H vs Q E hr h => ?_)
  · obtain ⟨st, lg, cl, a, xs, m, rfl, _⟩ := h
    rfl
  · obtain ⟨st, lg, cl, a, xs, m, rfl, ha, hal, h0, h1, hm, S, k⟩ := h
    have has : a ≠ st := by
      obtain ⟨_, _, _, _, S', _⟩ := S
      exact ne_of ha S'.d (by intro z; cases z)
    refine ⟨_, pss_one (ps_ret (pe_ix ix_list (pv 1) (pe_call (ok_draw T) hr (by rfl) T._law_draw.m T._law_draw.f.kp (bd__law_draw T) .nil passE (pa_cons (pv 0) (pa_cons (pe_callB call_len_seq (by rfl) T.b_len PySem.boot_len (pa_cons (pv 1) pa_nil)) pa_nil))) (fun _ _ => rfl))), ?_⟩
    refine ⟨_, rfl, _, rfl, _, rfl, a, xs, rfl, .inl (SqL.of ha), st, lg, cl, xs.length, m, rfl, h0, ?_, hm, S, fun r H' hr' S' kp => ?_⟩
    · exact Nat.lt_of_le_of_lt h1 (by decide)
    · obtain ⟨x, hx⟩ : ∃ x, xs[r]? = some x := ⟨_, List.getElem?_eq_getElem hr'⟩
      exact ⟨a, xs, _, x, rfl, rfl, SqL.of (kp a _ ha has hal), atI_nat hx, k x H' (List.mem_of_getElem? hx) S' kp⟩
def spBegun (K : PySem.W.Frag) : Sp := fun vs H Q _ => ∃ (a : Addr) (ns : List Int), vs = [.ref a] ∧ SqL K H a (ns.map V.int) ∧ ns.length ≤ 63 ∧
  ∀ (st lg cl : Addr) (H' : Hp), StAt H' st lg cl 0 → Same H H' → H st = none → H lg = none → Q (.ref st) H'
theorem ok_begun : FnOk P w K mg base (L2.CX P w) 1 T._law_begun.a T._law_begun.d ["script"] (spBegun K) := by
  refine T._law_begun.f.okX sc__law_begun (fun vs H Q E h => ?_) (fun cdv A outer s H vs Q E hr h => ?_)
  · obtain ⟨a, ns, rfl, _⟩ := h
    rfl
  · obtain ⟨a, ns, rfl, hS, hl, k⟩ := h
    refine ⟨_, pss_cons (ps_setLc (i := 1) (own := [("cell", 3)]) (g := gName 3) (tt := tYes) rfl sc__law_begun.nd rfl rfl (sw_true rfl rfl rfl (by decide +kernel)) (pi_list (pv 0)) (blkOk_by (own := [("cell", 3)]) (N := ["script", "cells_here", "large", "cell"]) (sc := defScope s__law_begun) (by decide +kernel))
        (fun _ _ _ _ _ => pg_name (i := 3) sc__law_begun.nd rfl (Or.inl rfl)) (fun _ _ _ _ _ => pts_nil) (fun _ _ _ _ _ => pe_callB call_abs (by rfl) T.b_abs (by decide +kernel) (pa_cons (pv 3) pa_nil)))
      (pss_cons (ps_setLc (i := 2) (own := [("cell", 3)]) (g := gName 3) rfl sc__law_begun.nd rfl rfl (sw_true rfl rfl rfl (by decide +kernel)) (pi_list (pv 1)) (blkOk_by (own := [("cell", 3)]) (N := ["script", "cells_here", "large", "cell"]) (sc := defScope s__law_begun) (by decide +kernel))
        (fun _ _ _ _ _ => pg_name (i := 3) sc__law_begun.nd rfl (Or.inl rfl)) (fun _ _ _ _ _ => pts_one (pt_cmpR op_ge (pv 3) (pe_op op_pow pe_int pe_int) (nomark _))) (fun _ _ _ _ _ => pe_op op_sub (pv 3) (pe_op op_pow pe_int pe_int)))
      (pss_one (ps_ret (pe_disp (pps_cons pe_str (pv 2) (pps_cons pe_str (pv 1) (pps_cons pe_str pe_int (pps_cons pe_str pe_int pps_nil)))) (by rfl) (by rfl) (fun z => by cases z) (by decide))))), ?_⟩
    refine ⟨_, rfl, a, rfl, ⟨_, hS⟩, fun cl hcl => lc_list (K := K) (a := a) (xs := ns.map V.int) (fun i H' => H' cl = some (.lst ((ns.take i).map fun n => V.int (if n < 0 then -n else n))) ∧ Same H H') ⟨upd_same, Same.new hcl⟩ (fun i H' _ h => h.2.seq hS) ?_ ?_⟩
    · rintro i x H' hx ⟨h1, h2⟩
      obtain ⟨n, hn, rfl⟩ : ∃ n, ns[i]? = some n ∧ x = V.int n := by
        rw [List.getElem?_map] at hx
        cases e : ns[i]? with
        | none => rw [e] at hx; cases hx
        | some n => rw [e] at hx; exact ⟨n, rfl, (Option.some.inj hx).symm⟩
      refine ⟨rfl, ?_⟩
      dsimp only [tYes]
      rw [if_pos rfl]
      refine ⟨_, rfl, n, rfl, _, h1, ?_, ?_, ?_⟩
      · rw [List.length_map, List.length_take]
        exact Nat.lt_of_le_of_lt (Nat.min_le_right _ _) (Nat.lt_of_le_of_lt hl (by decide))
      · rw [upd_same, take_map_snoc _ _ _ _ hn]
      · intro b o e
        rw [upd_ne (ne_of_none e hcl)]
        exact h2 b o e
    rintro H1 ⟨h1, h2⟩
    rw [List.length_map, List.take_length] at h1
    have h1 : H1 cl = some (.lst ((ns.map fun n => if n < 0 then -n else n).map V.int)) := by rw [h1, List.map_map]; rfl
    have hlc : (ns.map fun n => if n < 0 then -n else n).length ≤ 63 := by rw [List.length_map]; exact hl
    generalize (ns.map fun n => if n < 0 then -n else n) = cells at h1 hlc
    refine ⟨_, rfl, cl, rfl, ⟨_, SqL.of h1⟩, fun lg hlg => lc_list (K := K) (a := cl) (xs := cells.map V.int) (fun i H' => H' lg = some (.lst ((((cells.take i).filter fun c => decide ((1000000000000000000 : Int) ≤ c)).map fun c => c - 1000000000000000000).map V.int)) ∧ Same H1 H') ⟨upd_same, Same.new hlg⟩ (fun i H' _ h => h.2.seq (SqL.of h1)) ?_ ?_⟩
    · rintro i x H' hx ⟨h3, h4⟩
      obtain ⟨n, hn, rfl⟩ : ∃ n, cells[i]? = some n ∧ x = V.int n := by
        rw [List.getElem?_map] at hx
        cases e : cells[i]? with
        | none => rw [e] at hx; cases hx
        | some n => rw [e] at hx; exact ⟨n, rfl, (Option.some.inj hx).symm⟩
      have et : cells.take (i + 1) = cells.take i ++ [n] := by rw [List.take_add_one, hn]; rfl
      refine ⟨rfl, _, rfl, _, _, rfl, rfl, ⟨by decide, by decide, by decide⟩, _, _, rfl, rfl, _, rfl, ?_⟩
      rw [show ((10 : Int) ^ (18 : Int).toNat) = 1000000000000000000 by decide, et, List.filter_append]
      by_cases c : (1000000000000000000 : Int) ≤ n
      · rw [show decide ((1000000000000000000 : Int) ≤ n) = true from decide_eq_true c]
        dsimp only
        rw [if_pos rfl]
        refine ⟨_, rfl, _, _, rfl, rfl, ⟨by decide, by decide, by decide⟩, _, _, rfl, rfl, _, h3, ?_, ?_, ?_⟩
        · rw [List.length_map, List.length_map]
          refine Nat.lt_of_le_of_lt (Nat.le_trans (List.length_filter_le _ _) ?_) (show 63 < sizeLine by decide)
          rw [List.length_take]
          omega
        · rw [upd_same]
          simp [c]
        · intro b o e
          rw [upd_ne (ne_of_none e hlg)]
          exact h4 b o e
      · rw [show decide ((1000000000000000000 : Int) ≤ n) = false from decide_eq_false c]
        dsimp only
        rw [if_neg Bool.false_ne_true]
        refine ⟨?_, h4⟩
        simpa [c] using h3
    rintro H2 ⟨h3, h4⟩
    intro st hst
    refine ⟨_, rfl, _, rfl, upd_same, stKv lg cl 0 0, rfl, (by show 4 ≤ 15; decide), ?_⟩
    rw [st_merge]
    have hne : cl ≠ lg := ne_of_none h1 hlg
    have h5 := h4 cl _ h1
    rw [List.length_map, List.take_length] at h3
    have hp : ∀ x ∈ (cells.filter fun c => decide ((1000000000000000000 : Int) ≤ c)).map (fun c => c - 1000000000000000000), 0 ≤ x := by
      intro x hx
      obtain ⟨c, hc, rfl⟩ := List.mem_map.mp hx
      have := (List.mem_filter.mp hc).2
      simp at this
      omega
    generalize (cells.filter fun c => decide ((1000000000000000000 : Int) ≤ c)).map (fun c => c - 1000000000000000000) = large at h3 hp
    have n1 : lg ≠ st := ne_of_none h3 hst
    have n2 : cl ≠ st := ne_of_none h5 hst
    have same : Same H (upd (upd H2 st (.dK [])) st (.dK (stKv lg cl 0 0))) := fun b o e => by
      have e2 := h4 b o (h2 b o e)
      rw [upd_upd, upd_ne (ne_of_none e2 hst)]
      exact e2
    refine k st lg cl _ ⟨large, cells, 0, 0, ⟨upd_same, ?_, ?_, hne.symm, hp, Int.le_refl _⟩, Nat.le_refl _⟩ same ((h2.trans h4).free hst) (h2.free hlg)
    · rw [upd_upd, upd_ne n1]
      exact h3
    · rw [upd_upd, upd_ne n2]
      exact h5
end
end K16
namespace KT
open PySem PySem.Spec PyProof.Rows L2 PySem.W LamX KA KW
/-! ### min(t), max(t) of a tuple of ints; t[::-1]; t * n, n from 1 on -/
theorem alike_ints (ns : List Int) : AlikeAll (ns.map PyData.int) := by
  refine ⟨fun x hx y hy => ?_, fun x hx => ?_⟩
  · obtain ⟨i, _, rfl⟩ := List.mem_map.mp hx
    obtain ⟨j, _, rfl⟩ := List.mem_map.mp hy
    simp [alike]
  · obtain ⟨i, _, rfl⟩ := List.mem_map.mp hx
    exact fun z => by cases z
theorem dp_ints {K : PySem.W.Frag} {H : Hp} : ∀ ns : List Int, DpAll K H (ns.map V.int) (ns.map PyData.int)
  | [] => .nil
  | i :: ns => .cons (.int i) (dp_ints ns)
theorem depth_ints : ∀ ns : List Int, PyData.depthAll (ns.map PyData.int) ≤ 1
  | [] => by simp [PyData.depthAll]
  | i :: ns => by
    have := depth_ints ns
    simp only [List.map_cons, PyData.depthAll, PyData.depth]
    omega
theorem reads_int {h : Heap} {v : Value} {i : Int} {as : List Addr} (r : Reads h v (.int i) as) : ∃ t, v = .int i t := by
  cases r
  exact ⟨_, rfl⟩
theorem foldl_min_mem (n : Int) : ∀ ns : List Int, ns.foldl min n ∈ n :: ns := by
  intro ns
  induction ns generalizing n with
  | nil => simp
  | cons k r ih =>
    rw [List.foldl_cons]
    rcases List.mem_cons.mp (ih (min n k)) with e | e
    · rw [e]
      rcases Int.le_total n k with h | h
      · rw [Int.min_eq_left h]; exact List.mem_cons_self
      · rw [Int.min_eq_right h]; exact List.mem_cons_of_mem _ List.mem_cons_self
    · exact List.mem_cons_of_mem _ (List.mem_cons_of_mem _ e)
theorem foldl_min_le (n : Int) : ∀ (ns : List Int) (y : Int), y ∈ n :: ns → ns.foldl min n ≤ y := by
  intro ns
  induction ns generalizing n with
  | nil => intro y hy; simp at hy; subst hy; exact Int.le_refl _
  | cons k r ih =>
    intro y hy
    rw [List.foldl_cons]
    have h0 := ih (min n k) (min n k) List.mem_cons_self
    rcases List.mem_cons.mp hy with e | e
    · subst e; omega
    · rcases List.mem_cons.mp e with e | e
      · subst e; omega
      · exact ih (min n k) y (List.mem_cons_of_mem _ e)
theorem foldl_max_mem (n : Int) : ∀ ns : List Int, ns.foldl max n ∈ n :: ns := by
  intro ns
  induction ns generalizing n with
  | nil => simp
  | cons k r ih =>
    rw [List.foldl_cons]
    rcases List.mem_cons.mp (ih (max n k)) with e | e
    · rw [e]
      rcases Int.le_total n k with h | h
      · rw [Int.max_eq_right h]; exact List.mem_cons_of_mem _ List.mem_cons_self
      · rw [Int.max_eq_left h]; exact List.mem_cons_self
    · exact List.mem_cons_of_mem _ (List.mem_cons_of_mem _ e)
theorem foldl_max_ge (n : Int) : ∀ (ns : List Int) (y : Int), y ∈ n :: ns → y ≤ ns.foldl max n := by
  intro ns
  induction ns generalizing n with
  | nil => intro y hy; simp at hy; subst hy; exact Int.le_refl _
  | cons k r ih =>
    intro y hy
    rw [List.foldl_cons]
    have h0 := ih (max n k) (max n k) List.mem_cons_self
    rcases List.mem_cons.mp hy with e | e
    · subst e; omega
    · rcases List.mem_cons.mp e with e | e
      · subst e; omega
      · exact ih (max n k) y (List.mem_cons_of_mem _ e)
def rMinT (K : PySem.W.Frag) : List V → Hp → VK → Prop := fun vs H Q => ∃ (a : Addr) (ns : List Int), vs = [V.ref a] ∧ SqT K H a (ns.map V.int) ∧ 0 < ns.length ∧ ∀ m, m ∈ ns → (∀ y, y ∈ ns → m ≤ y) → Q (.int m) H
def rMaxT (K : PySem.W.Frag) : List V → Hp → VK → Prop := fun vs H Q => ∃ (a : Addr) (ns : List Int), vs = [V.ref a] ∧ SqT K H a (ns.map V.int) ∧ 0 < ns.length ∧ ∀ m, m ∈ ns → (∀ y, y ∈ ns → y ≤ m) → Q (.int m) H
section
variable {X : Cx}
theorem cr_minT (hc : X.calm = true) (hu : X.A.units + 2 < cLine) : CallR X (.builtin "min") (rMinT X.K) := by
  intro pins s σ H vs us Q I r h
  obtain ⟨a, ns, rfl, hs, hne, q⟩ := h
  obtain ⟨its, rv, hl, _⟩ := I.tuple hs
  rw [Vals.ref1 r]
  cases ns with
  | nil => cases hne
  | cons n ns =>
    obtain ⟨as, hr⟩ := Dp.readsAll I _ _ its (dp_ints (n :: ns)) rv
    refine min_tuple_data (x := .int n) (xs := ns.map .int) (I.ok.hd hc) hl hr (alike_ints (n :: ns)) ?_ fun i v h' tk bs _ rd hk => ?_
    · have := depth_ints (n :: ns)
      rw [List.map_cons] at this
      omega
    · rw [minD_ints] at rd
      obtain ⟨t, rfl⟩ := reads_int rd
      exact ⟨.int _, H, I.kept hk, ⟨_, rfl⟩, q _ (foldl_min_mem n ns) (foldl_min_le n ns)⟩
theorem cr_maxT (hc : X.calm = true) (hu : X.A.units + 2 < cLine) : CallR X (.builtin "max") (rMaxT X.K) := by
  intro pins s σ H vs us Q I r h
  obtain ⟨a, ns, rfl, hs, hne, q⟩ := h
  obtain ⟨its, rv, hl, _⟩ := I.tuple hs
  rw [Vals.ref1 r]
  cases ns with
  | nil => cases hne
  | cons n ns =>
    obtain ⟨as, hr⟩ := Dp.readsAll I _ _ its (dp_ints (n :: ns)) rv
    refine max_tuple_data (x := .int n) (xs := ns.map .int) (I.ok.hd hc) hl hr (alike_ints (n :: ns)) ?_ fun i v h' tk bs _ rd hk => ?_
    · have := depth_ints (n :: ns)
      rw [List.map_cons] at this
      omega
    · rw [maxD_ints] at rd
      obtain ⟨t, rfl⟩ := reads_int rd
      exact ⟨.int _, H, I.kept hk, ⟨_, rfl⟩, q _ (foldl_max_mem n ns) (foldl_max_ge n ns)⟩
/-- one call name, either a list or a tuple -/
def rOrC (r r' : List V → Hp → VK → Prop) : List V → Hp → VK → Prop := fun vs H Q => r vs H Q ∨ r' vs H Q
theorem cr_or {f : Value} {r r' : List V → Hp → VK → Prop} (h : CallR X f r) (h' : CallR X f r') : CallR X f (rOrC r r') := fun pins s σ H vs us Q I rv q => q.elim (h pins s σ H vs us Q I rv) (h' pins s σ H vs us Q I rv)
end
section
variable {prog : Program} {w : World} {A : Around} {E : Value → Shared → Prop} {s : Shared}
theorem adjust_rev (n : Nat) : Builtin.Slice.sliceAdjust none none (-1) (n : Int) = ((n : Int) - 1, -1) := rfl
theorem places_rev (n : Nat) : Builtin.Slice.slicePlaces ((n : Int) - 1) (-1) (-1) = n := by
  unfold Builtin.Slice.slicePlaces
  have h1 : ¬ ((-1 : Int) > 0) := by omega
  have h2 : (- -1 : Int) = 1 := by decide
  simp only [h1, if_false, h2, Int.ediv_one]
  split <;> omega
theorem sliceApplied_rev {sl : Addr} {vl vu vs : Value} {n : Nat} {Q : Int × Int × Nat → Shared → Prop} (hs : s.heap.IsSliceOf sl vl vu vs) (pl : IsPart vl none) (pu : IsPart vu none) (ps : IsPart vs (some (-1)))
    (h : Q ((n : Int) - 1, -1, n) s) : wpAny (model prog w) A (Builtin.Slice.sliceApplied (.ref sl) (pure (n : Int))) Q E s := by
  obtain ⟨os, hos, hcs, hds⟩ := id hs
  unfold Builtin.Slice.sliceApplied Builtin.Slice.sliceFields
  refine wpAny_bind (wpAny_bind (wpAny_field hos hds (x := vl) rfl (wpAny_bind (wpAny_field hos hds (x := vu) rfl (wpAny_bind (wpAny_field hos hds (x := vs) rfl (wpAny_pure ?_)))))))
  refine wpAny_bind (HT.slicePart_ ps ?_)
  show wpAny _ _ (if ((-1 : Int) == 0) = true then _ else _) _ _ s
  rw [if_neg (by decide)]
  refine wpAny_bind (HT.slicePart_ pl (wpAny_bind (HT.slicePart_ pu (wpAny_bind (wpAny_pure ?_)))))
  show wpAny _ _ (match Builtin.Slice.sliceAdjust none none (-1) (n : Int) with | (lo, hi) => pure (lo, (-1 : Int), Builtin.Slice.slicePlaces lo hi (-1))) _ _ s
  rw [adjust_rev n]
  show wpAny _ _ (pure ((n : Int) - 1, (-1 : Int), Builtin.Slice.slicePlaces ((n : Int) - 1) (-1) (-1))) _ _ s
  rw [places_rev]
  exact wpAny_pure h
theorem fm_congr {α β : Type} {f g : α → Option β} : ∀ {l : List α}, (∀ x, x ∈ l → f x = g x) → l.filterMap f = l.filterMap g
  | [], _ => rfl
  | x :: l, h => by
    have ih := fm_congr (l := l) fun y hy => h y (List.mem_cons_of_mem _ hy)
    rw [List.filterMap_cons, List.filterMap_cons, h x List.mem_cons_self, ih]
theorem pick_rev (xs : Array Value) : ((List.range xs.size).filterMap fun (m : Nat) => xs[(((xs.size : Int) - 1) + (m : Int) * (-1)).toNat]?).toArray = xs.toList.reverse.toArray := by
  have h := krv_pick xs
  unfold slicePick at h
  rw [krv_bounds] at h
  rw [← h]
  show _ = ((sliceRange ((xs.size : Int) - 1) (-1) (-1)).filterMap (xs[·]?)).toArray
  rw [krv_sliceRange, List.filterMap_map]
  congr 1
  apply fm_congr
  intro m hm
  have := List.mem_range.mp hm
  have e : (((xs.size : Int) - 1) + (m : Int) * (-1)).toNat = xs.size - 1 - m := by omega
  show xs[(((xs.size : Int) - 1) + (m : Int) * (-1)).toNat]? = xs[xs.size - 1 - m]?
  rw [e]
theorem getItem_tuple_rev {t sl : Addr} {items : Array Value} {vl vu vs : Value} {Q : Value → Shared → Prop} (ht : IsTup s.heap t items) (hs : s.heap.IsSliceOf sl vl vu vs) (pl : IsPart vl none) (pu : IsPart vu none) (ps : IsPart vs (some (-1)))
    (h : Q (.ref s.heap.objs.size) { s with heap := s.heap.push { cls := .type "tuple", data := .seq items.toList.reverse.toArray } })
    (hsz : items.size ≤ sizeLine) : wpAny (model prog w) A (getItem (.ref t) (.ref sl)) Q E s := by
  have htake : sizeOk (.seq items.toList.reverse.toArray) := by
    show items.toList.reverse.toArray.size ≤ sizeLine
    rw [List.size_toArray, List.length_reverse, Array.length_toList]
    exact hsz
  obtain ⟨os, hos, hcs, hds⟩ := id hs
  have hTs : s.TypeIs (.ref sl) "slice" := ⟨os, hos, hcs⟩
  unfold getItem
  try with_reducible refine wpAny_holding ?_
  first | refine wpAny_bind (wpAny_pure ?_) | skip
  refine wpAny_bind (wpAny_sequenceKey ht.typeIs (by decide) ?_)
  refine wpAny_bind (wpAny_callSpecial?_slot (name := Str.ofString "__getitem__") ht.typeIs PyProof.Rows.slot_tuple_getitem
    (wpAny_call_entry PyProof.Rows.slot_tuple_getitem ht.typeIs entry_tuple_getitem ?_ (args_tuple_getitem _ _)))
  show wpAny _ _ (Builtin.Tuple.tupleItemsOf (.ref t) >>= _) _ _ s
  refine wpAny_bind (tupleItemsOf_ ht ?_)
  refine wpAny_bind (wpAny_typeOf hTs ?_)
  rw [if_pos (by decide)]
  refine wpAny_bind (sliceApplied_rev hs pl pu ps ?_)
  have hno : ¬ ((((items.size : Int) - 1) == 0 && (-1 : Int) == 1 && items.size == items.size) = true) := by
    intro q
    rw [Bool.and_eq_true, Bool.and_eq_true] at q
    exact absurd q.1.2 (by decide)
  show wpAny _ _ (if (((items.size : Int) - 1) == 0 && (-1 : Int) == 1 && items.size == items.size) = true then _ else _) _ _ s
  rw [if_neg hno, pick_rev]
  first
    | exact wpAny_bind (m := Builtin.Tuple.tupleExact _) (wpAny_newObj_type (wpAny_pure ⟨_, rfl, wpAny_pure h⟩) htake)
    | exact wpAny_bind (m := Builtin.Tuple.tupleExact _) (wpAny_newObj_type (wpAny_bind (wpAny_pure (wpAny_pure ⟨_, rfl, wpAny_pure h⟩))) htake)
    | exact wpAny_bind (wpAny_bind (m := Builtin.Tuple.tupleExact _) (wpAny_newObj_type (wpAny_pure (wpAny_pure ⟨_, rfl, wpAny_pure h⟩)) htake))
    | exact wpAny_bind (wpAny_bind (m := Builtin.Tuple.tupleExact _) (wpAny_newObj_type (wpAny_pure ⟨_, rfl, wpAny_pure h⟩) htake))
end
section
variable {X : Cx}
def tRevT (K : PySem.W.Frag) (te : TE) : TE := fun σ H Q => te σ H fun x H1 => ∃ a xs, x = .ref a ∧ SqT K H1 a xs ∧ ∀ p, H1 p = none → Q (.ref p) (upd H1 p (.tup xs.reverse))
theorem pe_revT {e : Expr} {te : TE} {k : Nat} {p1 p2 p3 pos : Pos} (he : PE X e te) : PE X (.Subscript e (.Slice none none (some (.UnaryOp .USub (.Constant (.int 1) k p1) p2)) p3) pos) (tRevT X.K te) := by
  refine ⟨fun pins s σ H Q I h => ?_⟩
  refine Subscript_ (thn (he.run pins s σ H _ I h) fun v s1 ⟨x, H1, I1, r1, q1⟩ => ?_)
  obtain ⟨a, xs, ex, hx, q⟩ := q1
  subst ex
  cases r1
  have hst : PO X (some (.UnaryOp .USub (.Constant (.int 1) k p1) p2)) (tPart (tUn (rU fun i => .int (-i)) (tC (.int 1)))) := po_some (pe_un un_neg pe_int)
  refine wpAny_Slice (thn (po_none.run pins s1 σ H1 (fun o H2 => o = none ∧ H2 = H1) I1 ⟨rfl, rfl⟩) fun vl s2 ⟨l, H2, I2, pl, el, e2⟩ => ?_)
  subst el e2
  refine thn (po_none.run pins s2 σ H2 (fun o H3 => o = none ∧ H3 = H2) I2 ⟨rfl, rfl⟩) fun vu s3 ⟨u, H3, I3, pu, eu, e3⟩ => ?_
  subst eu e3
  refine thn (hst.run pins s3 σ H3 (fun o H4 => o = some (-1) ∧ H4 = H3) I3 ⟨1, rfl, -1, rfl, rfl, rfl⟩) fun vs s4 ⟨o, H4, I4, ps, eo, e4⟩ => ?_
  subst eo e4
  have I5 : Inv X pins σ H4 { s4 with heap := s4.heap.push { cls := .type "slice", data := .fields #[vl, vu, vs] } } := I4.kept (t' := s4.toks) fun b ob q => Heap.get?_push_of_some _ q
  obtain ⟨its, r, ht, hz⟩ := I5.tuple hx
  have hlen := r.length
  show wpAny (model X.prog X.w) X.A (subscriptTail e (.Slice none none (some (.UnaryOp .USub (.Constant (.int 1) k p1) p2)) p3) (.ref a) (.ref s4.heap.objs.size)) (EP X pins σ Q) X.xe { s4 with heap := s4.heap.push { cls := .type "slice", data := .fields #[vl, vu, vs] } }
  refine tail_any (ops := [.ref a, .ref s4.heap.objs.size]) ht.typeIs (PyProof.Rows.slot_tuple_getitem.lookup) ?_ (by with_unfolding_all rfl)
  refine getItem_tuple_rev ht (Heap.IsSliceOf.new _ vl vu vs) pl pu ps ?_ (by rw [List.size_toArray]; omega)
  refine ⟨.ref _, _, I5.laid (t' := s4.toks) (o := .tup xs.reverse) (fun b ob q => Heap.get?_push_of_some _ q) (Nat.le_refl _) ?_, rfl, q _ (I5.hok.fresh (Nat.le_refl _))⟩
  exact ⟨by rw [List.length_reverse]; exact hz, _, r.reverse, IsTup.new _ _⟩
end
section
theorem tuple_mul_one (l : Addr) (items : Array Value) (n : Nat) (dd : Option Addr) (sl : Array (Option Value)) (u : Tok) :
    Meets (Builtin.«tuple.__mul__» ⟨[.ref l, .int 1 u], []⟩) (fun _ R s => s.heap.get? l = some { cls := .type "tuple", dict := dd, data := .seq items n, slots := sl } ∧ R (.ok (.ret (Value.ref l))) s) :=
  .of_wp fun prog w A R s h => by
    obtain ⟨hp, g, d, tk, os⟩ := s
    obtain ⟨hl, h⟩ := h
    have f1 := AutoSeq1.idx_int
    have c0 : (decide ((1 : Int) < -(2 ^ 63)) || decide ((1 : Int) ≥ 2 ^ 63)) = false := by decide
    have c1 : (items.isEmpty || (1 : Int) == 1) = true := by
      cases items.isEmpty <;> rfl
    wp_walk using wpAny_loadPart' hl
    repeat (first
      | (refine wpAny_ite_false (decide_eq_false (by rw [c0]; exact Bool.false_ne_true)) ?_; wp_walk using wpAny_loadPart' hl)
      | (refine wpAny_ite_true (decide_eq_true c1) ?_; wp_walk using wpAny_loadPart' hl))
    exact ⟨_, rfl, h⟩
/-- t * k, k from 1 on: of 1 it is t itself -/
def rRepA (K : PySem.W.Frag) : R2 := fun x y H Q => ∃ l k xs, x = .ref l ∧ y = .int k ∧ SqT K H l xs ∧ xs ≠ [] ∧ 1 ≤ k ∧ k ≤ 1000 ∧ xs.length ≤ 1000 ∧ (k = 1 → Q (.ref l) H) ∧ (2 ≤ k → ∀ p, H p = none → Q (.ref p) (upd H p (.tup (List.replicate k.toNat xs).flatten)))
variable {X : Cx}
theorem op_repA : OpR X (binaryOp .Mult) (rRepA X.K) := by
  intro pins s σ H x y v u Q I rx ry h
  obtain ⟨l, k, xs, rfl, rfl, hT, hne, h1, h2, hz, q1, q2⟩ := h
  by_cases hk : k = 1
  · subst hk
    cases rx
    obtain ⟨t, rfl⟩ := ry
    obtain ⟨its, r, ⟨⟨cls, dd, data, sl⟩, ho, hc, n, hd⟩, hs⟩ := I.tuple hT
    simp only at hc hd
    subst hc hd
    refine wpAny_binaryOp_repeat_ref (T := "tuple") (U := "int") (by decide) ⟨_, ho, rfl⟩ (fun s' => typeIs_int s' 1 t) noFill_tuple_mul F.fills_int_mul F.slot_int_rmul repeat_tuple F.slot_int_index.lookup
      (call_meets F.slot_int_rmul (typeIs_int s 1 t) F.entry_int_rmul (F.args_int_rmul_2 _ _) (int_rmul_tuple 1 t l its.toArray n dd sl)
        ⟨ho, rfl, ⟨_, ho, rfl⟩, call_meets F.slot_tuple_mul ⟨_, ho, rfl⟩ F.entry_tuple_mul (F.args_tuple_mul_2 _ _) (tuple_mul_one l its.toArray n dd sl t) ⟨ho, ?_⟩⟩)
    exact ⟨.ref l, H, I, rfl, q1 rfl⟩
  · exact op_repT pins s σ H _ _ v u Q I rx ry ⟨l, k, xs, rfl, rfl, hT, hne, by omega, h2, hz, q2 (by omega)⟩
end
end KT
namespace K16
open PySem PySem.Spec PyProof.Rows L2 PySem.W LamX KA KW KU KL KT
open Evl (pss_cut tCut)
/-! ### rows and planes of any values -/
def isNum : V → Bool
  | .int _ => true
  | _ => false
theorem Pl.num {K : PySem.W.Frag} {H : Hp} {x : V} {b : Bool} (h : Pl K H x b) : isNum x = b := by cases h <;> rfl
theorem Pl.keep {K : PySem.W.Frag} {H H' : Hp} {x : V} {b : Bool} (h : Pl K H x b) (s : Same H H') : Pl K H' x b := by
  cases h with
  | int i => exact .int i
  | bl i => exact .bl i
  | str i => exact .str i
  | non => exact .non
  | tup e => exact .tup (s _ _ e)
  | lst e => exact .lst (s _ _ e)
  | dK e => exact .dK (s _ _ e)
/-- no tuple -/
inductive Nt (H : Hp) : V → Prop where
  | int (i : Int) : Nt H (.int i)
  | bl (b : Bool) : Nt H (.bl b)
  | str (s : Str) : Nt H (.str s)
  | non : Nt H .non
  | lst {a : Addr} {xs : List V} (e : H a = some (.lst xs)) : Nt H (.ref a)
  | dK {a : Addr} {kvs : List (Key × V)} (e : H a = some (.dK kvs)) : Nt H (.ref a)
theorem Nt.ty {K : PySem.W.Frag} {H : Hp} {x : V} (h : Nt H x) : ∃ t : String, TyX K H x (.type t) ∧ kitB t "tuple" = some false := by
  cases h with
  | int i => exact ⟨"int", .base (.int i), by decide +kernel⟩
  | bl i => exact ⟨"bool", .base (.bl i), by decide +kernel⟩
  | str i => exact ⟨"str", .base (.str i), by decide +kernel⟩
  | non => exact ⟨"NoneType", .base .non, by decide +kernel⟩
  | lst e => exact ⟨"list", .base (.lst e), by decide +kernel⟩
  | dK e => exact ⟨"dict", .base (.dK e), by decide +kernel⟩
theorem Nt.keep {H H' : Hp} {x : V} (h : Nt H x) (s : Same H H') : Nt H' x := by
  cases h with
  | int i => exact .int i
  | bl i => exact .bl i
  | str i => exact .str i
  | non => exact .non
  | lst e => exact .lst (s _ _ e)
  | dK e => exact .dK (s _ _ e)
theorem take_map_snoc' (xs : List V) (f : V → Bool) (i : Nat) (x : V) (h : xs[i]? = some x) : ((xs.take (i + 1)).map f).map V.bl = ((xs.take i).map f).map V.bl ++ [V.bl (f x)] := by
  rw [List.take_add_one, h, List.map_append, List.map_append]
  rfl
/-- a value as a row: its items, if it is a tuple -/
inductive Rw (K : PySem.W.Frag) (H : Hp) : V → Option (List V) → Prop where
  | no {x : V} (h : Nt H x) : Rw K H x none
  | tup {a : Addr} {xs : List V} (e : H a = some (.tup xs)) (p : ∀ x ∈ xs, ∃ b, Pl K H x b) (l : xs.length ≤ 1000) : Rw K H (.ref a) (some xs)
theorem Rw.keep {K : PySem.W.Frag} {H H' : Hp} {x : V} {o : Option (List V)} (h : Rw K H x o) (s : Same H H') : Rw K H' x o := by
  cases h with
  | no h => exact .no (h.keep s)
  | tup e p l => exact .tup (s _ _ e) (fun x hx => (p x hx).imp fun b h => h.keep s) l
def rowB : Option (List V) → Bool
  | none => false
  | some xs => decide (1 ≤ xs.length) && decide (xs.length ≤ 16) && xs.all isNum
def spRow (K : PySem.W.Frag) : Sp := fun vs H Q _ => ∃ x o, vs = [x] ∧ Rw K H x o ∧ ∀ H', Same H H' → Q (.bl (rowB o)) H'
section
variable {P : Program} {w : World} {K : PySem.W.Frag} {mg : Str → Option Value} {base : Heap} (T : Top K mg)
theorem ok_is_row : FnOk P w K mg base (L2.CX P w) 2 T.is_row.a T.is_row.d ["thing"] (spRow K) := by
  refine T.is_row.f.okX sc_is_row (fun vs H Q E h => ?_) (fun cdv A outer s H vs Q E hr h => ?_)
  · obtain ⟨x, o, rfl, _⟩ := h
    rfl
  · obtain ⟨x, o, rfl, hp, k⟩ := h
    refine ⟨_, pss_one (ps_ret (pe_and
      (pe_callB call_isi (by rfl) T.b_isinstance PyProof.Rows.boot_isinstance (pa_cons (pv 0) (pa_cons (pe_bltn (v := .ty "tuple") (by rfl) T.b_tuple (by decide +kernel) rfl) pa_nil)))
      (pe_and (pe_chain op_le op_le pe_int (pe_callB call_len_seq (by rfl) T.b_len PySem.boot_len (pa_cons (pv 0) pa_nil)) pe_int)
      (pe_one (pe_callB (cr_all rfl) (by rfl) T.b_all (by decide +kernel) (pa_cons (pe_lc (own := [("part", 1)]) (g := gName 1) (tt := tYes) rfl sc_is_row.nd (pi_tup (pv 0)) (blkOk_by (own := [("part", 1)]) (N := ["thing", "part"]) (sc := defScope s_is_row) (by decide +kernel))
        (fun _ _ _ _ _ => pg_name (i := 1) sc_is_row.nd rfl (Or.inl rfl)) (fun _ _ _ _ _ => pts_nil) (fun _ _ _ _ _ => pe_call (ok_is_number T) hr (by rfl) T.is_number.m T.is_number.f.kp (bd_is_number T) .nil passE (pa_cons (pv 1) pa_nil))) pa_nil)))))), ?_⟩
    cases hp with
    | no hn =>
      obtain ⟨t, ht, h1⟩ := hn.ty (K := K)
      refine ⟨_, rfl, x, _, _, _, _, rfl, .ty "tuple", ht, kit_ty h1, _, rfl, iteF ?_⟩
      exact k H fun _ _ e => e
    | tup e p l =>
      rename_i a xs
      refine ⟨_, rfl, _, _, _, _, true, rfl, .ty "tuple", .base (.tup e), kit_ty (by decide +kernel), _, rfl, iteT ?_⟩
      refine ⟨_, rfl, a, xs, rfl, .inr (SqT.of e), 1, ((xs.length : Nat) : Int), rfl, rfl, _, rfl, ?_⟩
      have go : ∀ c1 c2 : Bool, c1 = decide ((1 : Int) ≤ ((xs.length : Nat) : Int)) → c2 = decide (((xs.length : Nat) : Int) ≤ 16) → rowB (some xs) = (c1 && c2 && xs.all isNum) := fun c1 c2 e1 e2 => by
        subst e1 e2
        show (decide (1 ≤ xs.length) && decide (xs.length ≤ 16) && xs.all isNum) = _
        congr 1
        congr 1 <;> exact decide_eq_decide.mpr (by omega)
      by_cases c1 : (1 : Int) ≤ ((xs.length : Nat) : Int)
      · rw [decide_eq_true c1]
        refine iteT ⟨((xs.length : Nat) : Int), 16, rfl, rfl, _, rfl, ?_⟩
        by_cases c2 : ((xs.length : Nat) : Int) ≤ 16
        · rw [decide_eq_true c2]
          refine iteT ⟨_, rfl, a, rfl, ⟨_, SqT.of e⟩, fun D hD => lc_tup (K := K) (a := a) (xs := xs) (fun i H' => H' D = some (.lst (((xs.take i).map isNum).map V.bl)) ∧ Same H H') ⟨upd_same, Same.new hD⟩ (fun i H' _ h => SqT.of (h.2 _ _ e)) ?_ ?_⟩
          · rintro i x H' hx ⟨h1, h2⟩
            refine ⟨rfl, ?_⟩
            dsimp only [tYes]
            rw [if_pos rfl]
            obtain ⟨b, hb⟩ := p x (List.mem_of_getElem? hx)
            refine ⟨_, rfl, x, b, rfl, hb.keep h2, _, h1, ?_, ?_, ?_⟩
            · rw [List.length_map, List.length_map, List.length_take]
              exact Nat.lt_of_le_of_lt (Nat.min_le_right _ _) (Nat.lt_of_le_of_lt l (by decide))
            · rw [upd_same, take_map_snoc' _ _ _ _ hx, hb.num]
            · intro b' o e'
              rw [upd_ne (ne_of_none e' hD)]
              exact h2 b' o e'
          · rintro H1 ⟨h1, h2⟩
            rw [List.take_length] at h1
            refine ⟨D, _, rfl, SqL.of h1, ?_⟩
            refine q_bl (k H1 h2) ?_
            rw [go true true (decide_eq_true c1).symm (decide_eq_true c2).symm, List.all_map]
            rfl
        · rw [decide_eq_false c2]
          refine iteF ?_
          exact q_bl (k H fun _ _ e => e) (by rw [go true false (decide_eq_true c1).symm (decide_eq_false c2).symm]; rfl)
      · rw [decide_eq_false c1]
        refine iteF ⟨_, rfl, iteF ?_⟩
        exact q_bl (k H fun _ _ e => e) (by rw [go false _ (decide_eq_false c1).symm rfl]; rfl)
end
end K16
namespace K16
open PySem PySem.Spec PyProof.Rows L2 PySem.W LamX KA KW KU KL KT
open Evl (pss_cut tCut)
/-! ### planes of any values -/
def okAs (n : Nat) (o : Option (List V)) : Bool := rowB o && (match o with | some xs => xs.length == n | none => false)
def width0 : List (Option (List V)) → Nat
  | some xs :: _ => xs.length
  | _ => 0
def rowsB : Option (List (Option (List V))) → Bool
  | none => false
  | some os => decide (1 ≤ os.length) && decide (os.length ≤ 16) && os.all (okAs (width0 os))
/-- the items of a tuple as rows -/
def Rws (K : PySem.W.Frag) (H : Hp) (vs : List V) (os : List (Option (List V))) : Prop := vs.length = os.length ∧ ∀ (i : Nat) (v : V), vs[i]? = some v → ∃ o, os[i]? = some o ∧ Rw K H v o
theorem Rws.keep {K : PySem.W.Frag} {H H' : Hp} {vs : List V} {os : List (Option (List V))} (h : Rws K H vs os) (s : Same H H') : Rws K H' vs os :=
  ⟨h.1, fun i v e => by
    obtain ⟨o, q1, q2⟩ := h.2 i v e
    exact ⟨o, q1, q2.keep s⟩⟩
/-- a value as a plane -/
inductive Th (K : PySem.W.Frag) (H : Hp) : V → Option (List (Option (List V))) → Prop where
  | no {x : V} (h : Nt H x) : Th K H x none
  | tup {a : Addr} {vs : List V} {os : List (Option (List V))} (e : H a = some (.tup vs)) (p : Rws K H vs os) (l : vs.length ≤ 1000) : Th K H (.ref a) (some os)
theorem Th.keep {K : PySem.W.Frag} {H H' : Hp} {x : V} {o : Option (List (Option (List V)))} (h : Th K H x o) (s : Same H H') : Th K H' x o := by
  cases h with
  | no h => exact .no (h.keep s)
  | tup e p l => exact .tup (s _ _ e) (p.keep s) l
theorem rowB_some {o : Option (List V)} (h : rowB o = true) : ∃ xs, o = some xs ∧ 1 ≤ xs.length ∧ xs.length ≤ 16 ∧ xs.all isNum = true := by
  cases o with
  | none => cases h
  | some xs =>
    simp only [rowB, Bool.and_eq_true, decide_eq_true_eq] at h
    exact ⟨xs, rfl, h.1.1, h.1.2, h.2⟩
theorem all_false {α : Type} {l : List α} {f : α → Bool} {i : Nat} {x : α} (h : l[i]? = some x) (hf : f x = false) : l.all f = false := by
  rw [List.all_eq_false]
  exact ⟨x, List.mem_of_getElem? h, by rw [hf]; exact Bool.false_ne_true⟩
theorem all_take_succ {α : Type} {l : List α} {f : α → Bool} {i : Nat} {x : α} (h : l[i]? = some x) (h1 : (l.take i).all f = true) (hf : f x = true) : (l.take (i + 1)).all f = true := by
  rw [List.take_add_one, h, List.all_append, h1]
  simp [hf]
def spRows (K : PySem.W.Frag) : Sp := fun vs H Q _ => ∃ x o, vs = [x] ∧ Th K H x o ∧ ∀ H', Same H H' → Q (.bl (rowsB o)) H'
section
variable {P : Program} {w : World} {K : PySem.W.Frag} {mg : Str → Option Value} {base : Heap} (T : Top K mg)
theorem ok_is_rows : FnOk P w K mg base (L2.CX P w) 3 T.is_rows.a T.is_rows.d ["thing"] (spRows K) := by
  refine T.is_rows.f.okX sc_is_rows (fun vs H Q E h => ?_) (fun cdv A outer s H vs Q E hr h => ?_)
  · obtain ⟨x, o, rfl, _⟩ := h
    rfl
  · obtain ⟨x, o, rfl, hp, k⟩ := h
    refine ⟨_, pss_cons (ps_if (PW.pt (pw_or (pt_not (pt_val (pe_callB call_isi (by rfl) T.b_isinstance PyProof.Rows.boot_isinstance (pa_cons (pv 0) (pa_cons (pe_bltn (v := .ty "tuple") (by rfl) T.b_tuple (by decide +kernel) rfl) pa_nil)))))
        (pw_or1 (pt_not (pt_chain op_le op_le pe_int (pe_callB call_len_seq (by rfl) T.b_len PySem.boot_len (pa_cons (pv 0) pa_nil)) pe_int)))))
        (pss_one (ps_ret pe_bl)) pss_nil)
      (pss_cons (ps_for (passes_of rfl) rfl (pi_tup (pv 0)) (pg_name (i := 1) sc_is_rows.nd rfl (.inl rfl))
        (pss_one (ps_if (PW.pt (pw_or (pt_not (pt_val (pe_call (ok_is_row T) hr (by rfl) T.is_row.m T.is_row.f.kp (bd_is_row T) .nil passE (pa_cons (pv 1) pa_nil))))
          (pw_or1 (pt_cmpR op_ne (pe_callB call_len_seq (by rfl) T.b_len PySem.boot_len (pa_cons (pv 1) pa_nil)) (pe_callB call_len_seq (by rfl) T.b_len PySem.boot_len (pa_cons (pe_ix ix_tup (pv 0) pe_int (fun _ _ => rfl)) pa_nil)) (nomark _)))))
          (pss_one (ps_ret pe_bl)) pss_nil)))
      (pss_one (ps_ret pe_bl))), ?_⟩
    cases hp with
    | no hn =>
      obtain ⟨t, ht, h1⟩ := hn.ty (K := K)
      refine ⟨_, rfl, x, _, _, _, _, rfl, .ty "tuple", ht, kit_ty h1, _, rfl, ?_⟩
      exact iteT (iteT (k H fun _ _ e => e))
    | tup e p l =>
      rename_i a xs os
      refine ⟨_, rfl, _, _, _, _, true, rfl, .ty "tuple", .base (.tup e), kit_ty (by decide +kernel), _, rfl, iteF ⟨_, rfl, a, xs, rfl, .inr (SqT.of e), 1, ((xs.length : Nat) : Int), rfl, rfl, _, rfl, ?_⟩⟩
      have hlen := p.1
      have go : ∀ c1 c2 : Bool, c1 = decide ((1 : Int) ≤ ((xs.length : Nat) : Int)) → c2 = decide (((xs.length : Nat) : Int) ≤ 16) → rowsB (some os) = (c1 && c2 && os.all (okAs (width0 os))) := fun c1 c2 e1 e2 => by
        subst e1 e2
        show (decide (1 ≤ os.length) && decide (os.length ≤ 16) && os.all (okAs (width0 os))) = _
        congr 1
        congr 1 <;> exact decide_eq_decide.mpr (by omega)
      by_cases c1 : (1 : Int) ≤ ((xs.length : Nat) : Int)
      · rw [decide_eq_true c1]
        refine iteT ⟨((xs.length : Nat) : Int), 16, rfl, rfl, _, rfl, ?_⟩
        by_cases c2 : ((xs.length : Nat) : Int) ≤ 16
        · rw [decide_eq_true c2]
          have go' : rowsB (some os) = os.all (okAs (width0 os)) := by rw [go true true (decide_eq_true c1).symm (decide_eq_true c2).symm]; rfl
          clear go
          refine iteF ?_
          refine ⟨_, rfl, a, rfl, ⟨_, SqT.of e⟩, for_tup (K := K) (a := a) (xs := xs) (fun i σ H' => (∃ v1, σ = [some (.ref a), v1]) ∧ Same H H' ∧ (os.take i).all (okAs (width0 os)) = true) ⟨⟨none, rfl⟩, fun _ _ e => e, rfl⟩ (fun i σ H' _ h => SqT.of (h.2.1 _ _ e)) ?_ ?_⟩
          · rintro i x σ H' hx ⟨⟨v1, rfl⟩, sm, ht⟩
            obtain ⟨o, ho, hr2⟩ := p.2 i x hx
            have hr3 := hr2.keep sm
            refine ⟨_, rfl, x, o, rfl, hr3, fun H2 sm2 => ?_⟩
            have sm' : Same H H2 := sm.trans sm2
            have bad : okAs (width0 os) o = false → Q (.bl false) H2 := fun z => q_bl (k H2 sm') (by rw [go', all_false ho z])
            refine ⟨_, rfl, ?_⟩
            cases hb : rowB o with
            | false => exact iteT (iteT (bad (by simp [okAs, hb])))
            | true =>
              refine iteF ?_
              obtain ⟨ys, rfl, y1, y2, y3⟩ := rowB_some hb
              cases hr3 with
              | tup eb pb lb =>
                rename_i b
                -- the first row
                obtain ⟨v0, hv0⟩ : ∃ v0, xs[0]? = some v0 := ⟨_, List.getElem?_eq_getElem (by omega)⟩
                obtain ⟨o0, ho0, hr0⟩ := p.2 0 v0 hv0
                have hs0 : ∃ zs, o0 = some zs := by
                  cases i with
                  | zero =>
                    rw [ho] at ho0
                    exact ⟨ys, (Option.some.inj ho0).symm⟩
                  | succ i =>
                    rw [List.all_eq_true] at ht
                    have hm : o0 ∈ os.take (i + 1) := List.mem_of_getElem? (i := 0) (by rw [List.getElem?_take]; simpa using ho0)
                    have := ht o0 hm
                    simp only [okAs, Bool.and_eq_true] at this
                    obtain ⟨zs, h, _⟩ := rowB_some this.1
                    exact ⟨zs, h⟩
                obtain ⟨zs, rfl⟩ := hs0
                have hw0 : width0 os = zs.length := by
                  cases os with
                  | nil => cases ho0
                  | cons o1 os =>
                    have : o1 = some zs := by simpa using ho0
                    subst this
                    rfl
                have hr0' := hr0.keep sm'
                cases hr0' with
                | tup e0 p0 l0 =>
                  refine ⟨_, rfl, _, ys, rfl, .inr (SqT.of (sm2 _ _ eb)), _, rfl, a, xs, 0, _, rfl, rfl, SqT.of (sm' _ _ e), atI_nat (j := 0) hv0, _, zs, rfl, .inr (SqT.of e0), ?_⟩
                  refine ⟨rfl, _, rfl, ?_⟩
                  rw [dec_int]
                  by_cases c : ys.length = zs.length
                  · rw [show (((ys.length : Nat) : Int) == ((zs.length : Nat) : Int)) = true by simp [c]]
                    refine iteF ⟨⟨_, rfl⟩, sm', all_take_succ ho ht ?_⟩
                    simp [okAs, hb, hw0, c]
                  · rw [show (((ys.length : Nat) : Int) == ((zs.length : Nat) : Int)) = false from beq_eq_false_iff_ne.mpr (by omega)]
                    refine iteT (bad ?_)
                    simp [okAs, hb, hw0, c]
          · rintro σ H' ⟨⟨v1, rfl⟩, sm, ht⟩
            rw [hlen, List.take_length] at ht
            exact q_bl (k H' sm) (by rw [go', ht])
        · rw [decide_eq_false c2]
          refine iteT ?_
          exact q_bl (k H fun _ _ e => e) (by rw [go true false (decide_eq_true c1).symm (decide_eq_false c2).symm]; rfl)
      · rw [decide_eq_false c1]
        refine iteF ⟨_, rfl, ?_⟩
        refine iteT ?_
        exact q_bl (k H fun _ _ e => e) (by rw [go false _ (decide_eq_false c1).symm rfl]; rfl)
end
end K16
namespace K16
open PySem PySem.Spec PyProof.Rows L2 PySem.W LamX KA KW KU KL KT
open Evl (pss_cut tCut)
/-! ### planes of numbers -/
/-- a tuple of h rows of w numbers -/
structure Pn (H : Hp) (a : Addr) (nss : List (List Int)) (w : Nat) : Prop where
  at' : ∃ vs, H a = some (.tup vs) ∧ vs.length = nss.length ∧ ∀ (i : Nat) (v : V), vs[i]? = some v → ∃ b ns, v = .ref b ∧ nss[i]? = some ns ∧ H b = some (.tup (ns.map V.int))
  h1 : 1 ≤ nss.length
  h2 : nss.length ≤ 16
  w1 : 1 ≤ w
  w2 : w ≤ 16
  ws : ∀ ns ∈ nss, ns.length = w
theorem Pn.keep {H H' : Hp} {a : Addr} {nss : List (List Int)} {w : Nat} (p : Pn H a nss w) (s : Same H H') : Pn H' a nss w := by
  refine ⟨?_, p.h1, p.h2, p.w1, p.w2, p.ws⟩
  obtain ⟨vs, h, l, q⟩ := p.at'
  refine ⟨vs, s _ _ h, l, fun i v e => ?_⟩
  obtain ⟨b, ns, e1, e2, e3⟩ := q i v e
  exact ⟨b, ns, e1, e2, s _ _ e3⟩
theorem nums_map : ∀ {xs : List V}, xs.all isNum = true → ∃ ns : List Int, xs = ns.map V.int
  | [], _ => ⟨[], rfl⟩
  | x :: xs, h => by
    rw [List.all_cons, Bool.and_eq_true] at h
    obtain ⟨ns, rfl⟩ := nums_map h.2
    cases x with
    | int i => exact ⟨i :: ns, rfl⟩
    | _ => exact absurd h.1 (by simp [isNum])
theorem opts_map : ∀ {os : List (Option (List V))}, (∀ o ∈ os, rowB o = true) → ∃ nss : List (List Int), os = nss.map fun ns => some (ns.map V.int)
  | [], _ => ⟨[], rfl⟩
  | o :: os, h => by
    obtain ⟨nss, rfl⟩ := opts_map (os := os) fun o ho => h o (List.mem_cons_of_mem _ ho)
    obtain ⟨xs, rfl, _, _, hx⟩ := rowB_some (h o List.mem_cons_self)
    obtain ⟨ns, rfl⟩ := nums_map hx
    exact ⟨ns :: nss, rfl⟩
/-- of a value that is a tuple of rows of numbers -/
theorem Th.good {K : PySem.W.Frag} {H : Hp} {x : V} {o : Option (List (Option (List V)))} (h : Th K H x o) (g : rowsB o = true) : ∃ a nss w, x = .ref a ∧ Pn H a nss w ∧ o = some (nss.map fun ns => some (ns.map V.int)) := by
  cases h with
  | no h => cases g
  | tup e p l =>
    rename_i a vs os
    simp only [rowsB, Bool.and_eq_true, decide_eq_true_eq, List.all_eq_true, okAs] at g
    obtain ⟨⟨g1, g2⟩, g3⟩ := g
    obtain ⟨nss, rfl⟩ := opts_map fun o ho => (g3 o ho).1
    refine ⟨a, nss, width0 (nss.map fun ns => some (ns.map V.int)), rfl, ⟨⟨vs, e, ?_, fun i v hv => ?_⟩, ?_, ?_, ?_, ?_, fun ns hn => ?_⟩, rfl⟩
    · rw [p.1, List.length_map]
    · obtain ⟨o, ho, hr⟩ := p.2 i v hv
      rw [List.getElem?_map] at ho
      cases hn : nss[i]? with
      | none => rw [hn] at ho; cases ho
      | some ns =>
        rw [hn] at ho
        have := Option.some.inj ho
        subst this
        cases hr with
        | tup e' _ _ => exact ⟨_, ns, rfl, rfl, e'⟩
    · rw [List.length_map] at g1
      exact g1
    · rw [List.length_map] at g2
      exact g2
    · cases nss with
      | nil => rw [List.length_map] at g1; exact absurd g1 (by decide)
      | cons ns nss =>
        obtain ⟨xs, e1, e2, e3, _⟩ := rowB_some (g3 _ (by rw [List.map_cons]; exact List.mem_cons_self)).1
        have := Option.some.inj e1
        subst this
        exact e2
    · cases nss with
      | nil => rw [List.length_map] at g1; exact absurd g1 (by decide)
      | cons ns nss =>
        obtain ⟨xs, e1, e2, e3, _⟩ := rowB_some (g3 _ (by rw [List.map_cons]; exact List.mem_cons_self)).1
        have := Option.some.inj e1
        subst this
        exact e3
    · have := (g3 _ (List.mem_map_of_mem hn)).2
      simpa using this
def minL : List Int → Int
  | n :: r => r.foldl min n
  | [] => 0
def maxL : List Int → Int
  | n :: r => r.foldl max n
  | [] => 0
theorem minL_eq {ns : List Int} {m : Int} (h : m ∈ ns) (l : ∀ y ∈ ns, m ≤ y) : m = minL ns := by
  cases ns with
  | nil => cases h
  | cons n r =>
    have h1 := l _ (foldl_min_mem n r)
    have h2 := foldl_min_le n r m h
    show m = r.foldl min n
    omega
theorem maxL_eq {ns : List Int} {m : Int} (h : m ∈ ns) (l : ∀ y ∈ ns, y ≤ m) : m = maxL ns := by
  cases ns with
  | nil => cases h
  | cons n r =>
    have h1 := l _ (foldl_max_mem n r)
    have h2 := foldl_max_ge n r m h
    show m = r.foldl max n
    omega
theorem minL_le {ns : List Int} (h : 0 < ns.length) (lo : Int) : lo ≤ minL ns ↔ ∀ y ∈ ns, lo ≤ y := by
  cases ns with
  | nil => cases h
  | cons n r =>
    constructor
    · intro q y hy
      exact Int.le_trans q (foldl_min_le n r y hy)
    · intro q
      exact q _ (foldl_min_mem n r)
theorem maxL_ge {ns : List Int} (h : 0 < ns.length) (hi : Int) : maxL ns ≤ hi ↔ ∀ y ∈ ns, y ≤ hi := by
  cases ns with
  | nil => cases h
  | cons n r =>
    constructor
    · intro q y hy
      exact Int.le_trans (foldl_max_ge n r y hy) q
    · intro q
      exact q _ (foldl_max_mem n r)
def betB (nss : List (List Int)) (lo hi : Int) : Bool := nss.all fun ns => ns.all fun n => decide (lo ≤ n) && decide (n ≤ hi)
theorem betB_eq {nss : List (List Int)} (h : 0 < nss.length) (hw : ∀ ns ∈ nss, 0 < ns.length) (lo hi : Int) : betB nss lo hi = (decide (lo ≤ minL (nss.map minL)) && decide (maxL (nss.map maxL) ≤ hi)) := by
  rw [Bool.eq_iff_iff]
  simp only [betB, List.all_eq_true, Bool.and_eq_true, decide_eq_true_eq]
  rw [minL_le (by rw [List.length_map]; exact h), maxL_ge (by rw [List.length_map]; exact h)]
  constructor
  · intro q
    constructor
    · intro y hy
      obtain ⟨ns, hn, rfl⟩ := List.mem_map.mp hy
      exact (minL_le (hw ns hn) lo).mpr fun y hy => (q ns hn y hy).1
    · intro y hy
      obtain ⟨ns, hn, rfl⟩ := List.mem_map.mp hy
      exact (maxL_ge (hw ns hn) hi).mpr fun y hy => (q ns hn y hy).2
  · intro q ns hn n hnn
    exact ⟨(minL_le (hw ns hn) lo).mp (q.1 _ (List.mem_map_of_mem hn)) n hnn, (maxL_ge (hw ns hn) hi).mp (q.2 _ (List.mem_map_of_mem hn)) n hnn⟩
theorem take_map_snocI (xs : List (List Int)) (f : List Int → Int) (i : Nat) (x : List Int) (h : xs[i]? = some x) : ((xs.take (i + 1)).map f).map V.int = ((xs.take i).map f).map V.int ++ [V.int (f x)] := by
  rw [List.take_add_one, h, List.map_append, List.map_append]
  rfl
def spBetween : Sp := fun vs H Q _ => ∃ a nss w lo hi, vs = [.ref a, .int lo, .int hi] ∧ Pn H a nss w ∧ ∀ H', Same H H' → Q (.bl (betB nss lo hi)) H'
section
variable {P : Program} {w : World} {K : PySem.W.Frag} {mg : Str → Option Value} {base : Heap} (T : Top K mg)
end
end K16
namespace K16
open PySem PySem.Spec PyProof.Rows L2 PySem.W LamX KA KW KU KL KT
open Evl (pss_cut tCut)
/-! ### turned -/
def trans (nss : List (List Int)) (w : Nat) : List (List Int) := (List.range w).map fun j => nss.map fun ns => ns.getD j 0
def rTupOf (K : PySem.W.Frag) : List V → Hp → VK → Prop := fun xs H Q => ∃ p ys, xs = [.ref p] ∧ ((SqL K H p ys ∧ ∀ l, H l = none → Q (.ref l) (upd H l (.tup ys))) ∨ (SqT K H p ys ∧ Q (.ref p) H))
/-- these values are tuples of these numbers -/
def Rows (H : Hp) (rs : List V) (mss : List (List Int)) : Prop := rs.length = mss.length ∧ ∀ (j : Nat) (v : V), rs[j]? = some v → ∃ b ns, v = .ref b ∧ mss[j]? = some ns ∧ H b = some (.tup (ns.map V.int))
theorem Rows.keep {H H' : Hp} {rs : List V} {mss : List (List Int)} (r : Rows H rs mss) (s : Same H H') : Rows H' rs mss := ⟨r.1, fun j v e => by
  obtain ⟨b, ns, e1, e2, e3⟩ := r.2 j v e
  exact ⟨b, ns, e1, e2, s _ _ e3⟩⟩
theorem Rows.put {H : Hp} {rs xs : List V} {mss : List (List Int)} {D : Addr} {o : HO} (r : Rows H rs mss) (h : H D = some (.lst xs)) : Rows (upd H D o) rs mss := ⟨r.1, fun j v e => by
  obtain ⟨b, ns, e1, e2, e3⟩ := r.2 j v e
  refine ⟨b, ns, e1, e2, ?_⟩
  rw [upd_ne (fun z => by rw [z, h] at e3; cases e3)]
  exact e3⟩
theorem Rows.snoc {H : Hp} {rs : List V} {mss : List (List Int)} {p : Addr} {ms : List Int} (r : Rows H rs mss) (h : H p = some (.tup (ms.map V.int))) : Rows H (rs ++ [.ref p]) (mss ++ [ms]) := by
  refine ⟨by simp [r.1], fun j v e => ?_⟩
  by_cases c : j < rs.length
  · rw [List.getElem?_append_left c] at e
    obtain ⟨b, ns, e1, e2, e3⟩ := r.2 j v e
    exact ⟨b, ns, e1, by rw [List.getElem?_append_left (by rw [← r.1]; exact c)]; exact e2, e3⟩
  · rw [List.getElem?_append_right (by omega)] at e
    have hj : j - rs.length = 0 := by
      rcases Nat.eq_zero_or_pos (j - rs.length) with h | h
      · exact h
      · rw [List.getElem?_eq_none (by simp; omega)] at e
        cases e
    rw [hj] at e
    have := Option.some.inj e
    subst this
    refine ⟨p, ms, rfl, ?_, h⟩
    rw [List.getElem?_append_right (by rw [← r.1]; omega), ← r.1, hj]
    rfl
theorem Rows.nil {H : Hp} : Rows H [] [] := ⟨rfl, fun j v e => by simp at e⟩
theorem Rows.pn {H : Hp} {rs : List V} {mss : List (List Int)} {a : Addr} {w : Nat} (r : Rows H rs mss) (e : H a = some (.tup rs)) (h1 : 1 ≤ mss.length) (h2 : mss.length ≤ 16) (w1 : 1 ≤ w) (w2 : w ≤ 16) (ws : ∀ ns ∈ mss, ns.length = w) : Pn H a mss w := ⟨⟨rs, e, r⟩, h1, h2, w1, w2, ws⟩
theorem Pn.rows {H : Hp} {a : Addr} {nss : List (List Int)} {w : Nat} (p : Pn H a nss w) : ∃ vs, H a = some (.tup vs) ∧ Rows H vs nss := p.at'
theorem Rows.rev {H : Hp} {rs : List V} {mss : List (List Int)} (r : Rows H rs mss) : Rows H rs.reverse mss.reverse := by
  refine ⟨by simp [r.1], fun j v e => ?_⟩
  have hj : j < rs.length := by
    rcases Nat.lt_or_ge j rs.length with h | h
    · exact h
    · rw [List.getElem?_eq_none (by simpa using h)] at e
      cases e
  rw [List.getElem?_reverse hj] at e
  obtain ⟨b, ns, e1, e2, e3⟩ := r.2 _ v e
  exact ⟨b, ns, e1, by rw [List.getElem?_reverse (by rw [← r.1]; exact hj), ← r.1]; exact e2, e3⟩
theorem take_snoc {α β : Type} {xs : List α} (f : α → β) {i : Nat} {x : α} (h : xs[i]? = some x) : (xs.take (i + 1)).map f = (xs.take i).map f ++ [f x] := by
  rw [List.take_add_one, h, List.map_append]
  rfl
theorem Same.put {H H' : Hp} {D : Addr} {o : HO} (s : Same H H') (h : H D = none) : Same H (upd H' D o) := fun b o e => by
  rw [upd_ne (ne_of_none e h)]
  exact s b o e
/-- what a plane is turned by -/
inductive Sc : V → Prop where
  | int (i : Int) : Sc (.int i)
  | str (s : Str) : Sc (.str s)
  | non : Sc .non
section
variable {P : Program} {w : World} {K : PySem.W.Frag} {mg : Str → Option Value} {base : Heap} (T : Top K mg)
end
end K16
namespace K16
/-! ### areas, means and differences: the mathematics -/
structure Ar where
  t : Nat
  l : Nat
  h : Nat
  w : Nat
deriving DecidableEq
namespace Ar
def inn (a : Ar) : Bool := decide (1 < a.h * a.w)
def half (a : Ar) (b : Bool) : Ar :=
  if a.w ≤ a.h then (if b then ⟨a.t + (a.h + 1) / 2, a.l, a.h - (a.h + 1) / 2, a.w⟩ else ⟨a.t, a.l, (a.h + 1) / 2, a.w⟩)
  else (if b then ⟨a.t, a.l + (a.w + 1) / 2, a.h, a.w - (a.w + 1) / 2⟩ else ⟨a.t, a.l, a.h, (a.w + 1) / 2⟩)
def ok (a : Ar) : Prop := 1 ≤ a.h ∧ 1 ≤ a.w
def size (a : Ar) : Nat := a.h * a.w
end Ar
open Ar
theorem big_of {a : Ar} (o : a.ok) (i : a.inn = true) : (a.w ≤ a.h ∧ 2 ≤ a.h) ∨ (a.h < a.w ∧ 2 ≤ a.w) := by
  obtain ⟨o1, o2⟩ := o
  unfold inn at i
  have i := of_decide_eq_true i
  by_cases c : a.w ≤ a.h
  · refine .inl ⟨c, ?_⟩
    rcases Nat.lt_or_ge a.h 2 with z | z
    · have e1 : a.h = 1 := by omega
      have e2 : a.w = 1 := by omega
      rw [e1, e2] at i
      omega
    · exact z
  · exact .inr ⟨by omega, by omega⟩
theorem one_of {a : Ar} (o : a.ok) (i : a.inn = false) : a.h = 1 ∧ a.w = 1 := by
  obtain ⟨o1, o2⟩ := o
  unfold inn at i
  have i := of_decide_eq_false i
  have h1 := Nat.mul_le_mul_left a.h o2
  have h2 := Nat.mul_le_mul_right a.w o1
  omega
/-- r lies in a -/
def In (r a : Ar) : Prop := a.t ≤ r.t ∧ r.t + r.h ≤ a.t + a.h ∧ a.l ≤ r.l ∧ r.l + r.w ≤ a.l + a.w
theorem In.refl {a : Ar} : In a a := ⟨Nat.le_refl _, Nat.le_refl _, Nat.le_refl _, Nat.le_refl _⟩
theorem In.trans {a b c : Ar} (x : In a b) (y : In b c) : In a c := by
  unfold In at *
  omega
theorem half_ok {a : Ar} (o : a.ok) (i : a.inn = true) (b : Bool) : (a.half b).ok := by
  have g := big_of o i
  obtain ⟨o1, o2⟩ := o
  unfold half ok
  rcases g with ⟨g1, g2⟩ | ⟨g1, g2⟩
  · rw [if_pos g1]
    cases b
    · exact ⟨by show 1 ≤ (a.h + 1) / 2; omega, o2⟩
    · exact ⟨by show 1 ≤ a.h - (a.h + 1) / 2; omega, o2⟩
  · rw [if_neg (by omega)]
    cases b
    · exact ⟨o1, by show 1 ≤ (a.w + 1) / 2; omega⟩
    · exact ⟨o1, by show 1 ≤ a.w - (a.w + 1) / 2; omega⟩
theorem half_in {a : Ar} (b : Bool) : In (a.half b) a := by
  unfold half In
  by_cases c : a.w ≤ a.h
  · rw [if_pos c]
    cases b <;> (dsimp; omega)
  · rw [if_neg c]
    cases b <;> (dsimp; omega)
theorem half_size {a : Ar} (o : a.ok) (i : a.inn = true) : (a.half false).size + (a.half true).size = a.size := by
  have g := big_of o i
  unfold half size
  rcases g with ⟨g1, g2⟩ | ⟨g1, g2⟩
  · rw [if_pos g1, if_pos g1]
    show (a.h + 1) / 2 * a.w + (a.h - (a.h + 1) / 2) * a.w = a.h * a.w
    rw [← Nat.add_mul]
    congr 1
    omega
  · have c : ¬ a.w ≤ a.h := by omega
    rw [if_neg c, if_neg c]
    show a.h * ((a.w + 1) / 2) + a.h * (a.w - (a.w + 1) / 2) = a.h * a.w
    rw [← Nat.mul_add]
    congr 1
    omega
theorem ok_size {a : Ar} (o : a.ok) : 1 ≤ a.size := Nat.mul_pos o.1 o.2
theorem half_lt {a : Ar} (o : a.ok) (i : a.inn = true) (b : Bool) : (a.half b).size < a.size := by
  have e := half_size o i
  have p1 := ok_size (half_ok o i false)
  have p2 := ok_size (half_ok o i true)
  cases b <;> omega
theorem half_apart {a r s : Ar} (o : a.ok) (i : a.inn = true) (hr : r.ok) (x : In r (a.half false)) (y : In s (a.half true)) : r.t ≠ s.t ∨ r.l ≠ s.l := by
  have g := big_of o i
  obtain ⟨r1, r2⟩ := hr
  unfold half In at x y
  rcases g with ⟨g1, g2⟩ | ⟨g1, g2⟩
  · rw [if_pos g1] at x y
    left
    simp only [if_true, Bool.false_eq_true, if_false] at x y
    omega
  · have c : ¬ a.w ≤ a.h := by omega
    rw [if_neg c] at x y
    right
    simp only [if_true, Bool.false_eq_true, if_false] at x y
    omega
theorem half_cover {a : Ar} {y x : Nat} (h : a.t ≤ y ∧ y < a.t + a.h ∧ a.l ≤ x ∧ x < a.l + a.w) : ∃ b, (a.half b).t ≤ y ∧ y < (a.half b).t + (a.half b).h ∧ (a.half b).l ≤ x ∧ x < (a.half b).l + (a.half b).w := by
  unfold half
  by_cases c : a.w ≤ a.h
  · by_cases d : y < a.t + (a.h + 1) / 2
    · refine ⟨false, ?_⟩
      rw [if_pos c]
      simp only [Bool.false_eq_true, if_false]
      omega
    · refine ⟨true, ?_⟩
      rw [if_pos c]
      simp only [if_true]
      omega
  · by_cases d : x < a.l + (a.w + 1) / 2
    · refine ⟨false, ?_⟩
      rw [if_neg c]
      simp only [Bool.false_eq_true, if_false]
      omega
    · refine ⟨true, ?_⟩
      rw [if_neg c]
      simp only [if_true]
      omega
/-! the ways from the whole area -/
def reg (a : Ar) : List Bool → Ar
  | [] => a
  | b :: p => reg (a.half b) p
theorem reg_snoc : ∀ (p : List Bool) (a : Ar) (b : Bool), reg a (p ++ [b]) = (reg a p).half b
  | [], _, _ => rfl
  | c :: p, a, b => reg_snoc p (a.half c) b
/-- each area that is halved on the way is inner -/
def Way (a : Ar) : List Bool → Prop
  | [] => True
  | b :: p => a.inn = true ∧ Way (a.half b) p
theorem way_snoc : ∀ {p : List Bool} {a : Ar} {b : Bool}, Way a p → (reg a p).inn = true → Way a (p ++ [b])
  | [], _, _, _, i => ⟨i, trivial⟩
  | _ :: _, _, _, ⟨h1, h2⟩, i => ⟨h1, way_snoc h2 i⟩
theorem way_ok : ∀ {p : List Bool} {a : Ar}, a.ok → Way a p → (reg a p).ok ∧ In (reg a p) a ∧ (reg a p).size ≤ a.size
  | [], _, o, _ => ⟨o, In.refl, Nat.le_refl _⟩
  | b :: p, a, o, ⟨h1, h2⟩ => by
    obtain ⟨q1, q2, q3⟩ := way_ok (half_ok o h1 b) h2
    exact ⟨q1, q2.trans (half_in b), Nat.le_trans q3 (Nat.le_of_lt (half_lt o h1 b))⟩
theorem way_inj : ∀ {p q : List Bool} {a : Ar}, a.ok → Way a p → Way a q → reg a p = reg a q → p = q
  | [], [], _, _, _, _, _ => rfl
  | [], b :: q, a, o, _, ⟨h1, h2⟩, e => by
    have z := (way_ok (half_ok o h1 b) h2).2.2
    have y := half_lt o h1 b
    have e : a = reg (a.half b) q := e
    rw [← e] at z
    omega
  | b :: p, [], a, o, ⟨h1, h2⟩, _, e => by
    have z := (way_ok (half_ok o h1 b) h2).2.2
    have y := half_lt o h1 b
    have e : reg (a.half b) p = a := e
    rw [e] at z
    omega
  | b :: p, c :: q, a, o, ⟨h1, h2⟩, ⟨_, h4⟩, e => by
    have e : reg (a.half b) p = reg (a.half c) q := e
    by_cases d : b = c
    · subst d
      rw [way_inj (half_ok o h1 b) h2 h4 e]
    · obtain ⟨w1, w2, _⟩ := way_ok (half_ok o h1 b) h2
      obtain ⟨w3, w4, _⟩ := way_ok (half_ok o h1 c) h4
      exfalso
      cases b <;> cases c
      · exact d rfl
      · rcases half_apart o h1 w1 w2 w4 with z | z <;> exact z (by rw [e])
      · rcases half_apart o h1 w3 w4 w2 with z | z <;> exact z (by rw [e])
      · exact d rfl
/-! the list of the areas, as it grows -/
def grow (a : Ar) (P : List (List Bool)) (n : Nat) : List (List Bool) := match P[n]? with
  | some p => if (reg a p).inn = true then P ++ [p ++ [false], p ++ [true]] else P
  | none => P
def ways (a : Ar) : Nat → List (List Bool)
  | 0 => [[]]
  | n + 1 => grow a (ways a n) n
/-- how many of the first n are inner -/
def cnt (a : Ar) (P : List (List Bool)) (n : Nat) : Nat := (P.take n).countP fun p => (reg a p).inn
def pot (a : Ar) (P : List (List Bool)) : Nat := (P.map fun p => 2 * (reg a p).size - 1).sum
structure Grown (a : Ar) (P : List (List Bool)) (n : Nat) : Prop where
  le : n ≤ P.length
  pot : n + pot a (P.drop n) = 2 * a.size - 1
  way : ∀ p ∈ P, Way a p
  nd : P.Nodup
  root : P[0]? = some []
  len : P.length = 1 + 2 * cnt a P n
  kid : ∀ p b, p ++ [b] ∈ P → ∃ i, i < n ∧ P[i]? = some p
  kids : ∀ i p, i < n → P[i]? = some p → (reg a p).inn = true → P[2 * cnt a P (i + 1) - 1]? = some (p ++ [false]) ∧ P[2 * cnt a P (i + 1)]? = some (p ++ [true])
theorem cnt_app {a : Ar} {P R : List (List Bool)} {n : Nat} (h : n ≤ P.length) : cnt a (P ++ R) n = cnt a P n := by
  unfold cnt
  rw [List.take_append_of_le_length h]
theorem cnt_succ {a : Ar} {P : List (List Bool)} {n : Nat} {p : List Bool} (h : P[n]? = some p) : cnt a P (n + 1) = cnt a P n + (if (reg a p).inn = true then 1 else 0) := by
  unfold cnt
  rw [List.take_add_one, h, List.countP_append]
  cases e : (reg a p).inn <;> simp [e]
theorem cnt_mono {a : Ar} {P : List (List Bool)} {m n : Nat} (h : m ≤ n) : cnt a P m ≤ cnt a P n := by
  unfold cnt
  exact List.Sublist.countP_le (List.take_sublist_take_left h)
theorem snoc_ne {p q : List Bool} {b c : Bool} (h : p ++ [b] = q ++ [c]) : p = q ∧ b = c := by
  have := List.append_inj' h rfl
  exact ⟨this.1, by simpa using this.2⟩
theorem Grown.zero {a : Ar} (o : a.ok) : Grown a (ways a 0) 0 where
  le := Nat.zero_le _
  pot := by
    show 0 + ((2 * a.size - 1) + 0) = _
    omega
  way := fun p hp => by
    rw [List.mem_singleton.mp hp]
    trivial
  nd := by simp [ways]
  root := rfl
  len := rfl
  kid := fun p b h => by
    have := List.mem_singleton.mp h
    simp at this
  kids := fun i p h => absurd h (Nat.not_lt_zero _)
theorem Grown.step {a : Ar} (o : a.ok) {P : List (List Bool)} {n : Nat} (g : Grown a P n) (h : n < P.length) : Grown a (grow a P n) (n + 1) := by
  obtain ⟨p, hp⟩ : ∃ p, P[n]? = some p := ⟨_, List.getElem?_eq_getElem h⟩
  have hd : P.drop n = p :: P.drop (n + 1) := by
    rw [List.drop_eq_getElem_cons h]
    congr 1
    rw [List.getElem?_eq_getElem h] at hp
    exact Option.some.inj hp
  have hw := g.way p (List.mem_of_getElem? hp)
  have po := way_ok o hw
  have hs := ok_size po.1
  have g2 := g.pot
  rw [hd] at g2
  have g2 : n + ((2 * (reg a p).size - 1) + K16.pot a (P.drop (n + 1))) = 2 * a.size - 1 := g2
  unfold grow
  rw [hp]
  dsimp only
  by_cases i : (reg a p).inn = true
  · rw [if_pos i]
    have e2 : cnt a (P ++ [p ++ [false], p ++ [true]]) (n + 1) = cnt a P n + 1 := by
      rw [cnt_app h, cnt_succ hp, if_pos i]
    have new : ∀ b, p ++ [b] ∉ P := fun b m => by
      obtain ⟨j, hj, e⟩ := g.kid p b m
      have := (List.getElem?_inj (Nat.lt_trans hj h) g.nd).mp (e.trans hp.symm)
      omega
    refine ⟨?_, ?_, ?_, ?_, ?_, ?_, ?_, ?_⟩
    · simp
      omega
    · rw [List.drop_append_of_le_length h]
      have hz := half_size po.1 i
      have h1 := ok_size (half_ok po.1 i false)
      have h2 := ok_size (half_ok po.1 i true)
      have e : K16.pot a (P.drop (n + 1) ++ [p ++ [false], p ++ [true]]) = K16.pot a (P.drop (n + 1)) + ((2 * ((reg a p).half false).size - 1) + (2 * ((reg a p).half true).size - 1)) := by
        unfold K16.pot
        simp [reg_snoc]
      rw [e]
      omega
    · intro q hq
      rcases List.mem_append.mp hq with z | z
      · exact g.way q z
      · simp only [List.mem_cons, List.not_mem_nil, or_false] at z
        rcases z with z | z <;> (rw [z]; exact way_snoc hw i)
    · rw [List.nodup_append]
      refine ⟨g.nd, ?_, ?_⟩
      · simp
      · intro x hx y hy e
        subst e
        simp only [List.mem_cons, List.not_mem_nil, or_false] at hy
        rcases hy with z | z <;> (rw [z] at hx; exact new _ hx)
    · rw [List.getElem?_append_left (by omega)]
      exact g.root
    · rw [e2, List.length_append, g.len]
      simp
      omega
    · intro q b m
      rcases List.mem_append.mp m with z | z
      · obtain ⟨j, hj, e⟩ := g.kid q b z
        exact ⟨j, Nat.lt_succ_of_lt hj, by rw [List.getElem?_append_left (Nat.lt_trans hj h)]; exact e⟩
      · simp only [List.mem_cons, List.not_mem_nil, or_false] at z
        refine ⟨n, Nat.lt_succ_self _, ?_⟩
        rw [List.getElem?_append_left h, hp]
        rcases z with z | z <;> rw [(snoc_ne z).1]
    · intro j q hj hq hi
      by_cases c : j < n
      · rw [List.getElem?_append_left (Nat.lt_trans c h)] at hq
        rw [cnt_app (by omega)]
        obtain ⟨k1, k2⟩ := g.kids j q c hq hi
        have l1 := (List.getElem?_eq_some_iff.mp k1).1
        have l2 := (List.getElem?_eq_some_iff.mp k2).1
        exact ⟨by rw [List.getElem?_append_left l1]; exact k1, by rw [List.getElem?_append_left l2]; exact k2⟩
      · have : j = n := by omega
        subst this
        rw [List.getElem?_append_left h, hp] at hq
        cases hq
        rw [e2]
        have l := g.len
        have i1 : 2 * (cnt a P j + 1) - 1 = P.length := by omega
        have i2 : 2 * (cnt a P j + 1) = P.length + 1 := by omega
        refine ⟨?_, ?_⟩
        · rw [i1, List.getElem?_append_right (Nat.le_refl _), Nat.sub_self]
          rfl
        · rw [i2, List.getElem?_append_right (by omega), show P.length + 1 - P.length = 1 by omega]
          rfl
  · rw [if_neg i]
    have e2 : cnt a P (n + 1) = cnt a P n := by
      rw [cnt_succ hp, if_neg i]
      rfl
    refine ⟨h, ?_, g.way, g.nd, g.root, by rw [e2]; exact g.len, fun q b m => ?_, fun j q hj hq hi => ?_⟩
    · have := one_of po.1 (by simpa using i)
      have e : (reg a p).size = 1 := by
        unfold size
        rw [this.1, this.2]
      rw [e] at g2
      omega
    · obtain ⟨j, hj, e⟩ := g.kid q b m
      exact ⟨j, Nat.lt_succ_of_lt hj, e⟩
    · by_cases c : j < n
      · exact g.kids j q c hq hi
      · have : j = n := by omega
        subst this
        rw [hp] at hq
        cases hq
        exact absurd hi i
theorem pot_zero {a : Ar} (o : a.ok) {P : List (List Bool)} (w : ∀ p ∈ P, Way a p) : P.length ≤ pot a P := by
  induction P with
  | nil => exact Nat.zero_le _
  | cons p P ih =>
    have h1 := ih fun q hq => w q (List.mem_cons_of_mem _ hq)
    have h2 := ok_size (way_ok o (w p List.mem_cons_self)).1
    have e : pot a (p :: P) = (2 * (reg a p).size - 1) + pot a P := rfl
    rw [e, List.length_cons]
    omega
/-- while it is shorter, another turn; at 2n - 1 turns it is whole -/
theorem Grown.lt_iff {a : Ar} (o : a.ok) {P : List (List Bool)} {n : Nat} (g : Grown a P n) : n < P.length ↔ n < 2 * a.size - 1 := by
  have h := g.pot
  have l := pot_zero o (P := P.drop n) fun p hp => g.way p (List.mem_of_mem_drop hp)
  rw [List.length_drop] at l
  have le := g.le
  constructor
  · intro z
    omega
  · intro z
    rcases Nat.lt_or_ge n P.length with c | c
    · exact c
    · have e : P.drop n = [] := List.drop_eq_nil_of_le c
      rw [e] at h
      have : K16.pot a [] = 0 := rfl
      omega
theorem Grown.at {a : Ar} (o : a.ok) : ∀ n, n ≤ 2 * a.size - 1 → Grown a (ways a n) n
  | 0, _ => Grown.zero o
  | n + 1, h => by
    have g := Grown.at o n (by omega)
    exact g.step o ((g.lt_iff o).mpr (by omega))
def many (a : Ar) : Nat := 2 * a.size - 1
def allW (a : Ar) : List (List Bool) := ways a (many a)
theorem allW_len {a : Ar} (o : a.ok) : (allW a).length = many a := by
  have g := Grown.at o (many a) (Nat.le_refl _)
  have h1 := g.le
  have h2 := g.lt_iff o
  unfold many at *
  unfold allW many
  omega
theorem ways_pre {a : Ar} (o : a.ok) {n : Nat} (h : n ≤ many a) : ∃ R, allW a = ways a n ++ R := by
  unfold allW
  suffices q : ∀ k, n + k ≤ many a → ∃ R, ways a (n + k) = ways a n ++ R by
    obtain ⟨R, e⟩ := q (many a - n) (by omega)
    exact ⟨R, by rw [← e]; congr 1; omega⟩
  intro k
  induction k with
  | zero => exact fun _ => ⟨[], by simp⟩
  | succ k ih =>
    intro hk
    obtain ⟨R, e⟩ := ih (by omega)
    show ∃ R, grow a (ways a (n + k)) (n + k) = _
    unfold grow
    split
    · split
      · exact ⟨R ++ _, by rw [e, List.append_assoc]⟩
      · exact ⟨R, e⟩
    · exact ⟨R, e⟩
end K16
namespace K16
open Ar
/-! ### means -/
def meanK (f : Nat → Nat → Int) : Nat → Ar → Int
  | 0, a => f a.t a.l
  | k + 1, a => if a.inn = true then (meanK f k (a.half false) + meanK f k (a.half true)) / 2 else f a.t a.l
theorem meanK_more (f : Nat → Nat → Int) : ∀ (k j : Nat) (a : Ar), a.ok → a.size ≤ k → a.size ≤ j → meanK f k a = meanK f j a
  | 0, _, a, o, h, _ => absurd (ok_size o) (by omega)
  | _, 0, a, o, _, h => absurd (ok_size o) (by omega)
  | k + 1, j + 1, a, o, h1, h2 => by
    unfold meanK
    by_cases i : a.inn = true
    · rw [if_pos i, if_pos i]
      have l0 := half_lt o i false
      have l1 := half_lt o i true
      rw [meanK_more f k j _ (half_ok o i false) (by omega) (by omega), meanK_more f k j _ (half_ok o i true) (by omega) (by omega)]
    · rw [if_neg i, if_neg i]
def mean (f : Nat → Nat → Int) (a : Ar) : Int := meanK f a.size a
theorem mean_in {f : Nat → Nat → Int} {a : Ar} (o : a.ok) (i : a.inn = true) : mean f a = (mean f (a.half false) + mean f (a.half true)) / 2 := by
  have s := ok_size o
  obtain ⟨k, e⟩ : ∃ k, a.size = k + 1 := ⟨a.size - 1, by omega⟩
  have l0 := half_lt o i false
  have l1 := half_lt o i true
  have z : mean f a = meanK f (k + 1) a := by unfold mean; rw [e]
  rw [z]
  show (if a.inn = true then _ else _) = _
  rw [if_pos i]
  unfold mean
  rw [meanK_more f k _ _ (half_ok o i false) (by omega) (Nat.le_refl _), meanK_more f k _ _ (half_ok o i true) (by omega) (Nat.le_refl _)]
theorem mean_one {f : Nat → Nat → Int} {a : Ar} (o : a.ok) (i : a.inn = false) : mean f a = f a.t a.l := by
  have s := ok_size o
  obtain ⟨k, e⟩ : ∃ k, a.size = k + 1 := ⟨a.size - 1, by omega⟩
  unfold mean
  rw [e]
  show (if a.inn = true then _ else _) = _
  rw [if_neg (by rw [i]; simp)]
/-- what holds of all areas within, from the small ones on -/
theorem area_ind {p : Ar → Prop} (h1 : ∀ a, a.ok → a.inn = false → p a) (h2 : ∀ a, a.ok → a.inn = true → p (a.half false) → p (a.half true) → p a) : ∀ a, a.ok → p a := by
  suffices q : ∀ k a, a.ok → a.size ≤ k → p a from fun a o => q a.size a o (Nat.le_refl _)
  intro k
  induction k with
  | zero => exact fun a o h => absurd (ok_size o) (by omega)
  | succ k ih =>
    intro a o h
    cases i : a.inn
    · exact h1 a o i
    · have l0 := half_lt o i false
      have l1 := half_lt o i true
      exact h2 a o i (ih _ (half_ok o i false) (by omega)) (ih _ (half_ok o i true) (by omega))
theorem mean_shift {f : Nat → Nat → Int} {k : Int} : ∀ a, a.ok → mean (fun y x => f y x + k) a = mean f a + k :=
  area_ind (fun a o i => by rw [mean_one o i, mean_one o i]) fun a o i x y => by
    rw [mean_in o i, mean_in o i, x, y]
    omega
/-- the spots of an area -/
def Spot (a : Ar) (y x : Nat) : Prop := a.t ≤ y ∧ y < a.t + a.h ∧ a.l ≤ x ∧ x < a.l + a.w
theorem spot_half {a : Ar} {b : Bool} {y x : Nat} (h : Spot (a.half b) y x) : Spot a y x := by
  have := half_in (a := a) b
  unfold Spot In at *
  omega
theorem mean_between {f : Nat → Nat → Int} {lo hi : Int} : ∀ a : Ar, a.ok → (∀ y x, Spot a y x → lo ≤ f y x ∧ f y x ≤ hi) → lo ≤ mean f a ∧ mean f a ≤ hi :=
  area_ind (fun a o i h => by
    rw [mean_one o i]
    exact h _ _ ⟨Nat.le_refl _, by have := o.1; omega, Nat.le_refl _, by have := o.2; omega⟩) fun a o i p q h => by
    rw [mean_in o i]
    have h1 := p fun y x s => h y x (spot_half s)
    have h2 := q fun y x s => h y x (spot_half s)
    omega
theorem mean_same {f : Nat → Nat → Int} {c : Int} {a : Ar} (o : a.ok) (h : ∀ y x, Spot a y x → f y x = c) : mean f a = c := by
  have := mean_between (f := f) (lo := c) (hi := c) a o fun y x s => by rw [h y x s]; omega
  omega
theorem mean_eq {f g : Nat → Nat → Int} : ∀ a : Ar, a.ok → (∀ y x, Spot a y x → f y x = g y x) → mean f a = mean g a :=
  area_ind (fun a o i h => by
    rw [mean_one o i, mean_one o i]
    exact h _ _ ⟨Nat.le_refl _, by have := o.1; omega, Nat.le_refl _, by have := o.2; omega⟩) fun a o i p q h => by
    rw [mean_in o i, mean_in o i, p fun y x s => h y x (spot_half s), q fun y x s => h y x (spot_half s)]
theorem spot_apart {a : Ar} (o : a.ok) (i : a.inn = true) {y x : Nat} (h1 : Spot (a.half false) y x) (h2 : Spot (a.half true) y x) : False := by
  have := half_apart (r := ⟨y, x, 1, 1⟩) (s := ⟨y, x, 1, 1⟩) o i ⟨Nat.le_refl _, Nat.le_refl _⟩ (by unfold Spot In at *; dsimp; omega) (by unfold Spot In at *; dsimp; omega)
  rcases this with z | z <;> exact z rfl
/-! the areas, each with its way -/
def root (h w : Nat) : Ar := ⟨0, 0, h, w⟩
def regs (a : Ar) (n : Nat) : List Ar := (ways a n).map (reg a)
def areasL (h w : Nat) : List Ar := (allW (root h w)).map (reg (root h w))
def innL (h w : Nat) : List Ar := (areasL h w).filter Ar.inn
def diff (f : Nat → Nat → Int) (a : Ar) : Int := mean f (a.half true) - mean f (a.half false)
def liftL (f : Nat → Nat → Int) (h w : Nat) : List Int := mean f (root h w) :: (innL h w).map (diff f)
section
variable {h w : Nat} (h1 : 1 ≤ h) (w1 : 1 ≤ w)
include h1 w1
theorem root_ok : (root h w).ok := ⟨h1, w1⟩
theorem areas_grown : Grown (root h w) (allW (root h w)) (many (root h w)) := Grown.at (root_ok h1 w1) _ (Nat.le_refl _)
theorem areas_len : (areasL h w).length = 2 * (h * w) - 1 := by
  unfold areasL
  rw [List.length_map, allW_len (root_ok h1 w1)]
  rfl
theorem areas_ok {a : Ar} (m : a ∈ areasL h w) : a.ok ∧ In a (root h w) := by
  obtain ⟨p, hp, rfl⟩ := List.mem_map.mp m
  have g := way_ok (root_ok h1 w1) ((areas_grown h1 w1).way p hp)
  exact ⟨g.1, g.2.1⟩
theorem areas_nodup : (areasL h w).Nodup := by
  unfold areasL
  have g := areas_grown h1 w1
  have o := root_ok h1 w1
  rw [List.Nodup, List.pairwise_map]
  exact List.Pairwise.imp_of_mem (fun {p q} hp hq n e => n (way_inj o (g.way p hp) (g.way q hq) e)) g.nd
theorem areas_inj {i j : Nat} {a : Ar} (hi : (areasL h w)[i]? = some a) (hj : (areasL h w)[j]? = some a) : i = j :=
  (List.getElem?_inj (List.getElem?_eq_some_iff.mp hi).1 (areas_nodup h1 w1)).mp (hi.trans hj.symm)
end
/-- how many of the first n areas are inner -/
def kth (h w n : Nat) : Nat := ((areasL h w).take n).countP Ar.inn
theorem kth_cnt (h w n : Nat) : kth h w n = cnt (root h w) (allW (root h w)) n := by
  unfold kth areasL cnt
  rw [← List.map_take, List.countP_map]
  rfl
theorem kth_succ {h w n : Nat} {a : Ar} (e : (areasL h w)[n]? = some a) : kth h w (n + 1) = kth h w n + (if a.inn = true then 1 else 0) := by
  unfold kth
  rw [List.take_add_one, e, List.countP_append]
  cases i : a.inn <;> simp [i]
theorem kth_inn {h w n : Nat} {a : Ar} (e : (areasL h w)[n]? = some a) (i : a.inn = true) : (innL h w)[kth h w n]? = some a := by
  unfold innL kth
  generalize areasL h w = L at e
  induction L generalizing n with
  | nil => simp at e
  | cons x L ih =>
    cases n with
    | zero =>
      simp at e
      subst e
      simp [i]
    | succ n =>
      have e : L[n]? = some a := by simpa using e
      have q := ih e
      rw [List.take_succ_cons, List.countP_cons, List.filter_cons]
      cases z : x.inn
      · simpa using q
      · simpa using q
section
variable {h w : Nat} (h1 : 1 ≤ h) (w1 : 1 ≤ w)
include h1 w1
theorem kth_all : 2 * kth h w (2 * (h * w) - 1) + 1 = 2 * (h * w) - 1 := by
  have g := (areas_grown h1 w1).len
  rw [allW_len (root_ok h1 w1)] at g
  rw [kth_cnt]
  have e : many (root h w) = 2 * (h * w) - 1 := rfl
  rw [e] at g
  omega
theorem inn_len : (innL h w).length = h * w - 1 := by
  have g := kth_all h1 w1
  have l := areas_len h1 w1
  have e : kth h w (2 * (h * w) - 1) = (innL h w).length := by
    unfold kth innL
    rw [← l, List.take_length, List.countP_eq_length_filter]
  have := Nat.mul_pos h1 w1
  omega
theorem kids_at {i : Nat} {a : Ar} (e : (areasL h w)[i]? = some a) (n : a.inn = true) : (areasL h w)[2 * kth h w (i + 1) - 1]? = some (a.half false) ∧ (areasL h w)[2 * kth h w (i + 1)]? = some (a.half true) ∧ i < 2 * kth h w (i + 1) - 1 := by
  have g := areas_grown h1 w1
  have li := (List.getElem?_eq_some_iff.mp e).1
  rw [areas_len h1 w1] at li
  unfold areasL at e
  rw [List.getElem?_map] at e
  cases hp : (allW (root h w))[i]? with
  | none => rw [hp] at e; cases e
  | some p =>
    rw [hp] at e
    have e : reg (root h w) p = a := Option.some.inj e
    rw [kth_cnt]
    obtain ⟨k1, k2⟩ := g.kids i p li hp (by rw [e]; exact n)
    refine ⟨?_, ?_, ?_⟩
    · unfold areasL
      rw [List.getElem?_map, k1]
      show some (reg _ (p ++ [false])) = _
      rw [reg_snoc, e]
    · unfold areasL
      rw [List.getElem?_map, k2]
      show some (reg _ (p ++ [true])) = _
      rw [reg_snoc, e]
    · -- the list was longer than i when it grew
      have li' : i ≤ 2 * (root h w).size - 1 := Nat.le_of_lt li
      have gi := Grown.at (root_ok h1 w1) i li'
      have lt := (gi.lt_iff (root_ok h1 w1)).mpr li
      obtain ⟨R, eR⟩ := ways_pre (root_ok h1 w1) (n := i) li'
      have ec : cnt (root h w) (allW (root h w)) (i + 1) = cnt (root h w) (ways (root h w) i) i + 1 := by
        rw [cnt_succ hp, if_pos (by rw [e]; exact n), eR, cnt_app gi.le]
      have gl := gi.len
      rw [ec]
      omega
/-- each area but the whole one is the half of one ahead -/
theorem par_at {j : Nat} {b : Ar} (e : (areasL h w)[j]? = some b) (j0 : 0 < j) : ∃ i a c, i < j ∧ (areasL h w)[i]? = some a ∧ a.inn = true ∧ b = a.half c ∧ j = (if c then 2 * kth h w (i + 1) else 2 * kth h w (i + 1) - 1) := by
  have g := areas_grown h1 w1
  have o := root_ok h1 w1
  have e0 := e
  unfold areasL at e
  rw [List.getElem?_map] at e
  cases hp : (allW (root h w))[j]? with
  | none => rw [hp] at e; cases e
  | some p =>
    rw [hp] at e
    have e : reg (root h w) p = b := Option.some.inj e
    rcases List.eq_nil_or_concat p with z | ⟨q, c, z⟩
    · subst z
      have := (List.getElem?_inj (List.getElem?_eq_some_iff.mp hp).1 g.nd).mp (hp.trans g.root.symm)
      omega
    · rw [List.concat_eq_append] at z
      subst z
      obtain ⟨i, hi, eq⟩ := g.kid q c (List.mem_of_getElem? hp)
      have ea : (areasL h w)[i]? = some (reg (root h w) q) := by
        unfold areasL
        rw [List.getElem?_map, eq]
        rfl
      have wy := g.way _ (List.mem_of_getElem? hp)
      have inn : (reg (root h w) q).inn = true := by
        have : ∀ (q : List Bool) (a : Ar), Way a (q ++ [c]) → (reg a q).inn = true := fun q => by
          induction q with
          | nil => exact fun a y => y.1
          | cons d q ih => exact fun a y => ih _ y.2
        exact this q _ wy
      obtain ⟨k1, k2, k3⟩ := kids_at h1 w1 ea inn
      have eb : b = (reg (root h w) q).half c := by rw [← e, reg_snoc]
      cases c
      · have := areas_inj h1 w1 e0 (eb ▸ k1)
        exact ⟨i, _, false, by omega, ea, inn, eb, by simpa using this⟩
      · have := areas_inj h1 w1 e0 (eb ▸ k2)
        exact ⟨i, _, true, by omega, ea, inn, eb, by simpa using this⟩
/-- each spot is an area of its own -/
theorem leaf_at {y x : Nat} (hy : y < h) (hx : x < w) : (⟨y, x, 1, 1⟩ : Ar) ∈ areasL h w := by
  suffices q : ∀ a, a.ok → a ∈ areasL h w → Spot a y x → (⟨y, x, 1, 1⟩ : Ar) ∈ areasL h w by
    refine q (root h w) (root_ok h1 w1) ?_ ⟨Nat.zero_le _, by show y < 0 + h; omega, Nat.zero_le _, by show x < 0 + w; omega⟩
    unfold areasL
    exact List.mem_map.mpr ⟨[], List.mem_of_getElem? (areas_grown h1 w1).root, rfl⟩
  refine area_ind (fun a o i m s => ?_) fun a o i p q m s => ?_
  · obtain ⟨e1, e2⟩ := one_of o i
    unfold Spot at s
    have : a = ⟨y, x, 1, 1⟩ := by
      cases a
      simp only at *
      congr 1 <;> omega
    rw [← this]
    exact m
  · obtain ⟨n, hn⟩ := List.getElem?_of_mem m
    obtain ⟨k1, k2, _⟩ := kids_at h1 w1 hn i
    obtain ⟨b, hb⟩ := half_cover (a := a) s
    cases b
    · exact p (List.mem_of_getElem? k1) hb
    · exact q (List.mem_of_getElem? k2) hb
end
/-! ### back again -/
/-- the means of the areas that are listed when n of them are done -/
def upL (h w : Nat) (m : Nat → Int) : Nat → List Int
  | 0 => [m 0]
  | n + 1 => match (areasL h w)[n]? with
    | some a => if a.inn = true then upL h w m n ++ [(upL h w m n).getD n 0 - m (kth h w (n + 1)) / 2, (upL h w m n).getD n 0 + m (kth h w (n + 1)) - m (kth h w (n + 1)) / 2] else upL h w m n
    | none => upL h w m n
theorem kth_zero (h w : Nat) : kth h w 0 = 0 := rfl
theorem upL_len {h w : Nat} {m : Nat → Int} : ∀ n, n ≤ (areasL h w).length → (upL h w m n).length = 1 + 2 * kth h w n
  | 0, _ => rfl
  | n + 1, l => by
    obtain ⟨a, e⟩ : ∃ a, (areasL h w)[n]? = some a := ⟨_, List.getElem?_eq_getElem l⟩
    have ih := upL_len (h := h) (w := w) (m := m) n (Nat.le_of_succ_le l)
    rw [kth_succ e]
    have u : upL h w m (n + 1) = if a.inn = true then upL h w m n ++ [(upL h w m n).getD n 0 - m (kth h w (n + 1)) / 2, (upL h w m n).getD n 0 + m (kth h w (n + 1)) - m (kth h w (n + 1)) / 2] else upL h w m n := by
      show (match (areasL h w)[n]? with | some a => _ | none => _ : List Int) = _
      rw [e]
    rw [u]
    by_cases i : a.inn = true
    · rw [if_pos i, if_pos i, List.length_append, ih]
      simp only [List.length_cons, List.length_nil]
      omega
    · rw [if_neg i, if_neg i, ih]
      omega
theorem upL_pre {h w : Nat} {m : Nat → Int} (n : Nat) : ∀ k, ∃ R, upL h w m (n + k) = upL h w m n ++ R
  | 0 => ⟨[], by simp⟩
  | k + 1 => by
    obtain ⟨R, e⟩ := upL_pre (h := h) (w := w) (m := m) n k
    have s : ∃ S, upL h w m (n + k + 1) = upL h w m (n + k) ++ S := by
      show ∃ S, (match (areasL h w)[n + k]? with | some a => _ | none => _ : List Int) = _
      split
      · split
        · exact ⟨_, rfl⟩
        · exact ⟨[], by simp⟩
      · exact ⟨[], by simp⟩
    obtain ⟨S, s⟩ := s
    exact ⟨R ++ S, by rw [← Nat.add_assoc, s, e, List.append_assoc]⟩
theorem upL_get {h w : Nat} {m : Nat → Int} {n N j : Nat} {x : Int} (l : n ≤ N) (e : (upL h w m n)[j]? = some x) : (upL h w m N)[j]? = some x := by
  obtain ⟨R, q⟩ := upL_pre (h := h) (w := w) (m := m) n (N - n)
  rw [show n + (N - n) = N by omega] at q
  rw [q, List.getElem?_append_left (List.getElem?_eq_some_iff.mp e).1]
  exact e
section
variable {h w : Nat} (h1 : 1 ≤ h) (w1 : 1 ≤ w) (m : Nat → Int)
/-- all means, from the lifted numbers m -/
def up (h w : Nat) (m : Nat → Int) : List Int := upL h w m (2 * (h * w) - 1)
include h1 w1
theorem up_len : (up h w m).length = 2 * (h * w) - 1 := by
  unfold up
  rw [upL_len _ (by rw [areas_len h1 w1]; exact Nat.le_refl _)]
  have := kth_all h1 w1
  omega
/-- the turn of the area at i -/
theorem upL_lt {i : Nat} (li : i < 2 * (h * w) - 1) : i < (upL h w m i).length := by
  rw [upL_len _ (by rw [areas_len h1 w1]; omega)]
  rcases Nat.eq_zero_or_pos i with z | z
  · omega
  · have la : i < (areasL h w).length := by rw [areas_len h1 w1]; exact li
    obtain ⟨j, a, c, hj, e, n, _, ej⟩ := par_at h1 w1 (List.getElem?_eq_getElem la) z
    have hm : kth h w (j + 1) ≤ kth h w i := by
      unfold kth
      exact List.Sublist.countP_le (List.take_sublist_take_left hj)
    cases c
    · have : i = 2 * kth h w (j + 1) - 1 := by simpa using ej
      omega
    · have : i = 2 * kth h w (j + 1) := by simpa using ej
      omega
theorem up_kids {i : Nat} {a : Ar} (e : (areasL h w)[i]? = some a) (n : a.inn = true) {x : Int} (hx : (up h w m)[i]? = some x) :
    (up h w m)[2 * kth h w (i + 1) - 1]? = some (x - m (kth h w (i + 1)) / 2) ∧ (up h w m)[2 * kth h w (i + 1)]? = some (x + m (kth h w (i + 1)) - m (kth h w (i + 1)) / 2) := by
  have li := (List.getElem?_eq_some_iff.mp e).1
  rw [areas_len h1 w1] at li
  have ll := upL_lt h1 w1 m li
  have ex : (upL h w m i).getD i 0 = x := by
    rw [List.getD_eq_getElem?_getD, List.getElem?_eq_getElem ll, Option.getD_some]
    have := upL_get (N := 2 * (h * w) - 1) (Nat.le_of_lt li) (List.getElem?_eq_getElem ll)
    exact Option.some.inj (this.symm.trans hx)
  have u : upL h w m (i + 1) = upL h w m i ++ [x - m (kth h w (i + 1)) / 2, x + m (kth h w (i + 1)) - m (kth h w (i + 1)) / 2] := by
    show (match (areasL h w)[i]? with | some a => _ | none => _ : List Int) = _
    rw [e]
    dsimp only
    rw [if_pos n, ex]
  have len := upL_len (h := h) (w := w) (m := m) i (by rw [areas_len h1 w1]; omega)
  have ks := kth_succ e
  rw [if_pos n] at ks
  have i1 : 2 * kth h w (i + 1) - 1 = (upL h w m i).length := by omega
  have i2 : 2 * kth h w (i + 1) = (upL h w m i).length + 1 := by omega
  refine ⟨upL_get (n := i + 1) li ?_, upL_get (n := i + 1) li ?_⟩
  · rw [u, i1, List.getElem?_append_right (Nat.le_refl _), Nat.sub_self]
    rfl
  · rw [u, i2, List.getElem?_append_right (by omega), show (upL h w m i).length + 1 - (upL h w m i).length = 1 by omega]
    rfl
theorem up_root : (up h w m)[0]? = some (m 0) := upL_get (n := 0) (Nat.zero_le _) rfl
end
def numAt (ns : List Int) (k : Nat) : Int := ns.getD k 0
def fOf (ns : List Int) (w : Nat) : Nat → Nat → Int := fun y x => ns.getD (y * w + x) 0
/-- the number at a spot, from the means -/
def cellV (h w : Nat) (u : List Int) (y x : Nat) : Int := u.getD ((areasL h w).idxOf ⟨y, x, 1, 1⟩) 0
def downL (h w : Nat) (m : Nat → Int) : List Int := (List.range (h * w)).map fun j => cellV h w (up h w m) (j / w) (j % w)
section
variable {h w : Nat} (h1 : 1 ≤ h) (w1 : 1 ≤ w)
include h1 w1
theorem root_at : (areasL h w)[0]? = some (root h w) := by
  unfold areasL
  rw [List.getElem?_map, (areas_grown h1 w1).root]
  rfl
theorem lift_at {f : Nat → Nat → Int} {i : Nat} {a : Ar} (e : (areasL h w)[i]? = some a) (n : a.inn = true) : (liftL f h w).getD (kth h w (i + 1)) 0 = diff f a := by
  have ks := kth_succ e
  rw [if_pos n] at ks
  rw [ks, List.getD_eq_getElem?_getD]
  show (((innL h w).map (diff f))[kth h w i]?).getD 0 = _
  rw [List.getElem?_map, kth_inn e n]
  rfl
theorem liftL_len {f : Nat → Nat → Int} : (liftL f h w).length = h * w := by
  have := inn_len h1 w1
  have := Nat.mul_pos h1 w1
  show ((innL h w).map (diff f)).length + 1 = _
  rw [List.length_map]
  omega
/-- lifted and taken back: the means -/
theorem up_lift {f : Nat → Nat → Int} : ∀ (j : Nat) (a : Ar), (areasL h w)[j]? = some a → (up h w (numAt (liftL f h w)))[j]? = some (mean f a) := by
  intro j
  induction j using Nat.strongRecOn with
  | _ j ih =>
    intro b e
    rcases Nat.eq_zero_or_pos j with z | z
    · subst z
      rw [root_at h1 w1] at e
      cases e
      exact up_root h1 w1 _
    · obtain ⟨i, a, c, hi, ea, n, rfl, ej⟩ := par_at h1 w1 e z
      obtain ⟨k1, k2⟩ := up_kids h1 w1 _ ea n (ih i hi a ea)
      have d : numAt (liftL f h w) (kth h w (i + 1)) = diff f a := lift_at h1 w1 ea n
      rw [d] at k1 k2
      have mi := mean_in (f := f) (areas_ok h1 w1 (List.mem_of_getElem? ea)).1 n
      unfold diff at k1 k2
      cases c
      · have ej : j = 2 * kth h w (i + 1) - 1 := by simpa using ej
        rw [ej, k1]
        congr 1
        omega
      · have ej : j = 2 * kth h w (i + 1) := by simpa using ej
        rw [ej, k2]
        congr 1
        omega
theorem idx_at {j : Nat} {a : Ar} (e : (areasL h w)[j]? = some a) : (areasL h w).idxOf a = j := by
  have m := List.mem_of_getElem? e
  have l := List.idxOf_lt_length_iff.mpr m
  refine areas_inj h1 w1 (a := a) ?_ e
  rw [List.getElem?_eq_getElem l, List.getElem_idxOf]
theorem cell_lift {f : Nat → Nat → Int} {y x : Nat} (hy : y < h) (hx : x < w) : cellV h w (up h w (numAt (liftL f h w))) y x = f y x := by
  obtain ⟨j, e⟩ := List.getElem?_of_mem (leaf_at h1 w1 hy hx)
  have q := up_lift h1 w1 (f := f) j _ e
  unfold cellV
  rw [idx_at h1 w1 e, List.getD_eq_getElem?_getD, q, Option.getD_some]
  exact mean_one ⟨Nat.le_refl _, Nat.le_refl _⟩ rfl
/-- taken back and lifted: the means -/
theorem mean_up {m : Nat → Int} : ∀ a : Ar, a.ok → ∀ j : Nat, (areasL h w)[j]? = some a → (up h w m)[j]? = some (mean (cellV h w (up h w m)) a) := by
  refine area_ind (fun a o i j e => ?_) fun a o i p q j e => ?_
  · obtain ⟨e1, e2⟩ := one_of o i
    rw [mean_one o i]
    have ea : a = ⟨a.t, a.l, 1, 1⟩ := by
      cases a
      simp only at *
      congr 1
    unfold cellV
    have l : j < (up h w m).length := by
      rw [up_len h1 w1, ← areas_len h1 w1]
      exact (List.getElem?_eq_some_iff.mp e).1
    rw [← ea, idx_at h1 w1 e, List.getD_eq_getElem?_getD, List.getElem?_eq_getElem l, Option.getD_some]
  · have l : j < (up h w m).length := by
      rw [up_len h1 w1, ← areas_len h1 w1]
      exact (List.getElem?_eq_some_iff.mp e).1
    obtain ⟨k1, k2, _⟩ := kids_at h1 w1 e i
    obtain ⟨u1, u2⟩ := up_kids h1 w1 m e i (List.getElem?_eq_getElem l)
    have p1 := Option.some.inj ((p _ k1).symm.trans u1)
    have p2 := Option.some.inj ((q _ k2).symm.trans u2)
    rw [List.getElem?_eq_getElem l, mean_in o i, p1, p2]
    congr 1
    omega
theorem diff_up {m : Nat → Int} {j : Nat} {a : Ar} (e : (areasL h w)[j]? = some a) (i : a.inn = true) : diff (cellV h w (up h w m)) a = m (kth h w (j + 1)) := by
  have l : j < (up h w m).length := by
    rw [up_len h1 w1, ← areas_len h1 w1]
    exact (List.getElem?_eq_some_iff.mp e).1
  have o := (areas_ok h1 w1 (List.mem_of_getElem? e)).1
  obtain ⟨k1, k2, _⟩ := kids_at h1 w1 e i
  obtain ⟨u1, u2⟩ := up_kids h1 w1 m e i (List.getElem?_eq_getElem l)
  have p1 := Option.some.inj ((mean_up h1 w1 _ (half_ok o i false) _ k1).symm.trans u1)
  have p2 := Option.some.inj ((mean_up h1 w1 _ (half_ok o i true) _ k2).symm.trans u2)
  unfold diff
  rw [p1, p2]
  omega
end
end K16
namespace KY
open PySem PySem.Spec PyProof.Rows L2 PySem.W LamX KA KW
/-! ### x == y, x != y, where x is an instance whose class writes __eq__ and no __ne__ -/
section
variable {X : Cx} {CX : CXT} {n : Nat} {C f : Addr} {fd : FuncData} {ps : List Str} {sp : Sp} {E : XK}
theorem own_call {A : Around} {pins : List (Addr × Obj)} {σ : L2.St} {H : Hp} {s : Shared} {x y : V} {v u : Value} {R : Bool → Hp → Prop} (sb : L2.Sub X n A) (F : FnOk X.prog X.w X.K X.mg X.base CX n f fd ps sp) (hb : Binds X.K fd ps []) (hx : Passes CX X E)
    (I : Inv X pins σ H s) (rx : RelV x v) (ry : RelV y u) (hsp : sp [x, y] H (fun v H' => ∃ b, v = .bl b ∧ R b H') E) :
    wpAny (model X.prog X.w) A (call (.ref f) [v, u]) (fun r s' => ∃ b, r = .bool b ∧ ∃ H', Inv X pins σ H' s' ∧ R b H') X.xe s := by
  have e0 : Env0 X.prog X.w X.K X.mg X.base A X.stack s H := by
    have e := I.env0
    exact ⟨by rw [sb.fr]; exact e.frames, e.mod, e.bs, e.bsz, e.funs, e.frf, e.hok, e.bare⟩
  have hl := F.len _ _ _ _ hsp
  have r2 : L2.Vals [x, y] [v, u] := .cons rx (.cons ry .nil)
  refine wpAny_call (codeAny_mono (F.run A X.stack s H ⟨[v, u], []⟩ [v, u] [x, y] _ E sb.room e0 (by
    have := hb s [v, u] I.kIn (by simpa using hl)
    simpa using this) r2 hsp) fun r s' hq => ?_)
  cases r with
  | error e => exact hx pins σ H s e s' I hq
  | ok fl =>
    cases fl with
    | ret w =>
      obtain ⟨z, H', I', rz, b, ez, ex⟩ := I.after hq
      subst ez
      cases rz
      exact ⟨b, rfl, H', I', ex⟩
    | next => exact False.elim hq
    | brk => exact False.elim hq
    | cont => exact False.elim hq
def rEqI (K : PySem.W.Frag) (C : Addr) (sp : Sp) (E : XK) (g : Bool → Bool) : R2 := fun x y H Q => ∃ a dx fs tb, x = .ref a ∧ H a = some (.ins C dx fs) ∧ TyX K H y tb ∧ PySem.W.notFirst K C tb = true ∧ sp [x, y] H (fun v H' => ∃ b, v = .bl b ∧ Q (.bl (g b)) H') E
theorem op_eqI (F : FnOk X.prog X.w X.K X.mg X.base CX n f fd ps sp) (hr : Room n X.A) (hs : PySem.W.findIn X.K (.ref C) "__eq__" = some (some (.ref f))) (hf : PySem.W.isFn X.K (.ref f) = true) (hb : Binds X.K fd ps []) (hx : Passes CX X E) :
    OpR X (compareOp .Eq) (rEqI X.K C sp E fun b => b) := by
  intro pins s σ H x y v u Q I rx ry h
  obtain ⟨a, dx, fs, tb, rfl, ha, ty, nf, hsp⟩ := h
  cases rx
  obtain ⟨mA, J, _⟩ := ins_get I.hok ha
  obtain ⟨od, J, _⟩ := J.look
  obtain ⟨Pk, Z, pk, _⟩ := kit_of I ry ty
  obtain ⟨m, hF⟩ := I.fr
  show wpAny (model X.prog X.w) X.A (richCompare .Eq (.ref a) u) (EP X pins σ Q) X.xe s
  refine PySem.W.cmp_K (op := .Eq) hr.units0 hF I.ok.mod.kin J (Z.ty _ _ I.kIn pk) nf hs hf ?_
  refine wpAny_mono (own_call ⟨hr, rfl⟩ F hb hx I (x := .ref a) (show L2.RelV (.ref a) (.ref a) from rfl) ry hsp) (fun r s' hq => ?_) fun _ _ e => e
  obtain ⟨b, rfl, H', I', q⟩ := hq
  exact ⟨.bl b, H', I', rfl, q⟩
section
variable {M : Model} {prog : Program} {w : World} {A : Around} {E' : Value → Shared → Prop} {s : Shared} {K : PySem.W.Frag} {x : Addr} {ox : Obj} {od : Option Obj}
theorem ifBound_objNe {args : List Value} {Q : Option Value → Shared → Prop} (X : K.In s.heap) (I : PySem.W.InstAt s.heap x ox C od) (hs : PySem.W.findIn K (.ref C) "__ne__" = some (some (.builtin "object.__ne__")))
    (h : wpAny M A (call (.builtin "object.__ne__") (.ref x :: args)) (fun v => Q (some v)) E' s) : wpAny M A (callSpecialIfBound? (.ref x) "__ne__" args) Q E' s := by
  simp only [callSpecialIfBound?, bindSpecialIfBound?]
  refine wpAny_holding (wpAny_bind (wpAny_bind (wpAny_bind (I.type.here ((PySem.W.looks_findIn X hs).here ?_)))))
  refine wpAny_bind (wpAny_askSetting (wpAny_ite ?_))
  have fin : wpAny M A (call (.builtin "object.__ne__") ([.ref x] ++ args) >>= fun v => pure (some v)) Q E' s := wpAny_bind (wpAny_mono h (fun v s' h' => wpAny_pure h') fun _ _ h' => h')
  split
  · exact wpAny_bind (wpAny_of_eq (F.cmp_object.ne.bind _) (wpAny_pure (by exact fin)))
  · exact wpAny_tryCatch (wpAny_bind (wpAny_of_eq (F.cmp_object.ne.bind _) (wpAny_pure (by exact fin))))
theorem entry_ne {y : Value} {Q : Fin → Shared → Prop} (hu : A.units < cLine) (X : K.In s.heap) (I : PySem.W.InstAt s.heap x ox C od) (hs : PySem.W.findIn K (.ref C) "__eq__" = some (some (.ref f))) (hf : PySem.W.isFn K (.ref f) = true)
    (hcall : wpAny (model prog w) A (call (.ref f) [.ref x, y]) (fun v s' => ∃ b, v = .bool b ∧ Q (.done (.ret (.bool (!b)))) s') E' s) :
    wpAny (model prog w) A (Builtin.«object.__ne__» ⟨[.ref x, y], []⟩) Q E' s := by
  unfold Builtin.«object.__ne__»
  repeat (first
    | with_reducible refine wpAny_cRoomFor hu ?_
    | (refine wpAny_bind (m := callSpecialIfBound? (.ref x) (Str.ofString "__eq__") [y])
        (PySem.W.ifBound_K X I hs hf (wpAny_mono hcall (fun r s' hr => by
          obtain ⟨b, rfl, hq⟩ := hr
          repeat (first | exact hq | exact wpAny_pure hq | exact wpAny_truthy_bool hq | (refine wpAny_bind (m := truthy (.bool _)) (wpAny_truthy_bool ?_)) | wp_step)) fun _ _ e => e)))
    | wp_step)
theorem ne_K {L : Addr} {h₀ : Heap} {m : Str → Option Value} {b tb : Value} {Q : Value → Shared → Prop} (hu : A.units + 1 < cLine) (hF : Fr h₀ L s.heap m) (X₀ : K.In h₀) (I : PySem.W.InstAt s.heap x ox C od) (hb : PySem.W.Looks (model prog w) s.heap (typeOf b) tb) (hn : PySem.W.notFirst K C tb = true)
    (hne : PySem.W.findIn K (.ref C) "__ne__" = some (some (.builtin "object.__ne__"))) (hm : PySem.W.mroIn K C (.type "object") = some true) (hs : PySem.W.findIn K (.ref C) "__eq__" = some (some (.ref f))) (hf : PySem.W.isFn K (.ref f) = true)
    (h : wpAny (model prog w) A.in1 (call (.ref f) [.ref x, b]) (fun v s' => ∃ c, v = .bool c ∧ Q (.bool (!c)) s') E' s) : wpAny (model prog w) A (richCompare .NotEq (.ref x) b) Q E' s := by
  have X := X₀.keeps hF.keep
  have one : wpAny (model prog w) A (tryCompare (.ref x) "__ne__" b) (fun r s' => ∃ v, r = some v ∧ Q v s') E' s := by
    unfold tryCompare
    refine wpAny_bind (ifBound_objNe X I hne ?_)
    refine wpAny_call (codeAny_call_builtin F.cmp_object.ne.plain F.cmpEntry_ne (PySem.W.check_slot F.cmpKind_ne F.cmpSplit_ne (I.type.andThen (PySem.W.looks_mroIn X hm)) (F.cmpArgs_ne _ _) (entry_ne (A := A.in1) (by show A.units + 1 < cLine; exact hu) X I hs hf (wpAny_mono h (fun r s' hr => ?_) fun _ _ e => e))))
    obtain ⟨c, rfl, q⟩ := hr
    refine ⟨c, rfl, ?_⟩
    first
      | exact wpAny_pure ⟨_, rfl, q⟩
      | exact ⟨_, rfl, q⟩
  unfold richCompare
  simp only [oneThing_ref]
  refine wpAny_holding (wpAny_bind (wpAny_cRoomFor (by omega) ?_))
  refine wpAny_bind (I.type.here (wpAny_bind (hb.here ?_)))
  split
  · rename_i q
    have e : subIn K tb (.ref C) = some false := by
      rcases Bool.or_eq_true_iff.mp hn with e | e
      · rw [beq_iff_eq.mp e] at q; simp at q
      · exact beq_iff_eq.mp e
    refine wpAny_bind ((looks_subIn X e).here ?_)
    simp only [Bool.false_eq_true, if_false]
    refine wpAny_bind (wpAny_mono one (fun r s' z => ?_) fun _ _ e => e)
    obtain ⟨v, rfl, hq⟩ := z
    exact wpAny_pure hq
  · refine wpAny_bind (wpAny_pure ?_)
    simp only [Bool.false_eq_true, if_false]
    refine wpAny_bind (wpAny_mono one (fun r s' z => ?_) fun _ _ e => e)
    obtain ⟨v, rfl, hq⟩ := z
    exact wpAny_pure hq
end
theorem op_neI (F : FnOk X.prog X.w X.K X.mg X.base CX n f fd ps sp) (hr : Room (n + 1) X.A) (hs : PySem.W.findIn X.K (.ref C) "__eq__" = some (some (.ref f))) (hne : PySem.W.findIn X.K (.ref C) "__ne__" = some (some (.builtin "object.__ne__"))) (hm : PySem.W.mroIn X.K C (.type "object") = some true)
    (hf : PySem.W.isFn X.K (.ref f) = true) (hb : Binds X.K fd ps []) (hx : Passes CX X E) :
    OpR X (compareOp .NotEq) (rEqI X.K C sp E fun b => !b) := by
  intro pins s σ H x y v u Q I rx ry h
  obtain ⟨a, dx, fs, tb, rfl, ha, ty, nf, hsp⟩ := h
  cases rx
  obtain ⟨mA, J, _⟩ := ins_get I.hok ha
  obtain ⟨od, J, _⟩ := J.look
  obtain ⟨Pk, Z, pk, _⟩ := kit_of I ry ty
  obtain ⟨m, hF⟩ := I.fr
  show wpAny (model X.prog X.w) X.A (richCompare .NotEq (.ref a) u) (EP X pins σ Q) X.xe s
  have hu : X.A.units + 1 < cLine := by
    have := hr.units
    omega
  refine ne_K hu hF I.ok.mod.kin J (Z.ty _ _ I.kIn pk) nf hne hm hs hf ?_
  refine wpAny_mono (own_call (L2.Sub.in1 ⟨hr, rfl⟩) F hb hx I (x := .ref a) (show L2.RelV (.ref a) (.ref a) from rfl) ry hsp) (fun r s' hq => ?_) fun _ _ e => e
  obtain ⟨b, rfl, H', I', q⟩ := hq
  exact ⟨b, rfl, .bl (!b), H', I', rfl, q⟩
end
end KY
namespace K16
open PySem PySem.Spec PyProof.Rows L2 PySem.W LamX KA KW KU KL KT
open Evl (pss_cut tCut)
/-! ### areas as values -/
def arV (a : Ar) : List V := [.int a.t, .int a.l, .int a.h, .int a.w]
inductive AL (H : Hp) : List V → List Ar → Prop
  | nil : AL H [] []
  | cons {p : Addr} {a : Ar} {vs : List V} {as : List Ar} (e : H p = some (.tup (arV a))) (r : AL H vs as) : AL H (.ref p :: vs) (a :: as)
theorem AL.mono {H H' : Hp} {vs : List V} {as : List Ar} (p : AL H vs as) (k : ∀ b o, H b = some o → (∀ xs, o ≠ .lst xs) → H' b = some o) : AL H' vs as := by
  induction p with
  | nil => exact .nil
  | cons e _ ih => exact .cons (k _ _ e (fun xs z => by cases z)) ih
theorem AL.same {H H' : Hp} {vs : List V} {as : List Ar} (p : AL H vs as) (s : Same H H') : AL H' vs as := p.mono fun b o e _ => s b o e
theorem AL.put {H : Hp} {vs xs : List V} {as : List Ar} {D : Addr} {o : HO} (p : AL H vs as) (h : H D = some (.lst xs)) : AL (upd H D o) vs as := p.mono fun b o' e n => by
  rw [upd_ne (fun z => by rw [z, h] at e; exact n _ (Option.some.inj e).symm)]
  exact e
theorem AL.append {H : Hp} {vs us : List V} {as bs : List Ar} (p : AL H vs as) (q : AL H us bs) : AL H (vs ++ us) (as ++ bs) := by
  induction p with
  | nil => exact q
  | cons e _ ih => exact .cons e ih
theorem AL.len {H : Hp} {vs : List V} {as : List Ar} (p : AL H vs as) : vs.length = as.length := by
  induction p with
  | nil => rfl
  | cons _ _ ih => simp [ih]
theorem AL.at_ {H : Hp} {vs : List V} {as : List Ar} (p : AL H vs as) : ∀ {i : Nat} {a : Ar}, as[i]? = some a → ∃ q, vs[i]? = some (.ref q) ∧ H q = some (.tup (arV a)) := by
  induction p with
  | nil => intro i a h; simp at h
  | @cons q b vs as e r ih =>
    intro i a h
    cases i with
    | zero =>
      simp at h
      subst h
      exact ⟨q, rfl, e⟩
    | succ i => exact ih (by simpa using h)
theorem AL.get {H : Hp} {vs : List V} {as : List Ar} (p : AL H vs as) : ∀ {i : Nat} {v : V}, vs[i]? = some v → ∃ q a, v = .ref q ∧ as[i]? = some a ∧ H q = some (.tup (arV a)) := by
  induction p with
  | nil => intro i a h; simp at h
  | @cons q b vs as e r ih =>
    intro i v h
    cases i with
    | zero =>
      simp at h
      exact ⟨q, b, h.symm, rfl, e⟩
    | succ i => exact ih (by simpa using h)
theorem AL.rev {H : Hp} {vs : List V} {as : List Ar} (p : AL H vs as) : AL H vs.reverse as.reverse := by
  induction p with
  | nil => exact .nil
  | cons e _ ih =>
    rw [List.reverse_cons, List.reverse_cons]
    exact ih.append (.cons e .nil)
theorem ite_false {A B : Prop} {b : Bool} (h : b = false) (k : B) : if b = true then A else B := by
  rw [h, if_neg Bool.false_ne_true]
  exact k
theorem ite_true {A B : Prop} {b : Bool} (h : b = true) (k : A) : if b = true then A else B := by
  rw [h, if_pos rfl]
  exact k
/-- a number small enough to count with -/
structure Lit (a : Ar) : Prop where
  o : a.ok
  i : In a ⟨0, 0, 16, 16⟩
theorem Lit.bd {a : Ar} (h : Lit a) : a.t ≤ 16 ∧ a.l ≤ 16 ∧ a.h ≤ 16 ∧ a.w ≤ 16 := by
  obtain ⟨_, i⟩ := h
  unfold In at i
  dsimp at i
  omega
theorem Lit.half {a : Ar} (h : Lit a) (i : a.inn = true) (b : Bool) : Lit (a.half b) := ⟨half_ok h.o i b, (half_in b).trans h.i⟩
theorem lit_root {h w : Nat} (h1 : 1 ≤ h) (h2 : h ≤ 16) (w1 : 1 ≤ w) (w2 : w ≤ 16) : Lit (root h w) := ⟨⟨h1, w1⟩, by unfold In root; dsimp; omega⟩
theorem lit_areas {h w : Nat} (h1 : 1 ≤ h) (h2 : h ≤ 16) (w1 : 1 ≤ w) (w2 : w ≤ 16) {a : Ar} (m : a ∈ areasL h w) : Lit a := by
  have q := areas_ok h1 w1 m
  exact ⟨q.1, q.2.trans (lit_root h1 h2 w1 w2).i⟩
theorem inn_int (a : Ar) : a.inn = decide ((1 : Int) < (a.h : Int) * (a.w : Int)) := by
  unfold Ar.inn
  exact decide_eq_decide.mpr (by rw [← Int.natCast_mul]; omega)
def spCheckSize (K : PySem.W.Frag) (C : Addr) : Sp := fun vs H Q E => ∃ x bx y «by», vs = [x, y] ∧ Pl K H x bx ∧ Pl K H y «by» ∧ ((within x 1 16 && within y 1 16) = true → Q .non H) ∧ ((within x 1 16 && within y 1 16) = false → E (.ref C) none H)
def spInner : Sp := fun vs H Q _ => ∃ p a, vs = [.ref p] ∧ H p = some (.tup (arV a)) ∧ Lit a ∧ Q (.bl a.inn) H
def spHalves : Sp := fun vs H Q _ => ∃ p a, vs = [.ref p] ∧ H p = some (.tup (arV a)) ∧ Lit a ∧ ∀ q us H', Same H H' → H q = none → H' q = some (.lst us) → AL H' us [a.half false, a.half true] → Q (.ref q) H'
def spHalvesAt : Sp := fun vs H Q _ => ∃ k : Nat, vs = [.int k] ∧ 1 ≤ k ∧ k ≤ 1000 ∧ ∀ p, H p = none → Q (.ref p) (upd H p (.tup [.int ((2 * k - 1 : Nat) : Int), .int ((2 * k : Nat) : Int)]))
def spAreas : Sp := fun vs H Q _ => ∃ h w : Nat, vs = [.int h, .int w] ∧ 1 ≤ h ∧ h ≤ 16 ∧ 1 ≤ w ∧ w ≤ 16 ∧ ∀ q us H', Same H H' → H q = none → H' q = some (.lst us) → AL H' us (areasL h w) → Q (.ref q) H'
def spAreasC (K : PySem.W.Frag) (C : Addr) : Sp := fun vs H Q E => ∃ x bx y «by», vs = [x, y] ∧ Pl K H x bx ∧ Pl K H y «by» ∧ (∀ h w : Nat, x = .int h → y = .int w → 1 ≤ h → h ≤ 16 → 1 ≤ w → w ≤ 16 → ∀ q us H', Same H H' → H q = none → H' q = some (.lst us) → AL H' us (areasL h w) → Q (.ref q) H') ∧ ((within x 1 16 && within y 1 16) = false → E (.ref C) none H)
theorem half_ge {a : Ar} (c : a.w ≤ a.h) : a.half false = ⟨a.t, a.l, (a.h + 1) / 2, a.w⟩ ∧ a.half true = ⟨a.t + (a.h + 1) / 2, a.l, a.h - (a.h + 1) / 2, a.w⟩ := by
  unfold Ar.half
  rw [if_pos c, if_pos c]
  exact ⟨rfl, rfl⟩
theorem half_lt' {a : Ar} (c : ¬ a.w ≤ a.h) : a.half false = ⟨a.t, a.l, a.h, (a.w + 1) / 2⟩ ∧ a.half true = ⟨a.t, a.l + (a.w + 1) / 2, a.h, a.w - (a.w + 1) / 2⟩ := by
  unfold Ar.half
  rw [if_neg c, if_neg c]
  exact ⟨rfl, rfl⟩
/-- two new tuples in a new list -/
theorem two_new {H : Hp} {Q : VK} {a b : Ar} {xs ys : List V} (ex : xs = arV a) (ey : ys = arV b) (k : ∀ q us H', Same H H' → H q = none → H' q = some (.lst us) → AL H' us [a, b] → Q (.ref q) H') {p p2 q : Addr} (hp : H p = none) (hp2 : upd H p (.tup xs) p2 = none) (hq : upd (upd H p (.tup xs)) p2 (.tup ys) q = none) :
    Q (.ref q) (upd (upd (upd H p (.tup xs)) p2 (.tup ys)) q (.lst [.ref p, .ref p2])) := by
  subst ex ey
  have s1 := Same.new (o := .tup (arV a)) hp
  have s2 := Same.new (o := .tup (arV b)) hp2
  have s3 := Same.new (o := .lst [V.ref p, .ref p2]) hq
  exact k q _ _ ((s1.trans s2).trans s3) ((s1.trans s2).free hq) upd_same (.cons (s3 _ _ (s2 _ _ upd_same)) (.cons (s3 _ _ upd_same) .nil))
theorem arV_eq {a : Ar} {t l h w : Int} (e1 : t = a.t) (e2 : l = a.l) (e3 : h = a.h) (e4 : w = a.w) : [V.int t, .int l, .int h, .int w] = arV a := by
  subst e1 e2 e3 e4
  rfl
section
variable {P : Program} {w : World} {K : PySem.W.Frag} {mg : Str → Option Value} {base : Heap} (T : Top K mg)
theorem ok_check_size : FnOk P w K mg base (L2.CX P w) 3 T.check_size.a T.check_size.d ["height", "width"] (spCheckSize K T.BadSize.C) := by
  refine T.check_size.f.okX sc_check_size (fun vs H Q E h => ?_) (fun cdv A outer s H vs Q E hr h => ?_)
  · obtain ⟨x, _, y, _, rfl, _⟩ := h
    rfl
  · obtain ⟨x, bx, y, b2, rfl, px, py, k1, k2⟩ := h
    refine ⟨_, pss_one (ps_if (PW.pt (pw_or (pt_not (pt_val (pe_call (ok_is_within T) hr (by rfl) T.is_within.m T.is_within.f.kp (bd_is_within T) .nil passE (pa_cons (pv 0) (pa_cons pe_int (pa_cons pe_int pa_nil))))))
        (pw_or1 (pt_not (pt_val (pe_call (ok_is_within T) hr (by rfl) T.is_within.m T.is_within.f.kp (bd_is_within T) .nil passE (pa_cons (pv 1) (pa_cons pe_int (pa_cons pe_int pa_nil)))))))))
        (pss_one (ps_raiseT rfl rfl T.BadSize (by rfl) rfl (takes_of rfl rfl rfl rfl))) pss_nil), ?_⟩
    refine ⟨_, rfl, x, bx, 1, 16, rfl, px, _, rfl, ?_⟩
    cases e1 : within x 1 16
    · exact iteT (iteT (k2 (by rw [e1]; rfl)))
    · refine iteF ⟨_, rfl, y, b2, 1, 16, rfl, py, _, rfl, ?_⟩
      cases e2 : within y 1 16
      · exact iteT (k2 (by rw [e1, e2]; rfl))
      · exact iteF (k1 (by rw [e1, e2]; rfl))
theorem ok_is_inner : FnOk P w K mg base (L2.CX P w) 1 T.is_inner.a T.is_inner.d ["area"] spInner := by
  refine T.is_inner.f.okX sc_is_inner (fun vs H Q E h => ?_) (fun cdv A outer s H vs Q E hr h => ?_)
  · obtain ⟨p, a, rfl, _⟩ := h
    rfl
  · obtain ⟨p, a, rfl, hp, lt, k⟩ := h
    refine ⟨_, pss_one (ps_ret (pe_cmpR op_gt (pe_op op_mul (pe_ix ix_tup (pv 0) pe_int (fun _ _ => rfl)) (pe_ix ix_tup (pv 0) pe_int (fun _ _ => rfl))) pe_int (nomark _))), ?_⟩
    have b := lt.bd
    refine ⟨_, rfl, p, _, 2, .int a.h, rfl, rfl, SqT.of hp, rfl, _, rfl, p, _, 3, .int a.w, rfl, rfl, SqT.of hp, rfl, _, _, rfl, rfl, .inl ⟨by omega, by omega⟩, _, _, rfl, rfl, ?_⟩
    exact q_bl k (inn_int a).symm
theorem ok_halves : FnOk P w K mg base (L2.CX P w) 1 T.halves.a T.halves.d ["area"] spHalves := by
  refine T.halves.f.okX sc_halves (fun vs H Q E h => ?_) (fun cdv A outer s H vs Q E hr h => ?_)
  · obtain ⟨p, a, rfl, _⟩ := h
    rfl
  · obtain ⟨p, a, rfl, hp, lt, k⟩ := h
    have b := lt.bd
    refine ⟨_, pss_cons (ps_asg (pv 0) (pg_tup rfl (pgs_cons (pg_name (i := 1) sc_halves.nd rfl (.inl rfl)) (pgs_cons (pg_name (i := 2) sc_halves.nd rfl (.inl rfl)) (pgs_cons (pg_name (i := 3) sc_halves.nd rfl (.inl rfl)) (pgs_cons (pg_name (i := 4) sc_halves.nd rfl (.inl rfl)) pgs_nil))))))
      (pss_cons (ps_if (pt_cmpR op_ge (pv 3) (pv 4) (nomark _))
        (pss_cons (ps_set (i := 5) sc_halves.nd rfl (.inl rfl) (pe_op op_fdiv (pe_op op_add (pv 3) pe_int) pe_int))
        (pss_one (ps_ret (pe_lst (pa_cons (pe_tup (pa_cons (pv 1) (pa_cons (pv 2) (pa_cons (pv 5) (pa_cons (pv 4) pa_nil))))) (pa_cons (pe_tup (pa_cons (pe_op op_add (pv 1) (pv 5)) (pa_cons (pv 2) (pa_cons (pe_op op_sub (pv 3) (pv 5)) (pa_cons (pv 4) pa_nil))))) pa_nil)))))) pss_nil)
      (pss_cons (ps_set (i := 5) sc_halves.nd rfl (.inl rfl) (pe_op op_fdiv (pe_op op_add (pv 4) pe_int) pe_int))
      (pss_one (ps_ret (pe_lst (pa_cons (pe_tup (pa_cons (pv 1) (pa_cons (pv 2) (pa_cons (pv 3) (pa_cons (pv 5) pa_nil))))) (pa_cons (pe_tup (pa_cons (pv 1) (pa_cons (pe_op op_add (pv 2) (pv 5)) (pa_cons (pv 3) (pa_cons (pe_op op_sub (pv 4) (pv 5)) pa_nil))))) pa_nil))))))), ?_⟩
    refine ⟨_, rfl, p, _, rfl, SqT.of hp, rfl, _, _, rfl, _, _, rfl, _, _, rfl, _, _, rfl, rfl, ?_⟩
    refine ⟨_, rfl, _, rfl, _, _, rfl, rfl, _, rfl, ?_⟩
    by_cases c : a.w ≤ a.h
    · obtain ⟨e1, e2⟩ := half_ge c
      rw [decide_eq_true (show ((a.w : Nat) : Int) ≤ ((a.h : Nat) : Int) by omega)]
      refine iteT ⟨_, rfl, _, _, rfl, rfl, _, _, rfl, rfl, ⟨by decide, by decide⟩, ?_⟩
      refine ⟨_, rfl, _, rfl, _, rfl, _, rfl, (by show 4 ≤ sizeLine; decide), fun p1 h1 => ?_⟩
      refine ⟨_, rfl, _, rfl, _, _, rfl, rfl, _, rfl, _, rfl, _, rfl, _, _, rfl, rfl, _, rfl, (by show 4 ≤ sizeLine; decide), fun p2 h2 => ⟨(by show 2 ≤ sizeLine; decide), fun q hq => ?_⟩⟩
      exact two_new (a := a.half false) (b := a.half true) (by rw [e1]; exact arV_eq rfl rfl (by first | rfl | (dsimp; omega)) rfl) (by rw [e2]; exact arV_eq (by first | rfl | (dsimp; omega)) rfl (by first | rfl | (dsimp; omega)) rfl) k h1 h2 hq
    · obtain ⟨e1, e2⟩ := half_lt' c
      rw [decide_eq_false (show ¬ ((a.w : Nat) : Int) ≤ ((a.h : Nat) : Int) by omega)]
      refine iteF ⟨_, rfl, _, _, rfl, rfl, _, _, rfl, rfl, ⟨by decide, by decide⟩, ?_⟩
      refine ⟨_, rfl, _, rfl, _, rfl, _, rfl, (by show 4 ≤ sizeLine; decide), fun p1 h1 => ?_⟩
      refine ⟨_, rfl, _, rfl, _, rfl, _, _, rfl, rfl, _, rfl, _, rfl, _, rfl, _, _, rfl, rfl, (by show 4 ≤ sizeLine; decide), fun p2 h2 => ⟨(by show 2 ≤ sizeLine; decide), fun q hq => ?_⟩⟩
      exact two_new (a := a.half false) (b := a.half true) (by rw [e1]; exact arV_eq rfl rfl rfl (by first | rfl | (dsimp; omega))) (by rw [e2]; exact arV_eq rfl (by first | rfl | (dsimp; omega)) rfl (by first | rfl | (dsimp; omega))) k h1 h2 hq
theorem ok_halves_at : FnOk P w K mg base (L2.CX P w) 1 T.halves_at.a T.halves_at.d ["inner"] spHalvesAt := by
  refine T.halves_at.f.okX sc_halves_at (fun vs H Q E h => ?_) (fun cdv A outer s H vs Q E hr h => ?_)
  · obtain ⟨k, rfl, _⟩ := h
    rfl
  · obtain ⟨k, rfl, h1, h2, q⟩ := h
    refine ⟨_, pss_one (ps_ret (pe_tup (pa_cons (pe_op op_sub (pe_op op_mul pe_int (pv 0)) pe_int) (pa_cons (pe_op op_mul pe_int (pv 0)) pa_nil)))), ?_⟩
    refine ⟨_, rfl, _, _, rfl, rfl, .inl ⟨by decide, by decide⟩, _, _, rfl, rfl, _, rfl, _, _, rfl, rfl, .inl ⟨by decide, by decide⟩, (by show 2 ≤ sizeLine; decide), fun p hp => ?_⟩
    have := q p hp
    rw [show (((2 * k - 1 : Nat) : Nat) : Int) = 2 * (k : Int) - 1 by omega, show (((2 * k : Nat) : Nat) : Int) = 2 * (k : Int) by omega] at this
    exact this
/-- the list as it grows -/
theorem regs_succ {h w n : Nat} {p : Ar} (e : ((ways (root h w) n).map (reg (root h w)))[n]? = some p) :
    (ways (root h w) (n + 1)).map (reg (root h w)) = (ways (root h w) n).map (reg (root h w)) ++ (if p.inn = true then [p.half false, p.half true] else []) := by
  rw [List.getElem?_map] at e
  cases hp : (ways (root h w) n)[n]? with
  | none => rw [hp] at e; cases e
  | some q =>
    rw [hp] at e
    have e : reg (root h w) q = p := Option.some.inj e
    show (grow (root h w) (ways (root h w) n) n).map _ = _
    unfold grow
    rw [hp]
    dsimp only
    rw [e]
    by_cases i : p.inn = true
    · rw [if_pos i, if_pos i, List.map_append]
      congr 1
      simp [reg_snoc, e]
    · rw [if_neg i, if_neg i, List.append_nil]
theorem ok_list_areas : FnOk P w K mg base (L2.CX P w) 2 T.list_areas.a T.list_areas.d ["height", "width"] spAreas := by
  refine T.list_areas.f.okX sc_list_areas (fun vs H Q E h => ?_) (fun cdv A outer s H vs Q E hr h => ?_)
  · obtain ⟨h, w, rfl, _⟩ := h
    rfl
  · obtain ⟨h, w, rfl, h1, h2, w1, w2, k⟩ := h
    refine ⟨_, pss_cons (ps_set (i := 2) sc_list_areas.nd rfl (.inl rfl) (pe_lst (pa_cons (pe_tup (pa_cons pe_int (pa_cons pe_int (pa_cons (pv 0) (pa_cons (pv 1) pa_nil))))) pa_nil)))
      (pss_cons (ps_set (i := 3) sc_list_areas.nd rfl (.inl rfl) pe_int)
      (pss_cut (ps_while (passes_of rfl) (pt_cmpR op_lt (pv 3) (pe_callB call_len_seq (by rfl) T.b_len PySem.boot_len (pa_cons (pv 2) pa_nil)) (nomark _))
        (pss_cons (ps_set (i := 4) sc_list_areas.nd rfl (.inl rfl) (pe_ix ix_list (pv 2) (pv 3) (fun _ _ => rfl)))
        (pss_cut (ps_if (pt_val (pe_call (ok_is_inner T) (hr.mono (by decide)) (by rfl) T.is_inner.m T.is_inner.f.kp (bd_is_inner T) .nil passE (pa_cons (pv 4) pa_nil)))
          (pss_one (ps_expr (pe_bm PySem.F.plainAttrs_list PySem.F.slot_list_extend PySem.F.type_list_extend mt_extend (pv 2) (pa_cons (pe_call (ok_halves T) (hr.mono (by decide)) (by rfl) T.halves.m T.halves.f.kp (bd_halves T) .nil passE (pa_cons (pv 4) pa_nil)) pa_nil)))) pss_nil)
        (pss_one (ps_aug (i := 3) sc_list_areas.nd rfl (.inl rfl) pe_int ip_add)))))
      (pss_one (ps_ret (pv 2))))), ?_⟩
    refine ⟨_, rfl, _, rfl, (by show 4 ≤ sizeLine; decide), fun p hp => ⟨(by show 1 ≤ sizeLine; decide), fun fa hfa => ?_⟩⟩
    have s1 := Same.new (o := .tup [V.int 0, .int 0, .int h, .int w]) hp
    have s2 := Same.new (o := .lst [V.ref p]) hfa
    have ff := s1.free hfa
    have lr := lit_root h1 h2 w1 w2
    have g0 : AL (upd (upd H p (.tup [V.int 0, .int 0, .int h, .int w])) fa (.lst [V.ref p])) [.ref p] ((ways (root h w) 0).map (reg (root h w))) := .cons (s2 _ _ upd_same) .nil
    have S0 : Same H (upd (upd H p (.tup [V.int 0, .int 0, .int h, .int w])) fa (.lst [V.ref p])) := s1.trans s2
    have l0 : (upd (upd H p (.tup [V.int 0, .int 0, .int h, .int w])) fa (.lst [V.ref p])) fa = some (.lst [V.ref p]) := upd_same
    generalize upd (upd H p (.tup [V.int 0, .int 0, .int h, .int w])) fa (.lst [V.ref p]) = H0 at g0 S0 l0 ⊢
    refine ⟨fun σ' H' => ∃ us v3 v4, σ' = [some (.int h), some (.int w), some (.ref fa), v3, v4] ∧ H' fa = some (.lst us) ∧ AL H' us (areasL h w) ∧ Same H H', ?_, ?_⟩
    · refine ⟨fun μ σ' H' => ∃ n us v4, μ = many (root h w) - n ∧ n ≤ many (root h w) ∧ σ' = [some (.int h), some (.int w), some (.ref fa), some (.int (n : Nat)), v4] ∧ H' fa = some (.lst us) ∧ AL H' us ((ways (root h w) n).map (reg (root h w))) ∧ Same H H',
        ⟨many (root h w), 0, _, _, rfl, Nat.zero_le _, rfl, l0, g0, S0⟩, ?_⟩
      rintro μ σ' H1 ⟨n, us, v4, rfl, ln, rfl, hl, al, sm⟩
      have gr := Grown.at lr.o n ln
      have lu : us.length = (ways (root h w) n).length := by rw [al.len, List.length_map]
      have lsz : us.length ≤ 511 := by
        have lw := gr.lt_iff lr.o
        have : many (root h w) ≤ 511 := by
          unfold many
          have e : (root h w).size = h * w := rfl
          have := Nat.mul_le_mul h2 w2
          omega
        rw [lu]
        obtain ⟨R, e⟩ := ways_pre lr.o ln
        have := allW_len lr.o
        rw [e, List.length_append] at this
        omega
      refine ⟨_, rfl, _, rfl, fa, us, rfl, .inl (SqL.of hl), _, _, rfl, rfl, _, rfl, ?_⟩
      by_cases c : n < us.length
      · rw [decide_eq_true (show ((n : Nat) : Int) < ((us.length : Nat) : Int) by omega)]
        have c2 : n < many (root h w) := (gr.lt_iff lr.o).mp (by omega)
        obtain ⟨a, ha⟩ : ∃ a, ((ways (root h w) n).map (reg (root h w)))[n]? = some a := ⟨_, List.getElem?_eq_getElem (by rw [← al.len]; exact c)⟩
        obtain ⟨q, hq, eq⟩ := al.at_ ha
        have la : Lit a := by
          obtain ⟨z, hz, rfl⟩ := List.mem_map.mp (List.mem_of_getElem? ha)
          have := way_ok lr.o (gr.way z hz)
          exact ⟨this.1, this.2.1.trans lr.i⟩
        refine iteT ⟨fun σ' H' => ∃ us v4, σ' = [some (.int h), some (.int w), some (.ref fa), some (.int ((n + 1 : Nat) : Int)), v4] ∧ H' fa = some (.lst us) ∧ AL H' us ((ways (root h w) (n + 1)).map (reg (root h w))) ∧ Same H H',
          fun σ' H' ⟨us, v4, r⟩ => ⟨many (root h w) - (n + 1), by omega, n + 1, us, v4, rfl, c2, r⟩, ?_⟩
        refine ⟨_, rfl, _, rfl, fa, us, _, _, rfl, rfl, SqL.of hl, atI_nat hq, ?_⟩
        refine ⟨fun σ' H' => ∃ us, σ' = [some (.int h), some (.int w), some (.ref fa), some (.int (n : Nat)), some (.ref q)] ∧ H' fa = some (.lst us) ∧ AL H' us ((ways (root h w) (n + 1)).map (reg (root h w))) ∧ Same H H', ?_, ?_⟩
        · refine ⟨_, rfl, q, a, rfl, eq, la, _, rfl, ?_⟩
          rw [regs_succ ha]
          cases i : a.inn
          · refine iteF ⟨us, rfl, hl, ?_, sm⟩
            rw [if_neg Bool.false_ne_true, List.append_nil]
            exact al
          · refine iteT ?_
            rw [if_pos rfl]
            refine ⟨_, rfl, .inl ⟨rfl, _, SqL.of hl⟩, _, rfl, q, a, rfl, eq, la, fun b ws H2 m2 f2 l2 al2 => ?_⟩
            have hl2 := m2 _ _ hl
            refine ⟨fa, b, us, ws, rfl, rfl, hl2, l2, ?_, us ++ ws, rfl, upd_same, ((al.same m2).append al2).put hl2, Same.put (sm.trans m2) ff⟩
            have := al2.len
            exact Nat.le_trans (show _ ≤ 600 by rw [this]; simp; omega) (by decide)
        · rintro σ' H2 ⟨us, rfl, r⟩
          exact ⟨_, rfl, _, _, rfl, rfl, us, _, rfl, r⟩
      · rw [decide_eq_false (show ¬ ((n : Nat) : Int) < ((us.length : Nat) : Int) by omega)]
        have e : n = many (root h w) := by
          have := (gr.lt_iff lr.o)
          have : ¬ n < many (root h w) := fun z => c (by have := this.mpr z; omega)
          omega
        subst e
        exact iteF ⟨us, _, _, rfl, hl, al, sm⟩
    · rintro σ' H1 ⟨us, v3, v4, rfl, hl, al, sm⟩
      exact ⟨_, rfl, k fa us H1 sm ff hl al⟩
theorem ok_areas : FnOk P w K mg base (L2.CX P w) 4 T.areas.a T.areas.d ["height", "width"] (spAreasC K T.BadSize.C) := by
  refine T.areas.f.okX sc_areas (fun vs H Q E h => ?_) (fun cdv A outer s H vs Q E hr h => ?_)
  · obtain ⟨x, _, y, _, rfl, _⟩ := h
    rfl
  · obtain ⟨x, bx, y, b2, rfl, px, py, k1, k2⟩ := h
    refine ⟨_, pss_cons (ps_expr (pe_call (ok_check_size T) (hr.mono (by decide)) (by rfl) T.check_size.m T.check_size.f.kp (bd_check_size T) .nil (passX rfl rfl rfl rfl) (pa_cons (pv 0) (pa_cons (pv 1) pa_nil))))
      (pss_one (ps_ret (pe_call (ok_list_areas T) (hr.mono (by decide)) (by rfl) T.list_areas.m T.list_areas.f.kp (bd_list_areas T) .nil passE (pa_cons (pv 0) (pa_cons (pv 1) pa_nil))))), ?_⟩
    refine ⟨_, rfl, _, rfl, x, bx, y, b2, rfl, px, py, fun hg => ?_, k2⟩
    simp only [Bool.and_eq_true] at hg
    obtain ⟨i, rfl, i1, i2⟩ := within_int hg.1
    obtain ⟨j, rfl, j1, j2⟩ := within_int hg.2
    obtain ⟨h, rfl⟩ : ∃ h : Nat, i = h := ⟨i.toNat, by omega⟩
    obtain ⟨w, rfl⟩ : ∃ w : Nat, j = w := ⟨j.toNat, by omega⟩
    exact ⟨_, rfl, _, rfl, h, w, rfl, by omega, by omega, by omega, by omega, fun q us H' m f l a => k1 h w rfl rfl (by omega) (by omega) (by omega) (by omega) q us H' m f l a⟩
end
end K16
namespace K16
open PySem PySem.Spec PyProof.Rows L2 PySem.W LamX KA KW KU KL KT
open Evl (pss_cut tCut)
/-! ### what is due of four values -/
def dueV (x1 x2 x3 x4 : V) : V :=
  if within x1 1 16 = true then (if within x2 1 16 = true then (if within x3 (-512) 511 = true then (match x3 with | .int lo => (if within x4 lo 511 = true then .non else .str "high") | _ => .non) else .str "low") else .str "width") else .str "height"
def spDue (K : PySem.W.Frag) : Sp := fun vs H Q _ => ∃ a x1 x2 x3 x4 b1 b2 b3 b4, vs = [.ref a] ∧ H a = some (.lst [x1, x2, x3, x4]) ∧ Pl K H x1 b1 ∧ Pl K H x2 b2 ∧ Pl K H x3 b3 ∧ Pl K H x4 b4 ∧ Q (dueV x1 x2 x3 x4) H
section
variable {P : Program} {w : World} {K : PySem.W.Frag} {mg : Str → Option Value} {base : Heap} (T : Top K mg)
theorem ok_whole : FnOk P w K mg base (L2.CX P w) 1 T._law_is_whole.a T._law_is_whole.d ["item"] (spNumber K) := by
  refine T._law_is_whole.f.okX sc__law_is_whole (fun vs H Q E h => ?_) (fun cdv A outer s H vs Q E hr h => ?_)
  · obtain ⟨x, b, rfl, _⟩ := h
    rfl
  · obtain ⟨x, b, rfl, hp, k⟩ := h
    refine ⟨_, pss_one (ps_ret (pe_and
      (pe_callB call_isi (by rfl) T.b_isinstance PyProof.Rows.boot_isinstance (pa_cons (pv 0) (pa_cons (pe_bltn (v := .ty "int") (by rfl) T.b_int PyProof.Rows.boot_int rfl) pa_nil)))
      (pe_one (pe_not (pe_callB call_isi (by rfl) T.b_isinstance PyProof.Rows.boot_isinstance (pa_cons (pv 0) (pa_cons (pe_bltn (v := .ty "bool") (by rfl) T.b_bool (by decide +kernel) rfl) pa_nil))))))), ?_⟩
    obtain ⟨t, ht, h1, h2, h3⟩ := hp.ty
    refine ⟨_, rfl, x, _, _, _, _, rfl, .ty "int", ht, kit_ty h1, _, rfl, ?_⟩
    cases e : (b || (t == "bool"))
    · rw [e] at h3
      refine iteF ?_
      exact q_bl k h3
    · rw [e] at h3
      refine iteT ?_
      refine ⟨_, rfl, x, _, _, _, _, rfl, .ty "bool", ht, kit_ty h2, _, rfl, ?_⟩
      exact q_bl k (by simpa using h3)
theorem pl_int {K : PySem.W.Frag} {H : Hp} {x : V} (h : Pl K H x true) : ∃ i, x = .int i := by
  cases h with
  | int i => exact ⟨i, rfl⟩
theorem within_no {K : PySem.W.Frag} {H : Hp} {x : V} {lo hi : Int} (h : Pl K H x false) : within x lo hi = false := by
  cases h <;> rfl
theorem within_i {i lo hi : Int} : within (.int i) lo hi = (decide (lo ≤ i) && decide (i ≤ hi)) := rfl
theorem q_v {Q : VK} {H : Hp} {a b : V} (k : Q b H) (e : b = a) : Q a H := e ▸ k
end
end K16
namespace K16
open PySem PySem.Spec PyProof.Rows L2 PySem.W LamX KA KW KU KL KT
open Evl (pss_cut tCut)
/-! ### whether it is a pane -/
inductive Fl : V → Prop where
  | int (i : Int) : Fl (.int i)
  | bl (b : Bool) : Fl (.bl b)
  | str (s : Str) (h : PyData.strOk s = true) : Fl (.str s)
  | non : Fl .non
theorem Fl.pl {K : PySem.W.Frag} {H : Hp} {x : V} (h : Fl x) : Pl K H x (isNum x) := by
  cases h with
  | int i => exact .int i
  | bl i => exact .bl i
  | str i _ => exact .str i
  | non => exact .non
def fd : V → PyData
  | .int i => .int i
  | .bl b => .bool b
  | .str s => .str s
  | _ => .none
theorem Fl.dp {K : PySem.W.Frag} {H : Hp} {x : V} (h : Fl x) : Dp K H x (fd x) := by
  cases h with
  | int i => exact .int i
  | bl i => exact .bl i
  | str i _ => exact .str i
  | non => exact .non
theorem dp_fl {K : PySem.W.Frag} {H : Hp} : ∀ {xs : List V}, (∀ x ∈ xs, Fl x) → DpAll K H xs (xs.map fd)
  | [], _ => .nil
  | x :: xs, h => .cons (h x List.mem_cons_self).dp (dp_fl fun y hy => h y (List.mem_cons_of_mem _ hy))
theorem fl_lay : ∀ xs : List V, (∀ x ∈ xs, Fl x) → PyData.canLayAll0 (xs.map fd) = true ∧ PyData.depthAll (xs.map fd) = 0
  | [], _ => ⟨rfl, rfl⟩
  | x :: xs, h => by
    obtain ⟨h1, h2⟩ := fl_lay xs fun y hy => h y (List.mem_cons_of_mem _ hy)
    cases h x List.mem_cons_self with
    | str s e => exact ⟨by simp [fd, PyData.canLayAll0, PyData.canLay0, h1, e], by simp [fd, PyData.depthAll, PyData.depth, h2]⟩
    | _ => exact ⟨by simp [fd, PyData.canLayAll0, PyData.canLay0, h1], by simp [fd, PyData.depthAll, PyData.depth, h2]⟩
theorem shaped_fl (xs : List V) (h : ∀ x ∈ xs, Fl x) : SeqAt.shaped (.list (xs.map fd)) = true := by
  obtain ⟨h1, h2⟩ := fl_lay xs h
  simp [SeqAt.shaped, PyData.canLay0, PyData.depth, h1, h2]
theorem filter_none {xs : List V} {f : V → Bool} : (xs.filter fun x => !f x).isEmpty = xs.all f := by
  induction xs with
  | nil => rfl
  | cons x xs ih =>
    rw [List.filter_cons, List.all_cons]
    cases f x
    · rfl
    · rw [Bool.true_and, ← ih]
      rfl
theorem eqv_fl_nil (xs : List V) : PyData.eqv (.list (xs.map fd)) (.list []) = xs.isEmpty := by
  cases xs <;> rfl
/-- the cells are flat -/
def FlC (os : List (Option (List V))) : Prop := ∀ xs, some xs ∈ os → ∀ x ∈ xs, Fl x
def lineB (w lo hi : Int) : Option (List V) → Bool
  | some xs => decide (((xs.length : Nat) : Int) = w) && xs.all fun x => within x lo hi
  | none => false
def paneB (o : Option (List (Option (List V)))) (h w lo hi : Int) : Bool := match o with
  | some os => decide (((os.length : Nat) : Int) = h) && os.all (lineB w lo hi)
  | none => false
def badC (lo hi : Int) (x : V) : Bool := !within x lo hi
theorem take_filter {xs : List V} (f : V → Bool) {i : Nat} {x : V} (h : xs[i]? = some x) : (xs.take (i + 1)).filter f = (xs.take i).filter f ++ (if f x = true then [x] else []) := by
  rw [List.take_add_one, h, List.filter_append]
  cases hx : f x <;> simp [hx]
theorem within_num {x : V} {lo hi : Int} (h : within x lo hi = true) : isNum x = true := by
  obtain ⟨i, rfl, _⟩ := within_int h
  rfl
theorem width_of {os : List (Option (List V))} {w : Nat} (h : 0 < os.length) (q : ∀ o ∈ os, ∃ xs, o = some xs ∧ xs.length = w) : width0 os = w := by
  cases os with
  | nil => cases h
  | cons o os =>
    obtain ⟨xs, rfl, e⟩ := q o List.mem_cons_self
    exact e
end K16
namespace K16
open PySem PySem.Spec PyProof.Rows L2 PySem.W LamX KA KW KU KL KT
open Evl (pss_cut tCut)
/-! ### data of planes: small enough to be shown and compared -/
structure Sm (n z : Nat) (d : PyData) : Prop where
  l : d.leavesShort 13 = true
  w : d.weight ≤ n
  s : d.showable = true
  n : d.hasDict = false
  z : d.depth ≤ z
  c : d.canLay0 = true
theorem small_fits {d : PyData} (hl : d.leavesShort 13 = true) (hw : d.weight ≤ 2 ^ 20) : d.shown.length ≤ sizeLine := PyData.shown_fits (by decide) (by decide) hl hw
theorem int_small {i : Int} (h1 : -65535 ≤ i) (h2 : i ≤ 65535) : (PyData.int i).leavesShort 13 = true ∧ (PyData.int i).weight ≤ 17 ∧ (PyData.int i).showable = true := by
  have hn : i.natAbs < 2 ^ 17 := by omega
  have hl : i.natAbs.log2 ≤ 17 := by
    rcases Nat.eq_zero_or_pos i.natAbs with z | z
    · rw [z]
      decide
    · exact Nat.le_of_lt ((Nat.log2_lt (by omega)).mpr hn)
  have hl2 : i.natAbs.log2 < 17 ∨ i.natAbs = 0 := by
    rcases Nat.eq_zero_or_pos i.natAbs with z | z
    · exact .inr z
    · exact .inl ((Nat.log2_lt (by omega)).mpr hn)
  refine ⟨?_, ?_, ?_⟩
  · simp only [PyData.leavesShort, decide_eq_true_eq]
    exact PyData.shown_int_le (by omega)
  · simp only [PyData.weight]
    split
    · omega
    · rename_i c
      rcases hl2 with q | q
      · omega
      · exact absurd (by simpa using q) c
  · simp only [PyData.showable, decide_eq_true_eq]
    omega
theorem Sm.mono {n m z y : Nat} {d : PyData} (h : Sm n z d) (h1 : n ≤ m) (h2 : z ≤ y) : Sm m y d := ⟨h.l, Nat.le_trans h.w h1, h.s, h.n, Nat.le_trans h.z h2, h.c⟩
theorem sm_int {i : Int} (h1 : -65535 ≤ i) (h2 : i ≤ 65535) : Sm 17 0 (.int i) := by
  obtain ⟨a, b, c⟩ := int_small h1 h2
  exact ⟨a, b, c, rfl, Nat.le_refl _, rfl⟩
theorem sm_bool {b : Bool} : Sm 17 0 (.bool b) := ⟨rfl, Nat.zero_le _, rfl, rfl, Nat.le_refl _, rfl⟩
theorem sm_all {n z : Nat} : ∀ ds : List PyData, (∀ d ∈ ds, Sm n z d) → PyData.leavesShortAll 13 ds = true ∧ PyData.weightAll ds ≤ (n + 1) * ds.length ∧ PyData.showableAll ds = true ∧ PyData.hasDictAll ds = false ∧ PyData.depthAll ds ≤ z ∧ PyData.canLayAll0 ds = true
  | [], _ => ⟨rfl, Nat.zero_le _, rfl, rfl, Nat.zero_le _, rfl⟩
  | d :: r, h => by
    obtain ⟨a, b, c, e, f, g⟩ := sm_all r fun x hx => h x (List.mem_cons_of_mem _ hx)
    obtain ⟨a', b', c', e', f', g'⟩ := h d List.mem_cons_self
    refine ⟨by simp [PyData.leavesShortAll, a, a'], ?_, by simp [PyData.showableAll, c, c'], by simp [PyData.hasDictAll, e, e'], ?_, by simp [PyData.canLayAll0, g, g']⟩
    · simp only [PyData.weightAll, List.length_cons, Nat.mul_add, Nat.mul_one]
      omega
    · simp only [PyData.depthAll]
      omega
theorem sm_tuple {n z k : Nat} {ds : List PyData} (h : ∀ d ∈ ds, Sm n z d) (hl : ds.length ≤ k) : Sm ((n + 1) * k) (z + 1) (.tuple ds) := by
  obtain ⟨a, b, c, e, f, g⟩ := sm_all ds h
  have hk : (n + 1) * ds.length ≤ (n + 1) * k := Nat.mul_le_mul_left _ hl
  refine ⟨by simpa only [PyData.leavesShort] using a, ?_, by simpa only [PyData.showable] using c, by simpa only [PyData.hasDict] using e, ?_, by simpa only [PyData.canLay0] using g⟩
  · simp only [PyData.weight]
    omega
  · simp only [PyData.depth]
    omega
theorem sm_list {n z k : Nat} {ds : List PyData} (h : ∀ d ∈ ds, Sm n z d) (hl : ds.length ≤ k) : Sm ((n + 1) * k) (z + 1) (.list ds) := by
  obtain ⟨a, b, c, e, f, g⟩ := sm_all ds h
  have hk : (n + 1) * ds.length ≤ (n + 1) * k := Nat.mul_le_mul_left _ hl
  refine ⟨by simpa only [PyData.leavesShort] using a, ?_, by simpa only [PyData.showable] using c, by simpa only [PyData.hasDict] using e, ?_, by simpa only [PyData.canLay0] using g⟩
  · simp only [PyData.weight]
    omega
  · simp only [PyData.depth]
    omega
theorem Sm.repr {n z : Nat} {d : PyData} (h : Sm n z d) (h1 : n ≤ 2 ^ 20) (h2 : z ≤ 60) : d.showable = true ∧ d.hasDict = false ∧ d.depth ≤ 60 ∧ d.shown.length ≤ sizeLine := ⟨h.s, h.n, Nat.le_trans h.z h2, small_fits h.l (Nat.le_trans h.w h1)⟩
theorem Sm.shaped {n z : Nat} {d : PyData} (h : Sm n z d) (h2 : z ≤ 60) : SeqAt.shaped d = true := by
  unfold SeqAt.shaped
  rw [h.c, Bool.true_and, decide_eq_true_eq]
  exact Nat.le_trans h.z (Nat.le_trans h2 (by decide))
def rowD (ns : List Int) : PyData := .tuple (ns.map PyData.int)
def plD (nss : List (List Int)) : PyData := .tuple (nss.map rowD)
/-- the numbers are small -/
def SmN (nss : List (List Int)) : Prop := ∀ ns ∈ nss, ∀ n ∈ ns, -512 ≤ n ∧ n ≤ 511
theorem rows_dp {K : PySem.W.Frag} {H : Hp} : ∀ {vs : List V} {nss : List (List Int)}, Rows H vs nss → DpAll K H vs (nss.map rowD)
  | [], nss, r => by
    have : nss = [] := List.eq_nil_of_length_eq_zero (by rw [← r.1]; rfl)
    subst this
    exact .nil
  | v :: vs, [], r => by cases r.1
  | v :: vs, ns :: nss, r => by
    obtain ⟨b, ns', e1, e2, e3⟩ := r.2 0 v rfl
    have e4 : ns = ns' := Option.some.inj e2
    subst e4 e1
    refine .cons (.tup (SqT.of e3) (KT.dp_ints ns)) (rows_dp ⟨by simpa using r.1, fun j u e => ?_⟩)
    exact r.2 (j + 1) u (by simpa using e)
theorem Pn.dp {K : PySem.W.Frag} {H : Hp} {a : Addr} {nss : List (List Int)} {w : Nat} (p : Pn H a nss w) : Dp K H (.ref a) (plD nss) := by
  obtain ⟨vs, e, r⟩ := p.rows
  exact .tup (SqT.of e) (rows_dp r)
theorem plD_sm {nss : List (List Int)} {w : Nat} (h : SmN nss) (h2 : nss.length ≤ 16) (w2 : w ≤ 16) (ws : ∀ ns ∈ nss, ns.length = w) : Sm 4624 2 (plD nss) := by
  refine sm_tuple (n := 288) (k := 16) (fun d hd => ?_) (by rw [List.length_map]; exact h2)
  obtain ⟨ns, hn, rfl⟩ := List.mem_map.mp hd
  refine sm_tuple (n := 17) (k := 16) (fun d hd => ?_) (by rw [List.length_map, ws ns hn]; exact w2)
  obtain ⟨i, hi, rfl⟩ := List.mem_map.mp hd
  have := h ns hn i hi
  exact sm_int (by omega) (by omega)
theorem Pn.sm {H : Hp} {a : Addr} {nss : List (List Int)} {w : Nat} (p : Pn H a nss w) (h : SmN nss) : Sm 4624 2 (plD nss) := plD_sm h p.h2 p.w2 p.ws
theorem smN_bet {nss : List (List Int)} (h : SmN nss) : betB nss (-512) 511 = true := by
  simp only [betB, List.all_eq_true, Bool.and_eq_true, decide_eq_true_eq]
  exact h
theorem smN_rev {nss : List (List Int)} (h : SmN nss) : SmN nss.reverse := fun ns hn => h ns (List.mem_reverse.mp hn)
theorem smN_side {nss : List (List Int)} (h : SmN nss) : SmN (nss.map List.reverse) := fun ns hn n hnn => by
  obtain ⟨ms, hm, rfl⟩ := List.mem_map.mp hn
  exact h ms hm n (List.mem_reverse.mp hnn)
theorem smN_trans {nss : List (List Int)} {w : Nat} (h : SmN nss) (ws : ∀ ns ∈ nss, ns.length = w) : SmN (trans nss w) := fun ns hn n hnn => by
  obtain ⟨j, hj, rfl⟩ := List.mem_map.mp hn
  obtain ⟨ms, hm, rfl⟩ := List.mem_map.mp hnn
  have hl : j < ms.length := by rw [ws ms hm]; exact List.mem_range.mp hj
  rw [List.getD_eq_getElem?_getD, List.getElem?_eq_getElem hl]
  exact h ms hm _ (List.getElem_mem hl)
theorem side_side (nss : List (List Int)) : (nss.map List.reverse).map List.reverse = nss := by
  rw [List.map_map]
  conv => rhs; rw [← List.map_id nss]
  congr 1
  funext ns
  simp
/-- a plane by its numbers at the places -/
theorem plane_ext {a b : List (List Int)} {h w : Nat} (ha : a.length = h) (hb : b.length = h) (wa : ∀ ns ∈ a, ns.length = w) (wb : ∀ ns ∈ b, ns.length = w) (e : ∀ y x, y < h → x < w → (a.getD y []).getD x 0 = (b.getD y []).getD x 0) : a = b := by
  refine List.ext_getElem (by rw [ha, hb]) fun y h1 h2 => ?_
  have l1 := wa _ (List.getElem_mem h1)
  have l2 := wb _ (List.getElem_mem h2)
  refine List.ext_getElem (by rw [l1, l2]) fun x h3 h4 => ?_
  have := e y x (by omega) (by omega)
  simpa [List.getD_eq_getElem?_getD, List.getElem?_eq_getElem h1, List.getElem?_eq_getElem h2, List.getElem?_eq_getElem h3, List.getElem?_eq_getElem h4] using this
theorem at_trans {nss : List (List Int)} {w x y : Nat} (hx : x < w) (hy : y < nss.length) : ((trans nss w).getD x []).getD y 0 = (nss.getD y []).getD x 0 := by
  unfold trans
  simp [List.getD_eq_getElem?_getD, List.getElem?_map, List.getElem?_range hx, List.getElem?_eq_getElem hy]
theorem at_rev {nss : List (List Int)} {y : Nat} (hy : y < nss.length) : nss.reverse.getD y [] = nss.getD (nss.length - 1 - y) [] := by
  simp [List.getD_eq_getElem?_getD, List.getElem?_reverse hy]
theorem at_side {nss : List (List Int)} {w x y : Nat} (ws : ∀ ns ∈ nss, ns.length = w) (hx : x < w) (hy : y < nss.length) : ((nss.map List.reverse).getD y []).getD x 0 = (nss.getD y []).getD (w - 1 - x) 0 := by
  have l := ws _ (List.getElem_mem hy)
  simp [List.getD_eq_getElem?_getD, List.getElem?_map, List.getElem?_eq_getElem hy, List.getElem?_reverse (show x < nss[y].length by omega), l]
theorem len_trans {nss : List (List Int)} {w : Nat} : (trans nss w).length = w := by
  unfold trans
  rw [List.length_map, List.length_range]
theorem ws_trans {nss : List (List Int)} {w : Nat} : ∀ ns ∈ trans nss w, ns.length = nss.length := fun ns hn => by
  obtain ⟨j, hj, rfl⟩ := List.mem_map.mp hn
  rw [List.length_map]
theorem ws_side {nss : List (List Int)} {w : Nat} (ws : ∀ ns ∈ nss, ns.length = w) : ∀ ns ∈ nss.map List.reverse, ns.length = w := fun ns hn => by
  obtain ⟨j, hj, rfl⟩ := List.mem_map.mp hn
  rw [List.length_reverse, ws j hj]
theorem trans_trans {nss : List (List Int)} {w : Nat} (ws : ∀ ns ∈ nss, ns.length = w) : trans (trans nss w) nss.length = nss := by
  refine plane_ext (h := nss.length) (w := w) len_trans rfl (fun ns hn => by rw [ws_trans ns hn, len_trans]) ws fun y x hy hx => ?_
  rw [at_trans hy (by rw [len_trans]; exact hx), at_trans hx hy]
theorem turn_turn {nss : List (List Int)} {w : Nat} (ws : ∀ ns ∈ nss, ns.length = w) : trans ((trans nss w).map List.reverse) nss.length = nss.reverse := by
  refine plane_ext (h := nss.length) (w := w) len_trans (by simp) (fun ns hn => by rw [ws_trans ns hn, List.length_map, len_trans]) (fun ns hn => ws ns (List.mem_reverse.mp hn)) fun y x hy hx => ?_
  rw [at_trans hy (by rw [List.length_map, len_trans]; exact hx), at_side (w := nss.length) ws_trans hy (by rw [len_trans]; exact hx), at_trans hx (by omega), at_rev hy]
end K16
namespace K16
open PySem PySem.Spec PyProof.Rows L2 PySem.W LamX KA KW KU KL KT
open Evl (pss_cut tCut)
/-! ### numbers in rows -/
def rowsOf (ns : List Int) (h w : Nat) : List (List Int) := (List.range h).map fun y => (ns.drop (y * w)).take w
theorem rowsOf_len {ns : List Int} {h w : Nat} : (rowsOf ns h w).length = h := by
  unfold rowsOf
  rw [List.length_map, List.length_range]
theorem rowsOf_ws {ns : List Int} {h w : Nat} (l : ns.length = h * w) : ∀ r ∈ rowsOf ns h w, r.length = w := fun r hr => by
  obtain ⟨y, hy, rfl⟩ := List.mem_map.mp hr
  have hy := List.mem_range.mp hy
  rw [List.length_take, List.length_drop, l]
  have : (y + 1) * w ≤ h * w := Nat.mul_le_mul_right w hy
  rw [Nat.succ_mul] at this
  omega
theorem rgc : ∀ h w : Nat, 1 ≤ h → h ≤ 16 → 1 ≤ w → w ≤ 16 → RgC 0 ((h * w : Nat) : Int) (w : Int) h := by
  have q : (List.range 17).all (fun h => (List.range 17).all fun w => h == 0 || w == 0 || (Builtin.Range.small 0 ((h * w : Nat) : Int) (w : Int) && decide (Builtin.Range.rangeSize 0 ((h * w : Nat) : Int) (w : Int) = h))) = true := by decide +kernel
  intro h w h1 h2 w1 w2
  have := List.all_eq_true.mp q h (List.mem_range.mpr (by omega))
  have := List.all_eq_true.mp this w (List.mem_range.mpr (by omega))
  have e1 : (h == 0) = false := beq_eq_false_iff_ne.mpr (by omega)
  have e2 : (w == 0) = false := beq_eq_false_iff_ne.mpr (by omega)
  rw [e1, e2, Bool.false_or, Bool.false_or, Bool.and_eq_true, decide_eq_true_eq] at this
  exact ⟨by omega, by omega, this.1, this.2⟩
theorem cut_mid {xs : List V} {a b : Nat} (ha : a ≤ xs.length) (hb : b ≤ xs.length) : cutV xs (some (a : Int)) (some (b : Int)) = (xs.drop a).take (b - a) := by
  have e1 : HT.sIx xs.length 0 (some (a : Int)) = a := (HT.sIx_nat xs.length 0 a).trans (by omega)
  have e2 : HT.sIx xs.length xs.length (some (b : Int)) = b := (HT.sIx_nat xs.length xs.length b).trans (by omega)
  unfold cutV
  rw [e1, e2]
def spInRows : Sp := fun vs H Q _ => ∃ (q : Addr) (ns : List Int) (h w : Nat), vs = [.ref q, .int w] ∧ H q = some (.lst (ns.map V.int)) ∧ ns.length = h * w ∧ 1 ≤ h ∧ h ≤ 16 ∧ 1 ≤ w ∧ w ≤ 16 ∧ ∀ p H', Same H H' → H p = none → Pn H' p (rowsOf ns h w) w → Q (.ref p) H'
def rLenQ (K : PySem.W.Frag) : List V → Hp → VK → Prop := fun xs H Q => ∃ p ys, xs = [.ref p] ∧ (SqL K H p ys ∨ SqT K H p ys) ∧ Q (.int ys.length) H
theorem rows_read {K : PySem.W.Frag} {H : Hp} {q : Addr} {ns : List Int} {h w : Nat} {Qd : V → Hp → Prop} {i j k : Nat} {σ : L2.St} (hq : H q = some (.lst (ns.map V.int))) (hl : ns.length = h * w) (h1 : 1 ≤ h) (h2 : h ≤ 16) (w1 : 1 ≤ w) (w2 : w ≤ 16)
    (s0 : ∀ x : V, (σ.set k (some x))[i]? = some (some (V.ref q))) (s1 : ∀ x : V, (σ.set k (some x))[j]? = some (some (V.int w))) (s2 : ∀ x : V, (σ.set k (some x))[k]? = some (some x)) (hw : ∀ x : V, wipe (σ.set k (some x)) [k] = σ) (hw0 : wipe σ [k] = σ)
    (e0 : σ[i]? = some (some (V.ref q))) (e1 : σ[j]? = some (some (V.int w)))
    (kk : ∀ (D : Addr) (rs : List V) (H' : Hp), Same H H' → H D = none → H' D = some (.lst rs) → Rows H' rs (rowsOf ns h w) → Qd (.ref D) H') :
    tLc (iRng3 (tCons (tC (.int 0)) (tCons (tCB (rLenQ K) (tCons (tVar i) tNil)) (tCons (tVar j) tNil)))) (gName k) tYes (tCB (rTupOf K) (tCons (tSl (rSlL K) (tVar i) (tPart (tVar k)) (tPart (tOp (rI0 fun i j => .int (i + j)) (tVar k) (tVar j)))) tNil)) [k] σ H Qd := by
  refine ⟨_, e0, q, _, rfl, .inl (SqL.of hq), _, e1, 0, _, _, h, rfl, ?_, fun D hD => lc_it walk_rangeC (fun i H' => ∃ rs, H' D = some (.lst rs) ∧ Rows H' rs ((rowsOf ns h w).take i) ∧ Same H H') ⟨[], upd_same, by simpa using Rows.nil, Same.new hD⟩ (fun _ _ _ _ => trivial) ?_ ?_⟩
  · rw [List.length_map, hl]
    exact rgc h w h1 h2 w1 w2
  · rintro n x H1 H2 hn ⟨rs, a1, a2, a3⟩ ⟨rfl, rfl⟩
    rw [hw0]
    have ev : (0 : Int) + (n : Nat) * (w : Int) = ((n * w : Nat) : Int) := by rw [Int.natCast_mul]; omega
    dsimp only
    rw [ev]
    have hq1 := a3 _ _ hq
    have n1 : n * w + w ≤ h * w := by
      have : (n + 1) * w ≤ h * w := Nat.mul_le_mul_right w hn
      rw [Nat.succ_mul] at this
      exact this
    refine ⟨hw _, ?_⟩
    dsimp only [tYes]
    rw [if_pos rfl]
    refine ⟨_, s0 _, _, s2 _, _, rfl, _, s2 _, _, s1 _, _, _, rfl, rfl, _, rfl, q, _, rfl, SqL.of hq1, fun p hp => ?_⟩
    have e : cutV (ns.map V.int) (some ((n * w : Nat) : Int)) (some (((n * w : Nat) : Int) + (w : Int))) = ((ns.drop (n * w)).take w).map V.int := by
      rw [show (((n * w : Nat) : Int) + (w : Int)) = ((n * w + w : Nat) : Int) by omega, cut_mid (by rw [List.length_map]; omega) (by rw [List.length_map]; omega), show n * w + w - n * w = w by omega, List.map_take, List.map_drop]
    rw [e]
    refine ⟨p, _, rfl, .inl ⟨SqL.of upd_same, fun l hl' => ?_⟩⟩
    have t1 := Same.new (o := .lst (((ns.drop (n * w)).take w).map V.int)) hp
    have t2 := Same.new (o := .tup (((ns.drop (n * w)).take w).map V.int)) hl'
    have er : (rowsOf ns h w)[n]? = some ((ns.drop (n * w)).take w) := by
      unfold rowsOf
      rw [List.getElem?_map, List.getElem?_range hn]
      rfl
    refine ⟨rs, t2 _ _ (t1 _ _ a1), ?_, rs ++ [.ref l], upd_same, ?_, Same.put ((a3.trans t1).trans t2) hD⟩
    · rw [a2.1, List.length_take, rowsOf_len]
      exact Nat.lt_of_le_of_lt (show _ ≤ 16 by omega) (by decide)
    · rw [List.take_add_one, er]
      exact Rows.put (Rows.snoc ((a2.keep t1).keep t2) upd_same) (t2 _ _ (t1 _ _ a1))
  · rintro H1 ⟨rs, a1, a2, a3⟩
    rw [List.take_of_length_le (by rw [rowsOf_len]; exact Nat.le_refl _)] at a2
    exact kk D rs H1 a3 hD a1 a2
theorem ret_tup {K : PySem.W.Frag} {te : TE} {D : Ends} {σ : L2.St} {H : Hp} (h : te σ H fun x H1 => rTupOf K [x] H1 D.rt) : tRet (tCB (rTupOf K) (tCons te tNil)) D σ H := h
section
variable {P : Program} {w : World} {K : PySem.W.Frag} {mg : Str → Option Value} {base : Heap} (T : Top K mg)
theorem ok_in_rows : FnOk P w K mg base (L2.CX P w) 1 T.in_rows.a T.in_rows.d ["numbers", "width"] spInRows := by
  refine T.in_rows.f.okX sc_in_rows (fun vs H Q E h => ?_) (fun cdv A outer s H vs Q E hr h => ?_)
  · obtain ⟨q, ns, h, w, rfl, _⟩ := h
    rfl
  · obtain ⟨q, ns, h, w, rfl, hq, hl, h1, h2, w1, w2, k⟩ := h
    refine ⟨_, pss_one (ps_ret (pe_callTy (show CallR _ _ (rTupOf K) from call_tuple_of) (by rfl) T.b_tuple (by decide +kernel) (pa_cons (pe_lc (own := [("at", 2)]) (g := gName 2) (tt := tYes) rfl sc_in_rows.nd (pi_range3 (by rfl) T.b_range (pa_cons pe_int (pa_cons (pe_callB (show CallR _ _ (rLenQ K) from call_len_seq) (by rfl) T.b_len PySem.boot_len (pa_cons (pv 0) pa_nil)) (pa_cons (pv 1) pa_nil))))
        (blkOk_by (own := [("at", 2)]) (N := ["numbers", "width", "at"]) (sc := defScope s_in_rows) (by decide +kernel)) (fun _ _ _ _ _ => pg_name (i := 2) sc_in_rows.nd rfl (Or.inl rfl)) (fun _ _ _ _ _ => pts_nil)
        (fun _ _ _ _ _ => pe_callTy (show CallR _ _ (rTupOf K) from call_tuple_of) (by rfl) T.b_tuple (by decide +kernel) (pa_cons (pe_slice (show SlR _ (rSlL K) from sl_list) (pv 0) (po_some (pv 2)) (po_some (pe_op op_add (pv 2) (pv 1)))) pa_nil))) pa_nil))), ?_⟩
    refine ret_tup (rows_read (σ := [some (.ref q), some (.int w), none]) (i := 0) (j := 1) (k := 2) hq hl h1 h2 w1 w2 (fun _ => rfl) (fun _ => rfl) (fun _ => rfl) (fun _ => rfl) rfl rfl rfl fun D rs H1 m f l r => ?_)
    refine ⟨D, rs, rfl, .inl ⟨SqL.of l, fun p hp => k p _ (m.trans (Same.new hp)) (m.free hp) ?_⟩⟩
    exact Rows.pn (r.keep (Same.new hp)) upd_same (by rw [rowsOf_len]; exact h1) (by rw [rowsOf_len]; exact h2) w1 w2 (rowsOf_ws hl)
end
end K16
namespace K16
open PySem PySem.Spec PyProof.Rows L2 PySem.W LamX KA KW KU KL KT
open Evl (pss_cut tCut)
/-! ### lifted -/
theorem flat_at : ∀ {nss : List (List Int)} {w y x : Nat}, (∀ r ∈ nss, r.length = w) → y < nss.length → x < w → nss.flatten.getD (y * w + x) 0 = (nss.getD y []).getD x 0
  | [], _, _, _, _, hy, _ => absurd hy (Nat.not_lt_zero _)
  | r :: nss, w, 0, x, ws, _, hx => by
    have l := ws r List.mem_cons_self
    rw [List.flatten_cons, List.getD_eq_getElem?_getD, Nat.zero_mul, Nat.zero_add, List.getElem?_append_left (by omega)]
    rfl
  | r :: nss, w, y + 1, x, ws, hy, hx => by
    have l := ws r List.mem_cons_self
    have ih := flat_at (nss := nss) (w := w) (y := y) (x := x) (fun q hq => ws q (List.mem_cons_of_mem _ hq)) (Nat.lt_of_succ_lt_succ hy) hx
    rw [List.flatten_cons, List.getD_eq_getElem?_getD, Nat.succ_mul, List.getElem?_append_right (by omega)]
    rw [show y * w + w + x - r.length = y * w + x by omega]
    rw [List.getD_eq_getElem?_getD] at ih
    rw [ih]
    rfl
theorem flat_len : ∀ {nss : List (List Int)} {w : Nat}, (∀ r ∈ nss, r.length = w) → nss.flatten.length = nss.length * w
  | [], w, _ => by simp
  | r :: nss, w, ws => by
    rw [List.flatten_cons, List.length_append, ws r List.mem_cons_self, flat_len fun q hq => ws q (List.mem_cons_of_mem _ hq), List.length_cons, Nat.succ_mul]
    omega
def spCheckRect (K : PySem.W.Frag) (C : Addr) : Sp := fun vs H Q E => ∃ x o, vs = [x] ∧ Th K H x o ∧ (rowsB o = true → ∀ H', Same H H' → Q .non H') ∧ (rowsB o = false → ∀ H', Same H H' → E (.ref C) none H')
/-- what a rectangle is made to, else refused -/
def spMade (K : PySem.W.Frag) (C : Addr) (g : List (List Int) → Nat → List Int) : Sp := fun vs H Q E => ∃ x o, vs = [x] ∧ Th K H x o ∧ (rowsB o = false → ∀ H', Same H H' → E (.ref C) none H') ∧
  (∀ a nss w, x = .ref a → Pn H a nss w → ∀ p H', Same H H' → Pn H' p (rowsOf (g nss w) nss.length w) w → Q (.ref p) H')
def liftG (nss : List (List Int)) (w : Nat) : List Int := liftL (fOf nss.flatten w) nss.length w
/-- the loop of lifted, when j areas are done from behind -/
structure Lf (H0 : Hp) (f : Nat → Nat → Int) (h w : Nat) (us : List V) (ra fm fd : Addr) (j : Nat) (H : Hp) : Prop where
  s : Same H0 H
  m : ∃ ms : List Int, H fm = some (.lst (ms.map V.int)) ∧ ms.length = 2 * (h * w) - 1 ∧ ∀ (i : Nat) (a : Ar), 2 * (h * w) - 1 - j ≤ i → (areasL h w)[i]? = some a → ms[i]? = some (mean f a)
  d : H fd = some (.lst (((((areasL h w).drop (2 * (h * w) - 1 - j)).filter Ar.inn).map (diff f)).reverse.map V.int))
  fmd : fm ≠ fd
theorem ixN_nat {n j : Nat} (h : j < n) : ixN n (j : Int) = some j := by
  unfold ixN
  rw [if_pos (by omega), if_pos (by omega)]
  rfl
theorem upd2 {H : Hp} {a b : Addr} {o : HO} {u : Option HO} (h : H a = u) (n : a ≠ b) : (upd H b o) a = u := (upd_ne n).trans h
section
variable {P : Program} {w : World} {K : PySem.W.Frag} {mg : Str → Option Value} {base : Heap} (T : Top K mg)
theorem ok_check_rectangle : FnOk P w K mg base (L2.CX P w) 4 T.check_rectangle.a T.check_rectangle.d ["rectangle"] (spCheckRect K T.BadRectangle.C) := by
  refine T.check_rectangle.f.okX sc_check_rectangle (fun vs H Q E h => ?_) (fun cdv A outer s H vs Q E hr h => ?_)
  · obtain ⟨x, o, rfl, _⟩ := h
    rfl
  · obtain ⟨x, o, rfl, th, k1, k2⟩ := h
    refine ⟨_, pss_one (ps_if (pt_not (pt_val (pe_call (ok_is_rows T) hr (by rfl) T.is_rows.m T.is_rows.f.kp (bd_is_rows T) .nil passE (pa_cons (pv 0) pa_nil))))
        (pss_one (ps_raiseT rfl rfl T.BadRectangle (by rfl) rfl (takes_of rfl rfl rfl rfl))) pss_nil), ?_⟩
    refine ⟨_, rfl, x, o, rfl, th, fun H1 s1 => ⟨_, rfl, ?_⟩⟩
    cases hg : rowsB o
    · exact iteT (k2 hg H1 s1)
    · exact iteF (k1 hg H1 s1)
theorem ok_is_rectangle : FnOk P w K mg base (L2.CX P w) 4 T.is_rectangle.a T.is_rectangle.d ["thing"] (spRows K) := by
  refine T.is_rectangle.f.okX sc_is_rectangle (fun vs H Q E h => ?_) (fun cdv A outer s H vs Q E hr h => ?_)
  · obtain ⟨x, o, rfl, _⟩ := h
    rfl
  · obtain ⟨x, o, rfl, th, k⟩ := h
    refine ⟨_, pss_one (ps_ret (pe_call (ok_is_rows T) hr (by rfl) T.is_rows.m T.is_rows.f.kp (bd_is_rows T) .nil passE (pa_cons (pv 0) pa_nil))), ?_⟩
    exact ⟨_, rfl, x, o, rfl, th, k⟩
theorem ok_lifted : FnOk P w K mg base (L2.CX P w) 5 T.lifted.a T.lifted.d ["rectangle"] (spMade K T.BadRectangle.C liftG) := by
  refine T.lifted.f.okX sc_lifted (fun vs H Q E h => ?_) (fun cdv A outer s H vs Q E hr h => ?_)
  · obtain ⟨x, o, rfl, _⟩ := h
    rfl
  · obtain ⟨x, o, rfl, th, k2, k⟩ := h
    refine ⟨_, pss_cons (ps_expr (pe_call (ok_check_rectangle T) (hr.mono (by decide)) (by rfl) T.check_rectangle.m T.check_rectangle.f.kp (bd_check_rectangle T) .nil (passX rfl rfl rfl rfl) (pa_cons (pv 0) pa_nil)))
      (pss_cons (ps_set (i := 1) sc_lifted.nd rfl (.inl rfl) (pe_call (ok_list_areas T) (hr.mono (by decide)) (by rfl) T.list_areas.m T.list_areas.f.kp (bd_list_areas T) .nil passE (pa_cons (pe_callB call_len_seq (by rfl) T.b_len PySem.boot_len (pa_cons (pv 0) pa_nil)) (pa_cons (pe_callB call_len_seq (by rfl) T.b_len PySem.boot_len (pa_cons (pe_ix ix_tup (pv 0) pe_int (fun _ _ => rfl)) pa_nil)) pa_nil))))
      (pss_cons (ps_set (i := 2) sc_lifted.nd rfl (.inl rfl) (pe_op op_rep (pe_lst (pa_cons pe_int pa_nil)) (pe_callB call_len_seq (by rfl) T.b_len PySem.boot_len (pa_cons (pv 1) pa_nil))))
      (pss_cons (ps_set (i := 3) sc_lifted.nd rfl (.inl rfl) (pe_lst pa_nil))
      (pss_cons (ps_set (i := 4) sc_lifted.nd rfl (.inl rfl) (pe_op op_fdiv (pe_callB call_len_seq (by rfl) T.b_len PySem.boot_len (pa_cons (pv 1) pa_nil)) pe_int))
      (pss_cut (ps_for (passes_of rfl) rfl (pi_revR (by rfl) T.b_reversed (prg_1 (by rfl) T.b_range (pe_callB call_len_seq (by rfl) T.b_len PySem.boot_len (pa_cons (pv 1) pa_nil)))) (pg_name (i := 5) sc_lifted.nd rfl (.inl rfl))
        (pss_one (ps_if (pt_val (pe_call (ok_is_inner T) (hr.mono (by decide)) (by rfl) T.is_inner.m T.is_inner.f.kp (bd_is_inner T) .nil passE (pa_cons (pe_ix ix_list (pv 1) (pv 5) (fun _ _ => rfl)) pa_nil)))
          (pss_cons (ps_asg (pe_call (ok_halves_at T) (hr.mono (by decide)) (by rfl) T.halves_at.m T.halves_at.f.kp (bd_halves_at T) .nil passE (pa_cons (pv 4) pa_nil)) (pg_tup rfl (pgs_cons (pg_name (i := 6) sc_lifted.nd rfl (.inl rfl)) (pgs_cons (pg_name (i := 7) sc_lifted.nd rfl (.inl rfl)) pgs_nil))))
          (pss_cons (ps_asg (pe_op op_fdiv (pe_op op_add (pe_ix ix_list (pv 2) (pv 6) (fun _ _ => rfl)) (pe_ix ix_list (pv 2) (pv 7) (fun _ _ => rfl))) pe_int) (pg_sub (pv 2) (pv 5) set_list))
          (pss_cons (ps_expr (pe_bm PySem.F.plainAttrs_list PySem.F.slot_list_append PySem.F.type_list_append mt_append (pv 3) (pa_cons (pe_op op_sub (pe_ix ix_list (pv 2) (pv 7) (fun _ _ => rfl)) (pe_ix ix_list (pv 2) (pv 6) (fun _ _ => rfl))) pa_nil)))
          (pss_one (ps_aug (i := 4) sc_lifted.nd rfl (.inl rfl) pe_int ip_sub)))))
          (pss_cons (ps_asg (pe_ix ix_list (pv 1) (pv 5) (fun _ _ => rfl)) (pg_tup rfl (pgs_cons (pg_name (i := 8) sc_lifted.nd rfl (.inl rfl)) (pgs_cons (pg_name (i := 9) sc_lifted.nd rfl (.inl rfl)) (pgs_cons (pg_name (i := 10) sc_lifted.nd rfl (.inl rfl)) (pgs_cons (pg_name (i := 10) sc_lifted.nd rfl (.inl rfl)) pgs_nil))))))
          (pss_one (ps_asg (pe_ix ix_tup (pe_ix ix_tup (pv 0) (pv 8) (fun _ _ => rfl)) (pv 9) (fun _ _ => rfl)) (pg_sub (pv 2) (pv 5) set_list)))))))
      (pss_one (ps_ret (pe_call (ok_in_rows T) (hr.mono (by decide)) (by rfl) T.in_rows.m T.in_rows.f.kp (bd_in_rows T) .nil passE (pa_cons (pe_op op_cat (pe_lst (pa_cons (pe_ix ix_list (pv 2) pe_int (fun _ _ => rfl)) pa_nil)) (pe_revL (pv 3))) (pa_cons (pe_callB call_len_seq (by rfl) T.b_len PySem.boot_len (pa_cons (pe_ix ix_tup (pv 0) pe_int (fun _ _ => rfl)) pa_nil)) pa_nil)))))))))), ?_⟩
    refine ⟨_, rfl, x, o, rfl, th, fun g H1 s1 => ?_, k2⟩
    clear k2
    obtain ⟨a, nss, wn, rfl, pn0, _⟩ := th.good g
    have pn := pn0.keep s1
    have k := k a nss wn rfl pn0
    have k : ∀ p H', Same H1 H' → Pn H' p (rowsOf (liftG nss wn) nss.length wn) wn → Q (.ref p) H' := fun p H' m q => k p H' (s1.trans m) q
    clear th pn0 s1 g
    obtain ⟨vs, ea, rows⟩ := pn.rows
    have h1 := pn.h1
    have h2 := pn.h2
    have w1 := pn.w1
    have w2 := pn.w2
    have ws := pn.ws
    obtain ⟨v0, hv0⟩ : ∃ v0, vs[0]? = some v0 := ⟨_, List.getElem?_eq_getElem (by rw [rows.1]; omega)⟩
    obtain ⟨b0, n0, rfl, hn0, eb0⟩ := rows.2 0 v0 hv0
    have l0 : n0.length = wn := ws n0 (List.mem_of_getElem? hn0)
    refine ⟨_, rfl, a, vs, rfl, .inr (SqT.of ea), _, rfl, a, vs, 0, _, rfl, rfl, SqT.of ea, atI_nat (j := 0) hv0, b0, _, rfl, .inr (SqT.of eb0), nss.length, wn, by rw [rows.1, List.length_map, l0]; rfl, h1, h2, w1, w2, fun q us H2 m2 f2 l2 al => ?_⟩
    generalize hh : nss.length = h at *
    have lr := lit_root h1 h2 w1 w2
    have lenA := areas_len h1 w1
    have lu : us.length = 2 * (h * wn) - 1 := by rw [al.len, lenA]
    generalize hN : 2 * (h * wn) - 1 = N at *
    have N1 : 1 ≤ N := by
      have := Nat.mul_pos h1 w1
      omega
    have N2 : N ≤ 511 := by
      have := Nat.mul_le_mul h2 w2
      omega
    refine ⟨(by show 1 ≤ sizeLine; decide), fun p1 hp1 => ?_⟩
    have t1 := Same.new (o := .lst [V.int 0]) hp1
    refine ⟨_, rfl, q, us, rfl, .inl (SqL.of (t1 _ _ l2)), p1, ((us.length : Nat) : Int), _, rfl, rfl, upd_same, by omega, by omega, ?_, fun fm hfm => ?_⟩
    · rw [Int.toNat_natCast, lu]
      exact Nat.le_trans (show 1 * N ≤ 511 by omega) (by decide)
    have t2 := Same.new (o := .lst (List.replicate ((us.length : Nat) : Int).toNat [V.int 0]).flatten) hfm
    refine ⟨(by show 0 ≤ sizeLine; decide), fun fd hfd => ?_⟩
    have t3 := Same.new (o := .lst []) hfd
    have l3 := t3 _ _ (t2 _ _ (t1 _ _ l2))
    refine ⟨_, rfl, q, us, rfl, .inl (SqL.of l3), _, _, rfl, rfl, ⟨by decide, by decide⟩, ?_⟩
    have S3 := (t1.trans t2).trans t3
    have fmf : H2 fm = none := t1.free hfm
    have fdf : H2 fd = none := (t1.trans t2).free hfd
    have fmd : fm ≠ fd := fun z => by
      rw [← z, upd_same] at hfd
      cases hfd
    have hm0 : ∃ ms : List Int, (upd (upd (upd H2 p1 (.lst [V.int 0])) fm (.lst (List.replicate ((us.length : Nat) : Int).toNat [V.int 0]).flatten)) fd (.lst [])) fm = some (.lst (ms.map V.int)) ∧ ms.length = N := by
      refine ⟨List.replicate N 0, ?_, List.length_replicate ..⟩
      rw [upd_ne fmd, upd_same, Int.toNat_natCast, lu]
      congr 2
      clear hN lu
      induction N with
      | zero => rfl
      | succ n ih => simp [List.replicate_succ]
    have hd0 : (upd (upd (upd H2 p1 (.lst [V.int 0])) fm (.lst (List.replicate ((us.length : Nat) : Int).toNat [V.int 0]).flatten)) fd (.lst [])) fd = some (.lst []) := upd_same
    generalize upd (upd (upd H2 p1 (.lst [V.int 0])) fm (.lst (List.replicate ((us.length : Nat) : Int).toNat [V.int 0]).flatten)) fd (.lst []) = H3 at S3 hm0 hd0 l3 ⊢
    have m2' := m2
    refine ⟨fun σ' H' => (∃ v5 v6 v7 v8 v9 v10, σ' = [some (.ref a), some (.ref q), some (.ref fm), some (.ref fd), some (.int 0), v5, v6, v7, v8, v9, v10]) ∧ Lf H2 (fOf nss.flatten wn) h wn us q fm fd N H', ?_, ?_⟩
    · refine ⟨_, rfl, q, us, rfl, .inl (SqL.of l3), _, rfl, by omega, by omega, by omega, by omega, for_it walk_rangeC (fun j σ H => (∃ (c : Int) (v5 v6 v7 v8 v9 v10 : Option V), c = ((kth h wn (N - j) : Nat) : Int) ∧ σ = [some (.ref a), some (.ref q), some (.ref fm), some (.ref fd), some (.int c), v5, v6, v7, v8, v9, v10]) ∧ Lf H2 (fOf nss.flatten wn) h wn us q fm fd j H)
        ⟨⟨_, none, none, none, none, none, none, ?_, rfl⟩, S3, ?_, ?_, fmd⟩ (fun _ _ _ _ _ => trivial) ?_ fun σ H' q => ?_⟩
      · have e : (((us.length : Nat) : Int) / 2) = ((kth h wn (N - 0) : Nat) : Int) := by
          have := kth_all h1 w1
          rw [hN] at this
          rw [lu, Nat.sub_zero]
          omega
        exact e
      · obtain ⟨ms, b1, b2⟩ := hm0
        refine ⟨ms, b1, by rw [hN]; exact b2, fun i a' hi e => ?_⟩
        have := (List.getElem?_eq_some_iff.mp e).1
        rw [lenA] at this
        rw [hN] at hi
        omega
      · rw [hN, Nat.sub_zero, List.drop_of_length_le (by rw [lenA]; exact Nat.le_refl _)]
        exact hd0
      · rintro j x σ H4 H4' hj ⟨⟨c, v5, v6, v7, v8, v9, v10, ec, rfl⟩, B⟩ ⟨rfl, rfl⟩
        have hj : j < N := by
          have : (((us.length : Nat) : Int) - 0).toNat = N := by rw [lu]; omega
          omega
        obtain ⟨sm, ⟨ms, m1, m2, m3⟩, dl, _⟩ := B
        rw [hN] at m2 m3 dl
        obtain ⟨i, hi⟩ : ∃ i, i = N - 1 - j := ⟨_, rfl⟩
        have e1 : N - j = i + 1 := by omega
        have e2 : N - (j + 1) = i := by omega
        have ev : (0 : Int) + ((((((us.length : Nat) : Int) - 0).toNat : Nat)) : Int) - 1 + (j : Nat) * (-1) = ((i : Nat) : Int) := by
          rw [lu]
          omega
        dsimp only
        rw [ev]
        rw [e1] at m3 dl ec
        subst ec
        obtain ⟨ai, hai⟩ : ∃ ai, (areasL h wn)[i]? = some ai := ⟨_, List.getElem?_eq_getElem (by rw [lenA]; omega)⟩
        obtain ⟨qa, hqa, eqa⟩ := al.at_ hai
        have lt := lit_areas h1 h2 w1 w2 (List.mem_of_getElem? hai)
        have im : i < ms.length := by omega
        have dr : (areasL h wn).drop i = ai :: (areasL h wn).drop (i + 1) := by
          have l : i < (areasL h wn).length := by rw [lenA]; omega
          rw [List.drop_eq_getElem_cons l]
          congr 1
          rw [List.getElem?_eq_getElem l] at hai
          exact Option.some.inj hai
        have ks := kth_succ hai
        have setm : ∀ v, (ms.map V.int).set i (.int v) = (ms.set i v).map V.int := fun v => by rw [List.map_set]
        have geti : ∀ v (n : Nat) (b : Ar), i ≤ n → (v = mean (fOf nss.flatten wn) ai) → (areasL h wn)[n]? = some b → (ms.set i v)[n]? = some (mean (fOf nss.flatten wn) b) := fun v n b hn ve e => by
          by_cases c : n = i
          · subst c
            rw [hai] at e
            cases e
            rw [List.getElem?_set_self im, ve]
          · rw [List.getElem?_set_ne (Ne.symm c)]
            exact m3 n b (by omega) e
        refine ⟨_, rfl, _, rfl, q, us, _, _, rfl, rfl, SqL.of (sm _ _ l2), atI_nat hqa, qa, ai, rfl, sm _ _ eqa, lt, _, rfl, ?_⟩
        cases inn : ai.inn
        · refine iteF ⟨_, rfl, _, rfl, q, us, _, _, rfl, rfl, SqL.of (sm _ _ l2), atI_nat hqa, qa, _, rfl, SqT.of (sm _ _ eqa), rfl, _, _, rfl, _, _, rfl, _, _, rfl, _, _, rfl, rfl, ?_⟩
          obtain ⟨o1, o2⟩ := one_of lt.o inn
          have ia := (areas_ok h1 w1 (List.mem_of_getElem? hai)).2
          unfold In root at ia
          dsimp only at ia
          have yh : ai.t < nss.length := by rw [hh]; omega
          have xw : ai.l < wn := by omega
          obtain ⟨vy, hvy⟩ : ∃ vy, vs[ai.t]? = some vy := ⟨_, List.getElem?_eq_getElem (by rw [rows.1]; exact yh)⟩
          obtain ⟨by', ny, rfl, hny, eby⟩ := rows.2 _ vy hvy
          have ly : ny.length = wn := ws ny (List.mem_of_getElem? hny)
          obtain ⟨vx, hvx⟩ : ∃ vx, ny[ai.l]? = some vx := ⟨_, List.getElem?_eq_getElem (by omega)⟩
          have fv : vx = mean (fOf nss.flatten wn) ai := by
            rw [mean_one lt.o inn]
            unfold fOf
            rw [flat_at ws yh xw]
            simp only [List.getD_eq_getElem?_getD, hny, Option.getD_some, hvx]
          refine ⟨_, rfl, _, rfl, a, vs, _, _, rfl, rfl, SqT.of (sm _ _ (m2' _ _ ea)), atI_nat hvy, _, rfl, by', _, _, .int vx, rfl, rfl, SqT.of (sm _ _ (m2' _ _ eby)), atI_nat (by rw [List.getElem?_map, hvx]; rfl), ?_⟩
          refine ⟨_, rfl, _, rfl, fm, _, _, i, rfl, rfl, m1, ixN_nat (by rw [List.length_map]; exact im), ⟨_, _, _, _, _, _, _, ?_, rfl⟩, ?_⟩
          · rw [e2, ks, if_neg (by rw [inn]; simp), Nat.add_zero]
          · rw [setm]
            refine ⟨Same.put sm fmf, ⟨_, upd_same, by rw [hN, List.length_set]; exact m2, fun n b hn e => ?_⟩, ?_, fmd⟩
            · rw [hN, e2] at hn
              exact geti vx n b hn fv e
            · rw [hN, e2, dr, List.filter_cons_of_neg (by rw [inn]; simp), upd_ne (Ne.symm fmd)]
              exact dl
        · rw [inn, if_pos rfl] at ks
          have kp : 1 ≤ kth h wn (i + 1) := by omega
          have kl : kth h wn (i + 1) ≤ 1000 := by
            have : kth h wn (i + 1) ≤ i + 1 := by
              unfold kth
              refine Nat.le_trans List.countP_le_length ?_
              rw [List.length_take]
              exact Nat.min_le_left _ _
            omega
          obtain ⟨k1, k2, k3⟩ := kids_at h1 w1 hai inn
          have g1 := m3 _ _ (by omega) k1
          have g2 := m3 _ _ (by omega) k2
          refine iteT ⟨_, rfl, kth h wn (i + 1), rfl, kp, kl, fun p hp => ⟨p, _, rfl, SqT.of upd_same, rfl, _, _, rfl, _, _, rfl, rfl, ?_⟩⟩
          have tp := Same.new (o := .tup [V.int ((2 * kth h wn (i + 1) - 1 : Nat) : Int), .int ((2 * kth h wn (i + 1) : Nat) : Int)]) hp
          have m1' := tp _ _ m1
          have dl' := tp _ _ dl
          have sm' := sm.trans tp
          generalize upd H4' p (.tup [V.int ((2 * kth h wn (i + 1) - 1 : Nat) : Int), .int ((2 * kth h wn (i + 1) : Nat) : Int)]) = H5 at m1' dl' sm' ⊢
          refine ⟨_, rfl, _, rfl, fm, _, _, _, rfl, rfl, SqL.of m1', atI_nat (by rw [List.getElem?_map, g1]; rfl), _, rfl, _, rfl, fm, _, _, _, rfl, rfl, SqL.of m1', atI_nat (by rw [List.getElem?_map, g2]; rfl), _, _, rfl, rfl, _, _, rfl, rfl, ⟨by decide, by decide⟩, ?_⟩
          dsimp only
          rw [← mean_in (f := fOf nss.flatten wn) lt.o inn]
          refine ⟨_, rfl, _, rfl, fm, _, _, i, rfl, rfl, m1', ixN_nat (by rw [List.length_map]; exact im), ?_⟩
          rw [setm]
          have g1' := geti _ _ _ (by omega) rfl k1
          have g2' := geti _ _ _ (by omega) rfl k2
          have dl2 : (upd H5 fm (.lst ((ms.set i (mean (fOf nss.flatten wn) ai)).map V.int))) fd = _ := (upd_ne (Ne.symm fmd)).trans dl'
          have mm2 : (upd H5 fm (.lst ((ms.set i (mean (fOf nss.flatten wn) ai)).map V.int))) fm = _ := upd_same
          have sm2 := Same.put (o := .lst ((ms.set i (mean (fOf nss.flatten wn) ai)).map V.int)) sm' fmf
          generalize upd H5 fm (.lst ((ms.set i (mean (fOf nss.flatten wn) ai)).map V.int)) = H6 at dl2 mm2 sm2 ⊢
          refine ⟨_, rfl, .inl ⟨rfl, _, SqL.of dl2⟩, _, rfl, _, rfl, fm, _, _, _, rfl, rfl, SqL.of mm2, atI_nat (by rw [List.getElem?_map, g2']; rfl), _, rfl, _, rfl, fm, _, _, _, rfl, rfl, SqL.of mm2, atI_nat (by rw [List.getElem?_map, g1']; rfl), _, _, rfl, rfl, ?_⟩
          refine ⟨fd, _, _, rfl, rfl, dl2, ?_, ?_⟩
          · rw [List.length_map, List.length_reverse, List.length_map]
            refine Nat.lt_of_le_of_lt (List.length_filter_le _ _) ?_
            rw [List.length_drop, lenA]
            exact Nat.lt_of_le_of_lt (show _ ≤ 511 by omega) (by decide)
          refine ⟨_, rfl, _, _, rfl, rfl, ⟨_, _, _, _, _, _, _, ?_, rfl⟩, ?_⟩
          · rw [e2]
            dsimp only
            omega
          · refine ⟨Same.put sm2 fdf, ⟨_, (upd_ne fmd).trans mm2, by rw [hN, List.length_set]; exact m2, fun n b hn e => ?_⟩, ?_, fmd⟩
            · rw [hN, e2] at hn
              exact geti _ n b hn rfl e
            · rw [hN, e2, dr, List.filter_cons_of_pos inn, List.map_cons, List.reverse_cons, List.map_append, upd_same]
              rfl
      · obtain ⟨⟨c, v5, v6, v7, v8, v9, v10, ec, rfl⟩, B⟩ := q
        have e : (((us.length : Nat) : Int) - 0).toNat = N := by rw [lu]; omega
        rw [e] at B ec
        rw [Nat.sub_self, kth_zero] at ec
        subst ec
        exact ⟨⟨_, _, _, _, _, _, rfl⟩, B⟩
    · rintro σ' H4 ⟨⟨v5, v6, v7, v8, v9, v10, rfl⟩, B⟩
      obtain ⟨sm, ⟨ms, m1, m2, m3⟩, dl, _⟩ := B
      rw [hN] at m2 m3 dl
      rw [Nat.sub_self] at m3 dl
      have g0 := m3 0 _ (Nat.zero_le _) (root_at h1 w1)
      refine ⟨_, rfl, fm, _, 0, _, rfl, rfl, SqL.of m1, atI_nat (j := 0) (by rw [List.getElem?_map, g0]; rfl), (by show 1 ≤ sizeLine; decide), fun p1 hp1 => ?_⟩
      have t1 := Same.new (o := .lst [V.int (mean (fOf nss.flatten wn) (root h wn))]) hp1
      refine ⟨_, rfl, fd, _, rfl, SqL.of (t1 _ _ dl), fun p2 hp2 => ?_⟩
      have t2 := Same.new (o := .lst (((((areasL h wn).drop 0).filter Ar.inn).map (diff (fOf nss.flatten wn))).reverse.map V.int).reverse) hp2
      have ed : (((((areasL h wn).drop 0).filter Ar.inn).map (diff (fOf nss.flatten wn))).reverse.map V.int).reverse = ((innL h wn).map (diff (fOf nss.flatten wn))).map V.int := by
        rw [← List.map_reverse, List.reverse_reverse, List.drop_zero]
        rfl
      have ll := liftL_len h1 w1 (f := fOf nss.flatten wn)
      refine ⟨p1, p2, _, _, rfl, rfl, t2 _ _ upd_same, upd_same, ?_, fun p3 hp3 => ?_⟩
      · rw [ed, List.length_map]
        have : ((innL h wn).map (diff (fOf nss.flatten wn))).length + 1 = h * wn := ll
        show 1 + _ ≤ _
        exact Nat.le_trans (show _ ≤ 511 by omega) (by decide)
      · have t3 := Same.new (o := .lst ([V.int (mean (fOf nss.flatten wn) (root h wn))] ++ (((((areasL h wn).drop 0).filter Ar.inn).map (diff (fOf nss.flatten wn))).reverse.map V.int).reverse)) hp3
        have smA := (((m2'.trans sm).trans t1).trans t2).trans t3
        refine ⟨_, rfl, a, vs, 0, _, rfl, rfl, SqT.of (smA _ _ ea), atI_nat (j := 0) hv0, b0, _, rfl, .inr (SqT.of (smA _ _ eb0)), p3, liftL (fOf nss.flatten wn) h wn, h, wn, by rw [List.length_map, l0]; rfl, ?_, ll, h1, h2, w1, w2, fun p H' m _ q => k p H' (smA.trans m) ?_⟩
        · rw [upd_same, ed]
          rfl
        · unfold liftG
          rw [hh]
          exact q
end
end K16
namespace K16
open PySem PySem.Spec PyProof.Rows L2 PySem.W LamX KA KW KU KL KT
open Evl (pss_cut tCut)
/-! ### unlifted -/
theorem walk_core {J : It} {n : Nat} {G : Hp → Prop} {Y : Nat → Hp → V → Hp → Prop} (w : Walk J n G Y) {H1 : Hp} {Stop : Hp → Prop} {Body : (Hp → Prop) → V → Hp → Prop} (Pv : Nat → Hp → Prop) (h0 : Pv 0 H1) (hG : ∀ i H, i ≤ n → Pv i H → G H)
    (hs : ∀ i x H H', i < n → Pv i H → Y i H x H' → Body (Pv (i + 1)) x H') (hd : ∀ H, Pv n H → Stop H) :
    ∃ W : Nat → Nat → Hp → Prop, (∃ m, W 0 m H1) ∧ ∀ i m H, W i m H → (J.stop i H ∧ Stop H) ∨ (J.go i H ∧ ∃ Nx : Hp → Prop, (∀ H', Nx H' → ∃ m', m' < m ∧ W (i + 1) m' H') ∧ ∀ x H', J.yld i H x H' → Body Nx x H') := by
  refine ⟨fun i m H => m = n - i ∧ i ≤ n ∧ Pv i H, ⟨n, by simp, Nat.zero_le _, h0⟩, ?_⟩
  rintro i m H ⟨rfl, hi, p⟩
  have q := hG i H hi p
  by_cases hlt : i < n
  · exact .inr ⟨w.goes i H hlt q, Pv (i + 1), fun H' p' => ⟨n - (i + 1), by omega, rfl, hlt, p'⟩, fun x H' y => hs i x H H' hlt p (w.yields i H x H' hlt q y)⟩
  · have e : i = n := by omega
    subst e
    exact .inl ⟨w.stops H q, hd H p⟩
theorem take_flat {nss : List (List Int)} {i : Nat} {r : List Int} (h : nss[i]? = some r) : (nss.take (i + 1)).flatten = (nss.take i).flatten ++ r := by
  rw [List.take_add_one, h, List.flatten_append]
  simp
/-- [number for row in pane for number in row] -/
theorem flat_read {K : PySem.W.Frag} {H : Hp} {a : Addr} {nss : List (List Int)} {w : Nat} {Qd : V → Hp → Prop} {i j k : Nat} {σ : L2.St} (pn : Pn H a nss w) (e0 : σ[i]? = some (some (V.ref a)))
    (hj : ∀ x : V, ∃ σ2 : L2.St, σ2 = (wipe σ [j, k]).set j (some x) ∧ wipe σ2 [j, k] = wipe σ [j, k] ∧ σ2[j]? = some (some x) ∧ ∀ y : V, ((wipe σ2 [k]).set k (some y))[k]? = some (some y) ∧ wipe ((wipe σ2 [k]).set k (some y)) [k] = wipe σ2 [k])
    (kk : ∀ (D : Addr) (H' : Hp), Same H H' → H D = none → H' D = some (.lst (nss.flatten.map V.int)) → Qd (.ref D) H') :
    tLc2 (iTup K (tVar i)) (gName j) tYes (iTup K (tVar j)) (gName k) tYes (tVar k) [j, k] [k] σ H Qd := by
  obtain ⟨vs, ea, rows⟩ := pn.rows
  refine ⟨_, e0, a, rfl, ⟨_, SqT.of ea⟩, fun D hD => ?_⟩
  refine walk_core (w := walk_tup (K := K) (a := a) (xs := vs)) (Body := fun Nx x H' => gName j x (wipe σ [j, k]) H' fun σ2 H2 => wipe σ2 [j, k] = wipe σ [j, k] ∧ tYes σ2 H2 fun b H3 => if b = true then iTup K (tVar j) σ2 H3 fun J1 H4 => ∃ W1 : Nat → Nat → Hp → Prop, (∃ m, W1 0 m H4) ∧ ∀ j' k' H, W1 j' k' H →
      (J1.stop j' H ∧ Nx H) ∨ (J1.go j' H ∧ ∃ Nx1 : Hp → Prop, (∀ H', Nx1 H' → ∃ k'', k'' < k' ∧ W1 (j' + 1) k'' H') ∧ ∀ x H', J1.yld j' H x H' → gName k x (wipe σ2 [k]) H' fun σ3 H5 => wipe σ3 [k] = wipe σ2 [k] ∧ tYes σ3 H5 fun b H6 =>
        if b = true then tVar k σ3 H6 fun y H7 => ∃ acc, H7 D = some (.lst acc) ∧ acc.length < sizeLine ∧ Nx1 (upd H7 D (.lst (acc ++ [y]))) else Nx1 H6) else Nx H3)
    (fun n H' => H' D = some (.lst ((nss.take n).flatten.map V.int)) ∧ Same H H') ⟨upd_same, Same.new hD⟩ (fun _ H' _ q => SqT.of (q.2 _ _ ea)) ?_ ?_
  · rintro n x H2 H3 hn ⟨q1, q2⟩ ⟨rfl, hx⟩
    obtain ⟨b, ns, rfl, hns, eb⟩ := rows.2 n x hx
    obtain ⟨σ2, es, ew, ej, ek⟩ := hj (.ref b)
    have ln := pn.ws ns (List.mem_of_getElem? hns)
    show wipe ((wipe σ [j, k]).set j _) [j, k] = wipe σ [j, k] ∧ _
    rw [← es]
    refine ⟨ew, ?_⟩
    dsimp only [tYes]
    rw [if_pos rfl]
    refine ⟨_, ej, b, rfl, ⟨_, SqT.of (q2 _ _ eb)⟩, ?_⟩
    refine walk_core (w := walk_tup (K := K) (a := b) (xs := ns.map V.int)) (Body := fun Nx1 x H' => gName k x (wipe σ2 [k]) H' fun σ3 H5 => wipe σ3 [k] = wipe σ2 [k] ∧ tYes σ3 H5 fun b H6 =>
        if b = true then tVar k σ3 H6 fun y H7 => ∃ acc, H7 D = some (.lst acc) ∧ acc.length < sizeLine ∧ Nx1 (upd H7 D (.lst (acc ++ [y]))) else Nx1 H6)
      (fun m H' => H' D = some (.lst (((nss.take n).flatten ++ ns.take m).map V.int)) ∧ Same H H') ⟨by simpa using q1, q2⟩ (fun _ H' _ q => SqT.of (q.2 _ _ eb)) ?_ ?_
    · rintro m y H4 H5 hm ⟨r1, r2⟩ ⟨rfl, hy⟩
      obtain ⟨v, hv, rfl⟩ : ∃ v, ns[m]? = some v ∧ y = V.int v := by
        rw [List.getElem?_map] at hy
        cases e : ns[m]? with
        | none => rw [e] at hy; cases hy
        | some v => rw [e] at hy; exact ⟨v, rfl, (Option.some.inj hy).symm⟩
      obtain ⟨ek1, ek2⟩ := ek (.int v)
      refine ⟨ek2, ?_⟩
      dsimp only [tYes]
      rw [if_pos rfl]
      refine ⟨_, ek1, _, r1, ?_, ?_, Same.put r2 hD⟩
      · rw [List.length_map, List.length_append]
        have l1 : ((nss.take n).flatten).length ≤ 256 := by
          rw [flat_len (w := w) fun r hr => pn.ws r (List.mem_of_mem_take hr)]
          exact Nat.mul_le_mul (Nat.le_trans (by rw [List.length_take]; exact Nat.min_le_right _ _) pn.h2) pn.w2
        have l2 : (ns.take m).length ≤ 16 := by
          rw [List.length_take, ln]
          exact Nat.le_trans (Nat.min_le_right _ _) pn.w2
        exact Nat.lt_of_le_of_lt (show _ ≤ 300 by omega) (by decide)
      · rw [upd_same, List.take_add_one, hv]
        simp
    · rintro H4 ⟨r1, r2⟩
      have et : ns.take (ns.map V.int).length = ns := List.take_of_length_le (by rw [List.length_map]; exact Nat.le_refl _)
      rw [et] at r1
      exact ⟨by rw [take_flat hns]; exact r1, r2⟩
  · rintro H2 ⟨q1, q2⟩
    rw [List.take_of_length_le (by rw [rows.1]; exact Nat.le_refl _)] at q1
    exact kk D H2 q2 hD q1
theorem rows_range {h w : Nat} (h1 : 1 ≤ h) (w1 : 1 ≤ w) (g : Nat → Nat → Int) : rowsOf ((List.range (h * w)).map fun j => g (j / w) (j % w)) h w = (List.range h).map fun y => (List.range w).map fun x => g y x := by
  unfold rowsOf
  refine List.map_congr_left fun y hy => ?_
  have hy := List.mem_range.mp hy
  have ny : y * w + w ≤ h * w := by
    have : (y + 1) * w ≤ h * w := Nat.mul_le_mul_right w hy
    rw [Nat.succ_mul] at this
    exact this
  refine List.ext_getElem ?_ fun x a b => ?_
  · rw [List.length_take, List.length_drop, List.length_map, List.length_range, List.length_map, List.length_range]
    omega
  · have hx : x < w := by simpa using b
    rw [List.getElem_take, List.getElem_drop, List.getElem_map, List.getElem_map, List.getElem_range, List.getElem_range]
    rw [show (y * w + x) / w = y by rw [Nat.mul_comm, Nat.mul_add_div w1, Nat.div_eq_of_lt hx, Nat.add_zero], show (y * w + x) % w = x by rw [Nat.mul_comm, Nat.mul_add_mod, Nat.mod_eq_of_lt hx]]
/-! the loop of lowest -/
def cellN (h w : Nat) (m : Nat → Int) (n y x : Nat) : Int := if (areasL h w).idxOf ⟨y, x, 1, 1⟩ < n then cellV h w (up h w m) y x else 0
structure Lo (H0 : Hp) (h w : Nat) (m : Nat → Int) (fm rs : Addr) (ds : List Addr) (n : Nat) (H : Hp) : Prop where
  s : Same H0 H
  me : ∃ ms : List Int, H fm = some (.lst (ms.map V.int)) ∧ ms.length = 2 * (h * w) - 1 ∧ ∀ (i : Nat) (x : Int), (upL h w m n)[i]? = some x → ms[i]? = some x
  r : H rs = some (.lst (ds.map V.ref))
  c : ∀ (y : Nat) (d : Addr), ds[y]? = some d → H d = some (.lst (((List.range w).map fun x => cellN h w m n y x).map V.int))
theorem upL_succ {h w n : Nat} {m : Nat → Int} {a : Ar} (e : (areasL h w)[n]? = some a) : upL h w m (n + 1) = if a.inn = true then upL h w m n ++ [(upL h w m n).getD n 0 - m (kth h w (n + 1)) / 2, (upL h w m n).getD n 0 + m (kth h w (n + 1)) - m (kth h w (n + 1)) / 2] else upL h w m n := by
  show (match (areasL h w)[n]? with | some a => _ | none => _ : List Int) = _
  rw [e]
theorem cellN_zero {h w : Nat} {m : Nat → Int} {y x : Nat} : cellN h w m 0 y x = 0 := by
  unfold cellN
  rw [if_neg (Nat.not_lt_zero _)]
theorem cellN_step {h w n : Nat} (h1 : 1 ≤ h) (w1 : 1 ≤ w) {m : Nat → Int} {a : Ar} (e : (areasL h w)[n]? = some a) {y x : Nat} (ne : (⟨y, x, 1, 1⟩ : Ar) ≠ a) (hy : y < h) (hx : x < w) : cellN h w m (n + 1) y x = cellN h w m n y x := by
  obtain ⟨j, ej⟩ := List.getElem?_of_mem (leaf_at h1 w1 hy hx)
  have ix := idx_at h1 w1 ej
  have nj : j ≠ n := fun z => by
    subst z
    rw [ej] at e
    exact ne (Option.some.inj e)
  unfold cellN
  rw [ix]
  by_cases c : j < n
  · rw [if_pos c, if_pos (by omega)]
  · rw [if_neg c, if_neg (by omega)]
theorem cellN_at {h w n : Nat} (h1 : 1 ≤ h) (w1 : 1 ≤ w) {m : Nat → Int} {y x : Nat} (e : (areasL h w)[n]? = some ⟨y, x, 1, 1⟩) {v : Int} (hv : (up h w m)[n]? = some v) : cellN h w m (n + 1) y x = v := by
  unfold cellN
  rw [idx_at h1 w1 e, if_pos (Nat.lt_succ_self _)]
  unfold cellV
  rw [idx_at h1 w1 e, List.getD_eq_getElem?_getD, hv]
  rfl
theorem cellN_all {h w : Nat} (h1 : 1 ≤ h) (w1 : 1 ≤ w) {m : Nat → Int} {y x : Nat} (hy : y < h) (hx : x < w) : cellN h w m (2 * (h * w) - 1) y x = cellV h w (up h w m) y x := by
  obtain ⟨j, ej⟩ := List.getElem?_of_mem (leaf_at h1 w1 hy hx)
  have := (List.getElem?_eq_some_iff.mp ej).1
  rw [areas_len h1 w1] at this
  unfold cellN
  rw [idx_at h1 w1 ej, if_pos this]
theorem Lo.same {H0 H H' : Hp} {h w : Nat} {m : Nat → Int} {fm rs : Addr} {ds : List Addr} {n : Nat} (B : Lo H0 h w m fm rs ds n H) (e : Same H H') : Lo H0 h w m fm rs ds n H' := by
  obtain ⟨ms, b1, b2⟩ := B.me
  exact ⟨B.s.trans e, ⟨ms, e _ _ b1, b2⟩, e _ _ B.r, fun y d hd => e _ _ (B.c y d hd)⟩
theorem row_set {w l : Nat} {f g : Nat → Int} {v : Int} (hl : l < w) (e1 : g l = v) (e2 : ∀ x, x < w → x ≠ l → g x = f x) : ((List.range w).map f).set l v = (List.range w).map g := by
  refine List.ext_getElem (by simp) fun x a b => ?_
  have hx : x < w := by simpa using b
  rw [List.getElem_set]
  by_cases c : l = x
  · subst c
    simp [e1]
  · simp [c, e2 x hx (Ne.symm c)]
def downG (nss : List (List Int)) (w : Nat) : List Int := downL nss.length w (numAt nss.flatten)
def spLowest : Sp := fun vs H Q _ => ∃ a nss w, vs = [.ref a, .ref a] ∧ Pn H a nss w ∧ ∀ p H', Same H H' → Pn H' p (rowsOf (downG nss w) nss.length w) w → Q (.ref p) H'
section
variable {P : Program} {w : World} {K : PySem.W.Frag} {mg : Str → Option Value} {base : Heap} (T : Top K mg)
theorem ok_lowest : FnOk P w K mg base (L2.CX P w) 5 T.lowest.a T.lowest.d ["lows", "highs"] spLowest := by
  refine T.lowest.f.okX sc_lowest (fun vs H Q E h => ?_) (fun cdv A outer s H vs Q E hr h => ?_)
  · obtain ⟨a, nss, w, rfl, _⟩ := h
    rfl
  · obtain ⟨a, nss, wn, rfl, pn, k⟩ := h
    refine ⟨_, pss_cons (ps_asg (pe_tup (pa_cons (pe_callB call_len_seq (by rfl) T.b_len PySem.boot_len (pa_cons (pv 0) pa_nil)) (pa_cons (pe_callB call_len_seq (by rfl) T.b_len PySem.boot_len (pa_cons (pe_ix ix_tup (pv 0) pe_int (fun _ _ => rfl)) pa_nil)) pa_nil))) (pg_tup rfl (pgs_cons (pg_name (i := 2) sc_lowest.nd rfl (by first | exact .inl rfl | exact .inr rfl)) (pgs_cons (pg_name (i := 3) sc_lowest.nd rfl (by first | exact .inl rfl | exact .inr rfl)) pgs_nil))))
      (pss_cut (show PS _ _ (tAsg (tLc2 (iTup K (tVar 0)) (gName 14) tYes (iTup K (tVar 14)) (gName 15) tYes (tVar 15) [14, 15] [15]) (gName 4)) from ps_setLc2 (i := 4) (own := [("row", 14), ("number", 15)]) (vs1 := [15]) (wi1 := iTup K (tVar 14)) (te := tVar 15) (g := gName 14) (g1 := gName 15) (tt := tYes) (tt1 := tYes) rfl sc_lowest.nd rfl rfl (sw_true rfl rfl rfl (by decide +kernel)) (pi_tup (pv 0)) (blkOk_by (own := [("row", 14), ("number", 15)]) (N := ["lows", "highs", "height", "width", "least", "greatest", "all_areas", "means", "rows", "inner", "at", "area", "first", "second", "row", "number", "_"]) (sc := defScope s_lowest) (by decide +kernel)) (by decide)
          (fun _ _ _ _ _ => pg_name (i := 14) sc_lowest.nd rfl (Or.inl rfl)) (fun _ _ _ _ _ => pts_nil) (fun _ _ _ _ _ => pi_tup (pv 14)) (fun _ _ _ _ _ => pg_name (i := 15) sc_lowest.nd rfl (Or.inl rfl)) (fun _ _ _ _ _ => pts_nil) (fun _ _ _ _ _ => pv 15))
      (pss_cut (show PS _ _ (tAsg (tLc2 (iTup K (tVar 1)) (gName 14) tYes (iTup K (tVar 14)) (gName 15) tYes (tVar 15) [14, 15] [15]) (gName 5)) from ps_setLc2 (i := 5) (own := [("row", 14), ("number", 15)]) (vs1 := [15]) (wi1 := iTup K (tVar 14)) (te := tVar 15) (g := gName 14) (g1 := gName 15) (tt := tYes) (tt1 := tYes) rfl sc_lowest.nd rfl rfl (sw_true rfl rfl rfl (by decide +kernel)) (pi_tup (pv 1)) (blkOk_by (own := [("row", 14), ("number", 15)]) (N := ["lows", "highs", "height", "width", "least", "greatest", "all_areas", "means", "rows", "inner", "at", "area", "first", "second", "row", "number", "_"]) (sc := defScope s_lowest) (by decide +kernel)) (by decide)
          (fun _ _ _ _ _ => pg_name (i := 14) sc_lowest.nd rfl (Or.inl rfl)) (fun _ _ _ _ _ => pts_nil) (fun _ _ _ _ _ => pi_tup (pv 14)) (fun _ _ _ _ _ => pg_name (i := 15) sc_lowest.nd rfl (Or.inl rfl)) (fun _ _ _ _ _ => pts_nil) (fun _ _ _ _ _ => pv 15))
      (pss_cons (ps_set (i := 6) sc_lowest.nd rfl (by first | exact .inl rfl | exact .inr rfl) (pe_call (ok_list_areas T) (hr.mono (by decide)) (by rfl) T.list_areas.m T.list_areas.f.kp (bd_list_areas T) .nil passE (pa_cons (pv 2) (pa_cons (pv 3) pa_nil))))
      (pss_cons (ps_set (i := 7) sc_lowest.nd rfl (by first | exact .inl rfl | exact .inr rfl) (pe_op op_rep (pe_lst (pa_cons (pe_ix ix_list (pv 4) pe_int (fun _ _ => rfl)) pa_nil)) (pe_callB call_len_seq (by rfl) T.b_len PySem.boot_len (pa_cons (pv 6) pa_nil))))
      (pss_cut (ps_setLc (i := 8) (own := [("_", 16)]) (g := gName 16) (tt := tYes) rfl sc_lowest.nd rfl rfl (sw_true rfl rfl rfl (by decide +kernel)) (pi_range1 (by rfl) T.b_range (pa_cons (pv 2) pa_nil)) (blkOk_by (own := [("_", 16)]) (N := ["lows", "highs", "height", "width", "least", "greatest", "all_areas", "means", "rows", "inner", "at", "area", "first", "second", "row", "number", "_"]) (sc := defScope s_lowest) (by decide +kernel)) (fun _ _ _ _ _ => pg_name (i := 16) sc_lowest.nd rfl (Or.inl rfl)) (fun _ _ _ _ _ => pts_nil) (fun _ _ _ _ _ => pe_op op_rep (pe_lst (pa_cons pe_int pa_nil)) (pv 3)))
      (pss_cons (ps_set (i := 9) sc_lowest.nd rfl (.inl rfl) pe_int)
      (pss_cut (ps_for (passes_of rfl) rfl (pi_enum (by rfl) T.b_enumerate (pa_cons (pv 6) pa_nil)) (pg_tup rfl (pgs_cons (pg_name (i := 10) sc_lowest.nd rfl (.inl rfl)) (pgs_cons (pg_name (i := 11) sc_lowest.nd rfl (.inl rfl)) pgs_nil)))
        (pss_one (ps_if (pt_val (pe_call (ok_is_inner T) (hr.mono (by decide)) (by rfl) T.is_inner.m T.is_inner.f.kp (bd_is_inner T) .nil passE (pa_cons (pv 11) pa_nil)))
          (pss_cons (ps_aug (i := 9) sc_lowest.nd rfl (.inl rfl) pe_int ip_add)
          (pss_cons (ps_asg (pe_call (ok_halves_at T) (hr.mono (by decide)) (by rfl) T.halves_at.m T.halves_at.f.kp (bd_halves_at T) .nil passE (pa_cons (pv 9) pa_nil)) (pg_tup rfl (pgs_cons (pg_name (i := 12) sc_lowest.nd rfl (.inl rfl)) (pgs_cons (pg_name (i := 13) sc_lowest.nd rfl (.inl rfl)) pgs_nil))))
          (pss_cons (ps_asg (pe_op op_sub (pe_ix ix_list (pv 7) (pv 10) (fun _ _ => rfl)) (pe_op op_fdiv (pe_ix ix_list (pv 5) (pv 9) (fun _ _ => rfl)) pe_int)) (pg_sub (pv 7) (pv 12) set_list))
          (pss_one (ps_asg (pe_op op_sub (pe_op op_add (pe_ix ix_list (pv 7) (pv 10) (fun _ _ => rfl)) (pe_ix ix_list (pv 4) (pv 9) (fun _ _ => rfl))) (pe_op op_fdiv (pe_ix ix_list (pv 4) (pv 9) (fun _ _ => rfl)) pe_int)) (pg_sub (pv 7) (pv 13) set_list))))))
          (pss_one (ps_asg (pe_ix ix_list (pv 7) (pv 10) (fun _ _ => rfl)) (pg_sub (pe_ix ix_list (pv 8) (pe_ix ix_tup (pv 11) pe_int (fun _ _ => rfl)) (fun _ _ => rfl)) (pe_ix ix_tup (pv 11) pe_int (fun _ _ => rfl)) set_list))))))
      (pss_one (ps_ret (pe_callTy (show CallR _ _ (rTupOf K) from call_tuple_of) (by rfl) T.b_tuple (by decide +kernel) (pa_cons (pe_lc (own := [("row", 14)]) (g := gName 14) (tt := tYes) rfl sc_lowest.nd (pi_list (pv 8)) (blkOk_by (own := [("row", 14)]) (N := ["lows", "highs", "height", "width", "least", "greatest", "all_areas", "means", "rows", "inner", "at", "area", "first", "second", "row", "number", "_"]) (sc := defScope s_lowest) (by decide +kernel)) (fun _ _ _ _ _ => pg_name (i := 14) sc_lowest.nd rfl (Or.inl rfl)) (fun _ _ _ _ _ => pts_nil) (fun _ _ _ _ _ => pe_callTy (show CallR _ _ (rTupOf K) from call_tuple_of) (by rfl) T.b_tuple (by decide +kernel) (pa_cons (pv 14) pa_nil))) pa_nil))))))))))), ?_⟩
    obtain ⟨vs, ea, rows⟩ := pn.rows
    have h1 := pn.h1
    have h2 := pn.h2
    have w1 := pn.w1
    have w2 := pn.w2
    have ws := pn.ws
    obtain ⟨v0, hv0⟩ : ∃ v0, vs[0]? = some v0 := ⟨_, List.getElem?_eq_getElem (by rw [rows.1]; omega)⟩
    obtain ⟨b0, n0, rfl, hn0, eb0⟩ := rows.2 0 v0 hv0
    have l0 : (n0.map V.int).length = wn := by rw [List.length_map]; exact ws n0 (List.mem_of_getElem? hn0)
    have lv := rows.1
    have fl := flat_len ws
    refine ⟨_, rfl, a, vs, rfl, .inr (SqT.of ea), _, rfl, a, vs, 0, _, rfl, rfl, SqT.of ea, atI_nat (j := 0) hv0, b0, _, rfl, .inr (SqT.of eb0), (by show 2 ≤ sizeLine; decide), fun p hp => ⟨p, _, rfl, SqT.of upd_same, rfl, _, _, rfl, _, _, rfl, rfl, ?_⟩⟩
    rw [lv, l0] at *
    have s1 := Same.new (o := .tup [V.int ((nss.length : Nat) : Int), .int ((wn : Nat) : Int)]) hp
    have pn1 := pn.keep s1
    generalize upd H p (.tup [V.int ((nss.length : Nat) : Int), .int ((wn : Nat) : Int)]) = H1 at s1 pn1 ⊢
    -- least, greatest
    refine ⟨fun σ' H' => ∃ D, σ' = [some (.ref a), some (.ref a), some (.int (nss.length : Nat)), some (.int (wn : Nat)), some (.ref D), none, none, none, none, none, none, none, none, none, none, none, none] ∧ Same H1 H' ∧ H' D = some (.lst (nss.flatten.map V.int)), ?_, ?_⟩
    · exact flat_read (i := 0) (j := 14) (k := 15) pn1 rfl (fun x => ⟨_, rfl, rfl, rfl, fun y => ⟨rfl, rfl⟩⟩) fun D H' m f l => ⟨D, rfl, m, l⟩
    rintro σ' H2 ⟨da, rfl, m2, hda⟩
    refine ⟨fun σ' H' => ∃ D, σ' = [some (.ref a), some (.ref a), some (.int (nss.length : Nat)), some (.int (wn : Nat)), some (.ref da), some (.ref D), none, none, none, none, none, none, none, none, none, none, none] ∧ Same H2 H' ∧ H' D = some (.lst (nss.flatten.map V.int)), ?_, ?_⟩
    · exact flat_read (i := 1) (j := 14) (k := 15) (pn1.keep m2) rfl (fun x => ⟨_, rfl, rfl, rfl, fun y => ⟨rfl, rfl⟩⟩) fun D H' m f l => ⟨D, rfl, m, l⟩
    rintro σ' H3 ⟨db, rfl, m3, hdb⟩
    refine ⟨_, rfl, _, rfl, nss.length, wn, rfl, h1, h2, w1, w2, fun q us H4 m4 f4 l4 al => ?_⟩
    have sH : Same H H4 := ((s1.trans m2).trans m3).trans m4
    have hda4 := m4 _ _ (m3 _ _ hda)
    have hdb4 := m4 _ _ hdb
    generalize hh : nss.length = h at *
    generalize hns : nss.flatten = ns at *
    clear s1 pn1 m2 m3 m4 hda hdb H1 H2 H3 f4
    have lenA := areas_len h1 w1
    have lu : us.length = 2 * (h * wn) - 1 := by rw [al.len, lenA]
    have hw1 := Nat.mul_pos h1 w1
    have hw2 : h * wn ≤ 16 * 16 := Nat.mul_le_mul h2 w2
    obtain ⟨x0, hx0⟩ : ∃ x0, ns[0]? = some x0 := ⟨_, List.getElem?_eq_getElem (by omega)⟩
    have num0 : numAt ns 0 = x0 := by
      unfold numAt
      rw [List.getD_eq_getElem?_getD, hx0]
      rfl
    refine ⟨_, rfl, da, _, 0, _, rfl, rfl, SqL.of hda4, atI_nat (j := 0) (by rw [List.getElem?_map, hx0]; rfl), (by show 1 ≤ sizeLine; decide), fun p1 hp1 => ?_⟩
    have t1 := Same.new (o := .lst [V.int x0]) hp1
    refine ⟨_, rfl, q, us, rfl, .inl (SqL.of (t1 _ _ l4)), p1, ((us.length : Nat) : Int), _, rfl, rfl, upd_same, by omega, by omega, ?_, fun fm hfm => ?_⟩
    · rw [Int.toNat_natCast, lu]
      exact Nat.le_trans (show 1 * (2 * (h * wn) - 1) ≤ 511 by omega) (by decide)
    have t2 := Same.new (o := .lst (List.replicate ((us.length : Nat) : Int).toNat [V.int x0]).flatten) hfm
    have fmf : H4 fm = none := t1.free hfm
    have hm0 : (upd (upd H4 p1 (.lst [V.int x0])) fm (.lst (List.replicate ((us.length : Nat) : Int).toNat [V.int x0]).flatten)) fm = some (.lst ((List.replicate (2 * (h * wn) - 1) x0).map V.int)) := by
      rw [upd_same, Int.toNat_natCast, lu]
      congr 2
      generalize 2 * (h * wn) - 1 = N
      induction N with
      | zero => rfl
      | succ n ih => simp [List.replicate_succ]
    have sm5 := t1.trans t2
    generalize upd (upd H4 p1 (.lst [V.int x0])) fm (.lst (List.replicate ((us.length : Nat) : Int).toNat [V.int x0]).flatten) = H5 at sm5 hm0 ⊢
    -- rows
    refine ⟨fun σ' H' => ∃ (rs : Addr) (ds : List Addr), σ' = [some (.ref a), some (.ref a), some (.int (h : Nat)), some (.int (wn : Nat)), some (.ref da), some (.ref db), some (.ref q), some (.ref fm), some (.ref rs), none, none, none, none, none, none, none, none] ∧ ds.length = h ∧ Same H5 H' ∧ H' rs = some (.lst (ds.map V.ref)) ∧ ds.Nodup ∧ ∀ d ∈ ds, H5 d = none ∧ d ≠ rs ∧ H' d = some (.lst (List.replicate wn (V.int 0))), ?_, ?_⟩
    · refine ⟨_, rfl, _, rfl, by omega, by omega, fun D hD => lc_it walk_range (fun i H' => ∃ ds : List Addr, ds.length = i ∧ Same H5 H' ∧ H' D = some (.lst (ds.map V.ref)) ∧ ds.Nodup ∧ ∀ d ∈ ds, H5 d = none ∧ d ≠ D ∧ H' d = some (.lst (List.replicate wn (V.int 0)))) ⟨[], rfl, Same.new hD, upd_same, List.nodup_nil, fun d hd => nomatch hd⟩ (fun _ _ _ _ => trivial) ?_ ?_⟩
      · rintro i x H6 H7 hi ⟨ds, b1, b2, b3, b4, b5⟩ ⟨rfl, rfl⟩
        refine ⟨rfl, ?_⟩
        dsimp only [tYes]
        rw [if_pos rfl]
        have hi : i < h := by omega
        refine ⟨(by show 1 ≤ sizeLine; decide), fun p2 hp2 => ⟨_, rfl, p2, ((wn : Nat) : Int), _, rfl, rfl, upd_same, by omega, by omega, ?_, fun d hd => ?_⟩⟩
        · rw [Int.toNat_natCast]
          exact Nat.le_trans (show 1 * wn ≤ 16 by omega) (by decide)
        have u1 := Same.new (o := .lst [V.int 0]) hp2
        have u2 := Same.new (o := .lst (List.replicate ((wn : Nat) : Int).toNat [V.int 0]).flatten) hd
        have er : (List.replicate ((wn : Nat) : Int).toNat [V.int 0]).flatten = List.replicate wn (V.int 0) := by
          rw [Int.toNat_natCast]
          clear hp2 hd u1 u2
          generalize wn = n
          induction n with
          | zero => rfl
          | succ n ih => simp [List.replicate_succ]
        have hd6 : H7 d = none := u1.free hd
        have dD : d ≠ D := fun z => by rw [z, b3] at hd6; cases hd6
        refine ⟨_, u2 _ _ (u1 _ _ b3), ?_, ds ++ [d], by simp [b1], ?_, by rw [upd_same, List.map_append]; rfl, ?_, fun c hc => ?_⟩
        · rw [List.length_map, b1]
          exact Nat.lt_of_lt_of_le hi (Nat.le_trans h2 (by decide))
        · exact Same.put ((b2.trans u1).trans u2) hD
        · rw [List.nodup_append]
          refine ⟨b4, by simp, fun c hc e he z => ?_⟩
          rw [List.mem_singleton.mp he] at z
          rw [z] at hc
          rw [(b5 d hc).2.2] at hd6
          cases hd6
        · rcases List.mem_append.mp hc with z | z
          · obtain ⟨c1, c2, c3⟩ := b5 c z
            exact ⟨c1, c2, (upd_ne c2).trans (u2 _ _ (u1 _ _ c3))⟩
          · rw [List.mem_singleton.mp z]
            refine ⟨b2.free hd6, dD, ?_⟩
            rw [upd_ne dD, upd_same, er]
      · rintro H6 ⟨ds, b1, b2, b3, b4, b5⟩
        exact ⟨D, ds, rfl, by omega, b2, b3, b4, b5⟩
    rintro σ' H6 ⟨rs, ds, rfl, ld, sm6, hrs, nds, hds⟩
    have dsf : ∀ d ∈ ds, H4 d = none := fun d hd => sm5.free (hds d hd).1
    have fmn : ∀ d ∈ ds, d ≠ fm := fun d hd z => by
      have := (hds d hd).1
      rw [z, hm0] at this
      cases this
    have rfn : rs ≠ fm := fun z => by
      rw [z, sm6 _ _ hm0] at hrs
      have := Option.some.inj hrs
      have := HO.lst.inj this
      have l := congrArg List.length this
      rw [List.length_map, List.length_map, List.length_replicate, ld] at l
      cases ds with
      | nil => simp at ld; omega
      | cons d ds =>
        have g := congrArg (fun x : List V => x[0]?) this
        rw [List.getElem?_map, List.getElem?_replicate] at g
        split at g
        · cases g
        · omega
    have B0 : Lo H4 h wn (numAt ns) fm rs ds 0 H6 := by
      refine ⟨sm5.trans sm6, ⟨_, sm6 _ _ hm0, List.length_replicate .., fun i x e => ?_⟩, hrs, fun y d hd => ?_⟩
      · cases i with
        | zero =>
          have : some (numAt ns 0) = some x := e
          rw [num0] at this
          rw [List.getElem?_replicate, if_pos (by omega), this]
        | succ i =>
          have : ([numAt ns 0] : List Int)[i + 1]? = some x := e
          simp at this
      · rw [(hds d (List.mem_of_getElem? hd)).2.2]
        congr 2
        refine List.ext_getElem (by simp) fun x a b => ?_
        simp [cellN_zero]
    have dne : ∀ {y z : Nat} {d e : Addr}, ds[y]? = some d → ds[z]? = some e → y ≠ z → d ≠ e := fun {y z d e} a b n q => by
      subst q
      exact n ((List.getElem?_inj (List.getElem?_eq_some_iff.mp a).1 nds).mp (a.trans b.symm))
    clear hds hrs sm6 hm0 t1 t2 hp1 hfm
    refine ⟨fun σ' H' => (∃ v9 v10 v11 v12 v13, σ' = [some (.ref a), some (.ref a), some (.int (h : Nat)), some (.int (wn : Nat)), some (.ref da), some (.ref db), some (.ref q), some (.ref fm), some (.ref rs), v9, v10, v11, v12, v13, none, none, none]) ∧ Lo H4 h wn (numAt ns) fm rs ds (2 * (h * wn) - 1) H', ?_, ?_⟩
    · refine ⟨_, rfl, q, us, rfl, SqL.of (B0.s _ _ l4), for_it walk_enum (fun n σ H => (∃ (c : Int) (v10 v11 v12 v13 : Option V), c = ((kth h wn n : Nat) : Int) ∧ σ = [some (.ref a), some (.ref a), some (.int (h : Nat)), some (.int (wn : Nat)), some (.ref da), some (.ref db), some (.ref q), some (.ref fm), some (.ref rs), some (.int c), v10, v11, v12, v13, none, none, none]) ∧ Lo H4 h wn (numAt ns) fm rs ds n H)
        ⟨⟨0, none, none, none, none, rfl, rfl⟩, B0⟩ (fun i σ H _ q' => SqL.of (q'.2.s _ _ l4)) ?_ fun σ H q' => ?_⟩
      · rintro n x σ H7 H8 hn ⟨⟨c, v10, v11, v12, v13, ec, rfl⟩, B⟩ ⟨T, x1, x2, rfl, hT, rfl, ex1, ex2⟩
        cases ex1
        rw [lu] at hn
        obtain ⟨ai, hai⟩ : ∃ ai, (areasL h wn)[n]? = some ai := ⟨_, List.getElem?_eq_getElem (by rw [lenA]; exact hn)⟩
        obtain ⟨qa, hqa, eqa⟩ := al.at_ hai
        have ex2 : us[n]? = some x2 := ex2
        rw [hqa] at ex2
        cases ex2
        have lt := lit_areas h1 h2 w1 w2 (List.mem_of_getElem? hai)
        have B := B.same (Same.new (o := .tup [V.int ((n : Nat) : Int), .ref qa]) hT)
        have hTt : (upd H7 T (.tup [V.int ((n : Nat) : Int), .ref qa])) T = some (.tup [V.int ((n : Nat) : Int), .ref qa]) := upd_same
        generalize upd H7 T (.tup [V.int ((n : Nat) : Int), .ref qa]) = H8 at B hTt ⊢
        have ks := kth_succ hai
        have ul := upL_lt h1 w1 (numAt ns) hn
        obtain ⟨un, hun⟩ : ∃ un, (upL h wn (numAt ns) n)[n]? = some un := ⟨_, List.getElem?_eq_getElem ul⟩
        have hU : (up h wn (numAt ns))[n]? = some un := upL_get (Nat.le_of_lt hn) hun
        have un0 : (upL h wn (numAt ns) n).getD n 0 = un := by rw [List.getD_eq_getElem?_getD, hun]; rfl
        have us' := upL_succ (m := numAt ns) hai
        obtain ⟨ms, b1, b2, b3⟩ := B.me
        have g0 := b3 n un hun
        refine ⟨T, _, rfl, SqT.of hTt, rfl, _, _, rfl, _, _, rfl, rfl, ?_⟩
        refine ⟨_, rfl, qa, ai, rfl, B.s _ _ eqa, lt, _, rfl, ?_⟩
        cases inn : ai.inn
        · rw [inn] at ks us'
          rw [if_neg Bool.false_ne_true] at ks us'
          obtain ⟨o1, o2⟩ := one_of lt.o inn
          have ia := (areas_ok h1 w1 (List.mem_of_getElem? hai)).2
          unfold In root at ia
          dsimp only at ia
          have yh : ai.t < h := by omega
          have xw : ai.l < wn := by omega
          have eai : ai = ⟨ai.t, ai.l, 1, 1⟩ := by
            cases ai
            simp only at *
            congr 1
          obtain ⟨d, hd⟩ : ∃ d, ds[ai.t]? = some d := ⟨_, List.getElem?_eq_getElem (by omega)⟩
          have dm := List.mem_of_getElem? hd
          refine iteF ⟨_, rfl, _, rfl, fm, _, _, _, rfl, rfl, SqL.of b1, atI_nat (by rw [List.getElem?_map, g0]; rfl), ?_⟩
          refine ⟨_, rfl, _, rfl, qa, _, 0, _, rfl, rfl, SqT.of (B.s _ _ eqa), rfl, rs, _, _, _, rfl, rfl, SqL.of B.r, atI_nat (by rw [List.getElem?_map, hd]; rfl), _, rfl, qa, _, 1, _, rfl, rfl, SqT.of (B.s _ _ eqa), rfl, d, _, _, ai.l, rfl, rfl, B.c _ _ hd, ixN_nat (by rw [List.length_map, List.length_map, List.length_range]; exact xw), ?_⟩
          refine ⟨⟨_, _, _, _, _, by rw [ks, Nat.add_zero]; exact ec, rfl⟩, ?_⟩
          refine ⟨Same.put B.s (dsf d dm), ⟨ms, (upd_ne (Ne.symm (fmn d dm))).trans b1, b2, fun i x e => b3 i x (by rw [us'] at e; exact e)⟩, (upd_ne (fun z => ?_)).trans B.r, fun y e he => ?_⟩
          · have r := B.r
            rw [z, B.c _ _ hd] at r
            have := HO.lst.inj (Option.some.inj r)
            have g := congrArg (fun x : List V => x[0]?) this
            cases ds with
            | nil => cases hd
            | cons e es =>
              rw [List.getElem?_map, List.getElem?_map, List.getElem?_range (by omega)] at g
              cases g
          · by_cases yt : y = ai.t
            · subst yt
              rw [hd] at he
              cases he
              rw [upd_same, ← List.map_set]
              congr 3
              refine row_set xw ?_ fun x hx nx => ?_
              · exact cellN_at h1 w1 (eai ▸ hai) hU
              · exact cellN_step h1 w1 hai (fun z => nx (by rw [← z])) yh hx
            · rw [upd_ne (dne he hd yt), B.c y e he]
              congr 3
              refine List.map_congr_left fun x hx => ?_
              have hy : y < h := by
                have := (List.getElem?_eq_some_iff.mp he).1
                omega
              exact (cellN_step h1 w1 hai (fun z => yt (by rw [← z])) hy (List.mem_range.mp hx)).symm
        · rw [inn] at ks us'
          rw [if_pos rfl] at ks us'
          rw [un0] at us'
          have len := upL_len (h := h) (w := wn) (m := numAt ns) n (by rw [lenA]; omega)
          obtain ⟨k1, k2, k3⟩ := kids_at h1 w1 hai inn
          have kb := (List.getElem?_eq_some_iff.mp k2).1
          rw [lenA] at kb
          generalize hk : kth h wn (n + 1) = kk at *
          have kp : 1 ≤ kk := by omega
          obtain ⟨mv, hmv⟩ : ∃ mv, ns[kk]? = some mv := ⟨_, List.getElem?_eq_getElem (by omega)⟩
          have nmv : numAt ns kk = mv := by
            unfold numAt
            rw [List.getD_eq_getElem?_getD, hmv]
            rfl
          rw [nmv] at us'
          have hda8 := B.s _ _ hda4
          have hdb8 := B.s _ _ hdb4
          refine iteT ⟨_, rfl, _, _, rfl, rfl, ?_⟩
          dsimp only
          rw [show c + 1 = ((kk : Nat) : Int) by omega]
          refine ⟨_, rfl, kk, rfl, kp, by omega, fun p2 hp2 => ⟨p2, _, rfl, SqT.of upd_same, rfl, _, _, rfl, _, _, rfl, rfl, ?_⟩⟩
          have tp := Same.new (o := .tup [V.int ((2 * kk - 1 : Nat) : Int), .int ((2 * kk : Nat) : Int)]) hp2
          have B := B.same tp
          have b1 := tp _ _ b1
          have hda8 := tp _ _ hda8
          have hdb8 := tp _ _ hdb8
          clear tp hp2
          generalize upd H8 p2 (.tup [V.int ((2 * kk - 1 : Nat) : Int), .int ((2 * kk : Nat) : Int)]) = H9 at B b1 hda8 hdb8 ⊢
          have getm : (ns.map V.int)[kk]? = some (V.int mv) := by rw [List.getElem?_map, hmv]; rfl
          refine ⟨_, rfl, _, rfl, fm, _, _, _, rfl, rfl, SqL.of b1, atI_nat (by rw [List.getElem?_map, g0]; rfl), _, rfl, _, rfl, db, _, _, _, rfl, rfl, SqL.of hdb8, atI_nat getm, _, _, rfl, rfl, ⟨by decide, by decide⟩, _, _, rfl, rfl, ?_⟩
          refine ⟨_, rfl, _, rfl, fm, _, _, 2 * kk - 1, rfl, rfl, b1, ixN_nat (by rw [List.length_map]; omega), ?_⟩
          have nda : da ≠ fm := fun z => by rw [z, fmf] at hda4; cases hda4
          have g1 : (ms.set (2 * kk - 1) (un - mv / 2))[n]? = some un := by rw [List.getElem?_set_ne (by omega)]; exact g0
          have b1' : (upd H9 fm (.lst ((ms.map V.int).set (2 * kk - 1) (.int (un - mv / 2))))) fm = some (.lst ((ms.set (2 * kk - 1) (un - mv / 2)).map V.int)) := by rw [upd_same, List.map_set]
          have hda9 : (upd H9 fm (.lst ((ms.map V.int).set (2 * kk - 1) (.int (un - mv / 2))))) da = some (.lst (ns.map V.int)) := (upd_ne nda).trans hda8
          refine ⟨_, rfl, _, rfl, fm, _, _, _, rfl, rfl, SqL.of b1', atI_nat (by rw [List.getElem?_map, g1]; rfl), _, rfl, _, rfl, da, _, _, _, rfl, rfl, SqL.of hda9, atI_nat getm, _, _, rfl, rfl, _, rfl, _, rfl, da, _, _, _, rfl, rfl, SqL.of hda9, atI_nat getm, _, _, rfl, rfl, ⟨by decide, by decide⟩, _, _, rfl, rfl, ?_⟩
          refine ⟨_, rfl, _, rfl, fm, _, _, 2 * kk, rfl, rfl, b1', ixN_nat (by rw [List.length_map, List.length_set]; omega), ?_⟩
          refine ⟨⟨_, _, _, _, _, rfl, rfl⟩, ?_⟩
          refine ⟨Same.put (Same.put B.s fmf) fmf, ⟨(ms.set (2 * kk - 1) (un - mv / 2)).set (2 * kk) (un + mv - mv / 2), (by rw [upd_same, List.map_set, List.map_set, List.map_set]), by rw [List.length_set, List.length_set]; exact b2, fun i x e => ?_⟩, ?_, fun y d hd => ?_⟩
          · rw [us'] at e
            have i1 : 2 * kk - 1 = (upL h wn (numAt ns) n).length := by omega
            by_cases c1 : i < (upL h wn (numAt ns) n).length
            · rw [List.getElem?_append_left c1] at e
              rw [List.getElem?_set_ne (by omega), List.getElem?_set_ne (by omega)]
              exact b3 i x e
            · rw [List.getElem?_append_right (by omega)] at e
              by_cases c2 : i = 2 * kk - 1
              · rw [show i - (upL h wn (numAt ns) n).length = 0 by omega] at e
                cases (show some (un - mv / 2) = some x from e)
                rw [List.getElem?_set_ne (by omega), c2, List.getElem?_set_self (by omega)]
              · by_cases c3 : i = 2 * kk
                · rw [show i - (upL h wn (numAt ns) n).length = 1 by omega] at e
                  cases (show some (un + mv - mv / 2) = some x from e)
                  rw [c3, List.getElem?_set_self (by rw [List.length_set]; omega)]
                · rw [List.getElem?_eq_none (by simp; omega)] at e
                  cases e
          · exact (upd_ne rfn).trans ((upd_ne rfn).trans B.r)
          · have nd := fmn d (List.mem_of_getElem? hd)
            rw [upd_ne nd, upd_ne nd, B.c y d hd]
            congr 3
            refine List.map_congr_left fun x hx => ?_
            have hy : y < h := by
              have := (List.getElem?_eq_some_iff.mp hd).1
              omega
            refine (cellN_step h1 w1 hai (fun z => ?_) hy (List.mem_range.mp hx)).symm
            rw [← z] at inn
            cases inn
      · obtain ⟨⟨c, v10, v11, v12, v13, ec, rfl⟩, B⟩ := q'
        rw [lu] at B
        exact ⟨⟨_, _, _, _, _, rfl⟩, B⟩
    · rintro σ' H7 ⟨⟨v9, v10, v11, v12, v13, rfl⟩, B⟩
      have er : rowsOf (downG nss wn) h wn = (List.range h).map fun y => (List.range wn).map fun x => cellV h wn (up h wn (numAt ns)) y x := by
        unfold downG downL
        rw [hh, hns]
        exact rows_range h1 w1 _
      have dat : ∀ {y : Nat} {d : Addr}, ds[y]? = some d → ∃ ms, (rowsOf (downG nss wn) h wn)[y]? = some ms ∧ H7 d = some (.lst (ms.map V.int)) := fun {y d} hd => by
        have hy : y < h := by
          have := (List.getElem?_eq_some_iff.mp hd).1
          omega
        refine ⟨(List.range wn).map fun x => cellV h wn (up h wn (numAt ns)) y x, ?_, ?_⟩
        · rw [er, List.getElem?_map, List.getElem?_range hy]
          rfl
        · rw [B.c y d hd]
          congr 3
          exact List.map_congr_left fun x hx => cellN_all h1 w1 hy (List.mem_range.mp hx)
      have lr : (rowsOf (downG nss wn) h wn).length = h := rowsOf_len
      have wsr : ∀ r ∈ rowsOf (downG nss wn) h wn, r.length = wn := rowsOf_ws (by unfold downG downL; rw [hh, List.length_map, List.length_range])
      have s7 := B.s
      have r7 := B.r
      refine ret_tup ?_
      refine ⟨_, rfl, rs, rfl, ⟨_, SqL.of r7⟩, fun D hD => lc_it walk_list (fun i H' => ∃ es, H' D = some (.lst es) ∧ Rows H' es ((rowsOf (downG nss wn) h wn).take i) ∧ Same H7 H') ⟨[], upd_same, by simpa using Rows.nil, Same.new hD⟩ (fun _ H' _ q => q.elim fun es q => SqL.of (q.2.2 _ _ r7)) ?_ ?_⟩
      · rintro n x H8 H9 hn ⟨es, a1, a2, a3⟩ ⟨rfl, hx⟩
        rw [List.length_map, ld] at hn
        obtain ⟨d, hd⟩ : ∃ d, ds[n]? = some d := ⟨_, List.getElem?_eq_getElem (by omega)⟩
        rw [List.getElem?_map, hd] at hx
        cases hx
        obtain ⟨ms, e1, e2⟩ := dat hd
        refine ⟨rfl, ?_⟩
        dsimp only [tYes]
        rw [if_pos rfl]
        refine ⟨_, rfl, d, _, rfl, .inl ⟨SqL.of (a3 _ _ e2), fun l hl => ?_⟩⟩
        have t1 := Same.new (o := .tup (ms.map V.int)) hl
        refine ⟨es, t1 _ _ a1, ?_, es ++ [.ref l], upd_same, ?_, Same.put (a3.trans t1) hD⟩
        · rw [a2.1, List.length_take, lr]
          exact Nat.lt_of_le_of_lt (show _ ≤ 16 by omega) (by decide)
        · rw [List.take_add_one, e1]
          exact Rows.put (Rows.snoc (a2.keep t1) upd_same) (t1 _ _ a1)
      · rintro H8 ⟨es, a1, a2, a3⟩
        rw [List.take_of_length_le (by rw [lr, List.length_map, ld]; exact Nat.le_refl _)] at a2
        refine ⟨D, es, rfl, .inl ⟨SqL.of a1, fun p hp => k p _ ((sH.trans (s7.trans a3)).trans (Same.new hp)) ?_⟩⟩
        exact Rows.pn (a2.keep (Same.new hp)) upd_same (by rw [lr]; exact h1) (by rw [lr]; exact h2) w1 w2 wsr
theorem ok_unlifted : FnOk P w K mg base (L2.CX P w) 6 T.unlifted.a T.unlifted.d ["rectangle"] (spMade K T.BadRectangle.C downG) := by
  refine T.unlifted.f.okX sc_unlifted (fun vs H Q E h => ?_) (fun cdv A outer s H vs Q E hr h => ?_)
  · obtain ⟨x, o, rfl, _⟩ := h
    rfl
  · obtain ⟨x, o, rfl, th, k2, k⟩ := h
    refine ⟨_, pss_cons (ps_expr (pe_call (ok_check_rectangle T) (hr.mono (by decide)) (by rfl) T.check_rectangle.m T.check_rectangle.f.kp (bd_check_rectangle T) .nil (passX rfl rfl rfl rfl) (pa_cons (pv 0) pa_nil)))
      (pss_one (ps_ret (pe_call (ok_lowest T) (hr.mono (by decide)) (by rfl) T.lowest.m T.lowest.f.kp (bd_lowest T) .nil passE (pa_cons (pv 0) (pa_cons (pv 0) pa_nil))))), ?_⟩
    refine ⟨_, rfl, x, o, rfl, th, fun g H1 s1 => ?_, k2⟩
    obtain ⟨a, nss, wn, rfl, pn0, _⟩ := th.good g
    exact ⟨_, rfl, _, rfl, a, nss, wn, rfl, pn0.keep s1, fun p H' m q => k a nss wn rfl pn0 p H' (s1.trans m) q⟩
end
end K16
namespace K16
open PySem PySem.Spec PyProof.Rows L2 PySem.W LamX KA KW KU KL KT
open Evl (pss_cut tCut)
/-! ### the law's own areas -/
def halvesL (a : Ar) : List Ar := if a.inn = true then [a.half false, a.half true] else []
def spLHalves : Sp := fun vs H Q _ => ∃ p a, vs = [.ref p] ∧ H p = some (.tup (arV a)) ∧ Lit a ∧ ∀ q us H', Same H H' → H q = none → H' q = some (.lst us) → AL H' us (halvesL a) → Q (.ref q) H'
def spLAreas : Sp := spAreas
def spLines : Sp := fun vs H Q _ => ∃ (q : Addr) (ns : List Int) (h w : Nat), vs = [.ref q, .int w] ∧ H q = some (.lst (ns.map V.int)) ∧ ns.length = h * w ∧ 1 ≤ h ∧ h ≤ 16 ∧ 1 ≤ w ∧ w ≤ 16 ∧ ∀ p H', Same H H' → H p = none → Pn H' p (rowsOf ns h w) w → Q (.ref p) H'
def liesIn (a : Ar) (y x : Nat) : Bool := decide (a.t ≤ y ∧ y < a.t + a.h ∧ a.l ≤ x ∧ x < a.l + a.w)
def spLies : Sp := fun vs H Q _ => ∃ p a d y x, vs = [.ref p, .ref d] ∧ H p = some (.tup (arV a)) ∧ H d = some (.tup [V.int ((y : Nat) : Int), .int ((x : Nat) : Int)]) ∧ Q (.bl (liesIn a y x)) H
section
variable {P : Program} {w : World} {K : PySem.W.Frag} {mg : Str → Option Value} {base : Heap} (T : Top K mg)
theorem ok_lhalves : FnOk P w K mg base (L2.CX P w) 1 T._law_halves.a T._law_halves.d ["area"] spLHalves := by
  refine T._law_halves.f.okX sc__law_halves (fun vs H Q E h => ?_) (fun cdv A outer s H vs Q E hr h => ?_)
  · obtain ⟨p, a, rfl, _⟩ := h
    rfl
  · obtain ⟨p, a, rfl, hp, lt, k⟩ := h
    have b := lt.bd
    refine ⟨_, pss_cons (ps_asg (pv 0) (pg_tup rfl (pgs_cons (pg_name (i := 1) sc__law_halves.nd rfl (.inl rfl)) (pgs_cons (pg_name (i := 2) sc__law_halves.nd rfl (.inl rfl)) (pgs_cons (pg_name (i := 3) sc__law_halves.nd rfl (.inl rfl)) (pgs_cons (pg_name (i := 4) sc__law_halves.nd rfl (.inl rfl)) pgs_nil))))))
      (pss_cons (ps_if (pt_cmpR op_eq (pe_op op_mul (pv 3) (pv 4)) pe_int (nomark _))
        (pss_one (ps_ret (pe_lst pa_nil))) pss_nil)
      (pss_cons (ps_if (pt_cmpR op_ge (pv 3) (pv 4) (nomark _))
        (pss_cons (ps_set (i := 5) sc__law_halves.nd rfl (.inl rfl) (pe_op op_fdiv (pe_op op_add (pv 3) pe_int) pe_int))
        (pss_one (ps_ret (pe_lst (pa_cons (pe_tup (pa_cons (pv 1) (pa_cons (pv 2) (pa_cons (pv 5) (pa_cons (pv 4) pa_nil))))) (pa_cons (pe_tup (pa_cons (pe_op op_add (pv 1) (pv 5)) (pa_cons (pv 2) (pa_cons (pe_op op_sub (pv 3) (pv 5)) (pa_cons (pv 4) pa_nil))))) pa_nil)))))) pss_nil)
      (pss_cons (ps_set (i := 5) sc__law_halves.nd rfl (.inl rfl) (pe_op op_fdiv (pe_op op_add (pv 4) pe_int) pe_int))
      (pss_one (ps_ret (pe_lst (pa_cons (pe_tup (pa_cons (pv 1) (pa_cons (pv 2) (pa_cons (pv 3) (pa_cons (pv 5) pa_nil))))) (pa_cons (pe_tup (pa_cons (pv 1) (pa_cons (pe_op op_add (pv 2) (pv 5)) (pa_cons (pv 3) (pa_cons (pe_op op_sub (pv 4) (pv 5)) pa_nil))))) pa_nil)))))))), ?_⟩
    refine ⟨_, rfl, p, _, rfl, SqT.of hp, rfl, _, _, rfl, _, _, rfl, _, _, rfl, _, _, rfl, rfl, ?_⟩
    refine ⟨_, rfl, _, rfl, _, _, rfl, rfl, .inl ⟨by omega, by omega⟩, rfl, _, rfl, ?_⟩
    have o := lt.o
    cases i : a.inn
    · obtain ⟨o1, o2⟩ := one_of o i
      rw [show decide (V.int (((a.h : Nat) : Int) * ((a.w : Nat) : Int)) = V.int 1) = true from decide_eq_true (congrArg V.int (by rw [o1, o2]; rfl))]
      refine iteT ⟨(by show 0 ≤ sizeLine; decide), fun q hq => ?_⟩
      refine k q _ _ (Same.new hq) hq upd_same ?_
      unfold halvesL
      rw [i, if_neg Bool.false_ne_true]
      exact .nil
    · have ne : ¬ ((a.h : Nat) : Int) * ((a.w : Nat) : Int) = 1 := by
        have := inn_int a
        rw [i] at this
        have := of_decide_eq_true this.symm
        omega
      rw [show decide (V.int (((a.h : Nat) : Int) * ((a.w : Nat) : Int)) = V.int 1) = false from decide_eq_false fun z => ne (V.int.inj z)]
      refine iteF ?_
      have k : ∀ q us H', Same H H' → H q = none → H' q = some (.lst us) → AL H' us [a.half false, a.half true] → Q (.ref q) H' := fun q us H' m f l al => k q us H' m f l (by unfold halvesL; rw [i, if_pos rfl]; exact al)
      refine ⟨_, rfl, _, rfl, _, _, rfl, rfl, _, rfl, ?_⟩
      by_cases c : a.w ≤ a.h
      · obtain ⟨e1, e2⟩ := half_ge c
        rw [decide_eq_true (show ((a.w : Nat) : Int) ≤ ((a.h : Nat) : Int) by omega)]
        refine iteT ⟨_, rfl, _, _, rfl, rfl, _, _, rfl, rfl, ⟨by decide, by decide⟩, ?_⟩
        refine ⟨_, rfl, _, rfl, _, rfl, _, rfl, (by show 4 ≤ sizeLine; decide), fun p1 h1 => ?_⟩
        refine ⟨_, rfl, _, rfl, _, _, rfl, rfl, _, rfl, _, rfl, _, rfl, _, _, rfl, rfl, _, rfl, (by show 4 ≤ sizeLine; decide), fun p2 h2 => ⟨(by show 2 ≤ sizeLine; decide), fun q hq => ?_⟩⟩
        exact two_new (a := a.half false) (b := a.half true) (by rw [e1]; exact arV_eq rfl rfl (by first | rfl | (dsimp; omega)) rfl) (by rw [e2]; exact arV_eq (by first | rfl | (dsimp; omega)) rfl (by first | rfl | (dsimp; omega)) rfl) k h1 h2 hq
      · obtain ⟨e1, e2⟩ := half_lt' c
        rw [decide_eq_false (show ¬ ((a.w : Nat) : Int) ≤ ((a.h : Nat) : Int) by omega)]
        refine iteF ⟨_, rfl, _, _, rfl, rfl, _, _, rfl, rfl, ⟨by decide, by decide⟩, ?_⟩
        refine ⟨_, rfl, _, rfl, _, rfl, _, rfl, (by show 4 ≤ sizeLine; decide), fun p1 h1 => ?_⟩
        refine ⟨_, rfl, _, rfl, _, rfl, _, _, rfl, rfl, _, rfl, _, rfl, _, rfl, _, _, rfl, rfl, (by show 4 ≤ sizeLine; decide), fun p2 h2 => ⟨(by show 2 ≤ sizeLine; decide), fun q hq => ?_⟩⟩
        exact two_new (a := a.half false) (b := a.half true) (by rw [e1]; exact arV_eq rfl rfl rfl (by first | rfl | (dsimp; omega))) (by rw [e2]; exact arV_eq rfl (by first | rfl | (dsimp; omega)) rfl (by first | rfl | (dsimp; omega))) k h1 h2 hq
theorem ok_llines : FnOk P w K mg base (L2.CX P w) 1 T._law_lines_of.a T._law_lines_of.d ["told", "wide"] spLines := by
  refine T._law_lines_of.f.okX sc__law_lines_of (fun vs H Q E h => ?_) (fun cdv A outer s H vs Q E hr h => ?_)
  · obtain ⟨q, ns, h, w, rfl, _⟩ := h
    rfl
  · obtain ⟨q, ns, h, w, rfl, hq, hl, h1, h2, w1, w2, k⟩ := h
    refine ⟨_, pss_one (ps_ret (pe_callTy (show CallR _ _ (rTupOf K) from call_tuple_of) (by rfl) T.b_tuple (by decide +kernel) (pa_cons (pe_lc (own := [("spot", 2)]) (g := gName 2) (tt := tYes) rfl sc__law_lines_of.nd (pi_range3 (by rfl) T.b_range (pa_cons pe_int (pa_cons (pe_callB (show CallR _ _ (rLenQ K) from call_len_seq) (by rfl) T.b_len PySem.boot_len (pa_cons (pv 0) pa_nil)) (pa_cons (pv 1) pa_nil))))
        (blkOk_by (own := [("spot", 2)]) (N := ["told", "wide", "spot"]) (sc := defScope s__law_lines_of) (by decide +kernel)) (fun _ _ _ _ _ => pg_name (i := 2) sc__law_lines_of.nd rfl (Or.inl rfl)) (fun _ _ _ _ _ => pts_nil)
        (fun _ _ _ _ _ => pe_callTy (show CallR _ _ (rTupOf K) from call_tuple_of) (by rfl) T.b_tuple (by decide +kernel) (pa_cons (pe_slice (show SlR _ (rSlL K) from sl_list) (pv 0) (po_some (pv 2)) (po_some (pe_op op_add (pv 2) (pv 1)))) pa_nil))) pa_nil))), ?_⟩
    refine ret_tup (rows_read (σ := [some (.ref q), some (.int w), none]) (i := 0) (j := 1) (k := 2) hq hl h1 h2 w1 w2 (fun _ => rfl) (fun _ => rfl) (fun _ => rfl) (fun _ => rfl) rfl rfl rfl fun D rs H1 m f l r => ?_)
    refine ⟨D, rs, rfl, .inl ⟨SqL.of l, fun p hp => k p _ (m.trans (Same.new hp)) (m.free hp) ?_⟩⟩
    exact Rows.pn (r.keep (Same.new hp)) upd_same (by rw [rowsOf_len]; exact h1) (by rw [rowsOf_len]; exact h2) w1 w2 (rowsOf_ws hl)
theorem ok_lareas : FnOk P w K mg base (L2.CX P w) 2 T._law_areas.a T._law_areas.d ["tall", "wide"] spAreas := by
  refine T._law_areas.f.okX sc__law_areas (fun vs H Q E h => ?_) (fun cdv A outer s H vs Q E hr h => ?_)
  · obtain ⟨h, w, rfl, _⟩ := h
    rfl
  · obtain ⟨h, w, rfl, h1, h2, w1, w2, k⟩ := h
    refine ⟨_, pss_cons (ps_par (i := 2) (j := 3) rfl sc__law_areas.nd rfl rfl (by decide) rfl rfl (pa_cons (pe_lst (pa_cons (pe_tup (pa_cons pe_int (pa_cons pe_int (pa_cons (pv 0) (pa_cons (pv 1) pa_nil))))) pa_nil)) (pa_cons pe_int pa_nil)) (by rfl))
      (pss_cut (ps_while (passes_of rfl) (pt_cmpR op_lt (pv 3) (pe_callB call_len_seq (by rfl) T.b_len PySem.boot_len (pa_cons (pv 2) pa_nil)) (nomark _))
        (pss_cons (ps_set (i := 2) sc__law_areas.nd rfl (.inl rfl) (pe_op op_cat (pv 2) (pe_call (ok_lhalves T) (hr.mono (by decide)) (by rfl) T._law_halves.m T._law_halves.f.kp (bd__law_halves T) .nil passE (pa_cons (pe_ix ix_list (pv 2) (pv 3) (fun _ _ => rfl)) pa_nil))))
        (pss_one (ps_set (i := 3) sc__law_areas.nd rfl (.inl rfl) (pe_op op_add (pv 3) pe_int)))))
      (pss_one (ps_ret (pv 2)))), ?_⟩
    refine ⟨_, rfl, _, rfl, (by show 4 ≤ sizeLine; decide), fun p hp => ⟨(by show 1 ≤ sizeLine; decide), fun fa hfa => ?_⟩⟩
    have s1 := Same.new (o := .tup [V.int 0, .int 0, .int h, .int w]) hp
    have s2 := Same.new (o := .lst [V.ref p]) hfa
    refine ⟨_, _, rfl, ?_⟩
    have ff := s1.free hfa
    have lr := lit_root h1 h2 w1 w2
    have S0 := s1.trans s2
    have l0 : (upd (upd H p (.tup [V.int 0, .int 0, .int h, .int w])) fa (.lst [V.ref p])) fa = some (.lst [V.ref p]) := upd_same
    have g0 : AL (upd (upd H p (.tup [V.int 0, .int 0, .int h, .int w])) fa (.lst [V.ref p])) [.ref p] ((ways (root h w) 0).map (reg (root h w))) := .cons (s2 _ _ upd_same) .nil
    generalize upd (upd H p (.tup [V.int 0, .int 0, .int h, .int w])) fa (.lst [V.ref p]) = H0 at g0 S0 l0 ⊢
    clear s1 s2
    refine ⟨fun σ' H' => ∃ fa us v3, σ' = [some (.int h), some (.int w), some (.ref fa), v3] ∧ H fa = none ∧ H' fa = some (.lst us) ∧ AL H' us (areasL h w) ∧ Same H H', ?_, ?_⟩
    · refine ⟨fun μ σ' H' => ∃ n fa us, μ = many (root h w) - n ∧ n ≤ many (root h w) ∧ σ' = [some (.int h), some (.int w), some (.ref fa), some (.int (n : Nat))] ∧ H fa = none ∧ H' fa = some (.lst us) ∧ AL H' us ((ways (root h w) n).map (reg (root h w))) ∧ Same H H',
        ⟨many (root h w), 0, _, _, rfl, Nat.zero_le _, rfl, ff, l0, g0, S0⟩, ?_⟩
      clear l0 g0 S0 ff hfa
      rintro μ σ' H1 ⟨n, fa, us, rfl, ln, rfl, ff, hl, al, sm⟩
      have gr := Grown.at lr.o n ln
      have lu : us.length = (ways (root h w) n).length := by rw [al.len, List.length_map]
      have lsz : us.length ≤ 511 := by
        have lw := gr.lt_iff lr.o
        have : many (root h w) ≤ 511 := by
          unfold many
          have e : (root h w).size = h * w := rfl
          have := Nat.mul_le_mul h2 w2
          omega
        rw [lu]
        obtain ⟨R, e⟩ := ways_pre lr.o ln
        have := allW_len lr.o
        rw [e, List.length_append] at this
        omega
      refine ⟨_, rfl, _, rfl, fa, us, rfl, .inl (SqL.of hl), _, _, rfl, rfl, _, rfl, ?_⟩
      by_cases c : n < us.length
      · rw [decide_eq_true (show ((n : Nat) : Int) < ((us.length : Nat) : Int) by omega)]
        have c2 : n < many (root h w) := (gr.lt_iff lr.o).mp (by omega)
        obtain ⟨a, ha⟩ : ∃ a, ((ways (root h w) n).map (reg (root h w)))[n]? = some a := ⟨_, List.getElem?_eq_getElem (by rw [← al.len]; exact c)⟩
        obtain ⟨q, hq, eq⟩ := al.at_ ha
        have la : Lit a := by
          obtain ⟨z, hz, rfl⟩ := List.mem_map.mp (List.mem_of_getElem? ha)
          have := way_ok lr.o (gr.way z hz)
          exact ⟨this.1, this.2.1.trans lr.i⟩
        refine iteT ⟨fun σ' H' => ∃ fa us, σ' = [some (.int h), some (.int w), some (.ref fa), some (.int ((n + 1 : Nat) : Int))] ∧ H fa = none ∧ H' fa = some (.lst us) ∧ AL H' us ((ways (root h w) (n + 1)).map (reg (root h w))) ∧ Same H H',
          fun σ' H' ⟨fa, us, r⟩ => ⟨many (root h w) - (n + 1), by omega, n + 1, fa, us, rfl, c2, r⟩, ?_⟩
        refine ⟨_, rfl, _, rfl, _, rfl, fa, us, _, _, rfl, rfl, SqL.of hl, atI_nat hq, q, a, rfl, eq, la, fun b ws H2 m2 f2 l2 al2 => ?_⟩
        have hl2 := m2 _ _ hl
        refine ⟨fa, b, us, ws, rfl, rfl, hl2, l2, ?_, fun g hg => ?_⟩
        · have := al2.len
          have l3 : (halvesL a).length ≤ 2 := by
            unfold halvesL
            split <;> simp
          exact Nat.le_trans (show _ ≤ 600 by omega) (by decide)
        · have t := Same.new (o := .lst (us ++ ws)) hg
          have sm2 := (sm.trans m2).trans t
          refine ⟨_, rfl, _, _, rfl, rfl, _, _, rfl, (sm.trans m2).free hg, upd_same, ?_, sm2⟩
          rw [regs_succ ha]
          exact ((al.same m2).append al2).same t
      · rw [decide_eq_false (show ¬ ((n : Nat) : Int) < ((us.length : Nat) : Int) by omega)]
        have e : n = many (root h w) := by
          have := (gr.lt_iff lr.o)
          have : ¬ n < many (root h w) := fun z => c (by have := this.mpr z; omega)
          omega
        subst e
        exact iteF ⟨fa, us, _, rfl, ff, hl, al, sm⟩
    · rintro σ' H1 ⟨fa, us, v3, rfl, ff, hl, al, sm⟩
      exact ⟨_, rfl, k fa us H1 sm ff hl al⟩
theorem ok_lies : FnOk P w K mg base (L2.CX P w) 1 T._law_lies_in.a T._law_lies_in.d ["area", "dot"] spLies := by
  refine T._law_lies_in.f.okX sc__law_lies_in (fun vs H Q E h => ?_) (fun cdv A outer s H vs Q E hr h => ?_)
  · obtain ⟨p, a, d, y, x, rfl, _⟩ := h
    rfl
  · obtain ⟨p, a, d, y, x, rfl, hp, hd, k⟩ := h
    refine ⟨_, pss_one (ps_ret (pe_and (pe_chain op_le op_lt (pe_ix ix_tup (pv 0) pe_int (fun _ _ => rfl)) (pe_ix ix_tup (pv 1) pe_int (fun _ _ => rfl)) (pe_op op_add (pe_ix ix_tup (pv 0) pe_int (fun _ _ => rfl)) (pe_ix ix_tup (pv 0) pe_int (fun _ _ => rfl))))
      (pe_one (pe_chain op_le op_lt (pe_ix ix_tup (pv 0) pe_int (fun _ _ => rfl)) (pe_ix ix_tup (pv 1) pe_int (fun _ _ => rfl)) (pe_op op_add (pe_ix ix_tup (pv 0) pe_int (fun _ _ => rfl)) (pe_ix ix_tup (pv 0) pe_int (fun _ _ => rfl))))))), ?_⟩
    have tp := SqT.of (K := K) hp
    have td := SqT.of (K := K) hd
    have fin : ∀ b : Bool, b = liesIn a y x → Q (.bl b) H := fun b e => q_bl k e
    unfold liesIn at fin
    refine ⟨_, rfl, p, _, 0, .int a.t, rfl, rfl, tp, rfl, _, rfl, d, _, 0, .int y, rfl, rfl, td, rfl, _, _, rfl, rfl, _, rfl, ?_⟩
    by_cases c1 : a.t ≤ y
    · rw [decide_eq_true (show ((a.t : Nat) : Int) ≤ ((y : Nat) : Int) by omega)]
      refine iteT ⟨_, rfl, p, _, 0, .int a.t, rfl, rfl, tp, rfl, _, rfl, p, _, 2, .int a.h, rfl, rfl, tp, rfl, _, _, rfl, rfl, _, _, rfl, rfl, _, rfl, ?_⟩
      by_cases c2 : y < a.t + a.h
      · rw [decide_eq_true (show ((y : Nat) : Int) < ((a.t : Nat) : Int) + ((a.h : Nat) : Int) by omega)]
        refine iteT ⟨_, rfl, p, _, 1, .int a.l, rfl, rfl, tp, rfl, _, rfl, d, _, 1, .int x, rfl, rfl, td, rfl, _, _, rfl, rfl, _, rfl, ?_⟩
        by_cases c3 : a.l ≤ x
        · rw [decide_eq_true (show ((a.l : Nat) : Int) ≤ ((x : Nat) : Int) by omega)]
          refine iteT ⟨_, rfl, p, _, 1, .int a.l, rfl, rfl, tp, rfl, _, rfl, p, _, 3, .int a.w, rfl, rfl, tp, rfl, _, _, rfl, rfl, _, _, rfl, rfl, ?_⟩
          exact fin _ (decide_eq_decide.mpr ⟨fun z => ⟨c1, c2, c3, by omega⟩, fun z => by omega⟩)
        · rw [decide_eq_false (show ¬ ((a.l : Nat) : Int) ≤ ((x : Nat) : Int) by omega)]
          exact iteF (fin _ (decide_eq_false fun z => c3 z.2.2.1).symm)
      · rw [decide_eq_false (show ¬ ((y : Nat) : Int) < ((a.t : Nat) : Int) + ((a.h : Nat) : Int) by omega)]
        exact iteF (fin _ (decide_eq_false fun z => c2 z.2.1).symm)
    · rw [decide_eq_false (show ¬ ((a.t : Nat) : Int) ≤ ((y : Nat) : Int) by omega)]
      refine iteF ⟨_, rfl, ?_⟩
      exact iteF (fin _ (decide_eq_false fun z => c1 z.1).symm)
end
end K16
namespace K16
open PySem PySem.Spec PyProof.Rows L2 PySem.W LamX KA KW KU KL KT
open Evl (pss_cut tCut)
/-! ### the law's own lift -/
def arD (a : Ar) : PyData := .tuple [.int a.t, .int a.l, .int a.h, .int a.w]
def arK (a : Ar) : List L2.Key := [.inl (a.t : Int), .inl (a.l : Int), .inl (a.h : Int), .inl (a.w : Int)]
theorem arK_v (a : Ar) : (arK a).map kV = arV a := rfl
theorem arK_inj {a b : Ar} (h : arK a = arK b) : a = b := by
  cases a
  cases b
  simp only [arK, List.cons.injEq, Sum.inl.injEq, Int.natCast_inj, and_true] at h
  obtain ⟨rfl, rfl, rfl, rfl⟩ := h
  rfl
theorem dp_al {K : PySem.W.Frag} {H : Hp} {us : List V} {as : List Ar} (al : AL H us as) : DpAll K H us (as.map arD) := by
  induction al with
  | nil => exact .nil
  | cons e _ ih => exact .cons (.tup (SqT.of e) (.cons (.int _) (.cons (.int _) (.cons (.int _) (.cons (.int _) .nil))))) ih
theorem dp_als {K : PySem.W.Frag} {H : Hp} {q : Addr} {us : List V} {as : List Ar} (l : H q = some (.lst us)) (al : AL H us as) : Dp K H (.ref q) (.list (as.map arD)) := .lst (SqL.of l) (dp_al al)
theorem al_lay : ∀ as : List Ar, PyData.canLayAll0 (as.map arD) = true ∧ PyData.depthAll (as.map arD) ≤ 1
  | [] => ⟨rfl, Nat.zero_le _⟩
  | a :: as => by
    obtain ⟨h1, h2⟩ := al_lay as
    refine ⟨by simp [arD, PyData.canLayAll0, PyData.canLay0, h1], ?_⟩
    simp only [List.map_cons, arD, PyData.depthAll, PyData.depth] at h2 ⊢
    omega
theorem shaped_al (as : List Ar) : SeqAt.shaped (.list (as.map arD)) = true := by
  obtain ⟨h1, h2⟩ := al_lay as
  simp [SeqAt.shaped, PyData.canLay0, PyData.depth, h1]
  omega
theorem eqv_al_nil (as : List Ar) : PyData.eqv (.list (as.map arD)) (.list []) = as.isEmpty := by
  cases as <;> rfl
theorem halves_nil {a : Ar} : (halvesL a).isEmpty = !a.inn := by
  unfold halvesL
  cases a.inn <;> rfl
/-- the means that stand in a dict -/
structure MD (H0 : Hp) (f : Nat → Nat → Int) (h w : Nat) (md : Addr) (from_ n : Nat) (H : Hp) : Prop where
  s : Same H0 H
  m : ∃ kvs : List (List L2.Key × V), H md = some (.dT kvs) ∧ kvs.length ≤ n ∧ ∀ (i : Nat) (a : Ar), from_ ≤ i → (areasL h w)[i]? = some a → valV kvs (arK a) = some (.int (mean f a))
theorem MD.same {H0 H H' : Hp} {f : Nat → Nat → Int} {h w : Nat} {md : Addr} {a n : Nat} (B : MD H0 f h w md a n H) (e : Same H H') : MD H0 f h w md a n H' := by
  obtain ⟨kvs, b1, b2⟩ := B.m
  exact ⟨B.s.trans e, kvs, e _ _ b1, b2⟩
/-- one mean more -/
theorem MD.put {H0 H : Hp} {f : Nat → Nat → Int} {h w : Nat} {md : Addr} {i n : Nat} {a : Ar} {kvs : List (List L2.Key × V)} (hs : Same H0 H) (hf : H0 md = none) (hl : kvs.length ≤ n)
    (hm : ∀ (j : Nat) (b : Ar), i + 1 ≤ j → (areasL h w)[j]? = some b → valV kvs (arK b) = some (.int (mean f b))) (ha : (areasL h w)[i]? = some a) :
    MD H0 f h w md i (n + 1) (upd H md (.dT (putK kvs (arK a) (.int (mean f a))))) := by
  refine ⟨Same.put hs hf, _, upd_same, ?_, fun j b hj e => ?_⟩
  · have := length_putK kvs (arK a) (.int (mean f a))
    omega
  · rw [valV_put]
    by_cases c : arK b = arK a
    · rw [if_pos c, arK_inj c]
    · rw [if_neg c]
      refine hm j b ?_ e
      rcases Nat.lt_or_ge i j with z | z
      · exact z
      · have : j = i := by omega
        subst this
        rw [ha] at e
        exact absurd (congrArg arK (Option.some.inj e).symm) c
theorem MD.keep {H0 H : Hp} {f : Nat → Nat → Int} {h w : Nat} {md fa : Addr} {a n : Nat} {o : HO} (B : MD H0 f h w md a n H) (e : md ≠ fa) (hf : H0 fa = none) : MD H0 f h w md a n (upd H fa o) := by
  obtain ⟨kvs, b1, b2⟩ := B.m
  exact ⟨Same.put B.s hf, kvs, (upd_ne e).trans b1, b2⟩
def spLLift : Sp := fun vs H Q _ => ∃ (q : Addr) (ns : List Int) (h w : Nat), vs = [.int h, .int w, .ref q] ∧ H q = some (.lst (ns.map V.int)) ∧ ns.length = h * w ∧ 1 ≤ h ∧ h ≤ 16 ∧ 1 ≤ w ∧ w ≤ 16 ∧
  ∀ p H', Same H H' → H p = none → H' p = some (.lst ((liftL (fOf ns w) h w).map V.int)) → Q (.ref p) H'
section
variable {P : Program} {w : World} {K : PySem.W.Frag} {mg : Str → Option Value} {base : Heap} (T : Top K mg)
theorem ok_llift : FnOk P w K mg base (L2.CX P w) 3 T._law_lift.a T._law_lift.d ["tall", "wide", "numbers_here"] spLLift := by
  refine T._law_lift.f.okX sc__law_lift (fun vs H Q E h => ?_) (fun cdv A outer s H vs Q E hr h => ?_)
  · obtain ⟨q, ns, h, w, rfl, _⟩ := h
    rfl
  · obtain ⟨nq, ns, h, wn, rfl, hnq, hln, h1, h2, w1, w2, k⟩ := h
    have hu := hu_of hr
    refine ⟨_, pss_cons (ps_par (i := 3) (j := 4) rfl sc__law_lift.nd rfl rfl (by decide) rfl rfl (pa_cons (pe_call (ok_lareas T) (hr.mono (by decide)) (by rfl) T._law_areas.m T._law_areas.f.kp (bd__law_areas T) .nil passE (pa_cons (pv 0) (pa_cons (pv 1) pa_nil))) (pa_cons pe_dnewT pa_nil)) (by rfl))
      (pss_cut (ps_for (passes_of rfl) rfl (pi_list (pe_revL (pv 3))) (pg_name (i := 5) sc__law_lift.nd rfl (.inl rfl))
        (pss_cons (ps_set (i := 6) sc__law_lift.nd rfl (.inl rfl) (pe_call (ok_lhalves T) (hr.mono (by decide)) (by rfl) T._law_halves.m T._law_halves.f.kp (bd__law_halves T) .nil passE (pa_cons (pv 5) pa_nil)))
        (pss_one (ps_if (pt_cmpR (op_eqD hr.units) (pv 6) (pe_lst pa_nil) (nomark _))
          (pss_one (ps_dput hu (pv 4) (pv 5) (pe_ix ix_list (pv 2) (pe_op op_add (pe_op op_mul (pe_ix ix_tup (pv 5) pe_int (fun _ _ => rfl)) (pv 1)) (pe_ix ix_tup (pv 5) pe_int (fun _ _ => rfl))) (fun _ _ => rfl)) rfl))
          (pss_one (ps_dput hu (pv 4) (pv 5) (pe_op op_fdiv (pe_op op_add (pe_dget hu (pv 4) (pe_ix ix_list (pv 6) pe_int (fun _ _ => rfl)) (fun _ _ => rfl)) (pe_dget hu (pv 4) (pe_ix ix_list (pv 6) pe_int (fun _ _ => rfl)) (fun _ _ => rfl))) pe_int) rfl))))))
      (pss_cons (ps_set (i := 7) sc__law_lift.nd rfl (.inl rfl) (pe_lst (pa_cons (pe_dget hu (pv 4) (pe_ix ix_list (pv 3) pe_int (fun _ _ => rfl)) (fun _ _ => rfl)) pa_nil)))
      (pss_cut (ps_for (passes_of rfl) rfl (pi_list (pv 3)) (pg_name (i := 5) sc__law_lift.nd rfl (.inl rfl))
        (pss_cons (ps_set (i := 6) sc__law_lift.nd rfl (.inl rfl) (pe_call (ok_lhalves T) (hr.mono (by decide)) (by rfl) T._law_halves.m T._law_halves.f.kp (bd__law_halves T) .nil passE (pa_cons (pv 5) pa_nil)))
        (pss_one (ps_if (pt_cmpR (op_neD hr.units) (pv 6) (pe_lst pa_nil) (nomark _))
          (pss_one (ps_expr (pe_bm PySem.F.plainAttrs_list PySem.F.slot_list_append PySem.F.type_list_append mt_append (pv 7) (pa_cons (pe_op op_sub (pe_dget hu (pv 4) (pe_ix ix_list (pv 6) pe_int (fun _ _ => rfl)) (fun _ _ => rfl)) (pe_dget hu (pv 4) (pe_ix ix_list (pv 6) pe_int (fun _ _ => rfl)) (fun _ _ => rfl))) pa_nil)))) pss_nil))))
      (pss_one (ps_ret (pv 7)))))), ?_⟩
    refine ⟨_, rfl, _, rfl, h, wn, rfl, h1, h2, w1, w2, fun q us H1 m1 f1 l1 al => ?_⟩
    refine fun md hmd => ⟨_, _, rfl, ?_⟩
    have lenA := areas_len h1 w1
    have lu : us.length = 2 * (h * wn) - 1 := by rw [al.len, lenA]
    generalize hN : 2 * (h * wn) - 1 = N at *
    have N1 : 1 ≤ N := by
      have := Nat.mul_pos h1 w1
      omega
    have N2 : N ≤ 511 := by
      have := Nat.mul_le_mul h2 w2
      omega
    have hnq1 := m1 _ _ hnq
    clear hnq
    have k : ∀ p H', Same H1 H' → H1 p = none → H' p = some (.lst ((liftL (fOf ns wn) h wn).map V.int)) → Q (.ref p) H' := fun p H' m f l => k p H' (m1.trans m) (m1.free f) l
    clear m1 f1
    have t1 := Same.new (o := .dT []) hmd
    have B0 : MD H1 (fOf ns wn) h wn md N 0 (upd H1 md (.dT [])) := ⟨t1, [], upd_same, Nat.le_refl _, fun i a hi e => by
      have := (List.getElem?_eq_some_iff.mp e).1
      omega⟩
    generalize upd H1 md (.dT []) = H2 at B0 ⊢
    refine ⟨fun σ' H' => (∃ v5 v6, σ' = [some (.int (h : Nat)), some (.int (wn : Nat)), some (.ref nq), some (.ref q), some (.ref md), v5, v6, none]) ∧ MD H1 (fOf ns wn) h wn md 0 N H', ?_, ?_⟩
    · refine ⟨_, rfl, q, us, rfl, SqL.of (B0.s _ _ l1), fun rq hrq => ⟨rq, rfl, ⟨_, SqL.of upd_same⟩, ?_⟩⟩
      have l2 := B0.s _ _ l1
      have B0 := B0.same (Same.new (o := .lst us.reverse) hrq)
      have hr0 : (upd H2 rq (.lst us.reverse)) rq = some (.lst us.reverse) := upd_same
      generalize upd H2 rq (.lst us.reverse) = H3 at B0 hr0 ⊢
      have rmd : rq ≠ md := fun z => by
        obtain ⟨kvs, b1, _⟩ := B0.m
        rw [← z, hr0] at b1
        cases b1
      clear l2 hrq
      refine for_it walk_list (fun j σ H => (∃ v5 v6, σ = [some (.int (h : Nat)), some (.int (wn : Nat)), some (.ref nq), some (.ref q), some (.ref md), v5, v6, none]) ∧ MD H1 (fOf ns wn) h wn md (N - j) j H ∧ H rq = some (.lst us.reverse))
        ⟨⟨none, none, rfl⟩, by rw [Nat.sub_zero]; exact B0, hr0⟩ (fun j σ H _ q' => SqL.of q'.2.2) ?_ fun σ H q' => ?_
      · rintro j x σ H4 H4' hj ⟨⟨v5, v6, rfl⟩, B, hr4⟩ ⟨rfl, hx⟩
        rw [List.length_reverse, lu] at hj
        obtain ⟨i, hi⟩ : ∃ i, i = N - 1 - j := ⟨_, rfl⟩
        have e1 : N - j = i + 1 := by omega
        have e2 : N - (j + 1) = i := by omega
        rw [e1] at B
        rw [e2]
        obtain ⟨ai, hai⟩ : ∃ ai, (areasL h wn)[i]? = some ai := ⟨_, List.getElem?_eq_getElem (by rw [lenA]; omega)⟩
        obtain ⟨qa, hqa, eqa⟩ := al.at_ hai
        have lt := lit_areas h1 h2 w1 w2 (List.mem_of_getElem? hai)
        have ex : x = .ref qa := by
          rw [List.getElem?_reverse (by rw [lu]; exact hj), lu, ← hi, hqa] at hx
          exact (Option.some.inj hx).symm
        subst ex
        have fm1 : H1 md = none := hmd
        refine ⟨_, rfl, qa, ai, rfl, B.s _ _ eqa, lt, fun hq hs H5 m5 f5 l5 al5 => ?_⟩
        refine ⟨_, rfl, (by show 0 ≤ sizeLine; decide), fun p hp => ?_⟩
        have t2 := Same.new (o := .lst []) hp
        refine ⟨_, _, dp_als (t2 _ _ l5) (al5.same t2), dp_nil upd_same, shaped_al _, shaped_nil, _, rfl, ?_⟩
        rw [eqv_al_nil, halves_nil]
        have B := (B.same m5).same t2
        have hr4 := t2 _ _ (m5 _ _ hr4)
        have l5 := t2 _ _ l5
        have al5 := al5.same t2
        generalize upd H5 p (.lst []) = H6 at B hr4 l5 al5 ⊢
        obtain ⟨kvs, b1, b2, b3⟩ := B.m
        have bz : kvs.length < sizeLine := Nat.lt_of_le_of_lt (show kvs.length ≤ 511 by omega) (by decide)
        have e6 := B.s _ _ eqa
        cases inn : ai.inn
        · obtain ⟨o1, o2⟩ := one_of lt.o inn
          have ia := (areas_ok h1 w1 (List.mem_of_getElem? hai)).2
          unfold In root at ia
          dsimp only at ia
          have xi : ai.t * wn + ai.l < ns.length := by
            rw [hln]
            have : (ai.t + 1) * wn ≤ h * wn := Nat.mul_le_mul_right wn (by omega)
            rw [Nat.succ_mul] at this
            omega
          have gx : (ns.map V.int)[ai.t * wn + ai.l]? = some (.int (mean (fOf ns wn) ai)) := by
            rw [List.getElem?_map, List.getElem?_eq_getElem xi, mean_one lt.o inn]
            unfold fOf
            rw [List.getD_eq_getElem?_getD, List.getElem?_eq_getElem xi]
            rfl
          refine iteT ⟨_, rfl, _, rfl, qa, _, 0, .int ai.t, rfl, rfl, SqT.of e6, rfl, _, rfl, _, _, rfl, rfl, .inl ⟨by omega, by omega⟩, _, rfl, qa, _, 1, .int ai.l, rfl, rfl, SqT.of e6, rfl, _, _, rfl, rfl, nq, _, _, .int (mean (fOf ns wn) ai), rfl, rfl, SqL.of (B.s _ _ hnq1), ?_, ?_⟩
          · rw [show ((ai.t : Nat) : Int) * ((wn : Nat) : Int) + ((ai.l : Nat) : Int) = ((ai.t * wn + ai.l : Nat) : Int) by rw [Int.natCast_add, Int.natCast_mul]]
            exact atI_nat gx
          · refine ⟨_, rfl, _, rfl, md, _, rfl, DPut.t (k := arK ai) b1 (by rw [arK_v]; exact e6) bz, ⟨_, _, rfl⟩, MD.put B.s fm1 b2 b3 hai, (upd_ne rmd).trans hr4⟩
        · obtain ⟨k1, k2, k3⟩ := kids_at h1 w1 hai inn
          have g1 := b3 _ _ (by omega) k1
          have g2 := b3 _ _ (by omega) k2
          unfold halvesL at al5
          rw [inn, if_pos rfl] at al5
          obtain ⟨p1, hp1, ep1⟩ := al5.at_ (i := 0) rfl
          obtain ⟨p2, hp2, ep2⟩ := al5.at_ (i := 1) rfl
          refine iteF ⟨_, rfl, _, rfl, hq, hs, 0, _, rfl, rfl, SqL.of l5, atI_nat (j := 0) hp1, md, .int (mean (fOf ns wn) (ai.half false)), rfl, g1 ▸ DGet.t (k := arK (ai.half false)) b1 (by rw [arK_v]; exact ep1), _, rfl, _, rfl, hq, hs, 1, _, rfl, rfl, SqL.of l5, atI_nat (j := 1) hp2, md, .int (mean (fOf ns wn) (ai.half true)), rfl, g2 ▸ DGet.t (k := arK (ai.half true)) b1 (by rw [arK_v]; exact ep2), _, _, rfl, rfl, _, _, rfl, rfl, ⟨by decide, by decide⟩, ?_⟩
          dsimp only
          rw [← mean_in (f := fOf ns wn) lt.o inn]
          exact ⟨_, rfl, _, rfl, md, _, rfl, DPut.t (k := arK ai) b1 (by rw [arK_v]; exact e6) bz, ⟨_, _, rfl⟩, MD.put B.s fm1 b2 b3 hai, (upd_ne rmd).trans hr4⟩
      · obtain ⟨⟨v5, v6, rfl⟩, B, _⟩ := q'
        rw [List.length_reverse, lu, Nat.sub_self] at B
        exact ⟨⟨_, _, rfl⟩, B⟩
    · rintro σ' H4 ⟨⟨v5, v6, rfl⟩, B⟩
      obtain ⟨kvs, b1, b2, b3⟩ := B.m
      have r0 := root_at h1 w1
      obtain ⟨q0, hq0, eq0⟩ := al.at_ r0
      have g0 := b3 0 _ (Nat.zero_le _) r0
      refine ⟨_, rfl, _, rfl, q, us, 0, _, rfl, rfl, SqL.of (B.s _ _ l1), atI_nat (j := 0) hq0, md, .int (mean (fOf ns wn) (root h wn)), rfl, g0 ▸ DGet.t (k := arK (root h wn)) b1 (by rw [arK_v]; exact B.s _ _ eq0), (by show 1 ≤ sizeLine; decide), fun fa hfa => ?_⟩
      have faf := B.s.free hfa
      have mfa : md ≠ fa := fun z => by rw [← z, b1] at hfa; cases hfa
      have B := B.same (Same.new (o := .lst [V.int (mean (fOf ns wn) (root h wn))]) hfa)
      have hf0 : (upd H4 fa (.lst [V.int (mean (fOf ns wn) (root h wn))])) fa = some (.lst [V.int (mean (fOf ns wn) (root h wn))]) := upd_same
      generalize upd H4 fa (.lst [V.int (mean (fOf ns wn) (root h wn))]) = H5 at B hf0 ⊢
      clear b1 b2 b3 g0 hfa
      refine ⟨fun σ' H' => (∃ v5 v6, σ' = [some (.int (h : Nat)), some (.int (wn : Nat)), some (.ref nq), some (.ref q), some (.ref md), v5, v6, some (.ref fa)]) ∧ Same H1 H' ∧ H' fa = some (.lst ((liftL (fOf ns wn) h wn).map V.int)), ?_, ?_⟩
      · refine ⟨_, rfl, q, rfl, ⟨_, SqL.of (B.s _ _ l1)⟩, for_it walk_list (fun n σ H => (∃ v5 v6, σ = [some (.int (h : Nat)), some (.int (wn : Nat)), some (.ref nq), some (.ref q), some (.ref md), v5, v6, some (.ref fa)]) ∧ MD H1 (fOf ns wn) h wn md 0 N H ∧ H fa = some (.lst ((mean (fOf ns wn) (root h wn) :: (((areasL h wn).take n).filter Ar.inn).map (diff (fOf ns wn))).map V.int)))
          ⟨⟨_, _, rfl⟩, B, by rw [List.take_zero]; exact hf0⟩ (fun j σ H _ q' => SqL.of (q'.2.1.s _ _ l1)) ?_ fun σ H q' => ?_⟩
        · rintro n x σ H6 H7 hn ⟨⟨v5, v6, rfl⟩, B, hf⟩ ⟨rfl, hx⟩
          obtain ⟨qa, ai, rfl, hai, eqa⟩ := al.get hx
          have lt := lit_areas h1 h2 w1 w2 (List.mem_of_getElem? hai)
          refine ⟨_, rfl, qa, ai, rfl, B.s _ _ eqa, lt, fun hq hs H8 m8 f8 l8 al8 => ?_⟩
          refine ⟨_, rfl, (by show 0 ≤ sizeLine; decide), fun p hp => ?_⟩
          have t2 := Same.new (o := .lst []) hp
          refine ⟨_, _, dp_als (t2 _ _ l8) (al8.same t2), dp_nil upd_same, shaped_al _, shaped_nil, _, rfl, ?_⟩
          rw [eqv_al_nil, halves_nil]
          have B := (B.same m8).same t2
          have hf := t2 _ _ (m8 _ _ hf)
          have l8 := t2 _ _ l8
          have al8 := al8.same t2
          generalize upd H8 p (.lst []) = H9 at B hf l8 al8 ⊢
          obtain ⟨kvs, b1, b2, b3⟩ := B.m
          have tk : ((areasL h wn).take (n + 1)).filter Ar.inn = ((areasL h wn).take n).filter Ar.inn ++ (if ai.inn = true then [ai] else []) := by
            rw [List.take_add_one, hai, List.filter_append]
            cases hi : ai.inn <;> simp [hi]
          rw [tk]
          cases inn : ai.inn
          · refine iteF ⟨⟨_, _, rfl⟩, B, ?_⟩
            rw [if_neg Bool.false_ne_true, List.append_nil]
            exact hf
          · obtain ⟨k1, k2, k3⟩ := kids_at h1 w1 hai inn
            have g1 := b3 _ _ (Nat.zero_le _) k1
            have g2 := b3 _ _ (Nat.zero_le _) k2
            unfold halvesL at al8
            rw [inn, if_pos rfl] at al8
            obtain ⟨p1, hp1, ep1⟩ := al8.at_ (i := 0) rfl
            obtain ⟨p2, hp2, ep2⟩ := al8.at_ (i := 1) rfl
            refine iteT ⟨_, rfl, .inl ⟨rfl, _, SqL.of hf⟩, _, rfl, _, rfl, hq, hs, 1, _, rfl, rfl, SqL.of l8, atI_nat (j := 1) hp2, md, .int (mean (fOf ns wn) (ai.half true)), rfl, g2 ▸ DGet.t (k := arK (ai.half true)) b1 (by rw [arK_v]; exact ep2), _, rfl, _, rfl, hq, hs, 0, _, rfl, rfl, SqL.of l8, atI_nat (j := 0) hp1, md, .int (mean (fOf ns wn) (ai.half false)), rfl, g1 ▸ DGet.t (k := arK (ai.half false)) b1 (by rw [arK_v]; exact ep1), _, _, rfl, rfl, ?_⟩
            refine ⟨fa, _, _, rfl, rfl, hf, ?_, ⟨_, _, rfl⟩, B.keep mfa faf, ?_⟩
            · rw [List.length_map, List.length_cons, List.length_map]
              have : (((areasL h wn).take n).filter Ar.inn).length ≤ 511 := by
                refine Nat.le_trans (List.length_filter_le _ _) (Nat.le_trans (List.length_take_le' _ _) ?_)
                rw [lenA]
                exact N2
              exact Nat.lt_of_le_of_lt (show _ ≤ 512 by omega) (by decide)
            · rw [if_pos rfl, upd_same, List.map_append, ← List.cons_append, List.map_append]
              rfl
        · obtain ⟨⟨v5, v6, rfl⟩, B, hf⟩ := q'
          refine ⟨⟨_, _, rfl⟩, B.s, ?_⟩
          rw [List.take_of_length_le (by rw [lenA, lu]; exact Nat.le_refl _)] at hf
          exact hf
      · rintro σ' H6 ⟨⟨v5, v6, rfl⟩, sm, hf⟩
        exact ⟨_, rfl, k fa H6 sm faf hf⟩
end
end K16
namespace KDT
open PySem PySem.Spec PyProof.Rows L2
/-! {(a, ..): v}: a display of one pair, its key a tuple of ints and texts -/
def tDisp1T (tk tv : TE) : TE := fun σ H Q => ∀ p, H p = none → tk σ (upd H p (.dT [])) fun x H1 => tv σ H1 fun y H2 => ∃ (k : List L2.Key) (b : Addr), x = .ref b ∧ H2 b = some (.tup (k.map kV)) ∧ H2 p = some (.dT []) ∧ Q (.ref p) (upd H2 p (.dT [(k, y)]))
theorem pe_disp1T {X : Cx} {pos : Pos} {key value : PySem.Expr} {tk tv : TE} (hu : X.A.units + 1 < cLine) (hk : PE X key tk) (hv : PE X value tv) : PE X (.Dict [some key] [value] pos) (tDisp1T tk tv) := by
  refine ⟨fun pins s σ H Q I q => ?_⟩
  have hn := I.hok.fresh (Nat.le_refl s.heap.objs.size)
  have I1 := I.laid (a := s.heap.objs.size) (o := .dT []) (h' := s.heap.push { cls := .type "dict", data := .dict #[] }) (t' := s.toks) (fun _ _ q => Heap.get?_push_of_some _ q) (Nat.le_refl _) (dt_empty s.heap I.big)
  have q1 := q s.heap.objs.size hn
  rw [arm_eval_Dict, zip_pairTrees [some key] [value] X.env pos rfl rfl, dictDisplay_pairs (pairTrees [some key] [value] X.env pos) (by intro z; cases z) (by show 1 < 17; decide)]
  refine wpAny_bind (wpAny_standAt (wpAny_bind (wpAny_subDictH (knd := tupleKind (mixKind X.prog X.w)) (Q := fun d s' => wpAny (model X.prog X.w) X.A (pure (Value.ref d)) (EP X pins σ Q) X.xe s') ?_ (by show 1 ≤ 15; decide) ?_)))
  · show X.A.units < cLine
    omega
  · refine pairTrees_cons_walk (thn (hk.run pins _ σ _ _ I1 q1) fun u s1 ⟨x, H1, I2, rx, q2⟩ => thn (hv.run pins s1 σ H1 _ I2 q2) fun w2 s2 ⟨y, H2, I3, ry, q3⟩ => pairTrees_nil_walk ?_)
    obtain ⟨k, b, ex, eb, ed, q4⟩ := q3
    subst ex
    cases (show u = Value.ref b from rx)
    obtain ⟨z, hd, xs, rel, dd⟩ := dt_of I3.hok ed
    cases rel
    refine ⟨[(k, b, w2)], ⟨rfl, rfl, key_of I3.hok eb, trivial⟩, dd, fun h' tk dd' hs => wpAny_pure ⟨.ref s.heap.objs.size, _, ?_, rfl, q4⟩⟩
    obtain ⟨o, es, ep, hq, h2, h3, h4, _, h5⟩ := dd'
    refine d_write I3 (by rw [ed]; exact True.intro) hs ⟨o, hq⟩ ⟨(by show 1 ≤ sizeLine; decide), hd, [(k, b, w2)], .cons ⟨rfl, ?_, ry⟩ .nil, o, es, ep, hq, h2, h3, h4, h5⟩
    rw [upd_ne (ne_of eb ed (fun z => nomatch z))]
    exact eb
end KDT
namespace K16
open PySem PySem.Spec PyProof.Rows L2 PySem.W LamX KA KW KU KL KT KDT
open Evl (pss_cut tCut)
/-! ### the law's own unlift -/
structure MU (H0 : Hp) (h w : Nat) (m : Nat → Int) (md fd : Addr) (n : Nat) (H : Hp) : Prop where
  s : Same H0 H
  mm : ∃ kvs : List (List L2.Key × V), H md = some (.dT kvs) ∧ kvs.length ≤ 2 * n + 1 ∧ ∀ (i : Nat) (a : Ar) (u : Int), (areasL h w)[i]? = some a → (upL h w m n)[i]? = some u → valV kvs (arK a) = some (.int u)
  fk : H fd = some (.lst (((List.range (h * w)).map fun j => cellN h w m n (j / w) (j % w)).map V.int))
theorem MU.same {H0 H H' : Hp} {h w : Nat} {m : Nat → Int} {md fd : Addr} {n : Nat} (B : MU H0 h w m md fd n H) (e : Same H H') : MU H0 h w m md fd n H' := by
  obtain ⟨kvs, b1, b2⟩ := B.mm
  exact ⟨B.s.trans e, ⟨kvs, e _ _ b1, b2⟩, e _ _ B.fk⟩
theorem AL.putD {H : Hp} {vs : List V} {as : List Ar} {D : Addr} {o : HO} {kvs : List (List L2.Key × V)} (p : AL H vs as) (h : H D = some (.dT kvs)) : AL (upd H D o) vs as := by
  induction p with
  | nil => exact .nil
  | @cons b a vs as e _ ih =>
    refine .cons ?_ ih
    rw [upd_ne (fun z => by rw [z, h] at e; cases e)]
    exact e
/-- the two halves' means put -/
theorem put_two {h w n kk : Nat} (h1 : 1 ≤ h) (w1 : 1 ≤ w) {m : Nat → Int} {a : Ar} {un mv : Int} {kvs : List (List L2.Key × V)} (k1 : (areasL h w)[2 * kk - 1]? = some (a.half false)) (k2 : (areasL h w)[2 * kk]? = some (a.half true))
    (kp : 1 ≤ kk) (len : (upL h w m n).length = 2 * kk - 1) (us : upL h w m (n + 1) = upL h w m n ++ [un - mv / 2, un + mv - mv / 2])
    (b3 : ∀ (i : Nat) (a : Ar) (u : Int), (areasL h w)[i]? = some a → (upL h w m n)[i]? = some u → valV kvs (arK a) = some (.int u)) :
    ∀ (i : Nat) (b : Ar) (u : Int), (areasL h w)[i]? = some b → (upL h w m (n + 1))[i]? = some u → valV (putK (putK kvs (arK (a.half false)) (.int (un - mv / 2))) (arK (a.half true)) (.int (un - mv / 2 + mv))) (arK b) = some (.int u) := by
  intro i b u ei eu
  rw [us] at eu
  rw [valV_put, valV_put]
  by_cases c1 : i < (upL h w m n).length
  · rw [List.getElem?_append_left c1] at eu
    rw [if_neg, if_neg]
    · exact b3 i b u ei eu
    · intro z
      have := areas_inj h1 w1 (arK_inj z ▸ ei) k1
      omega
    · intro z
      have := areas_inj h1 w1 (arK_inj z ▸ ei) k2
      omega
  · rw [List.getElem?_append_right (by omega)] at eu
    by_cases c2 : i = 2 * kk - 1
    · rw [show i - (upL h w m n).length = 0 by omega] at eu
      cases (show some (un - mv / 2) = some u from eu)
      subst c2
      rw [k1] at ei
      cases ei
      rw [if_neg, if_pos rfl]
      intro z
      have := areas_inj h1 w1 (arK_inj z ▸ k1) k2
      omega
    · by_cases c3 : i = 2 * kk
      · rw [show i - (upL h w m n).length = 1 by omega] at eu
        cases (show some (un + mv - mv / 2) = some u from eu)
        subst c3
        rw [k2] at ei
        cases ei
        rw [if_pos rfl]
        congr 2
        omega
      · rw [List.getElem?_eq_none (by simp; omega)] at eu
        cases eu
def spLUnlift : Sp := fun vs H Q _ => ∃ (q : Addr) (ns : List Int) (h w : Nat), vs = [.int h, .int w, .ref q] ∧ H q = some (.lst (ns.map V.int)) ∧ ns.length = h * w ∧ 1 ≤ h ∧ h ≤ 16 ∧ 1 ≤ w ∧ w ≤ 16 ∧
  ∀ p H', Same H H' → H p = none → H' p = some (.lst ((downL h w (numAt ns)).map V.int)) → Q (.ref p) H'
theorem rep_one {v : V} (n : Nat) : (List.replicate n [v]).flatten = List.replicate n v := by
  induction n with
  | zero => rfl
  | succ n ih => simp [List.replicate_succ]
/-- the list of cells, one of them set -/
theorem cells_set {h w n : Nat} (h1 : 1 ≤ h) (w1 : 1 ≤ w) {m : Nat → Int} {a : Ar} (e : (areasL h w)[n]? = some a) (ea : a = ⟨a.t, a.l, 1, 1⟩) (ht : a.t < h) (hl : a.l < w) {v : Int} (hv : (up h w m)[n]? = some v) :
    ((List.range (h * w)).map fun j => cellN h w m n (j / w) (j % w)).set (a.t * w + a.l) v = (List.range (h * w)).map fun j => cellN h w m (n + 1) (j / w) (j % w) := by
  have d1 : (a.t * w + a.l) / w = a.t := by rw [Nat.mul_comm, Nat.mul_add_div w1, Nat.div_eq_of_lt hl, Nat.add_zero]
  have d2 : (a.t * w + a.l) % w = a.l := by rw [Nat.mul_comm, Nat.mul_add_mod, Nat.mod_eq_of_lt hl]
  have lt : a.t * w + a.l < h * w := by
    have : (a.t + 1) * w ≤ h * w := Nat.mul_le_mul_right w ht
    rw [Nat.succ_mul] at this
    omega
  refine row_set lt ?_ fun j hj nj => ?_
  · rw [d1, d2]
    exact cellN_at h1 w1 (ea ▸ e) hv
  · refine cellN_step h1 w1 e (fun z => nj ?_) (Nat.div_lt_of_lt_mul (by rw [Nat.mul_comm]; exact hj)) (Nat.mod_lt _ w1)
    rw [← z]
    show j = j / w * w + j % w
    rw [Nat.mul_comm]
    exact (Nat.div_add_mod j w).symm
theorem cells_same {h w n : Nat} (h1 : 1 ≤ h) (w1 : 1 ≤ w) {m : Nat → Int} {a : Ar} (e : (areasL h w)[n]? = some a) (i : a.inn = true) :
    (List.range (h * w)).map (fun j => cellN h w m (n + 1) (j / w) (j % w)) = (List.range (h * w)).map fun j => cellN h w m n (j / w) (j % w) := by
  refine List.map_congr_left fun j hj => ?_
  have hj := List.mem_range.mp hj
  exact cellN_step h1 w1 e (fun z => by rw [← z] at i; cases i) (Nat.div_lt_of_lt_mul (by rw [Nat.mul_comm]; exact hj)) (Nat.mod_lt _ w1)
section
variable {P : Program} {w : World} {K : PySem.W.Frag} {mg : Str → Option Value} {base : Heap} (T : Top K mg)
theorem ok_lunlift : FnOk P w K mg base (L2.CX P w) 3 T._law_unlift.a T._law_unlift.d ["tall", "wide", "numbers_here"] spLUnlift := by
  refine T._law_unlift.f.okX sc__law_unlift (fun vs H Q E h => ?_) (fun cdv A outer s H vs Q E hr h => ?_)
  · obtain ⟨q, ns, h, w, rfl, _⟩ := h
    rfl
  · obtain ⟨nq, ns, h, wn, rfl, hnq, hln, h1, h2, w1, w2, k⟩ := h
    have hu := hu_of hr
    refine ⟨_, pss_cons (ps_par3 (i := 3) (j := 4) (l := 5) rfl sc__law_unlift.nd rfl rfl rfl (by decide) (by decide) (by decide) rfl rfl rfl (pa_cons (pe_disp1T hu (pe_tup (pa_cons pe_int (pa_cons pe_int (pa_cons (pv 0) (pa_cons (pv 1) pa_nil))))) (pe_ix ix_list (pv 2) pe_int (fun _ _ => rfl))) (pa_cons pe_int (pa_cons (pe_op op_rep (pe_lst (pa_cons pe_int pa_nil)) (pe_op op_mul (pv 0) (pv 1))) pa_nil))) (by rfl))
      (pss_cut (ps_for (passes_of rfl) rfl (pi_list (pe_call (ok_lareas T) (hr.mono (by decide)) (by rfl) T._law_areas.m T._law_areas.f.kp (bd__law_areas T) .nil passE (pa_cons (pv 0) (pa_cons (pv 1) pa_nil)))) (pg_name (i := 6) sc__law_unlift.nd rfl (.inl rfl))
        (pss_cons (ps_set (i := 7) sc__law_unlift.nd rfl (.inl rfl) (pe_call (ok_lhalves T) (hr.mono (by decide)) (by rfl) T._law_halves.m T._law_halves.f.kp (bd__law_halves T) .nil passE (pa_cons (pv 6) pa_nil)))
        (pss_one (ps_if (pt_cmpR (op_eqD hr.units) (pv 7) (pe_lst pa_nil) (nomark _))
          (pss_one (ps_asg (pe_dget hu (pv 3) (pv 6) (fun _ _ => rfl)) (pg_sub (pv 5) (pe_op op_add (pe_op op_mul (pe_ix ix_tup (pv 6) pe_int (fun _ _ => rfl)) (pv 1)) (pe_ix ix_tup (pv 6) pe_int (fun _ _ => rfl))) set_list)))
          (pss_cons (ps_set (i := 4) sc__law_unlift.nd rfl (.inl rfl) (pe_op op_add (pv 4) pe_int))
          (pss_cons (ps_set (i := 8) sc__law_unlift.nd rfl (.inl rfl) (pe_op op_sub (pe_dget hu (pv 3) (pv 6) (fun _ _ => rfl)) (pe_op op_fdiv (pe_ix ix_list (pv 2) (pv 4) (fun _ _ => rfl)) pe_int)))
          (pss_one (ps_asg (pe_tup (pa_cons (pv 8) (pa_cons (pe_op op_add (pv 8) (pe_ix ix_list (pv 2) (pv 4) (fun _ _ => rfl))) pa_nil))) (pg_tup rfl (pgs_cons (pg_sub (pv 3) (pe_ix ix_list (pv 7) pe_int (fun _ _ => rfl)) (set_dict hu)) (pgs_cons (pg_sub (pv 3) (pe_ix ix_list (pv 7) pe_int (fun _ _ => rfl)) (set_dict hu)) pgs_nil)))))))))))
      (pss_one (ps_ret (pv 5)))), ?_⟩
    have lenA := areas_len h1 w1
    have hw1 := Nat.mul_pos h1 w1
    have hw2 : h * wn ≤ 16 * 16 := Nat.mul_le_mul h2 w2
    obtain ⟨x0, hx0⟩ : ∃ x0, ns[0]? = some x0 := ⟨_, List.getElem?_eq_getElem (by omega)⟩
    have num0 : numAt ns 0 = x0 := by
      unfold numAt
      rw [List.getD_eq_getElem?_getD, hx0]
      rfl
    refine fun md hmd => ⟨_, rfl, _, rfl, (by show 4 ≤ sizeLine; decide), fun kp hkp => ?_⟩
    have t1 := Same.new (o := .dT []) hmd
    have t2 := Same.new (o := .tup [V.int 0, .int 0, .int h, .int wn]) hkp
    refine ⟨_, rfl, nq, _, 0, _, rfl, rfl, SqL.of (t2 _ _ (t1 _ _ hnq)), atI_nat (j := 0) (by rw [List.getElem?_map, hx0]; rfl), arK (root h wn), kp, rfl, upd_same, t2 _ _ upd_same, ?_⟩
    have b0 : (upd (upd (upd H md (.dT [])) kp (.tup [V.int 0, .int 0, .int h, .int wn])) md (.dT [(arK (root h wn), .int x0)])) md = some (.dT [(arK (root h wn), .int x0)]) := upd_same
    have s0 : Same H (upd (upd (upd H md (.dT [])) kp (.tup [V.int 0, .int 0, .int h, .int wn])) md (.dT [(arK (root h wn), .int x0)])) := Same.put (t1.trans t2) hmd
    generalize upd (upd (upd H md (.dT [])) kp (.tup [V.int 0, .int 0, .int h, .int wn])) md (.dT [(arK (root h wn), .int x0)]) = H1 at b0 s0 ⊢
    clear t1 t2 hkp
    refine ⟨(by show 1 ≤ sizeLine; decide), fun p1 hp1 => ⟨_, rfl, _, rfl, _, _, rfl, rfl, .inl ⟨by omega, by omega⟩, p1, ((h * wn : Nat) : Int), _, rfl, by rw [Int.natCast_mul], upd_same, by omega, by omega, ?_, fun fd hfd => ⟨_, _, _, rfl, ?_⟩⟩⟩
    · rw [Int.toNat_natCast]
      exact Nat.le_trans (show 1 * (h * wn) ≤ 511 by omega) (by decide)
    have s1 := Same.new (o := .lst [V.int 0]) hp1
    have s2 := Same.new (o := .lst (List.replicate ((h * wn : Nat) : Int).toNat [V.int 0]).flatten) hfd
    have mdf : md ≠ fd := fun z => by rw [← z, s1 _ _ b0] at hfd; cases hfd
    have fdf : H fd = none := (s0.trans s1).free hfd
    have B0 : MU H h wn (numAt ns) md fd 0 (upd (upd H1 p1 (.lst [V.int 0])) fd (.lst (List.replicate ((h * wn : Nat) : Int).toNat [V.int 0]).flatten)) := by
      refine ⟨(s0.trans s1).trans s2, ⟨_, s2 _ _ (s1 _ _ b0), Nat.le_refl _, fun i a u ei eu => ?_⟩, ?_⟩
      · cases i with
        | zero =>
          rw [root_at h1 w1] at ei
          cases ei
          have : some (numAt ns 0) = some u := eu
          rw [num0] at this
          cases this
          exact valV_pos rfl
        | succ i =>
          have : ([numAt ns 0] : List Int)[i + 1]? = some u := eu
          simp at this
      · rw [upd_same, rep_one, Int.toNat_natCast]
        congr 2
        refine List.ext_getElem (by simp) fun x a b => ?_
        simp [cellN_zero]
    generalize upd (upd H1 p1 (.lst [V.int 0])) fd (.lst (List.replicate ((h * wn : Nat) : Int).toNat [V.int 0]).flatten) = H2 at B0 ⊢
    clear s0 s1 s2 b0 hp1 hfd
    refine ⟨fun σ' H' => (∃ v4 v6 v7 v8, σ' = [some (.int (h : Nat)), some (.int (wn : Nat)), some (.ref nq), some (.ref md), v4, some (.ref fd), v6, v7, v8]) ∧ MU H h wn (numAt ns) md fd (2 * (h * wn) - 1) H', ?_, ?_⟩
    · refine ⟨_, rfl, _, rfl, h, wn, rfl, h1, h2, w1, w2, fun q us H3 m3 f3 l3 al => ⟨q, rfl, ⟨_, SqL.of l3⟩, ?_⟩⟩
      have lu : us.length = 2 * (h * wn) - 1 := by rw [al.len, lenA]
      have qmd : q ≠ md := fun z => by
        obtain ⟨kvs, b1, _⟩ := B0.mm
        rw [← z, f3] at b1
        cases b1
      have qfd : q ≠ fd := fun z => by
        rw [z, B0.fk] at f3
        cases f3
      have B0 := B0.same m3
      refine for_it walk_list (fun n σ H' => (∃ (c : Int) (v6 v7 v8 : Option V), c = ((kth h wn n : Nat) : Int) ∧ σ = [some (.int (h : Nat)), some (.int (wn : Nat)), some (.ref nq), some (.ref md), some (.int c), some (.ref fd), v6, v7, v8]) ∧ MU H h wn (numAt ns) md fd n H' ∧ H' q = some (.lst us) ∧ AL H' us (areasL h wn))
        ⟨⟨0, none, none, none, rfl, rfl⟩, B0, l3, al⟩ (fun j σ H _ q' => SqL.of q'.2.2.1) ?_ fun σ H q' => ?_
      · rintro n x σ H4 H5 hn ⟨⟨c, v6, v7, v8, rfl, rfl⟩, B, hq, al⟩ ⟨rfl, hx⟩
        rw [lu] at hn
        obtain ⟨qa, ai, rfl, hai, eqa⟩ := al.get hx
        have lt := lit_areas h1 h2 w1 w2 (List.mem_of_getElem? hai)
        have ks := kth_succ hai
        have ul := upL_lt h1 w1 (numAt ns) hn
        obtain ⟨un, hun⟩ : ∃ un, (upL h wn (numAt ns) n)[n]? = some un := ⟨_, List.getElem?_eq_getElem ul⟩
        have hU : (up h wn (numAt ns))[n]? = some un := upL_get (Nat.le_of_lt hn) hun
        have un0 : (upL h wn (numAt ns) n).getD n 0 = un := by rw [List.getD_eq_getElem?_getD, hun]; rfl
        have us' := upL_succ (m := numAt ns) hai
        refine ⟨_, rfl, qa, ai, rfl, eqa, lt, fun hq' hs H6 m6 f6 l6 al6 => ?_⟩
        refine ⟨_, rfl, (by show 0 ≤ sizeLine; decide), fun p hp => ?_⟩
        have t2 := Same.new (o := .lst []) hp
        refine ⟨_, _, dp_als (t2 _ _ l6) (al6.same t2), dp_nil upd_same, shaped_al _, shaped_nil, _, rfl, ?_⟩
        rw [eqv_al_nil, halves_nil]
        have B := (B.same m6).same t2
        have hq := t2 _ _ (m6 _ _ hq)
        have al := (al.same m6).same t2
        have eqa := t2 _ _ (m6 _ _ eqa)
        have l6 := t2 _ _ l6
        have al6 := al6.same t2
        generalize upd H6 p (.lst []) = H7 at B hq al eqa l6 al6 ⊢
        clear m6 f6 t2 hp
        obtain ⟨kvs, b1, b2, b3⟩ := B.mm
        have g0 := b3 n ai un hai hun
        cases inn : ai.inn
        · rw [inn] at ks us'
          rw [if_neg Bool.false_ne_true] at ks us'
          obtain ⟨o1, o2⟩ := one_of lt.o inn
          have ia := (areas_ok h1 w1 (List.mem_of_getElem? hai)).2
          unfold In root at ia
          dsimp only at ia
          have yh : ai.t < h := by omega
          have xw : ai.l < wn := by omega
          have eai : ai = ⟨ai.t, ai.l, 1, 1⟩ := by
            cases ai
            simp only at *
            congr 1
          have xi : ai.t * wn + ai.l < h * wn := by
            have : (ai.t + 1) * wn ≤ h * wn := Nat.mul_le_mul_right wn yh
            rw [Nat.succ_mul] at this
            omega
          refine iteT ⟨_, rfl, _, rfl, md, .int un, rfl, g0 ▸ DGet.t (k := arK ai) b1 (by rw [arK_v]; exact eqa), ?_⟩
          refine ⟨_, rfl, _, rfl, qa, _, 0, .int ai.t, rfl, rfl, SqT.of eqa, rfl, _, rfl, _, _, rfl, rfl, .inl ⟨by omega, by omega⟩, _, rfl, qa, _, 1, .int ai.l, rfl, rfl, SqT.of eqa, rfl, _, _, rfl, rfl, fd, _, _, ai.t * wn + ai.l, rfl, by rw [Int.natCast_add, Int.natCast_mul], B.fk, ixN_nat (by rw [List.length_map, List.length_map, List.length_range]; exact xi), ?_⟩
          refine ⟨⟨_, _, _, _, by rw [ks, Nat.add_zero], rfl⟩, ?_⟩
          refine ⟨⟨Same.put B.s fdf, ⟨kvs, (upd_ne mdf).trans b1, by omega, fun i a u ei eu => b3 i a u ei (by rw [us'] at eu; exact eu)⟩, ?_⟩, (upd_ne qfd).trans hq, al.put B.fk⟩
          rw [upd_same, ← List.map_set, cells_set h1 w1 hai eai yh xw hU]
        · rw [inn] at ks us'
          rw [if_pos rfl] at ks us'
          rw [un0] at us'
          have len := upL_len (h := h) (w := wn) (m := numAt ns) n (by rw [lenA]; omega)
          obtain ⟨k1, k2, k3⟩ := kids_at h1 w1 hai inn
          have kb := (List.getElem?_eq_some_iff.mp k2).1
          rw [lenA] at kb
          generalize hk : kth h wn (n + 1) = kk at *
          have kp : 1 ≤ kk := by omega
          obtain ⟨mv, hmv⟩ : ∃ mv, ns[kk]? = some mv := ⟨_, List.getElem?_eq_getElem (by omega)⟩
          have nmv : numAt ns kk = mv := by
            unfold numAt
            rw [List.getD_eq_getElem?_getD, hmv]
            rfl
          rw [nmv] at us'
          have getm : (ns.map V.int)[kk]? = some (V.int mv) := by rw [List.getElem?_map, hmv]; rfl
          have hn7 := B.s _ _ hnq
          unfold halvesL at al6
          rw [inn, if_pos rfl] at al6
          refine iteF ⟨_, rfl, _, _, rfl, rfl, ?_⟩
          dsimp only
          rw [show ((kth h wn n : Nat) : Int) + 1 = ((kk : Nat) : Int) by omega]
          refine ⟨_, rfl, _, rfl, md, .int un, rfl, g0 ▸ DGet.t (k := arK ai) b1 (by rw [arK_v]; exact eqa), _, rfl, _, rfl, nq, _, _, .int mv, rfl, rfl, SqL.of hn7, atI_nat getm, _, _, rfl, rfl, ⟨by decide, by decide⟩, _, _, rfl, rfl, ?_⟩
          refine ⟨_, rfl, _, rfl, _, rfl, _, rfl, nq, _, _, .int mv, rfl, rfl, SqL.of hn7, atI_nat getm, _, _, rfl, rfl, (by show 2 ≤ sizeLine; decide), fun p3 hp3 => ⟨p3, _, rfl, SqT.of upd_same, rfl, _, _, rfl, ?_⟩⟩
          dsimp only
          have t3 := Same.new (o := .tup [V.int (un - mv / 2), .int (un - mv / 2 + mv)]) hp3
          have B := B.same t3
          have hq := t3 _ _ hq
          have al := al.same t3
          have l6 := t3 _ _ l6
          have al6 := al6.same t3
          have b1 := t3 _ _ b1
          clear t3 hp3 eqa
          generalize upd H7 p3 (.tup [V.int (un - mv / 2), .int (un - mv / 2 + mv)]) = H8 at B hq al l6 al6 b1 ⊢
          obtain ⟨p1, hp1, ep1⟩ := al6.at_ (i := 0) rfl
          have bz : kvs.length < sizeLine := Nat.lt_of_le_of_lt (show kvs.length ≤ 1100 by omega) (by decide)
          have pz := length_putK kvs (arK (ai.half false)) (.int (un - mv / 2))
          have bz2 : (putK kvs (arK (ai.half false)) (.int (un - mv / 2))).length < sizeLine := Nat.lt_of_le_of_lt (show _ ≤ 1200 by omega) (by decide)
          have hqm : hq' ≠ md := fun z => by rw [z, b1] at l6; cases l6
          have al6' := al6.putD (o := .dT (putK kvs (arK (ai.half false)) (.int (un - mv / 2)))) b1
          obtain ⟨p2, hp2, ep2⟩ := al6'.at_ (i := 1) rfl
          refine ⟨_, rfl, _, rfl, hq', hs, 0, _, rfl, rfl, SqL.of l6, atI_nat (j := 0) hp1, md, _, rfl, DPut.t (k := arK (ai.half false)) b1 (by rw [arK_v]; exact ep1) bz, _, _, rfl, ?_⟩
          refine ⟨_, rfl, _, rfl, hq', hs, 1, _, rfl, rfl, SqL.of ((upd_ne hqm).trans l6), atI_nat (j := 1) hp2, md, _, rfl, DPut.t (k := arK (ai.half true)) upd_same (by rw [arK_v]; exact ep2) bz2, rfl, ?_⟩
          refine ⟨⟨_, _, _, _, rfl, rfl⟩, ⟨Same.put (Same.put B.s hmd) hmd, ⟨_, upd_same, ?_, put_two h1 w1 k1 k2 kp (by omega) us' b3⟩, ?_⟩, (upd_ne qmd).trans ((upd_ne qmd).trans hq), (al.putD b1).putD upd_same⟩
          · have pz2 := length_putK (putK kvs (arK (ai.half false)) (.int (un - mv / 2))) (arK (ai.half true)) (.int (un - mv / 2 + mv))
            omega
          · rw [upd_ne (Ne.symm mdf), upd_ne (Ne.symm mdf), B.fk, cells_same h1 w1 hai inn]
      · obtain ⟨⟨c, v6, v7, v8, _, rfl⟩, B, _⟩ := q'
        rw [lu] at B
        exact ⟨⟨_, _, _, _, rfl⟩, B⟩
    · rintro σ' H3 ⟨⟨v4, v6, v7, v8, rfl⟩, B⟩
      refine ⟨_, rfl, k fd H3 B.s fdf ?_⟩
      rw [B.fk]
      unfold downL
      congr 3
      refine List.map_congr_left fun j hj => ?_
      have hj := List.mem_range.mp hj
      exact cellN_all h1 w1 (Nat.div_lt_of_lt_mul (by rw [Nat.mul_comm]; exact hj)) (Nat.mod_lt _ w1)
end
end K16
namespace K16
open PySem PySem.Spec PyProof.Rows L2 PySem.W LamX KA KW KU KL KT KDT
open Evl (pss_cut tCut)
/-! ### x is True -/
def rIsB : R2 := fun x y H Q => ∃ a b : Bool, x = .bl a ∧ y = .bl b ∧ Q (.bl (a == b)) H
theorem op_isB {X : Cx} : OpR X (compareOp .Is) rIsB := by
  intro pins s σ H x y v u Q I rx ry h
  obtain ⟨a, b, rfl, rfl, q⟩ := h
  cases rx
  cases ry
  show wpAny _ _ ((isSame (Value.bool a) (Value.bool b)) >>= fun z => pure (Value.bool z)) _ _ s
  refine wpAny_bind (wpAny_isSame_plain (by rfl) (wpAny_pure (fin_bl I q ?_)))
  cases a <;> cases b <;> rfl
/-! ### short functions of the law -/
def spRowBy : Sp := fun vs H Q _ => ∃ (a : Addr) (nss : List (List Int)) (w : Nat), vs = [.ref a] ∧ Pn H a nss w ∧ ∀ p H', Same H H' → H p = none → H' p = some (.lst (nss.flatten.map V.int)) → Q (.ref p) H'
def spSays : Sp := fun vs H Q _ => ∃ a b : Bool, vs = [.bl a, .bl b] ∧ Q (.bl (a == b)) H
def spFigure : Sp := fun vs H Q _ => ∃ (st lg cl : Addr) (f m : Nat), vs = [.ref st, .int f] ∧ f < 3 ∧ m ≤ 999999 ∧ StAt H st lg cl m ∧ ∀ (i : Int) (H' : Hp), StAt H' st lg cl (m + 1) → Kp st lg H H' → Q (.int i) H'
def spSizes : Sp := fun vs H Q _ => ∃ (st lg cl : Addr) (c m : Nat), vs = [.ref st, .int c] ∧ 1 ≤ c ∧ m ≤ 999990 ∧ StAt H st lg cl m ∧
  ∀ (h w : Nat) (p : Addr) (H' : Hp), 1 ≤ h → h ≤ 16 → 1 ≤ w → w ≤ 16 → H' p = some (.tup [.int h, .int w]) → StAt H' st lg cl (m + 2) → Kp st lg H H' → Q (.ref p) H'
/-- spots -/
inductive DL (H : Hp) : List V → List (Nat × Nat) → Prop
  | nil : DL H [] []
  | cons {p : Addr} {d : Nat × Nat} {vs : List V} {ds : List (Nat × Nat)} (e : H p = some (.tup [.int d.1, .int d.2])) (r : DL H vs ds) : DL H (.ref p :: vs) (d :: ds)
theorem DL.same {H H' : Hp} {vs : List V} {ds : List (Nat × Nat)} (p : DL H vs ds) (s : Same H H') : DL H' vs ds := by
  induction p with
  | nil => exact .nil
  | cons e _ ih => exact .cons (s _ _ e) ih
theorem DL.put {H : Hp} {vs xs : List V} {ds : List (Nat × Nat)} {D : Addr} {o : HO} (p : DL H vs ds) (h : H D = some (.lst xs)) : DL (upd H D o) vs ds := by
  induction p with
  | nil => exact .nil
  | cons e _ ih => exact .cons (by rw [upd_ne (fun z => by rw [z, h] at e; cases e)]; exact e) ih
theorem DL.append {H : Hp} {vs us : List V} {ds es : List (Nat × Nat)} (p : DL H vs ds) (q : DL H us es) : DL H (vs ++ us) (ds ++ es) := by
  induction p with
  | nil => exact q
  | cons e _ ih => exact .cons e ih
theorem DL.len {H : Hp} {vs : List V} {ds : List (Nat × Nat)} (p : DL H vs ds) : vs.length = ds.length := by
  induction p with
  | nil => rfl
  | cons _ _ ih => simp [ih]
theorem DL.get {H : Hp} {vs : List V} {ds : List (Nat × Nat)} (p : DL H vs ds) : ∀ {i : Nat} {v : V}, vs[i]? = some v → ∃ q d, v = .ref q ∧ ds[i]? = some d ∧ H q = some (.tup [.int d.1, .int d.2]) := by
  induction p with
  | nil => intro i a h; simp at h
  | @cons q b vs as e r ih =>
    intro i v h
    cases i with
    | zero =>
      simp at h
      exact ⟨q, b, h.symm, rfl, e⟩
    | succ i => exact ih (by simpa using h)
def dotsL (h w : Nat) : List (Nat × Nat) := ((List.range h).map fun y => (List.range w).map fun x => (y, x)).flatten
theorem dotsL_succ {h w : Nat} : dotsL (h + 1) w = dotsL h w ++ (List.range w).map fun x => (h, x) := by
  unfold dotsL
  rw [List.range_succ, List.map_append, List.flatten_append]
  simp
theorem dotsL_len {h w : Nat} : (dotsL h w).length = h * w := by
  induction h with
  | zero => simp [dotsL]
  | succ h ih => rw [dotsL_succ, List.length_append, ih, List.length_map, List.length_range, Nat.succ_mul]
def spDots : Sp := fun vs H Q _ => ∃ h w : Nat, vs = [.int h, .int w] ∧ h ≤ 16 ∧ w ≤ 16 ∧ ∀ q us H', Same H H' → H q = none → H' q = some (.lst us) → DL H' us (dotsL h w) → Q (.ref q) H'
section
variable {P : Program} {w : World} {K : PySem.W.Frag} {mg : Str → Option Value} {base : Heap} (T : Top K mg)
theorem ok_row_by : FnOk P w K mg base (L2.CX P w) 1 T._law_row_by_row.a T._law_row_by_row.d ["pane"] spRowBy := by
  refine T._law_row_by_row.f.okX sc__law_row_by_row (fun vs H Q E h => ?_) (fun cdv A outer s H vs Q E hr h => ?_)
  · obtain ⟨a, nss, w, rfl, _⟩ := h
    rfl
  · obtain ⟨a, nss, wn, rfl, pn, k⟩ := h
    refine ⟨_, pss_cons (ps_set (i := 1) sc__law_row_by_row.nd rfl (.inl rfl) (pe_lst pa_nil))
      (pss_cut (ps_for (passes_of rfl) rfl (pi_tup (pv 0)) (pg_name (i := 2) sc__law_row_by_row.nd rfl (.inl rfl))
        (pss_one (ps_set (i := 1) sc__law_row_by_row.nd rfl (.inl rfl) (pe_op op_cat (pv 1) (pe_callTy call_list_of (by rfl) T.b_list (by decide +kernel) (pa_cons (pv 2) pa_nil))))))
      (pss_one (ps_ret (pv 1)))), ?_⟩
    obtain ⟨vs, ea, rows⟩ := pn.rows
    refine ⟨(by show 0 ≤ sizeLine; decide), fun f0 hf0 => ?_⟩
    have t0 := Same.new (o := .lst []) hf0
    refine ⟨fun σ' H' => ∃ fa v2, σ' = [some (.ref a), some (.ref fa), v2] ∧ H fa = none ∧ Same H H' ∧ H' fa = some (.lst (nss.flatten.map V.int)), ?_, ?_⟩
    · refine ⟨_, rfl, a, rfl, ⟨_, SqT.of (t0 _ _ ea)⟩, for_it walk_tup (fun n σ H' => ∃ fa v2, σ = [some (.ref a), some (.ref fa), v2] ∧ H fa = none ∧ Same H H' ∧ H' fa = some (.lst ((nss.take n).flatten.map V.int)))
        ⟨f0, none, rfl, hf0, t0, upd_same⟩ (fun j σ H' _ q' => SqT.of (q'.elim fun fa q => q.elim fun v2 q => q.2.2.1 _ _ ea)) ?_ fun σ H' q' => ?_⟩
      · rintro n x σ H1 H2 hn ⟨fa, v2, rfl, ff, sm, hf⟩ ⟨rfl, hx⟩
        obtain ⟨b, ns, rfl, hns, eb⟩ := rows.2 n x hx
        refine ⟨_, rfl, _, rfl, b, _, rfl, .inr (SqT.of (sm _ _ eb)), fun l hl => ?_⟩
        have t1 := Same.new (o := .lst (ns.map V.int)) hl
        have l1 : (nss.take n).flatten.length ≤ 256 := by
          rw [flat_len (w := wn) fun r hr => pn.ws r (List.mem_of_mem_take hr)]
          exact Nat.mul_le_mul (Nat.le_trans (by rw [List.length_take]; exact Nat.min_le_right _ _) pn.h2) pn.w2
        have l2 : ns.length ≤ 16 := by rw [pn.ws ns (List.mem_of_getElem? hns)]; exact pn.w2
        refine ⟨fa, l, _, _, rfl, rfl, t1 _ _ hf, upd_same, ?_, fun g hg => ?_⟩
        · rw [List.length_map, List.length_map]
          exact Nat.le_trans (show _ ≤ 300 by omega) (by decide)
        · refine ⟨g, _, rfl, (sm.trans t1).free hg, (sm.trans t1).trans (Same.new hg), ?_⟩
          rw [upd_same, take_flat hns, List.map_append]
      · obtain ⟨fa, v2, rfl, ff, sm, hf⟩ := q'
        rw [List.take_of_length_le (by rw [rows.1]; exact Nat.le_refl _)] at hf
        exact ⟨fa, v2, rfl, ff, sm, hf⟩
    · rintro σ' H1 ⟨fa, v2, rfl, ff, sm, hf⟩
      exact ⟨_, rfl, k fa H1 sm ff hf⟩
theorem ok_says : FnOk P w K mg base (L2.CX P w) 1 T._law_says.a T._law_says.d ["found", "due"] spSays := by
  refine T._law_says.f.okX sc__law_says (fun vs H Q E h => ?_) (fun cdv A outer s H vs Q E hr h => ?_)
  · obtain ⟨a, b, rfl, _⟩ := h
    rfl
  · obtain ⟨a, b, rfl, k⟩ := h
    refine ⟨_, pss_one (ps_ret (pe_ifExp (pt_val (pv 1)) (pe_cmpR op_isB (pv 0) pe_bl (nomark _)) (pe_cmpR op_isB (pv 0) pe_bl (nomark _)))), ?_⟩
    refine ⟨_, rfl, _, rfl, ?_⟩
    cases b
    · exact iteF ⟨_, rfl, _, _, rfl, rfl, k⟩
    · exact iteT ⟨_, rfl, _, _, rfl, rfl, k⟩
theorem ok_figure : FnOk P w K mg base (L2.CX P w) 2 T._law_figure.a T._law_figure.d ["state", "fashion"] spFigure := by
  refine T._law_figure.f.okX sc__law_figure (fun vs H Q E h => ?_) (fun cdv A outer s H vs Q E hr h => ?_)
  · obtain ⟨st, lg, cl, f, m, rfl, _⟩ := h
    rfl
  · obtain ⟨st, lg, cl, f, m, rfl, hf, hm, S, k⟩ := h
    refine ⟨_, pss_cons (ps_set (i := 2) sc__law_figure.nd rfl (.inl rfl) (pe_ix ix_list (pe_lst (pa_cons pe_int (pa_cons pe_int (pa_cons (pe_op op_sub (pe_op op_pow pe_int pe_int) pe_int) pa_nil)))) (pv 1) (fun _ _ => rfl)))
      (pss_one (ps_ret (pe_op op_sub (pe_call (ok_draw T) hr (by rfl) T._law_draw.m T._law_draw.f.kp (bd__law_draw T) .nil passE (pa_cons (pv 0) (pa_cons (pe_op op_add (pe_op op_mul pe_int (pv 2)) pe_int) pa_nil))) (pv 2)))), ?_⟩
    refine ⟨_, _, rfl, rfl, ⟨by decide, by decide, by decide⟩, _, _, rfl, rfl, (by show 3 ≤ sizeLine; decide), fun p hp => ?_⟩
    have S1 := S.same (Same.new (o := .lst [V.int 9, .int 1023, .int (10 ^ (11 : Int).toNat - 1)]) hp)
    obtain ⟨z, hz, z0, z1⟩ : ∃ z : Nat, [V.int 9, V.int 1023, V.int ((10 : Int) ^ (11 : Int).toNat - 1)][f]? = some (.int z) ∧ 1 ≤ z ∧ z < 2 ^ 40 := by
      match f, hf with
      | 0, _ => exact ⟨9, rfl, by decide, by decide⟩
      | 1, _ => exact ⟨1023, rfl, by decide, by decide⟩
      | 2, _ => exact ⟨10 ^ 11 - 1, rfl, by decide, by decide⟩
    refine ⟨_, rfl, p, _, _, .int z, rfl, rfl, SqL.of upd_same, atI_nat hz, ?_⟩
    refine ⟨_, rfl, _, rfl, _, _, rfl, rfl, .inl ⟨by decide, by decide⟩, _, _, rfl, rfl, st, lg, cl, 2 * z + 1, m, ?_, by omega, ?_, by omega, S1, fun r H1 hr1 S2 kp => ?_⟩
    · rw [Int.natCast_add, Int.natCast_mul]
      rfl
    · exact Nat.lt_of_le_of_lt (show _ ≤ 2 ^ 42 by omega) (by decide)
    · exact ⟨_, rfl, _, _, rfl, rfl, k _ _ S2 ((Kp.same (Same.new hp)).trans kp)⟩
theorem ok_sizes : FnOk P w K mg base (L2.CX P w) 2 T._law_sizes.a T._law_sizes.d ["state", "cap"] spSizes := by
  refine T._law_sizes.f.okX sc__law_sizes (fun vs H Q E h => ?_) (fun cdv A outer s H vs Q E hr h => ?_)
  · obtain ⟨st, lg, cl, c, m, rfl, _⟩ := h
    rfl
  · obtain ⟨st, lg, cl, c, m, rfl, hc, hm, S, k⟩ := h
    refine ⟨_, pss_cons (ps_set (i := 2) sc__law_sizes.nd rfl (.inl rfl) (pe_op op_add pe_int (pe_call (ok_draw T) hr (by rfl) T._law_draw.m T._law_draw.f.kp (bd__law_draw T) .nil passE (pa_cons (pv 0) (pa_cons pe_int pa_nil)))))
      (pss_cons (ps_set (i := 3) sc__law_sizes.nd rfl (.inl rfl) (pe_op op_add pe_int (pe_call (ok_draw T) hr (by rfl) T._law_draw.m T._law_draw.f.kp (bd__law_draw T) .nil passE (pa_cons (pv 0) (pa_cons pe_int pa_nil)))))
      (pss_cut (ps_while (passes_of rfl) (pt_cmpR op_gt (pe_op op_mul (pv 2) (pv 3)) (pv 1) (nomark _))
        (pss_one (ps_if (pt_cmpR op_ge (pv 2) (pv 3) (nomark _))
          (pss_one (ps_set (i := 2) sc__law_sizes.nd rfl (.inl rfl) (pe_op op_fdiv (pe_op op_add (pv 2) pe_int) pe_int)))
          (pss_one (ps_set (i := 3) sc__law_sizes.nd rfl (.inl rfl) (pe_op op_fdiv (pe_op op_add (pv 3) pe_int) pe_int))))))
      (pss_one (ps_ret (pe_tup (pa_cons (pv 2) (pa_cons (pv 3) pa_nil))))))), ?_⟩
    refine ⟨_, rfl, st, lg, cl, 16, m, rfl, by decide, by decide, by omega, S, fun r1 H1 hr1 S1 kp1 => ⟨_, _, rfl, rfl, _, rfl, st, lg, cl, 16, m + 1, rfl, by decide, by decide, by omega, S1, fun r2 H2 hr2 S2 kp2 => ⟨_, _, rfl, rfl, ?_⟩⟩⟩
    dsimp only
    rw [show (1 : Int) + ((r1 : Nat) : Int) = ((r1 + 1 : Nat) : Int) by omega, show (1 : Int) + ((r2 : Nat) : Int) = ((r2 + 1 : Nat) : Int) by omega]
    obtain ⟨x, hx⟩ : ∃ x, x = r1 + 1 := ⟨_, rfl⟩
    obtain ⟨y, hy⟩ : ∃ y, y = r2 + 1 := ⟨_, rfl⟩
    rw [← hx, ← hy]
    have kk := kp1.trans kp2
    refine ⟨fun σ' H' => ∃ h w : Nat, σ' = [some (.ref st), some (.int c), some (.int h), some (.int w)] ∧ 1 ≤ h ∧ h ≤ 16 ∧ 1 ≤ w ∧ w ≤ 16 ∧ H2 = H', ?_, ?_⟩
    · refine ⟨fun μ σ' H' => ∃ h w : Nat, μ = h + w ∧ σ' = [some (.ref st), some (.int c), some (.int h), some (.int w)] ∧ 1 ≤ h ∧ h ≤ 16 ∧ 1 ≤ w ∧ w ≤ 16 ∧ H2 = H', ⟨x + y, x, y, rfl, rfl, by omega, by omega, by omega, by omega, rfl⟩, ?_⟩
      rintro μ σ' H' ⟨h, w, rfl, rfl, h1, h2, w1, w2, rfl⟩
      refine ⟨_, rfl, _, rfl, _, _, rfl, rfl, .inl ⟨by omega, by omega⟩, _, rfl, _, _, rfl, rfl, _, rfl, ?_⟩
      by_cases g : ((c : Nat) : Int) < ((h : Nat) : Int) * ((w : Nat) : Int)
      · rw [decide_eq_true g]
        refine iteT ⟨fun σ' H' => ∃ h' w' : Nat, h' + w' < h + w ∧ σ' = [some (.ref st), some (.int c), some (.int h'), some (.int w')] ∧ 1 ≤ h' ∧ h' ≤ 16 ∧ 1 ≤ w' ∧ w' ≤ 16 ∧ H2 = H', fun σ' H' ⟨h', w', l, r⟩ => ⟨h' + w', l, h', w', rfl, r⟩, ?_⟩
        refine ⟨_, rfl, _, rfl, _, _, rfl, rfl, _, rfl, ?_⟩
        by_cases c1 : w ≤ h
        · rw [decide_eq_true (show ((w : Nat) : Int) ≤ ((h : Nat) : Int) by omega)]
          have h3 : 2 ≤ h := by
            rcases Nat.lt_or_ge h 2 with z | z
            · have e1 : h = 1 := by omega
              have e2 : w = 1 := by omega
              subst e1 e2
              omega
            · exact z
          refine iteT ⟨_, rfl, _, _, rfl, rfl, _, _, rfl, rfl, ⟨by decide, by decide⟩, ?_⟩
          refine ⟨(h + 1) / 2, w, by omega, ?_, by omega, by omega, w1, w2, rfl⟩
          rfl
        · rw [decide_eq_false (show ¬ ((w : Nat) : Int) ≤ ((h : Nat) : Int) by omega)]
          refine iteF ⟨_, rfl, _, _, rfl, rfl, _, _, rfl, rfl, ⟨by decide, by decide⟩, ?_⟩
          refine ⟨h, (w + 1) / 2, by omega, ?_, h1, h2, by omega, by omega, rfl⟩
          rfl
      · rw [decide_eq_false g]
        exact iteF ⟨h, w, rfl, h1, h2, w1, w2, rfl⟩
    · rintro σ' H' ⟨h, w, rfl, h1, h2, w1, w2, rfl⟩
      refine ⟨_, rfl, _, rfl, (by show 2 ≤ sizeLine; decide), fun p hp => ?_⟩
      have t := Same.new (o := .tup [V.int ((h : Nat) : Int), .int ((w : Nat) : Int)]) hp
      exact k h w p _ h1 h2 w1 w2 upd_same (S2.same t) (kk.trans (Kp.same t))
theorem ok_dots : FnOk P w K mg base (L2.CX P w) 1 T._law_all_dots.a T._law_all_dots.d ["tall", "wide"] spDots := by
  refine T._law_all_dots.f.okX sc__law_all_dots (fun vs H Q E h => ?_) (fun cdv A outer s H vs Q E hr h => ?_)
  · obtain ⟨h, w, rfl, _⟩ := h
    rfl
  · obtain ⟨h, wn, rfl, h2, w2, k⟩ := h
    refine ⟨_, pss_cons (ps_set (i := 2) sc__law_all_dots.nd rfl (.inl rfl) (pe_lst pa_nil))
      (pss_cut (ps_for (passes_of rfl) rfl (pi_range1 (by rfl) T.b_range (pa_cons (pv 0) pa_nil)) (pg_name (i := 3) sc__law_all_dots.nd rfl (by first | exact .inl rfl | exact .inr rfl))
        (pss_one (ps_set (i := 2) sc__law_all_dots.nd rfl (.inl rfl) (pe_op op_cat (pv 2) (pe_lc (own := [("across", 4)]) (g := gName 4) (tt := tYes) rfl sc__law_all_dots.nd (pi_range1 (by rfl) T.b_range (pa_cons (pv 1) pa_nil))
          (blkOk_by (own := [("across", 4)]) (N := ["tall", "wide", "found", "down", "across"]) (sc := defScope s__law_all_dots) (by decide +kernel)) (fun _ _ _ _ _ => pg_name (i := 4) sc__law_all_dots.nd rfl (Or.inl rfl)) (fun _ _ _ _ _ => pts_nil) (fun _ _ _ _ _ => pe_tup (pa_cons (pv 3) (pa_cons (pv 4) pa_nil))))))))
      (pss_one (ps_ret (pv 2)))), ?_⟩
    refine ⟨(by show 0 ≤ sizeLine; decide), fun f0 hf0 => ?_⟩
    have t0 := Same.new (o := .lst []) hf0
    refine ⟨fun σ' H' => ∃ fa us v3, σ' = [some (.int h), some (.int wn), some (.ref fa), v3, none] ∧ H fa = none ∧ Same H H' ∧ H' fa = some (.lst us) ∧ DL H' us (dotsL h wn), ?_, ?_⟩
    · refine ⟨_, rfl, _, rfl, by omega, by omega, for_it walk_range (fun n σ H' => ∃ fa us v3, σ = [some (.int h), some (.int wn), some (.ref fa), v3, none] ∧ H fa = none ∧ Same H H' ∧ H' fa = some (.lst us) ∧ DL H' us (dotsL n wn))
        ⟨f0, [], none, rfl, hf0, t0, upd_same, .nil⟩ (fun _ _ _ _ _ => trivial) ?_ fun σ H' q' => ?_⟩
      · rintro n x σ H1 H2 hn ⟨fa, us, v3, rfl, ff, sm, hf, dl⟩ ⟨rfl, rfl⟩
        have hn : n < h := by omega
        refine ⟨_, rfl, _, rfl, _, rfl, by omega, by omega, fun D hD => lc_it walk_range (fun i H' => ∃ ws, Same H2 H' ∧ H' D = some (.lst ws) ∧ DL H' ws ((List.range i).map fun x => (n, x))) ⟨[], Same.new hD, upd_same, .nil⟩ (fun _ _ _ _ => trivial) ?_ ?_⟩
        · rintro i x H3 H4 hi ⟨ws, a1, a2, a3⟩ ⟨rfl, rfl⟩
          have hi : i < wn := by omega
          refine ⟨rfl, ?_⟩
          dsimp only [tYes]
          rw [if_pos rfl]
          refine ⟨_, rfl, _, rfl, (by show 2 ≤ sizeLine; decide), fun l hl => ?_⟩
          have t1 := Same.new (o := .tup [V.int (0 + ((n : Nat) : Int)), .int (0 + ((i : Nat) : Int))]) hl
          refine ⟨ws, t1 _ _ a2, ?_, ws ++ [.ref l], Same.put (a1.trans t1) hD, upd_same, ?_⟩
          · rw [a3.len, List.length_map, List.length_range]
            exact Nat.lt_of_le_of_lt (show i ≤ 16 by omega) (by decide)
          · rw [List.range_succ, List.map_append]
            refine DL.put ((a3.same t1).append (.cons ?_ .nil)) (t1 _ _ a2)
            rw [upd_same]
            dsimp only
            rw [show (0 : Int) + ((n : Nat) : Int) = ((n : Nat) : Int) by omega, show (0 : Int) + ((i : Nat) : Int) = ((i : Nat) : Int) by omega]
        · rintro H3 ⟨ws, a1, a2, a3⟩
          rw [Int.toNat_natCast] at a3
          refine ⟨fa, D, us, ws, rfl, rfl, a1 _ _ hf, a2, ?_, fun g hg => ?_⟩
          · rw [dl.len, a3.len, dotsL_len, List.length_map, List.length_range]
            have : n * wn ≤ 16 * 16 := Nat.mul_le_mul (by omega) w2
            exact Nat.le_trans (show _ ≤ 300 by omega) (by decide)
          · have t2 := Same.new (o := .lst (us ++ ws)) hg
            refine ⟨g, us ++ ws, _, rfl, (sm.trans a1).free hg, (sm.trans a1).trans t2, upd_same, ?_⟩
            rw [dotsL_succ]
            exact ((dl.same a1).append a3).same t2
      · obtain ⟨fa, us, v3, rfl, ff, sm, hf, dl⟩ := q'
        rw [Int.toNat_natCast] at dl
        exact ⟨fa, us, v3, rfl, ff, sm, hf, dl⟩
    · rintro σ' H1 ⟨fa, us, v3, rfl, ff, sm, hf, dl⟩
      exact ⟨_, rfl, k fa us H1 sm ff hf dl⟩
end
end K16
namespace K16
open PySem PySem.Spec PyProof.Rows L2 PySem.W LamX KA KW KU KL KT KDT
open Evl (pss_cut tCut)
/-! ### the law's own judgement of panes -/
section
variable {P : Program} {w : World} {K : PySem.W.Frag} {mg : Str → Option Value} {base : Heap} (T : Top K mg)
theorem ok_is_pane : FnOk P w K mg base (L2.CX P w) 3 T._law_is_pane.a T._law_is_pane.d ["item"] (spRows K) := by
  refine T._law_is_pane.f.okX sc__law_is_pane (fun vs H Q E h => ?_) (fun cdv A outer s H vs Q E hr h => ?_)
  · obtain ⟨x, o, rfl, _⟩ := h
    rfl
  · obtain ⟨x, o, rfl, hp, k⟩ := h
    refine ⟨_, pss_cons (ps_if (PW.pt (pw_or (pt_not (pt_val (pe_callB call_isi (by rfl) T.b_isinstance PyProof.Rows.boot_isinstance (pa_cons (pv 0) (pa_cons (pe_bltn (v := .ty "tuple") (by rfl) T.b_tuple (by decide +kernel) rfl) pa_nil)))))
        (pw_or1 (pt_not (pt_chain op_le op_le pe_int (pe_callB call_len_seq (by rfl) T.b_len PySem.boot_len (pa_cons (pv 0) pa_nil)) pe_int)))))
        (pss_one (ps_ret pe_bl)) pss_nil)
      (pss_cons (ps_for (passes_of rfl) rfl (pi_tup (pv 0)) (pg_name (i := 1) sc__law_is_pane.nd rfl (.inl rfl))
        (pss_cons (ps_if (PW.pt (pw_or (pt_not (pt_val (pe_callB call_isi (by rfl) T.b_isinstance PyProof.Rows.boot_isinstance (pa_cons (pv 1) (pa_cons (pe_bltn (v := .ty "tuple") (by rfl) T.b_tuple (by decide +kernel) rfl) pa_nil)))))
          (pw_or (pt_cmpR op_ne (pe_callB call_len_seq (by rfl) T.b_len PySem.boot_len (pa_cons (pv 1) pa_nil)) (pe_callB call_len_seq (by rfl) T.b_len PySem.boot_len (pa_cons (pe_ix ix_tup (pv 0) pe_int (fun _ _ => rfl)) pa_nil)) (nomark _))
          (pw_or1 (pt_not (pt_chain op_le op_le pe_int (pe_callB call_len_seq (by rfl) T.b_len PySem.boot_len (pa_cons (pv 1) pa_nil)) pe_int))))))
          (pss_one (ps_ret pe_bl)) pss_nil)
        (pss_one (ps_if (pt_not (pt_val (pe_callB (cr_all rfl) (by rfl) T.b_all (by decide +kernel) (pa_cons (pe_lc (own := [("each", 2)]) (g := gName 2) (tt := tYes) rfl sc__law_is_pane.nd (pi_tup (pv 1)) (blkOk_by (own := [("each", 2)]) (N := ["item", "line", "each"]) (sc := defScope s__law_is_pane) (by decide +kernel))
            (fun _ _ _ _ _ => pg_name (i := 2) sc__law_is_pane.nd rfl (Or.inl rfl)) (fun _ _ _ _ _ => pts_nil) (fun _ _ _ _ _ => pe_call (ok_whole T) (hr.mono (by decide)) (by rfl) T._law_is_whole.m T._law_is_whole.f.kp (bd__law_is_whole T) .nil passE (pa_cons (pv 2) pa_nil))) pa_nil))))
          (pss_one (ps_ret pe_bl)) pss_nil))))
      (pss_one (ps_ret pe_bl))), ?_⟩
    cases hp with
    | no hn =>
      obtain ⟨t, ht, h1⟩ := hn.ty (K := K)
      refine ⟨_, rfl, x, _, _, _, _, rfl, .ty "tuple", ht, kit_ty h1, _, rfl, ?_⟩
      exact iteT (iteT (k H fun _ _ e => e))
    | tup e p l =>
      rename_i a xs os
      refine ⟨_, rfl, _, _, _, _, true, rfl, .ty "tuple", .base (.tup e), kit_ty (by decide +kernel), _, rfl, iteF ⟨_, rfl, a, xs, rfl, .inr (SqT.of e), 1, ((xs.length : Nat) : Int), rfl, rfl, _, rfl, ?_⟩⟩
      have hlen := p.1
      have go : ∀ c1 c2 : Bool, c1 = decide ((1 : Int) ≤ ((xs.length : Nat) : Int)) → c2 = decide (((xs.length : Nat) : Int) ≤ 16) → rowsB (some os) = (c1 && c2 && os.all (okAs (width0 os))) := fun c1 c2 e1 e2 => by
        subst e1 e2
        show (decide (1 ≤ os.length) && decide (os.length ≤ 16) && os.all (okAs (width0 os))) = _
        congr 1
        congr 1 <;> exact decide_eq_decide.mpr (by omega)
      by_cases c1 : (1 : Int) ≤ ((xs.length : Nat) : Int)
      case neg =>
        rw [decide_eq_false c1]
        refine iteF ⟨_, rfl, ?_⟩
        refine iteT ?_
        exact q_bl (k H fun _ _ e => e) (by rw [go false _ (decide_eq_false c1).symm rfl]; rfl)
      rw [decide_eq_true c1]
      refine iteT ⟨((xs.length : Nat) : Int), 16, rfl, rfl, _, rfl, ?_⟩
      by_cases c2 : ((xs.length : Nat) : Int) ≤ 16
      case neg =>
        rw [decide_eq_false c2]
        refine iteT ?_
        exact q_bl (k H fun _ _ e => e) (by rw [go true false (decide_eq_true c1).symm (decide_eq_false c2).symm]; rfl)
      rw [decide_eq_true c2]
      have go' : rowsB (some os) = os.all (okAs (width0 os)) := by rw [go true true (decide_eq_true c1).symm (decide_eq_true c2).symm]; rfl
      clear go
      refine iteF ?_
      refine ⟨_, rfl, a, rfl, ⟨_, SqT.of e⟩, for_tup (K := K) (a := a) (xs := xs) (fun i σ H' => (∃ v1, σ = [some (.ref a), v1, none]) ∧ Same H H' ∧ (os.take i).all (okAs (width0 os)) = true) ⟨⟨none, rfl⟩, fun _ _ e => e, rfl⟩ (fun i σ H' _ h => SqT.of (h.2.1 _ _ e)) ?_ ?_⟩
      · rintro i x σ H' hx ⟨⟨v1, rfl⟩, sm, ht⟩
        obtain ⟨o, ho, hr2⟩ := p.2 i x hx
        have hr3 := hr2.keep sm
        have bad : ∀ H2, Same H' H2 → okAs (width0 os) o = false → Q (.bl false) H2 := fun H2 sm2 z => q_bl (k H2 (sm.trans sm2)) (by rw [go', all_false ho z])
        have id' : Same H' H' := fun _ _ e => e
        cases hr3 with
        | no hn =>
          obtain ⟨t, ht2, h1⟩ := hn.ty (K := K)
          exact ⟨_, rfl, x, _, _, _, _, rfl, .ty "tuple", ht2, kit_ty h1, _, rfl, iteT (iteT (bad H' id' rfl))⟩
        | tup eb pb lb =>
          rename_i b ys
          refine ⟨_, rfl, _, _, _, _, true, rfl, .ty "tuple", .base (.tup eb), kit_ty (by decide +kernel), _, rfl, iteF ?_⟩
          obtain ⟨v0, hv0⟩ : ∃ v0, xs[0]? = some v0 := ⟨_, List.getElem?_eq_getElem (by omega)⟩
          obtain ⟨o0, ho0, hr0⟩ := p.2 0 v0 hv0
          have hs0 : ∃ zs, o0 = some zs := by
            cases i with
            | zero =>
              rw [ho] at ho0
              exact ⟨ys, (Option.some.inj ho0).symm⟩
            | succ i =>
              rw [List.all_eq_true] at ht
              have hm : o0 ∈ os.take (i + 1) := List.mem_of_getElem? (i := 0) (by rw [List.getElem?_take]; simpa using ho0)
              have := ht o0 hm
              simp only [okAs, Bool.and_eq_true] at this
              obtain ⟨zs, h, _⟩ := rowB_some this.1
              exact ⟨zs, h⟩
          obtain ⟨zs, rfl⟩ := hs0
          have hw0 : width0 os = zs.length := by
            cases os with
            | nil => cases ho0
            | cons o1 os =>
              have : o1 = some zs := by simpa using ho0
              subst this
              rfl
          have hr0' := hr0.keep sm
          cases hr0' with
          | tup e0 p0 l0 =>
            refine ⟨_, rfl, _, ys, rfl, .inr (SqT.of eb), _, rfl, a, xs, 0, _, rfl, rfl, SqT.of (sm _ _ e), atI_nat (j := 0) hv0, _, zs, rfl, .inr (SqT.of e0), ?_⟩
            refine ⟨rfl, _, rfl, ?_⟩
            rw [dec_int]
            by_cases c : ys.length = zs.length
            case neg =>
              rw [show (((ys.length : Nat) : Int) == ((zs.length : Nat) : Int)) = false from beq_eq_false_iff_ne.mpr (by omega)]
              refine iteT (iteT (bad H' id' ?_))
              simp [okAs, hw0, c]
            rw [show (((ys.length : Nat) : Int) == ((zs.length : Nat) : Int)) = true by simp [c]]
            have gr : ∀ c1 c2 : Bool, c1 = decide ((1 : Int) ≤ ((ys.length : Nat) : Int)) → c2 = decide (((ys.length : Nat) : Int) ≤ 16) → okAs (width0 os) (some ys) = (c1 && c2 && ys.all isNum) := fun c1 c2 e1 e2 => by
              subst e1 e2
              show ((decide (1 ≤ ys.length) && decide (ys.length ≤ 16) && ys.all isNum) && (ys.length == width0 os)) = _
              rw [hw0, c]
              rw [beq_self_eq_true, Bool.and_true, ← c]
              congr 1
              congr 1 <;> exact decide_eq_decide.mpr (by omega)
            refine iteF ⟨_, rfl, b, ys, rfl, .inr (SqT.of eb), 1, ((ys.length : Nat) : Int), rfl, rfl, _, rfl, ?_⟩
            by_cases d1 : (1 : Int) ≤ ((ys.length : Nat) : Int)
            case neg =>
              rw [decide_eq_false d1]
              exact iteF ⟨_, rfl, iteT (bad H' id' (by rw [gr false _ (decide_eq_false d1).symm rfl]; rfl))⟩
            rw [decide_eq_true d1]
            refine iteT ⟨((ys.length : Nat) : Int), 16, rfl, rfl, _, rfl, ?_⟩
            by_cases d2 : ((ys.length : Nat) : Int) ≤ 16
            case neg =>
              rw [decide_eq_false d2]
              exact iteT (bad H' id' (by rw [gr true false (decide_eq_true d1).symm (decide_eq_false d2).symm]; rfl))
            rw [decide_eq_true d2]
            have gr' : okAs (width0 os) (some ys) = ys.all isNum := by rw [gr true true (decide_eq_true d1).symm (decide_eq_true d2).symm]; rfl
            refine iteF ⟨_, rfl, b, rfl, ⟨_, SqT.of eb⟩, fun D hD => lc_tup (K := K) (a := b) (xs := ys) (fun i H2 => H2 D = some (.lst (((ys.take i).map isNum).map V.bl)) ∧ Same H' H2) ⟨upd_same, Same.new hD⟩ (fun i H2 _ h => SqT.of (h.2 _ _ eb)) ?_ ?_⟩
            · rintro i x H2 hx ⟨h1, h2⟩
              refine ⟨rfl, ?_⟩
              dsimp only [tYes]
              rw [if_pos rfl]
              obtain ⟨bb, hb⟩ := pb x (List.mem_of_getElem? hx)
              refine ⟨_, rfl, x, bb, rfl, hb.keep h2, _, h1, ?_, ?_, ?_⟩
              · rw [List.length_map, List.length_map, List.length_take]
                exact Nat.lt_of_le_of_lt (Nat.min_le_right _ _) (Nat.lt_of_le_of_lt lb (by decide))
              · rw [upd_same, take_map_snoc' _ _ _ _ hx, hb.num]
              · intro b' o e'
                rw [upd_ne (ne_of_none e' hD)]
                exact h2 b' o e'
            · rintro H2 ⟨h1, h2⟩
              rw [List.take_length] at h1
              refine ⟨D, _, rfl, SqL.of h1, _, rfl, ?_⟩
              have ea : (ys.map isNum).any id = (ys.map isNum).any id := rfl
              cases hall : ys.all isNum
              · rw [show (List.map isNum ys).all id = false by rw [List.all_map]; exact hall]
                exact iteT (bad H2 h2 (by rw [gr', hall]))
              · rw [show (List.map isNum ys).all id = true by rw [List.all_map]; exact hall]
                exact iteF ⟨⟨_, rfl⟩, sm.trans h2, all_take_succ ho ht (by rw [gr', hall])⟩
      · rintro σ H' ⟨⟨v1, rfl⟩, sm, ht⟩
        rw [hlen, List.take_length] at ht
        exact q_bl (k H' sm) (by rw [go', ht])
end
end K16
namespace K16
open PySem PySem.Spec PyProof.Rows L2 PySem.W LamX KA KW KU KL KT KDT
open Evl (pss_cut tCut)
/-! ### tuples cut and joined -/
/-- tuples stay -/
def Tp (H H' : Hp) : Prop := ∀ b xs, H b = some (.tup xs) → H' b = some (.tup xs)
theorem Tp.same {H H' : Hp} (s : Same H H') : Tp H H' := fun b xs e => s _ _ e
theorem Tp.trans {H H1 H2 : Hp} (a : Tp H H1) (b : Tp H1 H2) : Tp H H2 := fun c xs e => b _ _ (a _ _ e)
theorem Tp.kp {st lg cl : Addr} {m : Nat} {H H' : Hp} (S : StAt H st lg cl m) (k : Kp st lg H H') : Tp H H' := fun b xs e => by
  obtain ⟨_, _, _, _, s, _⟩ := S
  exact k _ _ e (ne_of e s.d (by intro z; cases z)) (ne_of e s.l (by intro z; cases z))
theorem cat_any {K : PySem.W.Frag} {a b : Addr} {xs ys : List V} {H : Hp} {Q : VK} (ea : H a = some (.tup xs)) (eb : H b = some (.tup ys)) (l : xs.length + ys.length ≤ 4000) (k : ∀ c H', Same H H' → H' c = some (.tup (xs ++ ys)) → Q (.ref c) H') : rCatA K (.ref a) (.ref b) H Q := by
  refine ⟨a, b, xs, ys, rfl, rfl, SqT.of ea, SqT.of eb, Nat.le_trans l (by decide), fun z => ?_, fun _ z => ?_, fun _ _ p hp => k p _ (Same.new hp) upd_same⟩
  · exact k b H (fun _ _ e => e) (by rw [z, List.nil_append]; exact eb)
  · exact k a H (fun _ _ e => e) (by rw [z, List.append_nil]; exact ea)
theorem cut_take {xs : List V} {t : Nat} (h : t ≤ xs.length) : cutV xs none (some (t : Int)) = xs.take t := by
  unfold cutV
  rw [HT.sIx_none, HT.sIx_nat, Nat.min_eq_left h]
  rfl
theorem cut_drop {xs : List V} {t : Nat} (h : t ≤ xs.length) : cutV xs (some (t : Int)) none = xs.drop t := by
  unfold cutV
  rw [HT.sIx_none, HT.sIx_nat, Nat.min_eq_left h]
  rw [List.take_of_length_le]
  rw [List.length_drop]
  exact Nat.le_refl _
theorem take_any {K : PySem.W.Frag} {a : Addr} {xs : List V} {t : Nat} {H : Hp} {Q : VK} (ea : H a = some (.tup xs)) (h : t ≤ xs.length) (k : ∀ c H', Same H H' → H' c = some (.tup (xs.take t)) → Q (.ref c) H') : rSlA K (.ref a) none (some (t : Int)) H Q := by
  refine ⟨a, xs, rfl, SqT.of ea, fun z => ?_, fun _ p hp => k p _ (Same.new hp) (by rw [upd_same, cut_take h])⟩
  refine k a H (fun _ _ e => e) ?_
  have := z.2
  rw [HT.sIx_nat, Nat.min_eq_left h] at this
  rw [this, List.take_length]
  exact ea
theorem drop_any {K : PySem.W.Frag} {a : Addr} {xs : List V} {t : Nat} {H : Hp} {Q : VK} (ea : H a = some (.tup xs)) (h : t ≤ xs.length) (k : ∀ c H', Same H H' → H' c = some (.tup (xs.drop t)) → Q (.ref c) H') : rSlA K (.ref a) (some (t : Int)) none H Q := by
  refine ⟨a, xs, rfl, SqT.of ea, fun z => ?_, fun _ p hp => k p _ (Same.new hp) (by rw [upd_same, cut_drop h])⟩
  refine k a H (fun _ _ e => e) ?_
  have := z.1
  rw [HT.sIx_nat, Nat.min_eq_left h] at this
  rw [this, List.drop_zero]
  exact ea
/-- t[:j] + (v,) + t[j + 1:] -/
theorem bend_read {K : PySem.W.Frag} {σ : L2.St} {i j : Nat} {a : Addr} {vs : List V} {t : Nat} {tm : TE} {H : Hp} {Q : VK} (e0 : σ[i]? = some (some (.ref a))) (e1 : σ[j]? = some (some (.int (t : Nat)))) (ea : H a = some (.tup vs)) (ht : t < vs.length) (hl : vs.length ≤ 1000)
    (h : ∀ H1, Same H H1 → ∀ G : VK, (∀ (v : V) (H2 : Hp), Tp H1 H2 → (∀ p H3, Same H2 H3 → H3 p = some (.tup (vs.take t ++ v :: vs.drop (t + 1))) → Q (.ref p) H3) → G v H2) → tm σ H1 G) :
    tOp (rCatA K) (tOp (rCatA K) (tSl (rSlA K) (tVar i) tNoPart (tPart (tVar j))) (tTup (tCons tm tNil))) (tSl (rSlA K) (tVar i) (tPart (tOp (rI0 fun i j => .int (i + j)) (tVar j) (tC (.int 1)))) tNoPart) σ H Q := by
  refine ⟨_, e0, _, e1, _, rfl, take_any ea (Nat.le_of_lt ht) fun c1 H1 s1 l1 => ?_⟩
  refine h H1 s1 _ fun v H2 tp hq => ?_
  refine ⟨(by show 1 ≤ sizeLine; decide), fun c2 hc2 => ?_⟩
  have s2 := Same.new (o := .tup [v]) hc2
  refine cat_any (s2 _ _ (tp _ _ l1)) upd_same (by rw [List.length_take]; show _ + 1 ≤ _; omega) fun c3 H3 s3 l3 => ?_
  have s23 := s2.trans s3
  refine ⟨_, e0, _, e1, _, _, rfl, rfl, _, rfl, ?_⟩
  dsimp only
  rw [show ((t : Nat) : Int) + 1 = ((t + 1 : Nat) : Int) by omega]
  show rSlA K (V.ref a) (some ((t + 1 : Nat) : Int)) none H3 (fun y H2 => rCatA K (V.ref c3) y H2 Q)
  refine drop_any (s23 _ _ (tp _ _ (s1 _ _ ea))) ht fun c4 H4 s4 l4 => ?_
  refine cat_any (s4 _ _ l3) l4 (by rw [List.length_append, List.length_take, List.length_drop]; show _ + 1 + _ ≤ _; omega) fun c5 H5 s5 l5 => ?_
  refine hq c5 H5 ((s23.trans s4).trans s5) ?_
  rw [l5, List.append_assoc]
  rfl
/-- items that are rows of any kind -/
def LineOk (K : PySem.W.Frag) (H : Hp) (v : V) : Prop := ∃ o, Rw K H v o
theorem LineOk.keep {K : PySem.W.Frag} {H H' : Hp} {v : V} (h : LineOk K H v) (s : Same H H') : LineOk K H' v := h.imp fun o q => q.keep s
theorem rws_of {K : PySem.W.Frag} {H : Hp} : ∀ {vs : List V}, (∀ v ∈ vs, LineOk K H v) → ∃ os, Rws K H vs os
  | [], _ => ⟨[], rfl, fun i v e => by simp at e⟩
  | v :: vs, h => by
    obtain ⟨os, r⟩ := rws_of fun x hx => h x (List.mem_cons_of_mem _ hx)
    obtain ⟨o, q⟩ := h v List.mem_cons_self
    refine ⟨o :: os, by simp [r.1], fun i x e => ?_⟩
    cases i with
    | zero =>
      have : v = x := by simpa using e
      subst this
      exact ⟨o, rfl, q⟩
    | succ i => exact r.2 i x (by simpa using e)
def ThOk (K : PySem.W.Frag) (H : Hp) (v : V) : Prop := ∃ o, Th K H v o
theorem th_of {K : PySem.W.Frag} {H : Hp} {a : Addr} {vs : List V} (e : H a = some (.tup vs)) (l : vs.length ≤ 1000) (h : ∀ v ∈ vs, LineOk K H v) : ThOk K H (.ref a) := by
  obtain ⟨os, r⟩ := rws_of h
  exact ⟨some os, .tup e r l⟩
theorem line_ints {K : PySem.W.Frag} {H : Hp} {b : Addr} {ns : List Int} (e : H b = some (.tup (ns.map V.int))) (l : ns.length ≤ 1000) : LineOk K H (.ref b) := ⟨_, .tup e (fun x hx => by
  obtain ⟨n, _, rfl⟩ := List.mem_map.mp hx
  exact ⟨true, .int n⟩) (by rw [List.length_map]; exact l)⟩
theorem rows_lines {K : PySem.W.Frag} {H : Hp} {rs : List V} {nss : List (List Int)} {w : Nat} (r : Rows H rs nss) (ws : ∀ ns ∈ nss, ns.length = w) (hw : w ≤ 16) : ∀ v ∈ rs, LineOk K H v := fun v hv => by
  obtain ⟨i, hi⟩ := List.getElem?_of_mem hv
  obtain ⟨b, ns, rfl, hns, eb⟩ := r.2 i v hi
  exact line_ints eb (by rw [ws ns (List.mem_of_getElem? hns)]; omega)
theorem LineOk.tp {K : PySem.W.Frag} {H H' : Hp} {b : Addr} {ns : List Int} (e : H b = some (.tup (ns.map V.int))) (t : Tp H H') (l : ns.length ≤ 1000) : LineOk K H' (.ref b) := line_ints (t _ _ e) l
theorem Rows.tp {H H' : Hp} {rs : List V} {nss : List (List Int)} (r : Rows H rs nss) (t : Tp H H') : Rows H' rs nss := ⟨r.1, fun j v e => by
  obtain ⟨b, ns, e1, e2, e3⟩ := r.2 j v e
  exact ⟨b, ns, e1, e2, t _ _ e3⟩⟩
theorem Pn.tp {H H' : Hp} {a : Addr} {nss : List (List Int)} {w : Nat} (p : Pn H a nss w) (t : Tp H H') : Pn H' a nss w := by
  obtain ⟨vs, e, r⟩ := p.rows
  exact Rows.pn (r.tp t) (t _ _ e) p.h1 p.h2 p.w1 p.w2 p.ws
def spOdd (K : PySem.W.Frag) : Sp := fun vs H Q _ => ∃ (st lg cl : Addr) (m : Nat), vs = [.ref st] ∧ m ≤ 999999 ∧ StAt H st lg cl m ∧
  ∀ (x : V) (b : Bool) (H' : Hp), Pl K H' x b → StAt H' st lg cl (m + 1) → Kp st lg H H' → Q x H'
section
variable {P : Program} {w : World} {K : PySem.W.Frag} {mg : Str → Option Value} {base : Heap} (T : Top K mg)
theorem ok_odd : FnOk P w K mg base (L2.CX P w) 3 T._law_odd.a T._law_odd.d ["state"] (spOdd K) := by
  refine T._law_odd.f.okX sc__law_odd (fun vs H Q E h => ?_) (fun cdv A outer s H vs Q E hr h => ?_)
  · obtain ⟨st, lg, cl, m, rfl, _⟩ := h
    rfl
  · obtain ⟨st, lg, cl, m, rfl, hm, S, k⟩ := h
    refine ⟨_, pss_one (ps_ret (pe_call (ok_pick T) hr (by rfl) T._law_pick.m T._law_pick.f.kp (bd__law_pick T) .nil passE (pa_cons (pv 0) (pa_cons (pe_lst
      (pa_cons pe_non (pa_cons pe_bl (pa_cons pe_bl (pa_cons pe_str (pa_cons pe_str (pa_cons (pe_lst pa_nil) (pa_cons pe_dnewK (pa_cons (pe_tup (pa_cons pe_non pa_nil)) (pa_cons (pe_tup (pa_cons pe_str (pa_cons pe_int pa_nil))) (pa_cons (pe_lst (pa_cons (pe_lst (pa_cons pe_int pa_nil)) pa_nil))
        (pa_cons (pe_disp (pps_cons pe_int pe_int pps_nil) (by rfl) (by rfl) (fun z => by cases z) (by decide)) (pa_cons (pe_tup (pa_cons pe_bl pa_nil)) pa_nil))))))))))))) pa_nil)))), ?_⟩
    refine ⟨_, rfl, ⟨(by show 0 ≤ sizeLine; decide), fun p1 h1 => ?_⟩⟩
    intro p2 h2
    refine ⟨(by show 1 ≤ sizeLine; decide), fun p3 h3 => ⟨(by show 2 ≤ sizeLine; decide), fun p4 h4 => ⟨(by show 1 ≤ sizeLine; decide), fun p5 h5 => ⟨(by show 1 ≤ sizeLine; decide), fun p6 h6 => ?_⟩⟩⟩⟩
    intro p7 h7
    refine ⟨upd_same, [(.inl 0, .int 0)], rfl, (by decide), ?_⟩
    have s1 := Same.new (o := .lst []) h1
    have s2 := Same.new (o := .dK []) h2
    have s3 := Same.new (o := .tup [.non]) h3
    have s4 := Same.new (o := .tup [.str "a", .int 1]) h4
    have s5 := Same.new (o := .lst [.int 0]) h5
    have s6 := Same.new (o := .lst [.ref p5]) h6
    rw [upd_upd]
    have s7 := Same.new (o := .dK (mergeK [] [(.inl 0, V.int 0)])) h7
    refine ⟨(by show 1 ≤ sizeLine; decide), fun p8 h8 => ⟨(by show 12 ≤ sizeLine; decide), fun p9 h9 => ?_⟩⟩
    have s8 := Same.new (o := .tup [.bl true]) h8
    have s9 := Same.new (o := .lst [.non, .bl true, .bl false, .str "0", .str "", .ref p1, .ref p2, .ref p3, .ref p4, .ref p6, .ref p7, .ref p8]) h9
    have S1 := S.same s1
    have S2 := S1.same s2
    have S3 := S2.same s3
    have S4 := S3.same s4
    have S5 := S4.same s5
    have S6 := S5.same s6
    have S7 := S6.same s7
    have S8 := S7.same s8
    have S9 := S8.same s9
    refine ⟨st, lg, cl, p9, _, m, rfl, upd_same, (S8.off h9).2, (by show 0 < 12; decide), (by show 12 ≤ 1000; decide), by omega, S9, fun x H2 hx S' kp => ?_⟩
    have t8 := s9
    have t7 := s8.trans t8
    have t6 := s7.trans t7
    have t5 := s6.trans t6
    have t4 := s5.trans t5
    have t3 := s4.trans t4
    have t2 := s3.trans t3
    have t1 := s2.trans t2
    have e1 := kp p1 _ (t1 _ _ upd_same) (S.off h1).1 (S.off h1).2
    have e2 := kp p2 _ (t2 _ _ upd_same) (S1.off h2).1 (S1.off h2).2
    have e3 := kp p3 _ (t3 _ _ upd_same) (S2.off h3).1 (S2.off h3).2
    have e4 := kp p4 _ (t4 _ _ upd_same) (S3.off h4).1 (S3.off h4).2
    have e6 := kp p6 _ (t6 _ _ upd_same) (S5.off h6).1 (S5.off h6).2
    have e7 := kp p7 _ (t7 _ _ upd_same) (S6.off h7).1 (S6.off h7).2
    have e8 := kp p8 _ (t8 _ _ upd_same) (S7.off h8).1 (S7.off h8).2
    have kk : Kp st lg H H2 := (Kp.same (s1.trans t1)).trans kp
    simp only [List.mem_cons, List.not_mem_nil, or_false] at hx
    rcases hx with h | h | h | h | h | h | h | h | h | h | h | h <;> subst h
    · exact k _ _ _ .non S' kk
    · exact k _ _ _ (.bl true) S' kk
    · exact k _ _ _ (.bl false) S' kk
    · exact k _ _ _ (.str "0") S' kk
    · exact k _ _ _ (.str "") S' kk
    · exact k _ _ _ (.lst e1) S' kk
    · exact k _ _ _ (.dK e2) S' kk
    · exact k _ _ _ (.tup e3) S' kk
    · exact k _ _ _ (.tup e4) S' kk
    · exact k _ _ _ (.lst e6) S' kk
    · exact k _ _ _ (.dK e7) S' kk
    · exact k _ _ _ (.tup e8) S' kk
end
end K16
namespace K16
open PySem PySem.Spec PyProof.Rows L2 PySem.W LamX KA KW KU KL KT KDT
open Evl (pss_cut tCut)
/-! ### a rectangle is bent -/
def spBent (K : PySem.W.Frag) : Sp := fun vs H Q _ => ∃ (st lg cl a : Addr) (nss : List (List Int)) (w m : Nat), vs = [.ref st, .ref a] ∧ Pn H a nss w ∧ m ≤ 999000 ∧ StAt H st lg cl m ∧
  ∀ (y : V) (H' : Hp), ThOk K H' y → StAt H' st lg cl (m + 4) → Kp st lg H H' → Q y H'
theorem bent_lines {K : PySem.W.Frag} {H : Hp} {rs : List V} {t : Nat} {v : V} (h : ∀ x ∈ rs, LineOk K H x) (hv : LineOk K H v) : ∀ x ∈ rs.take t ++ v :: rs.drop (t + 1), LineOk K H x := fun x hx => by
  rcases List.mem_append.mp hx with e | e
  · exact h x (List.mem_of_mem_take e)
  · rcases List.mem_cons.mp e with e | e
    · rw [e]
      exact hv
    · exact h x (List.mem_of_mem_drop e)
theorem bent_len {rs : List V} {t : Nat} {v : V} (h : rs.length ≤ 16) : (rs.take t ++ v :: rs.drop (t + 1)).length ≤ 1000 := by
  rw [List.length_append, List.length_take, List.length_cons, List.length_drop]
  omega
theorem ret_any {te : TE} {D : Ends} {σ : L2.St} {H : Hp} (h : te σ H D.rt) : tRet te D σ H := h
theorem Tp.put {H : Hp} {D : Addr} {xs : List V} {o : HO} (h : H D = some (.lst xs)) : Tp H (upd H D o) := fun b ys e => by
  rw [upd_ne (fun z => by rw [z, h] at e; cases e)]
  exact e
def IR (H : Hp) (x : V) : Prop := ∃ (b : Addr) (ns : List Int), x = .ref b ∧ H b = some (.tup (ns.map V.int)) ∧ ns.length ≤ 1000
theorem IR.tp {H H' : Hp} {x : V} (h : IR H x) (t : Tp H H') : IR H' x := by
  obtain ⟨b, ns, e, q, l⟩ := h
  exact ⟨b, ns, e, t _ _ q, l⟩
theorem IR.line {K : PySem.W.Frag} {H : Hp} {x : V} (h : IR H x) : LineOk K H x := by
  obtain ⟨b, ns, rfl, q, l⟩ := h
  exact line_ints q l
theorem rep_mem {xs : List V} {k : Nat} {x : V} (h : x ∈ (List.replicate k xs).flatten) : x ∈ xs := by
  obtain ⟨ys, h1, h2⟩ := List.mem_flatten.mp h
  rw [(List.mem_replicate.mp h1).2] at h2
  exact h2
theorem rep_len {xs : List V} {k : Nat} : (List.replicate k xs).flatten.length = k * xs.length := by
  induction k with
  | zero => simp
  | succ k ih => rw [List.replicate_succ, List.flatten_cons, List.length_append, ih, Nat.succ_mul, Nat.add_comm]
theorem rep_k : ∀ n : Nat, 1 ≤ n → n ≤ 16 → 2 ≤ 17 / n + 1 ∧ (17 / n + 1) * n ≤ 300 := by
  have q : (List.range 17).all (fun n => n == 0 || (decide (2 ≤ 17 / n + 1) && decide ((17 / n + 1) * n ≤ 300))) = true := by decide +kernel
  intro n h1 h2
  have := List.all_eq_true.mp q n (List.mem_range.mpr (by omega))
  have e1 : (n == 0) = false := beq_eq_false_iff_ne.mpr (by omega)
  rw [e1, Bool.false_or, Bool.and_eq_true, decide_eq_true_eq, decide_eq_true_eq] at this
  exact this
section
variable {P : Program} {w : World} {K : PySem.W.Frag} {mg : Str → Option Value} {base : Heap} (T : Top K mg)
theorem ok_bent : FnOk P w K mg base (L2.CX P w) 4 T._law_bent_pane.a T._law_bent_pane.d ["state", "pane"] (spBent K) := by
  refine T._law_bent_pane.f.okX sc__law_bent_pane (fun vs H Q E h => ?_) (fun cdv A outer s H vs Q E hr h => ?_)
  · obtain ⟨st, lg, cl, a, nss, w, m, rfl, _⟩ := h
    rfl
  · obtain ⟨st, lg, cl, a, nss, wn, m, rfl, pn, hm, S, k⟩ := h
    refine ⟨_, pss_cons (ps_par (i := 2) (j := 3) rfl sc__law_bent_pane.nd rfl rfl (by decide) rfl rfl (pa_cons (pe_call (ok_draw T) (hr.mono (by decide)) (by rfl) T._law_draw.m T._law_draw.f.kp (bd__law_draw T) .nil passE (pa_cons (pv 0) (pa_cons pe_int pa_nil))) (pa_cons (pe_call (ok_draw T) (hr.mono (by decide)) (by rfl) T._law_draw.m T._law_draw.f.kp (bd__law_draw T) .nil passE (pa_cons (pv 0) (pa_cons (pe_callB call_len_seq (by rfl) T.b_len PySem.boot_len (pa_cons (pv 1) pa_nil)) pa_nil))) pa_nil)) (by rfl))
      (pss_cons (ps_set (i := 4) sc__law_bent_pane.nd rfl (.inl rfl) (pe_ix ix_tup (pv 1) (pv 3) (fun _ _ => rfl)))
      (pss_cons (ps_if (pt_cmpR op_eq (pv 2) pe_int (nomark _)) (pss_one (ps_ret (pe_op op_catA (pe_op op_catA (pe_slice sl_tupA (pv 1) po_none (po_some (pv 3))) (pe_tup (pa_cons (pe_callTy call_list_of (by rfl) T.b_list (by decide +kernel) (pa_cons (pv 4) pa_nil)) pa_nil))) (pe_slice sl_tupA (pv 1) (po_some (pe_op op_add (pv 3) pe_int)) po_none)))) pss_nil)
      (pss_cons (ps_if (pt_cmpR op_eq (pv 2) pe_int (nomark _)) (pss_one (ps_ret (pe_op op_catA (pe_op op_catA (pe_slice sl_tupA (pv 1) po_none (po_some (pv 3))) (pe_tup (pa_cons (pe_slice sl_tupA (pv 4) (po_some pe_int) po_none) pa_nil))) (pe_slice sl_tupA (pv 1) (po_some (pe_op op_add (pv 3) pe_int)) po_none)))) pss_nil)
      (pss_cons (ps_if (pt_cmpR op_eq (pv 2) pe_int (nomark _)) (pss_one (ps_ret (pe_op op_catA (pe_op op_catA (pe_slice sl_tupA (pv 1) po_none (po_some (pv 3))) (pe_tup (pa_cons (pe_op op_catA (pv 4) (pe_tup (pa_cons pe_int pa_nil))) pa_nil))) (pe_slice sl_tupA (pv 1) (po_some (pe_op op_add (pv 3) pe_int)) po_none)))) pss_nil)
      (pss_cons (ps_if (pt_cmpR op_eq (pv 2) pe_int (nomark _)) (pss_one (ps_ret (pe_callTy call_list_of (by rfl) T.b_list (by decide +kernel) (pa_cons (pv 1) pa_nil)))) pss_nil)
      (pss_cons (ps_if (pt_cmpR op_eq (pv 2) pe_int (nomark _)) (pss_one (ps_ret (pe_op op_repA (pv 1) (pe_op op_add (pe_op op_fdiv pe_int (pe_callB call_len_seq (by rfl) T.b_len PySem.boot_len (pa_cons (pv 1) pa_nil))) pe_int)))) pss_nil)
      (pss_cons (ps_if (pt_cmpR op_eq (pv 2) pe_int (nomark _)) (pss_one (ps_ret (pe_callTy (show CallR _ _ (rTupOf K) from call_tuple_of) (by rfl) T.b_tuple (by decide +kernel) (pa_cons (pe_lc (own := [("each", 6)]) (g := gName 6) (tt := tYes) rfl sc__law_bent_pane.nd (pi_tup (pv 1)) (blkOk_by (own := [("each", 6)]) (N := ["state", "pane", "way", "turn", "line", "spot", "each"]) (sc := defScope s__law_bent_pane) (by decide +kernel)) (fun _ _ _ _ _ => pg_name (i := 6) sc__law_bent_pane.nd rfl (Or.inl rfl)) (fun _ _ _ _ _ => pts_nil) (fun _ _ _ _ _ => pe_op (show OpR _ _ (rRepA K) from op_repA) (pv 6) (pe_op op_add (pe_op op_fdiv pe_int (pe_callB (show CallR _ _ (rLenQ K) from call_len_seq) (by rfl) T.b_len PySem.boot_len (pa_cons (pv 6) pa_nil))) pe_int))) pa_nil)))) pss_nil)
      (pss_cons (ps_if (pt_cmpR op_eq (pv 2) pe_int (nomark _)) (pss_one (ps_ret (pe_call (ok_pick T) (hr.mono (by decide)) (by rfl) T._law_pick.m T._law_pick.f.kp (bd__law_pick T) .nil passE (pa_cons (pv 0) (pa_cons (pe_lst (pa_cons (pe_tup pa_nil) (pa_cons (pe_tup (pa_cons (pe_tup pa_nil) pa_nil)) (pa_cons pe_non (pa_cons pe_int (pa_cons pe_str (pa_cons pe_dnewK (pa_cons (pe_tup (pa_cons pe_int pa_nil)) (pa_cons (pe_tup (pa_cons (pe_tup (pa_cons pe_int pa_nil)) (pa_cons pe_int pa_nil))) (pa_cons pe_bl pa_nil)))))))))) pa_nil))))) pss_nil)
      (pss_cons (ps_set (i := 5) sc__law_bent_pane.nd rfl (.inl rfl) (pe_call (ok_draw T) (hr.mono (by decide)) (by rfl) T._law_draw.m T._law_draw.f.kp (bd__law_draw T) .nil passE (pa_cons (pv 0) (pa_cons (pe_callB call_len_seq (by rfl) T.b_len PySem.boot_len (pa_cons (pv 4) pa_nil)) pa_nil))))
      (pss_one (ps_ret (pe_op op_catA (pe_op op_catA (pe_slice sl_tupA (pv 1) po_none (po_some (pv 3))) (pe_tup (pa_cons (pe_op op_catA (pe_op op_catA (pe_slice sl_tupA (pv 4) po_none (po_some (pv 5))) (pe_tup (pa_cons (pe_call (ok_odd T) (hr.mono (by decide)) (by rfl) T._law_odd.m T._law_odd.f.kp (bd__law_odd T) .nil passE (pa_cons (pv 0) pa_nil)) pa_nil))) (pe_slice sl_tupA (pv 4) (po_some (pe_op op_add (pv 5) pe_int)) po_none)) pa_nil))) (pe_slice sl_tupA (pv 1) (po_some (pe_op op_add (pv 3) pe_int)) po_none))))))))))))), ?_⟩
    obtain ⟨rs, ea, rows⟩ := pn.rows
    have hl : rs.length = nss.length := rows.1
    have wsn := pn.ws
    have n1 := pn.h1
    have n2 := pn.h2
    have w1 := pn.w1
    have w2 := pn.w2
    refine ⟨_, rfl, st, lg, cl, 8, m, rfl, by decide, by decide, by omega, S, fun wy H1 hwy S1 kp1 => ?_⟩
    have tp1 := Tp.kp S kp1
    refine ⟨_, rfl, _, rfl, a, rs, rfl, .inr (SqT.of (tp1 _ _ ea)), st, lg, cl, rs.length, m + 1, rfl, by omega, ?_, by omega, S1, fun t H2 ht S2 kp2 => ⟨_, _, rfl, ?_⟩⟩
    · exact Nat.lt_of_le_of_lt (show _ ≤ 16 by omega) (by decide)
    have tp2 := tp1.trans (Tp.kp S1 kp2)
    have kk := kp1.trans kp2
    have ea2 := tp2 _ _ ea
    have rows2 := rows.tp tp2
    have S2 := S2.mono (show m + 1 + 1 ≤ m + 2 by omega)
    have k : ∀ (y : V) (H' : Hp), ThOk K H' y → StAt H' st lg cl (m + 4) → Kp st lg H2 H' → Q y H' := fun y H' t s q => k y H' t s (kk.trans q)
    clear tp1 tp2 kp1 kp2 kk S S1 pn rows ea
    obtain ⟨v, hv⟩ : ∃ v, rs[t]? = some v := ⟨_, List.getElem?_eq_getElem ht⟩
    obtain ⟨b, ns, rfl, hns, eb⟩ := rows2.2 t v hv
    have ln : ns.length = wn := wsn ns (List.mem_of_getElem? hns)
    have lines := rows_lines (K := K) rows2 wsn w2
    refine ⟨_, rfl, _, rfl, a, rs, _, _, rfl, rfl, SqT.of ea2, atI_nat hv, ?_⟩
    have way : ∀ (n : Nat) (z : Int), z = ((n : Nat) : Int) → decide (V.int ((wy : Nat) : Int) = V.int z) = decide (wy = n) := fun n z e => by
      subst e
      exact decide_eq_decide.mpr ⟨fun z => by have := V.int.inj z; omega, fun z => by rw [z]⟩
    have done : ∀ (y : V) (H' : Hp), Same H2 H' → ThOk K H' y → Q y H' := fun y H' s t => k y H' t ((S2.same s).mono (by omega)) (Kp.same s)
    have rl : rs.length ≤ 16 := by omega
    have pln : ∀ {H' : Hp} {x : V}, x ∈ ns.map V.int → ∃ b, Pl K H' x b := fun {H' x} hx => by
      obtain ⟨n, _, rfl⟩ := List.mem_map.mp hx
      exact ⟨true, .int n⟩
    refine ⟨_, rfl, rfl, _, rfl, ?_⟩
    by_cases c0 : wy = 0
    · rw [way 0 0 rfl, decide_eq_true c0]
      refine iteT (ret_any (bend_read (i := 1) (j := 3) rfl rfl ea2 ht (by omega) fun H3 s3 G hG => ⟨_, rfl, b, _, rfl, .inr (SqT.of (s3 _ _ eb)), fun l hl => hG _ _ (Tp.same (Same.new hl)) fun p H4 s4 e4 => ?_⟩))
      have s34 := (s3.trans (Same.new hl)).trans s4
      exact done _ _ s34 (th_of e4 (bent_len rl) (bent_lines (fun x hx => (lines x hx).keep s34) ⟨none, .no (.lst (s4 _ _ upd_same))⟩))
    rw [way 0 0 rfl, decide_eq_false c0]
    refine iteF ⟨_, rfl, rfl, _, rfl, ?_⟩
    by_cases c1 : wy = 1
    · rw [way 1 1 rfl, decide_eq_true c1]
      refine iteT (ret_any (bend_read (i := 1) (j := 3) rfl rfl ea2 ht (by omega) fun H3 s3 G hG => ⟨_, rfl, _, rfl, drop_any (t := 1) (s3 _ _ eb) (by rw [List.length_map]; omega) fun c H4 s4 l4 => hG _ _ (Tp.same s4) fun p H5 s5 e5 => ?_⟩))
      have s35 := (s3.trans s4).trans s5
      exact done _ _ s35 (th_of e5 (bent_len rl) (bent_lines (fun x hx => (lines x hx).keep s35) ⟨_, .tup (s5 _ _ l4) (fun x hx => pln (List.mem_of_mem_drop hx)) (by rw [List.length_drop, List.length_map]; omega)⟩))
    rw [way 1 1 rfl, decide_eq_false c1]
    refine iteF ⟨_, rfl, rfl, _, rfl, ?_⟩
    by_cases c2 : wy = 2
    · rw [way 2 2 rfl, decide_eq_true c2]
      refine iteT (ret_any (bend_read (i := 1) (j := 3) rfl rfl ea2 ht (by omega) fun H3 s3 G hG => ⟨_, rfl, (by show 1 ≤ sizeLine; decide), fun q hq => cat_any ((Same.new hq) _ _ (s3 _ _ eb)) upd_same (by rw [List.length_map]; show _ + 1 ≤ _; omega) fun c H4 s4 l4 => hG _ _ ((Tp.same (Same.new hq)).trans (Tp.same s4)) fun p H5 s5 e5 => ?_⟩))
      have s35 := ((s3.trans (Same.new hq)).trans s4).trans s5
      refine done _ _ s35 (th_of e5 (bent_len rl) (bent_lines (fun x hx => (lines x hx).keep s35) ⟨_, .tup (s5 _ _ l4) (fun x hx => ?_) (by rw [List.length_append, List.length_map]; show _ + 1 ≤ _; omega)⟩))
      rcases List.mem_append.mp hx with e | e
      · exact pln e
      · simp only [List.mem_cons, List.not_mem_nil, or_false] at e
        rw [e]
        exact ⟨true, .int 0⟩
    rw [way 2 2 rfl, decide_eq_false c2]
    refine iteF ⟨_, rfl, rfl, _, rfl, ?_⟩
    by_cases c3 : wy = 3
    · rw [way 3 3 rfl, decide_eq_true c3]
      exact iteT ⟨_, rfl, a, rs, rfl, .inr (SqT.of ea2), fun l hl => done _ _ (Same.new hl) ⟨none, .no (.lst upd_same)⟩⟩
    rw [way 3 3 rfl, decide_eq_false c3]
    refine iteF ⟨_, rfl, rfl, _, rfl, ?_⟩
    by_cases c4 : wy = 4
    · rw [way 4 4 rfl, decide_eq_true c4]
      obtain ⟨r1, r2⟩ := rep_k rs.length (by omega) rl
      refine iteT ⟨_, rfl, _, rfl, a, rs, rfl, .inr (SqT.of ea2), _, _, rfl, rfl, ⟨by omega, by omega⟩, _, _, rfl, rfl, ?_⟩
      dsimp only
      rw [show (17 : Int) / ((rs.length : Nat) : Int) + 1 = ((17 / rs.length + 1 : Nat) : Int) by rw [Int.natCast_add, Int.natCast_ediv]; rfl]
      have q17 : 17 / rs.length ≤ 17 := Nat.div_le_self _ _
      have rne : rs ≠ [] := fun z => by rw [z] at ht; cases ht
      refine ⟨a, _, rs, rfl, rfl, SqT.of ea2, rne, by omega, by omega, by omega, fun z => absurd z (by omega), fun _ p hp => done _ _ (Same.new hp) (th_of upd_same ?_ fun x hx => (lines x (rep_mem hx)).keep (Same.new hp))⟩
      rw [rep_len, Int.toNat_natCast]
      omega
    rw [way 4 4 rfl, decide_eq_false c4]
    refine iteF ⟨_, rfl, rfl, _, rfl, ?_⟩
    by_cases c5 : wy = 5
    · rw [way 5 5 rfl, decide_eq_true c5]
      refine iteT (ret_tup ?_)
      refine ⟨_, rfl, a, rfl, ⟨_, SqT.of ea2⟩, fun D hD => lc_it walk_tup (fun i H' => ∃ es, H' D = some (.lst es) ∧ es.length = i ∧ (∀ x ∈ es, IR H' x) ∧ Same H2 H') ⟨[], upd_same, rfl, (fun x hx => nomatch hx), Same.new hD⟩ (fun _ H' _ q => SqT.of (q.elim fun es q => q.2.2.2 _ _ ea2)) ?_ ?_⟩
      · rintro i x H3 H4 hi ⟨es, a1, a2, a3, a4⟩ ⟨rfl, hx⟩
        obtain ⟨b', ms, rfl, hms, eb'⟩ := rows2.2 i x hx
        have lm := wsn ms (List.mem_of_getElem? hms)
        refine ⟨rfl, ?_⟩
        dsimp only [tYes]
        rw [if_pos rfl]
        obtain ⟨r1, r2⟩ := rep_k ms.length (by omega) (by omega)
        have q17 : 17 / ms.length ≤ 17 := Nat.div_le_self _ _
        refine ⟨_, rfl, _, rfl, b', _, rfl, .inr (SqT.of (a4 _ _ eb')), _, _, rfl, rfl, ⟨by rw [List.length_map]; omega, by rw [List.length_map]; omega⟩, _, _, rfl, rfl, ?_⟩
        dsimp only
        rw [List.length_map, show (17 : Int) / ((ms.length : Nat) : Int) + 1 = ((17 / ms.length + 1 : Nat) : Int) by rw [Int.natCast_add, Int.natCast_ediv]; rfl]
        have mne : ms.map V.int ≠ [] := fun z => by
          have := congrArg List.length z
          rw [List.length_map] at this
          simp at this
          rw [this] at lm
          simp at lm
          omega
        refine ⟨b', _, _, rfl, rfl, SqT.of (a4 _ _ eb'), mne, by omega, by omega, by rw [List.length_map]; omega, fun z => absurd z (by omega), fun _ p hp => ?_⟩
        have t1 := Same.new (o := .tup (List.replicate (((17 / ms.length + 1 : Nat) : Int)).toNat (ms.map V.int)).flatten) hp
        refine ⟨es, t1 _ _ a1, ?_, es ++ [.ref p], upd_same, by simp [a2], fun y hy => ?_, Same.put (a4.trans t1) hD⟩
        · rw [a2]
          exact Nat.lt_of_lt_of_le (show i < 17 by omega) (by decide)
        · refine IR.tp ?_ (Tp.put (t1 _ _ a1))
          rcases List.mem_append.mp hy with e | e
          · exact (a3 y e).tp (Tp.same t1)
          · simp only [List.mem_cons, List.not_mem_nil, or_false] at e
            subst e
            refine ⟨p, (List.replicate (17 / ms.length + 1) ms).flatten, rfl, ?_, ?_⟩
            · rw [upd_same, Int.toNat_natCast, List.map_flatten, List.map_replicate]
            · have e : ((List.replicate (17 / ms.length + 1) ms).flatten).length = (17 / ms.length + 1) * ms.length := by
                rw [List.length_flatten, List.map_replicate, List.sum_replicate_nat]
              rw [e]
              omega
      · rintro H3 ⟨es, a1, a2, a3, a4⟩
        refine ⟨D, es, rfl, .inl ⟨SqL.of a1, fun p hp => done _ _ (a4.trans (Same.new hp)) (th_of upd_same (by rw [a2]; omega) fun x hx => ((a3 x hx).tp (Tp.same (Same.new hp))).line)⟩⟩
    rw [way 5 5 rfl, decide_eq_false c5]
    refine iteF ⟨_, rfl, rfl, _, rfl, ?_⟩
    by_cases c6 : wy = 6
    · rw [way 6 6 rfl, decide_eq_true c6]
      refine iteT ⟨_, rfl, ⟨(by show 0 ≤ sizeLine; decide), fun p1 h1 => ⟨(by show 0 ≤ sizeLine; decide), fun p2 h2 => ⟨(by show 1 ≤ sizeLine; decide), fun p3 h3 => ?_⟩⟩⟩⟩
      intro p4 h4
      refine ⟨(by show 1 ≤ sizeLine; decide), fun p5 h5 => ⟨(by show 1 ≤ sizeLine; decide), fun p6 h6 => ⟨(by show 2 ≤ sizeLine; decide), fun p7 h7 => ⟨(by show 9 ≤ sizeLine; decide), fun p8 h8 => ?_⟩⟩⟩⟩
      have s1 := Same.new (o := .tup []) h1
      have s2 := Same.new (o := .tup []) h2
      have s3 := Same.new (o := .tup [V.ref p2]) h3
      have s4 := Same.new (o := .dK []) h4
      have s5 := Same.new (o := .tup [V.int 5]) h5
      have s6 := Same.new (o := .tup [V.int 1]) h6
      have s7 := Same.new (o := .tup [V.ref p6, .int 5]) h7
      have s8 := Same.new (o := .lst [V.ref p1, .ref p3, .non, .int 5, .str "rows", .ref p4, .ref p5, .ref p7, .bl true]) h8
      have t7 := s8
      have t6 := s7.trans t7
      have t5 := s6.trans t6
      have t4 := s5.trans t5
      have t3 := s4.trans t4
      have t2 := s3.trans t3
      have t1 := s2.trans t2
      have S4 := (((S2.same s1).same s2).same s3)
      have S8 := ((((S4.same s4).same s5).same s6).same s7).same s8
      refine ⟨st, lg, cl, p8, _, m + 2, rfl, upd_same, ((((S4.same s4).same s5).same s6).same s7).off h8 |>.2, (by show 0 < 9; decide), (by show 9 ≤ 1000; decide), by omega, S8, fun x H3 hx S' kp => ?_⟩
      have tp := Tp.kp S8 kp
      have e1 := tp _ _ (t1 _ _ upd_same)
      have e2 := tp _ _ (t2 _ _ upd_same)
      have e3 := tp _ _ (t3 _ _ upd_same)
      have e4 := kp _ _ (t4 _ _ upd_same) (S4.off h4).1 (S4.off h4).2
      have e5 := tp _ _ (t5 _ _ upd_same)
      have e6 := tp _ _ (t6 _ _ upd_same)
      have e7 := tp _ _ (t7 _ _ upd_same)
      have fin : ThOk K H3 x → Q x H3 := fun z => k x H3 z (S'.mono (by omega)) ((Kp.same (s1.trans t1)).trans kp)
      simp only [List.mem_cons, List.not_mem_nil, or_false] at hx
      rcases hx with h | h | h | h | h | h | h | h | h <;> subst h
      · exact fin (th_of e1 (by show 0 ≤ 1000; decide) fun x hx => nomatch hx)
      · refine fin (th_of e3 (by show 1 ≤ 1000; decide) fun x hx => ?_)
        simp only [List.mem_cons, List.not_mem_nil, or_false] at hx
        subst hx
        exact ⟨_, .tup e2 (fun x hx => nomatch hx) (by decide)⟩
      · exact fin ⟨none, .no .non⟩
      · exact fin ⟨none, .no (.int 5)⟩
      · exact fin ⟨none, .no (.str "rows")⟩
      · exact fin ⟨none, .no (.dK e4)⟩
      · refine fin (th_of e5 (by show 1 ≤ 1000; decide) fun x hx => ?_)
        simp only [List.mem_cons, List.not_mem_nil, or_false] at hx
        subst hx
        exact ⟨none, .no (.int 5)⟩
      · refine fin (th_of e7 (by show 2 ≤ 1000; decide) fun x hx => ?_)
        simp only [List.mem_cons, List.not_mem_nil, or_false] at hx
        rcases hx with h | h <;> subst h
        · refine ⟨_, .tup e6 (fun x hx => ?_) (by decide)⟩
          simp only [List.mem_cons, List.not_mem_nil, or_false] at hx
          subst hx
          exact ⟨true, .int 1⟩
        · exact ⟨none, .no (.int 5)⟩
      · exact fin ⟨none, .no (.bl true)⟩
    rw [way 6 6 rfl, decide_eq_false c6]
    refine iteF ⟨_, rfl, _, rfl, b, _, rfl, .inr (SqT.of eb), st, lg, cl, wn, m + 2, ?_, by omega, ?_, by omega, S2, fun sp H3 hsp S3 kp3 => ?_⟩
    · rw [List.length_map, ln]
      rfl
    · exact Nat.lt_of_le_of_lt w2 (by decide)
    have tp3 := Tp.kp S2 kp3
    refine ret_any (bend_read (i := 1) (j := 3) rfl rfl (tp3 _ _ ea2) ht (by omega) fun H4 s4 G hG => ?_)
    refine bend_read (i := 4) (j := 5) rfl rfl (s4 _ _ (tp3 _ _ eb)) (by rw [List.length_map, ln]; exact hsp) (by rw [List.length_map]; omega) fun H5 s5 G' hG' => ?_
    refine ⟨_, rfl, st, lg, cl, m + 3, rfl, by omega, (S3.same s4).same s5, fun x xb H6 px S6 kp6 => ?_⟩
    have tp6 := Tp.kp ((S3.same s4).same s5) kp6
    refine hG' x H6 tp6 fun p H7 s7 e7 => hG _ H7 (((Tp.same s5).trans tp6).trans (Tp.same s7)) fun p2 H8 s8 e8 => ?_
    have tpA : Tp H2 H8 := ((((tp3.trans (Tp.same s4)).trans (Tp.same s5)).trans tp6).trans (Tp.same s7)).trans (Tp.same s8)
    have kpA : Kp st lg H2 H8 := (((kp3.trans (Kp.same s4)).trans (Kp.same s5)).trans kp6).trans (Kp.same (s7.trans s8))
    refine k _ _ (th_of e8 (bent_len rl) (bent_lines (rows_lines (rows2.tp tpA) wsn w2) ⟨_, .tup (s8 _ _ e7) (fun y hy => ?_) ?_⟩)) ((S6.same s7).same s8) kpA
    · rcases List.mem_append.mp hy with e | e
      · exact pln (List.mem_of_mem_take e)
      · rcases List.mem_cons.mp e with e | e
        · rw [e]
          exact ⟨xb, (px.keep s7).keep s8⟩
        · exact pln (List.mem_of_mem_drop e)
    · rw [List.length_append, List.length_take, List.length_cons, List.length_drop, List.length_map]
      omega
end
end K16
namespace K16
/-! ### lifts: what the law asks of them -/
theorem ext_getD {a b : List Int} (l : a.length = b.length) (h : ∀ j, j < a.length → a.getD j 0 = b.getD j 0) : a = b := by
  refine List.ext_getElem l fun j x y => ?_
  have := h j x
  rw [List.getD_eq_getElem?_getD, List.getD_eq_getElem?_getD, List.getElem?_eq_getElem x, List.getElem?_eq_getElem y] at this
  exact this
theorem split_at {h w j : Nat} (w1 : 1 ≤ w) (hj : j < h * w) : j / w < h ∧ j % w < w ∧ j / w * w + j % w = j := by
  refine ⟨Nat.div_lt_of_lt_mul (by rw [Nat.mul_comm]; exact hj), Nat.mod_lt _ w1, ?_⟩
  rw [Nat.mul_comm]
  exact Nat.div_add_mod j w
theorem rows_at {ns : List Int} {h w y x : Nat} (hy : y < h) (hx : x < w) : ((rowsOf ns h w).getD y []).getD x 0 = ns.getD (y * w + x) 0 := by
  unfold rowsOf
  simp only [List.getD_eq_getElem?_getD]
  rw [List.getElem?_map, List.getElem?_range hy]
  show ((List.take w (List.drop (y * w) ns))[x]?).getD 0 = _
  rw [List.getElem?_take, if_pos hx, List.getElem?_drop]
theorem flat_rows {ns : List Int} {h w : Nat} (w1 : 1 ≤ w) (l : ns.length = h * w) : (rowsOf ns h w).flatten = ns := by
  have ws := rowsOf_ws (h := h) (w := w) l
  have lf : (rowsOf ns h w).flatten.length = h * w := by rw [flat_len ws, rowsOf_len]
  refine ext_getD (by rw [lf, l]) fun j hj => ?_
  rw [lf] at hj
  obtain ⟨a, b, c⟩ := split_at w1 hj
  rw [← c, flat_at ws (by rw [rowsOf_len]; exact a) b, rows_at a b]
theorem cells_fOf {ns : List Int} {h w : Nat} (w1 : 1 ≤ w) (l : ns.length = h * w) : (List.range (h * w)).map (fun j => fOf ns w (j / w) (j % w)) = ns := by
  refine ext_getD (by simp [l]) fun j hj => ?_
  have hj : j < h * w := by simpa using hj
  obtain ⟨a, b, c⟩ := split_at w1 hj
  rw [List.getD_eq_getElem?_getD, List.getElem?_map, List.getElem?_range hj]
  show ns.getD (j / w * w + j % w) 0 = _
  rw [c]
section
variable {h w : Nat} {f g : Nat → Nat → Int}
theorem mean_congr (e : ∀ y x, y < h → x < w → f y x = g y x) : ∀ a : Ar, a.ok → In a (root h w) → mean f a = mean g a := by
  refine area_ind (fun a o i n => ?_) fun a o i p q n => ?_
  · obtain ⟨e1, e2⟩ := one_of o i
    rw [mean_one o i, mean_one o i]
    unfold In root at n
    dsimp only at n
    exact e _ _ (by omega) (by omega)
  · rw [mean_in o i, mean_in o i, p ((half_in false).trans n), q ((half_in true).trans n)]
theorem mean_add {c : Int} : ∀ a : Ar, a.ok → mean (fun y x => f y x + c) a = mean f a + c := by
  refine area_ind (fun a o i => ?_) fun a o i p q => ?_
  · rw [mean_one o i, mean_one o i]
  · rw [mean_in o i, mean_in o i, p, q]
    omega
theorem mean_bd {lo hi : Int} (e : ∀ y x, y < h → x < w → lo ≤ f y x ∧ f y x ≤ hi) : ∀ a : Ar, a.ok → In a (root h w) → lo ≤ mean f a ∧ mean f a ≤ hi := by
  refine area_ind (fun a o i n => ?_) fun a o i p q n => ?_
  · obtain ⟨e1, e2⟩ := one_of o i
    rw [mean_one o i]
    unfold In root at n
    dsimp only at n
    exact e _ _ (by omega) (by omega)
  · have a1 := p ((half_in false).trans n)
    have a2 := q ((half_in true).trans n)
    rw [mean_in o i]
    omega
end
section
variable {h w : Nat} (h1 : 1 ≤ h) (w1 : 1 ≤ w) {f g : Nat → Nat → Int}
include h1 w1
theorem inn_ok {a : Ar} (m : a ∈ innL h w) : a.ok ∧ In a (root h w) ∧ a.inn = true := by
  obtain ⟨m1, m2⟩ := List.mem_filter.mp m
  obtain ⟨o, i⟩ := areas_ok h1 w1 m1
  exact ⟨o, i, m2⟩
theorem lift_congr (e : ∀ y x, y < h → x < w → f y x = g y x) : liftL f h w = liftL g h w := by
  unfold liftL
  congr 1
  · exact mean_congr e _ ⟨h1, w1⟩ In.refl
  · refine List.map_congr_left fun a m => ?_
    obtain ⟨o, n, i⟩ := inn_ok h1 w1 m
    unfold diff
    rw [mean_congr e _ (half_ok o i true) ((half_in true).trans n), mean_congr e _ (half_ok o i false) ((half_in false).trans n)]
theorem lift_add {c : Int} : liftL (fun y x => f y x + c) h w = (mean f (root h w) + c) :: (innL h w).map (diff f) := by
  unfold liftL
  congr 1
  · exact mean_add _ ⟨h1, w1⟩
  · refine List.map_congr_left fun a m => ?_
    obtain ⟨o, n, i⟩ := inn_ok h1 w1 m
    unfold diff
    rw [mean_add _ (half_ok o i true), mean_add _ (half_ok o i false)]
    omega
theorem diff_bd {lo hi : Int} (e : ∀ y x, y < h → x < w → lo ≤ f y x ∧ f y x ≤ hi) : ∀ d ∈ (innL h w).map (diff f), lo - hi ≤ d ∧ d ≤ hi - lo := fun d m => by
  obtain ⟨a, m2, rfl⟩ := List.mem_map.mp m
  obtain ⟨o, n, i⟩ := inn_ok h1 w1 m2
  have a1 := mean_bd e _ (half_ok o i true) ((half_in true).trans n)
  have a2 := mean_bd e _ (half_ok o i false) ((half_in false).trans n)
  unfold diff
  omega
theorem down_lift {ns : List Int} (l : ns.length = h * w) : downL h w (numAt (liftL (fOf ns w) h w)) = ns := by
  refine Eq.trans ?_ (cells_fOf w1 l)
  unfold downL
  refine List.map_congr_left fun j hj => ?_
  obtain ⟨a, b, c⟩ := split_at w1 (List.mem_range.mp hj)
  exact cell_lift h1 w1 a b
theorem downL_len {m : Nat → Int} : (downL h w m).length = h * w := by
  unfold downL
  rw [List.length_map, List.length_range]
theorem inn_at {k : Nat} {a : Ar} (e : (innL h w)[k]? = some a) : ∃ j, (areasL h w)[j]? = some a ∧ a.inn = true ∧ kth h w j = k := by
  obtain ⟨m1, m2⟩ := List.mem_filter.mp (List.mem_of_getElem? e)
  obtain ⟨j, ej⟩ := List.getElem?_of_mem m1
  refine ⟨j, ej, m2, ?_⟩
  have q := kth_inn ej m2
  have nd : (innL h w).Nodup := (areas_nodup h1 w1).filter _
  exact (List.getElem?_inj (List.getElem?_eq_some_iff.mp q).1 nd).mp (q.trans e.symm)
theorem lift_down {ns : List Int} (l : ns.length = h * w) : liftL (fOf (downL h w (numAt ns)) w) h w = ns := by
  have cg : liftL (fOf (downL h w (numAt ns)) w) h w = liftL (cellV h w (up h w (numAt ns))) h w := lift_congr h1 w1 fun y x hy hx => by
    unfold fOf downL
    have lt : y * w + x < h * w := by
      have : (y + 1) * w ≤ h * w := Nat.mul_le_mul_right w hy
      rw [Nat.succ_mul] at this
      omega
    rw [List.getD_eq_getElem?_getD, List.getElem?_map, List.getElem?_range lt]
    have d1 : (y * w + x) / w = y := by rw [Nat.mul_comm, Nat.mul_add_div w1, Nat.div_eq_of_lt hx, Nat.add_zero]
    have d2 : (y * w + x) % w = x := by rw [Nat.mul_comm, Nat.mul_add_mod, Nat.mod_eq_of_lt hx]
    show cellV h w (up h w (numAt ns)) ((y * w + x) / w) ((y * w + x) % w) = _
    rw [d1, d2]
  rw [cg]
  have ll := liftL_len h1 w1 (f := cellV h w (up h w (numAt ns)))
  refine ext_getD (by rw [ll, l]) fun j hj => ?_
  cases j with
  | zero =>
    have a := mean_up h1 w1 (m := numAt ns) (root h w) ⟨h1, w1⟩ 0 (root_at h1 w1)
    have b := up_root h1 w1 (numAt ns)
    exact Option.some.inj (a.symm.trans b)
  | succ k =>
    have hk : k < (innL h w).length := by
      have : ((innL h w).map (diff (cellV h w (up h w (numAt ns))))).length + 1 = h * w := ll
      rw [List.length_map] at this
      rw [ll] at hj
      omega
    have e := List.getElem?_eq_getElem hk
    obtain ⟨j, ej, i, kj⟩ := inn_at h1 w1 e
    have d := diff_up h1 w1 (m := numAt ns) ej i
    have ks := kth_succ ej
    rw [if_pos i, kj] at ks
    rw [ks] at d
    show ((innL h w).map (diff (cellV h w (up h w (numAt ns))))).getD k 0 = ns.getD (k + 1) 0
    rw [List.getD_eq_getElem?_getD, List.getElem?_map, e]
    exact d
end
end K16
namespace K16
open PySem PySem.Spec PyProof.Rows L2 PySem.W LamX KA KW KU KL KT KDT
open Evl (pss_cut tCut)
/-! ### lifted, and taken back -/
theorem plD_lay (nss : List (List Int)) : SeqAt.shaped (plD nss) = true := by
  have one : ∀ ns : List Int, (rowD ns).canLay0 = true ∧ (rowD ns).depth ≤ 1 := fun ns => by
    obtain ⟨h1, h2⟩ := lay_is ns
    refine ⟨by simp [rowD, PyData.canLay0, h1], by simp [rowD, PyData.depth, h2]⟩
  have all : ∀ nss : List (List Int), PyData.canLayAll0 (nss.map rowD) = true ∧ PyData.depthAll (nss.map rowD) ≤ 1 := fun nss => by
    induction nss with
    | nil => exact ⟨rfl, Nat.zero_le _⟩
    | cons ns nss ih =>
      obtain ⟨a, b⟩ := one ns
      refine ⟨by simp [PyData.canLayAll0, a, ih.1], ?_⟩
      simp only [List.map_cons, PyData.depthAll]
      omega
  obtain ⟨h1, h2⟩ := all nss
  simp [SeqAt.shaped, plD, PyData.canLay0, PyData.depth, h1]
  omega
theorem eqv_pl (nss : List (List Int)) : PyData.eqv (plD nss) (plD nss) = true := SeqAt.eqv_refl _ (SeqAt.canLay_of_shaped (plD_lay nss))
theorem eqv_is (ns : List Int) : PyData.eqv (.list (ns.map PyData.int)) (.list (ns.map PyData.int)) = true := SeqAt.eqv_refl _ (SeqAt.canLay_of_shaped (shaped_is ns))
theorem ints_inj : ∀ {a b : List Int}, a.map V.int = b.map V.int → a = b
  | [], [], _ => rfl
  | [], _ :: _, h => by simp at h
  | _ :: _, [], h => by simp at h
  | a :: as, b :: bs, h => by
    simp only [List.map_cons, List.cons.injEq, V.int.injEq] at h
    rw [h.1, ints_inj h.2]
/-- a plane is one -/
theorem Pn.uniq {H : Hp} {a : Addr} {nss mss : List (List Int)} {w v : Nat} (p : Pn H a nss w) (q : Pn H a mss v) : mss = nss ∧ v = w := by
  obtain ⟨xs, e1, r1⟩ := p.rows
  obtain ⟨ys, e2, r2⟩ := q.rows
  rw [e1] at e2
  cases (HO.tup.inj (Option.some.inj e2))
  have e : mss = nss := by
    refine List.ext_getElem (by rw [← r1.1, ← r2.1]) fun i a b => ?_
    obtain ⟨b1, n1, x1, y1, z1⟩ := r1.2 i _ (List.getElem?_eq_getElem (by rw [r1.1]; exact b))
    obtain ⟨b2, n2, x2, y2, z2⟩ := r2.2 i _ (List.getElem?_eq_getElem (by rw [r1.1]; exact b))
    rw [x1] at x2
    cases x2
    rw [z1] at z2
    have := ints_inj (HO.tup.inj (Option.some.inj z2))
    rw [List.getElem?_eq_getElem b] at y1
    rw [List.getElem?_eq_getElem a] at y2
    rw [Option.some.inj y1, Option.some.inj y2, this]
  subst e
  refine ⟨rfl, ?_⟩
  obtain ⟨r, hr⟩ : ∃ r, mss[0]? = some r := ⟨_, List.getElem?_eq_getElem (by have := p.h1; omega)⟩
  have m := List.mem_of_getElem? hr
  rw [← p.ws r m, ← q.ws r m]
theorem Pn.th {K : PySem.W.Frag} {H : Hp} {a : Addr} {nss : List (List Int)} {w : Nat} (p : Pn H a nss w) : Th K H (.ref a) (some (nss.map fun ns => some (ns.map V.int))) := by
  obtain ⟨xs, e, r⟩ := p.rows
  refine .tup e ⟨by rw [r.1, List.length_map], fun i v hv => ?_⟩ (by have := p.h2; rw [r.1]; omega)
  obtain ⟨b, ns, rfl, hns, eb⟩ := r.2 i v hv
  refine ⟨some (ns.map V.int), by rw [List.getElem?_map, hns]; rfl, .tup eb (fun x hx => ?_) ?_⟩
  · obtain ⟨n, _, rfl⟩ := List.mem_map.mp hx
    exact ⟨true, .int n⟩
  · have := p.w2
    rw [List.length_map, p.ws ns (List.mem_of_getElem? hns)]
    omega
theorem Pn.ok {H : Hp} {a : Addr} {nss : List (List Int)} {w : Nat} (p : Pn H a nss w) : rowsB (some (nss.map fun ns => some (ns.map V.int))) = true := by
  have h1 := p.h1
  have h2 := p.h2
  have w1 := p.w1
  have w2 := p.w2
  have hw : width0 (nss.map fun ns => some (ns.map V.int)) = w := by
    cases e : nss with
    | nil => rw [e] at h1; simp at h1
    | cons r rs =>
      show (r.map V.int).length = w
      rw [List.length_map, p.ws r (by rw [e]; exact List.mem_cons_self)]
  simp only [rowsB, Bool.and_eq_true, decide_eq_true_eq, List.all_eq_true, List.length_map]
  refine ⟨⟨h1, h2⟩, fun o ho => ?_⟩
  obtain ⟨ns, hns, rfl⟩ := List.mem_map.mp ho
  have l := p.ws ns hns
  simp only [okAs, rowB, Bool.and_eq_true, decide_eq_true_eq, List.all_eq_true, List.length_map, beq_iff_eq]
  refine ⟨⟨⟨by omega, by omega⟩, fun x hx => ?_⟩, by rw [hw, l]⟩
  obtain ⟨n, _, rfl⟩ := List.mem_map.mp hx
  rfl
theorem cut1 {L : List Int} (h : 1 ≤ L.length) : cutV (L.map V.int) (some (1 : Int)) none = (L.drop 1).map V.int := by
  rw [List.map_drop]
  exact cut_drop (t := 1) (by rw [List.length_map]; exact h)
theorem lift_more {ns : List Int} {h w : Nat} (h1 : 1 ≤ h) (w1 : 1 ≤ w) (l : ns.length = h * w) (c : Int) : liftL (fOf (ns.map fun n => n + c) w) h w = (mean (fOf ns w) (root h w) + c) :: (innL h w).map (diff (fOf ns w)) := by
  rw [← lift_add h1 w1]
  refine lift_congr h1 w1 fun y x hy hx => ?_
  unfold fOf
  have lt : y * w + x < ns.length := by
    have : (y + 1) * w ≤ h * w := Nat.mul_le_mul_right w hy
    rw [Nat.succ_mul] at this
    omega
  rw [List.getD_eq_getElem?_getD, List.getElem?_map, List.getElem?_eq_getElem lt, List.getD_eq_getElem?_getD, List.getElem?_eq_getElem lt]
  rfl
theorem fOf_bd {ns : List Int} {h w : Nat} (l : ns.length = h * w) {lo hi : Int} (e : ∀ n ∈ ns, lo ≤ n ∧ n ≤ hi) : ∀ y x, y < h → x < w → lo ≤ fOf ns w y x ∧ fOf ns w y x ≤ hi := fun y x hy hx => by
  unfold fOf
  have lt : y * w + x < ns.length := by
    have : (y + 1) * w ≤ h * w := Nat.mul_le_mul_right w hy
    rw [Nat.succ_mul] at this
    omega
  rw [List.getD_eq_getElem?_getD, List.getElem?_eq_getElem lt]
  exact e _ (List.getElem_mem lt)
def spAreLifted : Sp := fun vs H Q _ => ∃ (st lg cl q : Addr) (ns : List Int) (h w m : Nat), vs = [.ref st, .int h, .int w, .ref q] ∧ H q = some (.lst (ns.map V.int)) ∧ (q ≠ st ∧ q ≠ lg) ∧ ns.length = h * w ∧ 1 ≤ h ∧ h ≤ 16 ∧ 1 ≤ w ∧ w ≤ 16 ∧ m ≤ 999000 ∧ StAt H st lg cl m ∧
  ∀ H', StAt H' st lg cl (m + 1) → Kp st lg H H' → Q (.bl true) H'
theorem lift_rows {ns : List Int} {h w : Nat} (w1 : 1 ≤ w) (l : ns.length = h * w) : rowsOf (liftG (rowsOf ns h w) w) (rowsOf ns h w).length w = rowsOf (liftL (fOf ns w) h w) h w := by
  unfold liftG
  rw [flat_rows w1 l, rowsOf_len]
theorem down_rows {ns : List Int} {h w : Nat} (w1 : 1 ≤ w) (l : ns.length = h * w) : rowsOf (downG (rowsOf ns h w) w) (rowsOf ns h w).length w = rowsOf (downL h w (numAt ns)) h w := by
  unfold downG
  rw [flat_rows w1 l, rowsOf_len]
section
variable {P : Program} {w : World} {K : PySem.W.Frag} {mg : Str → Option Value} {base : Heap} (T : Top K mg)
theorem ok_are_lifted : FnOk P w K mg base (L2.CX P w) 8 T._law_are_lifted.a T._law_are_lifted.d ["state", "tall", "wide", "told"] spAreLifted := by
  refine T._law_are_lifted.f.okX sc__law_are_lifted (fun vs H Q E h => ?_) (fun cdv A outer s H vs Q E hr h => ?_)
  · obtain ⟨st, lg, cl, q, ns, h, w, m, rfl, _⟩ := h
    rfl
  · obtain ⟨st, lg, cl, q, ns, h, wn, m, rfl, hq, nq, hl, h1, h2, w1, w2, hm, S, k⟩ := h
    refine ⟨_, pss_cons (ps_set (i := 4) sc__law_are_lifted.nd rfl (.inl rfl) (pe_call (ok_llines T) (hr.mono (by decide)) (by rfl) T._law_lines_of.m T._law_lines_of.f.kp (bd__law_lines_of T) .nil passE (pa_cons (pv 3) (pa_cons (pv 2) pa_nil))))
      (pss_cons (ps_set (i := 5) sc__law_are_lifted.nd rfl (.inl rfl) (pe_call (ok_llines T) (hr.mono (by decide)) (by rfl) T._law_lines_of.m T._law_lines_of.f.kp (bd__law_lines_of T) .nil passE (pa_cons (pe_call (ok_llift T) (hr.mono (by decide)) (by rfl) T._law_lift.m T._law_lift.f.kp (bd__law_lift T) .nil passE (pa_cons (pv 1) (pa_cons (pv 2) (pa_cons (pv 3) pa_nil)))) (pa_cons (pv 2) pa_nil))))
      (pss_cons (ps_set (i := 6) sc__law_are_lifted.nd rfl (.inl rfl) (pe_call (ok_llines T) (hr.mono (by decide)) (by rfl) T._law_lines_of.m T._law_lines_of.f.kp (bd__law_lines_of T) .nil passE (pa_cons (pe_call (ok_lunlift T) (hr.mono (by decide)) (by rfl) T._law_unlift.m T._law_unlift.f.kp (bd__law_unlift T) .nil passE (pa_cons (pv 1) (pa_cons (pv 2) (pa_cons (pv 3) pa_nil)))) (pa_cons (pv 2) pa_nil))))
      (pss_cut (ps_if (PW.pt (pw_or (pt_cmpR (op_neD hr.units) (pe_call (ok_lifted T) (hr.mono (by decide)) (by rfl) T.lifted.m T.lifted.f.kp (bd_lifted T) .nil passE (pa_cons (pv 4) pa_nil)) (pv 5) (nomark _))
        (pw_or (pt_cmpR (op_neD hr.units) (pe_call (ok_unlifted T) (hr.mono (by decide)) (by rfl) T.unlifted.m T.unlifted.f.kp (bd_unlifted T) .nil passE (pa_cons (pv 4) pa_nil)) (pv 6) (nomark _))
        (pw_or (pt_cmpR (op_neD hr.units) (pe_kw (ok_unlifted T) (hr.mono (by decide)) (by rfl) T.unlifted.m T.unlifted.f.kp (KA.Fun.kw1 T.unlifted.f fun _ _ _ _ _ _ _ => rfl) passE (pk_cons (pv 5) pk_nil)) (pv 4) (nomark _))
        (pw_or1 (pt_cmpR (op_neD hr.units) (pe_kw (ok_lifted T) (hr.mono (by decide)) (by rfl) T.lifted.m T.lifted.f.kp (KA.Fun.kw1 T.lifted.f fun _ _ _ _ _ _ _ => rfl) passE (pk_cons (pv 6) pk_nil)) (pv 4) (nomark _)))))))
        (pss_one (ps_ret pe_bl)) pss_nil)
      (pss_cons (ps_set (i := 7) sc__law_are_lifted.nd rfl (by first | exact .inl rfl | exact .inr rfl) (pe_call (ok_pick T) (hr.mono (by decide)) (by rfl) T._law_pick.m T._law_pick.f.kp (bd__law_pick T) .nil passE (pa_cons (pv 0) (pa_cons (pe_lst (pa_cons pe_int (pa_cons (pe_un un_neg pe_int) (pa_cons pe_int (pa_cons (pe_op op_sub pe_int (pe_op op_pow pe_int pe_int)) pa_nil))))) pa_nil))))
      (pss_cons (ps_set (i := 8) sc__law_are_lifted.nd rfl (.inl rfl) (pe_call (ok_lifted T) (hr.mono (by decide)) (by rfl) T.lifted.m T.lifted.f.kp (bd_lifted T) .nil passE (pa_cons (pe_call (ok_llines T) (hr.mono (by decide)) (by rfl) T._law_lines_of.m T._law_lines_of.f.kp (bd__law_lines_of T) .nil passE (pa_cons (pe_lc (own := [("each", 12)]) (g := gName 12) (tt := tYes) rfl sc__law_are_lifted.nd (pi_list (pv 3)) (blkOk_by (own := [("each", 12)]) (N := ["state", "tall", "wide", "told", "pane", "up", "down", "more", "lines", "least", "most", "some", "each"]) (sc := defScope s__law_are_lifted) (by decide +kernel)) (fun _ _ _ _ _ => pg_name (i := 12) sc__law_are_lifted.nd rfl (Or.inl rfl)) (fun _ _ _ _ _ => pts_nil) (fun _ _ _ _ _ => pe_op op_add (pv 12) (pv 7))) (pa_cons (pv 2) pa_nil))) pa_nil)))
      (pss_cut (ps_if (PW.pt (pw_or (pt_cmpR op_ne (pe_ix ix_list (pe_call (ok_row_by T) (hr.mono (by decide)) (by rfl) T._law_row_by_row.m T._law_row_by_row.f.kp (bd__law_row_by_row T) .nil passE (pa_cons (pv 8) pa_nil)) pe_int (fun _ _ => rfl)) (pe_op op_add (pe_ix ix_tup (pe_ix ix_tup (pv 5) pe_int (fun _ _ => rfl)) pe_int (fun _ _ => rfl)) (pv 7)) (nomark _))
        (pw_or1 (pt_cmpR (op_neD hr.units) (pe_slice sl_list (pe_call (ok_row_by T) (hr.mono (by decide)) (by rfl) T._law_row_by_row.m T._law_row_by_row.f.kp (bd__law_row_by_row T) .nil passE (pa_cons (pv 8) pa_nil)) (po_some pe_int) po_none) (pe_slice sl_list (pe_call (ok_row_by T) (hr.mono (by decide)) (by rfl) T._law_row_by_row.m T._law_row_by_row.f.kp (bd__law_row_by_row T) .nil passE (pa_cons (pv 5) pa_nil)) (po_some pe_int) po_none) (nomark _)))))
        (pss_one (ps_ret pe_bl)) pss_nil)
      (pss_cons (ps_asg (pe_tup (pa_cons (pe_callB (cr_min rfl) (by rfl) T.b_min PyProof.Rows.boot_min (pa_cons (pv 3) pa_nil)) (pa_cons (pe_callB (cr_max rfl) (by rfl) T.b_max PyProof.Rows.boot_max (pa_cons (pv 3) pa_nil)) pa_nil))) (pg_tup rfl (pgs_cons (pg_name (i := 9) sc__law_are_lifted.nd rfl (by first | exact .inl rfl | exact .inr rfl)) (pgs_cons (pg_name (i := 10) sc__law_are_lifted.nd rfl (by first | exact .inl rfl | exact .inr rfl)) pgs_nil))))
      (pss_cons (ps_set (i := 11) sc__law_are_lifted.nd rfl (.inl rfl) (pe_call (ok_row_by T) (hr.mono (by decide)) (by rfl) T._law_row_by_row.m T._law_row_by_row.f.kp (bd__law_row_by_row T) .nil passE (pa_cons (pe_call (ok_lifted T) (hr.mono (by decide)) (by rfl) T.lifted.m T.lifted.f.kp (bd_lifted T) .nil passE (pa_cons (pv 4) pa_nil)) pa_nil)))
      (pss_one (ps_ret (pe_and (pe_chain op_le op_le (pv 9) (pe_ix ix_list (pv 11) pe_int (fun _ _ => rfl)) (pv 10)) (pe_one (pe_callB (cr_all rfl) (by rfl) T.b_all (by decide +kernel) (pa_cons (pe_lc (own := [("each", 12)]) (g := gName 12) (tt := tYes) rfl sc__law_are_lifted.nd (pi_list (pe_slice sl_list (pv 11) (po_some pe_int) po_none)) (blkOk_by (own := [("each", 12)]) (N := ["state", "tall", "wide", "told", "pane", "up", "down", "more", "lines", "least", "most", "some", "each"]) (sc := defScope s__law_are_lifted) (by decide +kernel)) (fun _ _ _ _ _ => pg_name (i := 12) sc__law_are_lifted.nd rfl (Or.inl rfl)) (fun _ _ _ _ _ => pts_nil) (fun _ _ _ _ _ => pe_chain op_le op_le (pe_op op_sub (pv 9) (pv 10)) (pv 12) (pe_op op_sub (pv 10) (pv 9)))) pa_nil)))))))))))))), ?_⟩
    have wsN := rowsOf_ws (h := h) (w := wn) hl
    refine ⟨_, rfl, _, rfl, q, ns, h, wn, rfl, hq, hl, h1, h2, w1, w2, fun pa H1 s1 _ pnA => ?_⟩
    have hq1 := s1 _ _ hq
    refine ⟨_, rfl, _, rfl, _, rfl, q, ns, h, wn, rfl, hq1, hl, h1, h2, w1, w2, fun ql H2 s2 _ l2 => ⟨_, rfl, ql, _, h, wn, rfl, l2, liftL_len h1 w1, h1, h2, w1, w2, fun ub H3 s3 _ pnU => ?_⟩⟩
    have hq3 := s3 _ _ (s2 _ _ hq1)
    refine ⟨_, rfl, _, rfl, _, rfl, q, ns, h, wn, rfl, hq3, hl, h1, h2, w1, w2, fun qd H4 s4 _ l4 => ⟨_, rfl, qd, _, h, wn, rfl, l4, downL_len h1 w1, h1, h2, w1, w2, fun db H5 s5 _ pnD => ?_⟩⟩
    have pnA := ((((pnA.keep s2).keep s3).keep s4).keep s5)
    have pnU := (pnU.keep s4).keep s5
    have s05 := (((s1.trans s2).trans s3).trans s4).trans s5
    have hq5 := s05 _ _ hq
    have S5 := S.same s05
    have k5 : Kp st lg H H5 := Kp.same s05
    clear s1 s2 s3 s4 s5 s05 hq1 hq3 l2 l4
    have lU : (liftL (fOf ns wn) h wn).length = h * wn := liftL_len h1 w1
    have lD : (downL h wn (numAt ns)).length = h * wn := downL_len h1 w1
    refine ⟨fun σ' H' => σ' = [some (.ref st), some (.int (h : Nat)), some (.int (wn : Nat)), some (.ref q), some (.ref pa), some (.ref ub), some (.ref db), none, none, none, none, none, none] ∧ Same H5 H', ?_, ?_⟩
    · refine ⟨_, rfl, .ref pa, _, rfl, pnA.th, fun z => by (rw [pnA.ok] at z; cases z), fun a' n' w' ea pn' p6 H6 s6 q6 => ?_⟩
      cases ea
      obtain ⟨e1, e2⟩ := pnA.uniq pn'
      rw [e1, e2, lift_rows w1 hl] at q6
      refine ⟨_, rfl, _, _, q6.dp, (pnU.keep s6).dp, plD_lay _, plD_lay _, _, rfl, ?_⟩
      rw [eqv_pl]
      have pnA6 := pnA.keep s6
      refine iteF ⟨_, rfl, .ref pa, _, rfl, pnA6.th, fun z => by (rw [pnA6.ok] at z; cases z), fun a' n' w' ea pn' p7 H7 s7 q7 => ?_⟩
      cases ea
      obtain ⟨e1, e2⟩ := pnA6.uniq pn'
      rw [e1, e2, down_rows w1 hl] at q7
      have s67 := s6.trans s7
      refine ⟨_, rfl, _, _, q7.dp, (pnD.keep s67).dp, plD_lay _, plD_lay _, _, rfl, ?_⟩
      rw [eqv_pl]
      have pnU7 := pnU.keep s67
      refine iteF ⟨_, rfl, rfl, .ref ub, _, rfl, pnU7.th, fun z => by (rw [pnU7.ok] at z; cases z), fun a' n' w' ea pn' p8 H8 s8 q8 => ?_⟩
      cases ea
      obtain ⟨e1, e2⟩ := pnU7.uniq pn'
      rw [e1, e2, down_rows w1 lU, down_lift h1 w1 hl] at q8
      have s68 := s67.trans s8
      refine ⟨_, rfl, _, _, q8.dp, (pnA.keep s68).dp, plD_lay _, plD_lay _, _, rfl, ?_⟩
      rw [eqv_pl]
      have pnD8 := pnD.keep s68
      refine iteF ⟨_, rfl, rfl, .ref db, _, rfl, pnD8.th, fun z => by (rw [pnD8.ok] at z; cases z), fun a' n' w' ea pn' p9 H9 s9 q9 => ?_⟩
      cases ea
      obtain ⟨e1, e2⟩ := pnD8.uniq pn'
      rw [e1, e2, lift_rows w1 lD, lift_down h1 w1 hl] at q9
      have s69 := s68.trans s9
      refine ⟨_, rfl, _, _, q9.dp, (pnA.keep s69).dp, plD_lay _, plD_lay _, _, rfl, ?_⟩
      rw [eqv_pl]
      exact iteF ⟨rfl, s69⟩
    rintro σ' H6 ⟨rfl, s6⟩
    have hq6 := s6 _ _ hq5
    have pnA := pnA.keep s6
    have pnU := pnU.keep s6
    have S6 := S5.same s6
    have k6 := k5.trans (Kp.same s6)
    clear s6 S5 k5 hq5
    -- more
    refine ⟨_, rfl, _, rfl, _, _, rfl, rfl, ⟨by decide, by decide, by decide⟩, _, _, rfl, rfl, (by show 4 ≤ sizeLine; decide), fun pm hpm => ?_⟩
    have t6 := Same.new (o := .lst [V.int 1, .int (-1), .int 17, .int (0 - 10 ^ (6 : Int).toNat)]) hpm
    refine ⟨st, lg, cl, pm, _, m, rfl, upd_same, (S6.off hpm).2, (by show 0 < 4; decide), (by show 4 ≤ 1000; decide), by omega, S6.same t6, fun x H7 hx S7 kp7 => ?_⟩
    have tp7 := (Tp.same t6).trans (Tp.kp (S6.same t6) kp7)
    have hq7 := kp7 _ _ (t6 _ _ hq6) nq.1 nq.2
    have pnA := pnA.tp tp7
    have pnU := pnU.tp tp7
    have k7 := (k6.trans (Kp.same t6)).trans kp7
    have k : ∀ H', Same H7 H' → Q (.bl true) H' := fun H' s => k H' (S7.same s) (k7.trans (Kp.same s))
    obtain ⟨c, rfl⟩ : ∃ c, x = .int c := by
      simp only [List.mem_cons, List.not_mem_nil, or_false] at hx
      rcases hx with z | z | z | z <;> exact ⟨_, z⟩
    clear hx tp7 t6 hpm S6 k6 kp7 k7 S7 hq6
    -- lines
    refine ⟨_, rfl, q, rfl, ⟨_, SqL.of hq7⟩, fun D hD => lc_it walk_list (fun i H' => H' D = some (.lst (((ns.take i).map fun n => n + c).map V.int)) ∧ Same H7 H') ⟨upd_same, Same.new hD⟩ (fun _ H' _ q' => SqL.of (q'.2 _ _ hq7)) ?_ ?_⟩
    · rintro i x H8 H9 hi ⟨a1, a2⟩ ⟨rfl, hx⟩
      obtain ⟨n, hn, rfl⟩ : ∃ n, ns[i]? = some n ∧ x = V.int n := by
        rw [List.getElem?_map] at hx
        cases e : ns[i]? with
        | none => rw [e] at hx; cases hx
        | some n => rw [e] at hx; exact ⟨n, rfl, (Option.some.inj hx).symm⟩
      refine ⟨rfl, ?_⟩
      dsimp only [tYes]
      rw [if_pos rfl]
      refine ⟨_, rfl, _, rfl, _, _, rfl, rfl, _, a1, ?_, ?_, Same.put a2 hD⟩
      · rw [List.length_map, List.length_map, List.length_take]
        have : h * wn ≤ 16 * 16 := Nat.mul_le_mul h2 w2
        exact Nat.lt_of_le_of_lt (show _ ≤ 256 by omega) (by decide)
      · rw [upd_same, List.take_add_one, hn]
        simp
    rintro H8 ⟨hD8, s8⟩
    rw [List.length_map, List.take_length] at hD8
    have lM : (ns.map fun n => n + c).length = h * wn := by rw [List.length_map, hl]
    refine ⟨_, rfl, D, _, h, wn, rfl, hD8, lM, h1, h2, w1, w2, fun la H9 s9 _ pnL => ?_⟩
    refine ⟨.ref la, _, rfl, pnL.th, fun z => by (rw [pnL.ok] at z; cases z), fun a' n' w' ea pn' pl H10 s10 q10 => ?_⟩
    cases ea
    obtain ⟨e1, e2⟩ := pnL.uniq pn'
    rw [e1, e2, lift_rows w1 lM, lift_more h1 w1 hl] at q10
    clear e1 e2 pn' pnL hD8
    have s710 := (s8.trans s9).trans s10
    have l2 : ((mean (fOf ns wn) (root h wn) + c) :: (innL h wn).map (diff (fOf ns wn))).length = h * wn := by
      rw [← lift_more h1 w1 hl]
      exact liftL_len h1 w1
    have fl2 := flat_rows w1 l2
    have flU := flat_rows w1 lU
    have pnA := pnA.keep s710
    have pnU := pnU.keep s710
    have hq := s710 _ _ hq7
    have k : ∀ H', Same H10 H' → Q (.bl true) H' := fun H' s => k H' (s710.trans s)
    clear s710 s8 s9 s10 hq7 hD
    refine ⟨fun σ' H' => σ' = [some (.ref st), some (.int (h : Nat)), some (.int (wn : Nat)), some (.ref q), some (.ref pa), some (.ref ub), some (.ref db), some (.int c), some (.ref pl), none, none, none, none] ∧ Same H10 H', ?_, ?_⟩
    · refine ⟨_, rfl, pl, _, wn, rfl, q10, fun f1 H11 s11 _ l11 => ?_⟩
      rw [fl2] at l11
      obtain ⟨rs, eU, rU⟩ := (pnU.keep s11).rows
      obtain ⟨v0, hv0⟩ : ∃ v0, rs[0]? = some v0 := ⟨_, List.getElem?_eq_getElem (by rw [rU.1, rowsOf_len]; omega)⟩
      obtain ⟨b0, n0, rfl, hn0, eb0⟩ := rU.2 0 v0 hv0
      have g0 : n0[0]? = some (mean (fOf ns wn) (root h wn)) := by
        unfold rowsOf at hn0
        rw [List.getElem?_map, List.getElem?_range h1] at hn0
        have e : ((liftL (fOf ns wn) h wn).drop (0 * wn)).take wn = n0 := Option.some.inj hn0
        rw [← e, Nat.zero_mul, List.drop_zero, List.getElem?_take, if_pos (show 0 < wn from w1)]
        rfl
      refine ⟨f1, _, 0, _, rfl, rfl, SqL.of l11, atI_nat (j := 0) rfl, _, rfl, ub, rs, 0, _, rfl, rfl, SqT.of eU, atI_nat (j := 0) hv0, b0, _, 0, .int (mean (fOf ns wn) (root h wn)), rfl, rfl, SqT.of eb0, atI_nat (j := 0) (by rw [List.getElem?_map, g0]; rfl), _, rfl, _, _, rfl, rfl, rfl, _, rfl, ?_⟩
      rw [show decide (V.int (mean (fOf ns wn) (root h wn) + c) = V.int (mean (fOf ns wn) (root h wn) + c)) = true from decide_eq_true rfl]
      have q11 := q10.keep s11
      refine iteF ⟨_, rfl, pl, _, wn, rfl, q11, fun f2 H12 s12 _ l12 => ⟨1, rfl, f2, _, rfl, SqL.of l12, fun c1 hc1 => ?_⟩⟩
      have z1 := Same.new (o := .lst (cutV ((rowsOf ((mean (fOf ns wn) (root h wn) + c) :: (innL h wn).map (diff (fOf ns wn))) h wn).flatten.map V.int) (some 1) none)) hc1
      have s1112 := (s11.trans s12).trans z1
      refine ⟨_, rfl, ub, _, wn, rfl, pnU.keep s1112, fun f3 H13 s13 _ l13 => ⟨1, rfl, f3, _, rfl, SqL.of l13, fun c2 hc2 => ?_⟩⟩
      have z2 := Same.new (o := .lst (cutV ((rowsOf (liftL (fOf ns wn) h wn) h wn).flatten.map V.int) (some 1) none)) hc2
      have hw := Nat.mul_pos h1 w1
      refine ⟨_, _, dp_int_list (ns := (innL h wn).map (diff (fOf ns wn))) (z2 _ _ (s13 _ _ ?_)), dp_int_list (ns := (innL h wn).map (diff (fOf ns wn))) ?_, shaped_is _, shaped_is _, _, rfl, ?_⟩
      · rw [upd_same, fl2, cut1 (by rw [l2]; omega)]
        rfl
      · rw [upd_same, flU, cut1 (by rw [lU]; omega)]
        rfl
      · rw [eqv_is]
        exact iteF ⟨rfl, ((s1112.trans s13).trans z2)⟩
    rintro σ' H11 ⟨rfl, s11⟩
    have pnA := pnA.keep s11
    have hq := s11 _ _ hq
    have k : ∀ H', Same H11 H' → Q (.bl true) H' := fun H' s => k H' (s11.trans s)
    have npos : 0 < ns.length := by
      have := Nat.mul_pos h1 w1
      omega
    refine ⟨_, rfl, q, ns, rfl, SqL.of hq, npos, fun lo mlo blo => ⟨_, rfl, q, ns, rfl, SqL.of hq, npos, fun hi mhi bhi => ⟨(by show 2 ≤ sizeLine; decide), fun z hz => ⟨z, _, rfl, SqT.of upd_same, rfl, _, _, rfl, _, _, rfl, rfl, ?_⟩⟩⟩⟩
    have tz := Same.new (o := .tup [V.int lo, .int hi]) hz
    have bd := fOf_bd (w := wn) hl (lo := lo) (hi := hi) fun n hn => ⟨blo n hn, bhi n hn⟩
    have pnA := pnA.keep tz
    have k : ∀ H', Same (upd H11 z (.tup [V.int lo, .int hi])) H' → Q (.bl true) H' := fun H' s => k H' (tz.trans s)
    generalize upd H11 z (.tup [V.int lo, .int hi]) = H12 at pnA k ⊢
    refine ⟨_, rfl, .ref pa, _, rfl, pnA.th, fun z => by (rw [pnA.ok] at z; cases z), fun a' n' w' ea pn' pb H13 s13 q13 => ?_⟩
    cases ea
    obtain ⟨e1, e2⟩ := pnA.uniq pn'
    rw [e1, e2, lift_rows w1 hl] at q13
    clear e1 e2 pn'
    refine ⟨pb, _, wn, rfl, q13, fun f4 H14 s14 _ l14 => ?_⟩
    rw [flU] at l14
    have k : ∀ H', Same H14 H' → Q (.bl true) H' := fun H' s => k H' ((s13.trans s14).trans s)
    have mb := mean_bd bd (root h wn) ⟨h1, w1⟩ In.refl
    refine ⟨_, rfl, _, rfl, f4, _, 0, .int (mean (fOf ns wn) (root h wn)), rfl, rfl, SqL.of l14, atI_nat (j := 0) rfl, _, _, rfl, rfl, _, rfl, ?_⟩
    rw [decide_eq_true mb.1]
    refine iteT ⟨_, rfl, _, _, rfl, rfl, _, rfl, ?_⟩
    rw [decide_eq_true mb.2]
    refine iteT ⟨_, rfl, 1, rfl, f4, _, rfl, SqL.of l14, fun c3 hc3 => ⟨c3, rfl, ⟨_, SqL.of upd_same⟩, fun D hD => ?_⟩⟩
    have hw := Nat.mul_pos h1 w1
    rw [cut1 (by rw [lU]; omega)]
    have db := diff_bd h1 w1 bd
    have l3 : (upd H14 c3 (.lst (((liftL (fOf ns wn) h wn).drop 1).map V.int))) c3 = some (.lst (((innL h wn).map (diff (fOf ns wn))).map V.int)) := upd_same
    have t3 := Same.new (o := .lst (((liftL (fOf ns wn) h wn).drop 1).map V.int)) hc3
    have hD' : (upd H14 c3 (.lst (((liftL (fOf ns wn) h wn).drop 1).map V.int))) D = none := by
      rw [← cut1 (by rw [lU]; omega)]
      exact hD
    have k : ∀ H', Same (upd H14 c3 (.lst (((liftL (fOf ns wn) h wn).drop 1).map V.int))) H' → Q (.bl true) H' := fun H' s => k H' (t3.trans s)
    generalize upd H14 c3 (.lst (((liftL (fOf ns wn) h wn).drop 1).map V.int)) = H15 at l3 hD' k ⊢
    refine lc_it walk_list (fun i H' => H' D = some (.lst ((List.replicate i true).map V.bl)) ∧ Same H15 H') ⟨upd_same, Same.new hD'⟩ (fun _ H' _ q' => SqL.of (q'.2 _ _ l3)) ?_ ?_
    · rintro i x H16 H17 hi ⟨a1, a2⟩ ⟨rfl, hx⟩
      obtain ⟨d, hd, rfl⟩ : ∃ d, ((innL h wn).map (diff (fOf ns wn)))[i]? = some d ∧ x = V.int d := by
        rw [List.getElem?_map] at hx
        cases e : ((innL h wn).map (diff (fOf ns wn)))[i]? with
        | none => rw [e] at hx; cases hx
        | some n => rw [e] at hx; exact ⟨n, rfl, (Option.some.inj hx).symm⟩
      obtain ⟨d1, d2⟩ := db d (List.mem_of_getElem? hd)
      refine ⟨rfl, ?_⟩
      dsimp only [tYes]
      rw [if_pos rfl]
      refine ⟨_, rfl, _, rfl, _, _, rfl, rfl, _, rfl, _, _, rfl, rfl, _, rfl, ?_⟩
      rw [decide_eq_true d1]
      refine iteT ⟨_, rfl, _, rfl, _, _, rfl, rfl, _, _, rfl, rfl, _, a1, ?_, ?_, Same.put a2 hD'⟩
      · rw [List.length_map, List.length_replicate]
        have l : ((innL h wn).map (diff (fOf ns wn))).length + 1 = h * wn := lU
        have : h * wn ≤ 16 * 16 := Nat.mul_le_mul h2 w2
        rw [List.length_map] at hi
        exact Nat.lt_of_le_of_lt (show i ≤ 256 by omega) (by decide)
      · dsimp only
        rw [decide_eq_true d2, upd_same, List.replicate_succ', List.map_append]
        rfl
    · rintro H16 ⟨a1, a2⟩
      refine ⟨D, _, rfl, SqL.of a1, ?_⟩
      rw [show (List.replicate (((innL h wn).map (diff (fOf ns wn))).map V.int).length true).all id = true by simp]
      exact k H16 a2
end
end K16
namespace K16
open PySem PySem.Spec PyProof.Rows L2 PySem.W LamX KA KW KU KL KT KDT
open Evl (pss_cut tCut)
/-! ### the greatest difference is reached -/
theorem mean_const {f : Nat → Nat → Int} {c : Int} : ∀ a : Ar, a.ok → (∀ y x, a.t ≤ y → y < a.t + a.h → a.l ≤ x → x < a.l + a.w → f y x = c) → mean f a = c := by
  refine area_ind (fun a o i e => ?_) fun a o i p q e => ?_
  · obtain ⟨e1, e2⟩ := one_of o i
    rw [mean_one o i]
    exact e _ _ (by omega) (by omega) (by omega) (by omega)
  · have i1 := half_in (a := a) false
    have i2 := half_in (a := a) true
    unfold In at i1 i2
    rw [mean_in o i, p fun y x a b c d => e y x (by omega) (by omega) (by omega) (by omega), q fun y x a b c d => e y x (by omega) (by omega) (by omega) (by omega)]
    omega
theorem half_not {a : Ar} {y x : Nat} (h : (a.half false).t ≤ y ∧ y < (a.half false).t + (a.half false).h ∧ (a.half false).l ≤ x ∧ x < (a.half false).l + (a.half false).w) : liesIn (a.half true) y x = false := by
  unfold liesIn
  refine decide_eq_false fun z => ?_
  unfold Ar.half at h z
  by_cases c : a.w ≤ a.h
  · rw [if_pos c] at h z
    simp only [if_true, Bool.false_eq_true, if_false] at h z
    omega
  · rw [if_neg c] at h z
    simp only [if_true, Bool.false_eq_true, if_false] at h z
    omega
def toldV (a : Ar) (flip : Bool) (lo hi : Int) (y x : Nat) : Int := if (liesIn (a.half true) y x) = flip then lo else hi
theorem diff_told {a : Ar} (o : a.ok) (i : a.inn = true) {lo hi : Int} {flip : Bool} : diff (toldV a flip lo hi) a = if flip = true then lo - hi else hi - lo := by
  unfold diff
  rw [mean_const (c := if flip = true then lo else hi) (a.half true) (half_ok o i true) fun y x h1 h2 h3 h4 => ?_, mean_const (c := if flip = true then hi else lo) (a.half false) (half_ok o i false) fun y x h1 h2 h3 h4 => ?_]
  · cases flip <;> rfl
  · unfold toldV
    rw [half_not ⟨h1, h2, h3, h4⟩]
    cases flip <;> rfl
  · unfold toldV liesIn
    rw [decide_eq_true ⟨h1, h2, h3, h4⟩]
    cases flip <;> rfl
theorem dots_at {h w y x : Nat} (hy : y < h) (hx : x < w) : (dotsL h w)[y * w + x]? = some (y, x) := by
  induction h with
  | zero => cases hy
  | succ h ih =>
    rw [dotsL_succ]
    rcases Nat.lt_or_ge y h with c | c
    · have lt : y * w + x < h * w := by
        have : (y + 1) * w ≤ h * w := Nat.mul_le_mul_right w c
        rw [Nat.succ_mul] at this
        omega
      rw [List.getElem?_append_left (by rw [dotsL_len]; exact lt)]
      exact ih c
    · have : y = h := by omega
      subst this
      rw [List.getElem?_append_right (by rw [dotsL_len]; omega), dotsL_len, Nat.add_sub_cancel_left, List.getElem?_map, List.getElem?_range hx]
      rfl
def toldL (a : Ar) (flip : Bool) (lo hi : Int) (h w : Nat) : List Int := (dotsL h w).map fun d => toldV a flip lo hi d.1 d.2
theorem told_f {a : Ar} {flip : Bool} {lo hi : Int} {h w : Nat} : ∀ y x, y < h → x < w → fOf (toldL a flip lo hi h w) w y x = toldV a flip lo hi y x := fun y x hy hx => by
  unfold fOf toldL
  rw [List.getD_eq_getElem?_getD, List.getElem?_map, dots_at hy hx]
  rfl
theorem told_diff {a : Ar} {flip : Bool} {lo hi : Int} {h w t : Nat} (h1 : 1 ≤ h) (w1 : 1 ≤ w) (e : (innL h w)[t]? = some a) : (liftL (fOf (toldL a flip lo hi h w) w) h w)[t + 1]? = some (if flip = true then lo - hi else hi - lo) := by
  obtain ⟨o, n, i⟩ := inn_ok h1 w1 (List.mem_of_getElem? e)
  rw [lift_congr h1 w1 told_f]
  show ((innL h w).map (diff (toldV a flip lo hi)))[t]? = _
  rw [List.getElem?_map, e, ← diff_told o i]
  rfl
theorem AL.tp {H H' : Hp} {vs : List V} {as : List Ar} (p : AL H vs as) (t : Tp H H') : AL H' vs as := by
  induction p with
  | nil => exact .nil
  | cons e _ ih => exact .cons (t _ _ e) ih
theorem DL.tp {H H' : Hp} {vs : List V} {ds : List (Nat × Nat)} (p : DL H vs ds) (t : Tp H H') : DL H' vs ds := by
  induction p with
  | nil => exact .nil
  | cons e _ ih => exact .cons (t _ _ e) ih
theorem inn_le {h w : Nat} (h1 : 1 ≤ h) (h2 : h ≤ 16) (w1 : 1 ≤ w) (w2 : w ≤ 16) : (innL h w).length ≤ 256 := by
  have := inn_len h1 w1
  have := Nat.mul_le_mul h2 w2
  omega
def spReaches : Sp := fun vs H Q _ => ∃ (st lg cl : Addr) (h w m : Nat), vs = [.ref st, .int h, .int w] ∧ 1 ≤ h ∧ h ≤ 16 ∧ 1 ≤ w ∧ w ≤ 16 ∧ m ≤ 999000 ∧ StAt H st lg cl m ∧
  ∀ H', StAt H' st lg cl (m + 3) → Kp st lg H H' → Q (.bl true) H'
section
variable {P : Program} {w : World} {K : PySem.W.Frag} {mg : Str → Option Value} {base : Heap} (T : Top K mg)
theorem ok_reaches : FnOk P w K mg base (L2.CX P w) 8 T._law_reaches.a T._law_reaches.d ["state", "tall", "wide"] spReaches := by
  refine T._law_reaches.f.okX sc__law_reaches (fun vs H Q E h => ?_) (fun cdv A outer s H vs Q E hr h => ?_)
  · obtain ⟨st, lg, cl, h, w, m, rfl, _⟩ := h
    rfl
  · obtain ⟨st, lg, cl, h, wn, m, rfl, h1, h2, w1, w2, hm, S, k⟩ := h
    refine ⟨_, pss_cons (ps_setLc (i := 3) (own := [("area", 12)]) (g := gName 12) rfl sc__law_reaches.nd rfl rfl (sw_true rfl rfl rfl (by decide +kernel)) (pi_list (pe_call (ok_lareas T) (hr.mono (by decide)) (by rfl) T._law_areas.m T._law_areas.f.kp (bd__law_areas T) .nil passE (pa_cons (pv 1) (pa_cons (pv 2) pa_nil)))) (blkOk_by (own := [("area", 12)]) (N := ["state", "tall", "wide", "inner", "turn", "least", "most", "half", "flip", "told", "dot", "due", "area"]) (sc := defScope s__law_reaches) (by decide +kernel))
        (fun _ _ _ _ _ => pg_name (i := 12) sc__law_reaches.nd rfl (Or.inl rfl)) (fun _ _ _ _ _ => pts_one (pt_cmpR (show OpR _ _ (rNeD K) from op_neD hr.units) (pe_call (ok_lhalves T) (hr.mono (by decide)) (by rfl) T._law_halves.m T._law_halves.f.kp (bd__law_halves T) .nil passE (pa_cons (pv 12) pa_nil)) (pe_lst pa_nil) (nomark _))) (fun _ _ _ _ _ => pv 12))
      (pss_cons (ps_if (pt_cmpR (op_eqD hr.units) (pv 3) (pe_lst pa_nil) (nomark _)) (pss_one (ps_ret pe_bl)) pss_nil)
      (pss_cons (ps_par (i := 4) (j := 5) rfl sc__law_reaches.nd rfl rfl (by decide) rfl rfl (pa_cons (pe_call (ok_draw T) (hr.mono (by decide)) (by rfl) T._law_draw.m T._law_draw.f.kp (bd__law_draw T) .nil passE (pa_cons (pv 0) (pa_cons (pe_callB call_len_seq (by rfl) T.b_len PySem.boot_len (pa_cons (pv 3) pa_nil)) pa_nil))) (pa_cons (pe_call (ok_figure T) (hr.mono (by decide)) (by rfl) T._law_figure.m T._law_figure.f.kp (bd__law_figure T) .nil passE (pa_cons (pv 0) (pa_cons pe_int pa_nil))) pa_nil)) (by rfl))
      (pss_cons (ps_par (i := 6) (j := 7) rfl sc__law_reaches.nd rfl rfl (by decide) rfl rfl (pa_cons (pe_op op_add (pv 5) (pe_call (ok_draw T) (hr.mono (by decide)) (by rfl) T._law_draw.m T._law_draw.f.kp (bd__law_draw T) .nil passE (pa_cons (pv 0) (pa_cons pe_int pa_nil)))) (pa_cons (pe_ix ix_list (pe_call (ok_lhalves T) (hr.mono (by decide)) (by rfl) T._law_halves.m T._law_halves.f.kp (bd__law_halves T) .nil passE (pa_cons (pe_ix ix_list (pv 3) (pv 4) (fun _ _ => rfl)) pa_nil)) pe_int (fun _ _ => rfl)) pa_nil)) (by rfl))
      (pss_cut (ps_for (passes_of rfl) rfl (pi_tup (pe_tup (pa_cons pe_bl (pa_cons pe_bl pa_nil)))) (pg_name (i := 8) sc__law_reaches.nd rfl (.inl rfl))
        (pss_cons (ps_set (i := 9) sc__law_reaches.nd rfl (.inl rfl) (pe_lst pa_nil))
        (pss_cut (ps_for (passes_of rfl) rfl (pi_list (pe_call (ok_dots T) (hr.mono (by decide)) (by rfl) T._law_all_dots.m T._law_all_dots.f.kp (bd__law_all_dots T) .nil passE (pa_cons (pv 1) (pa_cons (pv 2) pa_nil)))) (pg_name (i := 10) sc__law_reaches.nd rfl (.inl rfl))
          (pss_one (ps_expr (pe_bm PySem.F.plainAttrs_list PySem.F.slot_list_append PySem.F.type_list_append mt_append (pv 9) (pa_cons (pe_ifExp (pt_cmpR op_ne (pe_call (ok_lies T) (hr.mono (by decide)) (by rfl) T._law_lies_in.m T._law_lies_in.f.kp (bd__law_lies_in T) .nil passE (pa_cons (pv 7) (pa_cons (pv 10) pa_nil))) (pv 8) (nomark _)) (pv 6) (pv 5)) pa_nil)))))
        (pss_cut (ps_set (i := 11) sc__law_reaches.nd rfl (.inl rfl) (pe_ifExp (pt_val (pv 8)) (pe_op op_sub (pv 5) (pv 6)) (pe_op op_sub (pv 6) (pv 5))))
        (pss_one (ps_if (pt_cmpR op_ne (pe_ix ix_list (pe_call (ok_row_by T) (hr.mono (by decide)) (by rfl) T._law_row_by_row.m T._law_row_by_row.f.kp (bd__law_row_by_row T) .nil passE (pa_cons (pe_call (ok_lifted T) (hr.mono (by decide)) (by rfl) T.lifted.m T.lifted.f.kp (bd_lifted T) .nil passE (pa_cons (pe_call (ok_llines T) (hr.mono (by decide)) (by rfl) T._law_lines_of.m T._law_lines_of.f.kp (bd__law_lines_of T) .nil passE (pa_cons (pv 9) (pa_cons (pv 2) pa_nil))) pa_nil)) pa_nil)) (pe_op op_add (pv 4) pe_int) (fun _ _ => rfl)) (pv 11) (nomark _)) (pss_one (ps_ret pe_bl)) pss_nil))))))
      (pss_one (ps_ret pe_bl)))))), ?_⟩
    refine ⟨_, rfl, _, rfl, h, wn, rfl, h1, h2, w1, w2, fun qa us H1 s1 _ l1 al => ⟨qa, rfl, ⟨_, SqL.of l1⟩, fun D hD => lc_it walk_list (fun i H' => ∃ ws, H' D = some (.lst ws) ∧ AL H' ws (((areasL h wn).take i).filter Ar.inn) ∧ AL H' us (areasL h wn) ∧ Same H1 H') ⟨[], upd_same, .nil, al.same (Same.new hD), Same.new hD⟩ (fun _ H' _ q' => SqL.of (q'.elim fun ws q' => q'.2.2.2 _ _ l1)) ?_ ?_⟩⟩
    · rintro i x H2 H3 hi ⟨ws, a1, a2, a3, a4⟩ ⟨rfl, hx⟩
      obtain ⟨p, ai, rfl, hai, ep⟩ := a3.get hx
      have lt := lit_areas h1 h2 w1 w2 (List.mem_of_getElem? hai)
      refine ⟨rfl, _, rfl, p, ai, rfl, ep, lt, fun hq hs H4 s4 _ l4 al4 => ⟨(by show 0 ≤ sizeLine; decide), fun pz hz => ?_⟩⟩
      have tz := Same.new (o := .lst []) hz
      refine ⟨_, _, dp_als (tz _ _ l4) (al4.same tz), dp_nil upd_same, shaped_al _, shaped_nil, _, rfl, ?_⟩
      rw [eqv_al_nil, halves_nil]
      have sz := s4.trans tz
      have a1 := sz _ _ a1
      have a2 := a2.same sz
      have a3 := a3.same sz
      have a4 := a4.trans sz
      have ep := sz _ _ ep
      generalize upd H4 pz (.lst []) = H5 at a1 a2 a3 a4 ep ⊢
      have tk : ((areasL h wn).take (i + 1)).filter Ar.inn = ((areasL h wn).take i).filter Ar.inn ++ (if ai.inn = true then [ai] else []) := by
        rw [List.take_add_one, hai, List.filter_append]
        cases hi : ai.inn <;> simp [hi]
      rw [tk]
      cases inn : ai.inn
      · refine iteF ⟨ws, a1, ?_, a3, a4⟩
        rw [if_neg Bool.false_ne_true, List.append_nil]
        exact a2
      · refine iteT ⟨_, rfl, ws, a1, ?_, ws ++ [.ref p], upd_same, ?_, a3.put a1, Same.put a4 hD⟩
        · rw [a2.len]
          have : (((areasL h wn).take i).filter Ar.inn).length ≤ 511 := by
            refine Nat.le_trans (List.length_filter_le _ _) (Nat.le_trans (List.length_take_le' _ _) ?_)
            rw [areas_len h1 w1]
            have := Nat.mul_le_mul h2 w2
            omega
          exact Nat.lt_of_le_of_lt this (by decide)
        · rw [if_pos rfl]
          exact (a2.append (.cons ep .nil)).put a1
    rintro H2 ⟨ws, lD, alW, _, s2⟩
    rw [List.take_of_length_le (by rw [al.len]; exact Nat.le_refl _)] at alW
    have alW : AL H2 ws (innL h wn) := alW
    have S2 := (S.same s1).same s2
    have nD := (S.same s1).off hD
    have k : ∀ H', StAt H' st lg cl (m + 3) → Kp st lg H2 H' → Q (.bl true) H' := fun H' a b => k H' a ((Kp.same (s1.trans s2)).trans b)
    refine ⟨_, rfl, (by show 0 ≤ sizeLine; decide), fun pz hz => ?_⟩
    have tz := Same.new (o := .lst []) hz
    refine ⟨_, _, dp_als (tz _ _ lD) (alW.same tz), dp_nil upd_same, shaped_al _, shaped_nil, _, rfl, ?_⟩
    rw [eqv_al_nil]
    have S3 := S2.same tz
    have lD3 := tz _ _ lD
    have al3 := alW.same tz
    have k : ∀ H', StAt H' st lg cl (m + 3) → Kp st lg (upd H2 pz (.lst [])) H' → Q (.bl true) H' := fun H' a b => k H' a ((Kp.same tz).trans b)
    generalize upd H2 pz (.lst []) = H3 at S3 lD3 al3 k ⊢
    cases hI : (innL h wn).isEmpty
    case true => exact iteT (k H3 (S3.mono (by omega)) Kp.refl)
    have il := inn_le h1 h2 w1 w2
    have wl := al3.len
    have ip : 0 < (innL h wn).length := by
      cases e : innL h wn with
      | nil => rw [e] at hI; cases hI
      | cons _ _ => simp
    refine iteF ⟨_, rfl, _, rfl, D, ws, rfl, .inl (SqL.of lD3), st, lg, cl, ws.length, m, rfl, by omega, ?_, by omega, S3, fun t H4 ht S4 kp4 => ⟨_, rfl, st, lg, cl, 1, m + 1, rfl, by decide, by omega, S4, fun lo H5 S5 kp5 => ⟨_, _, rfl, ?_⟩⟩⟩
    · exact Nat.lt_of_le_of_lt (show _ ≤ 256 by omega) (by decide)
    have tp4 := Tp.kp S3 kp4
    have tp5 := Tp.kp S4 kp5
    have lD5 := kp5 _ _ (kp4 _ _ lD3 nD.1 nD.2) nD.1 nD.2
    have al5 := (al3.tp tp4).tp tp5
    refine ⟨_, rfl, _, rfl, st, lg, cl, 1024, m + 2, rfl, by decide, by decide, by omega, S5, fun r H6 hr6 S6 kp6 => ⟨_, _, rfl, rfl, ?_⟩⟩
    have lD6 := kp6 _ _ lD5 nD.1 nD.2
    have al6 := al5.tp (Tp.kp S5 kp6)
    obtain ⟨a, hat⟩ : ∃ a, (innL h wn)[t]? = some a := ⟨_, List.getElem?_eq_getElem (by omega)⟩
    obtain ⟨qt, hqt, eqt⟩ := al6.at_ hat
    obtain ⟨oa, na, ia⟩ := inn_ok h1 w1 (List.mem_of_getElem? hat)
    have lt := lit_areas h1 h2 w1 w2 (List.mem_filter.mp (List.mem_of_getElem? hat)).1
    have k : ∀ H', Same H6 H' → Q (.bl true) H' := fun H' s => k H' (S6.same s) (((kp4.trans kp5).trans kp6).trans (Kp.same s))
    dsimp only
    generalize hm : lo + ((r : Nat) : Int) = hi
    refine ⟨_, rfl, _, rfl, D, ws, _, _, rfl, rfl, SqL.of lD6, atI_nat hqt, qt, a, rfl, eqt, lt, fun hq hs H7 s7 _ l7 al7 => ?_⟩
    unfold halvesL at al7
    rw [ia, if_pos rfl] at al7
    obtain ⟨ph, hph, eph⟩ := al7.at_ (i := 1) rfl
    refine ⟨hq, hs, 1, _, rfl, rfl, SqL.of l7, atI_nat (j := 1) hph, _, _, rfl, ?_⟩
    clear lD3 al3 kp4 kp5 lD5 al5 kp6 al7 hI tp4 tp5 hz
    have k : ∀ H', Same H7 H' → Q (.bl true) H' := fun H' s => k H' (s7.trans s)
    refine ⟨fun σ' H' => (∃ v8 v9 v10 v11, σ' = [some (.ref st), some (.int (h : Nat)), some (.int (wn : Nat)), some (.ref D), some (.int (t : Nat)), some (.int lo), some (.int hi), some (.ref ph), v8, v9, v10, v11, none]) ∧ Same H7 H', ?_, ?_⟩
    · refine ⟨(by show 2 ≤ sizeLine; decide), fun z hz => ⟨z, rfl, ⟨_, SqT.of upd_same⟩, for_it walk_tup (fun n σ H' => (∃ v8 v9 v10 v11, σ = [some (.ref st), some (.int (h : Nat)), some (.int (wn : Nat)), some (.ref D), some (.int (t : Nat)), some (.int lo), some (.int hi), some (.ref ph), v8, v9, v10, v11, none]) ∧ Same H7 H' ∧ H' z = some (.tup [.bl false, .bl true]))
        ⟨⟨_, _, _, _, rfl⟩, Same.new hz, upd_same⟩ (fun j σ H' _ q' => SqT.of q'.2.2) ?_ fun σ H' q' => ⟨q'.1, q'.2.1⟩⟩⟩
      rintro n x σ H9 H8 hn ⟨⟨v8, v9, v10, v11, rfl⟩, s8, hz8⟩ ⟨rfl, hx⟩
      obtain ⟨flip, rfl⟩ : ∃ flip, x = .bl flip := by
        match n, hn with
        | 0, _ => exact ⟨false, (Option.some.inj hx).symm⟩
        | 1, _ => exact ⟨true, (Option.some.inj hx).symm⟩
      clear hx
      have lT : (toldL a flip lo hi h wn).length = h * wn := by
        unfold toldL
        rw [List.length_map, dotsL_len]
      have eph8 := s8 _ _ eph
      refine ⟨(by show 0 ≤ sizeLine; decide), fun fa hfa => ?_⟩
      have t9 := Same.new (o := .lst []) hfa
      have f9 : (upd H8 fa (.lst [])) fa = some (.lst []) := upd_same
      generalize upd H8 fa (.lst []) = H9 at t9 f9 ⊢
      refine ⟨fun σ' H' => (∃ v10 v11, σ' = [some (.ref st), some (.int (h : Nat)), some (.int (wn : Nat)), some (.ref D), some (.int (t : Nat)), some (.int lo), some (.int hi), some (.ref ph), some (.bl flip), some (.ref fa), v10, v11, none]) ∧ Same H8 H' ∧ H' fa = some (.lst ((toldL a flip lo hi h wn).map V.int)), ?_, ?_⟩
      · refine ⟨_, rfl, _, rfl, h, wn, rfl, h2, w2, fun qd ds H10 s10 f10 l10 dl => ⟨qd, rfl, ⟨_, SqL.of l10⟩, for_it walk_list (fun n σ H' => (∃ v10 v11, σ = [some (.ref st), some (.int (h : Nat)), some (.int (wn : Nat)), some (.ref D), some (.int (t : Nat)), some (.int lo), some (.int hi), some (.ref ph), some (.bl flip), some (.ref fa), v10, v11, none]) ∧ Same H8 H' ∧ H' fa = some (.lst ((((dotsL h wn).take n).map fun d => toldV a flip lo hi d.1 d.2).map V.int)) ∧ H' qd = some (.lst ds) ∧ DL H' ds (dotsL h wn))
          ⟨⟨_, _, rfl⟩, t9.trans s10, s10 _ _ f9, l10, dl⟩ (fun j σ H' _ q' => SqL.of q'.2.2.2.1) ?_ fun σ H' q' => ?_⟩⟩
        · have qf : qd ≠ fa := fun z => by rw [z, f9] at f10; cases f10
          rintro n x σ H12 H11 hn ⟨⟨v10, v11, rfl⟩, s11, hf, hqd, dl⟩ ⟨rfl, hx⟩
          obtain ⟨pd, d, rfl, hd, ed⟩ := dl.get hx
          have fin : ∀ v : Int, v = toldV a flip lo hi d.1 d.2 → Same H8 (upd H11 fa (.lst ((((dotsL h wn).take n).map fun d => toldV a flip lo hi d.1 d.2).map V.int ++ [V.int v]))) ∧ (upd H11 fa (.lst ((((dotsL h wn).take n).map fun d => toldV a flip lo hi d.1 d.2).map V.int ++ [V.int v]))) fa = some (.lst ((((dotsL h wn).take (n + 1)).map fun d => toldV a flip lo hi d.1 d.2).map V.int)) ∧ (upd H11 fa (.lst ((((dotsL h wn).take n).map fun d => toldV a flip lo hi d.1 d.2).map V.int ++ [V.int v]))) qd = some (.lst ds) ∧ DL (upd H11 fa (.lst ((((dotsL h wn).take n).map fun d => toldV a flip lo hi d.1 d.2).map V.int ++ [V.int v]))) ds (dotsL h wn) := fun v ev => by
            refine ⟨Same.put s11 hfa, ?_, (upd_ne qf).trans hqd, dl.put hf⟩
            rw [upd_same, List.take_add_one, hd, ev]
            simp
          have bz : ((((dotsL h wn).take n).map fun d => toldV a flip lo hi d.1 d.2).map V.int).length < sizeLine := by
            rw [List.length_map, List.length_map, List.length_take]
            have := dl.len
            have : h * wn ≤ 16 * 16 := Nat.mul_le_mul h2 w2
            rw [dotsL_len]
            exact Nat.lt_of_le_of_lt (show _ ≤ 256 by omega) (by decide)
          refine ⟨_, rfl, .inl ⟨rfl, _, SqL.of hf⟩, _, rfl, _, rfl, ph, a.half true, pd, d.1, d.2, rfl, s11 _ _ eph8, ed, _, rfl, rfl, _, rfl, ?_⟩
          have dv : decide (V.bl (liesIn (a.half true) d.1 d.2) = V.bl flip) = decide (liesIn (a.half true) d.1 d.2 = flip) := decide_eq_decide.mpr ⟨fun z => V.bl.inj z, fun z => by rw [z]⟩
          rw [dv]
          by_cases e : liesIn (a.half true) d.1 d.2 = flip
          · rw [decide_eq_true e]
            refine iteF ⟨_, rfl, fa, _, _, rfl, rfl, hf, bz, ⟨_, _, rfl⟩, fin lo ?_⟩
            unfold toldV
            rw [if_pos e]
          · rw [decide_eq_false e]
            refine iteT ⟨_, rfl, fa, _, _, rfl, rfl, hf, bz, ⟨_, _, rfl⟩, fin hi ?_⟩
            unfold toldV
            rw [if_neg e]
        · obtain ⟨⟨v10, v11, rfl⟩, s11, hf, _, dl⟩ := q'
          rw [List.take_of_length_le (by rw [dl.len]; exact Nat.le_refl _)] at hf
          exact ⟨⟨_, _, rfl⟩, s11, hf⟩
      rintro σ' H10 ⟨⟨v10, v11, rfl⟩, s10, hf⟩
      refine ⟨fun σ' H' => (∃ v10, σ' = [some (.ref st), some (.int (h : Nat)), some (.int (wn : Nat)), some (.ref D), some (.int (t : Nat)), some (.int lo), some (.int hi), some (.ref ph), some (.bl flip), some (.ref fa), v10, some (.int (if flip = true then lo - hi else hi - lo)), none]) ∧ H10 = H', ?_, ?_⟩
      · refine ⟨_, rfl, _, rfl, ?_⟩
        cases flip
        · exact iteF ⟨_, rfl, _, rfl, _, _, rfl, rfl, ⟨_, rfl⟩, rfl⟩
        · exact iteT ⟨_, rfl, _, rfl, _, _, rfl, rfl, ⟨_, rfl⟩, rfl⟩
      rintro σ' H11 ⟨⟨v10, rfl⟩, rfl⟩
      have td := told_diff (flip := flip) (lo := lo) (hi := hi) h1 w1 hat
      refine ⟨_, rfl, _, rfl, fa, _, h, wn, rfl, hf, lT, h1, h2, w1, w2, fun lp H11 s11 _ pnL => ⟨.ref lp, _, rfl, pnL.th, fun z => by (rw [pnL.ok] at z; cases z), fun a' n' w' ea pn' pp H12 s12 q12 => ?_⟩⟩
      cases ea
      obtain ⟨e1, e2⟩ := pnL.uniq pn'
      rw [e1, e2, lift_rows w1 lT] at q12
      clear e1 e2 pn'
      refine ⟨pp, _, wn, rfl, q12, fun f4 H13 s13 _ l13 => ?_⟩
      rw [flat_rows w1 (liftL_len h1 w1)] at l13
      refine ⟨_, rfl, _, _, rfl, rfl, f4, _, _, .int (if flip = true then lo - hi else hi - lo), rfl, rfl, SqL.of l13, ?_, _, rfl, rfl, _, rfl, ?_⟩
      · rw [show ((t : Nat) : Int) + 1 = ((t + 1 : Nat) : Int) by omega]
        exact atI_nat (by rw [List.getElem?_map, td]; rfl)
      · have sA := ((s10.trans s11).trans s12).trans s13
        rw [show decide (V.int (if flip = true then lo - hi else hi - lo) = V.int (if flip = true then lo - hi else hi - lo)) = true from decide_eq_true rfl]
        exact iteF ⟨⟨_, _, _, _, rfl⟩, s8.trans sA, sA _ _ hz8⟩
    rintro σ' H8 ⟨⟨v8, v9, v10, v11, rfl⟩, s8⟩
    exact k H8 s8
end
end K16
namespace K16
open PySem PySem.Spec PyProof.Rows L2 PySem.W LamX KA KW KU
open Evl (pss_cut tCut)
/-- the code object of a def that makes lambdas, and its table -/
structure LamT (K : PySem.W.Frag) (x : Str) (st : Stmt) (a : Addr) (d : FuncData) (c P : Addr) : Prop where
  ex : ∃ (oc : Value) (od : Option Addr) (kV doc pm : Value) (an : Option Addr) (ct : Value) (osl : Array (Option Value)),
    d = PySem.W.fnOf x x (defArgs st) (defBody st) (defScope st) .none kV doc pm an (.ref c) ct ∧ K.lookup a = some ⟨oc, od, .func d, osl⟩ ∧ PySem.W.codeIn K (.ref c) x = true
theorem pe_caught {X : Cx} (T : Top X.K X.mg) {c Pt : Addr} {k : Nat} {params : Arguments} {body : Expr} {scope : Scope} {t : XK → TE} {p lpos pos : Pos} (TB : TabB X.base X.mg c Pt) (hcode : X.env.code = .ref c) (hr : Room (k + 2) X.A) (hg : Gl X "_law_caught") (L : LamS X.env.scope scope)
    (hdef : defaultsOf params X.env = ([], [])) (hbind : ∀ (q : Str) (cl : List (Str × Addr)) (pm cv ctv : Value), bindArgs (PySem.W.kla_fn "<lambda>" q params body scope cl pm cv ctv) ⟨[], []⟩ = pure [])
    (hbody : ∀ (A : Around) (outer : List Env) (s : Shared) (H : Hp) (E : XK) (f c' : Addr), Room k (A.deeper (lamEnv X scope s.heap.objs.size f c')) → PE (lamCx X A outer s H E scope f c') body (t E)) :
    PE X (.Call (.Name "_law_caught" p) [.Lambda params body scope lpos] [] pos) (tLam [(Pt, X.env.qual ++ "<lambda>")] (TCaught X.K T.reel.C) t) := by
  obtain ⟨oc, od, kV, doc, pm, an, cdv, ct, osl, ed, lk, hcd⟩ := T._law_caught.f.ex
  have hb := bd__law_caught T
  rw [ed] at lk hb
  exact pe_lamcall (T := [(Pt, X.env.qual ++ "<lambda>")]) hg T._law_caught.m T._law_caught.f.kp lk hcd hb sc__law_caught rfl (.inl rfl)
    (caught_gives sc__law_caught rfl rfl rfl rfl T.reel.g (by decide) (by decide) (by decide) (by decide) (by decide)) TB hcode List.mem_cons_self (fun p hp e => by
      rcases List.mem_singleton.mp hp with rfl
      rfl) hr L hdef hbind hbody
/-- all but the state and the tables stands as it stood -/
def KpN (st lg : Addr) (H H' : Hp) : Prop := ∀ b o, H b = some o → b ≠ st → b ≠ lg → (∀ ps, o ≠ .tbl ps) → H' b = some o
theorem KpN.refl {st lg : Addr} {H : Hp} : KpN st lg H H := fun _ _ h _ _ _ => h
theorem KpN.trans {st lg : Addr} {H H1 H2 : Hp} (a : KpN st lg H H1) (b : KpN st lg H1 H2) : KpN st lg H H2 := fun c o h n1 n2 n3 => b c o (a c o h n1 n2 n3) n1 n2 n3
theorem KpN.kp {st lg : Addr} {H H1 : Hp} (a : Kp st lg H H1) : KpN st lg H H1 := fun c o h n1 n2 _ => a c o h n1 n2
theorem KpN.ext {st lg : Addr} {H H1 : Hp} (a : ExtN H H1) : KpN st lg H H1 := fun c o h _ _ n => a c o h n
theorem KpN.new {st lg p : Addr} {H : Hp} {o : HO} (h : H p = none) : KpN st lg H (upd H p o) := .kp (.same (Same.new h))
abbrev lamQ : Str := (envOfC "_law_are_refused" (defScope s__law_are_refused) 0 0 .none).qual ++ "<lambda>"
abbrev tabs (Pt : Addr) : List (Addr × Str) := [(Pt, lamQ)]
theorem tabs_kp {st lg cl : Addr} {n : Nat} {L : List (Addr × Str)} {H H' : Hp} (t : Tabs L H) (S : StAt H st lg cl n) (e : Kp st lg H H') : Tabs L H' := by
  obtain ⟨_, _, _, _, S', _⟩ := S
  intro p hp
  obtain ⟨ps, h1, h2, h3⟩ := t p hp
  refine ⟨ps, e _ _ h1 (ne_of h1 S'.d (by intro z; cases z)) (ne_of h1 S'.l (by intro z; cases z)), h2, fun pos cv hc => ?_⟩
  obtain ⟨c, e1, e2⟩ := h3 pos cv hc
  exact ⟨c, e1, e _ _ e2 (ne_of e2 S'.d (by intro z; unfold CodeO at z; cases z)) (ne_of e2 S'.l (by intro z; unfold CodeO at z; cases z))⟩
theorem stAt_ext {H H' : Hp} {st lg cl : Addr} {n : Nat} (S : StAt H st lg cl n) (e : ExtN H H') : StAt H' st lg cl n := by
  obtain ⟨a, b, c, d, s, h⟩ := S
  exact ⟨a, b, c, d, { s with d := e _ _ s.d (fun _ z => by cases z), l := e _ _ s.l (fun _ z => by cases z), c := e _ _ s.c (fun _ z => by cases z) }, h⟩
theorem Pl.kpN {K : PySem.W.Frag} {H H' : Hp} {st lg : Addr} {x : V} {b : Bool} (h : Pl K H x b) (n : ∀ a, x = .ref a → a ≠ st ∧ a ≠ lg) (e : KpN st lg H H') : Pl K H' x b := by
  cases h with
  | int i => exact .int i
  | bl i => exact .bl i
  | str i => exact .str i
  | non => exact .non
  | tup q => exact .tup (e _ _ q (n _ rfl).1 (n _ rfl).2 (fun _ z => by cases z))
  | lst q => exact .lst (e _ _ q (n _ rfl).1 (n _ rfl).2 (fun _ z => by cases z))
  | dK q => exact .dK (e _ _ q (n _ rfl).1 (n _ rfl).2 (fun _ z => by cases z))
/-- a value that stands whatever is drawn -/
structure Std (K : PySem.W.Frag) (H : Hp) (st lg : Addr) (x : V) : Prop where
  pl : ∃ b, Pl K H x b
  off : ∀ a, x = .ref a → a ≠ st ∧ a ≠ lg
theorem Std.kpN {K : PySem.W.Frag} {H H' : Hp} {st lg : Addr} {x : V} (h : Std K H st lg x) (e : KpN st lg H H') : Std K H' st lg x := by
  obtain ⟨⟨b, p⟩, n⟩ := h
  exact ⟨⟨b, p.kpN n e⟩, n⟩
theorem Std.flat {K : PySem.W.Frag} {H : Hp} {st lg : Addr} {x : V} {b : Bool} (p : Pl K H x b) (r : ∀ a, x ≠ .ref a) : Std K H st lg x := ⟨⟨b, p⟩, fun a e => absurd e (r a)⟩
theorem Std.updL {K : PySem.W.Frag} {H : Hp} {st lg er : Addr} {x : V} {xs ys : List V} (h : Std K H st lg x) (hl : H er = some (.lst xs)) : Std K (upd H er (.lst ys)) st lg x := by
  obtain ⟨⟨b, p⟩, n⟩ := h
  refine ⟨⟨b, ?_⟩, n⟩
  cases p with
  | int i => exact .int i
  | bl i => exact .bl i
  | str i => exact .str i
  | non => exact .non
  | tup q => exact .tup ((upd_ne (ne_of q hl (by intro z; cases z))).trans q)
  | @lst a zs q =>
    by_cases e : a = er
    · subst e
      exact .lst upd_same
    · exact .lst ((upd_ne e).trans q)
  | dK q => exact .dK ((upd_ne (ne_of q hl (by intro z; cases z))).trans q)
theorem Std.same {K : PySem.W.Frag} {H H' : Hp} {st lg : Addr} {x : V} (h : Std K H st lg x) (e : Same H H') : Std K H' st lg x := h.kpN (.kp (.same e))
/-- the list of the errors that were caught, all of the class at C -/
structure Errs (H : Hp) (st lg er C : Addr) (as : List Addr) : Prop where
  l : H er = some (.lst (as.map V.ref))
  n1 : er ≠ st
  n2 : er ≠ lg
  e : ∀ a ∈ as, H a = some (ExV (.ref C) none a) ∧ a ≠ st ∧ a ≠ lg
theorem exV_tbl {c : Value} {d : Option Addr} {a : Addr} (ps : Array Value) : ExV c d a ≠ .tbl ps := fun z => by
  unfold ExV at z
  cases z
theorem exV_lst {c : Value} {d : Option Addr} {a : Addr} (xs : List V) : ExV c d a ≠ .lst xs := fun z => by
  unfold ExV at z
  cases z
theorem Errs.kpN {H H' : Hp} {st lg er C : Addr} {as : List Addr} (h : Errs H st lg er C as) (k : KpN st lg H H') : Errs H' st lg er C as :=
  ⟨k _ _ h.l h.n1 h.n2 (fun _ z => by cases z), h.n1, h.n2, fun a ha => ⟨k _ _ (h.e a ha).1 (h.e a ha).2.1 (h.e a ha).2.2 exV_tbl, (h.e a ha).2⟩⟩
theorem Errs.app {H : Hp} {st lg er C a : Addr} {as : List Addr} (h : Errs H st lg er C as) (ha : H a = some (ExV (.ref C) none a)) (h1 : a ≠ st) (h2 : a ≠ lg) : Errs (upd H er (.lst (as.map V.ref ++ [.ref a]))) st lg er C (as ++ [a]) := by
  have ne : ∀ b, H b = some (ExV (.ref C) none b) → b ≠ er := fun b hb => ne_of hb h.l (exV_lst _)
  refine ⟨by rw [upd_same]; simp, h.n1, h.n2, fun b hb => ?_⟩
  rcases List.mem_append.mp hb with hb | hb
  · exact ⟨(upd_ne (ne b (h.e b hb).1)).trans (h.e b hb).1, (h.e b hb).2⟩
  · rcases List.mem_singleton.mp hb with rfl
    exact ⟨(upd_ne (ne b ha)).trans ha, h1, h2⟩
theorem stAt_upd {H : Hp} {st lg cl er : Addr} {n : Nat} {xs ys : List V} (S : StAt H st lg cl n) (h : H er = some (.lst xs)) (h1 : er ≠ st) (h2 : er ≠ lg) (h3 : er ≠ cl) : StAt (upd H er (.lst ys)) st lg cl n := by
  obtain ⟨a, b, c, d, s, h'⟩ := S
  exact ⟨a, b, c, d, { s with d := (upd_ne h1.symm).trans s.d, l := (upd_ne h2.symm).trans s.l, c := (upd_ne h3.symm).trans s.c }, h'⟩
theorem tabs_upd {L : List (Addr × Str)} {H : Hp} {er : Addr} {xs ys : List V} (t : Tabs L H) (h : H er = some (.lst xs)) : Tabs L (upd H er (.lst ys)) := by
  intro p hp
  obtain ⟨ps, h1, h2, h3⟩ := t p hp
  refine ⟨ps, (upd_ne (ne_of h1 h (by intro z; cases z))).trans h1, h2, fun pos cv hc => ?_⟩
  obtain ⟨c, e1, e2⟩ := h3 pos cv hc
  exact ⟨c, e1, (upd_ne (ne_of e2 h (by intro z; unfold CodeO at z; cases z))).trans e2⟩
theorem KpN.upd {H X : Hp} {st lg er : Addr} {o : HO} (k : KpN st lg H X) (h : ∀ u, H er = some u → ∃ ps, u = .tbl ps) : KpN st lg H (upd X er o) := fun b u e n1 n2 n3 => by
  have : b ≠ er := fun z => by
    subst z
    obtain ⟨ps, q⟩ := h u e
    exact n3 ps q
  rw [upd_ne this]
  exact k b u e n1 n2 n3
theorem KpN.free {H X : Hp} {st lg er : Addr} (k : KpN st lg H X) (h : X er = none) (n1 : er ≠ st) (n2 : er ≠ lg) : ∀ u, H er = some u → ∃ ps, u = .tbl ps := fun u e => by
  by_cases c : ∃ ps, u = .tbl ps
  · exact c
  · have z := k er u e n1 n2 (fun ps q => c ⟨ps, q⟩)
    rw [h] at z
    cases z
theorem kit_self {K : PySem.W.Frag} {C : Addr} : PySem.W.kitOne K (.ref C) (.ref C) = some true := by
  unfold PySem.W.kitOne
  rw [if_pos (by simp)]
theorem caught_err {K : PySem.W.Frag} {mg : Str → Option Value} (T : Top K mg) {n : Str} (X : ExcT K mg n T.reel.C) {Pt st lg cl : Addr} {m m' : Nat} {t : XK → TE} {σ : L2.St} {H : Hp} {Q : VK} (hT : Tabs (tabs Pt) H) (S : StAt H st lg cl m)
    (A : ∀ (H1 : Hp) (E : XK) (Q1 : VK), ExtN H H1 → StAt H1 st lg cl m → (∀ H2, Kp st lg H1 H2 → StAt H2 st lg cl m' → E (.ref X.C) none H2) → t E σ H1 Q1)
    (k : ∀ a H', StAt H' st lg cl m' → Tabs (tabs Pt) H' → KpN st lg H H' → H' a = some (ExV (.ref X.C) none a) → a ≠ st → a ≠ lg → Q (.ref a) H') : tLam (tabs Pt) (TCaught K T.reel.C) t σ H Q := by
  refine ⟨hT, fun H1 e1 t1 Q1 hQ1 => A H1 _ Q1 e1 (stAt_ext S e1) fun H2 kp S2 => ⟨X.exm T.reel, fun a ha => ?_⟩⟩
  have t2 := tabs_kp t1 (stAt_ext S e1) kp
  exact k a _ (S2.same (Same.new ha)) (t2.ext (Same.new ha)) (((KpN.ext e1).trans (.kp kp)).trans (.new ha)) upd_same (S2.off ha).1 (S2.off ha).2
theorem ite_same {x : V} {A B : Prop} {d : Decidable (x = x)} (h : B) : if (!@decide (x = x) d) = true then A else B := by
  rw [if_neg (by simp)]
  exact h
theorem pair_fits {i j : Int} (h1 : -65535 ≤ i) (h2 : i ≤ 65535) (h3 : -65535 ≤ j) (h4 : j ≤ 65535) : (PyData.tuple [.int i, .int j]).showable = true ∧ (PyData.tuple [.int i, .int j]).hasDict = false ∧ (PyData.tuple [.int i, .int j]).depth ≤ 60 ∧ (PyData.tuple [.int i, .int j]).shown.length ≤ sizeLine := by
  obtain ⟨a, b, c⟩ := int_small h1 h2
  obtain ⟨a', b', c'⟩ := int_small h3 h4
  refine ⟨by simp [PyData.showable, PyData.showableAll] at c c' ⊢; exact ⟨c, c'⟩, by simp [PyData.hasDict, PyData.hasDictAll], by simp [PyData.depth, PyData.depthAll], small_fits (by simp [PyData.leavesShort, PyData.leavesShortAll] at a a' ⊢; exact ⟨a, a'⟩) ?_⟩
  simp only [PyData.weight, PyData.weightAll] at b b' ⊢
  have : (2 : Nat) ^ 20 = 1048576 := by decide
  omega
/-- the law's code object, and its table: FnG of a def that makes lambdas -/
theorem fnG_ofC {CX : CXT} {P : Program} {w : World} {K : PySem.W.Frag} {mg : Str → Option Value} {base : Heap} {k : Nat} {f c Pt : Addr} {x : Str} {st : Stmt} {fd : FuncData} {N ps : List Str} {sp : Sp} (LT : LamT K x st f fd c Pt) (S : FnScope N ps (defScope st))
    (len : ∀ vs H Q E, sp vs H Q E → vs.length = ps.length)
    (hbody : ∀ (A : Around) (outer : List Env) (s : Shared) (H : Hp) (vs : List V) (Q : VK) (E : XK), Room k (A.deeper (envOfC x (defScope st) s.heap.objs.size f (.ref c))) → A.guards = some [] → sp vs H Q E →
      ∃ t, PSs (cxOf CX P w K mg base N x (defScope st) f (.ref c) A outer s H E) (defBody st) t ∧ t { nx := fun _ H' => Q .non H', rt := Q } (L2.start N vs) H) : FnG P w K mg base CX (k + 1) f fd ps sp := by
  obtain ⟨oc, od, kV, doc, pm, an, ct, osl, rfl, lk, hcd⟩ := LT.ex
  exact ⟨len, fun A outer s H args us vs Q E hr hg e0 hb r h => run_ofS lk hcd S hr e0 hb r (len _ _ _ _ h) fun hr' => hbody A outer s H vs Q E hr' hg h⟩
/-! ### calls by names -/
section
variable {K : PySem.W.Frag} {x qual : Str} {st : Stmt} {f : Addr} {fd : FuncData}
theorem Fun.kw3 {a b c : Str} (F : Fun K x qual st f fd) (h : ∀ (kV doc pm : Value) (an : Option Addr) (cdv ct u v z : Value), bindArgs (PySem.W.fnOf x qual (defArgs st) (defBody st) (defScope st) .none kV doc pm an cdv ct) ⟨[], [(c, u), (b, v), (a, z)]⟩ = pure [(a, z), (b, v), (c, u)]) :
    KBn K fd [a, b, c] 0 [c, b, a] (fun _ ws => ws.reverse) (fun _ zs => zs.reverse) := by
  obtain ⟨oc, od, kV, doc, pm, an, cdv, ct, osl, rfl, lk, hcd⟩ := F.ex
  refine ⟨fun s us ws X l1 l2 => ?_, fun {_ _ zs ws} _ r => ?_⟩
  · match us, ws, l1, l2 with
    | [], [u, v, z], _, _ => exact .of_eq (h kV doc pm an cdv ct u v z)
  · clear h
    have rev : ∀ {zs : List V} {ws : List Value}, Vals zs ws → Vals zs.reverse ws.reverse := fun {zs ws} r => by
      induction r with
      | nil => exact .nil
      | cons h _ ih =>
        rw [List.reverse_cons, List.reverse_cons]
        exact ih.append (.cons h .nil)
    exact rev r
def swap3 {α : Type} : List α → List α
  | [x, y, z] => [x, z, y]
  | l => l
theorem Fun.kw3m {a b c : Str} (F : Fun K x qual st f fd) (h : ∀ (kV doc pm : Value) (an : Option Addr) (cdv ct u v z : Value), bindArgs (PySem.W.fnOf x qual (defArgs st) (defBody st) (defScope st) .none kV doc pm an cdv ct) ⟨[], [(a, u), (c, v), (b, z)]⟩ = pure [(a, u), (b, z), (c, v)]) :
    KBn K fd [a, b, c] 0 [a, c, b] (fun _ ws => swap3 ws) (fun _ zs => swap3 zs) := by
  obtain ⟨oc, od, kV, doc, pm, an, cdv, ct, osl, rfl, lk, hcd⟩ := F.ex
  refine ⟨fun s us ws X l1 l2 => ?_, fun {_ _ zs ws} _ r => ?_⟩
  · match us, ws, l1, l2 with
    | [], [u, v, z], _, _ => exact .of_eq (h kV doc pm an cdv ct u v z)
  · clear h
    match zs, ws, r with
    | [], [], _ => exact .nil
    | [_], [_], r => exact r
    | [_, _], [_, _], r => exact r
    | [_, _, _], [_, _, _], .cons h1 (.cons h2 (.cons h3 .nil)) => exact .cons h1 (.cons h3 (.cons h2 .nil))
    | _ :: _ :: _ :: _ :: _, _ :: _ :: _ :: _ :: _, r => exact r
end
/-! ### what a reading promises at the law's own values -/
end K16
namespace K16
open PySem PySem.Spec PyProof.Rows L2 PySem.W LamX KA KW KU KL KT KDT
open Evl (pss_cut tCut)
/-! ### what is refused -/
theorem pe_or {X : Cx} {e : PySem.Expr} {t1 t2 : TE} (h1 : PE X e t1) (h2 : PE X e t2) : PE X e (fun σ H Q => t1 σ H Q ∨ t2 σ H Q) := ⟨fun pins s σ H Q I h => h.elim (h1.run pins s σ H Q I) (h2.run pins s σ H Q I)⟩
section
variable {K : PySem.W.Frag} {H H' : Hp}
theorem ExtN.of (s : Same H H') : ExtN H H' := fun b o e _ => s b o e
theorem Pl.extN {x : V} {b : Bool} (h : Pl K H x b) (e : ExtN H H') : Pl K H' x b := by
  cases h with
  | int i => exact .int i
  | bl i => exact .bl i
  | str i => exact .str i
  | non => exact .non
  | tup q => exact .tup (e _ _ q (fun _ z => by cases z))
  | lst q => exact .lst (e _ _ q (fun _ z => by cases z))
  | dK q => exact .dK (e _ _ q (fun _ z => by cases z))
theorem Nt.extN {x : V} (h : Nt H x) (e : ExtN H H') : Nt H' x := by
  cases h with
  | int i => exact .int i
  | bl i => exact .bl i
  | str i => exact .str i
  | non => exact .non
  | lst q => exact .lst (e _ _ q (fun _ z => by cases z))
  | dK q => exact .dK (e _ _ q (fun _ z => by cases z))
theorem Rw.extN {x : V} {o : Option (List V)} (h : Rw K H x o) (e : ExtN H H') : Rw K H' x o := by
  cases h with
  | no h => exact .no (h.extN e)
  | tup q p l => exact .tup (e _ _ q (fun _ z => by cases z)) (fun x hx => (p x hx).imp fun b h => h.extN e) l
theorem Th.extN {x : V} {o : Option (List (Option (List V)))} (h : Th K H x o) (e : ExtN H H') : Th K H' x o := by
  cases h with
  | no h => exact .no (h.extN e)
  | tup q p l => exact .tup (e _ _ q (fun _ z => by cases z)) ⟨p.1, fun i v hv => by
      obtain ⟨o, a, b⟩ := p.2 i v hv
      exact ⟨o, a, b.extN e⟩⟩ l
theorem Tp.extN (e : ExtN H H') : Tp H H' := fun b xs q => e _ _ q (fun _ z => by cases z)
theorem Tp.kpN {st lg cl : Addr} {m : Nat} (S : StAt H st lg cl m) (k : KpN st lg H H') : Tp H H' := fun b xs e => by
  obtain ⟨_, _, _, _, s, _⟩ := S
  exact k _ _ e (ne_of e s.d (by intro z; cases z)) (ne_of e s.l (by intro z; cases z)) (fun _ z => by cases z)
/-- what is a plane is judged to be one -/
theorem th_pn {a : Addr} {o : Option (List (Option (List V)))} {nss : List (List Int)} {w : Nat} (h : Th K H (.ref a) o) (p : Pn H a nss w) : rowsB o = true := by
  obtain ⟨xs, e, r⟩ := p.rows
  cases h with
  | no h =>
    cases h with
    | lst q => rw [e] at q; cases q
    | dK q => rw [e] at q; cases q
  | @tup _ vs os q rw' l =>
    rw [e] at q
    cases (HO.tup.inj (Option.some.inj q))
    have eo : os = nss.map fun ns => some (ns.map V.int) := by
      refine List.ext_getElem? fun i => ?_
      by_cases c : i < xs.length
      · obtain ⟨o, h1, h2⟩ := rw'.2 i _ (List.getElem?_eq_getElem c)
        obtain ⟨b, ns, x1, x2, x3⟩ := r.2 i _ (List.getElem?_eq_getElem c)
        rw [x1] at h2
        rw [h1, List.getElem?_map, x2]
        cases h2 with
        | no h =>
          cases h with
          | lst q => rw [x3] at q; cases q
          | dK q => rw [x3] at q; cases q
        | tup q _ _ =>
          rw [x3] at q
          cases (HO.tup.inj (Option.some.inj q))
          rfl
      · rw [List.getElem?_eq_none (by rw [← rw'.1]; omega), List.getElem?_eq_none (by rw [List.length_map, ← r.1]; omega)]
    rw [eo]
    exact p.ok
end
section
variable {P : Program} {w : World} {K : PySem.W.Frag} {mg : Str → Option Value} {base : Heap} (T : Top K mg)
def spAreRefused (Pt : Addr) : Sp := fun vs H Q _ => ∃ (st lg cl pa : Addr) (nss : List (List Int)) (w m : Nat), vs = [.ref st, .ref pa] ∧ Pn H pa nss w ∧ m ≤ 900000 ∧ StAt H st lg cl m ∧ Tabs (tabs Pt) H ∧
  ∀ H', StAt H' st lg cl (m + 18) → Tabs (tabs Pt) H' → KpN st lg H H' → Q (.bl true) H'
theorem ok_are_refused {c Pt : Addr} (LT : LamT K "_law_are_refused" s__law_are_refused T._law_are_refused.a T._law_are_refused.d c Pt) (TB : TabB base mg c Pt) : FnG P w K mg base (L2.CX P w) 12 T._law_are_refused.a T._law_are_refused.d ["state", "pane"] (spAreRefused Pt) := by
  refine fnG_ofC LT sc__law_are_refused (fun vs H Q E h => ?_) (fun A outer s0 H vs Q E hr hg h => ?_)
  · obtain ⟨st, lg, cl, pa, nss, w, m, rfl, _⟩ := h
    rfl
  · obtain ⟨st, lg, cl, pa, nss, wn, m, rfl, pn, hm, S, Tb, k⟩ := h
    have hr9 : Room (9 + 2) (A.deeper (envOfC "_law_are_refused" (defScope s__law_are_refused) s0.heap.objs.size T._law_are_refused.a (.ref c))) := hr
    refine ⟨_, pss_cut (ps_for (passes_of rfl) rfl (pi_range1 (by rfl) T.b_range (pa_cons pe_int pa_nil)) (pg_name (i := 2) sc__law_are_refused.nd rfl (.inl rfl))
        (pss_cons (ps_set (i := 5) sc__law_are_refused.nd rfl (.inr rfl) (pe_call (ok_bent T) (hr.mono (by decide)) (by rfl) T._law_bent_pane.m T._law_bent_pane.f.kp (bd__law_bent_pane T) .nil passE (pa_cons (pv 0) (pa_cons (pv 1) pa_nil))))
        (pss_cons (ps_set (i := 3) sc__law_are_refused.nd rfl (.inl rfl) (pe_call (ok_is_pane T) (hr.mono (by decide)) (by rfl) T._law_is_pane.m T._law_is_pane.f.kp (bd__law_is_pane T) .nil passE (pa_cons (pv 5) pa_nil)))
        (pss_cons (ps_if (pt_not (pt_val (pe_call (ok_says T) (hr.mono (by decide)) (by rfl) T._law_says.m T._law_says.f.kp (bd__law_says T) .nil passE (pa_cons (pe_call (ok_is_rectangle T) (hr.mono (by decide)) (by rfl) T.is_rectangle.m T.is_rectangle.f.kp (bd_is_rectangle T) .nil passE (pa_cons (pv 5) pa_nil)) (pa_cons (pv 3) pa_nil))))) (pss_one (ps_ret pe_bl)) pss_nil)
        (pss_one (ps_for (passes_of rfl) rfl (pi_tup (pe_tup (pa_cons (pe_glob (v := .ref T.lifted.a) (by rfl) T.lifted.m rfl) (pa_cons (pe_glob (v := .ref T.unlifted.a) (by rfl) T.unlifted.m rfl) pa_nil)))) (pg_name (i := 7) sc__law_are_refused.nd rfl (.inr rfl))
          (pss_cons (ps_set (i := 4) sc__law_are_refused.nd rfl (.inl rfl) (pe_caught T TB rfl hr9 (by rfl) (lamS_by (sc := defScope s__law_are_refused) (by decide +kernel)) rfl (fun _ _ _ _ _ => rfl) (fun A outer s H E f c' h => pe_or (pe_callL (i := 7) (ok_lifted T) (h.mono (by decide)) rfl (Or.inr (Or.inr rfl)) T.lifted.f.kp (bd_lifted T) .nil (passX rfl rfl rfl rfl) (pa_cons (pv 5) pa_nil)) (pe_callL (i := 7) (ok_unlifted T) (h.mono (by decide)) rfl (Or.inr (Or.inr rfl)) T.unlifted.f.kp (bd_unlifted T) .nil (passX rfl rfl rfl rfl) (pa_cons (pv 5) pa_nil)))))
          (pss_one (ps_if (PW.pt (pw_or (PW.pt (pw_and (pt_val (pv 3)) (pw_and1 (pt_cmpR op_notN (pv 4) pe_non (nomark _))))) (pw_or1 (PW.pt (pw_and (pt_not (pt_val (pv 3))) (pw_and1 (pt_not (pt_val (pe_callB (show CallR _ _ (rIs2 K) from call_is2) (by rfl) T.b_isinstance PyProof.Rows.boot_isinstance (pa_cons (pv 4) (pa_cons (pe_glob (v := .ref T.BadRectangle.C) (by rfl) T.BadRectangle.g rfl) pa_nil)))))))))))
            (pss_one (ps_ret pe_bl)) pss_nil)))))))))
      (pss_cons (ps_set (i := 8) sc__law_are_refused.nd rfl (.inr rfl) (pe_call (ok_pick T) (hr.mono (by decide)) (by rfl) T._law_pick.m T._law_pick.f.kp (bd__law_pick T) .nil passE (pa_cons (pv 0) (pa_cons (pe_lst (pa_cons pe_int (pa_cons pe_int (pa_cons (pe_un un_neg pe_int) (pa_cons (pe_op op_pow pe_int pe_int) (pa_cons pe_non (pa_cons pe_bl (pa_cons pe_bl (pa_cons pe_str (pa_cons (pe_tup (pa_cons pe_int pa_nil)) (pa_cons (pe_lst pa_nil) pa_nil))))))))))) pa_nil))))
      (pss_cons (ps_set (i := 6) sc__law_are_refused.nd rfl (.inr rfl) (pe_op op_add pe_int (pe_call (ok_draw T) (hr.mono (by decide)) (by rfl) T._law_draw.m T._law_draw.f.kp (bd__law_draw T) .nil passE (pa_cons (pv 0) (pa_cons pe_int pa_nil)))))
      (pss_cons (ps_if (pt_not (pt_val (pe_callB (show CallR _ _ (rIs2 K) from call_is2) (by rfl) T.b_isinstance PyProof.Rows.boot_isinstance (pa_cons (pe_caught T TB rfl hr9 (by rfl) (lamS_by (sc := defScope s__law_are_refused) (by decide +kernel)) rfl (fun _ _ _ _ _ => rfl) (fun A outer s H E f c' h => (pe_call (ok_areas T) (h.mono (by decide)) (by rfl) T.areas.m T.areas.f.kp (bd_areas T) .nil (passX rfl rfl rfl rfl) (pa_cons (pv 8) (pa_cons (pv 6) pa_nil))))) (pa_cons (pe_glob (v := .ref T.BadSize.C) (by rfl) T.BadSize.g rfl) pa_nil))))) (pss_one (ps_ret pe_bl)) pss_nil)
      (pss_one (ps_ret (pe_and (pe_callB (show CallR _ _ (rIs2 K) from call_is2) (by rfl) T.b_isinstance PyProof.Rows.boot_isinstance (pa_cons (pe_caught T TB rfl hr9 (by rfl) (lamS_by (sc := defScope s__law_are_refused) (by decide +kernel)) rfl (fun _ _ _ _ _ => rfl) (fun A outer s H E f c' h => (pe_call (ok_areas T) (h.mono (by decide)) (by rfl) T.areas.m T.areas.f.kp (bd_areas T) .nil (passX rfl rfl rfl rfl) (pa_cons (pv 6) (pa_cons (pv 8) pa_nil))))) (pa_cons (pe_glob (v := .ref T.BadSize.C) (by rfl) T.BadSize.g rfl) pa_nil)))
        (pe_one (pe_cmpR op_isB (pe_call (ok_is_rectangle T) (hr.mono (by decide)) (by rfl) T.is_rectangle.m T.is_rectangle.f.kp (bd_is_rectangle T) .nil passE (pa_cons (pv 1) pa_nil)) pe_bl (nomark _))))))))), ?_⟩
    refine ⟨fun σ' H' => (∃ v2 v3 v4 v5 v7, σ' = [some (.ref st), some (.ref pa), v2, v3, v4, v5, none, v7, none]) ∧ StAt H' st lg cl (m + 16) ∧ Tabs (tabs Pt) H' ∧ KpN st lg H H' ∧ Pn H' pa nss wn, ?_, ?_⟩
    · refine ⟨4, rfl, by decide, by decide, for_it walk_range (fun n σ H' => (∃ v2 v3 v4 v5 v7, σ = [some (.ref st), some (.ref pa), v2, v3, v4, v5, none, v7, none]) ∧ StAt H' st lg cl (m + 4 * n) ∧ Tabs (tabs Pt) H' ∧ KpN st lg H H' ∧ Pn H' pa nss wn)
        ⟨⟨none, none, none, none, none, rfl⟩, S, Tb, .refl, pn⟩ (fun _ _ _ _ _ => trivial) ?_ fun σ H' q' => q'⟩
      rintro n x σ H2 H1 hn ⟨⟨v2, v3, v4, v5, v7, rfl⟩, S, Tb, kN, pn⟩ ⟨rfl, rfl⟩
      have hn : n < 4 := hn
      refine ⟨_, rfl, _, rfl, st, lg, cl, pa, nss, wn, m + 4 * n, rfl, pn, by omega, S, fun y H3 th S3 kp3 => ?_⟩
      obtain ⟨o, th⟩ := th
      have Tb3 := tabs_kp Tb S kp3
      have kN3 := kN.trans (.kp kp3)
      have pn3 := pn.tp (Tp.kp S kp3)
      clear S Tb kN pn kp3
      refine ⟨_, rfl, y, o, rfl, th, fun H4 s4 => ?_⟩
      refine ⟨_, rfl, y, o, rfl, th.keep s4, fun H5 s5 => ⟨_, rfl, _, _, rfl, _, rfl, ?_⟩⟩
      rw [show (rowsB o == rowsB o) = true from beq_self_eq_true _]
      refine iteF ⟨(by show 2 ≤ sizeLine; decide), fun z hz => ?_⟩
      have sz := (s4.trans s5).trans (Same.new (o := .tup [V.ref T.lifted.a, V.ref T.unlifted.a]) hz)
      have e6 : ExtN H3 (upd H5 z (.tup [V.ref T.lifted.a, V.ref T.unlifted.a])) := ExtN.of sz
      have z6 : (upd H5 z (.tup [V.ref T.lifted.a, V.ref T.unlifted.a])) z = some (.tup [V.ref T.lifted.a, V.ref T.unlifted.a]) := upd_same
      have Tb6 := Tb3.ext sz
      have S6 := S3.same sz
      generalize upd H5 z (.tup [V.ref T.lifted.a, V.ref T.unlifted.a]) = H6 at e6 z6 Tb6 S6 ⊢
      refine ⟨z, rfl, ⟨_, SqT.of z6⟩, for_it walk_tup (fun j σ H' => (∃ v2 v4 v7, σ = [some (.ref st), some (.ref pa), v2, some (.bl (rowsB o)), v4, some y, none, v7, none]) ∧ ExtN H3 H' ∧ StAt H' st lg cl (m + 4 * n + 4) ∧ Tabs (tabs Pt) H' ∧ H' z = some (.tup [V.ref T.lifted.a, V.ref T.unlifted.a]))
        ⟨⟨_, _, _, rfl⟩, e6, S6, Tb6, z6⟩ (fun j σ H' _ q' => SqT.of q'.2.2.2.2) ?_ fun σ H' q' => ?_⟩
      · rintro j x σ H8 H7 hj ⟨⟨v2, v4, v7, rfl⟩, e7, S7, Tb7, z7⟩ ⟨rfl, hx⟩
        have nt : ∀ ps, HO.tup [V.ref T.lifted.a, V.ref T.unlifted.a] ≠ .tbl ps := fun _ z => by cases z
        refine ⟨Tb7, fun H9 e9 Tb9 Q1 hQ1 => ?_⟩
        have th9 := (th.extN e7).extN e9
        have S9 := stAt_ext S7 e9
        have z9 := e9 _ _ z7 nt
        have e39 : ExtN H3 H9 := fun b o q u => e9 _ _ (e7 _ _ q u) u
        have more : ∀ H', Same H9 H' → ExtN H3 H' ∧ StAt H' st lg cl (m + 4 * n + 4) ∧ Tabs (tabs Pt) H' ∧ H' z = some (.tup [V.ref T.lifted.a, V.ref T.unlifted.a]) := fun H' s => ⟨fun b o q u => s _ _ (e39 _ _ q u), S9.same s, Tb9.ext s, s _ _ z9⟩
        have hx2 : x = .ref T.lifted.a ∨ x = .ref T.unlifted.a := by
          match j, hj with
          | 0, _ => exact .inl (Option.some.inj hx).symm
          | 1, _ => exact .inr (Option.some.inj hx).symm
        cases hR : rowsB o
        · rcases hx2 with rfl | rfl
          · refine .inl ⟨rfl, _, rfl, y, o, rfl, th9, fun _ H10 s10 => ⟨T.BadRectangle.exm T.reel, fun a ha => ?_⟩, fun a nss' w' ea pn' => absurd (th_pn (ea ▸ th9) pn') (by rw [hR]; exact Bool.false_ne_true)⟩
            have sa := s10.trans (Same.new (o := ExV (.ref T.BadRectangle.C) none a) ha)
            refine ⟨_, rfl, _, rfl, ?_⟩
            refine iteF (iteF ⟨_, rfl, _, rfl, ?_⟩)
            refine iteT ⟨_, rfl, .inr ⟨a, T.BadRectangle.C, _, _, true, rfl, upd_same, T.BadRectangle.e, .own _, kit_self, _, rfl, ?_⟩⟩
            exact iteF ⟨⟨_, _, _, rfl⟩, more _ sa⟩
          · refine .inr ⟨rfl, _, rfl, y, o, rfl, th9, fun _ H10 s10 => ⟨T.BadRectangle.exm T.reel, fun a ha => ?_⟩, fun a nss' w' ea pn' => absurd (th_pn (ea ▸ th9) pn') (by rw [hR]; exact Bool.false_ne_true)⟩
            have sa := s10.trans (Same.new (o := ExV (.ref T.BadRectangle.C) none a) ha)
            refine ⟨_, rfl, _, rfl, ?_⟩
            refine iteF (iteF ⟨_, rfl, _, rfl, ?_⟩)
            refine iteT ⟨_, rfl, .inr ⟨a, T.BadRectangle.C, _, _, true, rfl, upd_same, T.BadRectangle.e, .own _, kit_self, _, rfl, ?_⟩⟩
            exact iteF ⟨⟨_, _, _, rfl⟩, more _ sa⟩
        · rcases hx2 with rfl | rfl
          · refine .inl ⟨rfl, _, rfl, y, o, rfl, th9, fun z => by (rw [hR] at z; cases z), fun a nss' w' ea pn' p H10 s10 q10 => hQ1 _ _ ?_⟩
            rw [hR]
            refine ⟨_, rfl, _, rfl, ?_⟩
            refine iteT ⟨_, rfl, rfl, _, rfl, ?_⟩
            refine ite_same ⟨_, rfl, _, rfl, ?_⟩
            exact iteF (iteF ⟨⟨_, _, _, rfl⟩, more _ s10⟩)
          · refine .inr ⟨rfl, _, rfl, y, o, rfl, th9, fun z => by (rw [hR] at z; cases z), fun a nss' w' ea pn' p H10 s10 q10 => hQ1 _ _ ?_⟩
            rw [hR]
            refine ⟨_, rfl, _, rfl, ?_⟩
            refine iteT ⟨_, rfl, rfl, _, rfl, ?_⟩
            refine ite_same ⟨_, rfl, _, rfl, ?_⟩
            exact iteF (iteF ⟨⟨_, _, _, rfl⟩, more _ s10⟩)
      · obtain ⟨⟨v2, v4, v7, rfl⟩, e7, S7, Tb7, _⟩ := q'
        refine ⟨⟨_, _, _, _, _, rfl⟩, ?_, Tb7, kN3.trans (.ext e7), pn3.tp (Tp.extN e7)⟩
        rw [show m + 4 * (n + 1) = m + 4 * n + 4 by omega]
        exact S7
    rintro σ' H1 ⟨⟨v2, v3, v4, v5, v7, rfl⟩, S, Tb, kN, pn⟩
    refine ⟨_, rfl, _, rfl, _, _, rfl, rfl, ⟨by decide, by decide, by decide⟩, (by show 1 ≤ sizeLine; decide), fun p1 h1 => ⟨(by show 0 ≤ sizeLine; decide), fun p2 h2 => ⟨(by show 10 ≤ sizeLine; decide), fun p3 h3 => ?_⟩⟩⟩
    have s1 := Same.new (o := .tup [V.int 3]) h1
    have s2 := Same.new (o := .lst []) h2
    have s3 := Same.new (o := .lst [V.int 0, .int 17, .int (-1), .int (10 ^ (9 : Int).toNat), .non, .bl true, .bl false, .str "3", .ref p1, .ref p2]) h3
    have Sa := (S.same s1).same s2
    have S3' := Sa.same s3
    have s13 := (s1.trans s2).trans s3
    refine ⟨st, lg, cl, p3, _, m + 16, rfl, upd_same, (Sa.off h3).2, (by show 0 < 10; decide), (by show 10 ≤ 1000; decide), by omega, S3', fun xw H2 hx S2 kp2 => ?_⟩
    have o1 := S.off h1
    have o2 := (S.same s1).off h2
    have e1 := kp2 p1 _ ((s2.trans s3) _ _ upd_same) o1.1 o1.2
    have e2 := kp2 p2 _ (s3 _ _ upd_same) o2.1 o2.2
    have fw : Std K H2 st lg xw ∧ within xw 1 16 = false := by
      simp only [List.mem_cons, List.not_mem_nil, or_false] at hx
      rcases hx with h | h | h | h | h | h | h | h | h | h <;> subst h
      · exact ⟨.flat (.int _) (fun _ z => by cases z), by decide⟩
      · exact ⟨.flat (.int _) (fun _ z => by cases z), by decide⟩
      · exact ⟨.flat (.int _) (fun _ z => by cases z), by decide⟩
      · exact ⟨.flat (.int _) (fun _ z => by cases z), by decide⟩
      · exact ⟨.flat .non (fun _ z => by cases z), rfl⟩
      · exact ⟨.flat (.bl _) (fun _ z => by cases z), rfl⟩
      · exact ⟨.flat (.bl _) (fun _ z => by cases z), rfl⟩
      · exact ⟨.flat (.str _) (fun _ z => by cases z), rfl⟩
      · exact ⟨⟨⟨_, .tup e1⟩, fun a z => by cases z; exact o1⟩, rfl⟩
      · exact ⟨⟨⟨_, .lst e2⟩, fun a z => by cases z; exact o2⟩, rfl⟩
    obtain ⟨sw, ww⟩ := fw
    have Tb2 := tabs_kp (Tb.ext s13) S3' kp2
    have kN2 := (kN.trans (.kp (.same s13))).trans (.kp kp2)
    have pn2 := pn.tp ((Tp.same s13).trans (Tp.kp S3' kp2))
    clear s1 s2 s3 s13 Sa S3' o1 o2 e1 e2 hx S Tb kN pn kp2
    refine ⟨_, rfl, st, lg, cl, 16, m + 16 + 1, rfl, by decide, by decide, by omega, S2, fun r H3 hr3 S3 kp3 => ⟨_, _, rfl, rfl, ?_⟩⟩
    have Tb3 := tabs_kp Tb2 S2 kp3
    have kN3 := kN2.trans (.kp kp3)
    have pn3 := pn2.tp (Tp.kp S2 kp3)
    have sw3 := sw.kpN (.kp kp3)
    have S3 := S3.mono (show m + 16 + 1 + 1 ≤ m + 18 by omega)
    have noth : ∀ (h : Nat), xw = .int ((h : Nat) : Int) → 1 ≤ h → h ≤ 16 → False := fun h e a b => by
      rw [e, within_i, decide_eq_true (show (1 : Int) ≤ ((h : Nat) : Int) by omega), decide_eq_true (show ((h : Nat) : Int) ≤ 16 by omega)] at ww
      cases ww
    refine caught_err (m' := m + 18) T T.BadSize Tb3 S3 (fun H4 E4 Q4 e4 S4 k4 => ?_) (fun a H5 S5 Tb5 kN5 ha na nb => ?_)
    · obtain ⟨⟨bw, pw⟩, _⟩ := sw3
      exact ⟨_, rfl, _, rfl, xw, bw, _, _, rfl, pw.extN e4, .int _, fun h w' e1 e2 b1 b2 b3 b4 => (noth h e1 b1 b2).elim, fun _ => k4 H4 .refl S4⟩
    refine .inr ⟨a, T.BadSize.C, _, _, true, rfl, ha, T.BadSize.e, .own _, kit_self, _, rfl, ?_⟩
    have sw5 := sw3.kpN kN5
    have pn5 := pn3.tp (Tp.kpN S3 kN5)
    have kN5 := kN3.trans kN5
    refine iteF ?_
    refine caught_err (m' := m + 18) T T.BadSize Tb5 S5 (fun H6 E6 Q6 e6 S6 k6 => ?_) (fun b H7 S7 Tb7 kN7 hb nb' nb2 => ?_)
    · obtain ⟨⟨bw, pw⟩, _⟩ := sw5
      refine ⟨_, rfl, _, rfl, _, _, xw, bw, rfl, .int _, pw.extN e6, fun h w' e1 e2 b1 b2 b3 b4 => (noth w' e2 b3 b4).elim, fun _ => k6 H6 .refl S6⟩
    refine .inr ⟨b, T.BadSize.C, _, _, true, rfl, hb, T.BadSize.e, .own _, kit_self, _, rfl, ?_⟩
    have pn7 := pn5.tp (Tp.kpN S5 kN7)
    have kN7 := kN5.trans kN7
    refine iteT ⟨_, rfl, .ref pa, _, rfl, pn7.th, fun H8 s8 => ⟨_, _, rfl, rfl, ?_⟩⟩
    rw [pn7.ok]
    exact k H8 (S7.same s8) (Tb7.ext s8) (kN7.trans (.kp (.same s8)))
end
end K16
namespace K16
open PySem PySem.Spec PyProof.Rows L2 PySem.W LamX KA KW KU KL KT KDT
open Evl (pss_cut tCut)
/-! ### the law -/
theorem FnG.w {P : Program} {w : World} {K : PySem.W.Frag} {mg : Str → Option Value} {base : Heap} {CX : CXT} {k : Nat} {f : Addr} {fd : FuncData} {ps : List Str} {sp : Sp} {fs : List Addr} {H0 : Hp} {h0 : Heap} (F : FnG P w K mg base CX k f fd ps sp) : FnW P w K mg base fs H0 h0 CX k f fd ps sp :=
  ⟨F.len, fun A outer s H args us vs Q E hr hg e0 _ _ b r h => F.run A outer s H args us vs Q E hr hg e0 b r h⟩
theorem since_self {Z : Cx} (h : Z.ex = []) : Since Z Z.fs Z.H_0 Z.s_0.heap := ⟨Un.kept fun _ _ z => z, fun _ hb => .inl hb, h⟩
def spLaw (K : PySem.W.Frag) (Pt : Addr) : Sp := fun vs H Q _ => ∃ (a : Addr) (ns : List Int), vs = [.ref a] ∧ SqL K H a (ns.map V.int) ∧ ns.length ≤ 63 ∧ Tabs (tabs Pt) H ∧ ∀ H', Q (.bl true) H'
section
variable {P : Program} {w : World} {K : PySem.W.Frag} {mg : Str → Option Value} {base : Heap} (T : Top K mg)
theorem ok_law {c Pt : Addr} (LT : LamT K "_law_are_refused" s__law_are_refused T._law_are_refused.a T._law_are_refused.d c Pt) (TB : TabB base mg c Pt) : FnG P w K mg base (L2.CX P w) 14 T.law.a T.law.d ["script"] (spLaw K Pt) := by
  refine fnG_of T.law.f sc_law (fun vs H Q E h => ?_) (fun cdv A outer s H vs Q E hr hg h => ?_)
  · obtain ⟨a, ns, rfl, _⟩ := h
    rfl
  · obtain ⟨a, ns, rfl, hS, hl, Tb, k⟩ := h
    refine ⟨_, pss_cons (ps_set (i := 1) sc_law.nd rfl (.inr rfl) (pe_call (ok_begun T) (hr.mono (by decide)) (by rfl) T._law_begun.m T._law_begun.f.kp (bd__law_begun T) .nil passE (pa_cons (pv 0) pa_nil)))
      (pss_cons (ps_for (passes_of rfl) rfl (pi_range1 (by rfl) T.b_range (pa_cons (pe_op op_add pe_int (pe_callB (call_min2 rfl) (by rfl) T.b_min PyProof.Rows.boot_min (pa_cons (pe_callB call_len_seq (by rfl) T.b_len PySem.boot_len (pa_cons (pv 0) pa_nil)) (pa_cons pe_int pa_nil)))) pa_nil)) (pg_name (i := 2) sc_law.nd rfl (.inl rfl))
        (pss_cons (ps_asg (pe_call (ok_sizes T) (hr.mono (by decide)) (by rfl) T._law_sizes.m T._law_sizes.f.kp (bd__law_sizes T) .nil passE (pa_cons (pv 1) (pa_cons (pe_call (ok_pick T) (hr.mono (by decide)) (by rfl) T._law_pick.m T._law_pick.f.kp (bd__law_pick T) .nil passE (pa_cons (pv 1) (pa_cons (pe_lst (pa_cons pe_int (pa_cons pe_int (pa_cons pe_int (pa_cons pe_int pa_nil))))) pa_nil))) pa_nil))) (pg_tup rfl (pgs_cons (pg_name (i := 3) sc_law.nd rfl (.inl rfl)) (pgs_cons (pg_name (i := 4) sc_law.nd rfl (.inl rfl)) pgs_nil))))
        (pss_cons (ps_set (i := 5) sc_law.nd rfl (.inr rfl) (pe_call (ok_draw T) (hr.mono (by decide)) (by rfl) T._law_draw.m T._law_draw.f.kp (bd__law_draw T) .nil passE (pa_cons (pv 1) (pa_cons pe_int pa_nil))))
        (pss_cons (ps_setLc (i := 6) (own := [("spot", 7)]) (g := gName 7) (tt := tYes) rfl sc_law.nd rfl rfl (sw_true rfl rfl rfl (by decide +kernel)) (pi_range1 (by rfl) T.b_range (pa_cons (pe_op op_mul (pv 3) (pv 4)) pa_nil)) (blkOk_by (own := [("spot", 7)]) (N := ["script", "state", "turn", "tall", "wide", "fashion", "told", "spot", "area"]) (sc := defScope s_law) (by decide +kernel))
          (fun _ _ _ _ _ => pg_name (i := 7) sc_law.nd rfl (Or.inl rfl)) (fun _ _ _ _ _ => pts_nil) (fun _ _ _ _ _ => pe_call (ok_figure T) (hr.mono (by decide)) (by rfl) T._law_figure.m T._law_figure.f.kp (bd__law_figure T) .nil passE (pa_cons (pv 1) (pa_cons (pv 5) pa_nil))))
        (pss_cut (ps_if (pt_cmpR (op_neD hr.units) (pe_lc (own := [("area", 8)]) (g := gName 8) (tt := tYes) rfl sc_law.nd (pi_list (pe_call (ok_areas T) (hr.mono (by decide)) (by rfl) T.areas.m T.areas.f.kp (bd_areas T) .nil passE (pa_cons (pv 3) (pa_cons (pv 4) pa_nil)))) (blkOk_by (own := [("area", 8)]) (N := ["script", "state", "turn", "tall", "wide", "fashion", "told", "spot", "area"]) (sc := defScope s_law) (by decide +kernel)) (fun _ _ _ _ _ => pg_name (i := 8) sc_law.nd rfl (Or.inl rfl)) (fun _ _ _ _ _ => pts_nil) (fun _ _ _ _ _ => pe_callTy (show CallR _ _ (rTupOf K) from call_tuple_of) (by rfl) T.b_tuple (by decide +kernel) (pa_cons (pv 8) pa_nil))) (pe_call (ok_lareas T) (hr.mono (by decide)) (by rfl) T._law_areas.m T._law_areas.f.kp (bd__law_areas T) .nil passE (pa_cons (pv 3) (pa_cons (pv 4) pa_nil))) (nomark _)) (pss_one (ps_ret pe_bl)) pss_nil)
        (pss_cut (ps_if (PW.pt (pw_or (pt_not (pt_val (pe_call (ok_are_lifted T) (hr.mono (by decide)) (by rfl) T._law_are_lifted.m T._law_are_lifted.f.kp (bd__law_are_lifted T) .nil passE (pa_cons (pv 1) (pa_cons (pv 3) (pa_cons (pv 4) (pa_cons (pv 6) pa_nil))))))) (pw_or1 (pt_not (pt_val (pe_call (ok_reaches T) (hr.mono (by decide)) (by rfl) T._law_reaches.m T._law_reaches.f.kp (bd__law_reaches T) .nil passE (pa_cons (pv 1) (pa_cons (pv 3) (pa_cons (pv 4) pa_nil))))))))) (pss_one (ps_ret pe_bl)) pss_nil)
        (pss_one (ps_if (pt_not (pt_val (pe_wcall (FnG.w (ok_are_refused T LT TB)) (since_self rfl) (hr.mono (by decide)) hg (by rfl) T._law_are_refused.m T._law_are_refused.f.kp (bd__law_are_refused T) passE (pa_cons (pv 1) (pa_cons (pe_call (ok_llines T) (hr.mono (by decide)) (by rfl) T._law_lines_of.m T._law_lines_of.f.kp (bd__law_lines_of T) .nil passE (pa_cons (pv 6) (pa_cons (pv 4) pa_nil))) pa_nil))))) (pss_one (ps_ret pe_bl)) pss_nil))))))))
      (pss_one (ps_ret pe_bl))), ?_⟩
    refine ⟨_, rfl, a, ns, rfl, hS, hl, fun st lg cl H1 S1 s1 _ _ => ?_⟩
    have Tb1 := Tb.ext s1
    have hS1 := s1.seq hS
    refine ⟨_, rfl, a, _, rfl, .inl hS1, _, _, rfl, _, _, rfl, rfl, _, rfl, by split <;> omega, by split <;> omega, for_range (n := _) (fun j σ H => StAt H st lg cl (300 * j) ∧ Tabs (tabs Pt) H ∧ ∃ v2 v3 v4 v5 v6, σ = [some (.ref a), some (.ref st), v2, v3, v4, v5, v6, none, none]) ⟨S1, Tb1, _, _, _, _, _, rfl⟩ ?_ fun σ H _ => k H⟩
    clear S1 Tb1 hS1 s1 hS H1 Tb
    rintro j σ H1 hj ⟨S, Tb, v2, v3, v4, v5, v6, rfl⟩
    have hj : j < 4 := by
      refine Nat.lt_of_lt_of_le hj ?_
      split <;> omega
    refine ⟨_, rfl, _, rfl, (by show 4 ≤ sizeLine; decide), fun p hp => ?_⟩
    have tp := Same.new (o := .lst [V.int 4, .int 12, .int 40, .int 256]) hp
    refine ⟨st, lg, cl, p, _, 300 * j, rfl, upd_same, (S.off hp).2, (by show 0 < 4; decide), (by show 4 ≤ 1000; decide), by omega, S.same tp, fun x H2 hx S2 kp2 => ?_⟩
    have Tb2 := tabs_kp (Tb.ext tp) (S.same tp) kp2
    obtain ⟨c0, rfl, hc0⟩ : ∃ c : Nat, x = .int c ∧ 1 ≤ c := by
      simp only [List.mem_cons, List.not_mem_nil, or_false] at hx
      rcases hx with h | h | h | h
      · exact ⟨4, h, by decide⟩
      · exact ⟨12, h, by decide⟩
      · exact ⟨40, h, by decide⟩
      · exact ⟨256, h, by decide⟩
    clear hx tp hp S Tb kp2
    refine ⟨st, lg, cl, c0, 300 * j + 1, rfl, hc0, by omega, S2, fun h wn q H3 h1 h2 w1 w2 hq S3 kp3 => ⟨q, _, rfl, SqT.of hq, rfl, _, _, rfl, _, _, rfl, rfl, ?_⟩⟩
    have Tb3 := tabs_kp Tb2 S2 kp3
    refine ⟨_, rfl, st, lg, cl, 3, 300 * j + 3, rfl, by decide, by decide, by omega, S3, fun f H4 hf S4 kp4 => ?_⟩
    have Tb4 := tabs_kp Tb3 S3 kp4
    clear S2 Tb2 S3 Tb3 kp3 kp4 hq
    have hw2 : h * wn ≤ 16 * 16 := Nat.mul_le_mul h2 w2
    refine ⟨_, rfl, _, rfl, _, _, rfl, rfl, .inl ⟨by omega, by omega⟩, ?_⟩
    dsimp only
    rw [show ((h : Nat) : Int) * ((wn : Nat) : Int) = ((h * wn : Nat) : Int) by rw [Int.natCast_mul]]
    refine ⟨_, rfl, by omega, by omega, fun D hD => ?_⟩
    have nD := S4.off hD
    have nC : D ≠ cl := by
      obtain ⟨_, _, _, _, S', _⟩ := S4
      exact (ne_of_none S'.c hD).symm
    refine lc_it walk_range (fun i H' => ∃ ns : List Int, ns.length = i ∧ H' D = some (.lst (ns.map V.int)) ∧ StAt H' st lg cl (300 * j + 4 + i) ∧ Tabs (tabs Pt) H') ⟨[], rfl, upd_same, S4.same (Same.new hD), Tb4.ext (Same.new hD)⟩ (fun _ _ _ _ => trivial) ?_ ?_
    · rintro i x H5 H6 hi ⟨ns, b1, b2, b3, b4⟩ ⟨rfl, rfl⟩
      rw [Int.toNat_natCast] at hi
      refine ⟨rfl, ?_⟩
      dsimp only [tYes]
      rw [if_pos rfl]
      refine ⟨_, rfl, _, rfl, st, lg, cl, f, 300 * j + 4 + i, rfl, hf, by omega, b3, fun v H7 S7 kp7 => ?_⟩
      have b2' := kp7 _ _ b2 nD.1 nD.2
      refine ⟨_, b2', ?_, ns ++ [v], by simp [b1], by rw [upd_same, List.map_append]; rfl, stAt_upd S7 b2' nD.1 nD.2 nC, tabs_upd (tabs_kp b4 b3 kp7) b2'⟩
      rw [List.length_map, b1]
      exact Nat.lt_of_lt_of_le (show i < 300 by omega) (by decide)
    rintro H5 ⟨ns, b1, b2, b3, b4⟩
    rw [Int.toNat_natCast] at b1 b3
    have S5 := b3.mono (show 300 * j + 4 + h * wn ≤ 300 * j + 260 by omega)
    clear b3 S4 Tb4 hD
    -- areas
    refine ⟨fun σ' H' => σ' = [some (.ref a), some (.ref st), some (.int (0 + (j : Nat))), some (.int (h : Nat)), some (.int (wn : Nat)), some (.int (f : Nat)), some (.ref D), none, none] ∧ Same H5 H', ?_, ?_⟩
    · refine ⟨_, rfl, _, rfl, .int h, true, .int wn, true, rfl, .int _, .int _, fun h' w' e1 e2 _ _ _ _ qa us H6 s6 _ l6 al => ?_, fun z => ?_⟩
      · have e1 : h' = h := by
          have := V.int.inj e1
          omega
        have e2 : w' = wn := by
          have := V.int.inj e2
          omega
        rw [e1, e2] at al
        refine ⟨qa, rfl, ⟨_, SqL.of l6⟩, fun D2 hD2 => lc_it walk_list (fun i H' => H' D2 = some (.lst (us.take i)) ∧ Same H6 H') ⟨upd_same, Same.new hD2⟩ (fun _ H' _ q' => SqL.of (q'.2 _ _ l6)) ?_ ?_⟩
        · rintro i x H7 H8 hi ⟨a1, a2⟩ ⟨rfl, hx⟩
          obtain ⟨qx, ax, rfl, _, ex⟩ := al.get hx
          refine ⟨rfl, ?_⟩
          dsimp only [tYes]
          rw [if_pos rfl]
          refine ⟨_, rfl, qx, _, rfl, .inr ⟨SqT.of (a2 _ _ ex), _, a1, ?_, ?_, Same.put a2 hD2⟩⟩
          · rw [List.length_take]
            have ll := al.len
            rw [areas_len h1 w1] at ll
            exact Nat.lt_of_le_of_lt (show _ ≤ 512 by omega) (by decide)
          · rw [upd_same, List.take_add_one, hx]
            rfl
        · rintro H7 ⟨a1, a2⟩
          rw [List.take_length] at a1
          refine ⟨_, rfl, _, rfl, h, wn, rfl, h1, h2, w1, w2, fun qb us2 H8 s8 _ l8 al8 => ?_⟩
          refine ⟨_, _, dp_als (s8 _ _ a1) ((al.same a2).same s8), dp_als l8 al8, shaped_al _, shaped_al _, _, rfl, ?_⟩
          rw [SeqAt.eqv_refl _ (SeqAt.canLay_of_shaped (shaped_al (areasL h wn)))]
          exact iteF ⟨rfl, (s6.trans a2).trans s8⟩
      · rw [within_i, within_i, decide_eq_true (show (1 : Int) ≤ ((h : Nat) : Int) by omega), decide_eq_true (show ((h : Nat) : Int) ≤ 16 by omega), decide_eq_true (show (1 : Int) ≤ ((wn : Nat) : Int) by omega), decide_eq_true (show ((wn : Nat) : Int) ≤ 16 by omega)] at z
        cases z
    rintro σ' H6 ⟨rfl, s6⟩
    have hD6 := s6 _ _ b2
    have S6 := S5.same s6
    have Tb6 := b4.ext s6
    refine ⟨fun σ' H' => σ' = [some (.ref a), some (.ref st), some (.int (0 + (j : Nat))), some (.int (h : Nat)), some (.int (wn : Nat)), some (.int (f : Nat)), some (.ref D), none, none] ∧ StAt H' st lg cl (300 * j + 264) ∧ Tabs (tabs Pt) H' ∧ H' D = some (.lst (ns.map V.int)), ?_, ?_⟩
    · refine ⟨_, rfl, _, rfl, _, rfl, _, rfl, st, lg, cl, D, ns, h, wn, 300 * j + 260, rfl, hD6, nD, b1, h1, h2, w1, w2, by omega, S6, fun H7 S7 kp7 => ⟨_, rfl, ?_⟩⟩
      have Tb7 := tabs_kp Tb6 S6 kp7
      have hD7 := kp7 _ _ hD6 nD.1 nD.2
      refine iteF ⟨_, rfl, _, rfl, _, rfl, st, lg, cl, h, wn, 300 * j + 261, rfl, h1, h2, w1, w2, by omega, S7, fun H8 S8 kp8 => ⟨_, rfl, ?_⟩⟩
      exact iteF ⟨rfl, S8, tabs_kp Tb7 S7 kp8, kp8 _ _ hD7 nD.1 nD.2⟩
    rintro σ' H9 ⟨rfl, S9, Tb9, hD9⟩
    refine ⟨_, rfl, _, rfl, _, rfl, D, ns, h, wn, rfl, hD9, b1, h1, h2, w1, w2, fun lp H10 s10 _ pn => ⟨st, lg, cl, lp, _, wn, 300 * j + 264, rfl, pn, by omega, S9.same s10, Tb9.ext s10, fun H11 S11 Tb11 _ => ⟨_, rfl, ?_⟩⟩⟩
    exact iteF ⟨S11.mono (by omega), Tb11, _, _, _, _, _, rfl⟩
end
end K16
namespace K16
open PySem PySem.Spec PyProof.Rows L2 PySem.W LamX KA KW KU KL KT
/-! ### what the head's heap says, put together -/
section
variable {K : PySem.W.Frag} {mg : Str → Option Value} {h : Heap}
theorem defT_of {x : Str} {st : Stmt} {f : Addr} {od an : Option Addr} {sl : Array (Option Value)} {oc kV dc pm cd ct : Value} (X : K.In h) (G : h.Ns mainGlobals mg)
    (a : PySem.W.nsIn K mainGlobals x = some (some (.ref f))) (l : K.lookup f = some ⟨oc, od, .func (PySem.W.fnOf x x (defArgs st) (defBody st) (defScope st) .none kV dc pm an cd ct), sl⟩) (c : PySem.W.codeIn K cd x = true) (k : PySem.W.keepIn K (.ref f) = true) :
    Nonempty (DefT K mg x st) := ⟨⟨f, _, fun_mk l c k, PySem.W.mg_of X G a⟩⟩
theorem lamT_of {x : Str} {st : Stmt} {f c Pt : Addr} {od an : Option Addr} {sl : Array (Option Value)} {oc kV dc pm ct : Value} (X : K.In h) (G : h.Ns mainGlobals mg) (T : DefT K mg x st)
    (a : PySem.W.nsIn K mainGlobals x = some (some (.ref f))) (l : K.lookup f = some ⟨oc, od, .func (PySem.W.fnOf x x (defArgs st) (defBody st) (defScope st) .none kV dc pm an (.ref c) ct), sl⟩) (cc : PySem.W.codeIn K (.ref c) x = true) :
    LamT K x st T.a T.d c Pt := by
  have e := (PySem.W.mg_of X G a).symm.trans T.m
  have e : f = T.a := Value.ref.inj (Option.some.inj e)
  obtain ⟨oc', od', kV', dc', pm', an', cd', ct', sl', ed, lk, hcd⟩ := T.f.ex
  rw [e] at l
  have e2 := l.symm.trans lk
  have e3 := congrArg Obj.data (Option.some.inj e2)
  have e4 := Data.func.inj e3
  exact ⟨oc, od, kV, dc, pm, an, ct, sl, e4.symm, by rw [← e4]; exact l, cc⟩
theorem reelT_of {C : Addr} (X : K.In h) (G : h.Ns mainGlobals mg) (a : PySem.W.nsIn K mainGlobals "ReelError" = some (some (.ref C))) (b : PySem.W.subIn K (.ref C) (.type "BaseException") = some true)
    (t : PySem.W.typeIn K (.ref C) = some (.type "type")) (d : PySem.W.hasDictIn K C = true) : ∃ R : ReelT K mg, R.C = C := ⟨⟨C, PySem.W.mg_of X G a, b, t, d⟩, rfl⟩
theorem excT_of {x : Str} {C R : Addr} (X : K.In h) (G : h.Ns mainGlobals mg) (a : PySem.W.nsIn K mainGlobals x = some (some (.ref C))) (q : PySem.W.excIn K C veB "ValueError.__new__" = true) (k : PySem.W.keepIn K (.ref C) = true)
    (b : PySem.W.subIn K (.ref C) (.type "BaseException") = some true) (t : PySem.W.typeIn K (.ref C) = some (.type "type")) (r : PySem.W.subIn K (.ref C) (.ref R) = some true)
    (e1 : PySem.W.findIn K (.ref C) "__getattribute__" = some (some (.builtin "BaseException.__getattribute__"))) (e2 : PySem.W.findIn K (.ref C) "__getattr__" = some none) (e3 : PySem.W.hasDictIn K C = true)
    (e4 : PySem.W.findIn K (.ref C) "__class__" = some (some (.builtin "object.__class__"))) (e5 : PySem.W.specialIn K (.builtin "object.__class__") "__get__" = some (some (.builtin "getset_descriptor.__get__")))
    (e6 : PySem.W.takesIn K (.builtin "object.__class__") = some true) (e7 : PySem.W.mroIn K C (.type "object") = some true) : Nonempty (ExcT K mg x R) :=
  ⟨⟨C, PySem.W.mg_of X G a, q, k, b, t, r, ⟨e1, e2, b, e3, e4, e5, e6, e7⟩⟩⟩
theorem cstT_of {x : Str} {n : Int} {t : Tok} (X : K.In h) (G : h.Ns mainGlobals mg) (a : PySem.W.nsIn K mainGlobals x = some (some (.int n t))) : CstT mg x n := ⟨t, PySem.W.mg_of X G a⟩
/-- the law, at the head's heap -/
theorem law_at {l : PySem.W.OpenLaw} {w : World} {fa c Pt : Addr} (T : Top K mg) (name : mg "law" = some (.ref fa)) (LT : LamT K "_law_are_refused" s__law_are_refused T._law_are_refused.a T._law_are_refused.d c Pt)
    (ht : h.get? Pt = some { cls := .none, data := .fields #[] }) (hk : K.lookup Pt = none) (hc : PySem.W.CodeHd h c Pt) : LawAtG l w K (L2.CX l.prog w) 14 63 "script" mg fa h := by
  have e : fa = T.law.a := Value.ref.inj (Option.some.inj (name.symm.trans T.law.m))
  subst e
  have one : ∀ {A : Addr × Addr → Prop}, A (c, Pt) → ∀ p ∈ [(c, Pt)], A p := fun q p hp => by
    rw [List.mem_singleton.mp hp]
    exact q
  refine ⟨T.law.d, [(c, Pt)], spLaw K Pt, ⟨one ht, one hk, one hc⟩, fun s u => ?_, fun H a ns short t S => ?_, fun base _ _ tb => ok_law T LT (tb (c, Pt) (List.mem_singleton.mpr rfl))⟩
  · obtain ⟨oc, od, kV, doc, pm, an, cdv, ct, osl, ed, lk, hcd⟩ := T.law.f.ex
    rw [ed]
    exact .of_eq rfl
  · refine ⟨a, ns, rfl, S, short, fun p hp => ?_, fun _ => rfl⟩
    rw [List.mem_singleton.mp hp]
    exact TabS.nil (t (c, Pt) (List.mem_singleton.mpr rfl))
theorem calm_cx {P : Program} {w : World} {H : Hp} {s : Shared} {e : Value} {s' : Shared} (z : L2.CX P w [] H s (fun _ _ _ => False) e s') : False := by
  obtain ⟨_, _, _, _, _, _, _, _, _, _, _, _, f⟩ := z
  exact f
end
end K16
namespace K16
open PySem PySem.Spec PyProof.Rows L2 PySem.W LamX KA KW KU KL KT
section
variable {K : PySem.W.Frag} {mg : Str → Option Value} {h : Heap} {A : Prop}
theorem reel_use {C : Addr} (X : K.In h) (G : h.Ns mainGlobals mg) (a : PySem.W.nsIn K mainGlobals "ReelError" = some (some (.ref C))) (b : PySem.W.subIn K (.ref C) (.type "BaseException") = some true)
    (t : PySem.W.typeIn K (.ref C) = some (.type "type")) (d : PySem.W.hasDictIn K C = true) (n : ∀ R : ReelT K mg, R.C = C → A) : A := by
  obtain ⟨R, e⟩ := reelT_of X G a b t d
  exact n R e
theorem exc_use {x : Str} {C B : Addr} (X : K.In h) (G : h.Ns mainGlobals mg) (R : ReelT K mg) (eR : R.C = B) (a : PySem.W.nsIn K mainGlobals x = some (some (.ref C))) (q : PySem.W.excIn K C veB "ValueError.__new__" = true) (k : PySem.W.keepIn K (.ref C) = true)
    (b : PySem.W.subIn K (.ref C) (.type "BaseException") = some true) (t : PySem.W.typeIn K (.ref C) = some (.type "type")) (r : PySem.W.subIn K (.ref C) (.ref B) = some true)
    (e1 : PySem.W.findIn K (.ref C) "__getattribute__" = some (some (.builtin "BaseException.__getattribute__"))) (e2 : PySem.W.findIn K (.ref C) "__getattr__" = some none) (e3 : PySem.W.hasDictIn K C = true)
    (e4 : PySem.W.findIn K (.ref C) "__class__" = some (some (.builtin "object.__class__"))) (e5 : PySem.W.specialIn K (.builtin "object.__class__") "__get__" = some (some (.builtin "getset_descriptor.__get__")))
    (e6 : PySem.W.takesIn K (.builtin "object.__class__") = some true) (e7 : PySem.W.mroIn K C (.type "object") = some true) (n : ExcT K mg x R.C → A) : A := by
  rw [← eR] at r
  obtain ⟨D⟩ := excT_of X G a q k b t r e1 e2 e3 e4 e5 e6 e7
  exact n D
theorem def_use {x : Str} {st : Stmt} {f : Addr} {od an : Option Addr} {sl : Array (Option Value)} {oc kV dc pm cd ct : Value} (X : K.In h) (G : h.Ns mainGlobals mg)
    (a : PySem.W.nsIn K mainGlobals x = some (some (.ref f))) (l : K.lookup f = some ⟨oc, od, .func (PySem.W.fnOf x x (defArgs st) (defBody st) (defScope st) .none kV dc pm an cd ct), sl⟩) (c : PySem.W.codeIn K cd x = true) (k : PySem.W.keepIn K (.ref f) = true)
    (n : DefT K mg x st → A) : A := by
  obtain ⟨D⟩ := defT_of X G a l c k
  exact n D
theorem lam_use {x : Str} {st : Stmt} {f c Pt : Addr} {od an : Option Addr} {sl : Array (Option Value)} {oc kV dc pm ct : Value} (X : K.In h) (G : h.Ns mainGlobals mg) (T : DefT K mg x st) (t : h.get? Pt = some { cls := .none, data := .fields #[] })
    (a : PySem.W.nsIn K mainGlobals x = some (some (.ref f))) (l : K.lookup f = some ⟨oc, od, .func (PySem.W.fnOf x x (defArgs st) (defBody st) (defScope st) .none kV dc pm an (.ref c) ct), sl⟩) (cc : PySem.W.codeIn K (.ref c) x = true)
    (hk : K.lookup Pt = none) (hc : PySem.W.codeHdIn K c Pt = true) (n : LamT K x st T.a T.d c Pt → K.lookup Pt = none → PySem.W.CodeHd h c Pt → A) : A := n (lamT_of X G T a l cc) hk (PySem.W.codeHd_of_K X hc)
end
end K16
open PySem PySem.W PyProof.Rows
set_option maxRecDepth 100000 in
set_option maxHeartbeats 0 in
theorem PySem.Challenge.cw_pricedreels_k16_rectangles_lifted_there_holds : PySem.Challenge.rw_pricedreels_k16_rectangles_lifted_there.Holds := by
  w_on; o_law; k_head; (case hw => w_witness2)
  k_fill
  refine KA.walk_ofG (l := PySem.Challenge.rw_pricedreels_k16_rectangles_lifted_there) (k := 14) (n := 63) (x := "script") (CX := fun w => L2.CX PySem.Challenge.rw_pricedreels_k16_rectangles_lifted_there.prog w) rfl (by decide) rfl ⟨rfl, by decide, by decide⟩ (fun w h Y => km_in_of Y) ?F (fun _ _ _ _ _ z => K16.calm_cx z)
  case F =>
    intro w mg fa h Y KX G hmg
    have tabs := km_tabs_of Y
    have one := tabs _ List.mem_cons_self
    refine' K16.reel_use KX G ?ya ?yb ?yt ?yd ?_
    (case ya => k_is); (case yb => k_is); (case yt => k_is); (case yd => k_is)
    intro R eR
    refine' K16.exc_use (x := "BadRectangle") KX G R eR ?ya ?yq ?yk ?yb ?yt ?yr ?ye1 ?ye2 ?ye3 ?ye4 ?ye5 ?ye6 ?ye7 ?_
    (case ya => k_is); (case yq => k_exc); (case yk => k_is); (case yb => k_is); (case yt => k_is); (case yr => k_is); (case ye1 => k_is); (case ye2 => k_is); (case ye3 => k_is); (case ye4 => k_is); (case ye5 => k_is); (case ye6 => k_is); (case ye7 => k_is)
    intro BadRectangle
    refine' K16.exc_use (x := "BadSize") KX G R eR ?ya ?yq ?yk ?yb ?yt ?yr ?ye1 ?ye2 ?ye3 ?ye4 ?ye5 ?ye6 ?ye7 ?_
    (case ya => k_is); (case yq => k_exc); (case yk => k_is); (case yb => k_is); (case yt => k_is); (case yr => k_is); (case ye1 => k_is); (case ye2 => k_is); (case ye3 => k_is); (case ye4 => k_is); (case ye5 => k_is); (case ye6 => k_is); (case ye7 => k_is)
    intro BadSize
    refine' K16.def_use (x := "is_number") (st := K16.s_is_number) KX G ?ya ?yl ?yc ?yk ?_
    (case ya => k_is); (case yl => k_is); (case yc => k_is); (case yk => k_is)
    intro f_is_number
    refine' K16.def_use (x := "is_within") (st := K16.s_is_within) KX G ?ya ?yl ?yc ?yk ?_
    (case ya => k_is); (case yl => k_is); (case yc => k_is); (case yk => k_is)
    intro f_is_within
    refine' K16.def_use (x := "is_row") (st := K16.s_is_row) KX G ?ya ?yl ?yc ?yk ?_
    (case ya => k_is); (case yl => k_is); (case yc => k_is); (case yk => k_is)
    intro f_is_row
    refine' K16.def_use (x := "is_rows") (st := K16.s_is_rows) KX G ?ya ?yl ?yc ?yk ?_
    (case ya => k_is); (case yl => k_is); (case yc => k_is); (case yk => k_is)
    intro f_is_rows
    refine' K16.def_use (x := "areas") (st := K16.s_areas) KX G ?ya ?yl ?yc ?yk ?_
    (case ya => k_is); (case yl => k_is); (case yc => k_is); (case yk => k_is)
    intro f_areas
    refine' K16.def_use (x := "is_rectangle") (st := K16.s_is_rectangle) KX G ?ya ?yl ?yc ?yk ?_
    (case ya => k_is); (case yl => k_is); (case yc => k_is); (case yk => k_is)
    intro f_is_rectangle
    refine' K16.def_use (x := "lifted") (st := K16.s_lifted) KX G ?ya ?yl ?yc ?yk ?_
    (case ya => k_is); (case yl => k_is); (case yc => k_is); (case yk => k_is)
    intro f_lifted
    refine' K16.def_use (x := "unlifted") (st := K16.s_unlifted) KX G ?ya ?yl ?yc ?yk ?_
    (case ya => k_is); (case yl => k_is); (case yc => k_is); (case yk => k_is)
    intro f_unlifted
    refine' K16.def_use (x := "check_size") (st := K16.s_check_size) KX G ?ya ?yl ?yc ?yk ?_
    (case ya => k_is); (case yl => k_is); (case yc => k_is); (case yk => k_is)
    intro f_check_size
    refine' K16.def_use (x := "check_rectangle") (st := K16.s_check_rectangle) KX G ?ya ?yl ?yc ?yk ?_
    (case ya => k_is); (case yl => k_is); (case yc => k_is); (case yk => k_is)
    intro f_check_rectangle
    refine' K16.def_use (x := "is_inner") (st := K16.s_is_inner) KX G ?ya ?yl ?yc ?yk ?_
    (case ya => k_is); (case yl => k_is); (case yc => k_is); (case yk => k_is)
    intro f_is_inner
    refine' K16.def_use (x := "halves") (st := K16.s_halves) KX G ?ya ?yl ?yc ?yk ?_
    (case ya => k_is); (case yl => k_is); (case yc => k_is); (case yk => k_is)
    intro f_halves
    refine' K16.def_use (x := "halves_at") (st := K16.s_halves_at) KX G ?ya ?yl ?yc ?yk ?_
    (case ya => k_is); (case yl => k_is); (case yc => k_is); (case yk => k_is)
    intro f_halves_at
    refine' K16.def_use (x := "list_areas") (st := K16.s_list_areas) KX G ?ya ?yl ?yc ?yk ?_
    (case ya => k_is); (case yl => k_is); (case yc => k_is); (case yk => k_is)
    intro f_list_areas
    refine' K16.def_use (x := "in_rows") (st := K16.s_in_rows) KX G ?ya ?yl ?yc ?yk ?_
    (case ya => k_is); (case yl => k_is); (case yc => k_is); (case yk => k_is)
    intro f_in_rows
    refine' K16.def_use (x := "lowest") (st := K16.s_lowest) KX G ?ya ?yl ?yc ?yk ?_
    (case ya => k_is); (case yl => k_is); (case yc => k_is); (case yk => k_is)
    intro f_lowest
    refine' K16.def_use (x := "_law_begun") (st := K16.s__law_begun) KX G ?ya ?yl ?yc ?yk ?_
    (case ya => k_is); (case yl => k_is); (case yc => k_is); (case yk => k_is)
    intro f__law_begun
    refine' K16.def_use (x := "_law_draw") (st := K16.s__law_draw) KX G ?ya ?yl ?yc ?yk ?_
    (case ya => k_is); (case yl => k_is); (case yc => k_is); (case yk => k_is)
    intro f__law_draw
    refine' K16.def_use (x := "_law_pick") (st := K16.s__law_pick) KX G ?ya ?yl ?yc ?yk ?_
    (case ya => k_is); (case yl => k_is); (case yc => k_is); (case yk => k_is)
    intro f__law_pick
    refine' K16.def_use (x := "_law_caught") (st := K16.s__law_caught) KX G ?ya ?yl ?yc ?yk ?_
    (case ya => k_is); (case yl => k_is); (case yc => k_is); (case yk => k_is)
    intro f__law_caught
    refine' K16.def_use (x := "_law_is_whole") (st := K16.s__law_is_whole) KX G ?ya ?yl ?yc ?yk ?_
    (case ya => k_is); (case yl => k_is); (case yc => k_is); (case yk => k_is)
    intro f__law_is_whole
    refine' K16.def_use (x := "_law_odd") (st := K16.s__law_odd) KX G ?ya ?yl ?yc ?yk ?_
    (case ya => k_is); (case yl => k_is); (case yc => k_is); (case yk => k_is)
    intro f__law_odd
    refine' K16.def_use (x := "_law_areas") (st := K16.s__law_areas) KX G ?ya ?yl ?yc ?yk ?_
    (case ya => k_is); (case yl => k_is); (case yc => k_is); (case yk => k_is)
    intro f__law_areas
    refine' K16.def_use (x := "_law_halves") (st := K16.s__law_halves) KX G ?ya ?yl ?yc ?yk ?_
    (case ya => k_is); (case yl => k_is); (case yc => k_is); (case yk => k_is)
    intro f__law_halves
    refine' K16.def_use (x := "_law_lift") (st := K16.s__law_lift) KX G ?ya ?yl ?yc ?yk ?_
    (case ya => k_is); (case yl => k_is); (case yc => k_is); (case yk => k_is)
    intro f__law_lift
    refine' K16.def_use (x := "_law_unlift") (st := K16.s__law_unlift) KX G ?ya ?yl ?yc ?yk ?_
    (case ya => k_is); (case yl => k_is); (case yc => k_is); (case yk => k_is)
    intro f__law_unlift
    refine' K16.def_use (x := "_law_lines_of") (st := K16.s__law_lines_of) KX G ?ya ?yl ?yc ?yk ?_
    (case ya => k_is); (case yl => k_is); (case yc => k_is); (case yk => k_is)
    intro f__law_lines_of
    refine' K16.def_use (x := "_law_row_by_row") (st := K16.s__law_row_by_row) KX G ?ya ?yl ?yc ?yk ?_
    (case ya => k_is); (case yl => k_is); (case yc => k_is); (case yk => k_is)
    intro f__law_row_by_row
    refine' K16.def_use (x := "_law_sizes") (st := K16.s__law_sizes) KX G ?ya ?yl ?yc ?yk ?_
    (case ya => k_is); (case yl => k_is); (case yc => k_is); (case yk => k_is)
    intro f__law_sizes
    refine' K16.def_use (x := "_law_figure") (st := K16.s__law_figure) KX G ?ya ?yl ?yc ?yk ?_
    (case ya => k_is); (case yl => k_is); (case yc => k_is); (case yk => k_is)
    intro f__law_figure
    refine' K16.def_use (x := "_law_is_pane") (st := K16.s__law_is_pane) KX G ?ya ?yl ?yc ?yk ?_
    (case ya => k_is); (case yl => k_is); (case yc => k_is); (case yk => k_is)
    intro f__law_is_pane
    refine' K16.def_use (x := "_law_bent_pane") (st := K16.s__law_bent_pane) KX G ?ya ?yl ?yc ?yk ?_
    (case ya => k_is); (case yl => k_is); (case yc => k_is); (case yk => k_is)
    intro f__law_bent_pane
    refine' K16.def_use (x := "_law_lies_in") (st := K16.s__law_lies_in) KX G ?ya ?yl ?yc ?yk ?_
    (case ya => k_is); (case yl => k_is); (case yc => k_is); (case yk => k_is)
    intro f__law_lies_in
    refine' K16.def_use (x := "_law_all_dots") (st := K16.s__law_all_dots) KX G ?ya ?yl ?yc ?yk ?_
    (case ya => k_is); (case yl => k_is); (case yc => k_is); (case yk => k_is)
    intro f__law_all_dots
    refine' K16.def_use (x := "_law_says") (st := K16.s__law_says) KX G ?ya ?yl ?yc ?yk ?_
    (case ya => k_is); (case yl => k_is); (case yc => k_is); (case yk => k_is)
    intro f__law_says
    refine' K16.def_use (x := "_law_are_lifted") (st := K16.s__law_are_lifted) KX G ?ya ?yl ?yc ?yk ?_
    (case ya => k_is); (case yl => k_is); (case yc => k_is); (case yk => k_is)
    intro f__law_are_lifted
    refine' K16.def_use (x := "_law_reaches") (st := K16.s__law_reaches) KX G ?ya ?yl ?yc ?yk ?_
    (case ya => k_is); (case yl => k_is); (case yc => k_is); (case yk => k_is)
    intro f__law_reaches
    refine' K16.def_use (x := "_law_are_refused") (st := K16.s__law_are_refused) KX G ?ya ?yl ?yc ?yk ?_
    (case ya => k_is); (case yl => k_is); (case yc => k_is); (case yk => k_is)
    intro f__law_are_refused
    refine' K16.def_use (x := "law") (st := K16.s_law) KX G ?ya ?yl ?yc ?yk ?_
    (case ya => k_is); (case yl => k_is); (case yc => k_is); (case yk => k_is)
    intro f_law
    refine' K16.lam_use KX G f__law_are_refused one ?ya ?yl ?yc ?yh ?yj ?_
    (case ya => k_is); (case yl => k_is); (case yc => k_is); (case yh => kernel_rfl); (case yj => kernel_rfl)
    intro LT noT hd
    have b_isinstance := PySem.W.mg_none_of (n := "isinstance") KX G (by k_is)
    have b_int := PySem.W.mg_none_of (n := "int") KX G (by k_is)
    have b_bool := PySem.W.mg_none_of (n := "bool") KX G (by k_is)
    have b_len := PySem.W.mg_none_of (n := "len") KX G (by k_is)
    have b_abs := PySem.W.mg_none_of (n := "abs") KX G (by k_is)
    have b_range := PySem.W.mg_none_of (n := "range") KX G (by k_is)
    have b_min := PySem.W.mg_none_of (n := "min") KX G (by k_is)
    have b_max := PySem.W.mg_none_of (n := "max") KX G (by k_is)
    have b_list := PySem.W.mg_none_of (n := "list") KX G (by k_is)
    have b_tuple := PySem.W.mg_none_of (n := "tuple") KX G (by k_is)
    have b_all := PySem.W.mg_none_of (n := "all") KX G (by k_is)
    have b_reversed := PySem.W.mg_none_of (n := "reversed") KX G (by k_is)
    have b_enumerate := PySem.W.mg_none_of (n := "enumerate") KX G (by k_is)
    have b_ValueError := PySem.W.mg_none_of (n := "ValueError") KX G (by k_is)
    exact K16.law_at (Pt := _) { reel := R, BadRectangle := BadRectangle, BadSize := BadSize, is_number := f_is_number, is_within := f_is_within, is_row := f_is_row, is_rows := f_is_rows, areas := f_areas, is_rectangle := f_is_rectangle, lifted := f_lifted, unlifted := f_unlifted, check_size := f_check_size, check_rectangle := f_check_rectangle, is_inner := f_is_inner, halves := f_halves, halves_at := f_halves_at, list_areas := f_list_areas, in_rows := f_in_rows, lowest := f_lowest, _law_begun := f__law_begun, _law_draw := f__law_draw, _law_pick := f__law_pick, _law_caught := f__law_caught, _law_is_whole := f__law_is_whole, _law_odd := f__law_odd, _law_areas := f__law_areas, _law_halves := f__law_halves, _law_lift := f__law_lift, _law_unlift := f__law_unlift, _law_lines_of := f__law_lines_of, _law_row_by_row := f__law_row_by_row, _law_sizes := f__law_sizes, _law_figure := f__law_figure, _law_is_pane := f__law_is_pane, _law_bent_pane := f__law_bent_pane, _law_lies_in := f__law_lies_in, _law_all_dots := f__law_all_dots, _law_says := f__law_says, _law_are_lifted := f__law_are_lifted, _law_reaches := f__law_reaches, _law_are_refused := f__law_are_refused, law := f_law, b_isinstance := b_isinstance, b_int := b_int, b_bool := b_bool, b_len := b_len, b_abs := b_abs, b_range := b_range, b_min := b_min, b_max := b_max, b_list := b_list, b_tuple := b_tuple, b_all := b_all, b_reversed := b_reversed, b_enumerate := b_enumerate, b_ValueError := b_ValueError } hmg LT one noT hd
