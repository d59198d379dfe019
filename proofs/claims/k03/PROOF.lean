import PyProof.Rows.All
import Wide.All
import OpenK.AllK
import Wide.FinOn
import PyProof.FString3
import PyProof.StrBlock2
import PyProof.ReprRoads
import KE.KxField
import HandS.ForMost
import HandS.EndTab
import HandS.WordsExc
import HandS.ExcOwn
import HandS.ExcValue
import HandS.ExcIs
import HandS.IsInst
import HandS.StrMore
import HandS.FStr
import HandS.Style
import HandS.Wide
import HandS.WideBits
import HandS.RaiseMore
import HandS.Small
import HandS.Evl
import HandS.Defaults
import KE.KExcSuper
import KE.KExcIs
import PySem.Challenge.RW_pricedreels_k03_shapes_planes_and_turnin
import HandS.Conv
import KE.DataMinMax
import HandS.TupMul
import HandS.TupAny
import HandS.TryOnly
import PyProof.InstEq
import HandS.OwnEq
import HandS.MakeKwOnly
import KE.RegKSuper
import KE.KExcLine
set_option Elab.async false
set_option linter.all false
set_option maxRecDepth 100000
set_option maxHeartbeats 4000000
namespace KA
open PySem PySem.Spec PyProof.Rows L2
section
variable {X : Cx}
/-- text * int -/
def rMulS : R2 := fun x y H Q => ∃ (a : Str) (n : Int), x = .str a ∧ y = .int n ∧ 0 ≤ n ∧ n ≤ 1000 ∧ a.length ≤ 1000 ∧ Q (.str (Txt.mul a n)) H
theorem op_mulS : OpR X (binaryOp .Mult) rMulS := by
  intro pins s σ H x y v u Q I rx ry h
  obtain ⟨a, n, rfl, rfl, h0, h1, h2, q⟩ := h
  obtain ⟨t, rfl⟩ := rx
  obtain ⟨t', rfl⟩ := ry
  refine SB.mul ⟨?_, fun hn hz => ?_, fun hn hz => ?_⟩ fun t' k => ⟨.str (Txt.mul a n), H, I.tok _, ⟨_, rfl⟩, q⟩
  · simp
    omega
  · have h3 : (1000 : Int) ≤ (2 ^ 63 - 1) / n := by
      refine Int.le_ediv_of_mul_le (by omega) ?_
      omega
    omega
  · have : a.length * n.toNat ≤ 1000 * 1000 := Nat.mul_le_mul h2 (by omega)
    unfold Builtin.Str.tooLong
    simp
    have e : sizeLine = 16777216 := by rfl
    omega
end
end KA
namespace KA
open PySem PySem.Spec PyProof.Rows L2 PySem.W
/-- the binary digits of a number from 0 on, as a text -/
def binText (n : Nat) : Str := ⟨((Nat.toDigits 2 n).map Char.toNat).toArray⟩
def specB : Str := ⟨#[98]⟩
theorem digits_some (n : Nat) : ∃ d ds, (Nat.toDigits 2 n).map Char.toNat = d :: ds := by
  cases e : (Nat.toDigits 2 n).map Char.toNat with
  | nil =>
    have h := congrArg List.length e
    simp at h
  | cons d ds => exact ⟨d, ds, rfl⟩
theorem meets_b {a : Int} {t : Tok} (h0 : 0 ≤ a) (hl : (binText a.natAbs).length ≤ sizeLine) (u : Tok) :
    Meets (Builtin.«int.__format__» ⟨[.int a t, .str specB u], []⟩) (fun _ R s => ∀ t' k, R (.ok (.ret (.str (binText a.natAbs) t'))) { s with toks := k }) := by
  apply KPc.meets_of
  intro _ _ _ _ _ _ _
  unfold Builtin.«int.__format__»
  refine wpAny_bind (wpAny_of_eq (a := (_, _)) rfl ?_)
  refine wpAny_bind (wpAny_of_eq (a := _) rfl ?_)
  kxf_if
  refine wpAny_bind (wpAny_typeNameOf (T := "str") (typeIs_str _ _ _) (by decide) fun _ => ?_)
  refine wpAny_bind (wpAny_of_eq (a := some _) rfl ?_)
  kxf_if
  kxf_if
  refine wpAny_bind (wpAny_typeNameOfCut_int ?_)
  have hneg : decide (a < 0) = false := decide_eq_false (by omega)
  (repeat kxf_if)
  refine KXf.ret_text (T := binText a.natAbs) ?_ ?_ ?_
  · rw [hneg]
    obtain ⟨d, ds, e⟩ := digits_some a.natAbs
    unfold binText
    rw [e]
    generalize hL : List.map _ _ = L
    have eL : L = d :: ds := hL.symm.trans e
    subst eL
    show ((⟨(List.replicate (((-1 : Int) - ((([] : List Nat).length : Nat) + (([] : List Nat).length : Nat) + (([] : List Nat).length : Nat)) - ((List.replicate ((0 : Int).toNat - (d :: ds).length) 48 ++ (d :: ds)).length : Nat)).toNat) 32 ++ ([] : List Nat) ++ [] ++ List.replicate 0 32 ++ (List.replicate ((0 : Int).toNat - (d :: ds).length) 48 ++ (d :: ds)) ++ [] ++ List.replicate 0 32).toArray⟩ : Str)) = _
    have z1 : (0 : Int).toNat - (d :: ds).length = 0 := by simp
    rw [z1]
    have z2 : ((-1 : Int) - ((([] : List Nat).length : Nat) + (([] : List Nat).length : Nat) + (([] : List Nat).length : Nat)) - ((List.replicate 0 48 ++ (d :: ds)).length : Nat)).toNat = 0 := by
      simp
      omega
    rw [z2]
    simp
  · rw [hneg]
    obtain ⟨d, ds, e⟩ := digits_some a.natAbs
    unfold binText at hl
    rw [e] at hl
    generalize hL : List.map _ _ = L
    have eL : L = d :: ds := hL.symm.trans e
    subst eL
    show (⟨(List.replicate (((-1 : Int) - ((([] : List Nat).length : Nat) + (([] : List Nat).length : Nat) + (([] : List Nat).length : Nat)) - ((List.replicate ((0 : Int).toNat - (d :: ds).length) 48 ++ (d :: ds)).length : Nat)).toNat) 32 ++ ([] : List Nat) ++ [] ++ List.replicate 0 32 ++ (List.replicate ((0 : Int).toNat - (d :: ds).length) 48 ++ (d :: ds)) ++ [] ++ List.replicate 0 32).toArray⟩ : Str).length ≤ _
    have z1 : (0 : Int).toNat - (d :: ds).length = 0 := by simp
    rw [z1]
    have z2 : ((-1 : Int) - ((([] : List Nat).length : Nat) + (([] : List Nat).length : Nat) + (([] : List Nat).length : Nat)) - ((List.replicate 0 48 ++ (d :: ds)).length : Nat)).toNat = 0 := by
      simp
      omega
    rw [z2]
    simpa using hl
  · assumption
end KA
namespace KA
open PySem PySem.Spec PyProof.Rows L2 PySem.W
section
variable {X : Cx}
/-- f'{e:b}', a number from 0 on -/
theorem pe_fmtB {e : Expr} {te : TE} {pos p1 p2 : Pos} {k : Nat} (he : PE X e te) :
    PE X (.FormattedValue e (-1) (some (.JoinedStr [.Constant (.str "b") k p1] p2)) pos) (fun σ H Q => te σ H fun x H1 => ∃ i : Int, x = .int i ∧ 0 ≤ i ∧ (binText i.natAbs).length ≤ sizeLine ∧ Q (.str (binText i.natAbs)) H1) := by
  refine ⟨fun pins s σ H Q I h => ?_⟩
  refine wpAny_FormattedValue_spec (thn (he.run pins s σ H _ I h) fun v s1 hv => ?_)
  obtain ⟨x, H1, I1, r1, i, rfl, h0, hz, q⟩ := hv
  obtain ⟨t, rfl⟩ := r1
  refine wpAny_JoinedStr_one ?_
  refine Calls.Constant_str ⟨("b" : Str), _, rfl, ?_⟩
  exact KXf.field_int (spec' := specB) (by decide +kernel) (by decide) (by decide) (fun u => meets_b h0 hz u) fun t' k => ⟨.str (binText i.natAbs), H1, (I1.tok _).tok _, ⟨_, rfl⟩, q⟩
end
end KA
namespace KA
open PySem PySem.Spec PyProof.Rows L2 PySem.W
/-! ### an exception that was caught, kept as a value -/
/-- an exception of the class cls with the own dict d stands at a -/
def ExV (cls : Value) (d : Option Addr) (a : Addr) : HO := .ext fun h => ∃ oe : Obj, h.get? a = some oe ∧ Zc cls d oe ∧ ∃ vs, oe.data = .fields vs
theorem exV_ok {P : Program} {w : World} {H : Hp} {h : Heap} {a : Addr} {cls : Value} {d : Option Addr} {oe : Obj} {vs : Array Value} (e : h.get? a = some oe) (z : Zc cls d oe) (f : oe.data = .fields vs) :
    ObjOk P w H h a (ExV cls d a) := ⟨⟨oe, e, z, vs, f⟩, ⟨oe, e⟩, fun _ _ ⟨o, q, r⟩ k => ⟨o, k o q, r⟩⟩
section
variable {X : Cx} {pins : List (Addr × Obj)} {σ : L2.St} {H : Hp} {s : Shared}
/-- what was pinned, and did not stand at the entry, is tracked from here on -/
theorem track {a : Addr} {oe : Obj} {φ : Heap → Prop} (J : Inv X ((a, oe) :: pins) σ H s) (ok : X.Ok) (n0 : X.s_0.heap.get? a = none) (np : ∀ p ∈ X.pn ++ pins, p.1 ≠ a)
    (new : ObjOk X.prog X.w (upd H a (.ext φ)) s.heap a (.ext φ)) : Inv X pins σ (upd H a (.ext φ)) s := by
  obtain ⟨ea, na, nL, notF, nc⟩ := J.pin (a, oe) (List.mem_append_right _ List.mem_cons_self)
  have nz : ∀ b u, H b = some u → b ≠ a := fun b u q => ne_of_none q na
  have cut : ∀ p, p ∈ X.pn ++ pins → p ∈ X.pn ++ (a, oe) :: pins := fun p hp => by
    rcases List.mem_append.mp hp with h | h
    · exact List.mem_append_left _ h
    · exact List.mem_append_right _ (List.mem_cons_of_mem _ h)
  have old : ∀ b o, X.s_0.heap.get? b = some o → b ≠ a := fun b o q z => by
    rw [z, n0] at q
    cases q
  have base : Un X.fs X.ex X.H_0 (upd H a (.ext φ)) X.s_0.heap s.heap :=
    { keep := J.base.keep, slot := J.base.slot, there := J.base.there
      free := fun b o q n hx => (upd_ne (old b o q)).trans (J.base.free b o q n hx)
      tups := fun b xs q => (upd_ne (nz b _ (J.base.tups b xs q))).trans (J.base.tups b xs q)
      frzs := fun b o u q => (upd_ne (nz b _ (J.base.frzs b o u q))).trans (J.base.frzs b o u q)
      tbls := fun b ps q => by
        obtain ⟨more, z⟩ := J.base.tbls b ps q
        exact ⟨more, (upd_ne (nz b _ z)).trans z⟩ }
  have apart : ∀ b, b ≠ a → H b = none → upd H a (.ext φ) b = none := fun b hb hn => (upd_ne hb).trans hn
  have ce : ∀ x c, X.env.cells.lookup x = some c → c ≠ a := fun x c q z => by
    obtain ⟨v, o, ho, hd⟩ := J.cell x c q
    rw [z, ea] at ho
    cases ho
    exact nc v hd
  have hk : HOk X.prog X.w (upd H a (.ext φ)) s.heap := fun b o q => by
    by_cases hb : b = a
    · subst hb
      rw [upd_same] at q
      cases q
      exact new
    · rw [upd_ne hb] at q
      exact (J.hok b o q).stay (fun c v _ r => r) (fun c r => (upd_ne (nz c _ r)).trans r) (fun c xs r => (upd_ne (nz c _ r)).trans r)
  have pk : ∀ p ∈ X.pn ++ pins, s.heap.get? p.1 = some p.2 ∧ upd H a (.ext φ) p.1 = none ∧ p.1 ≠ X.env.locals ∧ p.1 ∉ X.fs ∧ ∀ v, p.2.data ≠ .cell v := fun p hp => by
    obtain ⟨e1, e2, e3⟩ := J.pin p (cut p hp)
    exact ⟨e1, apart _ (np p hp) e2, e3⟩
  exact { ok := ok, os := J.os, bare := J.bare, base := base, loc := J.loc, cell := J.cell, free := apart _ (Ne.symm nL) J.free
          freeC := fun x c q => apart _ (ce x c q) (J.freeC x c q), pin := pk, hok := hk, len := J.len }
end
/-- what 'except x as n: m = n' wishes of an exception of the body: it is of the clause's class, and m holds it behind the try (slots: n in i, m in j) -/
def wKeep (K : PySem.W.Frag) (c : Value) (i j len : Nat) (D : Ends) : WX := fun cls d σ H =>
  PySem.W.exmOne K cls c = some true ∧ ∀ a, H a = none → σ.length = len → D.nx ((((σ.set i (some (.ref a))).set j (some (.ref a)))).set i none) (upd H a (ExV cls d a))
section
variable {X : Cx} {x n m : Str} {c : Value} {i j : Nat} {body : List Stmt} {np pm pr pa ph pt : Pos} {tb : WX → TS}
theorem ps_try_keep (hx : X.ex = []) (hs : X.stack = X.env :: X.outer) (hf : X.env.frame = some X.env.locals) (hN : X.N.Nodup) (hi : X.N[i]? = some n) (hj : X.N[j]? = some m) (hln : X.env.kindOf n = some .local) (hlm : X.env.kindOf m = some .local) (hc : Names X x c)
    (hd : (n == ("__debug__" : Str)) = false) (hcd : (n == ("__classdict__" : Str)) = false)
    (hb : ∀ (W : WX) (pn : List (Addr × Obj)) (xe : Value → Shared → Prop), Takes (X.tr pn xe) W → PassesOwn (model X.prog X.w) X.A X.env xe → PSs (X.tr pn xe) body (tb W)) :
    PS X (.Try body [.ExceptHandler (some (.Name x np)) (some n) [.Assign [.Name m pm] (.Name n pr) pa] ph] [] [] pt) (fun D σ H => tb (wKeep X.K c i j X.N.length D) D σ H) := by
  refine ⟨fun pins s σ H D I h => wpAny_Try_except ?_⟩
  have ok := I.ok
  have fr : X.A.frames = some (X.env :: X.outer) := ok.frames.trans (congrArg some hs)
  have ways : ∀ u s', XE (X.tr (X.pn ++ pins) (fun e s₁ => wpAny (model X.prog X.w) X.A (noteFrame e X.env)
      (fun _ s₂ => wpAny (model X.prog X.w) X.A (setFlight e none)
        (fun _ s₃ => wpAny (model X.prog X.w) X.A (handleBy e X.env [.ExceptHandler (some (.Name x np)) (some n) [.Assign [.Name m pm] (.Name n pr) pa] ph]) (SP X pins D) X.xe s₃) X.xe s₂) X.xe s₁)) (wKeep X.K c i j X.N.length D) u s' →
      wpAny (model X.prog X.w) X.A (noteFrame u X.env)
        (fun _ s₂ => wpAny (model X.prog X.w) X.A (setFlight u none)
          (fun _ s₃ => wpAny (model X.prog X.w) X.A (handleBy u X.env [.ExceptHandler (some (.Name x np)) (some n) [.Assign [.Name m pm] (.Name n pr) pa] ph]) (SP X pins D) X.xe s₃) X.xe s₂) X.xe s' := by
    rintro u s' ⟨a, B, sI, pins', σ', H', cls, d, rfl, Jt, nb, up, sky, na, os, ag, hyes, hgo⟩
    have J : Inv X pins σ' H' sI := Jt.ofTry ok
    have nb : ∀ b o, sI.heap.get? b = some o → b ∉ frs X.stack → B.get? b = some o := nb
    have sky : Sky B (X.env :: X.outer) a (Zc cls d) X.env.locals s'.heap := hs ▸ sky
    refine Sky.land Zc.steady fr hf sky fun h3 air3 grow3 => ?_
    have J3 : Inv X pins σ' H' { s' with heap := h3 } := J.landed nb air3.1 (up.trans grow3) os ag
    obtain ⟨o3, v3, e3, z3, f3⟩ := air3.there
    have away : a ∉ frs (X.env :: X.outer) := fun hm => by
      obtain ⟨_, o', e', hnf⟩ := air3.2.2.1.mem hm
      cases e3.symm.trans e'
      exact hnf _ f3
    have nL : a ≠ X.env.locals := fun z => away (List.mem_filterMap.mpr ⟨X.env, List.mem_cons_self, hf.trans (congrArg some z.symm)⟩)
    have notF : a ∉ X.fs := fun hm => by
      obtain ⟨e, inX, q⟩ := List.mem_filterMap.mp hm
      exact away (List.mem_filterMap.mpr ⟨e, List.mem_cons_of_mem _ inX, q⟩)
    have gone : sI.heap.get? a = none := by
      cases q : sI.heap.get? a with
      | none => rfl
      | some o =>
        have z := nb a o q (by rw [hs]; exact away)
        rw [air3.2.1] at z
        cases z
    have n0 : X.s_0.heap.get? a = none := by
      cases q : X.s_0.heap.get? a with
      | none => rfl
      | some o =>
        obtain ⟨o', z⟩ := J.base.there a o q (by rw [hx]; exact fun z => nomatch z)
        rw [gone] at z
        cases z
    have np' : ∀ p ∈ X.pn ++ pins, p.1 ≠ a := fun p hp z => by
      have q := (J.pin p hp).1
      rw [z, gone] at q
      cases q
    have S3 := J3.suite e3 f3 na nL notF
    refine wpAny_handleBy_cons (codeAny_handlers_test ?_) (by intro q; cases q)
    have LT : PySem.W.Looks (model X.prog X.w) h3 (typeOf (.ref a)) cls := fun A Q E s k q => wpAny_typeOf_ref (k _ _ e3) (z3.1.symm ▸ q)
    have LM := PySem.W.exm_one (M := model X.prog X.w) J3.kIn LT hyes
    have named : ∀ {Q E : Value → Shared → Prop}, Q c { s' with heap := h3 } →
        wpAny (model X.prog X.w) (X.A.mark (some (.ref a))) (eval (.Name x np) X.env) Q E { s' with heap := h3 } := fun {Q E} q => by
      obtain ⟨g, gd, gm | ⟨gm, gv, gn⟩⟩ := hc
      · exact ld_glob (X := X.suite a _) S3 g gm q gd
      · exact ld_blt (X := X.suite a _) S3 g gm gv q gn gd
    refine named (LM.here (codeAny_handlers_suite_as ?_))
    refine HandSPX.lands_againZ air3 fun h4 air4 grow4 => ?_
    have J4 : Inv X pins σ' H' { s' with heap := h4 } := J.landed nb air4.1 ((up.trans grow3).trans grow4) os ag
    obtain ⟨o4, v4, e4, z4, f4⟩ := air4.there
    refine store_ok (X := X.suite a ((a, o4) :: (X.pn ++ pins))) (v := .ref a) (J4.suite e4 f4 na nL notF) hN hi (.inl hln) rfl (fun s5 S5 => ?_) (.inr hln)
    have assign : PSs (X.suite a ((a, o4) :: (X.pn ++ pins))) [.Assign [.Name m pm] (.Name n pr) pa] (tAsg (tVar i) (gName j)) :=
      pss_one (ps_set (i := j) hN hj (.inl hlm) (pe_var hi (.inl hln) hd hcd) (hf := .inr hlm))
    have hlt : i < (σ'.set i (some (V.ref a))).length := by
      rw [List.length_set, J.len]
      exact (List.getElem?_eq_some_iff.mp hi).1
    refine wpAny_mono (assign.run [] s5 _ H' { D with nx := fun σ6 H6 => σ6 = (σ'.set i (some (.ref a))).set j (some (.ref a)) ∧ H6 = H', rt := fun _ _ => False, bk := fun _ _ => False, ct := fun _ _ => False } S5
      ⟨.ref a, by rw [List.getElem?_set_self (by simpa using hlt)], rfl, rfl⟩) (fun f s6 q6 => ?_) (fun _ _ z => z.elim)
    cases f with
    | next =>
      obtain ⟨σ6, H6, S6, eσ, eH⟩ := q6
      subst eσ
      subst eH
      have U : Inv X pins _ H6 s6 := S6.unsuite ok
      have P6 := S6.pin (a, o4) (List.mem_append_left _ List.mem_cons_self)
      have pin2 : ∀ p ∈ X.pn ++ (a, o4) :: pins, s6.heap.get? p.1 = some p.2 ∧ H6 p.1 = none ∧ p.1 ≠ X.env.locals ∧ p.1 ∉ X.fs ∧ ∀ v, p.2.data ≠ .cell v := fun p hp => by
        rcases List.mem_append.mp hp with h | h
        · exact U.pin p (List.mem_append_left _ h)
        · rcases List.mem_cons.mp h with e | h
          · rw [e]
            exact P6
          · exact U.pin p (List.mem_append_right _ h)
      have U2 : Inv X ((a, o4) :: pins) _ H6 s6 := { U with pin := pin2 }
      refine gone_ok U2 hN hi hln fun s7 J7 => ?_
      have P7 := (J7.pin (a, o4) (List.mem_append_right _ List.mem_cons_self)).1
      exact ⟨_, _, track J7 ok n0 np' (exV_ok P7 z4 f4), hgo a na J.len⟩
    | brk =>
      obtain ⟨_, _, _, z⟩ := q6
      exact z.elim
    | cont =>
      obtain ⟨_, _, _, z⟩ := q6
      exact z.elim
    | ret u =>
      obtain ⟨_, _, _, _, _, z⟩ := q6
      exact z.elim
  refine wpAny_mono ((hb (wKeep X.K c i j X.N.length D) (X.pn ++ pins) _ ways PassesOwn.looking).run [] s σ H D (I.toTry _) h) (fun f s1 q => ?_) fun _ _ z => z
  cases f with
  | next =>
    obtain ⟨σ1, H1, J1, q1⟩ := q
    exact wpAny_execs_nil ⟨σ1, H1, J1.ofTry ok, q1⟩
  | brk =>
    obtain ⟨σ1, H1, J1, q1⟩ := q
    exact ⟨σ1, H1, J1.ofTry ok, q1⟩
  | cont =>
    obtain ⟨σ1, H1, J1, q1⟩ := q
    exact ⟨σ1, H1, J1.ofTry ok, q1⟩
  | ret u =>
    obtain ⟨v, σ1, H1, J1, r, q1⟩ := q
    exact ⟨v, σ1, H1, J1.ofTry ok, r, q1⟩
end
end KA
namespace KA
open PySem PySem.Spec PyProof.Rows L2 PySem.W
/-- isinstance of an exception that is kept as a value, its class without fields of its own -/
def rIsV (K : PySem.W.Frag) : List V → Hp → VK → Prop := fun xs H Q => ∃ (a D : Addr) (c : V) (cv : Value) (b : Bool), xs = [.ref a, c] ∧ H a = some (ExV (.ref D) none a) ∧ ExcC K D ∧ ClsV c cv ∧ PySem.W.kitOne K (.ref D) cv = some b ∧ Q (.bl b) H
def rIs2 (K : PySem.W.Frag) : List V → Hp → VK → Prop := fun xs H Q => rIsi K xs H Q ∨ rIsV K xs H Q
section
variable {X : Cx}
theorem call_isV : CallR X (.builtin "isinstance") (rIsV X.K) := by
  intro pins s σ H xs us Q I r h
  obtain ⟨a, D, c, cv, b, rfl, ha, C, k, e, q⟩ := h
  obtain ⟨u1, u2, rfl, r1, r2⟩ := vals2 r
  cases k.eq r2
  cases (show u1 = Value.ref a from r1)
  obtain ⟨⟨oe, h1, ⟨z1, z2⟩, vs, z3⟩, _⟩ := I.hok a _ ha
  obtain ⟨oc, od, dt, sl⟩ := oe
  dsimp only at z1 z2 z3
  subst z1 z2 z3
  have J : PySem.W.InstAt s.heap a ⟨.ref D, none, .fields vs, sl⟩ D none := ⟨h1, rfl, rfl, trivial⟩
  exact PySem.W.kia_one (PySem.W.handS_kitx_exc C.hg C.hk C.hs C.hd C.ha C.hn C.ht C.hm) I.kIn J e (fun z => nomatch z) fun tk => ⟨.bl b, H, I.tok tk, rfl, q⟩
theorem call_is2 : CallR X (.builtin "isinstance") (rIs2 X.K) := by
  intro pins s σ H xs us Q I r h
  rcases h with h | h
  · exact call_isi pins s σ H xs us Q I r h
  · exact call_isV pins s σ H xs us Q I r h
/-- repr of data -/
def rRepr (K : PySem.W.Frag) : List V → Hp → VK → Prop := fun xs H Q => ∃ (x : Addr) (d : PyData), xs = [.ref x] ∧ Dp K H (.ref x) d ∧ d.showable = true ∧ d.hasDict = false ∧ d.depth ≤ 60 ∧ d.shown.length ≤ sizeLine ∧ Q (.str d.shown) H
theorem call_repr {k : Nat} (hg : X.A.guards = some []) (hr : Room k X.A) : CallR X (.builtin "repr") (rRepr X.K) := by
  intro pins s σ H xs us Q I r h
  obtain ⟨x, d, rfl, hd, hs, hn, hz, hl, q⟩ := h
  obtain ⟨u1, rfl, r1⟩ := vals1 r
  cases (show u1 = Value.ref x from r1)
  obtain ⟨as, rd⟩ := Dp.reads I d (.ref x) (.ref x) hd rfl
  have hu := hr.un
  refine repr_of_reads' rd hs (fun z => by rw [hn] at z; cases z) hg (by omega) (fun _ _ e => e) (fun h' u tk hk => ?_) hl
  exact ⟨.str d.shown, H, I.kept (t' := tk) hk, ⟨_, rfl⟩, q⟩
end
end KA
namespace KA
open PySem PySem.Spec PyProof.Rows L2 PySem.W LamX
section
variable {X : Cx}
/-- caught: what the lambda raises is kept and handed back, None if it raises nothing -/
def TCaught (K : PySem.W.Frag) (CS : Addr) : (XK → Hp → VK → Prop) → Hp → VK → Prop := fun tl H Q => ∀ Q1 : VK, (∀ v H', Q .non H' → Q1 v H') →
  tl (fun cls d H' => PySem.W.exmOne K cls (.ref CS) = some true ∧ ∀ a, H' a = none → Q (.ref a) (upd H' a (ExV cls d a))) H Q1
theorem caught_gives {a e n m q x : Str} {sg : Scope} {g CS : Addr} {cdg : Value} {j1 : Nat} {p1 p2 p3 p4 p5 p6 p7 p8 p9 pa pb pc pd pe : Pos} (S : FnScope [a, m, n] [a] sg)
    (la : sg.names.lookup a = some .local) (lm : sg.names.lookup m = some .local) (ln : sg.names.lookup n = some .local) (he : sg.names.lookup e = some .globalImplicit) (hme : X.mg e = some (.ref CS)) (hde : (e == ("__debug__" : Str)) = false)
    (d1 : (n == ("__debug__" : Str)) = false) (d2 : (n == ("__classdict__" : Str)) = false) (d3 : (m == ("__debug__" : Str)) = false) (d4 : (m == ("__classdict__" : Str)) = false) :
    GivesTo X [a, m, n] x sg g cdg
      [.Assign [.Name m p1] (.Constant .none j1 p2) p3,
       .Try [.Expr (.Call (.Name a p4) [] [] p5) p6] [.ExceptHandler (some (.Name e p7)) (some n) [.Assign [.Name m p8] (.Name n p9) pa] pb] [] [] pc,
       .Return (some (.Name m pd)) pe] a q (TCaught X.K CS) := by
  intro f c' s H Q tl act hc h
  have hgl : Gl (cxOf C8.CX0 X.prog X.w X.K X.mg X.base [a, m, n] x sg g cdg X.A X.stack s H C8.E0).nox e := he
  refine ⟨_, pss_cons (ps_set (i := 1) S.nd rfl (.inl lm) pe_non) (pss_cons (ps_try_keep (X := (cxOf C8.CX0 X.prog X.w X.K X.mg X.base [a, m, n] x sg g cdg X.A X.stack s H C8.E0).nox) (c := .ref CS) (i := 2) (j := 1)
      (tb := fun W D σ H => ∃ Eb : XK, (∀ cls d σ' H', Eb cls d H' → W cls d σ' H') ∧ σ[0]? = some (some (.ref f)) ∧ H c' = some (CodeO c' q) ∧ tl Eb H (fun _ H' => D.nx σ H'))
      rfl rfl rfl S.nd rfl rfl ln lm ⟨hgl, hde, .inl hme⟩ d1 d2 (fun W pn xe tk _ => ?_))
    (pss_one (ps_ret (pe_var (i := 1) rfl (.inl lm) d3 d4)))), ?_⟩
  · refine ⟨fun pins s' σ H' D I h' => ?_⟩
    obtain ⟨Eb, wish, h1, h2, h3⟩ := h'
    exact (pss_one (ps_expr (act W pn xe Eb p4 p5 tk wish))).run pins s' σ H' D I ⟨h1, h2, h3⟩
  · refine ⟨fun cls d H' => PySem.W.exmOne X.K cls (.ref CS) = some true ∧ ∀ a, H' a = none → Q (.ref a) (upd H' a (ExV cls d a)), fun cls d σ' H' ⟨e1, e2⟩ => ⟨e1, fun b hb hl => ?_⟩, rfl, hc, ?_⟩
    · match σ', hl with
      | [u, v, w], _ => exact ⟨_, rfl, e2 b hb⟩
    · exact h _ fun v H' z => ⟨_, rfl, z⟩
end
end KA
namespace KA
open PySem PySem.Spec PyProof.Rows L2 PySem.W LamX
/-! ### what the top has written, by name -/
/-- a def of the top -/
structure DefT (K : PySem.W.Frag) (mg : Str → Option Value) (x : Str) (st : Stmt) where
  a : Addr
  d : FuncData
  f : Fun K x x st a d
  m : mg x = some (.ref a)
abbrev veB : List Value := [.type "ValueError", .type "Exception", .type "BaseException", .type "object"]
/-- an exception class of the top over ReelError at R, without an __init__ of its own -/
structure ExcT (K : PySem.W.Frag) (mg : Str → Option Value) (x : Str) (R : Addr) where
  C : Addr
  g : mg x = some (.ref C)
  q : PySem.W.excIn K C veB "ValueError.__new__" = true
  k : PySem.W.keepIn K (.ref C) = true
  b : PySem.W.subIn K (.ref C) (.type "BaseException") = some true
  t : PySem.W.typeIn K (.ref C) = some (.type "type")
  r : PySem.W.subIn K (.ref C) (.ref R) = some true
  e : ExcC K C
/-- ReelError -/
structure ReelT (K : PySem.W.Frag) (mg : Str → Option Value) where
  C : Addr
  g : mg "ReelError" = some (.ref C)
  b : PySem.W.subIn K (.ref C) (.type "BaseException") = some true
  t : PySem.W.typeIn K (.ref C) = some (.type "type")
  d : PySem.W.hasDictIn K C = true
theorem ExcT.exm {K : PySem.W.Frag} {mg : Str → Option Value} {x : Str} (R : ReelT K mg) (T : ExcT K mg x R.C) : PySem.W.exmOne K (.ref T.C) (.ref R.C) = some true := PySem.W.exm_ref R.b R.d R.t T.r
/-- an int constant of the top -/
def CstT (mg : Str → Option Value) (x : Str) (n : Int) : Prop := ∃ t, mg x = some (.int n t)
abbrev C1 := L2.CX
theorem passE {X : Cx} : Passes (L2.CX X.prog X.w) X E0 := passL
section
variable {X : Cx} {E : XK}
/-- raise C('..') in a def that lets it out -/
theorem ps_raiseT {K : PySem.W.Frag} {mg : Str → Option Value} {x : Str} {R : Addr} {pos p1 p2 pc : Pos} {j : Nat} {m : Str} (hK : X.K = K) (hM : X.mg = mg) (T : ExcT K mg x R) (hg : Gl X x) (hc : X.calm = true) {W : WX} (tk : Takes X W)
    (hdb : (x == ("__debug__" : Str)) = false := by decide) :
    PS X (.Raise (some (.Call (.Name x p1) [.Constant (.str m) j pc] [] p2)) none pos) (fun _ σ H => W (.ref T.C) none σ H) := by
  subst hK
  subst hM
  exact ps_raise hc tk (pmk_own PySem.F.excBase_ValueError T.q T.g T.k (raises_own T.b T.t) hg hdb)
end
end KA
namespace KA
open PySem PySem.Spec PyProof.Rows L2 PySem.W LamX
/-! ### the law's own draws: their state -/
abbrev kLarge : Key := Sum.inr "large"
abbrev kCells : Key := Sum.inr "cells"
abbrev kLeft : Key := Sum.inr "left"
abbrev kTurn : Key := Sum.inr "turn"
def stKv (lg cl : Addr) (left turn : Int) : List (Key × V) := [(kLarge, .ref lg), (kCells, .ref cl), (kLeft, .int left), (kTurn, .int turn)]
section
variable {lg cl : Addr} {left turn : Int}
theorem k12 : ¬ kLarge = kCells := by decide +kernel
theorem k13 : ¬ kLarge = kLeft := by decide +kernel
theorem k14 : ¬ kLarge = kTurn := by decide +kernel
theorem k23 : ¬ kCells = kLeft := by decide +kernel
theorem k24 : ¬ kCells = kTurn := by decide +kernel
theorem k34 : ¬ kLeft = kTurn := by decide +kernel
theorem st_large : valV (stKv lg cl left turn) kLarge = some (.ref lg) := valV_pos rfl
theorem st_cells : valV (stKv lg cl left turn) kCells = some (.ref cl) := (valV_neg k12).trans (valV_pos rfl)
theorem st_left : valV (stKv lg cl left turn) kLeft = some (.int left) := (valV_neg k13).trans ((valV_neg k23).trans (valV_pos rfl))
theorem st_turn : valV (stKv lg cl left turn) kTurn = some (.int turn) := (valV_neg k14).trans ((valV_neg k24).trans ((valV_neg k34).trans (valV_pos rfl)))
theorem st_put_left (l : Int) : putK (stKv lg cl left turn) kLeft (.int l) = stKv lg cl l turn := by
  unfold putK
  rw [valV_any, st_left, Option.isSome_some, if_pos rfl]
  simp only [stKv, List.map_cons, List.map_nil, if_neg k13, if_neg k23, if_neg (Ne.symm k34), if_true]
theorem st_put_turn (t : Int) : putK (stKv lg cl left turn) kTurn (.int t) = stKv lg cl left t := by
  unfold putK
  rw [valV_any, st_turn, Option.isSome_some, if_pos rfl]
  simp only [stKv, List.map_cons, List.map_nil, if_neg k14, if_neg k24, if_neg k34, if_true]
end
/-- the state stands at st: the numbers that are left to draw from at lg, the script's at cl -/
structure StD (H : Hp) (st lg cl : Addr) (large cells : List Int) (left : Int) (turn : Nat) : Prop where
  d : H st = some (.dK (stKv lg cl left turn))
  l : H lg = some (.lst (large.map V.int))
  c : H cl = some (.lst (cells.map V.int))
  ne : lg ≠ cl
  pl : ∀ x ∈ large, 0 ≤ x
  p0 : 0 ≤ left
def StAt (H : Hp) (st lg cl : Addr) (n : Nat) : Prop := ∃ large cells left turn, StD H st lg cl large cells left turn ∧ turn ≤ n
/-- all but the state stands as it stood -/
def Kp (st lg : Addr) (H H' : Hp) : Prop := ∀ b o, H b = some o → b ≠ st → b ≠ lg → H' b = some o
theorem Kp.refl {st lg : Addr} {H : Hp} : Kp st lg H H := fun _ _ h _ _ => h
theorem Kp.trans {st lg : Addr} {H H1 H2 : Hp} (a : Kp st lg H H1) (b : Kp st lg H1 H2) : Kp st lg H H2 := fun c o h n1 n2 => b c o (a c o h n1 n2) n1 n2
theorem Kp.same {st lg : Addr} {H H1 : Hp} (a : Same H H1) : Kp st lg H H1 := fun c o h _ _ => a c o h
theorem Same.new {H : Hp} {p : Addr} {o : HO} (h : H p = none) : Same H (upd H p o) := fun b u e => by
  rw [upd_ne (ne_of_none e h)]
  exact e
theorem StD.same {H H' : Hp} {st lg cl : Addr} {large cells : List Int} {left : Int} {turn : Nat} (S : StD H st lg cl large cells left turn) (e : Same H H') : StD H' st lg cl large cells left turn :=
  { S with d := e _ _ S.d, l := e _ _ S.l, c := e _ _ S.c }
theorem StAt.same {H H' : Hp} {st lg cl : Addr} {n : Nat} (S : StAt H st lg cl n) (e : Same H H') : StAt H' st lg cl n := by
  obtain ⟨a, b, c, d, s, h⟩ := S
  exact ⟨a, b, c, d, s.same e, h⟩
theorem StAt.mono {H : Hp} {st lg cl : Addr} {n m : Nat} (S : StAt H st lg cl n) (h : n ≤ m) : StAt H st lg cl m := by
  obtain ⟨a, b, c, d, s, h'⟩ := S
  exact ⟨a, b, c, d, s, Nat.le_trans h' h⟩
theorem StD.st_lg {H : Hp} {st lg cl : Addr} {large cells : List Int} {left : Int} {turn : Nat} (S : StD H st lg cl large cells left turn) : st ≠ lg := ne_of S.d S.l (by intro z; cases z)
theorem StD.st_cl {H : Hp} {st lg cl : Addr} {large cells : List Int} {left : Int} {turn : Nat} (S : StD H st lg cl large cells left turn) : st ≠ cl := ne_of S.d S.c (by intro z; cases z)
/-- the state's dict is written -/
theorem StD.put {H : Hp} {st lg cl : Addr} {large cells : List Int} {left l : Int} {turn t : Nat} (S : StD H st lg cl large cells left turn) (h : 0 ≤ l) : StD (upd H st (.dK (stKv lg cl l t))) st lg cl large cells l t :=
  { d := upd_same, l := (upd_ne S.st_lg.symm).trans S.l, c := (upd_ne S.st_cl.symm).trans S.c, ne := S.ne, pl := S.pl, p0 := h }
theorem Kp.put {st lg : Addr} {H : Hp} {o : HO} : Kp st lg H (upd H st o) := fun b u e n _ => (upd_ne n).trans e
theorem Kp.put2 {st lg : Addr} {H : Hp} {o : HO} : Kp st lg H (upd H lg o) := fun b u e _ n => (upd_ne n).trans e
theorem dp_ints {K : PySem.W.Frag} {H : Hp} : ∀ ns : List Int, DpAll K H (ns.map V.int) (ns.map PyData.int)
  | [] => .nil
  | n :: r => .cons (.int n) (dp_ints r)
theorem dp_int_list {K : PySem.W.Frag} {H : Hp} {a : Addr} {ns : List Int} (h : H a = some (.lst (ns.map V.int))) : Dp K H (.ref a) (.list (ns.map PyData.int)) := .lst (SqL.of h) (dp_ints ns)
theorem dp_nil {K : PySem.W.Frag} {H : Hp} {a : Addr} (h : H a = some (.lst [])) : Dp K H (.ref a) (.list []) := .lst (SqL.of h) .nil
theorem lay_is : ∀ ns : List Int, PyData.canLayAll0 (ns.map PyData.int) = true ∧ PyData.depthAll (ns.map PyData.int) = 0
  | [] => ⟨rfl, rfl⟩
  | n :: r => by
    obtain ⟨h1, h2⟩ := lay_is r
    exact ⟨by simp [PyData.canLayAll0, PyData.canLay0, h1], by simp [PyData.depthAll, PyData.depth, h2]⟩
theorem shaped_is (ns : List Int) : SeqAt.shaped (.list (ns.map PyData.int)) = true := by
  obtain ⟨h1, h2⟩ := lay_is ns
  simp [SeqAt.shaped, PyData.canLay0, PyData.depth, h1, h2]
theorem shaped_nil : SeqAt.shaped (.list []) = true := shaped_is []
theorem eqv_ints_nil (ns : List Int) : PyData.eqv (.list (ns.map PyData.int)) (.list []) = ns.isEmpty := by
  cases ns <;> rfl
theorem st_merge (lg cl : Addr) (left turn : Int) : mergeK [] (stKv lg cl left turn) = stKv lg cl left turn := by
  unfold stKv mergeK
  simp only [List.foldl_cons, List.foldl_nil]
  rw [putK_new (kvs := []) _ valV_nil, List.nil_append]
  rw [putK_new (k := kCells) _ ((valV_neg (show ¬ kLarge = kCells from k12)).trans valV_nil), List.cons_append, List.nil_append]
  rw [putK_new (k := kLeft) _ ((valV_neg (show ¬ kLarge = kLeft from k13)).trans ((valV_neg (show ¬ kCells = kLeft from k23)).trans valV_nil)), List.cons_append, List.cons_append, List.nil_append]
  rw [putK_new (k := kTurn) _ ((valV_neg (show ¬ kLarge = kTurn from k14)).trans ((valV_neg (show ¬ kCells = kTurn from k24)).trans ((valV_neg (show ¬ kLeft = kTurn from k34)).trans valV_nil)))]
  rfl
theorem take_map_snoc {α β : Type} (f : α → β) (l : List α) (i : Nat) (x : α) (h : l[i]? = some x) : (l.take (i + 1)).map f = (l.take i).map f ++ [f x] := by
  rw [List.take_add_one, h]
  simp
theorem StAt.off {H : Hp} {st lg cl p : Addr} {n : Nat} (S : StAt H st lg cl n) (hp : H p = none) : p ≠ st ∧ p ≠ lg := by
  obtain ⟨_, _, _, _, S', _⟩ := S
  exact ⟨(ne_of_none S'.d hp).symm, (ne_of_none S'.l hp).symm⟩
end KA
namespace KA
open PySem PySem.Spec PyProof.Rows L2 PySem.W LamX
/-! ### calls by names alone; defs whose frame must know that no repr is running -/
section
variable {X : Cx} {CX : CXT} {k : Nat} {f : Addr} {fd : FuncData} {ps ks : List Str} {sp : Sp} {E : XK} {x : Str} {p pos : Pos} {kws : List Keyword} {tk : TA} {g : List Value → List Value → List Value} {gV : List V → List V → List V}
def tKw (m : Nat) (sp : Sp) (gV : List V → List V → List V) (E : XK) (tk : TA) : TE := fun σ H Q => tk σ H fun zs H2 => zs.length = m ∧ sp (gV [] zs) H2 Q E
/-- f(k = v, ..) -/
theorem pe_kw (F : FnOk X.prog X.w X.K X.mg X.base CX k f fd ps sp) (hr : Room k X.A) (hg : Gl X x) (hm : X.mg x = some (.ref f)) (hk : PySem.W.keepIn X.K (.ref f) = true) (hb : KBn X.K fd ps 0 ks g gV) (hx : Passes CX X E) (hkw : PK X kws tk)
    (named : (backToKw pos (keywordEach kws X.env)).all (·.1.isSome) = true := by rfl) (theirs : (backToKw pos (keywordEach kws X.env)).filterMap (·.1) = ks := by rfl) (hdb : (x == ("__debug__" : Str)) = false := by decide)
    (noStars : ((backTo pos (starEach [] X.env)).any (·.1) || (backToKw pos (keywordEach kws X.env)).any (·.1.isNone)) = false := by rfl) :
    PE X (.Call (.Name x p) [] kws pos) (tKw ks.length sp gV E tk) :=
  ⟨fun pins s σ H Q I h => wpAny_Call_Name_kw (ld_glob I hg hm (PySem.W.callWith_KW0 (h₀ := X.base) I.ok.mod.kin hk named (thn (hkw.run pos pins s σ H _ I h) fun ws s2 hw => by
    obtain ⟨zs, H2, I2, rz, l2, q2⟩ := hw
    refine ⟨I2.kIn, ?_⟩
    rw [theirs]
    exact run_fnN F hr hb hx I2 .nil rz rfl l2 q2) noStars) hdb)⟩
end
section
variable {K : PySem.W.Frag} {x qual : Str} {st : Stmt} {f : Addr} {fd : FuncData} {ps ks : List Str}
/-- one parameter, by its name -/
theorem Fun.kw1 {a : Str} (F : Fun K x qual st f fd) (h : ∀ (kV doc pm : Value) (an : Option Addr) (cdv ct u : Value), bindArgs (PySem.W.fnOf x qual (defArgs st) (defBody st) (defScope st) .none kV doc pm an cdv ct) ⟨[], [(a, u)]⟩ = pure [(a, u)]) :
    KBn K fd [a] 0 [a] (fun _ ws => ws) (fun _ zs => zs) := by
  obtain ⟨oc, od, kV, doc, pm, an, cdv, ct, osl, rfl, lk, hcd⟩ := F.ex
  refine ⟨fun s us ws X l1 l2 => ?_, fun _ r => r⟩
  match us, ws, l1, l2 with
  | [], [u], _, _ => exact .of_eq (h kV doc pm an cdv ct u)
/-- two parameters a, b, called as f(b = .., a = ..) -/
theorem Fun.kw2 {a b : Str} (F : Fun K x qual st f fd) (h : ∀ (kV doc pm : Value) (an : Option Addr) (cdv ct u v : Value), bindArgs (PySem.W.fnOf x qual (defArgs st) (defBody st) (defScope st) .none kV doc pm an cdv ct) ⟨[], [(b, u), (a, v)]⟩ = pure [(a, v), (b, u)]) :
    KBn K fd [a, b] 0 [b, a] (fun _ ws => ws.reverse) (fun _ zs => zs.reverse) := by
  obtain ⟨oc, od, kV, doc, pm, an, cdv, ct, osl, rfl, lk, hcd⟩ := F.ex
  refine ⟨fun s us ws X l1 l2 => ?_, fun {_ _ zs ws} _ r => ?_⟩
  · match us, ws, l1, l2 with
    | [], [u, v], _, _ => exact .of_eq (h kV doc pm an cdv ct u v)
  · clear h
    have rev : ∀ {zs : List V} {ws : List Value}, Vals zs ws → Vals zs.reverse ws.reverse := fun {zs ws} r => by
      induction r with
      | nil => exact .nil
      | cons h _ ih =>
        rw [List.reverse_cons, List.reverse_cons]
        exact ih.append (.cons h .nil)
    exact rev r
end
end KA
namespace KA
open PySem PySem.Spec PyProof.Rows L2 PySem.W LamX
/-- as FnOk, where no repr is running around the call -/
structure FnG (P : Program) (w : World) (K : PySem.W.Frag) (mg : Str → Option Value) (base : Heap) (CX : CXT) (k : Nat) (f : Addr) (fd : FuncData) (ps : List Str) (sp : Sp) : Prop where
  len : ∀ vs H Q E, sp vs H Q E → vs.length = ps.length
  run : ∀ (A : Around) (outer : List Env) (s : Shared) (H : Hp) (args : Args) (us : List Value) (vs : List V) (Q : VK) (E : XK), Room k A → A.guards = some [] →
    Env0 P w K mg base A outer s H → BindsTo s fd args (ps.zip us) → Vals vs us → sp vs H Q E → codeAny (model P w) A (.call (.ref f) args) (CR CX outer P w H s Q E) s
theorem fnG_of {CX : CXT} {P : Program} {w : World} {K : PySem.W.Frag} {mg : Str → Option Value} {base : Heap} {k : Nat} {f : Addr} {x qual : Str} {st : Stmt} {fd : FuncData} {N ps : List Str} {sp : Sp} (F : Fun K x qual st f fd) (S : FnScope N ps (defScope st))
    (len : ∀ vs H Q E, sp vs H Q E → vs.length = ps.length)
    (hbody : ∀ (cdv : Value) (A : Around) (outer : List Env) (s : Shared) (H : Hp) (vs : List V) (Q : VK) (E : XK), Room k (A.deeper (envOfC qual (defScope st) s.heap.objs.size f cdv)) → A.guards = some [] → sp vs H Q E →
      ∃ t, PSs (cxOf CX P w K mg base N qual (defScope st) f cdv A outer s H E) (defBody st) t ∧ t { nx := fun _ H' => Q .non H', rt := Q } (L2.start N vs) H) : FnG P w K mg base CX (k + 1) f fd ps sp := by
  obtain ⟨oc, od, kV, doc, pm, an, cdv, ct, osl, rfl, lk, hcd⟩ := F.ex
  exact ⟨len, fun A outer s H args us vs Q E hr hg e0 hb r h => run_ofS lk hcd S hr e0 hb r (len _ _ _ _ h) fun hr' => hbody cdv A outer s H vs Q E hr' hg h⟩
/-- what stands around the law's call: the script at a, the tables of cs (each a code object and its table) empty -/
structure Law (h : Heap) (mg mb : Str → Option Value) (K : PySem.W.Frag) (cs : List (Addr × Addr)) (a : Addr) (vs : List Value) (ns : List Int) : Prop where
  kx : K.In h
  nsM : h.Ns mainGlobals mg
  bn : h.Ns builtinsNs mb
  bb : ∀ x : Str, x ≠ "__name__" → mb x = bootBuiltins x
  lim : h.NoLimit
  tab : ∀ p ∈ cs, h.get? p.2 = some { cls := .none, data := .fields #[] }
  notab : ∀ p ∈ cs, K.lookup p.2 = none
  code : ∀ p ∈ cs, PySem.W.CodeHd h p.1 p.2
  bm : ∃ (bm : Addr) (ob : Obj), mg "__builtins__" = some (.ref bm) ∧ bm ≠ builtinsNs ∧ h.get? bm = some ob ∧ ob.cls = .type "module" ∧ ob.dict = some builtinsNs ∧ ob.data = .plain
  at_ : h.get? a = some { cls := .type "list", data := .seq vs.toArray }
  isI : IntsAre vs ns
  len : ns.length ≤ sizeLine
/-- the abstract heap at the law's call -/
def lawH (K : PySem.W.Frag) (cs : List (Addr × Addr)) (a : Addr) (vs : List Value) (ns : List Int) : Hp := fun b =>
  if b = a ∧ K.lookup a = none then some (.frz { cls := .type "list", data := .seq vs.toArray } (.lst (ns.map V.int)))
  else if b ∈ cs.map (·.2) then some (.tbl #[]) else none
section
variable {P : Program} {w : World} {K : PySem.W.Frag} {mg mb : Str → Option Value} {h : Heap} {cs : List (Addr × Addr)} {a : Addr} {vs : List Value} {ns : List Int}
theorem Law.tabAt (L : Law h mg mb K cs a vs ns) {b : Addr} (hb : b ∈ cs.map (·.2)) : h.get? b = some { cls := .none, data := .fields #[] } ∧ K.lookup b = none := by
  obtain ⟨p, hp, rfl⟩ := List.mem_map.mp hb
  exact ⟨L.tab p hp, L.notab p hp⟩
theorem Law.ne (L : Law h mg mb K cs a vs ns) {b : Addr} (hb : b ∈ cs.map (·.2)) : b ≠ a := fun z => by
  have q := (L.tabAt hb).1
  rw [z, L.at_] at q
  cases q
/-- what is tracked: the script, or a table -/
theorem Law.cases (L : Law h mg mb K cs a vs ns) {b : Addr} {u : HO} (e : lawH K cs a vs ns b = some u) :
    (b = a ∧ K.lookup a = none ∧ u = .frz { cls := .type "list", data := .seq vs.toArray } (.lst (ns.map V.int))) ∨ (b ∈ cs.map (·.2) ∧ u = .tbl #[]) := by
  unfold lawH at e
  split at e
  · rename_i c
    exact .inl ⟨c.1, c.2, (Option.some.inj e).symm⟩
  · split at e
    · rename_i c
      exact .inr ⟨c, (Option.some.inj e).symm⟩
    · cases e
theorem Law.tbl (L : Law h mg mb K cs a vs ns) {b : Addr} (hb : b ∈ cs.map (·.2)) : lawH K cs a vs ns b = some (.tbl #[]) := by
  unfold lawH
  rw [if_neg (fun z => L.ne hb z.1), if_pos hb]
theorem Law.seq (L : Law h mg mb K cs a vs ns) : SqL K (lawH K cs a vs ns) a (ns.map V.int) := by
  cases q : K.lookup a with
  | none => exact .inl (.inr ⟨_, by unfold lawH; rw [if_pos ⟨rfl, q⟩]⟩)
  | some o =>
    have e := L.kx a o q
    rw [L.at_] at e
    cases e
    exact .inr ⟨_, vs.toArray, _, q, rfl, rfl, rfl, by rw [List.size_toArray, L.isI.length]; exact L.len, by simpa using vals_ints L.isI⟩
theorem Law.hok (L : Law h mg mb K cs a vs ns) : HOk P w (lawH K cs a vs ns) h := fun b u e => by
  rcases L.cases e with ⟨rfl, _, rfl⟩ | ⟨hb, rfl⟩
  · exact ⟨L.at_, by rw [List.length_map]; exact L.len, vs, _, vals_ints L.isI, L.at_⟩
  · exact (L.tabAt hb).1
/-- an object that is neither a list nor an empty record is not tracked -/
theorem Law.free (L : Law h mg mb K cs a vs ns) {b : Addr} {o : Obj} (e : h.get? b = some o) (h1 : ∀ vs n, o.data ≠ .seq vs n) (h2 : o.data ≠ .fields #[]) : lawH K cs a vs ns b = none := by
  cases q : lawH K cs a vs ns b with
  | none => rfl
  | some u =>
    rcases L.cases q with ⟨rfl, _⟩ | ⟨hb, _⟩
    · rw [L.at_] at e
      cases e
      exact absurd rfl (h1 _ _)
    · rw [(L.tabAt hb).1] at e
      cases e
      exact absurd rfl h2
theorem Law.nsK (L : Law h mg mb K cs a vs ns) {b : Addr} {m : Str → Option Value} (x : h.Ns b m) : (hidT h (lawH K cs a vs ns)).Ns b m := by
  obtain ⟨o, es, ep, e, d, r⟩ := x
  refine ⟨o, es, ep, hidT_get e (L.free e (fun _ _ z => ?_) fun z => ?_), d, r⟩ <;> (rw [d] at z; cases z)
theorem Law.kin (L : Law h mg mb K cs a vs ns) : K.In (hidT h (lawH K cs a vs ns)) := fun b o e => hidT_get (L.kx b o e) (by
  cases q : lawH K cs a vs ns b with
  | none => rfl
  | some u =>
    rcases L.cases q with ⟨rfl, z, _⟩ | ⟨hb, _⟩
    · rw [z] at e
      cases e
    · rw [(L.tabAt hb).2] at e
      cases e)
theorem Law.mod (L : Law h mg mb K cs a vs ns) : L2.Mod K mg (hidT h (lawH K cs a vs ns)) := by
  obtain ⟨mc, h1, h2⟩ := L.lim
  exact ⟨L.kin, L.nsK L.nsM, ⟨mb, L.nsK L.bn, L.bb⟩, mc, L.nsK h1, h2⟩
theorem Law.main (L : Law h mg mb K cs a vs ns) {b : Addr} {o : Obj} (e : h.get? b = some o) (n : ∀ es ep, o.data ≠ .dict es ep) : b ≠ mainGlobals := fun z => by
  obtain ⟨o', es, ep, e', d, _⟩ := L.nsM
  rw [z, e'] at e
  cases e
  exact n _ _ d
theorem Law.tabs (L : Law h mg mb K cs a vs ns) : ∀ p ∈ cs, TabB (hidT h (lawH K cs a vs ns)) mg p.1 p.2 := fun p hp => by
  have hm : p.2 ∈ cs.map (·.2) := List.mem_map.mpr ⟨p, hp, rfl⟩
  have ht := (L.tabAt hm).1
  refine ⟨?_, ?_, fun z => L.main ht (fun _ _ q => by cases q) z.symm⟩
  · obtain ⟨o, us, file, tf, flags, tg, inF, text, tt, e1, r1, r2, r3, rest⟩ := L.code p hp
    refine ⟨o, us, file, tf, flags, tg, inF, text, tt, hidT_get e1 (L.free e1 (fun _ _ z => ?_) fun z => ?_), r1, r2, r3, rest⟩
    · rw [r2] at z
      cases z
    · rw [r2] at z
      cases z
      simp at r3
  · obtain ⟨bm, ob, b1, b2, b3, b4, b5, b6⟩ := L.bm
    refine ⟨bm, ob, b1, b2, L.main b3 (fun _ _ q => by rw [b6] at q; cases q), fun q => ?_, hidT_get b3 (L.free b3 (fun _ _ z => ?_) fun z => ?_), b4, b5, b6⟩
    · rw [q, ht] at b3
      cases b3
      cases b6
    · rw [b6] at z
      cases z
    · rw [b6] at z
      cases z
/-- an address of the heap at the call stands as it stood, or it is a table that has grown -/
theorem Law.stay (L : Law h mg mb K cs a vs ns) {s' : Shared} {H' : Hp} {b : Addr} {o : Obj} (un : Un [] [] (lawH K cs a vs ns) H' h s'.heap) (ok : HOk P w H' s'.heap) (e : h.get? b = some o) (nb : b ∉ cs.map (·.2)) : s'.heap.get? b = some o := by
  cases q : lawH K cs a vs ns b with
  | none => exact un.keep b o e q (by simp) (by simp)
  | some u =>
    rcases L.cases q with ⟨rfl, _, rfl⟩ | ⟨z, _⟩
    · have e2 := (ok b _ (un.frzs b _ _ q)).1
      rw [L.at_] at e
      rw [← e]
      exact e2
    · exact absurd z nb
theorem Law.grown (L : Law h mg mb K cs a vs ns) {s' : Shared} {H' : Hp} {b : Addr} (un : Un [] [] (lawH K cs a vs ns) H' h s'.heap) (ok : HOk P w H' s'.heap) (hb : b ∈ cs.map (·.2)) : ∃ more : Array Value, s'.heap.get? b = some { cls := .none, data := .fields more } := by
  obtain ⟨more, z⟩ := un.tbls b #[] (L.tbl hb)
  exact ⟨_, ok b _ z⟩
theorem Law.old (L : Law h mg mb K cs a vs ns) {s' : Shared} {H' : Hp} (un : Un [] [] (lawH K cs a vs ns) H' h s'.heap) (ok : HOk P w H' s'.heap) : OldK h s'.heap := by
  constructor
  · intro b o e
    by_cases hb : b ∈ cs.map (·.2)
    · obtain ⟨p, hp, rfl⟩ := List.mem_map.mp hb
      obtain ⟨more, hm⟩ := L.grown un ok hb
      have ht := L.tab p hp
      rw [ht] at e
      cases e
      refine .inr (.inl ⟨((L.code p hp).tab ht).isCodeTable, rfl, #[], more, rfl, ?_⟩)
      rw [Array.empty_append]
      exact hm
    · exact .inl (L.stay un ok e hb)
  · intro b o e
    by_cases hb : b ∈ cs.map (·.2)
    · obtain ⟨more, hm⟩ := L.grown un ok hb
      exact ⟨_, hm⟩
    · exact ⟨o, L.stay un ok e hb⟩
end
/-- the law, called with the script at a -/
theorem law_callG {P : Program} {w : World} {K : PySem.W.Frag} {mg mb : Str → Option Value} {CX : CXT} {k : Nat} {fa a : Addr} {cs : List (Addr × Addr)} {fd : FuncData} {x : Str} {sp : Sp} {s : Shared} {vs : List Value} {ns : List Int}
    (L : Law s.heap mg mb K cs a vs ns) (hg : s.gens = #[]) (hr : Room k callerA) (F : ∀ base : Heap, K.In base → base.Ns mainGlobals mg → (∀ p ∈ cs, TabB base mg p.1 p.2) → FnG P w K mg base CX k fa fd [x] sp)
    (hbind : ∀ (s : Shared) (u : Value), BindsTo s fd ⟨[u], []⟩ [(x, u)]) (hsp : ∀ H : Hp, (∀ p ∈ cs, H p.2 = some (.tbl #[])) → SqL K H a (ns.map V.int) → sp [.ref a] H (fun v _ => v = .bl true) fun _ _ _ => False)
    (hCX : ∀ H e s', CX [] H s (fun _ _ _ => False) e s' → False) :
    codeAny (model P w) callerA (.call (.ref fa) ⟨[.ref a], []⟩) (fun r s' => r = .ok (.ret (.bool true)) ∧ OldK s.heap s'.heap ∧ s'.os = s.os ∧ AllBare s'.gens) s := by
  have env : Env0 P w K mg (hidT s.heap (lawH K cs a vs ns)) callerA [] s (lawH K cs a vs ns) :=
    ⟨rfl, L.mod, fun _ _ => of_hidT, Nat.le_of_eq (hidT_size _ _), trivial, fun b hb => absurd (show b ∈ ([] : List Addr) from hb) List.not_mem_nil, L.hok, .of_eq hg⟩
  have pre := hsp (lawH K cs a vs ns) (fun p hp => L.tbl (List.mem_map.mpr ⟨p, hp, rfl⟩)) L.seq
  have run := (F _ L.kin (L.nsK L.nsM) L.tabs).run callerA [] s _ ⟨[.ref a], []⟩ [.ref a] [.ref a] _ _ hr rfl env (hbind s _) (.cons rfl .nil) pre
  refine codeAny_mono run fun r s' q => ?_
  match r, q with
  | .error e, q => exact (hCX _ e s' q).elim
  | .ok .next, q => exact False.elim q
  | .ok .brk, q => exact False.elim q
  | .ok .cont, q => exact False.elim q
  | .ok (.ret u), q =>
    obtain ⟨v, H', os, bare, un, ok, rv, e⟩ := q
    cases (show v = .bl true from e)
    cases (show u = Value.bool true from rv)
    exact ⟨rfl, L.old un ok, os, bare⟩
/-- what is known of the law at the head's heap h -/
def LawAtG (l : PySem.W.OpenLaw) (w : World) (K : PySem.W.Frag) (CX : CXT) (k n : Nat) (x : Str) (mg : Str → Option Value) (fa : Addr) (h : Heap) : Prop :=
  ∃ (fd : FuncData) (cs : List (Addr × Addr)) (sp : Sp), ((∀ p ∈ cs, h.get? p.2 = some { cls := .none, data := .fields #[] }) ∧ (∀ p ∈ cs, K.lookup p.2 = none) ∧ ∀ p ∈ cs, PySem.W.CodeHd h p.1 p.2) ∧
    (∀ (s : Shared) (u : Value), BindsTo s fd ⟨[u], []⟩ [(x, u)]) ∧
    (∀ (H : Hp) (a : Addr) (ns : List Int), ns.length ≤ n → (∀ p ∈ cs, H p.2 = some (.tbl #[])) → SqL K H a (ns.map V.int) → sp [.ref a] H (fun v _ => v = .bl true) fun _ _ _ => False) ∧
    ∀ base : Heap, K.In base → base.Ns mainGlobals mg → (∀ p ∈ cs, TabB base mg p.1 p.2) → FnG l.prog w K mg base CX k fa fd [x] sp
theorem walk_ofG {l : PySem.W.OpenLaw} {n k : Nat} {q : Program} {loose : List Str} {XP : (Str → Option Value) → Heap → Prop} {YP : World → Heap → Prop} {d : DefRec} {K : Params → PySem.W.Frag} {CX : World → CXT} {x : Str}
    (most : l.most = some n) (line : n ≤ sizeLine) (plain : d.params.defaults = []) (room : Room k callerA) (known : ∀ (w : World) (h : Heap), YP w h → (K w.params).In h)
    (at_ : ∀ (w : World) (mg : Str → Option Value) (fa : Addr) (h : Heap), YP w h → (K w.params).In h → h.Ns mainGlobals mg → mg d.name = some (.ref fa) → LawAtG l w (K w.params) (CX w) k n x mg fa h)
    (calm : ∀ (w : World) (H : Hp) (s : Shared) (e : Value) (s' : Shared), CX w [] H s (fun _ _ _ => False) e s' → False) : PySem.W.WalkO q loose XP YP l.row.toRowW d [] (fun f vs => PySem.call f vs) := by
  refine Att.attach_callB most plain fun w _ s mg mb fa _ _ _ _ a vs ns G Y _ _ _ name here isI short _ bare => ?_
  obtain ⟨fd, cs, sp, ⟨t1, t2, t3⟩, bind, pre, F⟩ := at_ w mg fa _ Y (known w _ Y) G.T.g name
  exact law_callG ⟨known w _ Y, G.T.g, G.T.b, G.T.builtins, G.T.nolimit, t1, t2, t3, G.T.bmain, here, isI, Nat.le_trans short line⟩ bare room F bind (fun H t S => pre H a ns short t S) fun H e s' => calm w H s e s'
end KA
namespace KU
open PySem PySem.W PySem.Calls PyProof.Rows PySem.HandSPX
/-! ### an own error whose __init__(self, f) says super().__init__(e) and self.f = f -/
abbrev upBody (f : Str) (e : Expr) (p0 p1 p2 p3 pe q1 q2 q3 q4 : Pos) : List Stmt :=
  [.Expr (.Call (.Attribute (.Call (.Name "super" p0) [] [] p1) "__init__" p2) [e] [] p3) pe, .Assign [.Attribute (.Name "self" q1) f q2] (.Name f q3) q4]
abbrev upArgs (f : Str) (r1 r2 : Pos) : Arguments := { posonlyargs := [], args := [{ arg := "self", annotation := none, pos := r1 }, { arg := f, annotation := none, pos := r2 }], vararg := none, kwonlyargs := [], kw_defaults := [], kwarg := none, defaults := [] }
abbrev upScope (f : Str) : Scope := { kind := .function, names := [(PySem.Str.ofString "self", .local), (f, .local), (PySem.Str.ofString "__class__", .free), (PySem.Str.ofString "super", .globalImplicit)], isGenerator := false, isCoroutine := false, more := [] }
/-- what the written part says of the class at C, of its __init__ at fI -/
structure UpTxt (P : Program) (K : Frag) (C fI cda cc : Addr) (qual f : Str) (e : Expr) : Prop where
  fn : ∃ (oc : Value) (od : Option Addr) (doc pm : Value) (an : Option Addr) (ct : Value) (osl : Array (Option Value)) (r1 r2 p0 p1 p2 p3 pe q1 q2 q3 q4 : Pos),
    K.lookup fI = some ⟨oc, od, .func (ksFn "__init__" qual (upArgs f r1 r2) (upBody f e p0 p1 p2 p3 pe q1 q2 q3 q4) (upScope f) .none .none doc pm an (.ref cda) ct cc), osl⟩ ∧
      (∀ a b : Value, bindArgs (ksFn "__init__" qual (upArgs f r1 r2) (upBody f e p0 p1 p2 p3 pe q1 q2 q3 q4) (upScope f) .none .none doc pm an (.ref cda) ct cc) ⟨[a, b], []⟩ = pure [(PySem.Str.ofString "self", a), (f, b)]) ∧
      (∀ L : Addr, swapsWith (.Name f q3) (some (.Attribute (.Name "self" q1) f q2)) q4.line (ksEnv qual (upScope f) L fI (.ref cda) cc) = pure false) ∧
      ∃ pl : Sem Bool, ∀ L : Addr, eval (.Call (.Attribute (.Call (.Name "super" p0) [] [] p1) "__init__" p2) [e] [] p3) (ksEnv qual (upScope f) L fI (.ref cda) cc) = (do
        let o ← attributeBase (.Call (.Name "super" p0) [] [] p1) "__init__" (ksEnv qual (upScope f) L fI (.ref cda) cc) (eval (.Call (.Name "super" p0) [] [] p1) (ksEnv qual (upScope f) L fI (.ref cda) cc))
        standAt p2.atName
        let (g, first) ← holding [o] (getMethod o "__init__" pl)
        callWith p3 g first (backTo p3 (starEach [e] (ksEnv qual (upScope f) L fI (.ref cda) cc))) [])
  star : ∀ env : Env, starEach [e] env = [(false, eval e env)]
  code : codeIn K (.ref cda) qual = true
  file : ∃ (cl : Value) (cdd : Option Addr) (vs : Array Value) (ccs : Array (Option Value)) (fl : Str) (tf : Tok), K.lookup cda = some ⟨cl, cdd, .fields vs, ccs⟩ ∧ vs[2]? = some (.str fl tf) ∧ ((P.main.file : Str) == fl) = true
  cell : ∃ (cl : Value) (cld : Option Addr) (csl : Array (Option Value)), K.lookup cc = some ⟨cl, cld, .cell (some (.ref C)), csl⟩
  cls : ∃ cd, clsIn K C = some cd ∧ refsVE cd.mro = true ∧ cd.hasDict = true
  self : mroIn K C (.ref C) = some true
  noSuper : nsIn K mainGlobals "super" = some none
  top : (P.main.scope.names.lookup ("super" : Str)).isSome = false
  third : nsIn K cStatics "thirdparty.any" = some none
  up : ks_superIn K C C "__init__" = some (some (.builtin "ValueError.__init__"))
  val : subIn K (.ref C) (.type "ValueError") = some true
  own : excInitIn K C [.type "ValueError", .type "Exception", .type "BaseException", .type "object"] "ValueError.__new__" = true
  set : findIn K (.ref C) "__setattr__" = some (some (.builtin "object.__setattr__"))
  noF : findIn K (.ref C) f = some none
  obj : ∃ (nm q : Str) (N : Addr) (bs bm : List Value) (sn : List Str) (sub : List Value) (ab : Bool) (col : Option Bool) (dd : Option Addr) (k0 k1 k2 k3 k5 : Option Value),
    K.lookup C = some (excClassObj nm q C N bs bm true sn sub ab col dd k0 k1 k2 k3 k5 "ValueError.__new__") ∧ refsVE bm = true
  iC : findIn K (.ref C) "__init__" = some (some (.ref fI))
  tC : typeIn K (.ref fI) = some (.type "function")
  ga : findIn K (.ref C) "__getattribute__" = some (some (.builtin "BaseException.__getattribute__"))
  gg : findIn K (.ref C) "__getattr__" = some none
  kC : keepIn K (.ref C) = true
  exC : subIn K (.ref C) (.type "BaseException") = some true
  tyC : typeIn K (.ref C) = some (.type "type")
  hdC : hasDictIn K C = true
  nf : f ≠ "self" ∧ f ≠ "__class__" ∧ f ≠ "super" ∧ f ≠ "__debug__"
/-- what it leaves of a fresh exception at x -/
structure UpEnd (h h' : Heap) (x C dx t1 : Addr) (f : Str) (v : Value) : Prop where
  keep : ∀ b o, b ≠ x → h.get? b = some o → h'.get? b = some o
  obj : h'.get? x = some { cls := .ref C, dict := some dx, data := .fields #[.ref t1, .none, .none, .none, .bool false, .none] }
  big : h.objs.size ≤ dx
  ne : dx ≠ x
  ns : h'.Ns1 dx (fun y => if y = f then some v else none)
section
variable {prog : Program} {w : World} {A : Around} {R : Result → Shared → Prop} {s : Shared} {K : Frag} {mg mb : Str → Option Value} {C fI cda cc : Addr} {qual f : Str} {e : Expr}
theorem up_init (T : UpTxt prog K C fI cda cc qual f e) {x t0 : Addr} {v : Value} (X : K.In s.heap) (hlim : s.heap.NoLimit) (hg : s.heap.Ns mainGlobals mg) (hb : s.heap.Ns builtinsNs mb) (hbb : ∀ y : Str, y ≠ "__name__" → mb y = bootBuiltins y)
    (hx : s.heap.get? x = some (excO C t0)) (hnx : K.lookup x = none) (hroom : A.depth < recursionLimit)
    (text : ∀ (A' : Around) (E : Value → Shared → Prop) (s' : Shared) (L : Addr) (m : Str → Option Value) (Q : Value → Shared → Prop), s'.heap.Ns L m → m f = some v → (∀ (z : Str) (t t' : Tok), Q (.str z t) { s' with toks := t' }) → wpAny (model prog w) A' (eval e (ksEnv qual (upScope f) L fI (.ref cda) cc)) Q E s')
    (hq : ∀ h' tk dx t1, UpEnd s.heap h' x C dx t1 f v → R (.ok (.ret .none)) { s with heap := h', toks := tk }) :
    codeAny (model prog w) A (.call (.ref fI) ⟨[.ref x, v], []⟩) R s := by
  obtain ⟨hp, g, dr, tk, os⟩ := s
  dsimp only at X hlim hg hb hx
  obtain ⟨oc, od, doc, pm, an, ct, osl, r1, r2, p0, p1, p2, p3, pe, q1, q2, q3, q4, ho, hbd, hswap, pl, hcall⟩ := T.fn
  obtain ⟨n1, n2, n3, n4⟩ := T.nf
  have lf : (upScope f).names.lookup f = some .local := by
    show List.lookup f ((PySem.Str.ofString "self", NameKind.local) :: _) = _
    rw [List.lookup_cons]
    cases f == PySem.Str.ofString "self" with
    | true => rfl
    | false =>
      show List.lookup f ((f, NameKind.local) :: _) = _
      rw [List.lookup_cons, beq_self_eq_true]
  refine ks_codeAny_call_defAt (binds := [(PySem.Str.ofString "self", .ref x), (f, v)]) (body := upBody f e p0 p1 p2 p3 pe q1 q2 q3 q4) hroom (X _ _ ho) rfl hlim (codeRec_of X T.code) rfl ?bind ?cells ?locs (fun h₁ hns keep => ?_) rfl rfl rfl
  case bind => exact .of_eq (hbd _ _)
  case cells =>
    intro y hy
    simp only [List.mem_cons, List.not_mem_nil, or_false] at hy
    rcases hy with z | z | z | z <;> (subst z; exact fun q => by cases q)
  case locs =>
    intro y hy
    simp only [List.mem_cons, List.not_mem_nil, or_false] at hy
    rcases hy with z | z <;> subst z
    · rfl
    · exact lf
  have X1 : K.In h₁ := X.keeps keep
  have ms : (List.lookup (PySem.Str.ofString "self") [(PySem.Str.ofString "self", Value.ref x), (f, v)].reverse) = some (.ref x) := by
    show List.lookup (PySem.Str.ofString "self") [(f, v), (PySem.Str.ofString "self", Value.ref x)] = _
    rw [List.lookup_cons, beq_false_of_ne (Ne.symm n1)]
    rfl
  have mf : (List.lookup f [(PySem.Str.ofString "self", Value.ref x), (f, v)].reverse) = some v := by
    show List.lookup f [(f, v), (PySem.Str.ofString "self", Value.ref x)] = _
    rw [List.lookup_cons, beq_self_eq_true]
  obtain ⟨cd, hcd, hmro, hdict⟩ := T.cls
  obtain ⟨cl, cdd, vs, ccs, fl, tf, hcode, hvs, hfile⟩ := T.file
  obtain ⟨ccl, cld, csl, hcell⟩ := T.cell
  have hx1 := keep _ _ hx
  generalize hm : (fun y => List.lookup y [(PySem.Str.ofString "self", Value.ref x), (f, v)].reverse) = m at hns
  have ms' : m "self" = some (.ref x) := by rw [← hm]; exact ms
  have mf' : m f = some v := by rw [← hm]; exact mf
  clear ms mf hm
  show PySem.wpAt _ _ _ (execs (upBody f e p0 p1 p2 p3 pe q1 q2 q3 q4) (ksEnv qual (upScope f) hp.objs.size fI (.ref cda) cc)) _ _ _
  refine ks_wpAt_execs_cons (ks_wpAt_Expr_any (ks_wpAt_MethodCall (pl := pl) ?_ (hcall _)))
  obtain ⟨oC, hC1, hC2⟩ : ∃ oC, h₁.get? C = some oC ∧ oC.data = .cls cd := by
    unfold clsIn at hcd
    split at hcd
    · rename_i c d cd' sl z
      cases hcd
      exact ⟨_, X1 _ _ z, rfl⟩
    · cases hcd
  have k1 : (upScope f).names.lookup ("super" : Str) = some .globalImplicit := by
    show List.lookup (PySem.Str.ofString "super") ((f, NameKind.local) :: _) = _
    rw [List.lookup_cons, beq_false_of_ne (Ne.symm n3)]
    rfl
  have k2 : (upScope f).names.lookup ("__class__" : Str) = some .free := by
    show List.lookup (PySem.Str.ofString "__class__") ((f, NameKind.local) :: _) = _
    rw [List.lookup_cons, beq_false_of_ne (Ne.symm n2)]
    rfl
  refine ks_wpAt_super_base (env := ksEnv qual (upScope f) hp.objs.size fI (.ref cda) cc) k1 k2 rfl rfl (X1 _ _ ho) rfl rfl rfl (X1 _ _ hcode) rfl hvs hfile T.top ?_
  refine ks_loadName_global rfl k1 (loadGlobal_builtin (env := ksEnv qual (upScope f) hp.objs.size fI (.ref cda) cc) (hg.keeps keep) (mg_none_of X hg T.noSuper) (hb.keeps keep) ((hbb _ (by decide +kernel)).trans (show bootBuiltins "super" = some (.type "super") by kernel_rfl)) ⟨rfl, ?_⟩)
  refine wpAny_loadName_free rfl k2 rfl ⟨_, X1 _ _ hcell, rfl⟩ ?_
  refine wpAny_loadName_local rfl rfl hns ms' ?_
  refine ks_wpAny_isType_cls hC1 hC2 ⟨rfl, ?_⟩
  refine ks_wpAny_call_super hC1 hC2 hx1 rfl (fun c z => by cases z) (looks_mroIn X1 T.self) (fun h2 so keep2 => ?_)
  have X2 : K.In h2 := X1.keeps keep2
  have hx2 := keep2 _ _ hx1
  have I2 : InstAt h2 x (excO C t0) C none := ⟨hx2, rfl, rfl, trivial⟩
  have along : alongIn K "__init__" ((cd.mro.dropWhile (· != .ref C)).drop 1) = some (some (.builtin "ValueError.__init__")) := by
    have z := T.up
    unfold ks_superIn at z
    rw [hcd] at z
    exact z
  refine kxs_getMethod kxs_ValueError so (looks_opaque X2 T.third) (l₀ := cd.mro) (fun A Q E s k q => wpAny_bind ((looks_clsIn X2 hcd) A _ E s k (wpAny_pure q))) rfl X2 along (I2.type.andThen (looks_subIn X2 T.val)) (ks_ne X2 I2 hcd) rfl ?_
  have push3 : ∀ b o, h2.get? b = some o → (h2.push (kxs_mw "ValueError.__init__" x)).get? b = some o := fun b o z => Heap.get?_push_of_some _ z
  generalize hh3 : h2.push (kxs_mw "ValueError.__init__" x) = h3 at push3
  have hu : h3.get? h2.objs.size = some (kxs_mw "ValueError.__init__" x) := by
    rw [← hh3]
    exact Heap.get?_push_at rfl rfl
  generalize h2.objs.size = u at hu
  have X3 : K.In h3 := X2.keeps push3
  have hx3 := push3 _ _ hx2
  have hns3 : h3.Ns hp.objs.size m := (hns.keeps keep2).keeps push3
  rw [T.star]
  refine kxs_callWith (i := "ValueError.__init__") (x := x) (u := u) rfl (evalArgs_plain (spliced_cons ?_))
  refine text _ _ _ _ _ _ hns3 mf' fun z zt t' => spliced_nil ⟨hu, ?_⟩
  obtain ⟨nm, N', qn, bs, bm, hdct, sn, sub, ab, col, dd, kk0, kk1, kk2, kk3, kk5, hC, hT⟩ := excInit_of X3 T.own
  refine wpAny_call (codeAny_of_tree ?_)
  show wpAny _ (Around.in1 _) (callAny (.ref u) ⟨[.str z zt], []⟩) _ _ _
  simp only [callAny]
  refine wpAny_bind (wpAny_load hu ?_)
  simp only [kxs_mw, show (Value.type "method-wrapper" == Value.type "method" || Value.type "method-wrapper" == Value.type "builtin_function_or_method" || Value.type "method-wrapper" == Value.type "method-wrapper") = true by decide, if_true]
  have FB := F.excBase_ValueError
  refine KFB.if_so (by decide) (wpAny_bind (check_bound_init FB.toExcCallFacts hC hx3 rfl (wpAny_bind (wpAny_pure (wpAny_pure ⟨plainId_quiet FB.init.plain _, codeAny_builtin FB.initEntry ?_⟩)))))
  refine exc_init_tree (cls := .ref C) (t0 := t0) (dv := none) (c2 := .none) (c3 := .none) (b4 := .bool false) hx3 (by show 1 ≤ sizeLine; decide) fun h4 keep4 hx4 _ => ?_
  have X4 : K.In h4 := fun b o z => keep4 b o (fun q => by rw [q, hnx] at z; cases z) (X3 b o z)
  have hns4 : h4.Ns hp.objs.size m := by
    obtain ⟨oL, es, ep, hL, rest⟩ := hns3
    exact ⟨oL, es, ep, keep4 _ _ (Nat.ne_of_gt (Heap.lt_size hx)) hL, rest⟩
  refine wpAt_of_wpAny (wpAny_execs_cons (plainObj_wpAny_Assign_Attribute ?_ (hswap _)))
  have kf : (ksEnv qual (upScope f) hp.objs.size fI (.ref cda) cc).kindOf f = some .local := lf
  have ndb : (f == ("__debug__" : Str)) = false := beq_false_of_ne n4
  refine wpAny_Name (wpAny_loadName_local rfl kf hns4 mf' ?_) ndb
  refine wpAny_Name (wpAny_loadName_local rfl rfl hns4 ms' ?_) rfl
  refine set_plain X4 (ox := excO C h3.objs.size) (od := none) ⟨hx4, rfl, rfl, trivial⟩ T.set ?_
  refine exc_osa X4 hx4 hcd hmro hdict T.noF fun h5 tk5 dx keep5 big ne5 hx5 hn5 => ?_
  refine wpAny_execs_nil (hq h5 tk5 dx h3.objs.size ⟨fun b o hb z => keep5 b o hb (keep4 b o hb (push3 b o (keep2 b o (keep b o z)))), hx5, ?_, ne5, hn5⟩)
  exact Nat.le_of_lt (Nat.lt_of_lt_of_le hns4.lt big)
/-- a made one -/
structure UpMade (h h' : Heap) (e C d : Addr) (f : Str) (v : Value) : Prop where
  keep : ∀ b o, h.get? b = some o → h'.get? b = some o
  new : h.objs.size ≤ e
  obj : ∃ oe vs, h'.get? e = some oe ∧ oe.cls = .ref C ∧ oe.dict = some d ∧ oe.data = .fields vs ∧ vs[1]? = some .none
  big : h.objs.size ≤ d
  ne : d ≠ e
  ns : h'.Ns1 d (fun y => if y = f then some v else none)
theorem up_made (T : UpTxt prog K C fI cda cc qual f e) {v : Value} (X : K.In s.heap) (hlim : s.heap.NoLimit) (hg : s.heap.Ns mainGlobals mg) (hb : s.heap.Ns builtinsNs mb) (hbb : ∀ y : Str, y ≠ "__name__" → mb y = bootBuiltins y) (hroom : A.depth + 1 < recursionLimit)
    (text : ∀ (A' : Around) (E : Value → Shared → Prop) (s' : Shared) (L : Addr) (m : Str → Option Value) (Q : Value → Shared → Prop), s'.heap.Ns L m → m f = some v → (∀ (z : Str) (t t' : Tok), Q (.str z t) { s' with toks := t' }) → wpAny (model prog w) A' (eval e (ksEnv qual (upScope f) L fI (.ref cda) cc)) Q E s')
    (hq : ∀ h' tk a d, UpMade s.heap h' a C d f v → R (.ok (.ret (.ref a))) { s with heap := h', toks := tk }) : codeAny (model prog w) A (.call (.ref C) ⟨[v], []⟩) R s := by
  obtain ⟨nm, q, N, bs, bm, sn, sub, ab, col, dd, k0, k1, k2, k3, k5, hC, hbm⟩ := T.obj
  obtain ⟨hp, g, dr, tk, os⟩ := s
  dsimp only at X hlim hg hb
  generalize hh : (hp.push (kdv_tup [v])).push (excO C hp.objs.size) = h1
  have k : ∀ b o, hp.get? b = some o → h1.get? b = some o := fun b o z => by
    rw [← hh]
    exact Heap.get?_push_of_some _ (Heap.get?_push_of_some _ z)
  have got : h1.get? (hp.objs.size + 1) = some (excO C hp.objs.size) := by
    rw [← hh]
    heap_get
  have fresh : K.lookup (hp.objs.size + 1) = none := by
    cases z : K.lookup (hp.objs.size + 1) with
    | none => rfl
    | some o => exact absurd (show hp.objs.size + 1 < hp.objs.size from Heap.lt_size (X _ _ z)) (Nat.not_lt.mpr (Nat.le_succ _))
  refine call_own F.excBase_ValueError (fun Y => refsVE_contains Y bm hbm) (X _ _ hC) (looks_findIn X T.iC) (fun self => bind_fn X self T.tC) (by show 1 ≤ sizeLine; decide) ?_
  rw [hh]
  refine up_init (s := ⟨h1, g, dr, tk, os⟩) T (X.keeps k) (hlim.keeps k) (hg.keeps k) (hb.keeps k) hbb got fresh hroom text fun h' tk' dx t1 Z => ?_
  have size1 : hp.objs.size ≤ h1.objs.size := Nat.le_of_lt (Nat.lt_of_succ_lt (Heap.lt_size got))
  exact ⟨rfl, hq h' tk' (hp.objs.size + 1) dx ⟨fun b o z => Z.keep b o (Nat.ne_of_lt (Nat.lt_succ_of_lt (Heap.lt_size z))) (k b o z), Nat.le_succ _, ⟨_, _, Z.obj, rfl, rfl, rfl, rfl⟩, Nat.le_trans size1 Z.big, Z.ne, Z.ns⟩⟩
end
end KU
namespace KU
open PySem PySem.W PySem.Calls PyProof.Rows PySem.HandSPX
/-- what the error says of v can be told -/
abbrev Text (P : Program) (w : World) (fI cda cc : Addr) (qual f : Str) (e : Expr) (v : Value) : Prop :=
  ∀ (A' : Around) (E : Value → Shared → Prop) (s' : Shared) (L : Addr) (m : Str → Option Value) (Q : Value → Shared → Prop), s'.heap.Ns L m → m f = some v → (∀ (z : Str) (t t' : Tok), Q (.str z t) { s' with toks := t' }) →
    wpAny (model P w) A' (eval e (ksEnv qual (upScope f) L fI (.ref cda) cc)) Q E s'
theorem kind_f {f : Str} : (upScope f).names.lookup f = some .local := by
  show List.lookup f ((PySem.Str.ofString "self", NameKind.local) :: _) = _
  rw [List.lookup_cons]
  cases f == PySem.Str.ofString "self" with
  | true => rfl
  | false =>
    show List.lookup f ((f, NameKind.local) :: _) = _
    rw [List.lookup_cons, beq_self_eq_true]
/-- f'z{f}' of an int, of a text -/
theorem text_of {P : Program} {w : World} {fI cda cc : Addr} {qual f z : Str} {j : Nat} {pc pn pf pj : Pos} {v : Value} {y : Str} (hd : f ≠ "__debug__")
    (fld : ∀ (A' : Around) (E : Value → Shared → Prop) (s' : Shared) (Q : Value → Shared → Prop), (∀ (t t' : Tok), Q (.str y t) { s' with toks := t' }) → wpAny (model P w) A' (formatField v Str.empty) Q E s')
    (h1 : z.length ≤ sizeLine) (h2 : (z ++ y).length ≤ sizeLine) : Text P w fI cda cc qual f (.JoinedStr [.Constant (.str z) j pc, .FormattedValue (.Name f pn) (-1) none pf] pj) v := by
  intro A' E s' L m Q hn hm k
  refine wpAny_JoinedStr ?_
  have e0 : ∀ env : Env, evalEach [.Constant (.str z) j pc, .FormattedValue (.Name f pn) (-1) none pf] env = [eval (.Constant (.str z) j pc) env, eval (.FormattedValue (.Name f pn) (-1) none pf) env] := fun _ => by first | rfl | simp [evalEach]
  rw [e0]
  have e1 : Str.empty ++ z = z := by
    show (⟨#[] ++ z.cps⟩ : Str) = z
    rw [Array.empty_append]
  refine Calls.Constant_str ⟨z, _, rfl, by rw [e1]; exact h1, ?_⟩
  rw [e1]
  refine wpAny_FormattedValue_plain (wpAny_Name (wpAny_loadName_local rfl (show (ksEnv qual (upScope f) L fI (.ref cda) cc).kindOf f = some .local from kind_f) hn hm ?_) (beq_false_of_ne hd))
  exact fld _ _ _ _ fun t t' => ⟨y, t, rfl, h2, h2, k _ _ _⟩
theorem text_int {P : Program} {w : World} {fI cda cc : Addr} {qual f z : Str} {j : Nat} {pc pn pf pj : Pos} {i : Int} {t : Tok} (hd : f ≠ "__debug__") (hi : i.natAbs.log2 < 1920) (h1 : z.length ≤ sizeLine) (h2 : (z ++ (toString i : String)).length ≤ sizeLine) :
    Text P w fI cda cc qual f (.JoinedStr [.Constant (.str z) j pc, .FormattedValue (.Name f pn) (-1) none pf] pj) (.int i t) :=
  text_of hd (fun _ _ _ _ k => wpAny_formatField_int hi (k _ _)) h1 h2
theorem text_str {P : Program} {w : World} {fI cda cc : Addr} {qual f z y : Str} {j : Nat} {pc pn pf pj : Pos} {t : Tok} (hd : f ≠ "__debug__") (h1 : z.length ≤ sizeLine) (h2 : (z ++ y).length ≤ sizeLine) (h3 : y.length ≤ sizeLine) :
    Text P w fI cda cc qual f (.JoinedStr [.Constant (.str z) j pc, .FormattedValue (.Name f pn) (-1) none pf] pj) (.str y t) :=
  text_of hd (fun _ _ _ _ k => wpAny_formatField_str (k _ _) (k _ _) h3) h1 h2
end KU
namespace KU
open PySem PySem.Spec PyProof.Rows L2
theorem relO_up {v : V} {v' : Value} {n : Str} (r : RelV v v') (f : Str) : RelO (List.lookup f [(n, v)]) (if f = n then some v' else none) := by
  by_cases c : f = n
  · subst c
    rw [if_pos rfl, List.lookup_cons, beq_self_eq_true]
    exact r
  · rw [if_neg c, List.lookup_cons, beq_false_of_ne c]
    trivial
section
variable {X : Cx} {C fI cda cc : Addr} {qual f x : Str} {e : Expr}
/-- x(a), x the class's name -/
def tMkUp (T : Value → Prop) (C : Addr) (f : Str) (ta : TA) : L2.St → Hp → XK → Prop := fun σ H Q => ta σ H fun vs H1 => ∃ v, vs = [v] ∧ (∀ v', RelV v v' → T v') ∧ ∀ d, H1 d = none → Q (.ref C) (some d) (upd H1 d (.xd [(f, v)]))
theorem pmk_up {a : Expr} {ta : TA} {p pos : Pos} {k : Nat} (T : UpTxt X.prog X.K C fI cda cc qual f e) (gC : X.mg x = some (.ref C)) (hr : Room k X.A) (ha : PA X [a] ta) (hg : Gl X x) (hdb : (x == ("__debug__" : Str)) = false := by decide)
    (he : starEach (a :: []) X.env = (false, eval a X.env) :: starEach [] X.env := by rfl) (hpl : (backTo pos (starEach [] X.env)).any (·.1) = false := by rfl) :
    PMk X (.Call (.Name x p) [a] [] pos) (tMkUp (Text X.prog X.w fI cda cc qual f e) C f ta) := by
  intro pins s σ H Q I h
  refine wpAny_Call_Name_kw (ld_glob I hg gC ?_ hdb)
  refine PySem.W.callWith_K (h₀ := X.base) I.ok.mod.kin T.kC (thn (ha.run pos pins s σ H _ I h) fun us s1 hh => ?_) he hpl
  obtain ⟨vs, H1, I1, r1, v, rfl, ht, q1⟩ := hh
  refine ⟨I1.kIn, ?_⟩
  cases r1 with
  | cons rv rn =>
    rename_i v' us'
    cases rn
    show wpAny _ _ (call (.ref C) [v']) _ _ _
    obtain ⟨mb, b1, b2⟩ := I1.mod.blt
    have lim := I1.nolimit
    have glob := I1.mod.glob.keeps I1.bk
    have blt := b1.keeps I1.bk
    have dp := hr.dp
    obtain ⟨hp, g, dr, tk, os⟩ := s1
    refine wpAny_call (up_made T I1.kIn lim glob blt b2 (by omega) (ht v' rv) fun h' tk' a' d M => ?_)
    show MkP X pins σ Q (.ref a') ⟨h', g, dr, tk', os⟩
    obtain ⟨oe, fv, hoe, hc, hd, hdat, one⟩ := M.obj
    obtain ⟨G, in_, out⟩ := restrict h' fun b => decide (b ≠ a')
    have same : ∀ b, b ≠ a' → G.get? b = h'.get? b := fun b hb => in_ b (decide_eq_true hb)
    have gone : G.get? a' = none := out a' (by simp)
    have stay : ∀ b o, hp.get? b = some o → G.get? b = some o := fun b o z => (same b (Nat.ne_of_lt (Nat.lt_of_lt_of_le (Heap.lt_size z) M.new))).trans (M.keep b o z)
    have own : ObjOk X.prog X.w (upd H1 d (.xd [(f, v)])) G d (.xd [(f, v)]) := ⟨_, M.ns.at (fun o z => (same d M.ne).trans z), fun y => relO_up rv y⟩
    have J : Inv X pins σ (upd H1 d (.xd [(f, v)])) ⟨G, g, dr, tk', os⟩ := I1.laid (t' := tk') stay M.big own
    refine ⟨a', oe, fv, ⟨G, g, dr, tk', os⟩, _, .ref C, some d, rfl, J, fun b o z => ?_, gone, hoe, ⟨hc, hd⟩, hdat, one, ?_, rfl, I1.bare, raises_own T.exC T.tyC, q1 d (I1.hok.fresh M.big)⟩
    · have hb : b ≠ a' := fun y => by
        rw [y] at z
        exact absurd (gone.symm.trans z) (by simp)
      exact (same b hb).symm.trans z
    · rw [upd_ne (Ne.symm M.ne)]
      exact I1.hok.fresh M.new
/-- raise x(a) -/
theorem ps_raiseUp {a : Expr} {ta : TA} {W : WX} {p pos pos2 : Pos} {k : Nat} (hc : X.calm = true) (T : UpTxt X.prog X.K C fI cda cc qual f e) (gC : X.mg x = some (.ref C)) (hr : Room k X.A) (tk : Takes X W) (ha : PA X [a] ta) (hg : Gl X x) (hdb : (x == ("__debug__" : Str)) = false := by decide)
    (he : starEach (a :: []) X.env = (false, eval a X.env) :: starEach [] X.env := by rfl) (hpl : (backTo pos (starEach [] X.env)).any (·.1) = false := by rfl) :
    PS X (.Raise (some (.Call (.Name x p) [a] [] pos)) none pos2) (fun _ σ H => tMkUp (Text X.prog X.w fI cda cc qual f e) C f ta σ H fun cls d H' => W cls d σ H') := ps_raise hc tk (pmk_up T gC hr ha hg hdb he hpl)
/-- err.f, err an exception that is kept as a value -/
def tUpGet (C : Addr) (f : Str) (te : TE) : TE := fun σ H Q => te σ H fun x H1 => ∃ (a d : Addr) (v : V), x = .ref a ∧ H1 a = some (KA.ExV (.ref C) (some d) a) ∧ H1 d = some (.xd [(f, v)]) ∧ Q v H1
theorem pe_upGet {o : Expr} {te : TE} {pos : Pos} (T : UpTxt X.prog X.K C fI cda cc qual f e) (he : PE X o te) (hb : attributeBase o f X.env (eval o X.env) = eval o X.env := by rfl) :
    PE X (.Attribute o f pos) (tUpGet C f te) := by
  refine ⟨fun pins s σ H Q I h => ?_⟩
  refine attr_of hb (thn (he.run pins s σ H _ I h) fun u s1 hh => ?_)
  obtain ⟨x, H1, I1, rx, a, d, v, rfl, ha, hd, q⟩ := hh
  obtain rfl : u = Value.ref a := rx
  obtain ⟨⟨oe, got, z, vs, dat⟩, _⟩ := I1.hok a _ ha
  obtain ⟨mA, ns, rel⟩ := I1.hok d _ hd
  obtain ⟨od, at_, look⟩ := lookIn_ns ns
  have l : List.lookup f [(f, v)] = some v := by rw [List.lookup_cons, beq_self_eq_true]
  obtain ⟨u, hu, ru⟩ := RelO.some_of (v := v) (o := mA f) (by rw [← l]; exact rel f)
  have J : PySem.W.InstAt s1.heap a oe C (some od) := ⟨got, z.1, by unfold PySem.W.notCls; rw [dat] <;> rfl, by rw [z.2]; exact at_⟩
  exact HandSPX.exc_get I1.kIn J T.ga T.gg T.exC (PySem.W.findObj_own T.hdC T.noF rfl (by rw [look, hu])) (handed_of ru) ⟨v, H1, I1.tok _, ru, q⟩
end
end KU
namespace KW
open PySem PySem.Spec PyProof.Rows L2 PySem.W LamX
/-! ### a lambda without parameters that is handed on from def to def: it stands as it was made, whoever calls it -/
theorem un_comp {fs gs : List Addr} {H H1 H2 : Hp} {h h1 h2 : Heap} (a : Un fs [] H H1 h h1) (b : Un gs [] H1 H2 h1 h2) (sub : ∀ x ∈ gs, x ∈ fs ∨ h.get? x = none) : Un fs [] H H2 h h2 := by
  have no : ∀ {x : Addr} {o : Obj}, h.get? x = some o → x ∉ fs → x ∉ gs := fun e n z => by
    rcases sub _ z with q | q
    · exact n q
    · rw [q] at e
      cases e
  refine ⟨fun x o e n hx _ => ?_, fun x o e n hx _ => ?_, fun x o e n _ => ?_, fun x o e _ => ?_, fun x xs e => b.tups _ _ (a.tups _ _ e), fun x o u e => b.frzs _ _ _ (a.frzs _ _ _ e), fun x ps e => ?_⟩
  · exact b.keep x o (a.keep x o e n hx (by simp)) (a.free x o e n (by simp)) (no e hx) (by simp)
  · obtain ⟨sl, e1⟩ := a.slot x o e n hx (by simp)
    have n1 := a.free x o e n (by simp)
    by_cases hg : x ∈ gs
    · obtain ⟨sl2, e2⟩ := b.slot x _ e1 n1 hg (by simp)
      exact ⟨sl2, e2⟩
    · exact ⟨sl, b.keep x _ e1 n1 hg (by simp)⟩
  · obtain ⟨o1, e1⟩ := a.there x o e (by simp)
    exact b.free x o1 e1 (a.free x o e n (by simp)) (by simp)
  · obtain ⟨o1, e1⟩ := a.there x o e (by simp)
    exact b.there x o1 e1 (by simp)
  · obtain ⟨m1, e1⟩ := a.tbls x ps e
    obtain ⟨m2, e2⟩ := b.tbls x _ e1
    exact ⟨m1 ++ m2, by rw [e2, Array.append_assoc]⟩
/-- the lambda at f, its code object at c' of the name q, made where the heaps were H0, h0; fs: the frames that ran then; t: what it promises -/
structure Work (P : Program) (w : World) (K : PySem.W.Frag) (mg : Str → Option Value) (base : Heap) (k : Nat) (fs : List Addr) (H0 : Hp) (h0 : Heap) (f c' : Addr) (q : Str) (t : XK → Hp → VK → Prop) : Prop where
  obj : ∃ (params : Arguments) (body : Expr) (scope : Scope) (cl : List (Str × Addr)) (pm ctv : Value), h0.get? f = some (PySem.W.kla_obj "<lambda>" q params body scope cl pm c' ctv)
  free : H0 f = none
  out : f ∉ fs
  run : ∀ (A : Around) (outer : List Env) (s1 : Shared) (HZ : Hp) (Q : VK) (E : XK), Room (k + 1) A → Env0 P w K mg base A outer s1 HZ → Un fs [] H0 HZ h0 s1.heap → HZ c' = some (CodeO c' q) → t E HZ Q →
    codeAny (model P w) A (.call (.ref f) ⟨[], []⟩) (CR (L2.CX P w) outer P w HZ s1 Q E) s1
section
variable {X : Cx} {pins : List (Addr × Obj)} {σ : L2.St} {H : Hp} {s : Shared}
theorem work_of {k : Nat} {f c' : Addr} {pm ctv : Value} {params : Arguments} {body : Expr} {scope : Scope} {tb : XK → TE} (I : Inv X pins σ H s) (L : LamS X.env.scope scope)
    (hf : s.heap.get? f = some (PySem.W.kla_obj "<lambda>" (X.env.qual ++ "<lambda>") params body scope (cloFrom X.env.cells scope.names []) pm c' ctv)) (hfn : H f = none) (hfr : f ∉ frs X.stack)
    (hbind : bindArgs (PySem.W.kla_fn "<lambda>" (X.env.qual ++ "<lambda>") params body scope (cloFrom X.env.cells scope.names []) pm (.ref c') ctv) ⟨[], []⟩ = pure [])
    (hbody : ∀ (A : Around) (outer : List Env) (s1 : Shared) (HZ : Hp) (E : XK), Room k (A.deeper (lamEnv X scope s1.heap.objs.size f c')) → PE (lamCx X A outer s1 HZ E scope f c') body (tb E)) :
    Work X.prog X.w X.K X.mg X.base k (frs X.stack) H s.heap f c' (X.env.qual ++ "<lambda>") (fun E HZ Q => tb E σ HZ Q) := by
  refine ⟨⟨_, _, _, _, _, _, hf⟩, hfn, hfr, fun A outer s1 HZ Q E hr e0 un hc ht => ?_⟩
  have of1 := un.keep f _ hf hfn hfr (by simp)
  obtain ⟨⟨oc, vs, t, hoc, hdc, hvc⟩, _, _⟩ := e0.hok c' _ hc
  have lim : s1.heap.NoLimit := e0.mod.nolimit.keeps fun b o e => (e0.bs b o e).1
  refine PySem.W.kla_callFunE hr.depth of1 rfl L.co L.gen rfl ⟨c', oc, vs, t, rfl, hoc, hdc, hvc⟩ ?_
  rw [hbind]
  refine wpAny_pure (wpAny_newFunctionEnv (fun y hy => (L.own y hy).2) (fun y hy => absurd hy (by simp)) (fun h₁ hns hsb => ⟨lim.fresh _ hsb, ?_⟩) L.kind)
  show codeAny _ _ (.expr body (lamEnv X scope s1.heap.objs.size f c')) _ _
  have kp : ∀ b o, s1.heap.get? b = some o → h₁.get? b = some o := fun b o e => hsb.extBut b o (Nat.ne_of_lt (Heap.lt_size e)) (Heap.get?_push_of_some _ e)
  have J : Inv (lamCx X A outer s1 HZ E scope f c') [] σ HZ { s1 with heap := h₁, toks := s1.toks + ([] : List (Str × Value)).length } := lam_start2 I L e0 hr.hd un hns kp
  refine PySem.W.kla_codeExpr (wpAny_mono ((hbody A outer s1 HZ E (hr.deeper _)).run [] _ _ HZ Q J ht) (fun v s' hq => ?_) fun e s' hq => hq)
  obtain ⟨w', H', J', rv, q⟩ := hq
  exact ⟨w', H', J'.os, J'.bare, J'.base, J'.hok, rv, q⟩
end
section
variable {Z : Cx} {k : Nat} {fs : List Addr} {H0 : Hp} {h0 : Heap} {f c' : Addr} {q : Str} {t : XK → Hp → VK → Prop}
/-- where Z stands to the making -/
structure Since (Z : Cx) (fs : List Addr) (H0 : Hp) (h0 : Heap) : Prop where
  un : Un fs [] H0 Z.H_0 h0 Z.s_0.heap
  sub : ∀ b ∈ Z.fs, b ∈ fs ∨ h0.get? b = none
  ex : Z.ex = []
theorem Since.now {pins : List (Addr × Obj)} {σ : L2.St} {H : Hp} {s : Shared} (S : Since Z fs H0 h0) (I : Inv Z pins σ H s) : Un fs [] H0 H h0 s.heap := by
  have b := I.base
  rw [S.ex] at b
  exact un_comp S.un b S.sub
theorem Since.stk {pins : List (Addr × Obj)} {σ : L2.St} {H : Hp} {s : Shared} (S : Since Z fs H0 h0) (I : Inv Z pins σ H s) : ∀ b ∈ frs Z.stack, b ∈ fs ∨ h0.get? b = none := fun b hb => by
  rcases List.mem_cons.mp (I.stkSub b hb) with e | e
  · refine .inr ?_
    cases z : h0.get? b with
    | none => rfl
    | some o =>
      obtain ⟨o', z'⟩ := S.un.there b o z (by simp)
      have l := Heap.lt_size z'
      have a := I.ok.above
      rw [e] at l
      exact absurd l (Nat.not_lt.mpr a)
  · exact S.sub b e
/-- the slot's name is called: a work stands in it -/
theorem pe_work {i : Nat} {a : Str} {E : XK} {p1 p2 : Pos} (Wk : Work Z.prog Z.w Z.K Z.mg Z.base k fs H0 h0 f c' q t) (S : Since Z fs H0 h0) (hx : Passes (L2.CX Z.prog Z.w) Z E) (hr : Room (k + 1) Z.A) (hN : Z.N[i]? = some a) (hv : Vis Z.env.scope a)
    (hd : (a == ("__debug__" : Str)) = false := by decide) (hcd : (a == ("__classdict__" : Str)) = false := by decide) :
    PE Z (.Call (.Name a p1) [] [] p2) (fun σ H Q => σ[i]? = some (some (.ref f)) ∧ H c' = some (CodeO c' q) ∧ t E H Q) := by
  refine ⟨fun pins s σ H Q I h => ?_⟩
  obtain ⟨hs, hc, ht⟩ := h
  refine wpAny_Call_Name_kw (thn ((pe_var (pos := p1) (i := i) hN hv hd hcd).run pins s σ H (fun v H1 => v = .ref f ∧ H1 = H) I ⟨.ref f, hs, rfl, rfl⟩) fun u s1 ⟨v, H1, I1, r1, q1⟩ => ?_)
  obtain ⟨ev, eH⟩ := q1
  subst ev
  rw [eH] at I1
  obtain rfl : u = Value.ref f := r1
  obtain ⟨_, _, _, _, _, _, ob⟩ := Wk.obj
  have un := S.now I1
  have of1 := un.keep f _ ob Wk.free Wk.out (by simp)
  refine PySem.W.callWith_F0 ⟨_, _, _, _, of1⟩ ?_
  refine wpAny_call (codeAny_mono (Wk.run Z.A Z.stack s1 H Q E hr I1.env0 un hc ht) fun r s' hq => ?_)
  match r, hq with
  | .error e, hq => exact hx pins σ H s1 e s' I1 hq
  | .ok (.ret u), hq => exact I1.after hq
  | .ok .next, hq => exact False.elim hq
  | .ok .brk, hq => exact False.elim hq
  | .ok .cont, hq => exact False.elim hq
end
/-- the promise of a def that a work is handed to -/
structure FnW (P : Program) (w : World) (K : PySem.W.Frag) (mg : Str → Option Value) (base : Heap) (fs : List Addr) (H0 : Hp) (h0 : Heap) (CX : CXT) (k : Nat) (g : Addr) (fd : FuncData) (ps : List Str) (sp : Sp) : Prop where
  len : ∀ vs H Q E, sp vs H Q E → vs.length = ps.length
  run : ∀ (A : Around) (outer : List Env) (s : Shared) (H : Hp) (args : Args) (us : List Value) (vs : List V) (Q : VK) (E : XK), Room k A → A.guards = some [] → Env0 P w K mg base A outer s H → Un fs [] H0 H h0 s.heap → (∀ b ∈ frs outer, b ∈ fs ∨ h0.get? b = none) →
    BindsTo s fd args (ps.zip us) → Vals vs us → sp vs H Q E → codeAny (model P w) A (.call (.ref g) args) (CR CX outer P w H s Q E) s
theorem fnW_of {CX : CXT} {P : Program} {w : World} {K : PySem.W.Frag} {mg : Str → Option Value} {base : Heap} {fs : List Addr} {H0 : Hp} {h0 : Heap} {k : Nat} {f : Addr} {x qual : Str} {st : Stmt} {fd : FuncData} {N ps : List Str} {sp : Sp} (F : Fun K x qual st f fd) (S : FnScope N ps (defScope st))
    (len : ∀ vs H Q E, sp vs H Q E → vs.length = ps.length)
    (hbody : ∀ (cdv : Value) (A : Around) (outer : List Env) (s : Shared) (H : Hp) (vs : List V) (Q : VK) (E : XK), Room k (A.deeper (envOfC qual (defScope st) s.heap.objs.size f cdv)) → A.guards = some [] → Since (cxOf CX P w K mg base N qual (defScope st) f cdv A outer s H E) fs H0 h0 → sp vs H Q E →
      ∃ t, PSs (cxOf CX P w K mg base N qual (defScope st) f cdv A outer s H E) (defBody st) t ∧ t { nx := fun _ H' => Q .non H', rt := Q } (L2.start N vs) H) : FnW P w K mg base fs H0 h0 CX (k + 1) f fd ps sp := by
  obtain ⟨oc, od, kV, doc, pm, an, cdv, ct, osl, rfl, lk, hcd⟩ := F.ex
  exact ⟨len, fun A outer s H args us vs Q E hr hgd e0 un sub hb r h => run_ofS lk hcd S hr e0 hb r (len _ _ _ _ h) fun hr' => hbody cdv A outer s H vs Q E hr' hgd ⟨un, sub, rfl⟩ h⟩
section
variable {Z : Cx} {CX : CXT} {k : Nat} {fs : List Addr} {H0 : Hp} {h0 : Heap} {g : Addr} {fd : FuncData} {ps : List Str} {sp : Sp} {E : XK} {x : Str} {p pos : Pos} {e : Expr} {es : List Expr} {t : TA}
/-- x(a, ..) in a def that the work has been handed to, handed on -/
theorem pe_wcall (F : FnW Z.prog Z.w Z.K Z.mg Z.base fs H0 h0 CX k g fd ps sp) (S : Since Z fs H0 h0) (hr : Room k Z.A) (hgd : Z.A.guards = some []) (hg : Gl Z x) (hm : Z.mg x = some (.ref g)) (hk : PySem.W.keepIn Z.K (.ref g) = true) (hb : Binds Z.K fd ps []) (hx : Passes CX Z E) (ha : PA Z (e :: es) t)
    (hdb : (x == ("__debug__" : Str)) = false := by decide) (he : starEach (e :: es) Z.env = (false, eval e Z.env) :: starEach es Z.env := by rfl) (hpl : (backTo pos (starEach es Z.env)).any (·.1) = false := by rfl) :
    PE Z (.Call (.Name x p) (e :: es) [] pos) (tCall sp [] E t) := by
  refine ⟨fun pins s σ H Q I h => ?_⟩
  refine wpAny_Call_Name_kw (ld_glob I hg hm ?_ hdb)
  refine PySem.W.callWith_K (h₀ := Z.base) I.ok.mod.kin hk (thn (ha.run pos pins s σ H _ I h) fun us s1 ⟨vs, H1, I1, r, q⟩ => ⟨I1.kIn, ?_⟩) he hpl
  have q : sp (vs ++ []) H1 Q E := q
  rw [List.append_nil] at q
  have hl : us.length = ps.length := by rw [← r.length]; exact F.len _ _ _ _ q
  have bt := hb s1 us I1.kIn (by simpa using hl)
  rw [List.append_nil] at bt
  refine wpAny_call (codeAny_mono (F.run Z.A Z.stack s1 H1 ⟨us, []⟩ us vs Q E hr hgd I1.env0 (S.now I1) (S.stk I1) bt r q) fun rr s' hq => ?_)
  match rr, hq with
  | .error e, hq => exact hx pins σ H1 s1 e s' I1 hq
  | .ok (.ret u), hq => exact I1.after hq
  | .ok .next, hq => exact False.elim hq
  | .ok .brk, hq => exact False.elim hq
  | .ok .cont, hq => exact False.elim hq
end
section
variable {X : Cx} {T : List (Addr × Str)} {CX : CXT} {kb k : Nat} {g c P : Addr} {fd : FuncData} {ps : List Str} {E : XK} {x : Str} {params : Arguments} {body : Expr} {scope : Scope} {t : XK → TE} {p lpos pos : Pos} {es : List Expr} {ta : TA} {sp : Addr → Addr → (XK → Hp → VK → Prop) → Sp}
/-- x(lambda: body, ..), x a def that hands it on -/
theorem pe_lamW (FW : ∀ (H0 : Hp) (h0 : Heap) (f c' : Addr) (t' : XK → Hp → VK → Prop), Work X.prog X.w X.K X.mg X.base kb (frs X.stack) H0 h0 f c' (X.env.qual ++ "<lambda>") t' → FnW X.prog X.w X.K X.mg X.base (frs X.stack) H0 h0 CX k g fd ps (sp f c' t'))
    (hg : Gl X x) (hm : X.mg x = some (.ref g)) (hk : PySem.W.keepIn X.K (.ref g) = true) (hb : Binds X.K fd ps []) (hx : Passes CX X E) (hr : Room k X.A) (hgd : X.A.guards = some []) (TB : TabB X.base X.mg c P) (hcode : X.env.code = .ref c) (hmT : (P, X.env.qual ++ "<lambda>") ∈ T) (hu : ∀ p ∈ T, p.1 = P → p.2 = X.env.qual ++ "<lambda>")
    (L : LamS X.env.scope scope) (hdef : defaultsOf params X.env = ([], [])) (hbind : ∀ (q : Str) (cl : List (Str × Addr)) (pm cv ctv : Value), bindArgs (PySem.W.kla_fn "<lambda>" q params body scope cl pm cv ctv) ⟨[], []⟩ = pure [])
    (hbody : ∀ (A : Around) (outer : List Env) (s : Shared) (H : Hp) (E : XK) (f c' : Addr), Room kb (A.deeper (lamEnv X scope s.heap.objs.size f c')) → PE (lamCx X A outer s H E scope f c') body (t E)) (ha : PA X es ta)
    (hdb : (x == ("__debug__" : Str)) = false := by decide) (he : starEach (.Lambda params body scope lpos :: es) X.env = (false, eval (.Lambda params body scope lpos) X.env) :: starEach es X.env := by rfl) (hpl : (backTo pos (starEach es X.env)).any (·.1) = false := by rfl) :
    PE X (.Call (.Name x p) (.Lambda params body scope lpos :: es) [] pos) (fun σ H Q => Tabs T H ∧ ∀ H1, ExtN H H1 → Tabs T H1 → ∀ f c' : Addr, H1 c' = some (CodeO c' (X.env.qual ++ "<lambda>")) →
      ta σ H1 fun vs H2 => sp f c' (fun E H Q => t E σ H Q) (.ref f :: vs) H2 Q E) := by
  refine ⟨fun pins s σ H Q I h => ?_⟩
  obtain ⟨hT, h⟩ := h
  refine wpAny_Call_Name_kw (ld_glob I hg hm ?_ hdb)
  refine PySem.W.callWith_K (h₀ := X.base) I.ok.mod.kin hk ?_ he hpl
  rw [he]
  show wpAny _ _ (spliced ((false, eval (.Lambda params body scope lpos) X.env) :: backTo pos (starEach es X.env))) _ _ s
  refine Calls.spliced_cons (lam_make2 I TB hcode hmT hu hT hdef (L.has I.ok) fun f c' pm' ctv H1 s' I1 eN T1 hf hfn hfr hco => ?_)
  have fl : f ≠ X.env.locals := fun z => by
    obtain ⟨m, ⟨o, es', ep, e1, e2, _⟩, _⟩ := I1.loc
    rw [← z, hf] at e1
    cases e1
    cases e2
  have ff : f ∉ X.fs := fun z => hfr (by
    rcases I1.ok.stk with q | ⟨q, _⟩
    · rw [q]
      exact z
    · rw [q]
      obtain ⟨e, he', q'⟩ := List.mem_filterMap.mp z
      exact List.mem_filterMap.mpr ⟨e, List.mem_cons_of_mem _ he', q'⟩)
  have J1 : Inv X ((f, PySem.W.kla_obj "<lambda>" (X.env.qual ++ "<lambda>") params body scope (cloFrom X.env.cells scope.names []) pm' c' ctv) :: pins) σ H1 s' := I1.pins_of fun q hq => by
    rcases List.mem_cons.mp hq with z | z
    · rw [z]
      exact ⟨hf, hfn, fl, ff, fun v y => by cases y⟩
    · exact I1.pin q (List.mem_append_right _ z)
  refine thn (ha.run pos _ s' σ H1 _ J1 (h H1 eN T1 f c' hco)) fun us s2 ⟨vs, H2, J2, r, q⟩ => ⟨J2.kIn, ?_⟩
  have at2 := J2.pin (f, _) (List.mem_append_right _ List.mem_cons_self)
  have I2 : Inv X pins σ H2 s2 := J2.pins_of fun q hq => J2.pin q (List.mem_append_right _ (List.mem_cons_of_mem _ hq))
  have Wk := work_of (tb := t) I2 L at2.1 at2.2.1 hfr (hbind _ _ _ _ _) (fun A outer s1 HZ E hr2 => hbody A outer s1 HZ E f c' hr2)
  have F := FW H2 s2.heap f c' _ Wk
  have r2 : Vals (.ref f :: vs) (.ref f :: us) := .cons rfl r
  have hl : (Value.ref f :: us).length = ps.length := by rw [← r2.length]; exact F.len _ _ _ _ q
  have bt := hb s2 (.ref f :: us) I2.kIn (by simpa using hl)
  rw [List.append_nil] at bt
  refine wpAny_call (codeAny_mono (F.run X.A X.stack s2 H2 ⟨.ref f :: us, []⟩ (.ref f :: us) (.ref f :: vs) Q E hr hgd I2.env0 (Un.kept fun _ _ z => z) (fun b hb => .inl hb) bt r2 q) fun rr s3 hq => ?_)
  match rr, hq with
  | .error e, hq => exact hx pins σ H2 s2 e s3 I2 hq
  | .ok (.ret u), hq => exact I2.after hq
  | .ok .next, hq => exact False.elim hq
  | .ok .brk, hq => exact False.elim hq
  | .ok .cont, hq => exact False.elim hq
end
end KW
namespace KA
open PySem PySem.Spec PyProof.Rows L2 PySem.W LamX KW
/-- isinstance of an exception that is kept as a value, with fields of its own -/
def rIsD (K : PySem.W.Frag) : List V → Hp → VK → Prop := fun xs H Q => ∃ (a D d : Addr) (fs : List (Str × V)) (c : V) (cv : Value) (b : Bool), xs = [.ref a, c] ∧ H a = some (ExV (.ref D) (some d) a) ∧ H d = some (.xd fs) ∧ ExcC K D ∧ ClsV c cv ∧ PySem.W.kitOne K (.ref D) cv = some b ∧ Q (.bl b) H
def rIs3 (K : PySem.W.Frag) : List V → Hp → VK → Prop := fun xs H Q => rIs2 K xs H Q ∨ rIsD K xs H Q
section
variable {X : Cx}
theorem call_isD : CallR X (.builtin "isinstance") (rIsD X.K) := by
  intro pins s σ H xs us Q I r h
  obtain ⟨a, D, d, fs, c, cv, b, rfl, ha, hd, C, k, e, q⟩ := h
  obtain ⟨u1, u2, rfl, r1, r2⟩ := vals2 r
  cases k.eq r2
  obtain rfl : u1 = Value.ref a := r1
  obtain ⟨⟨oe, at1, z, vs, dat⟩, _⟩ := I.hok a _ ha
  obtain ⟨mA, ns, _⟩ := I.hok d _ hd
  obtain ⟨od, at2, _⟩ := lookIn_ns ns
  have J : PySem.W.InstAt s.heap a oe D (some od) := ⟨at1, z.1, by unfold PySem.W.notCls; rw [dat] <;> rfl, by rw [z.2]; exact at2⟩
  obtain ⟨cd, hc, _⟩ := any_some C.hd
  exact PySem.W.kia_one (kitx_exc (by rw [hc]; rfl) C.hg C.hk C.hs C.ha C.hn C.ht C.hm) I.kIn J e (fun z => nomatch z) fun tk => ⟨.bl b, H, I.tok tk, rfl, q⟩
theorem call_is3 : CallR X (.builtin "isinstance") (rIs3 X.K) := by
  intro pins s σ H xs us Q I r h
  rcases h with h | h
  · exact call_is2 pins s σ H xs us Q I r h
  · exact call_isD pins s σ H xs us Q I r h
end
/-- caught, of a work that was handed on: at f, its code object at c' -/
def spCaughtW (K : PySem.W.Frag) (CS : Addr) (f c' : Addr) (q : Str) (t : XK → Hp → VK → Prop) : Sp := fun vs H Q _ => vs = [.ref f] ∧ H c' = some (CodeO c' q) ∧ TCaught K CS t H Q
theorem caught_work {P : Program} {w : World} {K : PySem.W.Frag} {mg : Str → Option Value} {base : Heap} {fs : List Addr} {H0 : Hp} {h0 : Heap} {k : Nat} {f c' : Addr} {q : Str} {t : XK → Hp → VK → Prop} {g : Addr} {fd : FuncData} {x a e n m : Str} {st : Stmt} {CS : Addr} {j1 : Nat} {p1 p2 p3 p4 p5 p6 p7 p8 p9 pa pb pc pd pe : Pos}
    (Wk : Work P w K mg base k fs H0 h0 f c' q t) (F : Fun K x x st g fd) (S : FnScope [a, m, n] [a] (defScope st))
    (hb : defBody st = [.Assign [.Name m p1] (.Constant .none j1 p2) p3,
       .Try [.Expr (.Call (.Name a p4) [] [] p5) p6] [.ExceptHandler (some (.Name e p7)) (some n) [.Assign [.Name m p8] (.Name n p9) pa] pb] [] [] pc,
       .Return (some (.Name m pd)) pe])
    (la : (defScope st).names.lookup a = some .local) (lm : (defScope st).names.lookup m = some .local) (ln : (defScope st).names.lookup n = some .local) (he : (defScope st).names.lookup e = some .globalImplicit) (hme : mg e = some (.ref CS)) (hde : (e == ("__debug__" : Str)) = false)
    (d0 : (a == ("__debug__" : Str)) = false) (d00 : (a == ("__classdict__" : Str)) = false) (d1 : (n == ("__debug__" : Str)) = false) (d2 : (n == ("__classdict__" : Str)) = false) (d3 : (m == ("__debug__" : Str)) = false) (d4 : (m == ("__classdict__" : Str)) = false) :
    FnW P w K mg base fs H0 h0 (L2.CX P w) (k + 2) g fd [a] (spCaughtW K CS f c' q t) := by
  refine fnW_of F S (fun vs H Q E h => by rw [h.1]; rfl) (fun cdv A outer s H vs Q E hr _ Sn h => ?_)
  obtain ⟨rfl, hc, hT⟩ := h
  rw [hb]
  refine ⟨_, pss_cons (ps_set (i := 1) S.nd rfl (.inl lm) pe_non) (pss_cons (ps_try_keep (c := .ref CS) (i := 2) (j := 1)
      (tb := fun W D σ H => ∃ Eb : XK, (∀ cls d σ' H', Eb cls d H' → W cls d σ' H') ∧ σ[0]? = some (some (.ref f)) ∧ H c' = some (CodeO c' q) ∧ t Eb H (fun _ H' => D.nx σ H'))
      rfl rfl rfl S.nd rfl rfl ln lm ⟨he, hde, .inl hme⟩ d1 d2 (fun W pn xe tk _ => ?_))
    (pss_one (ps_ret (pe_var (i := 1) rfl (.inl lm) d3 d4)))), ?_⟩
  · refine ⟨fun pins s' σ H' D I h' => ?_⟩
    obtain ⟨Eb, wish, h1, h2, h3⟩ := h'
    exact (pss_one (ps_expr (pe_work (Z := (cxOf (L2.CX P w) P w K mg base [a, m, n] x (defScope st) g cdv A outer s H E).tr pn xe) (i := 0) Wk ⟨Sn.un, Sn.sub, Sn.ex⟩ (passes_call tk wish) hr rfl (.inl la) d0 d00))).run pins s' σ H' D I ⟨h1, h2, h3⟩
  · refine ⟨fun cls d H' => PySem.W.exmOne K cls (.ref CS) = some true ∧ ∀ b, H' b = none → Q (.ref b) (upd H' b (ExV cls d b)), fun cls d σ' H' ⟨e1, e2⟩ => ⟨e1, fun b hb hl => ?_⟩, rfl, hc, ?_⟩
    · match σ', hl with
      | [u, v, z], _ => exact ⟨_, rfl, e2 b hb⟩
    · exact hT _ fun v H' z => ⟨_, rfl, z⟩
end KA
namespace KL
open PySem PySem.Spec PyProof.Rows L2 PySem.W LamX KA KW
/-! ### a lambda without parameters as a value: kept in a list, a local name, and called later by a def it is handed to -/
/-- the lambda at f, its code object at c', as the def with the frame env made it -/
def LamO (env : Env) (params : Arguments) (body : Expr) (scope : Scope) (f c' : Addr) : HO :=
  .ext fun h => ∃ pm ctv : Value, h.get? f = some (PySem.W.kla_obj "<lambda>" (env.qual ++ "<lambda>") params body scope (cloFrom env.cells scope.names []) pm c' ctv)
theorem lamO_tbl {env : Env} {params : Arguments} {body : Expr} {scope : Scope} {f c' : Addr} (ps : Array Value) : LamO env params body scope f c' ≠ .tbl ps := fun z => by
  unfold LamO at z
  cases z
theorem lamO_lst {env : Env} {params : Arguments} {body : Expr} {scope : Scope} {f c' : Addr} (xs : List V) : LamO env params body scope f c' ≠ .lst xs := fun z => by
  unfold LamO at z
  cases z
section
variable {X : Cx} {pins : List (Addr × Obj)} {σ : L2.St} {H : Hp} {s : Shared}
theorem laidLam {env : Env} {params : Arguments} {body : Expr} {scope : Scope} {c' : Addr} {pm ctv : Value} {h' : Heap} {tk : Nat} (I : Inv X pins σ H { s with heap := h', toks := tk }) :
    Inv X pins σ (upd H h'.objs.size (LamO env params body scope h'.objs.size c')) { s with heap := h'.push (PySem.W.kla_obj "<lambda>" (env.qual ++ "<lambda>") params body scope (cloFrom env.cells scope.names []) pm c' ctv), toks := tk } :=
  I.laid (t' := tk) (fun b o e => Heap.get?_push_of_some _ e) (Nat.le_refl _) ⟨⟨pm, ctv, Heap.get?_push_size _ rfl⟩, ⟨_, Heap.get?_push_size _ rfl⟩, fun h1 h2 ⟨a, b, e⟩ st => ⟨a, b, st _ e⟩⟩
/-- it is made: a value of the heap -/
theorem lam_val {T : List (Addr × Str)} {c P : Addr} {params : Arguments} {body : Expr} {scope : Scope} {pos : Pos} {E Q : Value → Shared → Prop} (I : Inv X pins σ H s) (TB : TabB X.base X.mg c P) (hcode : X.env.code = .ref c)
    (mem : (P, X.env.qual ++ "<lambda>") ∈ T) (one : ∀ p ∈ T, p.1 = P → p.2 = X.env.qual ++ "<lambda>") (hT : Tabs T H) (hdef : defaultsOf params X.env = ([], [])) (L : LamS X.env.scope scope)
    (k : ∀ (f c' : Addr) (H1 : Hp) (s' : Shared), ExtN H H1 → Tabs T H1 → H1 f = none → H1 c' = some (CodeO c' (X.env.qual ++ "<lambda>")) → Inv X pins σ (upd H1 f (LamO X.env params body scope f c')) s' → Q (.ref f) s') :
    wpAny (model X.prog X.w) X.A (eval (.Lambda params body scope pos) X.env) Q E s := by
  obtain ⟨tb, atP, tri, amg⟩ := hT _ mem
  have clo := closure_ok (L.has I.ok)
  have glob := I.mod.glob.keeps I.bk
  have code := TB.code.keeps I.bk
  have raw : s.heap.get? P = some { cls := .none, data := .fields tb } := I.hok P _ atP
  have bm := TB.bm.keeps I.bk
  refine PySem.W.kla_eval hdef ?_
  cases found : codeAmong pos tb.toList with
  | some cv =>
    obtain ⟨c', rfl, hco⟩ := amg pos cv found
    refine PySem.W.kla_makeFunctionHit clo I.ok.glob glob hcode code raw tri found bm ?_
    intro ctv h' tk hx hsz
    have J : Inv X pins σ H { s with heap := h', toks := tk } := I.kept fun b o e => hx b o e
    exact k _ c' H _ (ExtN.refl H) hT (I.hok.fresh hsz) hco (laidLam J)
  | none =>
    refine PySem.W.kla_makeFunction clo I.ok.glob glob hcode code raw tri found TB.gP bm ?_
    intro c' ctv h' tk hx hge hlt rec tbl
    obtain ⟨c2, oc, vs, t, ec, hoc, hd, hv⟩ := rec
    cases ec
    have free : H c' = none := I.hok.fresh hge
    have ne : P ≠ c' := ne_of_none atP free
    have J := inv_table (t' := tk) (more := #[rawInt pos.line, rawInt pos.col, .ref c']) (h' := h') I atP hx tbl hge ⟨oc, vs, t, hoc, hd, hv⟩
    generalize hH : upd (upd H P (.tbl (tb ++ #[rawInt pos.line, rawInt pos.col, .ref c']))) c' (CodeO c' (X.env.qual ++ "<lambda>")) = H1 at J
    have at1 : H1 c' = some (CodeO c' (X.env.qual ++ "<lambda>")) := by rw [← hH, upd_same]
    have at2 : H1 P = some (.tbl (tb ++ #[rawInt pos.line, rawInt pos.col, .ref c'])) := by rw [← hH, upd_ne ne, upd_same]
    have at3 : ∀ b, b ≠ P → b ≠ c' → H1 b = H b := fun b h1 h2 => by rw [← hH, upd_ne h2, upd_ne h1]
    have ext : ExtN H H1 := fun b o e n => by
      rw [at3 b (fun z => n tb (Option.some.inj (e.symm.trans (z ▸ atP)))) (ne_of_none e free)]
      exact e
    have eL : (tb ++ #[rawInt pos.line, rawInt pos.col, .ref c']).toList = tb.toList ++ [rawInt pos.line, rawInt pos.col, .ref c'] := by simp
    refine k _ c' H1 _ ext (fun p hp => ?_) (J.hok.fresh (Nat.le_refl _)) at1 (laidLam J)
    by_cases hb : p.1 = P
    · rw [one p hp hb, hb]
      refine ⟨_, at2, eL ▸ PySem.TriplesOk_snoc _ _ _ _ tri, fun p' cv hcv => ?_⟩
      rw [eL] at hcv
      cases among_app _ tri hcv with
      | inl z =>
        obtain ⟨c0, e1, e2⟩ := amg p' cv z
        exact ⟨c0, e1, ext _ _ e2 codeO_ne⟩
      | inr z => exact ⟨c', z, at1⟩
    · obtain ⟨ps', a1, a2, a3⟩ := hT p hp
      refine ⟨ps', (at3 p.1 hb (ne_of_none a1 free)).trans a1, a2, fun p' cv hcv => ?_⟩
      obtain ⟨c0, e1, e2⟩ := a3 p' cv hcv
      exact ⟨c0, e1, ext _ _ e2 codeO_ne⟩
end
def tLamV (T : List (Addr × Str)) (env : Env) (params : Arguments) (body : Expr) (scope : Scope) : TE := fun _ H Q => Tabs T H ∧ ∀ H1, ExtN H H1 → Tabs T H1 → ∀ f c' : Addr, H1 f = none → H1 c' = some (CodeO c' (env.qual ++ "<lambda>")) → Q (.ref f) (upd H1 f (LamO env params body scope f c'))
theorem pe_lamV {X : Cx} {T : List (Addr × Str)} {c P : Addr} {params : Arguments} {body : Expr} {scope : Scope} {pos : Pos} (TB : TabB X.base X.mg c P) (hcode : X.env.code = .ref c) (mem : (P, X.env.qual ++ "<lambda>") ∈ T) (one : ∀ p ∈ T, p.1 = P → p.2 = X.env.qual ++ "<lambda>")
    (L : LamS X.env.scope scope) (hdef : defaultsOf params X.env = ([], [])) : PE X (.Lambda params body scope pos) (tLamV T X.env params body scope) := by
  refine ⟨fun pins s σ H Q I h => ?_⟩
  obtain ⟨hT, h⟩ := h
  exact lam_val I TB hcode mem one hT hdef L fun f c' H1 s' ext T1 fr co J => ⟨.ref f, _, J, rfl, h H1 ext T1 f c' fr co⟩
/-- what is known of a lambda that was handed on: pre tells that it stands, t what its call promises -/
structure WorkL (P : Program) (w : World) (K : PySem.W.Frag) (mg : Str → Option Value) (base : Heap) (k : Nat) (fs : List Addr) (H0 : Hp) (h0 : Heap) (f : Addr) (pre : Hp → Prop) (t : XK → Hp → VK → Prop) : Prop where
  fn : ∀ (HZ : Hp) (h1 : Heap), HOk P w HZ h1 → pre HZ → ∃ (qual : Str) (params : Arguments) (body : Expr) (scope : Scope) (cl : List (Str × Addr)) (pm : Value) (c' : Addr) (ctv : Value), h1.get? f = some (PySem.W.kla_obj "<lambda>" qual params body scope cl pm c' ctv)
  run : ∀ (A : Around) (outer : List Env) (s1 : Shared) (HZ : Hp) (Q : VK) (E : XK), Room (k + 1) A → Env0 P w K mg base A outer s1 HZ → Un fs [] H0 HZ h0 s1.heap → pre HZ → t E HZ Q →
    codeAny (model P w) A (.call (.ref f) ⟨[], []⟩) (CR (L2.CX P w) outer P w HZ s1 Q E) s1
section
variable {X : Cx} {pins : List (Addr × Obj)} {σ : L2.St} {H : Hp} {s : Shared}
theorem work_ofL {k : Nat} {f c' : Addr} {params : Arguments} {body : Expr} {scope : Scope} {tb : XK → TE} (I : Inv X pins σ H s) (L : LamS X.env.scope scope)
    (hbind : ∀ (q : Str) (cl : List (Str × Addr)) (pm cv ctv : Value), bindArgs (PySem.W.kla_fn "<lambda>" q params body scope cl pm cv ctv) ⟨[], []⟩ = pure [])
    (hbody : ∀ (A : Around) (outer : List Env) (s1 : Shared) (HZ : Hp) (E : XK), Room k (A.deeper (lamEnv X scope s1.heap.objs.size f c')) → PE (lamCx X A outer s1 HZ E scope f c') body (tb E)) :
    WorkL X.prog X.w X.K X.mg X.base k (frs X.stack) H s.heap f (fun HZ => HZ f = some (LamO X.env params body scope f c') ∧ HZ c' = some (CodeO c' (X.env.qual ++ "<lambda>"))) (fun E HZ Q => tb E σ HZ Q) := by
  refine ⟨fun HZ h1 ok pre => ?_, fun A outer s1 HZ Q E hr e0 un pre ht => ?_⟩
  · obtain ⟨⟨pm, ctv, e⟩, _⟩ := ok f _ pre.1
    exact ⟨_, _, _, _, _, _, _, _, e⟩
  · obtain ⟨pf, pc⟩ := pre
    obtain ⟨⟨pm, ctv, of1⟩, _⟩ := e0.hok f _ pf
    obtain ⟨⟨oc, vs, t, hoc, hdc, hvc⟩, _⟩ := e0.hok c' _ pc
    have lim : s1.heap.NoLimit := e0.mod.nolimit.keeps fun b o e => (e0.bs b o e).1
    refine PySem.W.kla_callFunE hr.depth of1 rfl L.co L.gen rfl ⟨c', oc, vs, t, rfl, hoc, hdc, hvc⟩ ?_
    rw [hbind]
    refine wpAny_pure (wpAny_newFunctionEnv (fun y hy => (L.own y hy).2) (fun y hy => absurd hy (by simp)) (fun h₁ hns hsb => ⟨lim.fresh _ hsb, ?_⟩) L.kind)
    show codeAny _ _ (.expr body (lamEnv X scope s1.heap.objs.size f c')) _ _
    have keep : ∀ b o, s1.heap.get? b = some o → h₁.get? b = some o := fun b o e => hsb.extBut b o (Nat.ne_of_lt (Heap.lt_size e)) (Heap.get?_push_of_some _ e)
    have J : Inv (lamCx X A outer s1 HZ E scope f c') [] σ HZ { s1 with heap := h₁, toks := s1.toks + ([] : List (Str × Value)).length } := lam_start2 I L e0 hr.hd un hns keep
    refine PySem.W.kla_codeExpr (wpAny_mono ((hbody A outer s1 HZ E (hr.deeper _)).run [] _ _ HZ Q J ht) (fun v s' hq => ?_) fun e s' hq => hq)
    obtain ⟨w', H', J', rv, q⟩ := hq
    exact ⟨w', H', J'.os, J'.bare, J'.base, J'.hok, rv, q⟩
end
section
variable {Z : Cx} {k : Nat} {fs : List Addr} {H0 : Hp} {h0 : Heap} {f : Addr} {pre : Hp → Prop} {t : XK → Hp → VK → Prop}
theorem pe_workL {i : Nat} {a : Str} {E : XK} {p1 p2 : Pos} (Wk : WorkL Z.prog Z.w Z.K Z.mg Z.base k fs H0 h0 f pre t) (S : Since Z fs H0 h0) (hx : Passes (L2.CX Z.prog Z.w) Z E) (hr : Room (k + 1) Z.A) (hN : Z.N[i]? = some a) (hv : Vis Z.env.scope a)
    (hd : (a == ("__debug__" : Str)) = false := by decide) (hcd : (a == ("__classdict__" : Str)) = false := by decide) :
    PE Z (.Call (.Name a p1) [] [] p2) (fun σ H Q => σ[i]? = some (some (.ref f)) ∧ pre H ∧ t E H Q) := by
  refine ⟨fun pins s σ H Q I h => ?_⟩
  obtain ⟨hs, hp, ht⟩ := h
  refine wpAny_Call_Name_kw (thn ((pe_var (pos := p1) (i := i) hN hv hd hcd).run pins s σ H (fun v H1 => v = .ref f ∧ H1 = H) I ⟨.ref f, hs, rfl, rfl⟩) fun u s1 ⟨v, H1, I1, r1, q1⟩ => ?_)
  obtain ⟨rfl, rfl⟩ := q1
  obtain rfl : u = Value.ref f := r1
  obtain ⟨_, _, _, _, _, _, _, _, ob⟩ := Wk.fn H1 s1.heap I1.hok hp
  refine PySem.W.callWith_F0 ⟨_, _, _, _, ob⟩ ?_
  refine wpAny_call (codeAny_mono (Wk.run Z.A Z.stack s1 H1 Q E hr I1.env0 (S.now I1) hp ht) fun r s' hq => ?_)
  match r, hq with
  | .error e, hq => exact hx pins σ H1 s1 e s' I1 hq
  | .ok (.ret u), hq => exact I1.after hq
  | .ok .next, hq => exact False.elim hq
  | .ok .brk, hq => exact False.elim hq
  | .ok .cont, hq => exact False.elim hq
end
/-- caught, of such a lambda -/
def spCaughtL (K : PySem.W.Frag) (CS : Addr) (f : Addr) (pre : Hp → Prop) (t : XK → Hp → VK → Prop) : Sp := fun vs H Q _ => vs = [.ref f] ∧ pre H ∧ TCaught K CS t H Q
theorem caught_workL {P : Program} {w : World} {K : PySem.W.Frag} {mg : Str → Option Value} {base : Heap} {fs : List Addr} {H0 : Hp} {h0 : Heap} {k : Nat} {f : Addr} {pre : Hp → Prop} {t : XK → Hp → VK → Prop} {g : Addr} {fd : FuncData} {x a e n m : Str} {st : Stmt} {CS : Addr} {j1 : Nat} {p1 p2 p3 p4 p5 p6 p7 p8 p9 pa pb pc pd pe : Pos}
    (Wk : WorkL P w K mg base k fs H0 h0 f pre t) (F : Fun K x x st g fd) (S : FnScope [a, m, n] [a] (defScope st))
    (hb : defBody st = [.Assign [.Name m p1] (.Constant .none j1 p2) p3,
       .Try [.Expr (.Call (.Name a p4) [] [] p5) p6] [.ExceptHandler (some (.Name e p7)) (some n) [.Assign [.Name m p8] (.Name n p9) pa] pb] [] [] pc,
       .Return (some (.Name m pd)) pe])
    (la : (defScope st).names.lookup a = some .local) (lm : (defScope st).names.lookup m = some .local) (ln : (defScope st).names.lookup n = some .local) (he : (defScope st).names.lookup e = some .globalImplicit) (hme : mg e = some (.ref CS)) (hde : (e == ("__debug__" : Str)) = false)
    (d0 : (a == ("__debug__" : Str)) = false) (d00 : (a == ("__classdict__" : Str)) = false) (d1 : (n == ("__debug__" : Str)) = false) (d2 : (n == ("__classdict__" : Str)) = false) (d3 : (m == ("__debug__" : Str)) = false) (d4 : (m == ("__classdict__" : Str)) = false) :
    FnW P w K mg base fs H0 h0 (L2.CX P w) (k + 2) g fd [a] (spCaughtL K CS f pre t) := by
  refine fnW_of F S (fun vs H Q E h => by rw [h.1]; rfl) (fun cdv A outer s H vs Q E hr _ Sn h => ?_)
  obtain ⟨rfl, hp, hT⟩ := h
  rw [hb]
  refine ⟨_, pss_cons (ps_set (i := 1) S.nd rfl (.inl lm) pe_non) (pss_cons (ps_try_keep (c := .ref CS) (i := 2) (j := 1)
      (tb := fun W D σ H => ∃ Eb : XK, (∀ cls d σ' H', Eb cls d H' → W cls d σ' H') ∧ σ[0]? = some (some (.ref f)) ∧ pre H ∧ t Eb H (fun _ H' => D.nx σ H'))
      rfl rfl rfl S.nd rfl rfl ln lm ⟨he, hde, .inl hme⟩ d1 d2 (fun W pn xe tk _ => ?_))
    (pss_one (ps_ret (pe_var (i := 1) rfl (.inl lm) d3 d4)))), ?_⟩
  · refine ⟨fun pins s' σ H' D I h' => ?_⟩
    obtain ⟨Eb, wish, h1, h2, h3⟩ := h'
    exact (pss_one (ps_expr (pe_workL (Z := (cxOf (L2.CX P w) P w K mg base [a, m, n] x (defScope st) g cdv A outer s H E).tr pn xe) (i := 0) Wk ⟨Sn.un, Sn.sub, Sn.ex⟩ (passes_call tk wish) hr rfl (.inl la) d0 d00))).run pins s' σ H' D I ⟨h1, h2, h3⟩
  · refine ⟨fun cls d H' => PySem.W.exmOne K cls (.ref CS) = some true ∧ ∀ b, H' b = none → Q (.ref b) (upd H' b (ExV cls d b)), fun cls d σ' H' ⟨e1, e2⟩ => ⟨e1, fun b hb hl => ?_⟩, rfl, hp, ?_⟩
    · match σ', hl with
      | [u, v, z], _ => exact ⟨_, rfl, e2 b hb⟩
    · exact hT _ fun v H' z => ⟨_, rfl, z⟩
/-- a lambda of a def, and what its body promises -/
structure LamD where
  params : Arguments
  body : Expr
  scope : Scope
  t : XK → TE
structure LamOk (X : Cx) (kb : Nat) (l : LamD) : Prop where
  L : LamS X.env.scope l.scope
  bind : ∀ (q : Str) (cl : List (Str × Addr)) (pm cv ctv : Value), bindArgs (PySem.W.kla_fn "<lambda>" q l.params l.body l.scope cl pm cv ctv) ⟨[], []⟩ = pure []
  run : ∀ (A : Around) (outer : List Env) (s : Shared) (H : Hp) (E : XK) (f c' : Addr), Room kb (A.deeper (lamEnv X l.scope s.heap.objs.size f c')) → PE (lamCx X A outer s H E l.scope f c') l.body (l.t E)
/-- x(work): work, a name of this def, stands for one of its lambdas -/
theorem pe_callL {X : Cx} {CX : CXT} {kb k i : Nat} {g : Addr} {fd : FuncData} {ps : List Str} {E : XK} {x a : Str} {p p' pos : Pos} {sp : Addr → (Hp → Prop) → (XK → Hp → VK → Prop) → Sp} (lams : List LamD) (ok : ∀ l ∈ lams, LamOk X kb l)
    (FW : ∀ (H0 : Hp) (h0 : Heap) (f : Addr) (pre : Hp → Prop) (t' : XK → Hp → VK → Prop), WorkL X.prog X.w X.K X.mg X.base kb (frs X.stack) H0 h0 f pre t' → FnW X.prog X.w X.K X.mg X.base (frs X.stack) H0 h0 CX k g fd ps (sp f pre t'))
    (hg : Gl X x) (hm : X.mg x = some (.ref g)) (hk : PySem.W.keepIn X.K (.ref g) = true) (hb : Binds X.K fd ps []) (hx : Passes CX X E) (hr : Room k X.A) (hgd : X.A.guards = some []) (hN : X.N[i]? = some a) (hv : Vis X.env.scope a)
    (hdb : (x == ("__debug__" : Str)) = false := by decide) (hd : (a == ("__debug__" : Str)) = false := by decide) (hcd : (a == ("__classdict__" : Str)) = false := by decide)
    (he : starEach [.Name a p'] X.env = (false, eval (.Name a p') X.env) :: starEach [] X.env := by rfl) (hpl : (backTo pos (starEach [] X.env)).any (·.1) = false := by rfl) :
    PE X (.Call (.Name x p) [.Name a p'] [] pos) (fun σ H Q => ∃ l ∈ lams, ∃ f c' : Addr, σ[i]? = some (some (.ref f)) ∧ H f = some (LamO X.env l.params l.body l.scope f c') ∧ H c' = some (CodeO c' (X.env.qual ++ "<lambda>")) ∧
      sp f (fun HZ => HZ f = some (LamO X.env l.params l.body l.scope f c') ∧ HZ c' = some (CodeO c' (X.env.qual ++ "<lambda>"))) (fun E H Q => l.t E σ H Q) [.ref f] H Q E) := by
  refine ⟨fun pins s σ H Q I h => ?_⟩
  obtain ⟨l, hl, f, c', hs, hf, hc, q⟩ := h
  have O := ok l hl
  refine wpAny_Call_Name_kw (ld_glob I hg hm ?_ hdb)
  refine PySem.W.callWith_K (h₀ := X.base) I.ok.mod.kin hk ?_ he hpl
  rw [he]
  refine Calls.spliced_cons (thn ((pe_var (pos := p') (i := i) hN hv hd hcd).run pins s σ H (fun v H1 => v = .ref f ∧ H1 = H) I ⟨.ref f, hs, rfl, rfl⟩) fun u s1 ⟨v, H1, I1, r1, q1⟩ => ?_)
  obtain ⟨rfl, rfl⟩ := q1
  obtain rfl : u = Value.ref f := r1
  refine Calls.spliced_nil ⟨I1.kIn, ?_⟩
  have Wk := work_ofL (tb := l.t) (f := f) (c' := c') I1 O.L O.bind (fun A outer s2 HZ E hr2 => O.run A outer s2 HZ E f c' hr2)
  have F := FW H1 s1.heap f _ _ Wk
  have hlen : [Value.ref f].length = ps.length := by
    have := F.len _ _ _ _ q
    exact this
  have bt := hb s1 [.ref f] I1.kIn (by simpa using hlen)
  rw [List.append_nil] at bt
  refine wpAny_call (codeAny_mono (F.run X.A X.stack s1 H1 ⟨[.ref f], []⟩ [.ref f] [.ref f] Q E hr hgd I1.env0 (Un.kept fun _ _ z => z) (fun b hb => .inl hb) bt (.cons rfl .nil) q) fun rr s3 hq => ?_)
  match rr, hq with
  | .error e, hq => exact hx pins σ H1 s1 e s3 I1 hq
  | .ok (.ret u), hq => exact I1.after hq
  | .ok .next, hq => exact False.elim hq
  | .ok .brk, hq => exact False.elim hq
  | .ok .cont, hq => exact False.elim hq
end KL
namespace K03
open PySem PySem.Spec PyProof.Rows L2 PySem.W LamX KA
def top (i : Nat) : Stmt := PySem.Challenge.pw_pricedreels_k03_shapes_planes_and_turnin.main.body.getD i (.Pass ⟨0, 0, 0, 0⟩)
abbrev s_is_number : Stmt := top 1
theorem sc_is_number : FnScope ["thing"] ["thing"] (defScope s_is_number) := ⟨rfl, rfl, rfl, by decide +kernel, rfl, by decide +kernel, by decide +kernel⟩
abbrev s_is_within : Stmt := top 2
theorem sc_is_within : FnScope ["thing", "low", "high"] ["thing", "low", "high"] (defScope s_is_within) := ⟨rfl, rfl, rfl, by decide +kernel, rfl, by decide +kernel, by decide +kernel⟩
abbrev s_is_row : Stmt := top 3
theorem sc_is_row : FnScope ["thing", "part"] ["thing"] (defScope s_is_row) := ⟨rfl, rfl, rfl, by decide +kernel, rfl, by decide +kernel, by decide +kernel⟩
abbrev s_is_rows : Stmt := top 4
theorem sc_is_rows : FnScope ["thing", "row"] ["thing"] (defScope s_is_rows) := ⟨rfl, rfl, rfl, by decide +kernel, rfl, by decide +kernel, by decide +kernel⟩
abbrev s_are_between : Stmt := top 5
theorem sc_are_between : FnScope ["rows", "low", "high", "row"] ["rows", "low", "high"] (defScope s_are_between) := ⟨rfl, rfl, rfl, by decide +kernel, rfl, by decide +kernel, by decide +kernel⟩
abbrev s_is_plane : Stmt := top 17
theorem sc_is_plane : FnScope ["shape", "thing"] ["shape", "thing"] (defScope s_is_plane) := ⟨rfl, rfl, rfl, by decide +kernel, rfl, by decide +kernel, by decide +kernel⟩
abbrev s_flat_plane : Stmt := top 18
theorem sc_flat_plane : FnScope ["shape", "number"] ["shape", "number"] (defScope s_flat_plane) := ⟨rfl, rfl, rfl, by decide +kernel, rfl, by decide +kernel, by decide +kernel⟩
abbrev s_turned : Stmt := top 19
theorem sc_turned : FnScope ["plane", "way", "row", "x"] ["plane", "way"] (defScope s_turned) := ⟨rfl, rfl, rfl, by decide +kernel, rfl, by decide +kernel, by decide +kernel⟩
abbrev s_check_shape : Stmt := top 20
theorem sc_check_shape : FnScope ["shape"] ["shape"] (defScope s_check_shape) := ⟨rfl, rfl, rfl, by decide +kernel, rfl, by decide +kernel, by decide +kernel⟩
abbrev s_fits_shape : Stmt := top 21
theorem sc_fits_shape : FnScope ["shape", "thing"] ["shape", "thing"] (defScope s_fits_shape) := ⟨rfl, rfl, rfl, by decide +kernel, rfl, by decide +kernel, by decide +kernel⟩
abbrev s__law_begun : Stmt := top 23
theorem sc__law_begun : FnScope ["script", "cells_here", "large", "cell"] ["script"] (defScope s__law_begun) := ⟨rfl, rfl, rfl, by decide +kernel, rfl, by decide +kernel, by decide +kernel⟩
abbrev s__law_draw : Stmt := top 24
theorem sc__law_draw : FnScope ["state", "size_here", "found", "turn", "cell", "mixed"] ["state", "size_here"] (defScope s__law_draw) := ⟨rfl, rfl, rfl, by decide +kernel, rfl, by decide +kernel, by decide +kernel⟩
abbrev s__law_pick : Stmt := top 25
theorem sc__law_pick : FnScope ["state", "several"] ["state", "several"] (defScope s__law_pick) := ⟨rfl, rfl, rfl, by decide +kernel, rfl, by decide +kernel, by decide +kernel⟩
abbrev s__law_caught : Stmt := top 26
theorem sc__law_caught : FnScope ["work", "caught", "error"] ["work"] (defScope s__law_caught) := ⟨rfl, rfl, rfl, by decide +kernel, rfl, by decide +kernel, by decide +kernel⟩
abbrev s__law_is_whole : Stmt := top 27
theorem sc__law_is_whole : FnScope ["item"] ["item"] (defScope s__law_is_whole) := ⟨rfl, rfl, rfl, by decide +kernel, rfl, by decide +kernel, by decide +kernel⟩
abbrev s__law_scope : Stmt := top 28
theorem sc__law_scope : FnScope ["state", "some", "tall", "wide", "least", "most"] ["state"] (defScope s__law_scope) := ⟨rfl, rfl, rfl, by decide +kernel, rfl, by decide +kernel, by decide +kernel⟩
abbrev s__law_within : Stmt := top 29
theorem sc__law_within : FnScope ["scope", "item"] ["scope", "item"] (defScope s__law_within) := ⟨rfl, rfl, rfl, by decide +kernel, rfl, by decide +kernel, by decide +kernel⟩
abbrev s__law_grain : Stmt := top 30
theorem sc__law_grain : FnScope ["state", "scope"] ["state", "scope"] (defScope s__law_grain) := ⟨rfl, rfl, rfl, by decide +kernel, rfl, by decide +kernel, by decide +kernel⟩
abbrev s__law_pane : Stmt := top 31
theorem sc__law_pane : FnScope ["state", "scope", "fashion", "base", "pair", "slope", "found", "y", "line", "x"] ["state", "scope"] (defScope s__law_pane) := ⟨rfl, rfl, rfl, by decide +kernel, rfl, by decide +kernel, by decide +kernel⟩
abbrev s__law_due : Stmt := top 32
theorem sc__law_due : FnScope ["four", "tall", "wide", "least", "most"] ["four"] (defScope s__law_due) := ⟨rfl, rfl, rfl, by decide +kernel, rfl, by decide +kernel, by decide +kernel⟩
abbrev s__law_is_pane : Stmt := top 33
theorem sc__law_is_pane : FnScope ["scope", "item", "line", "grain"] ["scope", "item"] (defScope s__law_is_pane) := ⟨rfl, rfl, rfl, by decide +kernel, rfl, by decide +kernel, by decide +kernel⟩
abbrev s__law_bent : Stmt := top 34
theorem sc__law_bent : FnScope ["state", "scope", "pane", "lines", "fashion", "spot", "dot", "line"] ["state", "scope", "pane"] (defScope s__law_bent) := ⟨rfl, rfl, rfl, by decide +kernel, rfl, by decide +kernel, by decide +kernel⟩
abbrev s__law_turned_right : Stmt := top 35
theorem sc__law_turned_right : FnScope ["state", "scope", "pane", "tall", "wide", "ups", "sides", "corners", "told", "fashion", "y", "x"] ["state", "scope", "pane"] (defScope s__law_turned_right) := ⟨rfl, rfl, rfl, by decide +kernel, rfl, by decide +kernel, by decide +kernel⟩
abbrev s_law : Stmt := top 36
theorem sc_law : FnScope ["script", "turn", "scope", "four", "middle_here", "lap", "some", "due", "caught", "item", "base", "work", "bent", "form", "odd", "pane", "state", "wrong"] ["script"] (defScope s_law) := ⟨rfl, rfl, rfl, by decide +kernel, rfl, by decide +kernel, by decide +kernel⟩
/-- what stands in a class -/
def inClass (st : Stmt) (i : Nat) : Stmt := match st with
  | .ClassDef _ _ _ body _ _ _ _ _ _ _ => body.getD i (.Pass ⟨0, 0, 0, 0⟩)
  | _ => .Pass ⟨0, 0, 0, 0⟩
abbrev s_Shape_init : Stmt := inClass (top 16) 0
theorem sc_Shape_init : FnScope ["self", "height", "width", "low", "high"] ["self", "height", "width", "low", "high"] (defScope s_Shape_init) := ⟨rfl, rfl, rfl, by decide +kernel, rfl, by decide +kernel, by decide +kernel⟩
abbrev s_Shape_eq : Stmt := inClass (top 16) 1
theorem sc_Shape_eq : FnScope ["self", "other"] ["self", "other"] (defScope s_Shape_eq) := ⟨rfl, rfl, rfl, by decide +kernel, rfl, by decide +kernel, by decide +kernel⟩
/-- what the top has written -/
structure Top (K : PySem.W.Frag) (mg : Str → Option Value) where
  reel : ReelT K mg
  BadNumber : ExcT K mg "BadNumber" reel.C
  BadPlane : ExcT K mg "BadPlane" reel.C
  BadWay : ExcT K mg "BadWay" reel.C
  is_number : DefT K mg "is_number" s_is_number
  is_within : DefT K mg "is_within" s_is_within
  is_row : DefT K mg "is_row" s_is_row
  is_rows : DefT K mg "is_rows" s_is_rows
  are_between : DefT K mg "are_between" s_are_between
  is_plane : DefT K mg "is_plane" s_is_plane
  flat_plane : DefT K mg "flat_plane" s_flat_plane
  turned : DefT K mg "turned" s_turned
  check_shape : DefT K mg "check_shape" s_check_shape
  fits_shape : DefT K mg "fits_shape" s_fits_shape
  _law_begun : DefT K mg "_law_begun" s__law_begun
  _law_draw : DefT K mg "_law_draw" s__law_draw
  _law_pick : DefT K mg "_law_pick" s__law_pick
  _law_caught : DefT K mg "_law_caught" s__law_caught
  _law_is_whole : DefT K mg "_law_is_whole" s__law_is_whole
  _law_scope : DefT K mg "_law_scope" s__law_scope
  _law_within : DefT K mg "_law_within" s__law_within
  _law_grain : DefT K mg "_law_grain" s__law_grain
  _law_pane : DefT K mg "_law_pane" s__law_pane
  _law_due : DefT K mg "_law_due" s__law_due
  _law_is_pane : DefT K mg "_law_is_pane" s__law_is_pane
  _law_bent : DefT K mg "_law_bent" s__law_bent
  _law_turned_right : DefT K mg "_law_turned_right" s__law_turned_right
  law : DefT K mg "law" s_law
  cLOWEST : CstT mg "LOWEST" (-512)
  cHIGHEST : CstT mg "HIGHEST" (511)
  cMOST_SPOTS : CstT mg "MOST_SPOTS" (16)
  b_isinstance : mg "isinstance" = none
  b_int : mg "int" = none
  b_bool : mg "bool" = none
  b_str : mg "str" = none
  b_len : mg "len" = none
  b_abs : mg "abs" = none
  b_range : mg "range" = none
  b_min : mg "min" = none
  b_max : mg "max" = none
  b_repr : mg "repr" = none
  b_list : mg "list" = none
  b_tuple : mg "tuple" = none
  b_all : mg "all" = none
  b_ValueError : mg "ValueError" = none
section
variable {K : PySem.W.Frag} {mg : Str → Option Value}
theorem bd_is_number (T : Top K mg) : Binds K T.is_number.d ["thing"] [] := T.is_number.f.binds fun _ _ _ _ _ _ us hl => match us, hl with | [_], _ => rfl
theorem bd_is_within (T : Top K mg) : Binds K T.is_within.d ["thing", "low", "high"] [] := T.is_within.f.binds fun _ _ _ _ _ _ us hl => match us, hl with | [_, _, _], _ => rfl
theorem bd_is_row (T : Top K mg) : Binds K T.is_row.d ["thing"] [] := T.is_row.f.binds fun _ _ _ _ _ _ us hl => match us, hl with | [_], _ => rfl
theorem bd_is_rows (T : Top K mg) : Binds K T.is_rows.d ["thing"] [] := T.is_rows.f.binds fun _ _ _ _ _ _ us hl => match us, hl with | [_], _ => rfl
theorem bd_are_between (T : Top K mg) : Binds K T.are_between.d ["rows", "low", "high"] [] := T.are_between.f.binds fun _ _ _ _ _ _ us hl => match us, hl with | [_, _, _], _ => rfl
theorem bd_is_plane (T : Top K mg) : Binds K T.is_plane.d ["shape", "thing"] [] := T.is_plane.f.binds fun _ _ _ _ _ _ us hl => match us, hl with | [_, _], _ => rfl
theorem bd_flat_plane (T : Top K mg) : Binds K T.flat_plane.d ["shape", "number"] [] := T.flat_plane.f.binds fun _ _ _ _ _ _ us hl => match us, hl with | [_, _], _ => rfl
theorem bd_turned (T : Top K mg) : Binds K T.turned.d ["plane", "way"] [] := T.turned.f.binds fun _ _ _ _ _ _ us hl => match us, hl with | [_, _], _ => rfl
theorem bd_check_shape (T : Top K mg) : Binds K T.check_shape.d ["shape"] [] := T.check_shape.f.binds fun _ _ _ _ _ _ us hl => match us, hl with | [_], _ => rfl
theorem bd_fits_shape (T : Top K mg) : Binds K T.fits_shape.d ["shape", "thing"] [] := T.fits_shape.f.binds fun _ _ _ _ _ _ us hl => match us, hl with | [_, _], _ => rfl
theorem bd__law_begun (T : Top K mg) : Binds K T._law_begun.d ["script"] [] := T._law_begun.f.binds fun _ _ _ _ _ _ us hl => match us, hl with | [_], _ => rfl
theorem bd__law_draw (T : Top K mg) : Binds K T._law_draw.d ["state", "size_here"] [] := T._law_draw.f.binds fun _ _ _ _ _ _ us hl => match us, hl with | [_, _], _ => rfl
theorem bd__law_pick (T : Top K mg) : Binds K T._law_pick.d ["state", "several"] [] := T._law_pick.f.binds fun _ _ _ _ _ _ us hl => match us, hl with | [_, _], _ => rfl
theorem bd__law_caught (T : Top K mg) : Binds K T._law_caught.d ["work"] [] := T._law_caught.f.binds fun _ _ _ _ _ _ us hl => match us, hl with | [_], _ => rfl
theorem bd__law_is_whole (T : Top K mg) : Binds K T._law_is_whole.d ["item"] [] := T._law_is_whole.f.binds fun _ _ _ _ _ _ us hl => match us, hl with | [_], _ => rfl
theorem bd__law_scope (T : Top K mg) : Binds K T._law_scope.d ["state"] [] := T._law_scope.f.binds fun _ _ _ _ _ _ us hl => match us, hl with | [_], _ => rfl
theorem bd__law_within (T : Top K mg) : Binds K T._law_within.d ["scope", "item"] [] := T._law_within.f.binds fun _ _ _ _ _ _ us hl => match us, hl with | [_, _], _ => rfl
theorem bd__law_grain (T : Top K mg) : Binds K T._law_grain.d ["state", "scope"] [] := T._law_grain.f.binds fun _ _ _ _ _ _ us hl => match us, hl with | [_, _], _ => rfl
theorem bd__law_pane (T : Top K mg) : Binds K T._law_pane.d ["state", "scope"] [] := T._law_pane.f.binds fun _ _ _ _ _ _ us hl => match us, hl with | [_, _], _ => rfl
theorem bd__law_due (T : Top K mg) : Binds K T._law_due.d ["four"] [] := T._law_due.f.binds fun _ _ _ _ _ _ us hl => match us, hl with | [_], _ => rfl
theorem bd__law_is_pane (T : Top K mg) : Binds K T._law_is_pane.d ["scope", "item"] [] := T._law_is_pane.f.binds fun _ _ _ _ _ _ us hl => match us, hl with | [_, _], _ => rfl
theorem bd__law_bent (T : Top K mg) : Binds K T._law_bent.d ["state", "scope", "pane"] [] := T._law_bent.f.binds fun _ _ _ _ _ _ us hl => match us, hl with | [_, _, _], _ => rfl
theorem bd__law_turned_right (T : Top K mg) : Binds K T._law_turned_right.d ["state", "scope", "pane"] [] := T._law_turned_right.f.binds fun _ _ _ _ _ _ us hl => match us, hl with | [_, _, _], _ => rfl
theorem bd_law (T : Top K mg) : Binds K T.law.d ["script"] [] := T.law.f.binds fun _ _ _ _ _ _ us hl => match us, hl with | [_], _ => rfl
end
end K03
namespace KA
open PySem
/-! ### numbers in bits: the mathematics -/
/-- n in k bits, as codes -/
def bitsL : Nat → Nat → List Nat
  | 0, _ => []
  | k + 1, n => bitsL k (n / 2) ++ [48 + n % 2]
theorem bitsL_len : ∀ k n, (bitsL k n).length = k
  | 0, _ => rfl
  | k + 1, n => by simp [bitsL, bitsL_len k]
def binL (n : Nat) : List Nat := (Nat.toDigits 2 n).map Char.toNat
theorem binL_lt {n : Nat} (h : n < 2) : binL n = [48 + n] := by
  unfold binL
  rw [Nat.toDigits_of_lt_base h]
  have : n = 0 ∨ n = 1 := by omega
  rcases this with rfl | rfl <;> rfl
theorem binL_ge {n : Nat} (h : 2 ≤ n) : binL n = binL (n / 2) ++ [48 + n % 2] := by
  unfold binL
  rw [Nat.toDigits_of_base_le (by decide) h, List.map_append]
  have : n % 2 = 0 ∨ n % 2 = 1 := by omega
  rcases this with e | e <;> rw [e] <;> rfl
/-- the digits behind the first one -/
def tailL (n : Nat) : List Nat := (binL n).drop 1
theorem binL_ne (n : Nat) : binL n ≠ [] := by
  unfold binL
  intro h
  exact Nat.toDigits_ne_nil (List.map_eq_nil_iff.mp h)
theorem tailL_lt {n : Nat} (h : n < 2) : tailL n = [] := by
  unfold tailL
  rw [binL_lt h]
  rfl
theorem tailL_ge {n : Nat} (h : 2 ≤ n) : tailL n = tailL (n / 2) ++ [48 + n % 2] := by
  unfold tailL
  rw [binL_ge h, List.drop_append_of_le_length]
  have := List.length_pos_iff.mpr (binL_ne (n / 2))
  omega
theorem binL_head : ∀ (n : Nat), 1 ≤ n → binL n = 49 :: tailL n := by
  intro n
  induction n using Nat.strongRecOn with
  | _ n ih =>
    intro h
    by_cases h2 : n < 2
    · have : n = 1 := by omega
      subst this
      rfl
    · rw [tailL_ge (by omega), binL_ge (by omega), ih (n / 2) (by omega) (by omega)]
      rfl
theorem binL_le : ∀ (k n : Nat), 0 < k → n < 2 ^ k → (binL n).length ≤ k
  | 0, _, h, _ => by omega
  | k + 1, n, _, h => by
    by_cases h2 : n < 2
    · rw [binL_lt h2]
      simp
    · rw [binL_ge (by omega), List.length_append]
      have hk : 0 < k := by
        rcases Nat.eq_zero_or_pos k with e | e
        · subst e
          simp at h
          omega
        · exact e
      have := binL_le k (n / 2) hk (by rw [Nat.pow_succ] at h; omega)
      simp
      omega
theorem bitsL_bin : ∀ (k n : Nat), 0 < k → n < 2 ^ k → List.replicate (k - (binL n).length) 48 ++ binL n = bitsL k n
  | 0, _, h, _ => by omega
  | k + 1, n, _, h => by
    rw [bitsL]
    by_cases h2 : n < 2
    · rw [binL_lt h2]
      have e : n / 2 = 0 := by omega
      have e2 : n % 2 = n := by omega
      rw [e, e2]
      have z : ∀ j, bitsL j 0 = List.replicate j 48 := fun j => by
        induction j with
        | zero => rfl
        | succ j ih => rw [bitsL, Nat.zero_div, ih, List.replicate_succ']
      rw [z]
      simp
    · have hk : 0 < k := by
        rcases Nat.eq_zero_or_pos k with e | e
        · subst e
          simp at h
          omega
        · exact e
      have hd : n / 2 < 2 ^ k := by
        rw [Nat.pow_succ] at h
        omega
      rw [← bitsL_bin k (n / 2) hk hd, binL_ge (by omega), List.length_append]
      have e : k + 1 - ((binL (n / 2)).length + [48 + n % 2].length) = k - (binL (n / 2)).length := by simp
      rw [e, List.append_assoc]
theorem binText_eq (n : Nat) : binText n = ⟨(binL n).toArray⟩ := rfl
theorem binText_len (n : Nat) : (binText n).length = (binL n).length := by simp [binText, binL, Str.length]
/-- n in m bits, as a text -/
def twosT (m n : Nat) : Str := ⟨(bitsL m n).toArray⟩
theorem zfill_bin {m n : Nat} (hm : 0 < m) (h : n < 2 ^ m) : Txt.zfill (binText n) (m : Int) = twosT m n := by
  have hl := binL_le m n hm h
  have hb := bitsL_bin m n hm h
  unfold Txt.zfill
  rw [binText_len]
  by_cases e : (m : Int) ≤ ((binL n).length : Nat)
  · rw [if_pos e]
    have : m - (binL n).length = 0 := by omega
    rw [this] at hb
    simp only [List.replicate_zero, List.nil_append] at hb
    rw [binText_eq, hb]
    rfl
  · rw [if_neg e]
    have h0 : (binText n).cps[0]? = some 48 ∨ (binText n).cps[0]? = some 49 := by
      rw [binText_eq]
      rcases Nat.eq_zero_or_pos n with z | z
      · subst z
        exact .inl rfl
      · rw [binL_head n z]
        exact .inr rfl
    have e2 : zfilled (binText n) ((m : Int).toNat - (binL n).length) = Builtin.Str.padded (binText n) ((m : Int).toNat - (binL n).length) 0 48 := by
      unfold zfilled
      rcases h0 with z | z
      · rw [z]
        rfl
      · rw [z]
        rfl
    rw [e2]
    unfold Builtin.Str.padded twosT
    rw [← hb, binText_eq]
    congr 1
    apply Array.toList_inj.mp
    simp
/-- n ones -/
def onesT (n : Nat) : Str := ⟨(List.replicate n 49).toArray⟩
theorem onesT_len (n : Nat) : (onesT n).length = n := by simp [onesT, Str.length]
theorem fold_ones (n : Nat) : ∀ acc : Array Nat, (List.replicate n (#[49] : Array Nat)).foldl (· ++ ·) acc = acc ++ (List.replicate n 49).toArray := by
  induction n with
  | zero => intro acc; simp
  | succ n ih =>
    intro acc
    rw [List.replicate_succ, List.foldl_cons, ih, List.replicate_succ]
    apply Array.toList_inj.mp
    simp
theorem mul_ones (n : Nat) : Txt.mul "1" (n : Int) = onesT n := by
  unfold Txt.mul
  by_cases h : (n : Int) < 1
  · rw [if_pos h]
    have : n = 0 := by omega
    subst this
    rfl
  · rw [if_neg h]
    by_cases h1 : n = 1
    · subst h1
      rfl
    · rw [if_neg (by
        have e : ((n : Int) == 1) = false := by
          rw [beq_eq_false_iff_ne]
          omega
        rw [e]
        decide)]
      show (⟨(List.replicate (n : Int).toNat (#[49] : Array Nat)).foldl (· ++ ·) #[]⟩ : Str) = _
      rw [Int.toNat_natCast, fold_ones]
      unfold onesT
      congr 1
      apply Array.toList_inj.mp
      simp
end KA
namespace K03
open PySem PySem.Spec PyProof.Rows L2 PySem.W LamX KA
/-! ### the promises -/
/-- a value whose type isinstance can tell; whether it is a number -/
inductive Pl (K : PySem.W.Frag) (H : Hp) : V → Bool → Prop where
  | int (i : Int) : Pl K H (.int i) true
  | bl (b : Bool) : Pl K H (.bl b) false
  | str (s : Str) : Pl K H (.str s) false
  | non : Pl K H .non false
  | tup {a : Addr} {xs : List V} (e : H a = some (.tup xs)) : Pl K H (.ref a) false
  | lst {a : Addr} {xs : List V} (e : H a = some (.lst xs)) : Pl K H (.ref a) false
  | dK {a : Addr} {kvs : List (Key × V)} (e : H a = some (.dK kvs)) : Pl K H (.ref a) false
theorem Pl.ty {K : PySem.W.Frag} {H : Hp} {x : V} {b : Bool} (h : Pl K H x b) : ∃ t : String, TyX K H x (.type t) ∧ kitB t "int" = some (b || (t == "bool")) ∧ kitB t "bool" = some (t == "bool") ∧ ((b || (t == "bool")) && !(t == "bool")) = b := by
  cases h with
  | int i => exact ⟨"int", .base (.int i), by decide +kernel, by decide +kernel, by decide⟩
  | bl i => exact ⟨"bool", .base (.bl i), by decide +kernel, by decide +kernel, by decide⟩
  | str i => exact ⟨"str", .base (.str i), by decide +kernel, by decide +kernel, by decide⟩
  | non => exact ⟨"NoneType", .base .non, by decide +kernel, by decide +kernel, by decide⟩
  | tup e => exact ⟨"tuple", .base (.tup e), by decide +kernel, by decide +kernel, by decide⟩
  | lst e => exact ⟨"list", .base (.lst e), by decide +kernel, by decide +kernel, by decide⟩
  | dK e => exact ⟨"dict", .base (.dK e), by decide +kernel, by decide +kernel, by decide⟩
def within (x : V) (lo hi : Int) : Bool := match x with
  | .int i => decide (lo ≤ i) && decide (i ≤ hi)
  | _ => false
def spNumber (K : PySem.W.Frag) : Sp := fun vs H Q _ => ∃ x b, vs = [x] ∧ Pl K H x b ∧ Q (.bl b) H
def spWithin (K : PySem.W.Frag) : Sp := fun vs H Q _ => ∃ x b lo hi, vs = [x, .int lo, .int hi] ∧ Pl K H x b ∧ Q (.bl (within x lo hi)) H
section
variable {P : Program} {w : World} {K : PySem.W.Frag} {mg : Str → Option Value} {base : Heap} (T : Top K mg)
abbrev pInt {X : Cx} {pos : Pos} (hg : Gl X "int") (hm : X.mg "int" = none) : PE X (.Name "int" pos) (tC (.ty "int")) := pe_bltn hg hm PyProof.Rows.boot_int rfl
theorem q_bl {Q : VK} {H : Hp} {a b : Bool} (k : Q (.bl b) H) (e : a = b) : Q (.bl a) H := e ▸ k
theorem q_int {Q : VK} {H : Hp} {a b : Int} (k : Q (.int b) H) (e : a = b) : Q (.int a) H := e ▸ k
theorem q_str {Q : VK} {H : Hp} {a b : Str} (k : Q (.str b) H) (e : a = b) : Q (.str a) H := e ▸ k
theorem ok_is_number : FnOk P w K mg base (L2.CX P w) 1 T.is_number.a T.is_number.d ["thing"] (spNumber K) := by
  refine T.is_number.f.okX sc_is_number (fun vs H Q E h => ?_) (fun cdv A outer s H vs Q E hr h => ?_)
  · obtain ⟨x, b, rfl, _⟩ := h
    rfl
  · obtain ⟨x, b, rfl, hp, k⟩ := h
    refine ⟨_, pss_one (ps_ret (pe_and
      (pe_callB call_isi (by rfl) T.b_isinstance PyProof.Rows.boot_isinstance (pa_cons (pv 0) (pa_cons (pe_bltn (v := .ty "int") (by rfl) T.b_int PyProof.Rows.boot_int rfl) pa_nil)))
      (pe_one (pe_not (pe_callB call_isi (by rfl) T.b_isinstance PyProof.Rows.boot_isinstance (pa_cons (pv 0) (pa_cons (pe_bltn (v := .ty "bool") (by rfl) T.b_bool (by decide +kernel) rfl) pa_nil))))))), ?_⟩
    obtain ⟨t, ht, h1, h2, h3⟩ := hp.ty
    refine ⟨_, rfl, x, _, _, _, _, rfl, .ty "int", ht, kit_ty h1, _, rfl, ?_⟩
    cases e : (b || (t == "bool"))
    · rw [e] at h3
      refine iteF ?_
      exact q_bl k h3
    · rw [e] at h3
      refine iteT ?_
      refine ⟨_, rfl, x, _, _, _, _, rfl, .ty "bool", ht, kit_ty h2, _, rfl, ?_⟩
      exact q_bl k (by simpa using h3)
theorem ok_is_within : FnOk P w K mg base (L2.CX P w) 2 T.is_within.a T.is_within.d ["thing", "low", "high"] (spWithin K) := by
  refine T.is_within.f.okX sc_is_within (fun vs H Q E h => ?_) (fun cdv A outer s H vs Q E hr h => ?_)
  · obtain ⟨x, b, lo, hi, rfl, _⟩ := h
    rfl
  · obtain ⟨x, b, lo, hi, rfl, hp, k⟩ := h
    refine ⟨_, pss_one (ps_ret (pe_and (pe_call (ok_is_number T) hr (by rfl) T.is_number.m T.is_number.f.kp (bd_is_number T) .nil passE (pa_cons (pv 0) pa_nil))
      (pe_one (pe_chain op_le op_le (pv 1) (pv 0) (pv 2))))), ?_⟩
    refine ⟨_, rfl, x, b, rfl, hp, b, rfl, ?_⟩
    cases hp with
    | int i =>
      refine iteT ⟨_, rfl, _, rfl, lo, i, rfl, rfl, _, rfl, ?_⟩
      by_cases h1 : lo ≤ i
      · rw [decide_eq_true h1]
        refine iteT ⟨_, rfl, i, hi, rfl, rfl, ?_⟩
        exact q_bl k (by simp [within, h1])
      · rw [decide_eq_false h1]
        refine iteF ?_
        exact q_bl k (by simp [within, h1])
    | _ => exact iteF k
def foldI (i : Int) : Int := if i > 0 then 2 * i - 1 else -2 * i
def spFold : Sp := fun vs H Q _ => ∃ i : Int, vs = [.int i] ∧ Q (.int (foldI i)) H
def unfoldI (n : Int) : Int := if Builtin.bitAnd n 1 != 0 then (n + 1) / 2 else -(n / 2)
def spUnfold : Sp := fun vs H Q _ => ∃ i : Int, vs = [.int i] ∧ Q (.int (unfoldI i)) H
/-- n in m bits, as the program writes it -/
theorem padOk {m : Int} (h0 : 0 ≤ m) (h1 : m ≤ 100) : PadOk m = true := by
  unfold PadOk fitsSsize Builtin.Str.tooLong
  have e : sizeLine = 16777216 := rfl
  rw [e]
  simp
  omega
def inBits (n m : Int) : Str := if m = 0 then "" else Txt.zfill (binText n.natAbs) m
def spInBits : Sp := fun vs H Q _ => ∃ n m : Int, vs = [.int n, .int m] ∧ 0 ≤ n ∧ (binText n.natAbs).length ≤ 100 ∧ 0 ≤ m ∧ m ≤ 100 ∧ Q (.str (inBits n m)) H
def spIsTold (K : PySem.W.Frag) : Sp := fun vs H Q _ => ∃ x b, vs = [x] ∧ Pl K H x b ∧ Q (.bl (within x (-32767) 32767)) H
/-- a check: nothing, or an error of the class at C -/
def spCheck (K : PySem.W.Frag) (lo hi : Int) (C : Addr) : Sp := fun vs H Q E => ∃ x b, vs = [x] ∧ Pl K H x b ∧ (within x lo hi = true → Q .non H) ∧ (within x lo hi = false → E (.ref C) none H)
theorem iteNot {A B : Prop} {b : Bool} (h1 : b = false → A) (h2 : b = true → B) : if (!b) = true then A else B := by
  cases b
  · exact h1 rfl
  · exact h2 rfl
theorem passX {X : Cx} {E : XK} (hs : X.stack = X.env :: X.outer) (hf : X.env.frame = some X.env.locals) (hex : X.ex = []) (hx : X.xe = fun e s' => wpAny (model X.prog X.w) X.A (leaving X.env e) (fun _ s'' => L2.CX X.prog X.w X.outer X.H_0 X.s_0 E e s'') (fun e' s'' => L2.CX X.prog X.w X.outer X.H_0 X.s_0 E e' s'') s') :
    Passes (L2.CX X.prog X.w) X E := passes_call (takes_of hs hf hex hx) fun _ _ _ _ h => h
theorem within_int {x : V} {lo hi : Int} (h : within x lo hi = true) : ∃ i, x = .int i ∧ lo ≤ i ∧ i ≤ hi := by
  cases x with
  | int i =>
    simp only [within, Bool.and_eq_true, decide_eq_true_eq] at h
    exact ⟨i, rfl, h⟩
  | _ => cases h
def spFolded (K : PySem.W.Frag) (C : Addr) : Sp := fun vs H Q E => ∃ x b, vs = [x] ∧ Pl K H x b ∧ (∀ i, x = .int i → -32767 ≤ i → i ≤ 32767 → Q (.int (foldI i)) H) ∧ (within x (-32767) 32767 = false → E (.ref C) none H)
def spUnfolded (K : PySem.W.Frag) (C : Addr) : Sp := fun vs H Q E => ∃ x b, vs = [x] ∧ Pl K H x b ∧ (∀ i, x = .int i → 0 ≤ i → i ≤ 65534 → Q (.int (unfoldI i)) H) ∧ (within x 0 65534 = false → E (.ref C) none H)
end
end K03
namespace K03
open PySem PySem.Spec PyProof.Rows L2 PySem.W LamX KA
section
variable {P : Program} {w : World} {K : PySem.W.Frag} {mg : Str → Option Value} {base : Heap} (T : Top K mg)
def isStr (x : V) : Bool := match x with
  | .str _ => true
  | _ => false
theorem Pl.str? {K : PySem.W.Frag} {H : Hp} {x : V} {b : Bool} (h : Pl K H x b) : ∃ t : String, TyX K H x (.type t) ∧ kitB t "str" = some (isStr x) := by
  cases h with
  | int i => exact ⟨"int", .base (.int i), (by decide +kernel : kitB "int" "str" = some false)⟩
  | bl i => exact ⟨"bool", .base (.bl i), (by decide +kernel : kitB "bool" "str" = some false)⟩
  | str i => exact ⟨"str", .base (.str i), (by decide +kernel : kitB "str" "str" = some true)⟩
  | non => exact ⟨"NoneType", .base .non, by decide +kernel⟩
  | tup e => exact ⟨"tuple", .base (.tup e), (by decide +kernel : kitB "tuple" "str" = some false)⟩
  | lst e => exact ⟨"list", .base (.lst e), (by decide +kernel : kitB "list" "str" = some false)⟩
  | dK e => exact ⟨"dict", .base (.dK e), (by decide +kernel : kitB "dict" "str" = some false)⟩
def isBits (x : V) : Bool := match x with
  | .str s => decide (V.str (Txt.stripChars s "01") = V.str "")
  | _ => false
def spIsBits (K : PySem.W.Frag) : Sp := fun vs H Q _ => ∃ x b, vs = [x] ∧ Pl K H x b ∧ (∀ s, x = .str s → s.length ≤ 1000) ∧ Q (.bl (isBits x)) H
def spFixed (K : PySem.W.Frag) (CM CN : Addr) : Sp := fun vs H Q E => ∃ x bx y «by», vs = [x, y] ∧ Pl K H x bx ∧ Pl K H y «by» ∧ (within y 1 16 = false → E (.ref CM) none H) ∧
  ∀ m : Nat, y = .int m → 1 ≤ m → m ≤ 16 → (within x 0 (2 ^ m - 1) = false → E (.ref CN) none H) ∧ ∀ n : Nat, x = .int n → n < 2 ^ m → Q (.str (twosT m n)) H
theorem pow16 {m : Nat} (h : m ≤ 16) : 2 ^ m ≤ 65536 := by
  have := Nat.pow_le_pow_right (n := 2) (by decide) h
  exact this
theorem binText_small {n : Nat} (h : n < 65536) : (binText n).length ≤ 100 := by
  rw [binText_len]
  have := binL_le 16 n (by decide) h
  omega
theorem inBits_eq {m n : Nat} (hm : 0 < m) (h : n < 2 ^ m) : inBits (n : Int) (m : Int) = twosT m n := by
  unfold inBits
  rw [if_neg (by omega), Int.natAbs_natCast]
  exact zfill_bin hm h
theorem cut_one {z : Str} (h : 1 ≤ z.length) : cutS z (some 1) none = ⟨(z.cps.toList.drop 1).toArray⟩ := by
  have e1 : HT.sIx z.length 0 (some 1) = 1 := (HT.sIx_nat z.length 0 1).trans (by omega)
  unfold cutS
  rw [e1, HT.sIx_none, List.take_of_length_le]
  simp [Str.length]
theorem len_app (x y : Str) : (x ++ y).length = x.length + y.length := Array.size_append
def longT (f : Nat) : Str := onesT (tailL (f + 1)).length ++ "0" ++ ⟨(tailL (f + 1)).toArray⟩
theorem foldI_nat {i : Int} (h1 : -32767 ≤ i) (h2 : i ≤ 32767) : ∃ f : Nat, foldI i = f ∧ f < 65535 := by
  refine ⟨(foldI i).toNat, ?_, ?_⟩ <;> (unfold foldI; split <;> omega)
def spLong (K : PySem.W.Frag) (C : Addr) : Sp := fun vs H Q E => ∃ x b, vs = [x] ∧ Pl K H x b ∧ (∀ i (f : Nat), x = .int i → foldI i = f → f < 65535 → Q (.str (longT f)) H) ∧ (within x (-32767) 32767 = false → E (.ref C) none H)
def gradeT (f g : Nat) : Str := if 12 ≤ f / 2 ^ g then onesT 12 ++ twosT 16 f else onesT (f / 2 ^ g) ++ "0" ++ twosT g (f % 2 ^ g)
theorem twosT_len (m n : Nat) : (twosT m n).length = m := by
  show ((bitsL m n).toArray).size = m
  simp [bitsL_len]
def spGrade (K : PySem.W.Frag) (CN CG : Addr) : Sp := fun vs H Q E => ∃ x b y yb, vs = [x, y] ∧ Pl K H x b ∧ Pl K H y yb ∧ (within x (-32767) 32767 = false → E (.ref CN) none H) ∧
  ∀ i (f : Nat), x = .int i → foldI i = f → f < 65535 → (within y 0 7 = false → E (.ref CG) none H) ∧ ∀ g : Nat, y = .int g → g ≤ 7 → Q (.str (gradeT f g)) H
end
end K03
namespace K03
open PySem PySem.Spec PyProof.Rows L2 PySem.W LamX KA
open Evl (pss_cut tCut)
def spDraw : Sp := fun vs H Q _ => ∃ (st lg cl : Addr) (n m : Nat), vs = [.ref st, .int n] ∧ 0 < n ∧ n < 2 ^ 100 ∧ m ≤ 1000000 ∧ StAt H st lg cl m ∧
  ∀ (r : Nat) (H' : Hp), r < n → StAt H' st lg cl (m + 1) → Kp st lg H H' → Q (.int r) H'
section
variable {P : Program} {w : World} {K : PySem.W.Frag} {mg : Str → Option Value} {base : Heap} (T : Top K mg)
theorem draw_div {n : Nat} (h0 : 0 < n) (h : n < 2 ^ 100) {i : Int} : CDivW i (n : Int) := wide_div (b := 100) (by omega) (by simpa using h) (by decide) (by decide)
theorem ok_draw : FnOk P w K mg base (L2.CX P w) 1 T._law_draw.a T._law_draw.d ["state", "size_here"] spDraw := by
  refine T._law_draw.f.okX sc__law_draw (fun vs H Q E h => ?_) (fun cdv A outer s H vs Q E hr h => ?_)
  · obtain ⟨st, lg, cl, n, m, rfl, _⟩ := h
    rfl
  · obtain ⟨st, lg, cl, n, m, rfl, hn, hn2, hm, ⟨large, cells, left, turn, S, ht⟩, k⟩ := h
    have hu := hu_of hr
    refine ⟨_, pss_cut (ps_while (passes_of rfl) (PW.pt (pw_and (pt_cmpR op_eq (pe_dget hu (pv 0) pe_str (fun _ _ => rfl)) pe_int (nomark _)) (pw_and1 (pt_cmpR (op_neD hr.units) (pe_dget hu (pv 0) pe_str (fun _ _ => rfl)) (pe_lst pa_nil) (nomark _)))))
        (pss_one (ps_dput hu (pv 0) pe_str (pe_bm PySem.F.plainAttrs_list PySem.F.slot_list_pop PySem.F.type_list_pop mt_popAt (pe_dget hu (pv 0) pe_str (fun _ _ => rfl)) (pa_cons pe_int pa_nil)) rfl)))
      (pss_cons (ps_if (pt_cmpR op_gt (pe_dget hu (pv 0) pe_str (fun _ _ => rfl)) pe_int (nomark _))
        (pss_cons (ps_set (i := 2) sc__law_draw.nd rfl (.inl rfl) (pe_op op_mod (pe_callTy call_int1 (by rfl) T.b_int PyProof.Rows.boot_int (pa_cons (pe_dget hu (pv 0) pe_str (fun _ _ => rfl)) pa_nil)) (pv 1)))
        (pss_cons (ps_dput hu (pv 0) pe_str (pe_op op_fdivW (pe_dget hu (pv 0) pe_str (fun _ _ => rfl)) (pv 1)) rfl)
        (pss_one (ps_ret (pv 2))))) pss_nil)
      (pss_cons (ps_set (i := 3) sc__law_draw.nd rfl (.inl rfl) (pe_op op_add (pe_dget hu (pv 0) pe_str (fun _ _ => rfl)) pe_int))
      (pss_cons (ps_dput hu (pv 0) pe_str (pv 3) rfl)
      (pss_cut (ps_set (i := 4) sc__law_draw.nd rfl (.inl rfl) (pe_ifExp (pt_cmpR (op_neD hr.units) (pe_dget hu (pv 0) pe_str (fun _ _ => rfl)) (pe_lst pa_nil) (nomark _))
        (pe_ix ix_list (pe_dget hu (pv 0) pe_str (fun _ _ => rfl)) (pe_op op_mod (pe_callTy call_int1 (by rfl) T.b_int PyProof.Rows.boot_int (pa_cons (pv 3) pa_nil)) (pe_callB call_len_seq (by rfl) T.b_len PySem.boot_len (pa_cons (pe_dget hu (pv 0) pe_str (fun _ _ => rfl)) pa_nil))) (fun _ _ => rfl))
        pe_int))
      (pss_cons (ps_set (i := 5) sc__law_draw.nd rfl (.inl rfl) (pe_op op_mod (pe_callTy call_int1 (by rfl) T.b_int PyProof.Rows.boot_int (pa_cons (pe_op op_pow (pe_op op_add (pe_op op_add (pe_op op_mod (pe_callTy call_int1 (by rfl) T.b_int PyProof.Rows.boot_int (pa_cons (pv 4) pa_nil)) pe_int) (pe_op op_mul pe_int (pv 3))) pe_int) pe_int) pa_nil)) pe_int))
      (pss_one (ps_ret (pe_op op_mod (pe_callTy call_int1 (by rfl) T.b_int PyProof.Rows.boot_int (pa_cons (pe_op op_fdiv (pe_op op_mod (pe_callTy call_int1 (by rfl) T.b_int PyProof.Rows.boot_int (pa_cons (pe_op op_pow (pe_op op_add (pv 5) (pe_op op_mul pe_int (pv 3))) pe_int) pa_nil)) pe_int) pe_int) pa_nil)) (pv 1))))))))), ?_⟩
    -- the while
    refine ⟨fun σ' H' => σ' = [some (.ref st), some (.int n), none, none, none, none] ∧ ∃ large' left', StD H' st lg cl large' cells left' turn ∧ Kp st lg H H', ?_, ?_⟩
    · refine ⟨fun μ σ' H' => σ' = [some (.ref st), some (.int n), none, none, none, none] ∧ ∃ large' left', large'.length = μ ∧ StD H' st lg cl large' cells left' turn ∧ Kp st lg H H',
        ⟨large.length, rfl, large, left, rfl, S, Kp.refl⟩, ?_⟩
      rintro μ σ' H1 ⟨rfl, large', left', hμ, S1, kp1⟩
      refine ⟨_, rfl, st, _, rfl, (show DGet H1 st (kV kLeft) _ from st_left ▸ DGet.k S1.d), rfl, _, rfl, ?_⟩
      by_cases c1 : left' = 0
      · subst c1
        refine iteT ⟨_, rfl, st, _, rfl, (show DGet H1 st (kV kLarge) _ from st_large ▸ DGet.k S1.d), by decide, fun p hp => ?_⟩
        have S2 := S1.same (Same.new (o := .lst []) hp)
        have kp2 := kp1.trans (Kp.same (Same.new (o := .lst []) hp))
        refine ⟨_, _, dp_int_list S2.l, dp_nil upd_same, shaped_is _, shaped_nil, _, rfl, ?_⟩
        rw [eqv_ints_nil]
        cases large' with
        | nil => exact iteF ⟨rfl, [], 0, S2, kp2⟩
        | cons x rest =>
          refine iteT ⟨fun σ' H' => σ' = [some (.ref st), some (.int n), none, none, none, none] ∧ ∃ large' left', large'.length = rest.length ∧ StD H' st lg cl large' cells left' turn ∧ Kp st lg H H',
            fun σ' H' ⟨e, l', lf, e2, r⟩ => ⟨rest.length, by rw [← hμ]; exact Nat.lt_succ_self _, e, l', lf, e2, r⟩, ?_⟩
          refine ⟨_, rfl, st, .ref lg, rfl, (show DGet _ st (kV kLarge) _ from st_large ▸ DGet.k S2.d), .inl ⟨rfl, _, SqL.of S2.l⟩, lg, _, 0, 0, .int x, rfl, rfl, S2.l, by decide, by decide, by simp [seqIndex?], rfl, ?_⟩
          have S3 : StD (upd (upd H1 p (.lst [])) lg (.lst (rest.map V.int))) st lg cl rest cells 0 turn :=
            { d := (upd_ne S2.st_lg).trans S2.d, l := upd_same, c := (upd_ne S2.ne.symm).trans S2.c, ne := S2.ne, pl := fun y hy => S2.pl y (List.mem_cons_of_mem _ hy), p0 := S2.p0 }
          have hx : 0 ≤ x := S2.pl x List.mem_cons_self
          refine ⟨_, rfl, st, _, rfl, (show DPut _ st (kV kLeft) _ _ from DPut.k S3.d (by show 4 < sizeLine; decide)), ?_⟩
          rw [st_put_left]
          exact ⟨rfl, rest, x, rfl, S3.put hx, (kp2.trans Kp.put2).trans Kp.put⟩
      · rw [show decide (V.int left' = V.int 0) = false from decide_eq_false fun z => c1 (V.int.inj z)]
        exact iteF ⟨rfl, large', left', S1, kp1⟩
    · rintro σ' H1 ⟨rfl, large', left', S1, kp1⟩
      refine ⟨_, rfl, st, _, rfl, (show DGet H1 st (kV kLeft) _ from st_left ▸ DGet.k S1.d), _, _, rfl, rfl, _, rfl, ?_⟩
      by_cases c1 : 0 < left'
      · rw [show decide ((0 : Int) < left') = true from decide_eq_true c1]
        refine iteT ⟨_, rfl, st, _, rfl, (show DGet H1 st (kV kLeft) _ from st_left ▸ DGet.k S1.d), .inl ⟨_, rfl, _, rfl, _, _, rfl, rfl, (by show (0 : Int) < (n : Int); omega), ?_⟩⟩
        refine ⟨_, rfl, st, _, rfl, (show DGet H1 st (kV kLeft) _ from st_left ▸ DGet.k S1.d), _, rfl, _, _, rfl, rfl, draw_div hn hn2, _, rfl, st, _, rfl, (show DPut _ st (kV kLeft) _ _ from DPut.k S1.d (by show 4 < sizeLine; decide)), ?_⟩
        rw [st_put_left]
        have hr0 := Int.emod_nonneg left' (show (n : Int) ≠ 0 by omega)
        have hr1 := Int.emod_lt_of_pos left' (show (0 : Int) < n by omega)
        have S3 := S1.put (t := turn) (l := left' / (n : Int)) (Int.ediv_nonneg (by omega) (by omega))
        exact ⟨_, rfl, q_int (k (left' % (n : Int)).toNat _ (by omega) ⟨_, _, _, _, S3, by omega⟩ (kp1.trans Kp.put)) (by omega)⟩
      · rw [show decide ((0 : Int) < left') = false from decide_eq_false c1]
        refine iteF ⟨_, rfl, st, _, rfl, (show DGet H1 st (kV kTurn) _ from st_turn ▸ DGet.k S1.d), _, _, rfl, rfl, _, rfl, _, rfl, st, _, rfl, (show DPut _ st (kV kTurn) _ _ from DPut.k S1.d (by show 4 < sizeLine; decide)), ?_⟩
        rw [st_put_turn]
        have S2 : StD (upd H1 st (.dK (stKv lg cl left' ((turn + 1 : Nat) : Int)))) st lg cl large' cells left' (turn + 1) := S1.put S1.p0
        have kp2 : Kp st lg H (upd H1 st (.dK (stKv lg cl left' ((turn + 1 : Nat) : Int)))) := kp1.trans Kp.put
        have e1 : ((turn : Int) + 1) = ((turn + 1 : Nat) : Int) := by omega
        rw [e1]
        generalize upd H1 st (.dK (stKv lg cl left' ((turn + 1 : Nat) : Int))) = H2 at S2 kp2 ⊢
        refine ⟨fun σ' H' => ∃ c : Int, σ' = [some (.ref st), some (.int n), none, some (.int ((turn + 1 : Nat) : Int)), some (.int c), none] ∧ StD H' st lg cl large' cells left' (turn + 1) ∧ Kp st lg H H', ?_, ?_⟩
        · refine ⟨_, rfl, st, .ref cl, rfl, (show DGet H2 st (kV kCells) _ from st_cells ▸ DGet.k S2.d), by decide, fun p hp => ?_⟩
          have S3 := S2.same (Same.new (o := .lst []) hp)
          have kp3 := kp2.trans (Kp.same (Same.new (o := .lst []) hp))
          refine ⟨_, _, dp_int_list S3.c, dp_nil upd_same, shaped_is _, shaped_nil, _, rfl, ?_⟩
          rw [eqv_ints_nil]
          generalize upd H2 p (.lst []) = H3 at S3 kp3 ⊢
          cases cells with
          | nil => exact iteF ⟨0, rfl, S3, kp3⟩
          | cons y ys =>
            refine iteT ⟨_, rfl, st, .ref cl, rfl, (show DGet H3 st (kV kCells) _ from st_cells ▸ DGet.k S3.d), _, rfl, .inl ⟨_, rfl, _, rfl, st, .ref cl, rfl, (show DGet H3 st (kV kCells) _ from st_cells ▸ DGet.k S3.d), cl, _, rfl, .inl (SqL.of S3.c), _, _, rfl, rfl, ?_, ?_⟩⟩
            · show (0 : Int) < ((((y :: ys).map V.int).length : Nat) : Int)
              simp
            · have hlen : ((y :: ys).map V.int).length = (y :: ys).length := List.length_map _
              have hz : (turn + 1) % (y :: ys).length < (y :: ys).length := Nat.mod_lt _ (by simp)
              obtain ⟨c, hc⟩ : ∃ c, (y :: ys)[(turn + 1) % (y :: ys).length]? = some c := ⟨_, List.getElem?_eq_getElem hz⟩
              refine ⟨cl, _, _, .int c, rfl, rfl, SqL.of S3.c, ?_, c, rfl, S3, kp3⟩
              rw [hlen, show (((turn : Int) + 1) % (((y :: ys).length : Nat) : Int)) = (((turn + 1) % (y :: ys).length : Nat) : Int) from rfl]
              exact atI_nat (by rw [List.getElem?_map, hc]; rfl)
        · rintro σ' H3 ⟨c, rfl, S3, kp3⟩
          have h1 := Int.emod_nonneg c (show (2147483563 : Int) ≠ 0 by decide)
          have h2 := Int.emod_lt_of_pos c (show (0 : Int) < 2147483563 by decide)
          refine ⟨_, rfl, .inl ⟨_, rfl, _, _, rfl, rfl, (by show (0 : Int) < 2147483563; decide), _, rfl, _, _, rfl, rfl, .inl ⟨by decide, by decide⟩, _, _, rfl, rfl, _, _, rfl, rfl, _, _, rfl, rfl, ⟨by decide, by decide, ?_⟩, .inl ⟨_, rfl, _, _, rfl, rfl, (by show (0 : Int) < 2147483629; decide), ?_⟩⟩⟩
          · generalize c % 2147483563 = c' at h1 h2 ⊢
            omega
          generalize (c % 2147483563 + 40692 * ((turn + 1 : Nat) : Int) + 24681) ^ (3 : Int).toNat = z
          have h3 := Int.emod_nonneg z (show (2147483629 : Int) ≠ 0 by decide)
          have h4 := Int.emod_lt_of_pos z (show (0 : Int) < 2147483629 by decide)
          dsimp only
          generalize z % 2147483629 = y at h3 h4 ⊢
          refine ⟨_, rfl, _, rfl, _, _, rfl, rfl, .inl ⟨by decide, by decide⟩, _, _, rfl, rfl, _, _, rfl, rfl, ⟨by decide, by decide, by omega⟩, .inl ⟨_, rfl, _, _, rfl, rfl, (by show (0 : Int) < 2147483579; decide), _, _, rfl, rfl, ⟨by decide, by decide⟩, .inl ⟨_, rfl, _, rfl, _, _, rfl, rfl, (by show (0 : Int) < (n : Int); omega), ?_⟩⟩⟩
          generalize (y + 104917 * ((turn + 1 : Nat) : Int)) ^ (5 : Int).toNat % 2147483579 / 29 = x
          have h5 := Int.emod_nonneg x (show (n : Int) ≠ 0 by omega)
          have h6 := Int.emod_lt_of_pos x (show (0 : Int) < n by omega)
          exact q_int (k (x % (n : Int)).toNat _ (by omega) ⟨_, _, _, _, S3, by omega⟩ kp3) (by omega)
end
end K03
namespace K03
open PySem PySem.Spec PyProof.Rows L2 PySem.W LamX KA
open Evl (pss_cut tCut)
def spPick : Sp := fun vs H Q _ => ∃ (st lg cl a : Addr) (xs : List V) (m : Nat), vs = [.ref st, .ref a] ∧ H a = some (.lst xs) ∧ a ≠ lg ∧ 0 < xs.length ∧ xs.length ≤ 1000 ∧ m ≤ 1000000 ∧ StAt H st lg cl m ∧
  ∀ (x : V) (H' : Hp), x ∈ xs → StAt H' st lg cl (m + 1) → Kp st lg H H' → Q x H'
section
variable {P : Program} {w : World} {K : PySem.W.Frag} {mg : Str → Option Value} {base : Heap} (T : Top K mg)
theorem ok_pick : FnOk P w K mg base (L2.CX P w) 2 T._law_pick.a T._law_pick.d ["state", "several"] spPick := by
  refine T._law_pick.f.okX sc__law_pick (fun vs H Q E h => ?_) (fun cdv A outer s H vs Q E hr h => ?_)
  · obtain ⟨st, lg, cl, a, xs, m, rfl, _⟩ := h
    rfl
  · obtain ⟨st, lg, cl, a, xs, m, rfl, ha, hal, h0, h1, hm, S, k⟩ := h
    have has : a ≠ st := by
      obtain ⟨_, _, _, _, S', _⟩ := S
      exact ne_of ha S'.d (by intro z; cases z)
    refine ⟨_, pss_one (ps_ret (pe_ix ix_list (pv 1) (pe_call (ok_draw T) hr (by rfl) T._law_draw.m T._law_draw.f.kp (bd__law_draw T) .nil passE (pa_cons (pv 0) (pa_cons (pe_callB call_len_seq (by rfl) T.b_len PySem.boot_len (pa_cons (pv 1) pa_nil)) pa_nil))) (fun _ _ => rfl))), ?_⟩
    refine ⟨_, rfl, _, rfl, _, rfl, a, xs, rfl, .inl (SqL.of ha), st, lg, cl, xs.length, m, rfl, h0, ?_, hm, S, fun r H' hr' S' kp => ?_⟩
    · exact Nat.lt_of_le_of_lt h1 (by decide)
    · obtain ⟨x, hx⟩ : ∃ x, xs[r]? = some x := ⟨_, List.getElem?_eq_getElem hr'⟩
      exact ⟨a, xs, _, x, rfl, rfl, SqL.of (kp a _ ha has hal), atI_nat hx, k x H' (List.mem_of_getElem? hx) S' kp⟩
def spBegun (K : PySem.W.Frag) : Sp := fun vs H Q _ => ∃ (a : Addr) (ns : List Int), vs = [.ref a] ∧ SqL K H a (ns.map V.int) ∧ ns.length ≤ 63 ∧
  ∀ (st lg cl : Addr) (H' : Hp), StAt H' st lg cl 0 → Same H H' → H st = none → H lg = none → Q (.ref st) H'
theorem ok_begun : FnOk P w K mg base (L2.CX P w) 1 T._law_begun.a T._law_begun.d ["script"] (spBegun K) := by
  refine T._law_begun.f.okX sc__law_begun (fun vs H Q E h => ?_) (fun cdv A outer s H vs Q E hr h => ?_)
  · obtain ⟨a, ns, rfl, _⟩ := h
    rfl
  · obtain ⟨a, ns, rfl, hS, hl, k⟩ := h
    refine ⟨_, pss_cons (ps_setLc (i := 1) (own := [("cell", 3)]) (g := gName 3) (tt := tYes) rfl sc__law_begun.nd rfl rfl (sw_true rfl rfl rfl (by decide +kernel)) (pi_list (pv 0)) (blkOk_by (own := [("cell", 3)]) (N := ["script", "cells_here", "large", "cell"]) (sc := defScope s__law_begun) (by decide +kernel))
        (fun _ _ _ _ _ => pg_name (i := 3) sc__law_begun.nd rfl (Or.inl rfl)) (fun _ _ _ _ _ => pts_nil) (fun _ _ _ _ _ => pe_callB call_abs (by rfl) T.b_abs (by decide +kernel) (pa_cons (pv 3) pa_nil)))
      (pss_cons (ps_setLc (i := 2) (own := [("cell", 3)]) (g := gName 3) rfl sc__law_begun.nd rfl rfl (sw_true rfl rfl rfl (by decide +kernel)) (pi_list (pv 1)) (blkOk_by (own := [("cell", 3)]) (N := ["script", "cells_here", "large", "cell"]) (sc := defScope s__law_begun) (by decide +kernel))
        (fun _ _ _ _ _ => pg_name (i := 3) sc__law_begun.nd rfl (Or.inl rfl)) (fun _ _ _ _ _ => pts_one (pt_cmpR op_ge (pv 3) (pe_op op_pow pe_int pe_int) (nomark _))) (fun _ _ _ _ _ => pe_op op_sub (pv 3) (pe_op op_pow pe_int pe_int)))
      (pss_one (ps_ret (pe_disp (pps_cons pe_str (pv 2) (pps_cons pe_str (pv 1) (pps_cons pe_str pe_int (pps_cons pe_str pe_int pps_nil)))) (by rfl) (by rfl) (fun z => by cases z) (by decide))))), ?_⟩
    refine ⟨_, rfl, a, rfl, ⟨_, hS⟩, fun cl hcl => lc_list (K := K) (a := a) (xs := ns.map V.int) (fun i H' => H' cl = some (.lst ((ns.take i).map fun n => V.int (if n < 0 then -n else n))) ∧ Same H H') ⟨upd_same, Same.new hcl⟩ (fun i H' _ h => h.2.seq hS) ?_ ?_⟩
    · rintro i x H' hx ⟨h1, h2⟩
      obtain ⟨n, hn, rfl⟩ : ∃ n, ns[i]? = some n ∧ x = V.int n := by
        rw [List.getElem?_map] at hx
        cases e : ns[i]? with
        | none => rw [e] at hx; cases hx
        | some n => rw [e] at hx; exact ⟨n, rfl, (Option.some.inj hx).symm⟩
      refine ⟨rfl, ?_⟩
      dsimp only [tYes]
      rw [if_pos rfl]
      refine ⟨_, rfl, n, rfl, _, h1, ?_, ?_, ?_⟩
      · rw [List.length_map, List.length_take]
        exact Nat.lt_of_le_of_lt (Nat.min_le_right _ _) (Nat.lt_of_le_of_lt hl (by decide))
      · rw [upd_same, take_map_snoc _ _ _ _ hn]
      · intro b o e
        rw [upd_ne (ne_of_none e hcl)]
        exact h2 b o e
    rintro H1 ⟨h1, h2⟩
    rw [List.length_map, List.take_length] at h1
    have h1 : H1 cl = some (.lst ((ns.map fun n => if n < 0 then -n else n).map V.int)) := by rw [h1, List.map_map]; rfl
    have hlc : (ns.map fun n => if n < 0 then -n else n).length ≤ 63 := by rw [List.length_map]; exact hl
    generalize (ns.map fun n => if n < 0 then -n else n) = cells at h1 hlc
    refine ⟨_, rfl, cl, rfl, ⟨_, SqL.of h1⟩, fun lg hlg => lc_list (K := K) (a := cl) (xs := cells.map V.int) (fun i H' => H' lg = some (.lst ((((cells.take i).filter fun c => decide ((1000000000000000000 : Int) ≤ c)).map fun c => c - 1000000000000000000).map V.int)) ∧ Same H1 H') ⟨upd_same, Same.new hlg⟩ (fun i H' _ h => h.2.seq (SqL.of h1)) ?_ ?_⟩
    · rintro i x H' hx ⟨h3, h4⟩
      obtain ⟨n, hn, rfl⟩ : ∃ n, cells[i]? = some n ∧ x = V.int n := by
        rw [List.getElem?_map] at hx
        cases e : cells[i]? with
        | none => rw [e] at hx; cases hx
        | some n => rw [e] at hx; exact ⟨n, rfl, (Option.some.inj hx).symm⟩
      have et : cells.take (i + 1) = cells.take i ++ [n] := by rw [List.take_add_one, hn]; rfl
      refine ⟨rfl, _, rfl, _, _, rfl, rfl, ⟨by decide, by decide, by decide⟩, _, _, rfl, rfl, _, rfl, ?_⟩
      rw [show ((10 : Int) ^ (18 : Int).toNat) = 1000000000000000000 by decide, et, List.filter_append]
      by_cases c : (1000000000000000000 : Int) ≤ n
      · rw [show decide ((1000000000000000000 : Int) ≤ n) = true from decide_eq_true c]
        dsimp only
        rw [if_pos rfl]
        refine ⟨_, rfl, _, _, rfl, rfl, ⟨by decide, by decide, by decide⟩, _, _, rfl, rfl, _, h3, ?_, ?_, ?_⟩
        · rw [List.length_map, List.length_map]
          refine Nat.lt_of_le_of_lt (Nat.le_trans (List.length_filter_le _ _) ?_) (show 63 < sizeLine by decide)
          rw [List.length_take]
          omega
        · rw [upd_same]
          simp [c]
        · intro b o e
          rw [upd_ne (ne_of_none e hlg)]
          exact h4 b o e
      · rw [show decide ((1000000000000000000 : Int) ≤ n) = false from decide_eq_false c]
        dsimp only
        rw [if_neg Bool.false_ne_true]
        refine ⟨?_, h4⟩
        simpa [c] using h3
    rintro H2 ⟨h3, h4⟩
    intro st hst
    refine ⟨_, rfl, _, rfl, upd_same, stKv lg cl 0 0, rfl, (by show 4 ≤ 15; decide), ?_⟩
    rw [st_merge]
    have hne : cl ≠ lg := ne_of_none h1 hlg
    have h5 := h4 cl _ h1
    rw [List.length_map, List.take_length] at h3
    have hp : ∀ x ∈ (cells.filter fun c => decide ((1000000000000000000 : Int) ≤ c)).map (fun c => c - 1000000000000000000), 0 ≤ x := by
      intro x hx
      obtain ⟨c, hc, rfl⟩ := List.mem_map.mp hx
      have := (List.mem_filter.mp hc).2
      simp at this
      omega
    generalize (cells.filter fun c => decide ((1000000000000000000 : Int) ≤ c)).map (fun c => c - 1000000000000000000) = large at h3 hp
    have n1 : lg ≠ st := ne_of_none h3 hst
    have n2 : cl ≠ st := ne_of_none h5 hst
    have same : Same H (upd (upd H2 st (.dK [])) st (.dK (stKv lg cl 0 0))) := fun b o e => by
      have e2 := h4 b o (h2 b o e)
      rw [upd_upd, upd_ne (ne_of_none e2 hst)]
      exact e2
    refine k st lg cl _ ⟨large, cells, 0, 0, ⟨upd_same, ?_, ?_, hne.symm, hp, Int.le_refl _⟩, Nat.le_refl _⟩ same ((h2.trans h4).free hst) (h2.free hlg)
    · rw [upd_upd, upd_ne n1]
      exact h3
    · rw [upd_upd, upd_ne n2]
      exact h5
end
end K03
namespace K03
open PySem PySem.Spec PyProof.Rows L2 PySem.W LamX KA KW KU KL
/-! ### the class of shapes, its error -/
structure BadShapeT (P : Program) (w : World) (K : PySem.W.Frag) (mg : Str → Option Value) (R : Addr) where
  C : Addr
  fI : Addr
  cda : Addr
  cc : Addr
  e : Expr
  g : mg "BadShape" = some (.ref C)
  u : UpTxt P K C fI cda cc "BadShape.__init__" "part" e
  r : PySem.W.subIn K (.ref C) (.ref R) = some true
  x : ExcC K C
  sayN : Text P w fI cda cc "BadShape.__init__" "part" e .none
  sayS : ∀ (y : Str) (t : Tok), y.length ≤ 1000 → Text P w fI cda cc "BadShape.__init__" "part" e (.str y t)
theorem exd_exm {P : Program} {w : World} {K : PySem.W.Frag} {mg : Str → Option Value} (R : ReelT K mg) (S : BadShapeT P w K mg R.C) : PySem.W.exmOne K (.ref S.C) (.ref R.C) = some true := PySem.W.exm_ref R.b R.d R.t S.r
structure ShapeT (K : PySem.W.Frag) (mg : Str → Option Value) where
  C : Addr
  f : Addr
  d : FuncData
  F : Fun K "__init__" "Shape.__init__" s_Shape_init f d
  M : Mk K C f
  g : mg "Shape" = some (.ref C)
  i : C8.InsC K C
  n1 : NoAttr K C "height"
  n2 : NoAttr K C "width"
  n3 : NoAttr K C "low"
  n4 : NoAttr K C "high"
  n5 : NoAttr K C "middle"
  kI : PySem.W.kitOne K (.type "int") (.ref C) = some false
  kS : PySem.W.kitOne K (.type "str") (.ref C) = some false
  kN : PySem.W.kitOne K (.type "NoneType") (.ref C) = some false
def shapeFs (h w lo hi : Int) : List (Str × V) := [("height", .int h), ("width", .int w), ("low", .int lo), ("high", .int hi), ("middle", .int ((lo + hi) / 2))]
/-- x is a shape with the ends lo and hi -/
def ShV (C : Addr) (H : Hp) (x : V) (lo hi : Int) : Prop := ∃ (a dx : Addr) (h w : Int), x = .ref a ∧ H a = some (.ins C dx (shapeFs h w lo hi)) ∧ -512 ≤ lo ∧ lo ≤ hi ∧ hi ≤ 511
theorem ShV.keep {C : Addr} {H H' : Hp} {x : V} {lo hi : Int} (h : ShV C H x lo hi) (e : ∀ a o, x = .ref a → H a = some o → H' a = some o) : ShV C H' x lo hi := by
  obtain ⟨a, dx, h, w, rfl, h1, h2⟩ := h
  exact ⟨a, dx, h, w, rfl, e a _ rfl h1, h2⟩
/-- no shape, and of a kind that isinstance tells -/
inductive OddS : V → Prop where
  | int (i : Int) : OddS (.int i)
  | str (s : Str) : OddS (.str s)
  | non : OddS .non
theorem OddS.ty {K : PySem.W.Frag} {mg : Str → Option Value} {H : Hp} {x : V} (S : ShapeT K mg) (h : OddS x) : ∃ t, TyX K H x t ∧ PySem.W.kitOne K t (.ref S.C) = some false := by
  cases h with
  | int i => exact ⟨_, .base (.int i), S.kI⟩
  | str i => exact ⟨_, .base (.str i), S.kS⟩
  | non => exact ⟨_, .base .non, S.kN⟩
theorem ShV.ty {K : PySem.W.Frag} {mg : Str → Option Value} {H : Hp} {x : V} {lo hi : Int} (S : ShapeT K mg) (h : ShV S.C H x lo hi) : TyX K H x (.ref S.C) := by
  obtain ⟨a, dx, _, _, rfl, h1, _⟩ := h
  exact .base (.ins h1 S.i.cl S.i.ha S.i.hn S.i.htk S.i.hm)
def clipI (lo hi n : Int) : Int := if (if hi < n then hi else n) > lo then (if hi < n then hi else n) else lo
theorem clip_eq {lo hi n : Int} (h : lo ≤ hi) : clipI lo hi n = if n < lo then lo else if hi < n then hi else n := by
  unfold clipI
  split <;> (repeat' split) <;> omega
def levelI (r l : Int) : Int := if 0 ≤ r then ((if r < 0 then -r else r) + l) / (2 * l + 1) else -(((if r < 0 then -r else r) + l) / (2 * l + 1))
section
variable {P : Program} {w : World} {K : PySem.W.Frag} {mg : Str → Option Value} {base : Heap} (T : Top K mg) (SH : ShapeT K mg) (BE : BadShapeT P w K mg T.reel.C)
/-- clipped -/
def spClip : Sp := fun vs H Q _ => ∃ n lo hi : Int, vs = [.int n, .int lo, .int hi] ∧ Q (.int (clipI lo hi n)) H
def spStep : Sp := fun vs H Q _ => ∃ l : Int, vs = [.int l] ∧ 0 ≤ l ∧ l ≤ 1000 ∧ Q (.int (2 * l + 1)) H
def spLevelFor : Sp := fun vs H Q _ => ∃ r l : Int, vs = [.int r, .int l] ∧ 0 ≤ l ∧ l ≤ 1000 ∧ Q (.int (levelI r l)) H
/-- a guess against a shape -/
def spCheckG (C CG : Addr) : Sp := fun vs H Q E => ∃ x y yb lo hi, vs = [x, y] ∧ ShV C H x lo hi ∧ Pl K H y yb ∧ (within y lo hi = true → Q .non H) ∧ (within y lo hi = false → E (.ref CG) none H)
/-- what comes of no shape -/
def noShape (CB : Addr) (H : Hp) (E : XK) : Prop := ∀ d, H d = none → E (.ref CB) (some d) (upd H d (.xd [("part", .non)]))
def spCheckS (C CB : Addr) : Sp := fun vs H Q E => ∃ x, vs = [x] ∧ ((∃ lo hi, ShV C H x lo hi ∧ Q .non H) ∨ (OddS x ∧ noShape CB H E))
theorem ok_check_shape : FnOk P w K mg base (L2.CX P w) 4 T.check_shape.a T.check_shape.d ["shape"] (spCheckS SH.C BE.C) := by
  refine T.check_shape.f.okX sc_check_shape (fun vs H Q E h => ?_) (fun cdv A outer s H vs Q E hr h => ?_)
  · obtain ⟨x, rfl, _⟩ := h
    rfl
  · obtain ⟨x, rfl, h⟩ := h
    refine ⟨_, pss_one (ps_if (pt_not (pt_val (pe_callB call_isi (by rfl) T.b_isinstance PyProof.Rows.boot_isinstance (pa_cons (pv 0) (pa_cons (pe_glob (v := .ref SH.C) (by rfl) SH.g rfl) pa_nil)))))
      (pss_one (ps_raiseUp rfl BE.u BE.g hr (takes_of rfl rfl rfl rfl) (pa_cons pe_non pa_nil) (by rfl))) pss_nil), ?_⟩
    rcases h with ⟨lo, hi, hs, k⟩ | ⟨ho, k⟩
    · exact ⟨_, rfl, x, _, _, _, true, rfl, .own _, hs.ty SH, SH.i.me, _, rfl, iteF k⟩
    · obtain ⟨t, ht, hk⟩ := ho.ty (H := H) SH
      refine ⟨_, rfl, x, _, _, _, false, rfl, .own _, ht, hk, _, rfl, iteT ⟨_, rfl, fun v' r => ?_, k⟩⟩
      cases r
      exact BE.sayN
end
end K03
namespace K03
open PySem PySem.Spec PyProof.Rows L2 PySem.W LamX KA KW KU KL
open Evl (pss_cut tCut)
/-! ### the law's scope: a dict of sides and ends -/
abbrev kTall : Key := Sum.inr "tall"
abbrev kWide : Key := Sum.inr "wide"
abbrev kLeast : Key := Sum.inr "least"
abbrev kMost : Key := Sum.inr "most"
def scKv (t w lo hi : Int) : List (Key × V) := [(kTall, .int t), (kWide, .int w), (kLeast, .int lo), (kMost, .int hi)]
section
variable {t w lo hi : Int}
theorem kTW : ¬ kTall = kWide := by decide +kernel
theorem kTL : ¬ kTall = kLeast := by decide +kernel
theorem kTM : ¬ kTall = kMost := by decide +kernel
theorem kWL : ¬ kWide = kLeast := by decide +kernel
theorem kWM : ¬ kWide = kMost := by decide +kernel
theorem kLM : ¬ kLeast = kMost := by decide +kernel
theorem sc_tall : valV (scKv t w lo hi) kTall = some (.int t) := valV_pos rfl
theorem sc_wide : valV (scKv t w lo hi) kWide = some (.int w) := (valV_neg kTW).trans (valV_pos rfl)
theorem sc_least : valV (scKv t w lo hi) kLeast = some (.int lo) := (valV_neg kTL).trans ((valV_neg kWL).trans (valV_pos rfl))
theorem sc_most : valV (scKv t w lo hi) kMost = some (.int hi) := (valV_neg kTM).trans ((valV_neg kWM).trans ((valV_neg kLM).trans (valV_pos rfl)))
theorem sc_merge : mergeK [] (scKv t w lo hi) = scKv t w lo hi := by
  unfold scKv mergeK
  simp only [List.foldl_cons, List.foldl_nil]
  rw [putK_new (kvs := []) _ valV_nil, List.nil_append]
  rw [putK_new (k := kWide) _ ((valV_neg (show ¬ kTall = kWide from kTW)).trans valV_nil), List.cons_append, List.nil_append]
  rw [putK_new (k := kLeast) _ ((valV_neg (show ¬ kTall = kLeast from kTL)).trans ((valV_neg (show ¬ kWide = kLeast from kWL)).trans valV_nil)), List.cons_append, List.cons_append, List.nil_append]
  rw [putK_new (k := kMost) _ ((valV_neg (show ¬ kTall = kMost from kTM)).trans ((valV_neg (show ¬ kWide = kMost from kWM)).trans ((valV_neg (show ¬ kLeast = kMost from kLM)).trans valV_nil)))]
  rfl
end
/-- x is such a dict -/
structure ScV (H : Hp) (a : Addr) (t w lo hi : Int) : Prop where
  d : H a = some (.dK (scKv t w lo hi))
  t1 : 1 ≤ t
  t2 : t ≤ 16
  w1 : 1 ≤ w
  w2 : w ≤ 16
  l1 : -512 ≤ lo
  l2 : lo ≤ hi
  l3 : hi ≤ 511
theorem ScV.keep {H H' : Hp} {a : Addr} {t w lo hi : Int} (h : ScV H a t w lo hi) (e : ∀ o, H a = some o → H' a = some o) : ScV H' a t w lo hi := { h with d := e _ h.d }
def withI (lo hi n : Int) : Int := if hi < (if lo > n then lo else n) then hi else (if lo > n then lo else n)
theorem with_eq {lo hi n : Int} (h : lo ≤ hi) : withI lo hi n = if n < lo then lo else if hi < n then hi else n := by
  unfold withI
  split <;> (repeat' split) <;> omega
section
variable {P : Program} {w : World} {K : PySem.W.Frag} {mg : Str → Option Value} {base : Heap} (T : Top K mg) (SH : ShapeT K mg) (BE : BadShapeT P w K mg T.reel.C)
def spWithinL : Sp := fun vs H Q _ => ∃ (a : Addr) (t w lo hi n : Int), vs = [.ref a, .int n] ∧ ScV H a t w lo hi ∧ Q (.int (withI lo hi n)) H
theorem ok_lwithin : FnOk P w K mg base (L2.CX P w) 1 T._law_within.a T._law_within.d ["scope", "item"] spWithinL := by
  refine T._law_within.f.okX sc__law_within (fun vs H Q E h => ?_) (fun cdv A outer s H vs Q E hr h => ?_)
  · obtain ⟨a, t, w, lo, hi, n, rfl, _⟩ := h
    rfl
  · obtain ⟨a, t, w, lo, hi, n, rfl, h, k⟩ := h
    have hu := hu_of hr
    refine ⟨_, pss_one (ps_ret (pe_callB (call_min2 rfl) (by rfl) T.b_min PyProof.Rows.boot_min (pa_cons (pe_callB (call_max2 rfl) (by rfl) T.b_max PyProof.Rows.boot_max (pa_cons (pv 1) (pa_cons (pe_dget hu (pv 0) pe_str (fun _ _ => rfl)) pa_nil))) (pa_cons (pe_dget hu (pv 0) pe_str (fun _ _ => rfl)) pa_nil)))), ?_⟩
    exact ⟨_, rfl, _, rfl, a, _, rfl, (show DGet H a (kV kLeast) _ from sc_least ▸ DGet.k h.d), _, _, rfl, _, rfl, a, _, rfl, (show DGet H a (kV kMost) _ from sc_most ▸ DGet.k h.d), _, _, rfl, k⟩
def spGrain : Sp := fun vs H Q _ => ∃ (st lg cl a : Addr) (t w lo hi : Int) (m : Nat), vs = [.ref st, .ref a] ∧ ScV H a t w lo hi ∧ m ≤ 990000 ∧ StAt H st lg cl m ∧
  ∀ (i : Int) (H' : Hp), lo ≤ i → i ≤ hi → StAt H' st lg cl (m + 1) → Kp st lg H H' → Q (.int i) H'
theorem ok_grain : FnOk P w K mg base (L2.CX P w) 2 T._law_grain.a T._law_grain.d ["state", "scope"] spGrain := by
  refine T._law_grain.f.okX sc__law_grain (fun vs H Q E h => ?_) (fun cdv A outer s H vs Q E hr h => ?_)
  · obtain ⟨st, lg, cl, a, t, w, lo, hi, m, rfl, _⟩ := h
    rfl
  · obtain ⟨st, lg, cl, a, t, w, lo, hi, m, rfl, h, hm, S, k⟩ := h
    have hu := hu_of hr
    have b1 := h.l1
    have b2 := h.l2
    have b3 := h.l3
    refine ⟨_, pss_one (ps_ret (pe_op op_add (pe_dget hu (pv 1) pe_str (fun _ _ => rfl)) (pe_call (ok_draw T) hr (by rfl) T._law_draw.m T._law_draw.f.kp (bd__law_draw T) .nil passE (pa_cons (pv 0) (pa_cons (pe_op op_add (pe_op op_sub (pe_dget hu (pv 1) pe_str (fun _ _ => rfl)) (pe_dget hu (pv 1) pe_str (fun _ _ => rfl))) pe_int) pa_nil))))), ?_⟩
    obtain ⟨n, hn⟩ : ∃ n : Nat, hi - lo + 1 = n := ⟨(hi - lo + 1).toNat, by omega⟩
    refine ⟨_, rfl, a, _, rfl, (show DGet H a (kV kLeast) _ from sc_least ▸ DGet.k h.d), _, rfl, _, rfl, a, _, rfl, (show DGet H a (kV kMost) _ from sc_most ▸ DGet.k h.d), _, rfl, a, _, rfl, (show DGet H a (kV kLeast) _ from sc_least ▸ DGet.k h.d), _, _, rfl, rfl, _, _, rfl, rfl, ?_⟩
    exact ⟨st, lg, cl, n, m, (by show [V.ref st, V.int (hi - lo + 1)] = _; rw [hn]), by omega, Nat.lt_of_le_of_lt (show n ≤ 1024 by omega) (by decide), by omega, S, fun r H' hr' S' kp => ⟨_, _, rfl, rfl, k _ H' (by omega) (by omega) S' kp⟩⟩
def spLLevel : Sp := fun vs H Q _ => ∃ r l : Int, vs = [.int r, .int l] ∧ 0 ≤ l ∧ l ≤ 1000 ∧ Q (.int (levelI r l)) H
def spBuilt : Sp := fun vs H Q _ => ∃ (a : Addr) (t w lo hi g n l : Int), vs = [.ref a, .int g, .int n, .int l] ∧ ScV H a t w lo hi ∧ 0 ≤ l ∧ l ≤ 1000 ∧ Q (.int (withI lo hi (g + n * (2 * l + 1)))) H
/-- a shape by the scope -/
def spForm (C : Addr) : Sp := fun vs H Q _ => ∃ (a : Addr) (t w lo hi : Int), vs = [.ref a] ∧ ScV H a t w lo hi ∧ ∀ (x : Addr) (H' : Hp), ShV C H' (.ref x) lo hi → H x = none → Same H H' → (∀ tb, H' x ≠ some (.tbl tb)) → Q (.ref x) H'
include BE in
end
end K03
namespace K03
open PySem PySem.Spec PyProof.Rows L2 PySem.W LamX KA KW KU KL
open Evl (pss_cut tCut)
/-! ### pairs of whole numbers in a list display -/
def tPairs0 : List (Int × Int) → TA
  | [] => tNil
  | c :: r => tCons (tTup (tCons (tC (.int c.1)) (tCons (tC (.int c.2)) tNil))) (tPairs0 r)
/-- the same, kept shut: what it is only these two rows tell -/
structure Shut where
  t : List (Int × Int) → TA
  nil : t [] = tNil
  cons : ∀ c r, t (c :: r) = tCons (tTup (tCons (tC (.int c.1)) (tCons (tC (.int c.2)) tNil))) (t r)
theorem shut_ex : Nonempty Shut := ⟨⟨tPairs0, rfl, fun _ _ => rfl⟩⟩
noncomputable def shut : Shut := Classical.choice shut_ex
noncomputable abbrev tPairs (l : List (Int × Int)) : TA := shut.t l
theorem pairs_read : ∀ (l : List (Int × Int)) (σ : L2.St) (H : Hp) (Q : List V → Hp → Prop), (∀ (ps : List Addr) (H' : Hp), Same H H' → ps.length = l.length → (∀ p ∈ ps, ∃ c ∈ l, H' p = some (.tup [.int c.1, .int c.2])) → Q (ps.map V.ref) H') → tPairs l σ H Q
  | [], σ, H, Q, k => by
    show shut.t [] σ H Q
    rw [shut.nil]
    exact k [] H (fun _ _ e => e) rfl fun p hp => nomatch hp
  | c :: r, σ, H, Q, k => by
    show shut.t (c :: r) σ H Q
    rw [shut.cons]
    refine ⟨(by show 2 ≤ sizeLine; decide), fun p hp => pairs_read r σ _ _ fun ps H' s hl h => k (p :: ps) H' ((Same.new hp).trans s) (by simp [hl]) fun q hq => ?_⟩
    rcases List.mem_cons.mp hq with e | e
    · subst e
      exact ⟨c, List.mem_cons_self, s _ _ upd_same⟩
    · obtain ⟨c', h1, h2⟩ := h q e
      exact ⟨c', List.mem_cons_of_mem _ h1, h2⟩
theorem pa_pair0 {X : Cx} : PA X [] (tPairs []) := by
  show PA X [] (shut.t [])
  rw [shut.nil]
  exact pa_nil
theorem pa_pair {X : Cx} {e : Expr} {es : List Expr} {a b : Int} {l : List (Int × Int)} (he : PE X e (tTup (tCons (tC (.int a)) (tCons (tC (.int b)) tNil)))) (h : PA X es (tPairs l)) (hs : starEach (e :: es) X.env = (false, eval e X.env) :: starEach es X.env := by rfl) : PA X (e :: es) (tPairs ((a, b) :: l)) := by
  show PA X (e :: es) (shut.t ((a, b) :: l))
  rw [shut.cons]
  exact pa_cons he h hs
section
variable {P : Program} {w : World} {K : PySem.W.Frag} {mg : Str → Option Value} {base : Heap} (T : Top K mg)
def spScope : Sp := fun vs H Q _ => ∃ (st lg cl : Addr) (m : Nat), vs = [.ref st] ∧ m ≤ 990000 ∧ StAt H st lg cl m ∧
  ∀ (a : Addr) (t w lo hi : Int) (H' : Hp), ScV H' a t w lo hi → a ≠ st → a ≠ lg → StAt H' st lg cl (m + 4) → Kp st lg H H' → Q (.ref a) H'
theorem ok_scope : FnOk P w K mg base (L2.CX P w) 3 T._law_scope.a T._law_scope.d ["state"] spScope := by
  refine T._law_scope.f.okX sc__law_scope (fun vs H Q E h => ?_) (fun cdv A outer s H vs Q E hr h => ?_)
  · obtain ⟨st, lg, cl, m, rfl, _⟩ := h
    rfl
  · obtain ⟨st, lg, cl, m, rfl, hm, S, k⟩ := h
    refine ⟨_, pss_cons (ps_set (i := 1) sc__law_scope.nd rfl (.inl rfl) (pe_lst (pa_pair (pe_tup (pa_cons pe_int (pa_cons pe_int pa_nil))) (pa_pair (pe_tup (pa_cons pe_int (pa_cons pe_int pa_nil))) (pa_pair (pe_tup (pa_cons pe_int (pa_cons pe_int pa_nil))) (pa_pair (pe_tup (pa_cons pe_int (pa_cons pe_int pa_nil))) (pa_pair (pe_tup (pa_cons pe_int (pa_cons pe_int pa_nil))) (pa_pair (pe_tup (pa_cons pe_int (pa_cons pe_int pa_nil))) (pa_pair (pe_tup (pa_cons pe_int (pa_cons pe_int pa_nil))) (pa_pair (pe_tup (pa_cons pe_int (pa_cons pe_int pa_nil))) (pa_pair (pe_tup (pa_cons pe_int (pa_cons pe_int pa_nil))) (pa_pair (pe_tup (pa_cons pe_int (pa_cons pe_int pa_nil))) (pa_pair (pe_tup (pa_cons pe_int (pa_cons pe_int pa_nil))) pa_pair0)))))))))))))
      (pss_cut (ps_set (i := 1) sc__law_scope.nd rfl (.inl rfl) (pe_ifExp (pt_cmpR op_gt (pe_call (ok_draw T) (hr.mono (by decide)) (by rfl) T._law_draw.m T._law_draw.f.kp (bd__law_draw T) .nil passE (pa_cons (pv 0) (pa_cons pe_int pa_nil))) pe_int (nomark _)) (pv 1) (pe_lst (pa_pair (pe_tup (pa_cons pe_int (pa_cons pe_int pa_nil))) (pa_pair (pe_tup (pa_cons pe_int (pa_cons pe_int pa_nil))) (pa_pair (pe_tup (pa_cons pe_int (pa_cons pe_int pa_nil))) (pa_pair (pe_tup (pa_cons pe_int (pa_cons pe_int pa_nil))) pa_pair0)))))))
      (pss_cons (ps_asg (pe_call (ok_pick T) (hr.mono (by decide)) (by rfl) T._law_pick.m T._law_pick.f.kp (bd__law_pick T) .nil passE (pa_cons (pv 0) (pa_cons (pv 1) pa_nil))) (pg_tup rfl (pgs_cons (pg_name (i := 2) sc__law_scope.nd rfl (.inl rfl)) (pgs_cons (pg_name (i := 3) sc__law_scope.nd rfl (.inl rfl)) pgs_nil))))
      (pss_cons (ps_set (i := 4) sc__law_scope.nd rfl (.inl rfl) (pe_call (ok_pick T) (hr.mono (by decide)) (by rfl) T._law_pick.m T._law_pick.f.kp (bd__law_pick T) .nil passE (pa_cons (pv 0) (pa_cons (pe_lst (pa_cons pe_int (pa_cons pe_int (pa_cons pe_int (pa_cons (pe_un un_neg pe_int) (pa_cons (pe_un un_neg pe_int) (pa_cons pe_int pa_nil))))))) pa_nil))))
      (pss_cons (ps_set (i := 5) sc__law_scope.nd rfl (.inl rfl) (pe_callB (call_min2 rfl) (by rfl) T.b_min PyProof.Rows.boot_min (pa_cons pe_int (pa_cons (pe_op op_add (pv 4) (pe_call (ok_pick T) (hr.mono (by decide)) (by rfl) T._law_pick.m T._law_pick.f.kp (bd__law_pick T) .nil passE (pa_cons (pv 0) (pa_cons (pe_lst (pa_cons pe_int (pa_cons pe_int (pa_cons pe_int (pa_cons pe_int (pa_cons pe_int (pa_cons pe_int (pa_cons pe_int pa_nil)))))))) pa_nil)))) pa_nil))))
      (pss_one (ps_ret (pe_disp (pps_cons pe_str (pv 2) (pps_cons pe_str (pv 3) (pps_cons pe_str (pv 4) (pps_cons pe_str (pv 5) pps_nil)))) (by rfl) (by rfl) (fun z => by cases z) (by decide)))))))), ?_⟩
    have ok1 : ∀ c ∈ [(1, 1), (2, 2), (2, 3), (3, 2), (4, 4), (1, 5), (5, 1), (3, 4), (2, 6), (5, 6), (9, 2)] ++ [(2, 10), (3, 16), (8, 8), (10, 9)], (1 : Int) ≤ c.1 ∧ c.1 ≤ 16 ∧ (1 : Int) ≤ c.2 ∧ c.2 ≤ 16 := by decide
    refine pairs_read [(1, 1), (2, 2), (2, 3), (3, 2), (4, 4), (1, 5), (5, 1), (3, 4), (2, 6), (5, 6), (9, 2)] _ H _ fun ps H1 s1 hl1 hp1 => ⟨?_, fun b hb => ?_⟩
    · rw [List.length_map, hl1]
      decide
    have S1 := (S.same s1).same (Same.new (o := .lst (ps.map V.ref)) hb)
    have kp1 : Kp st lg H (upd H1 b (.lst (ps.map V.ref))) := (Kp.same s1).trans (Kp.same (Same.new hb))
    have hp1 : ∀ p ∈ ps, ∃ c ∈ [(1, 1), (2, 2), (2, 3), (3, 2), (4, 4), (1, 5), (5, 1), (3, 4), (2, 6), (5, 6), (9, 2)] ++ [(2, 10), (3, 16), (8, 8), (10, 9)], (upd H1 b (.lst (ps.map V.ref))) p = some (.tup [V.int c.1, .int c.2]) := fun p hp => by
      obtain ⟨c, h1, h2⟩ := hp1 p hp
      exact ⟨c, List.mem_append_left _ h1, (Same.new hb) _ _ h2⟩
    have hb1 : (upd H1 b (.lst (ps.map V.ref))) b = some (.lst (ps.map V.ref)) := upd_same
    have nb := (S.same s1).off hb
    have lp : 0 < ps.length ∧ ps.length ≤ 11 := by
      rw [hl1]
      decide
    generalize upd H1 b (.lst (ps.map V.ref)) = H2 at S1 kp1 hp1 hb1 ⊢
    clear hb s1 hl1
    refine ⟨fun σ' H' => ∃ (b : Addr) (ps : List Addr), σ' = [some (.ref st), some (.ref b), none, none, none, none] ∧ StAt H' st lg cl (m + 1) ∧ Kp st lg H H' ∧ (∀ p ∈ ps, ∃ c ∈ [(1, 1), (2, 2), (2, 3), (3, 2), (4, 4), (1, 5), (5, 1), (3, 4), (2, 6), (5, 6), (9, 2)] ++ [(2, 10), (3, 16), (8, 8), (10, 9)], H' p = some (.tup [V.int c.1, .int c.2])) ∧ H' b = some (.lst (ps.map V.ref)) ∧ (b ≠ st ∧ b ≠ lg) ∧ 0 < ps.length ∧ ps.length ≤ 11, ?_, ?_⟩
    · refine ⟨_, rfl, st, lg, cl, 6, m, rfl, by decide, by decide, by omega, S1, fun r H3 hr3 S3 kp3 => ⟨_, _, rfl, rfl, _, rfl, ?_⟩⟩
      by_cases c : (0 : Int) < (r : Nat)
      · rw [decide_eq_true c]
        refine iteT ⟨_, rfl, b, ps, rfl, S3, kp1.trans kp3, fun p hp => ?_, kp3 _ _ hb1 nb.1 nb.2, nb, lp⟩
        obtain ⟨c, h1, h2⟩ := hp1 p hp
        have off : p ≠ st ∧ p ≠ lg := by
          obtain ⟨_, _, _, _, S', _⟩ := S1
          exact ⟨ne_of h2 S'.d (by intro z; cases z), ne_of h2 S'.l (by intro z; cases z)⟩
        exact ⟨c, h1, kp3 _ _ h2 off.1 off.2⟩
      · rw [decide_eq_false c]
        refine iteF (pairs_read [(2, 10), (3, 16), (8, 8), (10, 9)] _ H3 _ fun ps2 H4 s4 hl2 hp2 => ⟨?_, fun b2 hb2 => ⟨b2, ps2, rfl, (S3.same s4).same (Same.new hb2), ((kp1.trans kp3).trans (Kp.same s4)).trans (Kp.same (Same.new hb2)), fun p hp => ?_, upd_same, (S3.same s4).off hb2, ?_⟩⟩)
        · rw [List.length_map, hl2]
          decide
        · obtain ⟨c, h1, h2⟩ := hp2 p hp
          exact ⟨c, List.mem_append_right _ h1, (Same.new hb2) _ _ h2⟩
        · rw [hl2]
          decide
    clear S1 kp1 hp1 hb1 nb lp H2
    rintro σ H2 ⟨b, ps, rfl, S2, kp2, hp2, hb2, nb, lp1, lp2⟩
    -- tall, wide
    refine ⟨_, rfl, _, rfl, st, lg, cl, b, _, m + 1, rfl, hb2, nb.2, ?_, ?_, by omega, S2, fun x H3 hx S3 kp3 => ?_⟩
    · rw [List.length_map]
      exact lp1
    · rw [List.length_map]
      omega
    obtain ⟨p, hp, rfl⟩ := List.mem_map.mp hx
    obtain ⟨c, hc, h3⟩ := hp2 p hp
    obtain ⟨c1, c2, c3, c4⟩ := ok1 c hc
    have off : p ≠ st ∧ p ≠ lg := by
      obtain ⟨_, _, _, _, S', _⟩ := S2
      exact ⟨ne_of h3 S'.d (by intro z; cases z), ne_of h3 S'.l (by intro z; cases z)⟩
    have h4 := kp3 _ _ h3 off.1 off.2
    have kpA := kp2.trans kp3
    refine ⟨p, _, rfl, SqT.of h4, rfl, _, _, rfl, _, _, rfl, rfl, ?_⟩
    -- least
    refine ⟨_, rfl, _, rfl, _, rfl, (by show 6 ≤ sizeLine; decide), fun q hq => ⟨st, lg, cl, q, _, m + 2, rfl, upd_same, (S3.off hq).2, (by show 0 < 6; decide), (by show 6 ≤ 1000; decide), by omega, S3.same (Same.new hq), fun x H4 hx4 S4 kp4 => ?_⟩⟩
    obtain ⟨lo, rfl, lo1, lo2⟩ : ∃ lo : Int, x = .int lo ∧ -512 ≤ lo ∧ lo ≤ 3 := by
      simp only [List.mem_cons, List.not_mem_nil, or_false] at hx4
      rcases hx4 with h | h | h | h | h | h <;> exact ⟨_, h, by decide, by decide⟩
    have kpB := (kpA.trans (Kp.same (Same.new hq))).trans kp4
    -- most
    refine ⟨_, rfl, _, rfl, (by show 7 ≤ sizeLine; decide), fun q2 hq2 => ⟨st, lg, cl, q2, _, m + 3, rfl, upd_same, (S4.off hq2).2, (by show 0 < 7; decide), (by show 7 ≤ 1000; decide), by omega, S4.same (Same.new hq2), fun y H5 hx5 S5 kp5 => ?_⟩⟩
    obtain ⟨d, rfl, d1, d2⟩ : ∃ d : Int, y = .int d ∧ 0 ≤ d ∧ d ≤ 1023 := by
      simp only [List.mem_cons, List.not_mem_nil, or_false] at hx5
      rcases hx5 with h | h | h | h | h | h | h <;> exact ⟨_, h, by decide, by decide⟩
    have kpC := (kpB.trans (Kp.same (Same.new hq2))).trans kp5
    refine ⟨_, _, rfl, rfl, _, _, rfl, ?_⟩
    generalize hmost : (if lo + d < 511 then lo + d else (511 : Int)) = hi
    have hi1 : lo ≤ hi ∧ hi ≤ 511 := by
      rw [← hmost]
      split <;> omega
    -- the dict
    intro dt hdt
    refine ⟨_, rfl, _, rfl, _, rfl, _, rfl, upd_same, scKv c.1 c.2 lo hi, rfl, (by show 4 ≤ 15; decide), ?_⟩
    rw [sc_merge]
    have sm : Same H5 (upd (upd H5 dt (.dK [])) dt (.dK (scKv c.1 c.2 lo hi))) := fun b o e => by
      rw [upd_upd, upd_ne (ne_of_none e hdt)]
      exact e
    have nd := S5.off hdt
    exact k dt c.1 c.2 lo hi _ ⟨upd_same, c1, c2, c3, c4, lo1, hi1.1, hi1.2⟩ nd.1 nd.2 (S5.same sm) (kpC.trans (Kp.same sm))
end
end K03
namespace KT
open PySem PySem.Spec PyProof.Rows L2 PySem.W LamX KA KW
/-! ### min(t), max(t) of a tuple of ints; t[::-1]; t * n, n from 1 on -/
theorem alike_ints (ns : List Int) : AlikeAll (ns.map PyData.int) := by
  refine ⟨fun x hx y hy => ?_, fun x hx => ?_⟩
  · obtain ⟨i, _, rfl⟩ := List.mem_map.mp hx
    obtain ⟨j, _, rfl⟩ := List.mem_map.mp hy
    simp [alike]
  · obtain ⟨i, _, rfl⟩ := List.mem_map.mp hx
    exact fun z => by cases z
theorem dp_ints {K : PySem.W.Frag} {H : Hp} : ∀ ns : List Int, DpAll K H (ns.map V.int) (ns.map PyData.int)
  | [] => .nil
  | i :: ns => .cons (.int i) (dp_ints ns)
theorem depth_ints : ∀ ns : List Int, PyData.depthAll (ns.map PyData.int) ≤ 1
  | [] => by simp [PyData.depthAll]
  | i :: ns => by
    have := depth_ints ns
    simp only [List.map_cons, PyData.depthAll, PyData.depth]
    omega
theorem reads_int {h : Heap} {v : Value} {i : Int} {as : List Addr} (r : Reads h v (.int i) as) : ∃ t, v = .int i t := by
  cases r
  exact ⟨_, rfl⟩
theorem foldl_min_mem (n : Int) : ∀ ns : List Int, ns.foldl min n ∈ n :: ns := by
  intro ns
  induction ns generalizing n with
  | nil => simp
  | cons k r ih =>
    rw [List.foldl_cons]
    rcases List.mem_cons.mp (ih (min n k)) with e | e
    · rw [e]
      rcases Int.le_total n k with h | h
      · rw [Int.min_eq_left h]; exact List.mem_cons_self
      · rw [Int.min_eq_right h]; exact List.mem_cons_of_mem _ List.mem_cons_self
    · exact List.mem_cons_of_mem _ (List.mem_cons_of_mem _ e)
theorem foldl_min_le (n : Int) : ∀ (ns : List Int) (y : Int), y ∈ n :: ns → ns.foldl min n ≤ y := by
  intro ns
  induction ns generalizing n with
  | nil => intro y hy; simp at hy; subst hy; exact Int.le_refl _
  | cons k r ih =>
    intro y hy
    rw [List.foldl_cons]
    have h0 := ih (min n k) (min n k) List.mem_cons_self
    rcases List.mem_cons.mp hy with e | e
    · subst e; omega
    · rcases List.mem_cons.mp e with e | e
      · subst e; omega
      · exact ih (min n k) y (List.mem_cons_of_mem _ e)
theorem foldl_max_mem (n : Int) : ∀ ns : List Int, ns.foldl max n ∈ n :: ns := by
  intro ns
  induction ns generalizing n with
  | nil => simp
  | cons k r ih =>
    rw [List.foldl_cons]
    rcases List.mem_cons.mp (ih (max n k)) with e | e
    · rw [e]
      rcases Int.le_total n k with h | h
      · rw [Int.max_eq_right h]; exact List.mem_cons_of_mem _ List.mem_cons_self
      · rw [Int.max_eq_left h]; exact List.mem_cons_self
    · exact List.mem_cons_of_mem _ (List.mem_cons_of_mem _ e)
theorem foldl_max_ge (n : Int) : ∀ (ns : List Int) (y : Int), y ∈ n :: ns → y ≤ ns.foldl max n := by
  intro ns
  induction ns generalizing n with
  | nil => intro y hy; simp at hy; subst hy; exact Int.le_refl _
  | cons k r ih =>
    intro y hy
    rw [List.foldl_cons]
    have h0 := ih (max n k) (max n k) List.mem_cons_self
    rcases List.mem_cons.mp hy with e | e
    · subst e; omega
    · rcases List.mem_cons.mp e with e | e
      · subst e; omega
      · exact ih (max n k) y (List.mem_cons_of_mem _ e)
def rMinT (K : PySem.W.Frag) : List V → Hp → VK → Prop := fun vs H Q => ∃ (a : Addr) (ns : List Int), vs = [V.ref a] ∧ SqT K H a (ns.map V.int) ∧ 0 < ns.length ∧ ∀ m, m ∈ ns → (∀ y, y ∈ ns → m ≤ y) → Q (.int m) H
def rMaxT (K : PySem.W.Frag) : List V → Hp → VK → Prop := fun vs H Q => ∃ (a : Addr) (ns : List Int), vs = [V.ref a] ∧ SqT K H a (ns.map V.int) ∧ 0 < ns.length ∧ ∀ m, m ∈ ns → (∀ y, y ∈ ns → y ≤ m) → Q (.int m) H
section
variable {X : Cx}
theorem cr_minT (hc : X.calm = true) (hu : X.A.units + 2 < cLine) : CallR X (.builtin "min") (rMinT X.K) := by
  intro pins s σ H vs us Q I r h
  obtain ⟨a, ns, rfl, hs, hne, q⟩ := h
  obtain ⟨its, rv, hl, _⟩ := I.tuple hs
  rw [Vals.ref1 r]
  cases ns with
  | nil => cases hne
  | cons n ns =>
    obtain ⟨as, hr⟩ := Dp.readsAll I _ _ its (dp_ints (n :: ns)) rv
    refine min_tuple_data (x := .int n) (xs := ns.map .int) (I.ok.hd hc) hl hr (alike_ints (n :: ns)) ?_ fun i v h' tk bs _ rd hk => ?_
    · have := depth_ints (n :: ns)
      rw [List.map_cons] at this
      omega
    · rw [minD_ints] at rd
      obtain ⟨t, rfl⟩ := reads_int rd
      exact ⟨.int _, H, I.kept hk, ⟨_, rfl⟩, q _ (foldl_min_mem n ns) (foldl_min_le n ns)⟩
theorem cr_maxT (hc : X.calm = true) (hu : X.A.units + 2 < cLine) : CallR X (.builtin "max") (rMaxT X.K) := by
  intro pins s σ H vs us Q I r h
  obtain ⟨a, ns, rfl, hs, hne, q⟩ := h
  obtain ⟨its, rv, hl, _⟩ := I.tuple hs
  rw [Vals.ref1 r]
  cases ns with
  | nil => cases hne
  | cons n ns =>
    obtain ⟨as, hr⟩ := Dp.readsAll I _ _ its (dp_ints (n :: ns)) rv
    refine max_tuple_data (x := .int n) (xs := ns.map .int) (I.ok.hd hc) hl hr (alike_ints (n :: ns)) ?_ fun i v h' tk bs _ rd hk => ?_
    · have := depth_ints (n :: ns)
      rw [List.map_cons] at this
      omega
    · rw [maxD_ints] at rd
      obtain ⟨t, rfl⟩ := reads_int rd
      exact ⟨.int _, H, I.kept hk, ⟨_, rfl⟩, q _ (foldl_max_mem n ns) (foldl_max_ge n ns)⟩
/-- one call name, either a list or a tuple -/
def rOrC (r r' : List V → Hp → VK → Prop) : List V → Hp → VK → Prop := fun vs H Q => r vs H Q ∨ r' vs H Q
theorem cr_or {f : Value} {r r' : List V → Hp → VK → Prop} (h : CallR X f r) (h' : CallR X f r') : CallR X f (rOrC r r') := fun pins s σ H vs us Q I rv q => q.elim (h pins s σ H vs us Q I rv) (h' pins s σ H vs us Q I rv)
end
section
variable {prog : Program} {w : World} {A : Around} {E : Value → Shared → Prop} {s : Shared}
theorem adjust_rev (n : Nat) : Builtin.Slice.sliceAdjust none none (-1) (n : Int) = ((n : Int) - 1, -1) := rfl
theorem places_rev (n : Nat) : Builtin.Slice.slicePlaces ((n : Int) - 1) (-1) (-1) = n := by
  unfold Builtin.Slice.slicePlaces
  have h1 : ¬ ((-1 : Int) > 0) := by omega
  have h2 : (- -1 : Int) = 1 := by decide
  simp only [h1, if_false, h2, Int.ediv_one]
  split <;> omega
theorem sliceApplied_rev {sl : Addr} {vl vu vs : Value} {n : Nat} {Q : Int × Int × Nat → Shared → Prop} (hs : s.heap.IsSliceOf sl vl vu vs) (pl : IsPart vl none) (pu : IsPart vu none) (ps : IsPart vs (some (-1)))
    (h : Q ((n : Int) - 1, -1, n) s) : wpAny (model prog w) A (Builtin.Slice.sliceApplied (.ref sl) (pure (n : Int))) Q E s := by
  obtain ⟨os, hos, hcs, hds⟩ := id hs
  unfold Builtin.Slice.sliceApplied Builtin.Slice.sliceFields
  refine wpAny_bind (wpAny_bind (wpAny_field hos hds (x := vl) rfl (wpAny_bind (wpAny_field hos hds (x := vu) rfl (wpAny_bind (wpAny_field hos hds (x := vs) rfl (wpAny_pure ?_)))))))
  refine wpAny_bind (HT.slicePart_ ps ?_)
  show wpAny _ _ (if ((-1 : Int) == 0) = true then _ else _) _ _ s
  rw [if_neg (by decide)]
  refine wpAny_bind (HT.slicePart_ pl (wpAny_bind (HT.slicePart_ pu (wpAny_bind (wpAny_pure ?_)))))
  show wpAny _ _ (match Builtin.Slice.sliceAdjust none none (-1) (n : Int) with | (lo, hi) => pure (lo, (-1 : Int), Builtin.Slice.slicePlaces lo hi (-1))) _ _ s
  rw [adjust_rev n]
  show wpAny _ _ (pure ((n : Int) - 1, (-1 : Int), Builtin.Slice.slicePlaces ((n : Int) - 1) (-1) (-1))) _ _ s
  rw [places_rev]
  exact wpAny_pure h
theorem fm_congr {α β : Type} {f g : α → Option β} : ∀ {l : List α}, (∀ x, x ∈ l → f x = g x) → l.filterMap f = l.filterMap g
  | [], _ => rfl
  | x :: l, h => by
    have ih := fm_congr (l := l) fun y hy => h y (List.mem_cons_of_mem _ hy)
    rw [List.filterMap_cons, List.filterMap_cons, h x List.mem_cons_self, ih]
theorem pick_rev (xs : Array Value) : ((List.range xs.size).filterMap fun (m : Nat) => xs[(((xs.size : Int) - 1) + (m : Int) * (-1)).toNat]?).toArray = xs.toList.reverse.toArray := by
  have h := krv_pick xs
  unfold slicePick at h
  rw [krv_bounds] at h
  rw [← h]
  show _ = ((sliceRange ((xs.size : Int) - 1) (-1) (-1)).filterMap (xs[·]?)).toArray
  rw [krv_sliceRange, List.filterMap_map]
  congr 1
  apply fm_congr
  intro m hm
  have := List.mem_range.mp hm
  have e : (((xs.size : Int) - 1) + (m : Int) * (-1)).toNat = xs.size - 1 - m := by omega
  show xs[(((xs.size : Int) - 1) + (m : Int) * (-1)).toNat]? = xs[xs.size - 1 - m]?
  rw [e]
theorem getItem_tuple_rev {t sl : Addr} {items : Array Value} {vl vu vs : Value} {Q : Value → Shared → Prop} (ht : IsTup s.heap t items) (hs : s.heap.IsSliceOf sl vl vu vs) (pl : IsPart vl none) (pu : IsPart vu none) (ps : IsPart vs (some (-1)))
    (h : Q (.ref s.heap.objs.size) { s with heap := s.heap.push { cls := .type "tuple", data := .seq items.toList.reverse.toArray } })
    (hsz : items.size ≤ sizeLine) : wpAny (model prog w) A (getItem (.ref t) (.ref sl)) Q E s := by
  have htake : sizeOk (.seq items.toList.reverse.toArray) := by
    show items.toList.reverse.toArray.size ≤ sizeLine
    rw [List.size_toArray, List.length_reverse, Array.length_toList]
    exact hsz
  obtain ⟨os, hos, hcs, hds⟩ := id hs
  have hTs : s.TypeIs (.ref sl) "slice" := ⟨os, hos, hcs⟩
  unfold getItem
  try with_reducible refine wpAny_holding ?_
  first | refine wpAny_bind (wpAny_pure ?_) | skip
  refine wpAny_bind (wpAny_sequenceKey ht.typeIs (by decide) ?_)
  refine wpAny_bind (wpAny_callSpecial?_slot (name := Str.ofString "__getitem__") ht.typeIs PyProof.Rows.slot_tuple_getitem
    (wpAny_call_entry PyProof.Rows.slot_tuple_getitem ht.typeIs entry_tuple_getitem ?_ (args_tuple_getitem _ _)))
  show wpAny _ _ (Builtin.Tuple.tupleItemsOf (.ref t) >>= _) _ _ s
  refine wpAny_bind (tupleItemsOf_ ht ?_)
  refine wpAny_bind (wpAny_typeOf hTs ?_)
  rw [if_pos (by decide)]
  refine wpAny_bind (sliceApplied_rev hs pl pu ps ?_)
  have hno : ¬ ((((items.size : Int) - 1) == 0 && (-1 : Int) == 1 && items.size == items.size) = true) := by
    intro q
    rw [Bool.and_eq_true, Bool.and_eq_true] at q
    exact absurd q.1.2 (by decide)
  show wpAny _ _ (if (((items.size : Int) - 1) == 0 && (-1 : Int) == 1 && items.size == items.size) = true then _ else _) _ _ s
  rw [if_neg hno, pick_rev]
  first
    | exact wpAny_bind (m := Builtin.Tuple.tupleExact _) (wpAny_newObj_type (wpAny_pure ⟨_, rfl, wpAny_pure h⟩) htake)
    | exact wpAny_bind (m := Builtin.Tuple.tupleExact _) (wpAny_newObj_type (wpAny_bind (wpAny_pure (wpAny_pure ⟨_, rfl, wpAny_pure h⟩))) htake)
    | exact wpAny_bind (wpAny_bind (m := Builtin.Tuple.tupleExact _) (wpAny_newObj_type (wpAny_pure (wpAny_pure ⟨_, rfl, wpAny_pure h⟩)) htake))
    | exact wpAny_bind (wpAny_bind (m := Builtin.Tuple.tupleExact _) (wpAny_newObj_type (wpAny_pure ⟨_, rfl, wpAny_pure h⟩) htake))
end
section
variable {X : Cx}
def tRevT (K : PySem.W.Frag) (te : TE) : TE := fun σ H Q => te σ H fun x H1 => ∃ a xs, x = .ref a ∧ SqT K H1 a xs ∧ ∀ p, H1 p = none → Q (.ref p) (upd H1 p (.tup xs.reverse))
theorem pe_revT {e : Expr} {te : TE} {k : Nat} {p1 p2 p3 pos : Pos} (he : PE X e te) : PE X (.Subscript e (.Slice none none (some (.UnaryOp .USub (.Constant (.int 1) k p1) p2)) p3) pos) (tRevT X.K te) := by
  refine ⟨fun pins s σ H Q I h => ?_⟩
  refine Subscript_ (thn (he.run pins s σ H _ I h) fun v s1 ⟨x, H1, I1, r1, q1⟩ => ?_)
  obtain ⟨a, xs, ex, hx, q⟩ := q1
  subst ex
  cases r1
  have hst : PO X (some (.UnaryOp .USub (.Constant (.int 1) k p1) p2)) (tPart (tUn (rU fun i => .int (-i)) (tC (.int 1)))) := po_some (pe_un un_neg pe_int)
  refine wpAny_Slice (thn (po_none.run pins s1 σ H1 (fun o H2 => o = none ∧ H2 = H1) I1 ⟨rfl, rfl⟩) fun vl s2 ⟨l, H2, I2, pl, el, e2⟩ => ?_)
  subst el e2
  refine thn (po_none.run pins s2 σ H2 (fun o H3 => o = none ∧ H3 = H2) I2 ⟨rfl, rfl⟩) fun vu s3 ⟨u, H3, I3, pu, eu, e3⟩ => ?_
  subst eu e3
  refine thn (hst.run pins s3 σ H3 (fun o H4 => o = some (-1) ∧ H4 = H3) I3 ⟨1, rfl, -1, rfl, rfl, rfl⟩) fun vs s4 ⟨o, H4, I4, ps, eo, e4⟩ => ?_
  subst eo e4
  have I5 : Inv X pins σ H4 { s4 with heap := s4.heap.push { cls := .type "slice", data := .fields #[vl, vu, vs] } } := I4.kept (t' := s4.toks) fun b ob q => Heap.get?_push_of_some _ q
  obtain ⟨its, r, ht, hz⟩ := I5.tuple hx
  have hlen := r.length
  show wpAny (model X.prog X.w) X.A (subscriptTail e (.Slice none none (some (.UnaryOp .USub (.Constant (.int 1) k p1) p2)) p3) (.ref a) (.ref s4.heap.objs.size)) (EP X pins σ Q) X.xe { s4 with heap := s4.heap.push { cls := .type "slice", data := .fields #[vl, vu, vs] } }
  refine tail_any (ops := [.ref a, .ref s4.heap.objs.size]) ht.typeIs (PyProof.Rows.slot_tuple_getitem.lookup) ?_ (by with_unfolding_all rfl)
  refine getItem_tuple_rev ht (Heap.IsSliceOf.new _ vl vu vs) pl pu ps ?_ (by rw [List.size_toArray]; omega)
  refine ⟨.ref _, _, I5.laid (t' := s4.toks) (o := .tup xs.reverse) (fun b ob q => Heap.get?_push_of_some _ q) (Nat.le_refl _) ?_, rfl, q _ (I5.hok.fresh (Nat.le_refl _))⟩
  exact ⟨by rw [List.length_reverse]; exact hz, _, r.reverse, IsTup.new _ _⟩
end
section
theorem tuple_mul_one (l : Addr) (items : Array Value) (n : Nat) (dd : Option Addr) (sl : Array (Option Value)) (u : Tok) :
    Meets (Builtin.«tuple.__mul__» ⟨[.ref l, .int 1 u], []⟩) (fun _ R s => s.heap.get? l = some { cls := .type "tuple", dict := dd, data := .seq items n, slots := sl } ∧ R (.ok (.ret (Value.ref l))) s) :=
  .of_wp fun prog w A R s h => by
    obtain ⟨hp, g, d, tk, os⟩ := s
    obtain ⟨hl, h⟩ := h
    have f1 := AutoSeq1.idx_int
    have c0 : (decide ((1 : Int) < -(2 ^ 63)) || decide ((1 : Int) ≥ 2 ^ 63)) = false := by decide
    have c1 : (items.isEmpty || (1 : Int) == 1) = true := by
      cases items.isEmpty <;> rfl
    wp_walk using wpAny_loadPart' hl
    repeat (first
      | (refine wpAny_ite_false (decide_eq_false (by rw [c0]; exact Bool.false_ne_true)) ?_; wp_walk using wpAny_loadPart' hl)
      | (refine wpAny_ite_true (decide_eq_true c1) ?_; wp_walk using wpAny_loadPart' hl))
    exact ⟨_, rfl, h⟩
/-- t * k, k from 1 on: of 1 it is t itself -/
def rRepA (K : PySem.W.Frag) : R2 := fun x y H Q => ∃ l k xs, x = .ref l ∧ y = .int k ∧ SqT K H l xs ∧ xs ≠ [] ∧ 1 ≤ k ∧ k ≤ 1000 ∧ xs.length ≤ 1000 ∧ (k = 1 → Q (.ref l) H) ∧ (2 ≤ k → ∀ p, H p = none → Q (.ref p) (upd H p (.tup (List.replicate k.toNat xs).flatten)))
variable {X : Cx}
theorem op_repA : OpR X (binaryOp .Mult) (rRepA X.K) := by
  intro pins s σ H x y v u Q I rx ry h
  obtain ⟨l, k, xs, rfl, rfl, hT, hne, h1, h2, hz, q1, q2⟩ := h
  by_cases hk : k = 1
  · subst hk
    cases rx
    obtain ⟨t, rfl⟩ := ry
    obtain ⟨its, r, ⟨⟨cls, dd, data, sl⟩, ho, hc, n, hd⟩, hs⟩ := I.tuple hT
    simp only at hc hd
    subst hc hd
    refine wpAny_binaryOp_repeat_ref (T := "tuple") (U := "int") (by decide) ⟨_, ho, rfl⟩ (fun s' => typeIs_int s' 1 t) noFill_tuple_mul F.fills_int_mul F.slot_int_rmul repeat_tuple F.slot_int_index.lookup
      (call_meets F.slot_int_rmul (typeIs_int s 1 t) F.entry_int_rmul (F.args_int_rmul_2 _ _) (int_rmul_tuple 1 t l its.toArray n dd sl)
        ⟨ho, rfl, ⟨_, ho, rfl⟩, call_meets F.slot_tuple_mul ⟨_, ho, rfl⟩ F.entry_tuple_mul (F.args_tuple_mul_2 _ _) (tuple_mul_one l its.toArray n dd sl t) ⟨ho, ?_⟩⟩)
    exact ⟨.ref l, H, I, rfl, q1 rfl⟩
  · exact op_repT pins s σ H _ _ v u Q I rx ry ⟨l, k, xs, rfl, rfl, hT, hne, by omega, h2, hz, q2 (by omega)⟩
end
end KT
namespace K03
open PySem PySem.Spec PyProof.Rows L2 PySem.W LamX KA KW KU KL KT
open Evl (pss_cut tCut)
/-! ### rows and planes of any values -/
def isNum : V → Bool
  | .int _ => true
  | _ => false
theorem Pl.num {K : PySem.W.Frag} {H : Hp} {x : V} {b : Bool} (h : Pl K H x b) : isNum x = b := by cases h <;> rfl
theorem Pl.keep {K : PySem.W.Frag} {H H' : Hp} {x : V} {b : Bool} (h : Pl K H x b) (s : Same H H') : Pl K H' x b := by
  cases h with
  | int i => exact .int i
  | bl i => exact .bl i
  | str i => exact .str i
  | non => exact .non
  | tup e => exact .tup (s _ _ e)
  | lst e => exact .lst (s _ _ e)
  | dK e => exact .dK (s _ _ e)
/-- no tuple -/
inductive Nt (H : Hp) : V → Prop where
  | int (i : Int) : Nt H (.int i)
  | bl (b : Bool) : Nt H (.bl b)
  | str (s : Str) : Nt H (.str s)
  | non : Nt H .non
  | lst {a : Addr} {xs : List V} (e : H a = some (.lst xs)) : Nt H (.ref a)
  | dK {a : Addr} {kvs : List (Key × V)} (e : H a = some (.dK kvs)) : Nt H (.ref a)
theorem Nt.ty {K : PySem.W.Frag} {H : Hp} {x : V} (h : Nt H x) : ∃ t : String, TyX K H x (.type t) ∧ kitB t "tuple" = some false := by
  cases h with
  | int i => exact ⟨"int", .base (.int i), by decide +kernel⟩
  | bl i => exact ⟨"bool", .base (.bl i), by decide +kernel⟩
  | str i => exact ⟨"str", .base (.str i), by decide +kernel⟩
  | non => exact ⟨"NoneType", .base .non, by decide +kernel⟩
  | lst e => exact ⟨"list", .base (.lst e), by decide +kernel⟩
  | dK e => exact ⟨"dict", .base (.dK e), by decide +kernel⟩
theorem Nt.keep {H H' : Hp} {x : V} (h : Nt H x) (s : Same H H') : Nt H' x := by
  cases h with
  | int i => exact .int i
  | bl i => exact .bl i
  | str i => exact .str i
  | non => exact .non
  | lst e => exact .lst (s _ _ e)
  | dK e => exact .dK (s _ _ e)
theorem take_map_snoc' (xs : List V) (f : V → Bool) (i : Nat) (x : V) (h : xs[i]? = some x) : ((xs.take (i + 1)).map f).map V.bl = ((xs.take i).map f).map V.bl ++ [V.bl (f x)] := by
  rw [List.take_add_one, h, List.map_append, List.map_append]
  rfl
/-- a value as a row: its items, if it is a tuple -/
inductive Rw (K : PySem.W.Frag) (H : Hp) : V → Option (List V) → Prop where
  | no {x : V} (h : Nt H x) : Rw K H x none
  | tup {a : Addr} {xs : List V} (e : H a = some (.tup xs)) (p : ∀ x ∈ xs, ∃ b, Pl K H x b) (l : xs.length ≤ 1000) : Rw K H (.ref a) (some xs)
theorem Rw.keep {K : PySem.W.Frag} {H H' : Hp} {x : V} {o : Option (List V)} (h : Rw K H x o) (s : Same H H') : Rw K H' x o := by
  cases h with
  | no h => exact .no (h.keep s)
  | tup e p l => exact .tup (s _ _ e) (fun x hx => (p x hx).imp fun b h => h.keep s) l
def rowB : Option (List V) → Bool
  | none => false
  | some xs => decide (1 ≤ xs.length) && decide (xs.length ≤ 16) && xs.all isNum
def spRow (K : PySem.W.Frag) : Sp := fun vs H Q _ => ∃ x o, vs = [x] ∧ Rw K H x o ∧ ∀ H', Same H H' → Q (.bl (rowB o)) H'
section
variable {P : Program} {w : World} {K : PySem.W.Frag} {mg : Str → Option Value} {base : Heap} (T : Top K mg)
theorem ok_is_row : FnOk P w K mg base (L2.CX P w) 2 T.is_row.a T.is_row.d ["thing"] (spRow K) := by
  refine T.is_row.f.okX sc_is_row (fun vs H Q E h => ?_) (fun cdv A outer s H vs Q E hr h => ?_)
  · obtain ⟨x, o, rfl, _⟩ := h
    rfl
  · obtain ⟨x, o, rfl, hp, k⟩ := h
    refine ⟨_, pss_one (ps_ret (pe_and
      (pe_callB call_isi (by rfl) T.b_isinstance PyProof.Rows.boot_isinstance (pa_cons (pv 0) (pa_cons (pe_bltn (v := .ty "tuple") (by rfl) T.b_tuple (by decide +kernel) rfl) pa_nil)))
      (pe_and (pe_chain op_le op_le pe_int (pe_callB call_len_seq (by rfl) T.b_len PySem.boot_len (pa_cons (pv 0) pa_nil)) pe_int)
      (pe_one (pe_callB (cr_all rfl) (by rfl) T.b_all (by decide +kernel) (pa_cons (pe_lc (own := [("part", 1)]) (g := gName 1) (tt := tYes) rfl sc_is_row.nd (pi_tup (pv 0)) (blkOk_by (own := [("part", 1)]) (N := ["thing", "part"]) (sc := defScope s_is_row) (by decide +kernel))
        (fun _ _ _ _ _ => pg_name (i := 1) sc_is_row.nd rfl (Or.inl rfl)) (fun _ _ _ _ _ => pts_nil) (fun _ _ _ _ _ => pe_call (ok_is_number T) hr (by rfl) T.is_number.m T.is_number.f.kp (bd_is_number T) .nil passE (pa_cons (pv 1) pa_nil))) pa_nil)))))), ?_⟩
    cases hp with
    | no hn =>
      obtain ⟨t, ht, h1⟩ := hn.ty (K := K)
      refine ⟨_, rfl, x, _, _, _, _, rfl, .ty "tuple", ht, kit_ty h1, _, rfl, iteF ?_⟩
      exact k H fun _ _ e => e
    | tup e p l =>
      rename_i a xs
      refine ⟨_, rfl, _, _, _, _, true, rfl, .ty "tuple", .base (.tup e), kit_ty (by decide +kernel), _, rfl, iteT ?_⟩
      refine ⟨_, rfl, a, xs, rfl, .inr (SqT.of e), 1, ((xs.length : Nat) : Int), rfl, rfl, _, rfl, ?_⟩
      have go : ∀ c1 c2 : Bool, c1 = decide ((1 : Int) ≤ ((xs.length : Nat) : Int)) → c2 = decide (((xs.length : Nat) : Int) ≤ 16) → rowB (some xs) = (c1 && c2 && xs.all isNum) := fun c1 c2 e1 e2 => by
        subst e1 e2
        show (decide (1 ≤ xs.length) && decide (xs.length ≤ 16) && xs.all isNum) = _
        congr 1
        congr 1 <;> exact decide_eq_decide.mpr (by omega)
      by_cases c1 : (1 : Int) ≤ ((xs.length : Nat) : Int)
      · rw [decide_eq_true c1]
        refine iteT ⟨((xs.length : Nat) : Int), 16, rfl, rfl, _, rfl, ?_⟩
        by_cases c2 : ((xs.length : Nat) : Int) ≤ 16
        · rw [decide_eq_true c2]
          refine iteT ⟨_, rfl, a, rfl, ⟨_, SqT.of e⟩, fun D hD => lc_tup (K := K) (a := a) (xs := xs) (fun i H' => H' D = some (.lst (((xs.take i).map isNum).map V.bl)) ∧ Same H H') ⟨upd_same, Same.new hD⟩ (fun i H' _ h => SqT.of (h.2 _ _ e)) ?_ ?_⟩
          · rintro i x H' hx ⟨h1, h2⟩
            refine ⟨rfl, ?_⟩
            dsimp only [tYes]
            rw [if_pos rfl]
            obtain ⟨b, hb⟩ := p x (List.mem_of_getElem? hx)
            refine ⟨_, rfl, x, b, rfl, hb.keep h2, _, h1, ?_, ?_, ?_⟩
            · rw [List.length_map, List.length_map, List.length_take]
              exact Nat.lt_of_le_of_lt (Nat.min_le_right _ _) (Nat.lt_of_le_of_lt l (by decide))
            · rw [upd_same, take_map_snoc' _ _ _ _ hx, hb.num]
            · intro b' o e'
              rw [upd_ne (ne_of_none e' hD)]
              exact h2 b' o e'
          · rintro H1 ⟨h1, h2⟩
            rw [List.take_length] at h1
            refine ⟨D, _, rfl, SqL.of h1, ?_⟩
            refine q_bl (k H1 h2) ?_
            rw [go true true (decide_eq_true c1).symm (decide_eq_true c2).symm, List.all_map]
            rfl
        · rw [decide_eq_false c2]
          refine iteF ?_
          exact q_bl (k H fun _ _ e => e) (by rw [go true false (decide_eq_true c1).symm (decide_eq_false c2).symm]; rfl)
      · rw [decide_eq_false c1]
        refine iteF ⟨_, rfl, iteF ?_⟩
        exact q_bl (k H fun _ _ e => e) (by rw [go false _ (decide_eq_false c1).symm rfl]; rfl)
end
end K03
namespace K03
open PySem PySem.Spec PyProof.Rows L2 PySem.W LamX KA KW KU KL KT
open Evl (pss_cut tCut)
/-! ### planes of any values -/
def okAs (n : Nat) (o : Option (List V)) : Bool := rowB o && (match o with | some xs => xs.length == n | none => false)
def width0 : List (Option (List V)) → Nat
  | some xs :: _ => xs.length
  | _ => 0
def rowsB : Option (List (Option (List V))) → Bool
  | none => false
  | some os => decide (1 ≤ os.length) && decide (os.length ≤ 16) && os.all (okAs (width0 os))
/-- the items of a tuple as rows -/
def Rws (K : PySem.W.Frag) (H : Hp) (vs : List V) (os : List (Option (List V))) : Prop := vs.length = os.length ∧ ∀ (i : Nat) (v : V), vs[i]? = some v → ∃ o, os[i]? = some o ∧ Rw K H v o
theorem Rws.keep {K : PySem.W.Frag} {H H' : Hp} {vs : List V} {os : List (Option (List V))} (h : Rws K H vs os) (s : Same H H') : Rws K H' vs os :=
  ⟨h.1, fun i v e => by
    obtain ⟨o, q1, q2⟩ := h.2 i v e
    exact ⟨o, q1, q2.keep s⟩⟩
/-- a value as a plane -/
inductive Th (K : PySem.W.Frag) (H : Hp) : V → Option (List (Option (List V))) → Prop where
  | no {x : V} (h : Nt H x) : Th K H x none
  | tup {a : Addr} {vs : List V} {os : List (Option (List V))} (e : H a = some (.tup vs)) (p : Rws K H vs os) (l : vs.length ≤ 1000) : Th K H (.ref a) (some os)
theorem Th.keep {K : PySem.W.Frag} {H H' : Hp} {x : V} {o : Option (List (Option (List V)))} (h : Th K H x o) (s : Same H H') : Th K H' x o := by
  cases h with
  | no h => exact .no (h.keep s)
  | tup e p l => exact .tup (s _ _ e) (p.keep s) l
theorem rowB_some {o : Option (List V)} (h : rowB o = true) : ∃ xs, o = some xs ∧ 1 ≤ xs.length ∧ xs.length ≤ 16 ∧ xs.all isNum = true := by
  cases o with
  | none => cases h
  | some xs =>
    simp only [rowB, Bool.and_eq_true, decide_eq_true_eq] at h
    exact ⟨xs, rfl, h.1.1, h.1.2, h.2⟩
theorem all_false {α : Type} {l : List α} {f : α → Bool} {i : Nat} {x : α} (h : l[i]? = some x) (hf : f x = false) : l.all f = false := by
  rw [List.all_eq_false]
  exact ⟨x, List.mem_of_getElem? h, by rw [hf]; exact Bool.false_ne_true⟩
theorem all_take_succ {α : Type} {l : List α} {f : α → Bool} {i : Nat} {x : α} (h : l[i]? = some x) (h1 : (l.take i).all f = true) (hf : f x = true) : (l.take (i + 1)).all f = true := by
  rw [List.take_add_one, h, List.all_append, h1]
  simp [hf]
def spRows (K : PySem.W.Frag) : Sp := fun vs H Q _ => ∃ x o, vs = [x] ∧ Th K H x o ∧ ∀ H', Same H H' → Q (.bl (rowsB o)) H'
section
variable {P : Program} {w : World} {K : PySem.W.Frag} {mg : Str → Option Value} {base : Heap} (T : Top K mg)
theorem ok_is_rows : FnOk P w K mg base (L2.CX P w) 3 T.is_rows.a T.is_rows.d ["thing"] (spRows K) := by
  refine T.is_rows.f.okX sc_is_rows (fun vs H Q E h => ?_) (fun cdv A outer s H vs Q E hr h => ?_)
  · obtain ⟨x, o, rfl, _⟩ := h
    rfl
  · obtain ⟨x, o, rfl, hp, k⟩ := h
    refine ⟨_, pss_cons (ps_if (PW.pt (pw_or (pt_not (pt_val (pe_callB call_isi (by rfl) T.b_isinstance PyProof.Rows.boot_isinstance (pa_cons (pv 0) (pa_cons (pe_bltn (v := .ty "tuple") (by rfl) T.b_tuple (by decide +kernel) rfl) pa_nil)))))
        (pw_or1 (pt_not (pt_chain op_le op_le pe_int (pe_callB call_len_seq (by rfl) T.b_len PySem.boot_len (pa_cons (pv 0) pa_nil)) pe_int)))))
        (pss_one (ps_ret pe_bl)) pss_nil)
      (pss_cons (ps_for (passes_of rfl) rfl (pi_tup (pv 0)) (pg_name (i := 1) sc_is_rows.nd rfl (.inl rfl))
        (pss_one (ps_if (PW.pt (pw_or (pt_not (pt_val (pe_call (ok_is_row T) hr (by rfl) T.is_row.m T.is_row.f.kp (bd_is_row T) .nil passE (pa_cons (pv 1) pa_nil))))
          (pw_or1 (pt_cmpR op_ne (pe_callB call_len_seq (by rfl) T.b_len PySem.boot_len (pa_cons (pv 1) pa_nil)) (pe_callB call_len_seq (by rfl) T.b_len PySem.boot_len (pa_cons (pe_ix ix_tup (pv 0) pe_int (fun _ _ => rfl)) pa_nil)) (nomark _)))))
          (pss_one (ps_ret pe_bl)) pss_nil)))
      (pss_one (ps_ret pe_bl))), ?_⟩
    cases hp with
    | no hn =>
      obtain ⟨t, ht, h1⟩ := hn.ty (K := K)
      refine ⟨_, rfl, x, _, _, _, _, rfl, .ty "tuple", ht, kit_ty h1, _, rfl, ?_⟩
      exact iteT (iteT (k H fun _ _ e => e))
    | tup e p l =>
      rename_i a xs os
      refine ⟨_, rfl, _, _, _, _, true, rfl, .ty "tuple", .base (.tup e), kit_ty (by decide +kernel), _, rfl, iteF ⟨_, rfl, a, xs, rfl, .inr (SqT.of e), 1, ((xs.length : Nat) : Int), rfl, rfl, _, rfl, ?_⟩⟩
      have hlen := p.1
      have go : ∀ c1 c2 : Bool, c1 = decide ((1 : Int) ≤ ((xs.length : Nat) : Int)) → c2 = decide (((xs.length : Nat) : Int) ≤ 16) → rowsB (some os) = (c1 && c2 && os.all (okAs (width0 os))) := fun c1 c2 e1 e2 => by
        subst e1 e2
        show (decide (1 ≤ os.length) && decide (os.length ≤ 16) && os.all (okAs (width0 os))) = _
        congr 1
        congr 1 <;> exact decide_eq_decide.mpr (by omega)
      by_cases c1 : (1 : Int) ≤ ((xs.length : Nat) : Int)
      · rw [decide_eq_true c1]
        refine iteT ⟨((xs.length : Nat) : Int), 16, rfl, rfl, _, rfl, ?_⟩
        by_cases c2 : ((xs.length : Nat) : Int) ≤ 16
        · rw [decide_eq_true c2]
          have go' : rowsB (some os) = os.all (okAs (width0 os)) := by rw [go true true (decide_eq_true c1).symm (decide_eq_true c2).symm]; rfl
          clear go
          refine iteF ?_
          refine ⟨_, rfl, a, rfl, ⟨_, SqT.of e⟩, for_tup (K := K) (a := a) (xs := xs) (fun i σ H' => (∃ v1, σ = [some (.ref a), v1]) ∧ Same H H' ∧ (os.take i).all (okAs (width0 os)) = true) ⟨⟨none, rfl⟩, fun _ _ e => e, rfl⟩ (fun i σ H' _ h => SqT.of (h.2.1 _ _ e)) ?_ ?_⟩
          · rintro i x σ H' hx ⟨⟨v1, rfl⟩, sm, ht⟩
            obtain ⟨o, ho, hr2⟩ := p.2 i x hx
            have hr3 := hr2.keep sm
            refine ⟨_, rfl, x, o, rfl, hr3, fun H2 sm2 => ?_⟩
            have sm' : Same H H2 := sm.trans sm2
            have bad : okAs (width0 os) o = false → Q (.bl false) H2 := fun z => q_bl (k H2 sm') (by rw [go', all_false ho z])
            refine ⟨_, rfl, ?_⟩
            cases hb : rowB o with
            | false => exact iteT (iteT (bad (by simp [okAs, hb])))
            | true =>
              refine iteF ?_
              obtain ⟨ys, rfl, y1, y2, y3⟩ := rowB_some hb
              cases hr3 with
              | tup eb pb lb =>
                rename_i b
                -- the first row
                obtain ⟨v0, hv0⟩ : ∃ v0, xs[0]? = some v0 := ⟨_, List.getElem?_eq_getElem (by omega)⟩
                obtain ⟨o0, ho0, hr0⟩ := p.2 0 v0 hv0
                have hs0 : ∃ zs, o0 = some zs := by
                  cases i with
                  | zero =>
                    rw [ho] at ho0
                    exact ⟨ys, (Option.some.inj ho0).symm⟩
                  | succ i =>
                    rw [List.all_eq_true] at ht
                    have hm : o0 ∈ os.take (i + 1) := List.mem_of_getElem? (i := 0) (by rw [List.getElem?_take]; simpa using ho0)
                    have := ht o0 hm
                    simp only [okAs, Bool.and_eq_true] at this
                    obtain ⟨zs, h, _⟩ := rowB_some this.1
                    exact ⟨zs, h⟩
                obtain ⟨zs, rfl⟩ := hs0
                have hw0 : width0 os = zs.length := by
                  cases os with
                  | nil => cases ho0
                  | cons o1 os =>
                    have : o1 = some zs := by simpa using ho0
                    subst this
                    rfl
                have hr0' := hr0.keep sm'
                cases hr0' with
                | tup e0 p0 l0 =>
                  refine ⟨_, rfl, _, ys, rfl, .inr (SqT.of (sm2 _ _ eb)), _, rfl, a, xs, 0, _, rfl, rfl, SqT.of (sm' _ _ e), atI_nat (j := 0) hv0, _, zs, rfl, .inr (SqT.of e0), ?_⟩
                  refine ⟨rfl, _, rfl, ?_⟩
                  rw [dec_int]
                  by_cases c : ys.length = zs.length
                  · rw [show (((ys.length : Nat) : Int) == ((zs.length : Nat) : Int)) = true by simp [c]]
                    refine iteF ⟨⟨_, rfl⟩, sm', all_take_succ ho ht ?_⟩
                    simp [okAs, hb, hw0, c]
                  · rw [show (((ys.length : Nat) : Int) == ((zs.length : Nat) : Int)) = false from beq_eq_false_iff_ne.mpr (by omega)]
                    refine iteT (bad ?_)
                    simp [okAs, hb, hw0, c]
          · rintro σ H' ⟨⟨v1, rfl⟩, sm, ht⟩
            rw [hlen, List.take_length] at ht
            exact q_bl (k H' sm) (by rw [go', ht])
        · rw [decide_eq_false c2]
          refine iteT ?_
          exact q_bl (k H fun _ _ e => e) (by rw [go true false (decide_eq_true c1).symm (decide_eq_false c2).symm]; rfl)
      · rw [decide_eq_false c1]
        refine iteF ⟨_, rfl, ?_⟩
        refine iteT ?_
        exact q_bl (k H fun _ _ e => e) (by rw [go false _ (decide_eq_false c1).symm rfl]; rfl)
end
end K03
namespace K03
open PySem PySem.Spec PyProof.Rows L2 PySem.W LamX KA KW KU KL KT
open Evl (pss_cut tCut)
/-! ### planes of numbers -/
/-- a tuple of h rows of w numbers -/
structure Pn (H : Hp) (a : Addr) (nss : List (List Int)) (w : Nat) : Prop where
  at' : ∃ vs, H a = some (.tup vs) ∧ vs.length = nss.length ∧ ∀ (i : Nat) (v : V), vs[i]? = some v → ∃ b ns, v = .ref b ∧ nss[i]? = some ns ∧ H b = some (.tup (ns.map V.int))
  h1 : 1 ≤ nss.length
  h2 : nss.length ≤ 16
  w1 : 1 ≤ w
  w2 : w ≤ 16
  ws : ∀ ns ∈ nss, ns.length = w
theorem Pn.keep {H H' : Hp} {a : Addr} {nss : List (List Int)} {w : Nat} (p : Pn H a nss w) (s : Same H H') : Pn H' a nss w := by
  refine ⟨?_, p.h1, p.h2, p.w1, p.w2, p.ws⟩
  obtain ⟨vs, h, l, q⟩ := p.at'
  refine ⟨vs, s _ _ h, l, fun i v e => ?_⟩
  obtain ⟨b, ns, e1, e2, e3⟩ := q i v e
  exact ⟨b, ns, e1, e2, s _ _ e3⟩
theorem nums_map : ∀ {xs : List V}, xs.all isNum = true → ∃ ns : List Int, xs = ns.map V.int
  | [], _ => ⟨[], rfl⟩
  | x :: xs, h => by
    rw [List.all_cons, Bool.and_eq_true] at h
    obtain ⟨ns, rfl⟩ := nums_map h.2
    cases x with
    | int i => exact ⟨i :: ns, rfl⟩
    | _ => exact absurd h.1 (by simp [isNum])
theorem opts_map : ∀ {os : List (Option (List V))}, (∀ o ∈ os, rowB o = true) → ∃ nss : List (List Int), os = nss.map fun ns => some (ns.map V.int)
  | [], _ => ⟨[], rfl⟩
  | o :: os, h => by
    obtain ⟨nss, rfl⟩ := opts_map (os := os) fun o ho => h o (List.mem_cons_of_mem _ ho)
    obtain ⟨xs, rfl, _, _, hx⟩ := rowB_some (h o List.mem_cons_self)
    obtain ⟨ns, rfl⟩ := nums_map hx
    exact ⟨ns :: nss, rfl⟩
/-- of a value that is a tuple of rows of numbers -/
theorem Th.good {K : PySem.W.Frag} {H : Hp} {x : V} {o : Option (List (Option (List V)))} (h : Th K H x o) (g : rowsB o = true) : ∃ a nss w, x = .ref a ∧ Pn H a nss w ∧ o = some (nss.map fun ns => some (ns.map V.int)) := by
  cases h with
  | no h => cases g
  | tup e p l =>
    rename_i a vs os
    simp only [rowsB, Bool.and_eq_true, decide_eq_true_eq, List.all_eq_true, okAs] at g
    obtain ⟨⟨g1, g2⟩, g3⟩ := g
    obtain ⟨nss, rfl⟩ := opts_map fun o ho => (g3 o ho).1
    refine ⟨a, nss, width0 (nss.map fun ns => some (ns.map V.int)), rfl, ⟨⟨vs, e, ?_, fun i v hv => ?_⟩, ?_, ?_, ?_, ?_, fun ns hn => ?_⟩, rfl⟩
    · rw [p.1, List.length_map]
    · obtain ⟨o, ho, hr⟩ := p.2 i v hv
      rw [List.getElem?_map] at ho
      cases hn : nss[i]? with
      | none => rw [hn] at ho; cases ho
      | some ns =>
        rw [hn] at ho
        have := Option.some.inj ho
        subst this
        cases hr with
        | tup e' _ _ => exact ⟨_, ns, rfl, rfl, e'⟩
    · rw [List.length_map] at g1
      exact g1
    · rw [List.length_map] at g2
      exact g2
    · cases nss with
      | nil => rw [List.length_map] at g1; exact absurd g1 (by decide)
      | cons ns nss =>
        obtain ⟨xs, e1, e2, e3, _⟩ := rowB_some (g3 _ (by rw [List.map_cons]; exact List.mem_cons_self)).1
        have := Option.some.inj e1
        subst this
        exact e2
    · cases nss with
      | nil => rw [List.length_map] at g1; exact absurd g1 (by decide)
      | cons ns nss =>
        obtain ⟨xs, e1, e2, e3, _⟩ := rowB_some (g3 _ (by rw [List.map_cons]; exact List.mem_cons_self)).1
        have := Option.some.inj e1
        subst this
        exact e3
    · have := (g3 _ (List.mem_map_of_mem hn)).2
      simpa using this
def minL : List Int → Int
  | n :: r => r.foldl min n
  | [] => 0
def maxL : List Int → Int
  | n :: r => r.foldl max n
  | [] => 0
theorem minL_eq {ns : List Int} {m : Int} (h : m ∈ ns) (l : ∀ y ∈ ns, m ≤ y) : m = minL ns := by
  cases ns with
  | nil => cases h
  | cons n r =>
    have h1 := l _ (foldl_min_mem n r)
    have h2 := foldl_min_le n r m h
    show m = r.foldl min n
    omega
theorem maxL_eq {ns : List Int} {m : Int} (h : m ∈ ns) (l : ∀ y ∈ ns, y ≤ m) : m = maxL ns := by
  cases ns with
  | nil => cases h
  | cons n r =>
    have h1 := l _ (foldl_max_mem n r)
    have h2 := foldl_max_ge n r m h
    show m = r.foldl max n
    omega
theorem minL_le {ns : List Int} (h : 0 < ns.length) (lo : Int) : lo ≤ minL ns ↔ ∀ y ∈ ns, lo ≤ y := by
  cases ns with
  | nil => cases h
  | cons n r =>
    constructor
    · intro q y hy
      exact Int.le_trans q (foldl_min_le n r y hy)
    · intro q
      exact q _ (foldl_min_mem n r)
theorem maxL_ge {ns : List Int} (h : 0 < ns.length) (hi : Int) : maxL ns ≤ hi ↔ ∀ y ∈ ns, y ≤ hi := by
  cases ns with
  | nil => cases h
  | cons n r =>
    constructor
    · intro q y hy
      exact Int.le_trans (foldl_max_ge n r y hy) q
    · intro q
      exact q _ (foldl_max_mem n r)
def betB (nss : List (List Int)) (lo hi : Int) : Bool := nss.all fun ns => ns.all fun n => decide (lo ≤ n) && decide (n ≤ hi)
theorem betB_eq {nss : List (List Int)} (h : 0 < nss.length) (hw : ∀ ns ∈ nss, 0 < ns.length) (lo hi : Int) : betB nss lo hi = (decide (lo ≤ minL (nss.map minL)) && decide (maxL (nss.map maxL) ≤ hi)) := by
  rw [Bool.eq_iff_iff]
  simp only [betB, List.all_eq_true, Bool.and_eq_true, decide_eq_true_eq]
  rw [minL_le (by rw [List.length_map]; exact h), maxL_ge (by rw [List.length_map]; exact h)]
  constructor
  · intro q
    constructor
    · intro y hy
      obtain ⟨ns, hn, rfl⟩ := List.mem_map.mp hy
      exact (minL_le (hw ns hn) lo).mpr fun y hy => (q ns hn y hy).1
    · intro y hy
      obtain ⟨ns, hn, rfl⟩ := List.mem_map.mp hy
      exact (maxL_ge (hw ns hn) hi).mpr fun y hy => (q ns hn y hy).2
  · intro q ns hn n hnn
    exact ⟨(minL_le (hw ns hn) lo).mp (q.1 _ (List.mem_map_of_mem hn)) n hnn, (maxL_ge (hw ns hn) hi).mp (q.2 _ (List.mem_map_of_mem hn)) n hnn⟩
theorem take_map_snocI (xs : List (List Int)) (f : List Int → Int) (i : Nat) (x : List Int) (h : xs[i]? = some x) : ((xs.take (i + 1)).map f).map V.int = ((xs.take i).map f).map V.int ++ [V.int (f x)] := by
  rw [List.take_add_one, h, List.map_append, List.map_append]
  rfl
def spBetween : Sp := fun vs H Q _ => ∃ a nss w lo hi, vs = [.ref a, .int lo, .int hi] ∧ Pn H a nss w ∧ ∀ H', Same H H' → Q (.bl (betB nss lo hi)) H'
section
variable {P : Program} {w : World} {K : PySem.W.Frag} {mg : Str → Option Value} {base : Heap} (T : Top K mg)
theorem ok_are_between : FnOk P w K mg base (L2.CX P w) 2 T.are_between.a T.are_between.d ["rows", "low", "high"] spBetween := by
  refine T.are_between.f.okX sc_are_between (fun vs H Q E h => ?_) (fun cdv A outer s H vs Q E hr h => ?_)
  · obtain ⟨a, nss, w, lo, hi, rfl, _⟩ := h
    rfl
  · obtain ⟨a, nss, w, lo, hi, rfl, p, k⟩ := h
    have hu2 : ∀ {A' : Around}, Room 1 A' → A'.units + 2 < cLine := fun r => by
      have := r.units
      omega
    refine ⟨_, pss_one (ps_ret (pe_and
      (pe_cmpR op_le (pv 1) (pe_callB (cr_min rfl) (by rfl) T.b_min PyProof.Rows.boot_min (pa_cons (pe_lc (own := [("row", 3)]) (g := gName 3) (tt := tYes) rfl sc_are_between.nd (pi_tup (pv 0)) (blkOk_by (own := [("row", 3)]) (N := ["rows", "low", "high", "row"]) (sc := defScope s_are_between) (by decide +kernel))
        (fun _ _ _ _ _ => pg_name (i := 3) sc_are_between.nd rfl (Or.inl rfl)) (fun _ _ _ _ _ => pts_nil) (fun _ _ _ _ _ => pe_callB (show CallR _ _ (rMinT K) from cr_minT rfl (hu2 hr)) (by rfl) T.b_min PyProof.Rows.boot_min (pa_cons (pv 3) pa_nil))) pa_nil)) (nomark _))
      (pe_one (pe_cmpR op_le (pe_callB (cr_max rfl) (by rfl) T.b_max PyProof.Rows.boot_max (pa_cons (pe_lc (own := [("row", 3)]) (g := gName 3) (tt := tYes) rfl sc_are_between.nd (pi_tup (pv 0)) (blkOk_by (own := [("row", 3)]) (N := ["rows", "low", "high", "row"]) (sc := defScope s_are_between) (by decide +kernel))
        (fun _ _ _ _ _ => pg_name (i := 3) sc_are_between.nd rfl (Or.inl rfl)) (fun _ _ _ _ _ => pts_nil) (fun _ _ _ _ _ => pe_callB (show CallR _ _ (rMaxT K) from cr_maxT rfl (hu2 hr)) (by rfl) T.b_max PyProof.Rows.boot_max (pa_cons (pv 3) pa_nil))) pa_nil)) (pv 2) (nomark _))))), ?_⟩
    obtain ⟨vs, e, l, q⟩ := p.at'
    have hl1 : nss.length < sizeLine := Nat.lt_of_le_of_lt p.h2 (by decide)
    have nz : ∀ ns ∈ nss, 0 < ns.length := fun ns h => by rw [p.ws ns h]; exact p.w1
    have fin : ∀ c1 c2 : Bool, c1 = decide (lo ≤ minL (nss.map minL)) → c2 = decide (maxL (nss.map maxL) ≤ hi) → betB nss lo hi = (c1 && c2) := fun c1 c2 e1 e2 => by
      rw [betB_eq p.h1 nz, e1, e2]
    refine ⟨_, rfl, _, rfl, a, rfl, ⟨_, SqT.of e⟩, fun D hD => lc_tup (K := K) (a := a) (xs := vs) (fun i H' => H' D = some (.lst (((nss.take i).map minL).map V.int)) ∧ Same H H') ⟨upd_same, Same.new hD⟩ (fun i H' _ h => SqT.of (h.2 _ _ e)) ?_ ?_⟩
    · rintro i x H' hx ⟨h1, h2⟩
      refine ⟨rfl, ?_⟩
      dsimp only [tYes]
      rw [if_pos rfl]
      obtain ⟨b, ns, rfl, hn, hb⟩ := q i x hx
      refine ⟨_, rfl, b, ns, rfl, SqT.of (h2 _ _ hb), nz ns (List.mem_of_getElem? hn), fun m hm hm2 => ⟨_, h1, ?_, ?_, ?_⟩⟩
      · rw [List.length_map, List.length_map, List.length_take]
        exact Nat.lt_of_le_of_lt (Nat.min_le_right _ _) hl1
      · rw [upd_same, take_map_snocI _ _ _ _ hn, minL_eq hm hm2]
      · intro b' o e'
        rw [upd_ne (ne_of_none e' hD)]
        exact h2 b' o e'
    rintro H1 ⟨h1, s1⟩
    rw [l, List.take_length] at h1
    refine ⟨D, nss.map minL, rfl, SqL.of h1, by rw [List.length_map]; exact p.h1, fun m hm hm2 => ⟨_, _, rfl, rfl, _, rfl, ?_⟩⟩
    rw [minL_eq hm hm2]
    by_cases c1 : lo ≤ minL (nss.map minL)
    · rw [decide_eq_true c1]
      have e1 := s1 _ _ e
      refine iteT ⟨_, rfl, a, rfl, ⟨_, SqT.of e1⟩, fun D hD => lc_tup (K := K) (a := a) (xs := vs) (fun i H' => H' D = some (.lst (((nss.take i).map maxL).map V.int)) ∧ Same H1 H') ⟨upd_same, Same.new hD⟩ (fun i H' _ h => SqT.of (h.2 _ _ e1)) ?_ ?_⟩
      · rintro i x H' hx ⟨h1, h2⟩
        refine ⟨rfl, ?_⟩
        dsimp only [tYes]
        rw [if_pos rfl]
        obtain ⟨b, ns, rfl, hn, hb⟩ := q i x hx
        refine ⟨_, rfl, b, ns, rfl, SqT.of (h2 _ _ (s1 _ _ hb)), nz ns (List.mem_of_getElem? hn), fun m hm hm2 => ⟨_, h1, ?_, ?_, ?_⟩⟩
        · rw [List.length_map, List.length_map, List.length_take]
          exact Nat.lt_of_le_of_lt (Nat.min_le_right _ _) hl1
        · rw [upd_same, take_map_snocI _ _ _ _ hn, maxL_eq hm hm2]
        · intro b' o e'
          rw [upd_ne (ne_of_none e' hD)]
          exact h2 b' o e'
      rintro H2 ⟨h2, s2⟩
      rw [l, List.take_length] at h2
      refine ⟨D, nss.map maxL, rfl, SqL.of h2, by rw [List.length_map]; exact p.h1, fun m hm hm2 => ⟨_, rfl, _, _, rfl, rfl, ?_⟩⟩
      rw [maxL_eq hm hm2]
      exact q_bl (k H2 (s1.trans s2)) (by rw [fin true _ (decide_eq_true c1).symm rfl, Bool.true_and])
    · rw [decide_eq_false c1]
      exact iteF (q_bl (k H1 s1) (by rw [fin false _ (decide_eq_false c1).symm rfl, Bool.false_and]))
end
end K03
namespace K03
open PySem PySem.Spec PyProof.Rows L2 PySem.W LamX KA KW KU KL KT
open Evl (pss_cut tCut)
/-! ### a shape is made, or refused -/
def partErr (CB : Addr) (H : Hp) (E : XK) (p : Str) : Prop := ∀ d, H d = none → E (.ref CB) (some d) (upd H d (.xd [("part", .str p)]))
section
variable {P : Program} {w : World} {K : PySem.W.Frag} {mg : Str → Option Value} {base : Heap} (T : Top K mg) (SH : ShapeT K mg) (BE : BadShapeT P w K mg T.reel.C)
def spInitX (K : PySem.W.Frag) (C CB : Addr) : Sp := fun vs H Q E => ∃ (a dx : Addr) (x1 x2 x3 x4 : V) (b1 b2 b3 b4 : Bool), vs = [.ref a, x1, x2, x3, x4] ∧ Pl K H x1 b1 ∧ Pl K H x2 b2 ∧ Pl K H x3 b3 ∧ Pl K H x4 b4 ∧ H a = some (.ins C dx []) ∧
  (within x1 1 16 = false → partErr CB H E "height") ∧ ∀ h, x1 = .int h → 1 ≤ h → h ≤ 16 →
  (within x2 1 16 = false → partErr CB H E "width") ∧ ∀ w, x2 = .int w → 1 ≤ w → w ≤ 16 →
  (within x3 (-512) 511 = false → partErr CB H E "low") ∧ ∀ lo, x3 = .int lo → -512 ≤ lo → lo ≤ 511 →
  (within x4 lo 511 = false → partErr CB H E "high") ∧ ∀ hi, x4 = .int hi → lo ≤ hi → hi ≤ 511 →
  ∀ H', H' a = some (.ins C dx (shapeFs h w lo hi)) → (∀ b, b ≠ a → H' b = H b) → Q .non H'
include T BE in
theorem ok_initX : FnOk P w K mg base (L2.CX P w) 4 SH.f SH.d ["self", "height", "width", "low", "high"] (spInitX K SH.C BE.C) := by
  refine SH.F.okX sc_Shape_init (fun vs H Q E h => ?_) (fun cdv A outer s H vs Q E hr h => ?_)
  · obtain ⟨a, dx, x1, x2, x3, x4, _, _, _, _, rfl, _⟩ := h
    rfl
  · obtain ⟨a, dx, x1, x2, x3, x4, b1, b2, b3, b4, rfl, p1, p2, p3, p4, ha, e1, k1⟩ := h
    obtain ⟨t1, hc1⟩ := T.cMOST_SPOTS
    obtain ⟨t2, hc2⟩ := T.cLOWEST
    obtain ⟨t3, hc3⟩ := T.cHIGHEST
    refine ⟨_, pss_cons (ps_if (pt_not (pt_val (pe_call (ok_is_within T) (hr.mono (by decide)) (by rfl) T.is_within.m T.is_within.f.kp (bd_is_within T) .nil passE (pa_cons (pv 1) (pa_cons pe_int (pa_cons (pe_glob (v := .int 16) (by rfl) hc1 ⟨_, rfl⟩) pa_nil))))))
        (pss_one (ps_raiseUp rfl BE.u BE.g hr (takes_of rfl rfl rfl rfl) (pa_cons pe_str pa_nil) (by rfl))) pss_nil)
      (pss_cons (ps_if (pt_not (pt_val (pe_call (ok_is_within T) (hr.mono (by decide)) (by rfl) T.is_within.m T.is_within.f.kp (bd_is_within T) .nil passE (pa_cons (pv 2) (pa_cons pe_int (pa_cons (pe_glob (v := .int 16) (by rfl) hc1 ⟨_, rfl⟩) pa_nil))))))
        (pss_one (ps_raiseUp rfl BE.u BE.g hr (takes_of rfl rfl rfl rfl) (pa_cons pe_str pa_nil) (by rfl))) pss_nil)
      (pss_cons (ps_if (pt_not (pt_val (pe_call (ok_is_within T) (hr.mono (by decide)) (by rfl) T.is_within.m T.is_within.f.kp (bd_is_within T) .nil passE (pa_cons (pv 3) (pa_cons (pe_glob (v := .int (-512)) (by rfl) hc2 ⟨_, rfl⟩) (pa_cons (pe_glob (v := .int 511) (by rfl) hc3 ⟨_, rfl⟩) pa_nil))))))
        (pss_one (ps_raiseUp rfl BE.u BE.g hr (takes_of rfl rfl rfl rfl) (pa_cons pe_str pa_nil) (by rfl))) pss_nil)
      (pss_cons (ps_if (pt_not (pt_val (pe_call (ok_is_within T) (hr.mono (by decide)) (by rfl) T.is_within.m T.is_within.f.kp (bd_is_within T) .nil passE (pa_cons (pv 4) (pa_cons (pv 3) (pa_cons (pe_glob (v := .int 511) (by rfl) hc3 ⟨_, rfl⟩) pa_nil))))))
        (pss_one (ps_raiseUp rfl BE.u BE.g hr (takes_of rfl rfl rfl rfl) (pa_cons pe_str pa_nil) (by rfl))) pss_nil)
      (pss_cons (ps_fld (pv 0) (pv 1) rfl) (pss_cons (ps_fld (pv 0) (pv 2) rfl) (pss_cons (ps_fld (pv 0) (pv 3) rfl) (pss_cons (ps_fld (pv 0) (pv 4) rfl)
      (pss_one (ps_fld (pv 0) (pe_op op_fdiv (pe_op op_add (pv 3) (pv 4)) pe_int) rfl))))))))), ?_⟩
    refine ⟨_, rfl, _, b1, _, _, rfl, p1, _, rfl, iteNot (fun q => ?_) fun q => ?_⟩
    · refine ⟨_, rfl, fun v' r => ?_, e1 q⟩
      obtain ⟨t, rfl⟩ := r
      exact BE.sayS _ t (by decide)
    obtain ⟨ht, rfl, h1, h2⟩ := within_int q
    obtain ⟨e2, k2⟩ := k1 ht rfl h1 h2
    refine ⟨_, rfl, _, b2, _, _, rfl, p2, _, rfl, iteNot (fun q => ?_) fun q => ?_⟩
    · refine ⟨_, rfl, fun v' r => ?_, e2 q⟩
      obtain ⟨t, rfl⟩ := r
      exact BE.sayS _ t (by decide)
    obtain ⟨wd, rfl, h3, h4⟩ := within_int q
    obtain ⟨e3, k3⟩ := k2 wd rfl h3 h4
    refine ⟨_, rfl, _, b3, _, _, rfl, p3, _, rfl, iteNot (fun q => ?_) fun q => ?_⟩
    · refine ⟨_, rfl, fun v' r => ?_, e3 q⟩
      obtain ⟨t, rfl⟩ := r
      exact BE.sayS _ t (by decide)
    obtain ⟨lo, rfl, h5, h6⟩ := within_int q
    obtain ⟨e4, k4⟩ := k3 lo rfl h5 h6
    refine ⟨_, rfl, _, rfl, _, b4, _, _, rfl, p4, _, rfl, iteNot (fun q => ?_) fun q => ?_⟩
    · refine ⟨_, rfl, fun v' r => ?_, e4 q⟩
      obtain ⟨t, rfl⟩ := r
      exact BE.sayS _ t (by decide)
    obtain ⟨hi, rfl, h7, h8⟩ := within_int q
    have k := k4 hi rfl h7 h8
    refine ⟨_, rfl, _, rfl, a, SH.C, dx, [], rfl, ha, SH.i.cl, SH.n1, by decide, _, rfl, _, rfl, a, SH.C, dx, _, rfl, upd_same, SH.i.cl, SH.n2, (by show 1 < 1000; decide), _, rfl, _, rfl, a, SH.C, dx, _, rfl, upd_same, SH.i.cl, SH.n3, (by show 2 < 1000; decide),
      _, rfl, _, rfl, a, SH.C, dx, _, rfl, upd_same, SH.i.cl, SH.n4, (by show 3 < 1000; decide), _, rfl, _, rfl, _, _, rfl, rfl, _, _, rfl, rfl, ⟨by decide, by decide⟩, _, rfl, a, SH.C, dx, _, rfl, upd_same, SH.i.cl, SH.n5, (by show 4 < 1000; decide), ?_⟩
    refine k _ upd_same fun b hb => ?_
    rw [upd_ne hb, upd_ne hb, upd_ne hb, upd_ne hb, upd_ne hb]
end
end K03
namespace K03
open PySem PySem.Spec PyProof.Rows L2 PySem.W LamX KA KW KU KL KT
open Evl (pss_cut tCut)
/-! ### == of shapes -/
structure ShapeQ (K : PySem.W.Frag) (mg : Str → Option Value) (S : ShapeT K mg) where
  f : Addr
  d : FuncData
  F : Fun K "__eq__" "Shape.__eq__" s_Shape_eq f d
  s : PySem.W.findIn K (.ref S.C) "__eq__" = some (some (.ref f))
  i : PySem.W.isFn K (.ref f) = true
  n : PySem.W.findIn K (.ref S.C) "__ne__" = some (some (.builtin "object.__ne__"))
  o : PySem.W.mroIn K S.C (.type "object") = some true
  kT : PySem.W.kitOne K (.type "tuple") (.ref S.C) = some false
  sT : PySem.W.subIn K (.type "tuple") (.ref S.C) = some false
  sN : PySem.W.subIn K (.type "NoneType") (.ref S.C) = some false
/-- x is a shape with these parts -/
def Sh (C : Addr) (H : Hp) (x : V) (h w lo hi : Int) : Prop := ∃ (a dx : Addr), x = .ref a ∧ H a = some (.ins C dx (shapeFs h w lo hi))
theorem Sh.keep {C : Addr} {H H' : Hp} {x : V} {h w lo hi : Int} (p : Sh C H x h w lo hi) (s : Same H H') : Sh C H' x h w lo hi := by
  obtain ⟨a, dx, rfl, e⟩ := p
  exact ⟨a, dx, rfl, s _ _ e⟩
/-- what a shape is held against: a shape, a tuple, None -/
inductive Ag (C : Addr) (H : Hp) (h w lo hi : Int) : V → Bool → Prop where
  | sh {y : V} {h' w' lo' hi' : Int} (p : Sh C H y h' w' lo' hi') : Ag C H h w lo hi y (decide (h = h') && decide (w = w') && decide (lo = lo') && decide (hi = hi'))
  | tup {a : Addr} {xs : List V} (e : H a = some (.tup xs)) : Ag C H h w lo hi (.ref a) false
  | non : Ag C H h w lo hi .non false
def spEqS (C : Addr) : Sp := fun vs H Q _ => ∃ x y b h w lo hi, vs = [x, y] ∧ Sh C H x h w lo hi ∧ Ag C H h w lo hi y b ∧ Q (.bl b) H
section
variable {P : Program} {w : World} {K : PySem.W.Frag} {mg : Str → Option Value} {base : Heap} (T : Top K mg) (SH : ShapeT K mg) (SQ : ShapeQ K mg SH)
include T in
theorem ok_eq : FnOk P w K mg base (L2.CX P w) 1 SQ.f SQ.d ["self", "other"] (spEqS SH.C) := by
  refine SQ.F.okX sc_Shape_eq (fun vs H Q E h => ?_) (fun cdv A outer s H vs Q E hr h => ?_)
  · obtain ⟨x, y, _, _, _, _, _, rfl, _⟩ := h
    rfl
  · obtain ⟨x, y, b, ht, wd, lo, hi, rfl, ⟨a, dx, rfl, ha⟩, ag, k⟩ := h
    refine ⟨_, pss_one (ps_ret (pe_and (pe_callB call_isi (by rfl) T.b_isinstance PyProof.Rows.boot_isinstance (pa_cons (pv 1) (pa_cons (pe_glob (v := .ref SH.C) (by rfl) SH.g rfl) pa_nil)))
      (pe_and (pe_cmpR op_eq (pe_fld (pv 0) rfl) (pe_fld (pv 1) rfl) (nomark _)) (pe_and (pe_cmpR op_eq (pe_fld (pv 0) rfl) (pe_fld (pv 1) rfl) (nomark _))
      (pe_and (pe_cmpR op_eq (pe_fld (pv 0) rfl) (pe_fld (pv 1) rfl) (nomark _)) (pe_one (pe_cmpR op_eq (pe_fld (pv 0) rfl) (pe_fld (pv 1) rfl) (nomark _)))))))), ?_⟩
    cases ag with
    | tup e => exact ⟨_, rfl, _, _, _, _, false, rfl, .own _, .base (.tup e), SQ.kT, _, rfl, iteF k⟩
    | non => exact ⟨_, rfl, _, _, _, _, false, rfl, .own _, .base .non, SH.kN, _, rfl, iteF k⟩
    | sh p =>
      rename_i ht' wd' lo' hi'
      obtain ⟨b, dy, rfl, hb⟩ := p
      refine ⟨_, rfl, _, _, _, _, true, rfl, .own _, .base (.ins hb SH.i.cl SH.i.ha SH.i.hn SH.i.htk SH.i.hm), SH.i.me, _, rfl, iteT ?_⟩
      have sc : ∀ i j : Int, decide (V.int i = V.int j) = decide (i = j) := fun i j => decide_eq_decide.mpr ⟨fun z => V.int.inj z, fun z => by rw [z]⟩
      refine ⟨_, rfl, a, SH.C, dx, _, _, rfl, ha, SH.i.cl, SH.n1, rfl, _, rfl, b, SH.C, dy, _, _, rfl, hb, SH.i.cl, SH.n1, rfl, rfl, _, rfl, ?_⟩
      rw [sc]
      by_cases c1 : ht = ht'
      case neg => rw [decide_eq_false c1]; exact iteF (q_bl k (by simp [c1]))
      rw [decide_eq_true c1]
      refine iteT ⟨_, rfl, a, SH.C, dx, _, _, rfl, ha, SH.i.cl, SH.n2, rfl, _, rfl, b, SH.C, dy, _, _, rfl, hb, SH.i.cl, SH.n2, rfl, rfl, _, rfl, ?_⟩
      rw [sc]
      by_cases c2 : wd = wd'
      case neg => rw [decide_eq_false c2]; exact iteF (q_bl k (by simp [c2]))
      rw [decide_eq_true c2]
      refine iteT ⟨_, rfl, a, SH.C, dx, _, _, rfl, ha, SH.i.cl, SH.n3, rfl, _, rfl, b, SH.C, dy, _, _, rfl, hb, SH.i.cl, SH.n3, rfl, rfl, _, rfl, ?_⟩
      rw [sc]
      by_cases c3 : lo = lo'
      case neg => rw [decide_eq_false c3]; exact iteF (q_bl k (by simp [c3]))
      rw [decide_eq_true c3]
      refine iteT ⟨_, rfl, a, SH.C, dx, _, _, rfl, ha, SH.i.cl, SH.n4, rfl, _, rfl, b, SH.C, dy, _, _, rfl, hb, SH.i.cl, SH.n4, rfl, rfl, ?_⟩
      rw [sc]
      exact q_bl k (by simp [c1, c2, c3])
end
end K03
namespace K03
open PySem PySem.Spec PyProof.Rows L2 PySem.W LamX KA KW KU KL KT
open Evl (pss_cut tCut)
/-! ### planes of a shape -/
def allIn (lo hi : Int) : Option (List V) → Bool
  | some xs => xs.all fun x => within x lo hi
  | none => false
def planeB (o : Option (List (Option (List V)))) (h w lo hi : Int) : Bool := rowsB o && (match o with | some os => decide (((os.length : Nat) : Int) = h) && decide (((width0 os : Nat) : Int) = w) && os.all (allIn lo hi) | none => false)
theorem betB_in (nss : List (List Int)) (lo hi : Int) : (nss.map fun ns => some (ns.map V.int)).all (allIn lo hi) = betB nss lo hi := by
  rw [List.all_map]
  unfold betB
  congr 1
  funext ns
  show (ns.map V.int).all (fun x => within x lo hi) = _
  rw [List.all_map]
  rfl
theorem Pn.width {H : Hp} {a : Addr} {nss : List (List Int)} {w : Nat} (p : Pn H a nss w) : width0 (nss.map fun ns => some (ns.map V.int)) = w := by
  cases nss with
  | nil => exact absurd p.h1 (by simp)
  | cons ns nss =>
    show (ns.map V.int).length = w
    rw [List.length_map]
    exact p.ws ns List.mem_cons_self
theorem Pn.first {H : Hp} {a : Addr} {nss : List (List Int)} {w : Nat} (p : Pn H a nss w) : ∃ vs b ns, H a = some (.tup vs) ∧ vs.length = nss.length ∧ vs[0]? = some (.ref b) ∧ H b = some (.tup (ns.map V.int)) ∧ ns.length = w ∧ nss[0]? = some ns := by
  obtain ⟨vs, e, l, q⟩ := p.at'
  have h1 := p.h1
  obtain ⟨v0, hv0⟩ : ∃ v0, vs[0]? = some v0 := ⟨_, List.getElem?_eq_getElem (by omega)⟩
  obtain ⟨b, ns, rfl, hn, hb⟩ := q 0 v0 hv0
  exact ⟨vs, b, ns, e, l, hv0, hb, p.ws ns (List.mem_of_getElem? hn), hn⟩
def spFits (K : PySem.W.Frag) (C : Addr) : Sp := fun vs H Q _ => ∃ x y o h w lo hi, vs = [x, y] ∧ Sh C H x h w lo hi ∧ Th K H y o ∧ ∀ H', Same H H' → Q (.bl (planeB o h w lo hi)) H'
section
variable {P : Program} {w : World} {K : PySem.W.Frag} {mg : Str → Option Value} {base : Heap} (T : Top K mg) (SH : ShapeT K mg) (BE : BadShapeT P w K mg T.reel.C)
theorem ok_fits : FnOk P w K mg base (L2.CX P w) 4 T.fits_shape.a T.fits_shape.d ["shape", "thing"] (spFits K SH.C) := by
  refine T.fits_shape.f.okX sc_fits_shape (fun vs H Q E h => ?_) (fun cdv A outer s H vs Q E hr h => ?_)
  · obtain ⟨x, y, _, _, _, _, _, rfl, _⟩ := h
    rfl
  · obtain ⟨x, y, o, ht, wd, lo, hi, rfl, sh, th, k⟩ := h
    refine ⟨_, pss_one (ps_ret (pe_and (pe_call (ok_is_rows T) (hr.mono (by decide)) (by rfl) T.is_rows.m T.is_rows.f.kp (bd_is_rows T) .nil passE (pa_cons (pv 1) pa_nil))
      (pe_and (pe_cmpR op_eq (pe_callB call_len_seq (by rfl) T.b_len PySem.boot_len (pa_cons (pv 1) pa_nil)) (pe_fld (pv 0) rfl) (nomark _))
      (pe_and (pe_cmpR op_eq (pe_callB call_len_seq (by rfl) T.b_len PySem.boot_len (pa_cons (pe_ix ix_tup (pv 1) pe_int (fun _ _ => rfl)) pa_nil)) (pe_fld (pv 0) rfl) (nomark _))
      (pe_one (pe_call (ok_are_between T) (hr.mono (by decide)) (by rfl) T.are_between.m T.are_between.f.kp (bd_are_between T) .nil passE (pa_cons (pv 1) (pa_cons (pe_fld (pv 0) rfl) (pa_cons (pe_fld (pv 0) rfl) pa_nil))))))))), ?_⟩
    refine ⟨_, rfl, y, o, rfl, th, fun H1 s1 => ⟨_, rfl, ?_⟩⟩
    have sc : ∀ i j : Int, decide (V.int i = V.int j) = decide (i = j) := fun i j => decide_eq_decide.mpr ⟨fun z => V.int.inj z, fun z => by rw [z]⟩
    cases hg : rowsB o with
    | false => exact iteF (q_bl (k H1 s1) (by unfold planeB; rw [hg]; rfl))
    | true =>
      obtain ⟨a, nss, wn, rfl, pn, rfl⟩ := th.good hg
      have pn1 := pn.keep s1
      obtain ⟨b, dx, rfl, hb⟩ := sh.keep s1
      obtain ⟨vs, b0, ns, e, l, hv0, hb0, lw, hn⟩ := pn1.first
      have eq : planeB (some (nss.map fun ns => some (ns.map V.int))) ht wd lo hi = (decide (((nss.length : Nat) : Int) = ht) && decide (((wn : Nat) : Int) = wd) && betB nss lo hi) := by
        unfold planeB
        rw [hg, Bool.true_and]
        show (decide ((((nss.map fun ns => some (ns.map V.int)).length : Nat) : Int) = ht) && decide (((width0 (nss.map fun ns => some (ns.map V.int)) : Nat) : Int) = wd) && (nss.map fun ns => some (ns.map V.int)).all (allIn lo hi)) = _
        rw [betB_in, pn.width, List.length_map]
      rw [eq] at k
      refine iteT ⟨_, rfl, a, vs, rfl, .inr (SqT.of e), _, rfl, b, SH.C, dx, _, _, rfl, hb, SH.i.cl, SH.n1, rfl, rfl, _, rfl, ?_⟩
      rw [sc, l]
      by_cases c1 : ((nss.length : Nat) : Int) = ht
      case neg => rw [decide_eq_false c1]; exact iteF (q_bl (k H1 s1) (by rw [decide_eq_false c1]; rfl))
      rw [decide_eq_true c1]
      refine iteT ⟨_, rfl, a, vs, 0, _, rfl, rfl, SqT.of e, atI_nat (j := 0) hv0, _, ns.map V.int, rfl, .inr (SqT.of hb0), _, rfl, b, SH.C, dx, _, _, rfl, hb, SH.i.cl, SH.n2, rfl, rfl, _, rfl, ?_⟩
      rw [sc, List.length_map, lw]
      by_cases c2 : ((wn : Nat) : Int) = wd
      case neg => rw [decide_eq_false c2]; exact iteF (q_bl (k H1 s1) (by rw [decide_eq_false c2, Bool.and_false]; rfl))
      rw [decide_eq_true c2]
      refine iteT ⟨_, rfl, _, rfl, b, SH.C, dx, _, _, rfl, hb, SH.i.cl, SH.n3, rfl, _, rfl, b, SH.C, dx, _, _, rfl, hb, SH.i.cl, SH.n4, rfl, a, nss, wn, lo, hi, rfl, pn1, fun H2 s2 => ?_⟩
      exact q_bl (k H2 (s1.trans s2)) (by rw [decide_eq_true c1, decide_eq_true c2]; rfl)
end
end K03
namespace K03
open PySem PySem.Spec PyProof.Rows L2 PySem.W LamX KA KW KU KL KT
open Evl (pss_cut tCut)
/-! ### is_plane, flat_plane -/
/-- no shape -/
inductive NoS (H : Hp) : V → Prop where
  | int (i : Int) : NoS H (.int i)
  | bl (i : Bool) : NoS H (.bl i)
  | str (s : Str) : NoS H (.str s)
  | non : NoS H .non
  | tup {a : Addr} {xs : List V} (e : H a = some (.tup xs)) : NoS H (.ref a)
theorem NoS.keep {H H' : Hp} {x : V} (h : NoS H x) (s : Same H H') : NoS H' x := by
  cases h with
  | int i => exact .int i
  | bl i => exact .bl i
  | str i => exact .str i
  | non => exact .non
  | tup e => exact .tup (s _ _ e)
theorem NoS.ty {K : PySem.W.Frag} {mg : Str → Option Value} {H : Hp} {x : V} (S : ShapeT K mg) (SQ : ShapeQ K mg S) (kB : PySem.W.kitOne K (.type "bool") (.ref S.C) = some false) (h : NoS H x) : ∃ t, TyX K H x t ∧ PySem.W.kitOne K t (.ref S.C) = some false := by
  cases h with
  | int i => exact ⟨_, .base (.int i), S.kI⟩
  | bl i => exact ⟨_, .base (.bl i), kB⟩
  | str i => exact ⟨_, .base (.str i), S.kS⟩
  | non => exact ⟨_, .base .non, S.kN⟩
  | tup e => exact ⟨_, .base (.tup e), SQ.kT⟩
section
variable {P : Program} {w : World} {K : PySem.W.Frag} {mg : Str → Option Value} {base : Heap} (T : Top K mg) (SH : ShapeT K mg) (SQ : ShapeQ K mg SH) (kB : PySem.W.kitOne K (.type "bool") (.ref SH.C) = some false) (BE : BadShapeT P w K mg T.reel.C)
/-- a shape with good parts or none -/
def ShOr (C CB : Addr) (k : Int → Int → Int → Int → Hp → VK → XK → Prop) (x : V) : Hp → VK → XK → Prop := fun H Q E => (∃ h w lo hi, Sh C H x h w lo hi ∧ k h w lo hi H Q E) ∨ (NoS H x ∧ noShape CB H E)
def spCheckS2 (C CB : Addr) : Sp := fun vs H Q E => ∃ x, vs = [x] ∧ ShOr C CB (fun _ _ _ _ H Q _ => Q .non H) x H Q E
include SQ kB in
theorem ok_check2 : FnOk P w K mg base (L2.CX P w) 4 T.check_shape.a T.check_shape.d ["shape"] (spCheckS2 SH.C BE.C) := by
  refine T.check_shape.f.okX sc_check_shape (fun vs H Q E h => ?_) (fun cdv A outer s H vs Q E hr h => ?_)
  · obtain ⟨x, rfl, _⟩ := h
    rfl
  · obtain ⟨x, rfl, h⟩ := h
    refine ⟨_, pss_one (ps_if (pt_not (pt_val (pe_callB call_isi (by rfl) T.b_isinstance PyProof.Rows.boot_isinstance (pa_cons (pv 0) (pa_cons (pe_glob (v := .ref SH.C) (by rfl) SH.g rfl) pa_nil)))))
      (pss_one (ps_raiseUp rfl BE.u BE.g hr (takes_of rfl rfl rfl rfl) (pa_cons pe_non pa_nil) (by rfl))) pss_nil), ?_⟩
    rcases h with ⟨ht, wd, lo, hi, ⟨a, dx, rfl, ha⟩, k⟩ | ⟨ho, k⟩
    · exact ⟨_, rfl, _, _, _, _, true, rfl, .own _, .base (.ins ha SH.i.cl SH.i.ha SH.i.hn SH.i.htk SH.i.hm), SH.i.me, _, rfl, iteF k⟩
    · obtain ⟨t, ht, hk⟩ := ho.ty SH SQ kB
      refine ⟨_, rfl, x, _, _, _, false, rfl, .own _, ht, hk, _, rfl, iteT ⟨_, rfl, fun v' r => ?_, k⟩⟩
      cases r
      exact BE.sayN
def spIsPlane (K : PySem.W.Frag) (C CB : Addr) : Sp := fun vs H Q E => ∃ x y o, vs = [x, y] ∧ Th K H y o ∧ ShOr C CB (fun h w lo hi H Q _ => ∀ H', Same H H' → Q (.bl (planeB o h w lo hi)) H') x H Q E
include SQ kB in
theorem ok_is_plane : FnOk P w K mg base (L2.CX P w) 5 T.is_plane.a T.is_plane.d ["shape", "thing"] (spIsPlane K SH.C BE.C) := by
  refine T.is_plane.f.okX sc_is_plane (fun vs H Q E h => ?_) (fun cdv A outer s H vs Q E hr h => ?_)
  · obtain ⟨x, y, o, rfl, _⟩ := h
    rfl
  · obtain ⟨x, y, o, rfl, th, h⟩ := h
    refine ⟨_, pss_cons (ps_expr (pe_call (ok_check2 T SH SQ kB BE) (hr.mono (by decide)) (by rfl) T.check_shape.m T.check_shape.f.kp (bd_check_shape T) .nil (passX rfl rfl rfl rfl) (pa_cons (pv 0) pa_nil)))
      (pss_one (ps_ret (pe_call (ok_fits T SH) (hr.mono (by decide)) (by rfl) T.fits_shape.m T.fits_shape.f.kp (bd_fits_shape T) .nil passE (pa_cons (pv 0) (pa_cons (pv 1) pa_nil))))), ?_⟩
    rcases h with ⟨ht, wd, lo, hi, sh, k⟩ | ⟨ho, k⟩
    · exact ⟨_, rfl, x, rfl, .inl ⟨ht, wd, lo, hi, sh, _, rfl, _, rfl, x, y, o, ht, wd, lo, hi, rfl, sh, th, k⟩⟩
    · exact ⟨_, rfl, x, rfl, .inr ⟨ho, k⟩⟩
/-- the flat plane: its rows are one tuple, ht times -/
def FlatQ (H : Hp) (Q : VK) (h w : Int) (i : Int) : Prop := ∀ (H' : Hp) (a b : Addr), Same H H' → H' b = some (.tup (List.replicate w.toNat (V.int i))) → H' a = some (.tup (List.replicate h.toNat (V.ref b))) → Q (.ref a) H'
def spFlat (K : PySem.W.Frag) (C CB CN : Addr) : Sp := fun vs H Q E => ∃ x y yb, vs = [x, y] ∧ Pl K H y yb ∧ ShOr C CB (fun h w lo hi H Q E => 1 ≤ h ∧ h ≤ 16 ∧ 1 ≤ w ∧ w ≤ 16 ∧ (within y lo hi = false → E (.ref CN) none H) ∧ ∀ i, y = .int i → lo ≤ i → i ≤ hi → FlatQ H Q h w i) x H Q E
theorem rep_one {α : Type} (k : Nat) (x : α) : (List.replicate k [x]).flatten = List.replicate k x := by
  induction k with
  | zero => rfl
  | succ k ih => rw [List.replicate_succ, List.flatten_cons, ih]; rfl
include SQ kB in
theorem ok_flat : FnOk P w K mg base (L2.CX P w) 5 T.flat_plane.a T.flat_plane.d ["shape", "number"] (spFlat K SH.C BE.C T.BadNumber.C) := by
  refine T.flat_plane.f.okX sc_flat_plane (fun vs H Q E h => ?_) (fun cdv A outer s H vs Q E hr h => ?_)
  · obtain ⟨x, y, o, rfl, _⟩ := h
    rfl
  · obtain ⟨x, y, yb, rfl, hy, h⟩ := h
    refine ⟨_, pss_cons (ps_expr (pe_call (ok_check2 T SH SQ kB BE) (hr.mono (by decide)) (by rfl) T.check_shape.m T.check_shape.f.kp (bd_check_shape T) .nil (passX rfl rfl rfl rfl) (pa_cons (pv 0) pa_nil)))
      (pss_cons (ps_if (pt_not (pt_val (pe_call (ok_is_within T) (hr.mono (by decide)) (by rfl) T.is_within.m T.is_within.f.kp (bd_is_within T) .nil passE (pa_cons (pv 1) (pa_cons (pe_fld (pv 0) rfl) (pa_cons (pe_fld (pv 0) rfl) pa_nil))))))
        (pss_one (ps_raiseT rfl rfl T.BadNumber (by rfl) rfl (takes_of rfl rfl rfl rfl))) pss_nil)
      (pss_one (ps_ret (pe_op op_repA (pe_tup (pa_cons (pe_op op_repA (pe_tup (pa_cons (pv 1) pa_nil)) (pe_fld (pv 0) rfl)) pa_nil)) (pe_fld (pv 0) rfl))))), ?_⟩
    rcases h with ⟨ht, wd, lo, hi, sh, h1, h2, h3, h4, k1, k2⟩ | ⟨ho, k⟩
    case inr => exact ⟨_, rfl, x, rfl, .inr ⟨ho, k⟩⟩
    refine ⟨_, rfl, x, rfl, .inl ⟨ht, wd, lo, hi, sh, ?_⟩⟩
    obtain ⟨a, dx, rfl, ha⟩ := sh
    refine ⟨_, rfl, _, rfl, a, SH.C, dx, _, _, rfl, ha, SH.i.cl, SH.n3, rfl, _, rfl, a, SH.C, dx, _, _, rfl, ha, SH.i.cl, SH.n4, rfl, y, yb, _, _, rfl, hy, _, rfl, iteNot k1 fun q => ?_⟩
    obtain ⟨i, rfl, h5, h6⟩ := within_int q
    have k := k2 i rfl h5 h6
    refine ⟨_, rfl, (by show 1 ≤ sizeLine; decide), fun p1 hp1 => ?_⟩
    have s1 : Same H (upd H p1 (.tup [.int i])) := Same.new hp1
    have t1 : (upd H p1 (.tup [V.int i])) p1 = some (.tup [.int i]) := upd_same
    generalize upd H p1 (.tup [V.int i]) = H1 at s1 t1 ⊢
    refine ⟨_, rfl, a, SH.C, dx, _, _, rfl, s1 _ _ ha, SH.i.cl, SH.n2, rfl, ?_⟩
    refine ⟨p1, wd, [.int i], rfl, rfl, SqT.of t1, by simp, h3, by omega, by simp, fun c => ?_, fun c p2 hp2 => ?_⟩
    · have s2 : Same H1 H1 := fun _ _ e => e
      have t2 : H1 p1 = some (.tup (List.replicate wd.toNat (V.int i))) := by
        rw [t1, c]
        rfl
      refine ⟨(by show 1 ≤ sizeLine; decide), fun p3 hp3 => ?_⟩
      have s3 : Same H (upd H1 p3 (.tup [.ref p1])) := (s1.trans s2).trans (Same.new hp3)
      have t3 : (upd H1 p3 (.tup [V.ref p1])) p3 = some (.tup [.ref p1]) := upd_same
      have t4 := (Same.new (o := .tup [V.ref p1]) hp3) _ _ t2
      generalize upd H1 p3 (.tup [V.ref p1]) = H3 at s3 t3 t4 ⊢
      refine ⟨_, rfl, a, SH.C, dx, _, _, rfl, s3 _ _ ha, SH.i.cl, SH.n1, rfl, p3, ht, [.ref p1], rfl, rfl, SqT.of t3, by simp, h1, by omega, by simp, fun c => ?_, fun c p4 hp4 => ?_⟩
      · exact k H3 p3 p1 s3 t4 (by rw [t3, c]; rfl)
      · refine k _ p4 p1 (s3.trans (Same.new hp4)) ((Same.new hp4) _ _ t4) ?_
        rw [upd_same, rep_one]
    · have s2 : Same H1 (upd H1 p2 (.tup (List.replicate wd.toNat [V.int i]).flatten)) := Same.new hp2
      have t2 : (upd H1 p2 (.tup (List.replicate wd.toNat [V.int i]).flatten)) p2 = some (.tup (List.replicate wd.toNat (V.int i))) := by
        rw [upd_same, rep_one]
      generalize upd H1 p2 (.tup (List.replicate wd.toNat [V.int i]).flatten) = H2 at s2 t2 ⊢
      refine ⟨(by show 1 ≤ sizeLine; decide), fun p3 hp3 => ?_⟩
      have s3 : Same H (upd H2 p3 (.tup [.ref p2])) := (s1.trans s2).trans (Same.new hp3)
      have t3 : (upd H2 p3 (.tup [V.ref p2])) p3 = some (.tup [.ref p2]) := upd_same
      have t4 := (Same.new (o := .tup [V.ref p2]) hp3) _ _ t2
      generalize upd H2 p3 (.tup [V.ref p2]) = H3 at s3 t3 t4 ⊢
      refine ⟨_, rfl, a, SH.C, dx, _, _, rfl, s3 _ _ ha, SH.i.cl, SH.n1, rfl, p3, ht, [.ref p2], rfl, rfl, SqT.of t3, by simp, h1, by omega, by simp, fun c => ?_, fun c p4 hp4 => ?_⟩
      · exact k H3 p3 p2 s3 t4 (by rw [t3, c]; rfl)
      · refine k _ p4 p2 (s3.trans (Same.new hp4)) ((Same.new hp4) _ _ t4) ?_
        rw [upd_same, rep_one]
end
end K03
namespace K03
open PySem PySem.Spec PyProof.Rows L2 PySem.W LamX KA KW KU KL KT
open Evl (pss_cut tCut)
/-! ### turned -/
def turnB (o : Option (List (Option (List V)))) : Bool := rowsB o && (match o with | some os => os.all (allIn (-512) 511) | none => false)
def trans (nss : List (List Int)) (w : Nat) : List (List Int) := (List.range w).map fun j => nss.map fun ns => ns.getD j 0
def rTupOf (K : PySem.W.Frag) : List V → Hp → VK → Prop := fun xs H Q => ∃ p ys, xs = [.ref p] ∧ ((SqL K H p ys ∧ ∀ l, H l = none → Q (.ref l) (upd H l (.tup ys))) ∨ (SqT K H p ys ∧ Q (.ref p) H))
/-- these values are tuples of these numbers -/
def Rows (H : Hp) (rs : List V) (mss : List (List Int)) : Prop := rs.length = mss.length ∧ ∀ (j : Nat) (v : V), rs[j]? = some v → ∃ b ns, v = .ref b ∧ mss[j]? = some ns ∧ H b = some (.tup (ns.map V.int))
theorem Rows.keep {H H' : Hp} {rs : List V} {mss : List (List Int)} (r : Rows H rs mss) (s : Same H H') : Rows H' rs mss := ⟨r.1, fun j v e => by
  obtain ⟨b, ns, e1, e2, e3⟩ := r.2 j v e
  exact ⟨b, ns, e1, e2, s _ _ e3⟩⟩
theorem Rows.put {H : Hp} {rs xs : List V} {mss : List (List Int)} {D : Addr} {o : HO} (r : Rows H rs mss) (h : H D = some (.lst xs)) : Rows (upd H D o) rs mss := ⟨r.1, fun j v e => by
  obtain ⟨b, ns, e1, e2, e3⟩ := r.2 j v e
  refine ⟨b, ns, e1, e2, ?_⟩
  rw [upd_ne (fun z => by rw [z, h] at e3; cases e3)]
  exact e3⟩
theorem Rows.snoc {H : Hp} {rs : List V} {mss : List (List Int)} {p : Addr} {ms : List Int} (r : Rows H rs mss) (h : H p = some (.tup (ms.map V.int))) : Rows H (rs ++ [.ref p]) (mss ++ [ms]) := by
  refine ⟨by simp [r.1], fun j v e => ?_⟩
  by_cases c : j < rs.length
  · rw [List.getElem?_append_left c] at e
    obtain ⟨b, ns, e1, e2, e3⟩ := r.2 j v e
    exact ⟨b, ns, e1, by rw [List.getElem?_append_left (by rw [← r.1]; exact c)]; exact e2, e3⟩
  · rw [List.getElem?_append_right (by omega)] at e
    have hj : j - rs.length = 0 := by
      rcases Nat.eq_zero_or_pos (j - rs.length) with h | h
      · exact h
      · rw [List.getElem?_eq_none (by simp; omega)] at e
        cases e
    rw [hj] at e
    have := Option.some.inj e
    subst this
    refine ⟨p, ms, rfl, ?_, h⟩
    rw [List.getElem?_append_right (by rw [← r.1]; omega), ← r.1, hj]
    rfl
theorem Rows.nil {H : Hp} : Rows H [] [] := ⟨rfl, fun j v e => by simp at e⟩
theorem Rows.pn {H : Hp} {rs : List V} {mss : List (List Int)} {a : Addr} {w : Nat} (r : Rows H rs mss) (e : H a = some (.tup rs)) (h1 : 1 ≤ mss.length) (h2 : mss.length ≤ 16) (w1 : 1 ≤ w) (w2 : w ≤ 16) (ws : ∀ ns ∈ mss, ns.length = w) : Pn H a mss w := ⟨⟨rs, e, r⟩, h1, h2, w1, w2, ws⟩
theorem Pn.rows {H : Hp} {a : Addr} {nss : List (List Int)} {w : Nat} (p : Pn H a nss w) : ∃ vs, H a = some (.tup vs) ∧ Rows H vs nss := p.at'
theorem Rows.rev {H : Hp} {rs : List V} {mss : List (List Int)} (r : Rows H rs mss) : Rows H rs.reverse mss.reverse := by
  refine ⟨by simp [r.1], fun j v e => ?_⟩
  have hj : j < rs.length := by
    rcases Nat.lt_or_ge j rs.length with h | h
    · exact h
    · rw [List.getElem?_eq_none (by simpa using h)] at e
      cases e
  rw [List.getElem?_reverse hj] at e
  obtain ⟨b, ns, e1, e2, e3⟩ := r.2 _ v e
  exact ⟨b, ns, e1, by rw [List.getElem?_reverse (by rw [← r.1]; exact hj), ← r.1]; exact e2, e3⟩
theorem take_snoc {α β : Type} {xs : List α} (f : α → β) {i : Nat} {x : α} (h : xs[i]? = some x) : (xs.take (i + 1)).map f = (xs.take i).map f ++ [f x] := by
  rw [List.take_add_one, h, List.map_append]
  rfl
theorem Same.put {H H' : Hp} {D : Addr} {o : HO} (s : Same H H') (h : H D = none) : Same H (upd H' D o) := fun b o e => by
  rw [upd_ne (ne_of_none e h)]
  exact s b o e
/-- what a plane is turned by -/
inductive Sc : V → Prop where
  | int (i : Int) : Sc (.int i)
  | str (s : Str) : Sc (.str s)
  | non : Sc .non
def Turn (H : Hp) (Q : VK) (nss : List (List Int)) (w : Nat) : Prop := ∀ (H' : Hp) (a : Addr), Same H H' → Pn H' a nss w → Q (.ref a) H'
def spTurned (K : PySem.W.Frag) (CP CW : Addr) : Sp := fun vs H Q E => ∃ x y o, vs = [x, y] ∧ Sc y ∧ Th K H x o ∧ (turnB o = false → ∀ H', Same H H' → E (.ref CP) none H') ∧
  ∀ a nss w, x = .ref a → Pn H a nss w → betB nss (-512) 511 = true → (y = .str "sideways" → Turn H Q (nss.map List.reverse) w) ∧ (y = .str "upside" → Turn H Q nss.reverse w) ∧ (y = .str "corner" → Turn H Q (trans nss w) nss.length) ∧
    (y ≠ .str "sideways" → y ≠ .str "upside" → y ≠ .str "corner" → ∀ H', Same H H' → E (.ref CW) none H')
section
variable {P : Program} {w : World} {K : PySem.W.Frag} {mg : Str → Option Value} {base : Heap} (T : Top K mg)
theorem ok_turned : FnOk P w K mg base (L2.CX P w) 4 T.turned.a T.turned.d ["plane", "way"] (spTurned K T.BadPlane.C T.BadWay.C) := by
  refine T.turned.f.okX sc_turned (fun vs H Q E h => ?_) (fun cdv A outer s H vs Q E hr h => ?_)
  · obtain ⟨x, y, o, rfl, _⟩ := h
    rfl
  · obtain ⟨x, y, o, rfl, hy, th, k1, k2⟩ := h
    obtain ⟨t2, hc2⟩ := T.cLOWEST
    obtain ⟨t3, hc3⟩ := T.cHIGHEST
    refine ⟨_, pss_cons (ps_if (PW.pt (pw_or (pt_not (pt_val (pe_call (ok_is_rows T) (hr.mono (by decide)) (by rfl) T.is_rows.m T.is_rows.f.kp (bd_is_rows T) .nil passE (pa_cons (pv 0) pa_nil))))
        (pw_or1 (pt_not (pt_val (pe_call (ok_are_between T) (hr.mono (by decide)) (by rfl) T.are_between.m T.are_between.f.kp (bd_are_between T) .nil passE (pa_cons (pv 0) (pa_cons (pe_glob (v := .int (-512)) (by rfl) hc2 ⟨_, rfl⟩) (pa_cons (pe_glob (v := .int 511) (by rfl) hc3 ⟨_, rfl⟩) pa_nil)))))))))
        (pss_one (ps_raiseT rfl rfl T.BadPlane (by rfl) rfl (takes_of rfl rfl rfl rfl))) pss_nil)
      (pss_cons (ps_if (pt_cmpR op_eq (pv 1) pe_str (nomark _))
        (pss_one (ps_ret (pe_callTy call_tuple_of (by rfl) T.b_tuple (by decide +kernel) (pa_cons (pe_lc (own := [("row", 2)]) (g := gName 2) (tt := tYes) rfl sc_turned.nd (pi_tup (pv 0)) (blkOk_by (own := [("row", 2)]) (N := ["plane", "way", "row", "x"]) (sc := defScope s_turned) (by decide +kernel))
          (fun _ _ _ _ _ => pg_name (i := 2) sc_turned.nd rfl (Or.inl rfl)) (fun _ _ _ _ _ => pts_nil) (fun _ _ _ _ _ => show PE _ _ (tRevT K (tVar 2)) from pe_revT (pv 2))) pa_nil)))) pss_nil)
      (pss_cons (ps_if (pt_cmpR op_eq (pv 1) pe_str (nomark _)) (pss_one (ps_ret (pe_revT (pv 0)))) pss_nil)
      (pss_cons (ps_if (pt_cmpR op_eq (pv 1) pe_str (nomark _))
        (pss_one (ps_ret (pe_callTy call_tuple_of (by rfl) T.b_tuple (by decide +kernel) (pa_cons (pe_lc (own := [("x", 3)]) (g := gName 3) (tt := tYes) rfl sc_turned.nd (pi_range1 (by rfl) T.b_range (pa_cons (pe_callB call_len_seq (by rfl) T.b_len PySem.boot_len (pa_cons (pe_ix ix_tup (pv 0) pe_int (fun _ _ => rfl)) pa_nil)) pa_nil)) (blkOk_by (own := [("x", 3)]) (N := ["plane", "way", "row", "x"]) (sc := defScope s_turned) (by decide +kernel))
          (fun _ _ _ _ _ => pg_name (i := 3) sc_turned.nd rfl (Or.inr rfl)) (fun _ _ _ _ _ => pts_nil) (fun _ _ _ _ _ => pe_callTy (show CallR _ _ (rTupOf K) from call_tuple_of) (by rfl) T.b_tuple (by decide +kernel) (pa_cons (show PE _ _ (tLc (iTup K (tVar 0)) (gName 2) tYes (tOp (rIxT K) (tVar 2) (tVar 3)) [2]) from pe_lc (own := [("row", 2)]) (g := gName 2) (tt := tYes) rfl sc_turned.nd (pi_tup (pv 0)) (by show BlkOk ["plane", "way", "row", "x"] { kind := .function, names := [(".0", .local), ("x", .cell), ("tuple", .globalImplicit), ("plane", .cell)], isGenerator := false, isCoroutine := false } _ _; exact blkOk_by (by decide +kernel))
            (fun _ _ _ _ _ => pg_name (i := 2) sc_turned.nd rfl (Or.inl rfl)) (fun _ _ _ _ _ => pts_nil) (fun _ _ _ _ _ => show PE _ _ (tOp (rIxT K) (tVar 2) (tVar 3)) from pe_ix ix_tup (pv 2) (pv 3) (fun _ _ => rfl))) pa_nil))) pa_nil)))) pss_nil)
      (pss_one (ps_raiseT rfl rfl T.BadWay (by rfl) rfl (takes_of rfl rfl rfl rfl)))))), ?_⟩
    refine ⟨_, rfl, x, o, rfl, th, fun H1 s1 => ⟨_, rfl, ?_⟩⟩
    cases hg : rowsB o with
    | false => exact iteT (iteT (k1 (by unfold turnB; rw [hg]; rfl) H1 s1))
    | true =>
      obtain ⟨a, nss, wn, rfl, pn, rfl⟩ := th.good hg
      refine iteF ⟨_, rfl, a, nss, wn, -512, 511, rfl, pn.keep s1, fun H2 s2 => ⟨_, rfl, ?_⟩⟩
      have s12 := s1.trans s2
      have eqB : turnB (some (nss.map fun ns => some (ns.map V.int))) = betB nss (-512) 511 := by
        unfold turnB
        rw [hg, Bool.true_and]
        exact betB_in nss _ _
      cases hb : betB nss (-512) 511 with
      | false => exact iteT (k1 (by rw [eqB, hb]) H2 s12)
      | true =>
        obtain ⟨j1, j2, j3, j4⟩ := k2 a nss wn rfl pn hb
        have pn2 := pn.keep s12
        clear k1 k2 eqB
        have ysc : ∀ z : Str, scal y (.str z) = true := fun z => by cases hy <;> rfl
        refine iteF ⟨_, rfl, ysc _, _, rfl, ?_⟩
        obtain ⟨vs, e, rows⟩ := pn2.rows
        by_cases c1 : y = .str "sideways"
        · rw [decide_eq_true c1]
          refine iteT ⟨_, rfl, a, rfl, ⟨_, SqT.of e⟩, fun D hD => lc_tup (K := K) (a := a) (xs := vs) (fun i H' => ∃ rs, H' D = some (.lst rs) ∧ Rows H' rs ((nss.take i).map List.reverse) ∧ Same H2 H') ⟨[], upd_same, Rows.nil, Same.new hD⟩ (fun i H' _ h => SqT.of (h.choose_spec.2.2 _ _ e)) ?_ ?_⟩
          · rintro i x H' hx ⟨rs, h1, h2, h3⟩
            refine ⟨rfl, ?_⟩
            dsimp only [tYes]
            rw [if_pos rfl]
            obtain ⟨b, ns, rfl, hn, hb⟩ := rows.2 i x hx
            refine ⟨_, rfl, b, _, rfl, SqT.of (h3 _ _ hb), fun p hp => ⟨rs, (Same.new hp) _ _ h1, ?_, rs ++ [.ref p], upd_same, ?_, Same.put (h3.trans (Same.new hp)) hD⟩⟩
            · rw [h2.1, List.length_map, List.length_take]
              exact Nat.lt_of_le_of_lt (Nat.le_trans (Nat.min_le_right _ _) pn.h2) (by decide)
            · rw [take_snoc List.reverse hn]
              refine Rows.put (Rows.snoc (h2.keep (Same.new hp)) ?_) ((Same.new hp) _ _ h1)
              rw [upd_same, List.map_reverse]
          · rintro H3 ⟨rs, h1, h2, h3⟩
            rw [rows.1, List.take_length] at h2
            refine ⟨D, rs, rfl, .inl ⟨SqL.of h1, fun l hl => j1 c1 _ l ((s12.trans h3).trans (Same.new hl)) ?_⟩⟩
            refine Rows.pn (h2.keep (Same.new hl)) upd_same (by rw [List.length_map]; exact pn.h1) (by rw [List.length_map]; exact pn.h2) pn.w1 pn.w2 fun ms hm => ?_
            obtain ⟨ns, hn, rfl⟩ := List.mem_map.mp hm
            rw [List.length_reverse]
            exact pn.ws ns hn
        rw [decide_eq_false c1]
        refine iteF ⟨_, rfl, ysc _, _, rfl, ?_⟩
        by_cases c2 : y = .str "upside"
        · rw [decide_eq_true c2]
          refine iteT ⟨_, rfl, a, vs, rfl, SqT.of e, fun p hp => j2 c2 _ p (s12.trans (Same.new hp)) ?_⟩
          exact Rows.pn (rows.rev.keep (Same.new hp)) upd_same (by rw [List.length_reverse]; exact pn.h1) (by rw [List.length_reverse]; exact pn.h2) pn.w1 pn.w2 fun ms hm => pn.ws ms (List.mem_reverse.mp hm)
        rw [decide_eq_false c2]
        refine iteF ⟨_, rfl, ysc _, _, rfl, ?_⟩
        by_cases c3 : y = .str "corner"
        · rw [decide_eq_true c3]
          obtain ⟨vs', b0, ns0, e', l0, hv0, hb0, lw, hn0⟩ := pn2.first
          have ev : vs' = vs := by
            rw [e] at e'
            injection e' with e'
            injection e' with e'
            exact e'.symm
          subst ev
          refine iteT ⟨_, rfl, a, vs', 0, _, rfl, rfl, SqT.of e, atI_nat (j := 0) hv0, b0, ns0.map V.int, rfl, .inr (SqT.of hb0), ?_⟩
          rw [List.length_map, lw]
          have hw2 := pn.w2
          refine ⟨_, rfl, by omega, by omega, fun D hD => ?_⟩
          rw [Int.toNat_natCast]
          refine lc_range (lo := 0) (n := wn) (fun j H' => ∃ rs, H' D = some (.lst rs) ∧ Rows H' rs ((List.range j).map fun i => nss.map fun ns => ns.getD i 0) ∧ Same H2 H') ⟨[], upd_same, Rows.nil, Same.new hD⟩ ?_ ?_
          · rintro j H' hj ⟨rs, h1, h2, h3⟩
            refine ⟨rfl, ?_⟩
            dsimp only [tYes]
            rw [if_pos rfl]
            refine ⟨_, rfl, a, rfl, ⟨_, SqT.of (h3 _ _ e)⟩, fun D2 hD2 => lc_tup (K := K) (a := a) (xs := vs') (fun i H'' => H'' D2 = some (.lst (((nss.take i).map fun ns => ns.getD j 0).map V.int)) ∧ Same H' H'') ⟨upd_same, Same.new hD2⟩ (fun i H'' _ h => SqT.of (h.2 _ _ (h3 _ _ e))) ?_ ?_⟩
            · rintro i x H'' hx ⟨g1, g2⟩
              refine ⟨rfl, ?_⟩
              dsimp only [tYes]
              rw [if_pos rfl]
              obtain ⟨b, ns, rfl, hn, hb⟩ := rows.2 i x hx
              have hlj : j < ns.length := by rw [pn.ws ns (List.mem_of_getElem? hn)]; exact hj
              have hat : atI (ns.map V.int) (0 + (j : Int)) = some (.int (ns.getD j 0)) := by
                rw [Int.zero_add]
                refine atI_nat ?_
                rw [List.getElem?_map, List.getD_eq_getElem?_getD, List.getElem?_eq_getElem hlj]
                rfl
              refine ⟨_, rfl, _, rfl, b, ns.map V.int, _, _, rfl, rfl, SqT.of (g2 _ _ (h3 _ _ hb)), hat, _, g1, ?_, ?_, Same.put g2 hD2⟩
              · rw [List.length_map, List.length_map, List.length_take]
                exact Nat.lt_of_le_of_lt (Nat.le_trans (Nat.min_le_right _ _) pn.h2) (by decide)
              · rw [upd_same, take_snoc _ hn, List.map_append]
                rfl
            · rintro H'' ⟨g1, g2⟩
              rw [rows.1, List.take_length] at g1
              refine ⟨D2, _, rfl, .inl ⟨SqL.of g1, fun p hp => ?_⟩⟩
              have g3 := g2.trans (Same.new (o := .tup ((nss.map fun ns => ns.getD j 0).map V.int)) hp)
              refine ⟨rs, g3 _ _ h1, ?_, rs ++ [.ref p], upd_same, ?_, Same.put (h3.trans g3) hD⟩
              · rw [h2.1, List.length_map, List.length_range]
                exact Nat.lt_of_lt_of_le hj (Nat.le_trans hw2 (by decide))
              · rw [List.range_succ, List.map_append]
                exact Rows.put (Rows.snoc (h2.keep g3) upd_same) (g3 _ _ h1)
          · rintro H3 ⟨rs, h1, h2, h3⟩
            refine ⟨D, rs, rfl, .inl ⟨SqL.of h1, fun l hl => j3 c3 _ l ((s12.trans h3).trans (Same.new hl)) ?_⟩⟩
            refine Rows.pn (h2.keep (Same.new hl)) upd_same (by unfold trans; rw [List.length_map, List.length_range]; exact pn.w1) (by unfold trans; rw [List.length_map, List.length_range]; exact pn.w2) pn.h1 pn.h2 fun ms hm => ?_
            obtain ⟨j, _, rfl⟩ := List.mem_map.mp hm
            rw [List.length_map]
        rw [decide_eq_false c3]
        exact iteF (j4 c1 c2 c3 H2 s12)
end
end K03
namespace K03
open PySem PySem.Spec PyProof.Rows L2 PySem.W LamX KA KW KU KL KT
open Evl (pss_cut tCut)
/-! ### what is due of four values -/
def dueV (x1 x2 x3 x4 : V) : V :=
  if within x1 1 16 = true then (if within x2 1 16 = true then (if within x3 (-512) 511 = true then (match x3 with | .int lo => (if within x4 lo 511 = true then .non else .str "high") | _ => .non) else .str "low") else .str "width") else .str "height"
def spDue (K : PySem.W.Frag) : Sp := fun vs H Q _ => ∃ a x1 x2 x3 x4 b1 b2 b3 b4, vs = [.ref a] ∧ H a = some (.lst [x1, x2, x3, x4]) ∧ Pl K H x1 b1 ∧ Pl K H x2 b2 ∧ Pl K H x3 b3 ∧ Pl K H x4 b4 ∧ Q (dueV x1 x2 x3 x4) H
section
variable {P : Program} {w : World} {K : PySem.W.Frag} {mg : Str → Option Value} {base : Heap} (T : Top K mg)
theorem ok_whole : FnOk P w K mg base (L2.CX P w) 1 T._law_is_whole.a T._law_is_whole.d ["item"] (spNumber K) := by
  refine T._law_is_whole.f.okX sc__law_is_whole (fun vs H Q E h => ?_) (fun cdv A outer s H vs Q E hr h => ?_)
  · obtain ⟨x, b, rfl, _⟩ := h
    rfl
  · obtain ⟨x, b, rfl, hp, k⟩ := h
    refine ⟨_, pss_one (ps_ret (pe_and
      (pe_callB call_isi (by rfl) T.b_isinstance PyProof.Rows.boot_isinstance (pa_cons (pv 0) (pa_cons (pe_bltn (v := .ty "int") (by rfl) T.b_int PyProof.Rows.boot_int rfl) pa_nil)))
      (pe_one (pe_not (pe_callB call_isi (by rfl) T.b_isinstance PyProof.Rows.boot_isinstance (pa_cons (pv 0) (pa_cons (pe_bltn (v := .ty "bool") (by rfl) T.b_bool (by decide +kernel) rfl) pa_nil))))))), ?_⟩
    obtain ⟨t, ht, h1, h2, h3⟩ := hp.ty
    refine ⟨_, rfl, x, _, _, _, _, rfl, .ty "int", ht, kit_ty h1, _, rfl, ?_⟩
    cases e : (b || (t == "bool"))
    · rw [e] at h3
      refine iteF ?_
      exact q_bl k h3
    · rw [e] at h3
      refine iteT ?_
      refine ⟨_, rfl, x, _, _, _, _, rfl, .ty "bool", ht, kit_ty h2, _, rfl, ?_⟩
      exact q_bl k (by simpa using h3)
theorem pl_int {K : PySem.W.Frag} {H : Hp} {x : V} (h : Pl K H x true) : ∃ i, x = .int i := by
  cases h with
  | int i => exact ⟨i, rfl⟩
theorem within_no {K : PySem.W.Frag} {H : Hp} {x : V} {lo hi : Int} (h : Pl K H x false) : within x lo hi = false := by
  cases h <;> rfl
theorem within_i {i lo hi : Int} : within (.int i) lo hi = (decide (lo ≤ i) && decide (i ≤ hi)) := rfl
theorem q_v {Q : VK} {H : Hp} {a b : V} (k : Q b H) (e : b = a) : Q a H := e ▸ k
theorem ok_due : FnOk P w K mg base (L2.CX P w) 2 T._law_due.a T._law_due.d ["four"] (spDue K) := by
  refine T._law_due.f.okX sc__law_due (fun vs H Q E h => ?_) (fun cdv A outer s H vs Q E hr h => ?_)
  · obtain ⟨a, _, _, _, _, _, _, _, _, rfl, _⟩ := h
    rfl
  · obtain ⟨a, x1, x2, x3, x4, b1, b2, b3, b4, rfl, ha, p1, p2, p3, p4, k⟩ := h
    refine ⟨_, pss_cons (ps_asg (pv 0) (pg_lst rfl (pgs_cons (pg_name (i := 1) sc__law_due.nd rfl (.inl rfl)) (pgs_cons (pg_name (i := 2) sc__law_due.nd rfl (.inl rfl)) (pgs_cons (pg_name (i := 3) sc__law_due.nd rfl (.inl rfl)) (pgs_cons (pg_name (i := 4) sc__law_due.nd rfl (.inl rfl)) pgs_nil))))))
      (pss_cons (ps_if (PW.pt (pw_or (pt_not (pt_val (pe_call (ok_whole T) (hr.mono (by decide)) (by rfl) T._law_is_whole.m T._law_is_whole.f.kp (bd__law_is_whole T) .nil passE (pa_cons (pv 1) pa_nil)))) (pw_or1 (pt_not (pt_chain op_le op_le pe_int (pv 1) pe_int)))))
        (pss_one (ps_ret pe_str)) pss_nil)
      (pss_cons (ps_if (PW.pt (pw_or (pt_not (pt_val (pe_call (ok_whole T) (hr.mono (by decide)) (by rfl) T._law_is_whole.m T._law_is_whole.f.kp (bd__law_is_whole T) .nil passE (pa_cons (pv 2) pa_nil)))) (pw_or1 (pt_not (pt_chain op_le op_le pe_int (pv 2) pe_int)))))
        (pss_one (ps_ret pe_str)) pss_nil)
      (pss_cons (ps_if (PW.pt (pw_or (pt_not (pt_val (pe_call (ok_whole T) (hr.mono (by decide)) (by rfl) T._law_is_whole.m T._law_is_whole.f.kp (bd__law_is_whole T) .nil passE (pa_cons (pv 3) pa_nil)))) (pw_or1 (pt_not (pt_chain op_le op_le (pe_un un_neg pe_int) (pv 3) pe_int)))))
        (pss_one (ps_ret pe_str)) pss_nil)
      (pss_one (ps_ret (pe_ifExp (PW.pt (pw_and (pt_val (pe_call (ok_whole T) (hr.mono (by decide)) (by rfl) T._law_is_whole.m T._law_is_whole.f.kp (bd__law_is_whole T) .nil passE (pa_cons (pv 4) pa_nil))) (pw_and1 (pt_chain op_le op_le (pv 3) (pv 4) pe_int)))) pe_non pe_str)))))), ?_⟩
    refine ⟨_, rfl, a, _, rfl, SqL.of ha, rfl, _, _, rfl, _, _, rfl, _, _, rfl, _, _, rfl, rfl, ?_⟩
    refine ⟨_, rfl, x1, b1, rfl, p1, _, rfl, ?_⟩
    by_cases w1 : within x1 1 16 = true
    case neg =>
      have w1' : within x1 1 16 = false := by simpa using w1
      have bad : Q (.str "height") H := q_v k (by simp only [dueV, if_true, w1']; rfl)
      cases b1 with
      | false => exact iteT (iteT bad)
      | true =>
        obtain ⟨i, rfl⟩ := pl_int p1
        rw [within_i] at w1'
        refine iteF ⟨_, rfl, 1, i, rfl, rfl, _, rfl, ?_⟩
        by_cases c1 : 1 ≤ i
        · rw [decide_eq_true c1] at w1' ⊢
          refine iteT ⟨i, 16, rfl, rfl, _, rfl, ?_⟩
          have c2 : decide (i ≤ 16) = false := w1'
          rw [c2]
          exact iteT bad
        · rw [decide_eq_false c1]
          exact iteF ⟨_, rfl, iteT bad⟩
    obtain ⟨i1, rfl, g1, l1⟩ := within_int w1
    cases p1
    refine iteF ⟨_, rfl, 1, i1, rfl, rfl, _, rfl, ?_⟩
    rw [decide_eq_true g1]
    refine iteT ⟨i1, 16, rfl, rfl, _, rfl, ?_⟩
    rw [decide_eq_true l1]
    refine iteF ?_
    refine ⟨_, rfl, x2, b2, rfl, p2, _, rfl, ?_⟩
    by_cases w2 : within x2 1 16 = true
    case neg =>
      have w2' : within x2 1 16 = false := by simpa using w2
      have bad : Q (.str "width") H := q_v k (by simp only [dueV, w1, if_true, w2']; rfl)
      cases b2 with
      | false => exact iteT (iteT bad)
      | true =>
        obtain ⟨i, rfl⟩ := pl_int p2
        rw [within_i] at w2'
        refine iteF ⟨_, rfl, 1, i, rfl, rfl, _, rfl, ?_⟩
        by_cases c1 : 1 ≤ i
        · rw [decide_eq_true c1] at w2' ⊢
          refine iteT ⟨i, 16, rfl, rfl, _, rfl, ?_⟩
          have c2 : decide (i ≤ 16) = false := w2'
          rw [c2]
          exact iteT bad
        · rw [decide_eq_false c1]
          exact iteF ⟨_, rfl, iteT bad⟩
    obtain ⟨i2, rfl, g2, l2⟩ := within_int w2
    cases p2
    refine iteF ⟨_, rfl, 1, i2, rfl, rfl, _, rfl, ?_⟩
    rw [decide_eq_true g2]
    refine iteT ⟨i2, 16, rfl, rfl, _, rfl, ?_⟩
    rw [decide_eq_true l2]
    refine iteF ?_
    refine ⟨_, rfl, x3, b3, rfl, p3, _, rfl, ?_⟩
    by_cases w3 : within x3 (-512) 511 = true
    case neg =>
      have w3' : within x3 (-512) 511 = false := by simpa using w3
      have bad : Q (.str "low") H := q_v k (by simp only [dueV, w1, w2, if_true, w3']; rfl)
      cases b3 with
      | false => exact iteT (iteT bad)
      | true =>
        obtain ⟨i, rfl⟩ := pl_int p3
        rw [within_i] at w3'
        refine iteF ⟨512, rfl, _, rfl, (-512), i, rfl, rfl, _, rfl, ?_⟩
        by_cases c1 : (-512) ≤ i
        · rw [decide_eq_true c1] at w3' ⊢
          refine iteT ⟨i, 511, rfl, rfl, _, rfl, ?_⟩
          have c2 : decide (i ≤ 511) = false := w3'
          rw [c2]
          exact iteT bad
        · rw [decide_eq_false c1]
          exact iteF ⟨_, rfl, iteT bad⟩
    obtain ⟨i3, rfl, g3, l3⟩ := within_int w3
    cases p3
    refine iteF ⟨512, rfl, _, rfl, (-512), i3, rfl, rfl, _, rfl, ?_⟩
    rw [decide_eq_true g3]
    refine iteT ⟨i3, 511, rfl, rfl, _, rfl, ?_⟩
    rw [decide_eq_true l3]
    refine iteF ?_
    refine ⟨_, rfl, x4, b4, rfl, p4, _, rfl, ?_⟩
    have fin : ∀ r : V, r = (if within x4 i3 511 = true then .non else .str "high") → Q r H := fun r e => q_v k (by simp only [dueV, w1, w2, w3, if_true]; rw [e])
    cases b4 with
    | false => exact iteF (iteF (fin _ (by rw [within_no p4]; rfl)))
    | true =>
      obtain ⟨i, rfl⟩ := pl_int p4
      refine iteT ⟨_, rfl, _, rfl, i3, i, rfl, rfl, _, rfl, ?_⟩
      by_cases c1 : i3 ≤ i
      · rw [decide_eq_true c1]
        refine iteT ⟨i, 511, rfl, rfl, _, rfl, ?_⟩
        by_cases c2 : i ≤ 511
        · rw [decide_eq_true c2]
          exact iteT (fin _ (by rw [within_i, decide_eq_true c1, decide_eq_true c2]; rfl))
        · rw [decide_eq_false c2]
          exact iteF (fin _ (by rw [within_i, decide_eq_false c2, Bool.and_false]; rfl))
      · rw [decide_eq_false c1]
        exact iteF ⟨_, rfl, iteF (fin _ (by rw [within_i, decide_eq_false c1]; rfl))⟩
end
end K03
namespace K03
open PySem PySem.Spec PyProof.Rows L2 PySem.W LamX KA KW KU KL KT
open Evl (pss_cut tCut)
/-! ### whether it is a pane -/
inductive Fl : V → Prop where
  | int (i : Int) : Fl (.int i)
  | bl (b : Bool) : Fl (.bl b)
  | str (s : Str) (h : PyData.strOk s = true) : Fl (.str s)
  | non : Fl .non
theorem Fl.pl {K : PySem.W.Frag} {H : Hp} {x : V} (h : Fl x) : Pl K H x (isNum x) := by
  cases h with
  | int i => exact .int i
  | bl i => exact .bl i
  | str i _ => exact .str i
  | non => exact .non
def fd : V → PyData
  | .int i => .int i
  | .bl b => .bool b
  | .str s => .str s
  | _ => .none
theorem Fl.dp {K : PySem.W.Frag} {H : Hp} {x : V} (h : Fl x) : Dp K H x (fd x) := by
  cases h with
  | int i => exact .int i
  | bl i => exact .bl i
  | str i _ => exact .str i
  | non => exact .non
theorem dp_fl {K : PySem.W.Frag} {H : Hp} : ∀ {xs : List V}, (∀ x ∈ xs, Fl x) → DpAll K H xs (xs.map fd)
  | [], _ => .nil
  | x :: xs, h => .cons (h x List.mem_cons_self).dp (dp_fl fun y hy => h y (List.mem_cons_of_mem _ hy))
theorem fl_lay : ∀ xs : List V, (∀ x ∈ xs, Fl x) → PyData.canLayAll0 (xs.map fd) = true ∧ PyData.depthAll (xs.map fd) = 0
  | [], _ => ⟨rfl, rfl⟩
  | x :: xs, h => by
    obtain ⟨h1, h2⟩ := fl_lay xs fun y hy => h y (List.mem_cons_of_mem _ hy)
    cases h x List.mem_cons_self with
    | str s e => exact ⟨by simp [fd, PyData.canLayAll0, PyData.canLay0, h1, e], by simp [fd, PyData.depthAll, PyData.depth, h2]⟩
    | _ => exact ⟨by simp [fd, PyData.canLayAll0, PyData.canLay0, h1], by simp [fd, PyData.depthAll, PyData.depth, h2]⟩
theorem shaped_fl (xs : List V) (h : ∀ x ∈ xs, Fl x) : SeqAt.shaped (.list (xs.map fd)) = true := by
  obtain ⟨h1, h2⟩ := fl_lay xs h
  simp [SeqAt.shaped, PyData.canLay0, PyData.depth, h1, h2]
theorem filter_none {xs : List V} {f : V → Bool} : (xs.filter fun x => !f x).isEmpty = xs.all f := by
  induction xs with
  | nil => rfl
  | cons x xs ih =>
    rw [List.filter_cons, List.all_cons]
    cases f x
    · rfl
    · rw [Bool.true_and, ← ih]
      rfl
theorem eqv_fl_nil (xs : List V) : PyData.eqv (.list (xs.map fd)) (.list []) = xs.isEmpty := by
  cases xs <;> rfl
/-- the cells are flat -/
def FlC (os : List (Option (List V))) : Prop := ∀ xs, some xs ∈ os → ∀ x ∈ xs, Fl x
def lineB (w lo hi : Int) : Option (List V) → Bool
  | some xs => decide (((xs.length : Nat) : Int) = w) && xs.all fun x => within x lo hi
  | none => false
def paneB (o : Option (List (Option (List V)))) (h w lo hi : Int) : Bool := match o with
  | some os => decide (((os.length : Nat) : Int) = h) && os.all (lineB w lo hi)
  | none => false
def badC (lo hi : Int) (x : V) : Bool := !within x lo hi
theorem take_filter {xs : List V} (f : V → Bool) {i : Nat} {x : V} (h : xs[i]? = some x) : (xs.take (i + 1)).filter f = (xs.take i).filter f ++ (if f x = true then [x] else []) := by
  rw [List.take_add_one, h, List.filter_append]
  cases hx : f x <;> simp [hx]
theorem within_num {x : V} {lo hi : Int} (h : within x lo hi = true) : isNum x = true := by
  obtain ⟨i, rfl, _⟩ := within_int h
  rfl
theorem width_of {os : List (Option (List V))} {w : Nat} (h : 0 < os.length) (q : ∀ o ∈ os, ∃ xs, o = some xs ∧ xs.length = w) : width0 os = w := by
  cases os with
  | nil => cases h
  | cons o os =>
    obtain ⟨xs, rfl, e⟩ := q o List.mem_cons_self
    exact e
theorem pane_plane {o : Option (List (Option (List V)))} {h w lo hi : Int} (h1 : 1 ≤ h) (h2 : h ≤ 16) (w1 : 1 ≤ w) (w2 : w ≤ 16) : planeB o h w lo hi = paneB o h w lo hi := by
  cases o with
  | none => rfl
  | some os =>
    rw [Bool.eq_iff_iff]
    show (rowsB (some os) && (decide (((os.length : Nat) : Int) = h) && decide (((width0 os : Nat) : Int) = w) && os.all (allIn lo hi))) = true ↔ (decide (((os.length : Nat) : Int) = h) && os.all (lineB w lo hi)) = true
    simp only [Bool.and_eq_true, decide_eq_true_eq, List.all_eq_true]
    constructor
    · rintro ⟨hr, ⟨q1, q2⟩, q3⟩
      refine ⟨q1, fun o ho => ?_⟩
      simp only [rowsB, Bool.and_eq_true, decide_eq_true_eq, List.all_eq_true] at hr
      have k := hr.2 o ho
      simp only [okAs, Bool.and_eq_true] at k
      obtain ⟨xs, rfl, _⟩ := rowB_some k.1
      have k2 : (xs.length == width0 os) = true := k.2
      have k3 : xs.all (fun x => within x lo hi) = true := q3 _ ho
      show (decide (((xs.length : Nat) : Int) = w) && xs.all fun x => within x lo hi) = true
      rw [k3, Bool.and_true, decide_eq_true_eq]
      have := eq_of_beq k2
      omega
    · rintro ⟨q1, q2⟩
      have each : ∀ o ∈ os, ∃ xs, o = some xs ∧ xs.length = w.toNat ∧ xs.all (fun x => within x lo hi) = true := fun o ho => by
        have k := q2 o ho
        cases o with
        | none => cases k
        | some xs =>
          have k' : (decide (((xs.length : Nat) : Int) = w) && xs.all fun x => within x lo hi) = true := k
          simp only [Bool.and_eq_true, decide_eq_true_eq] at k'
          exact ⟨xs, rfl, by omega, k'.2⟩
      have hw : width0 os = w.toNat := width_of (by omega) fun o ho => let ⟨xs, a, b, _⟩ := each o ho; ⟨xs, a, b⟩
      refine ⟨?_, ⟨q1, by omega⟩, fun o ho => ?_⟩
      · simp only [rowsB, Bool.and_eq_true, decide_eq_true_eq, List.all_eq_true]
        refine ⟨⟨by omega, by omega⟩, fun o ho => ?_⟩
        obtain ⟨xs, rfl, l, hx⟩ := each o ho
        rw [List.all_eq_true] at hx
        show (rowB (some xs) && (xs.length == width0 os)) = true
        rw [hw, l]
        simp only [rowB, Bool.and_eq_true, decide_eq_true_eq, List.all_eq_true, beq_self_eq_true, and_true]
        exact ⟨⟨by omega, by omega⟩, fun x hx' => within_num (hx x hx')⟩
      · obtain ⟨xs, rfl, _, hx⟩ := each o ho
        exact hx
def spIsPane (K : PySem.W.Frag) : Sp := fun vs H Q _ => ∃ a y o h w lo hi, vs = [.ref a, y] ∧ ScV H a h w lo hi ∧ Th K H y o ∧ (∀ os, o = some os → FlC os) ∧ ∀ H', Same H H' → Q (.bl (paneB o h w lo hi)) H'
section
variable {P : Program} {w : World} {K : PySem.W.Frag} {mg : Str → Option Value} {base : Heap} (T : Top K mg)
theorem ok_is_pane : FnOk P w K mg base (L2.CX P w) 2 T._law_is_pane.a T._law_is_pane.d ["scope", "item"] (spIsPane K) := by
  refine T._law_is_pane.f.okX sc__law_is_pane (fun vs H Q E h => ?_) (fun cdv A outer s H vs Q E hr h => ?_)
  · obtain ⟨a, y, o, _, _, _, _, rfl, _⟩ := h
    rfl
  · obtain ⟨a, y, o, ht, wd, lo, hi, rfl, sc, th, fl, k⟩ := h
    have hu := hu_of hr
    refine ⟨_, pss_cons (ps_if (PW.pt (pw_or (pt_not (pt_val (pe_callB call_isi (by rfl) T.b_isinstance PyProof.Rows.boot_isinstance (pa_cons (pv 1) (pa_cons (pe_bltn (v := .ty "tuple") (by rfl) T.b_tuple (by decide +kernel) rfl) pa_nil)))))
        (pw_or1 (pt_cmpR op_ne (pe_callB call_len_seq (by rfl) T.b_len PySem.boot_len (pa_cons (pv 1) pa_nil)) (pe_dget hu (pv 0) pe_str (fun _ _ => rfl)) (nomark _)))))
        (pss_one (ps_ret pe_bl)) pss_nil)
      (pss_cons (ps_for (passes_of rfl) rfl (pi_tup (pv 1)) (pg_name (i := 2) sc__law_is_pane.nd rfl (.inl rfl))
        (pss_cons (ps_if (PW.pt (pw_or (pt_not (pt_val (pe_callB call_isi (by rfl) T.b_isinstance PyProof.Rows.boot_isinstance (pa_cons (pv 2) (pa_cons (pe_bltn (v := .ty "tuple") (by rfl) T.b_tuple (by decide +kernel) rfl) pa_nil)))))
          (pw_or1 (pt_cmpR op_ne (pe_callB call_len_seq (by rfl) T.b_len PySem.boot_len (pa_cons (pv 2) pa_nil)) (pe_dget hu (pv 0) pe_str (fun _ _ => rfl)) (nomark _)))))
          (pss_one (ps_ret pe_bl)) pss_nil)
        (pss_one (ps_if (pt_cmpR (op_neD hr.units) (pe_lc (own := [("grain", 3)]) (g := gName 3) rfl sc__law_is_pane.nd (pi_tup (pv 2)) (blkOk_by (own := [("grain", 3)]) (N := ["scope", "item", "line", "grain"]) (sc := defScope s__law_is_pane) (by decide +kernel))
          (fun _ _ _ _ _ => pg_name (i := 3) sc__law_is_pane.nd rfl (Or.inl rfl))
          (fun _ _ _ _ _ => pts_one (PW.pt (pw_or (pt_not (pt_val (pe_call (ok_whole T) hr (by rfl) T._law_is_whole.m T._law_is_whole.f.kp (bd__law_is_whole T) .nil passE (pa_cons (pv 3) pa_nil)))) (pw_or1 (pt_not (pt_chain op_le op_le (pe_dget hu (pv 0) pe_str (fun _ _ => rfl)) (pv 3) (pe_dget hu (pv 0) pe_str (fun _ _ => rfl))))))))
          (fun _ _ _ _ _ => pv 3)) (pe_lst pa_nil) (nomark _))
          (pss_one (ps_ret pe_bl)) pss_nil))))
      (pss_one (ps_ret pe_bl))), ?_⟩
    have sci : ∀ i j : Int, decide (V.int i = V.int j) = decide (i = j) := fun i j => decide_eq_decide.mpr ⟨fun z => V.int.inj z, fun z => by rw [z]⟩
    cases th with
    | no hn =>
      obtain ⟨t, ht, h1⟩ := hn.ty (K := K)
      exact ⟨_, rfl, y, _, _, _, _, rfl, .ty "tuple", ht, kit_ty h1, _, rfl, iteT (iteT (k H fun _ _ e => e))⟩
    | tup e p l =>
      rename_i ya vs os
      have fl := fl os rfl
      refine ⟨_, rfl, _, _, _, _, true, rfl, .ty "tuple", .base (.tup e), kit_ty (by decide +kernel), _, rfl, iteF ⟨_, rfl, ya, vs, rfl, .inr (SqT.of e), _, rfl, a, _, rfl, (show DGet H a (kV kTall) _ from sc_tall ▸ DGet.k sc.d), rfl, _, rfl, ?_⟩⟩
      rw [sci, p.1]
      by_cases c1 : ((os.length : Nat) : Int) = ht
      case neg =>
        rw [decide_eq_false c1]
        exact iteT (q_bl (k H fun _ _ e => e) (by show false = (decide (((os.length : Nat) : Int) = ht) && os.all (lineB wd lo hi)); rw [decide_eq_false c1]; rfl))
      rw [decide_eq_true c1]
      have eqP : paneB (some os) ht wd lo hi = os.all (lineB wd lo hi) := by
        show (decide (((os.length : Nat) : Int) = ht) && os.all (lineB wd lo hi)) = _
        rw [decide_eq_true c1, Bool.true_and]
      rw [eqP] at k
      refine iteF ⟨_, rfl, ya, rfl, ⟨_, SqT.of e⟩, for_tup (K := K) (a := ya) (xs := vs) (fun i σ H' => (∃ v2, σ = [some (.ref a), some (.ref ya), v2, none]) ∧ Same H H' ∧ (os.take i).all (lineB wd lo hi) = true) ⟨⟨none, rfl⟩, fun _ _ e => e, rfl⟩ (fun i σ H' _ h => SqT.of (h.2.1 _ _ e)) ?_ ?_⟩
      · rintro i x σ H' hx ⟨⟨v2, rfl⟩, sm, hta⟩
        obtain ⟨o, ho, hr2⟩ := p.2 i x hx
        have hr3 := hr2.keep sm
        have sc' := sc.keep (H' := H') fun o q => sm _ _ q
        have bad : ∀ H2, Same H' H2 → lineB wd lo hi o = false → Q (.bl false) H2 := fun H2 s2 z => q_bl (k H2 (sm.trans s2)) (by rw [all_false ho z])
        cases hr3 with
        | no hn =>
          obtain ⟨t, ht, h1⟩ := hn.ty (K := K)
          exact ⟨_, rfl, x, _, _, _, _, rfl, .ty "tuple", ht, kit_ty h1, _, rfl, iteT (iteT (bad H' (fun _ _ e => e) rfl))⟩
        | tup eb pb lb =>
          rename_i b xs
          have flx := fl xs (List.mem_of_getElem? ho)
          refine ⟨_, rfl, _, _, _, _, true, rfl, .ty "tuple", .base (.tup eb), kit_ty (by decide +kernel), _, rfl, iteF ⟨_, rfl, b, xs, rfl, .inr (SqT.of eb), _, rfl, a, _, rfl, (show DGet H' a (kV kWide) _ from sc_wide ▸ DGet.k sc'.d), rfl, _, rfl, ?_⟩⟩
          rw [sci]
          by_cases c2 : ((xs.length : Nat) : Int) = wd
          case neg =>
            rw [decide_eq_false c2]
            exact iteT (bad H' (fun _ _ e => e) (by unfold lineB; simp only [decide_eq_false c2, Bool.false_and]))
          rw [decide_eq_true c2]
          have eqL : lineB wd lo hi (some xs) = xs.all fun x => within x lo hi := by
            show (decide (((xs.length : Nat) : Int) = wd) && xs.all fun x => within x lo hi) = _
            rw [decide_eq_true c2, Bool.true_and]
          refine iteF ⟨_, rfl, b, rfl, ⟨_, SqT.of eb⟩, fun D hD => lc_tup (K := K) (a := b) (xs := xs) (fun i H2 => H2 D = some (.lst ((xs.take i).filter fun x => !within x lo hi)) ∧ Same H' H2) ⟨upd_same, Same.new hD⟩ (fun i H2 _ h => SqT.of (h.2 _ _ eb)) ?_ ?_⟩
          · rintro i x H2 hx ⟨h1, h2⟩
            have sc2 := sc'.keep (H' := H2) fun o q => h2 _ _ q
            have hfl := flx x (List.mem_of_getElem? hx)
            have put : within x lo hi = false → ∃ acc, H2 D = some (.lst acc) ∧ acc.length < sizeLine ∧ (upd H2 D (.lst (acc ++ [x]))) D = some (.lst ((xs.take (i + 1)).filter fun x => !within x lo hi)) ∧ Same H' (upd H2 D (.lst (acc ++ [x]))) := fun z => by
              refine ⟨_, h1, ?_, ?_, Same.put h2 hD⟩
              · exact Nat.lt_of_le_of_lt (Nat.le_trans (List.length_filter_le _ _) (by rw [List.length_take]; omega)) (Nat.lt_of_le_of_lt lb (by decide))
              · rw [upd_same, take_filter _ hx, z]
                rfl
            have no : within x lo hi = true → H2 D = some (.lst ((xs.take (i + 1)).filter fun x => !within x lo hi)) ∧ Same H' H2 := fun z => by
              refine ⟨?_, h2⟩
              rw [take_filter _ hx, z]
              simpa using h1
            refine ⟨rfl, _, rfl, x, _, rfl, hfl.pl, _, rfl, ?_⟩
            cases hfl with
            | int n =>
              refine iteF ⟨_, rfl, a, _, rfl, (show DGet H2 a (kV kLeast) _ from sc_least ▸ DGet.k sc2.d), _, rfl, lo, n, rfl, rfl, _, rfl, ?_⟩
              by_cases d1 : lo ≤ n
              · rw [decide_eq_true d1]
                refine iteT ⟨_, rfl, a, _, rfl, (show DGet H2 a (kV kMost) _ from sc_most ▸ DGet.k sc2.d), n, hi, rfl, rfl, _, rfl, ?_⟩
                by_cases d2 : n ≤ hi
                · rw [decide_eq_true d2]
                  exact iteF (no (by rw [within_i, decide_eq_true d1, decide_eq_true d2]; rfl))
                · rw [decide_eq_false d2]
                  exact iteT ⟨_, rfl, put (by rw [within_i, decide_eq_false d2, Bool.and_false])⟩
              · rw [decide_eq_false d1]
                exact iteF ⟨_, rfl, iteT ⟨_, rfl, put (by rw [within_i, decide_eq_false d1]; rfl)⟩⟩
            | _ => exact iteT (iteT ⟨_, rfl, put rfl⟩)
          · rintro H2 ⟨h1, h2⟩
            rw [List.take_length] at h1
            refine ⟨by decide, fun q hq => ?_⟩
            have h3 := (Same.new (o := .lst []) hq) _ _ h1
            have flF : ∀ x ∈ xs.filter (fun x => !within x lo hi), Fl x := fun x hx => flx x (List.mem_filter.mp hx).1
            refine ⟨_, _, .lst (SqL.of h3) (dp_fl flF), dp_nil upd_same, shaped_fl _ flF, shaped_nil, _, rfl, ?_⟩
            rw [eqv_fl_nil, filter_none]
            have s3 := h2.trans (Same.new (o := .lst []) hq)
            cases hall : xs.all fun x => within x lo hi with
            | true => exact iteF ⟨⟨_, rfl⟩, sm.trans s3, all_take_succ ho hta (by rw [eqL, hall])⟩
            | false => exact iteT (bad _ s3 (by rw [eqL, hall]))
      · rintro σ H' ⟨⟨v2, rfl⟩, sm, hta⟩
        rw [p.1, List.take_length] at hta
        exact q_bl (k H' sm) (by rw [hta])
end
end K03
namespace K03
open PySem PySem.Spec PyProof.Rows L2 PySem.W LamX KA KW KU KL KT
open Evl (pss_cut tCut)
/-! ### data of planes: small enough to be shown and compared -/
structure Sm (n z : Nat) (d : PyData) : Prop where
  l : d.leavesShort 13 = true
  w : d.weight ≤ n
  s : d.showable = true
  n : d.hasDict = false
  z : d.depth ≤ z
  c : d.canLay0 = true
theorem small_fits {d : PyData} (hl : d.leavesShort 13 = true) (hw : d.weight ≤ 2 ^ 20) : d.shown.length ≤ sizeLine := PyData.shown_fits (by decide) (by decide) hl hw
theorem int_small {i : Int} (h1 : -65535 ≤ i) (h2 : i ≤ 65535) : (PyData.int i).leavesShort 13 = true ∧ (PyData.int i).weight ≤ 17 ∧ (PyData.int i).showable = true := by
  have hn : i.natAbs < 2 ^ 17 := by omega
  have hl : i.natAbs.log2 ≤ 17 := by
    rcases Nat.eq_zero_or_pos i.natAbs with z | z
    · rw [z]
      decide
    · exact Nat.le_of_lt ((Nat.log2_lt (by omega)).mpr hn)
  have hl2 : i.natAbs.log2 < 17 ∨ i.natAbs = 0 := by
    rcases Nat.eq_zero_or_pos i.natAbs with z | z
    · exact .inr z
    · exact .inl ((Nat.log2_lt (by omega)).mpr hn)
  refine ⟨?_, ?_, ?_⟩
  · simp only [PyData.leavesShort, decide_eq_true_eq]
    exact PyData.shown_int_le (by omega)
  · simp only [PyData.weight]
    split
    · omega
    · rename_i c
      rcases hl2 with q | q
      · omega
      · exact absurd (by simpa using q) c
  · simp only [PyData.showable, decide_eq_true_eq]
    omega
theorem Sm.mono {n m z y : Nat} {d : PyData} (h : Sm n z d) (h1 : n ≤ m) (h2 : z ≤ y) : Sm m y d := ⟨h.l, Nat.le_trans h.w h1, h.s, h.n, Nat.le_trans h.z h2, h.c⟩
theorem sm_int {i : Int} (h1 : -65535 ≤ i) (h2 : i ≤ 65535) : Sm 17 0 (.int i) := by
  obtain ⟨a, b, c⟩ := int_small h1 h2
  exact ⟨a, b, c, rfl, Nat.le_refl _, rfl⟩
theorem sm_bool {b : Bool} : Sm 17 0 (.bool b) := ⟨rfl, Nat.zero_le _, rfl, rfl, Nat.le_refl _, rfl⟩
theorem sm_all {n z : Nat} : ∀ ds : List PyData, (∀ d ∈ ds, Sm n z d) → PyData.leavesShortAll 13 ds = true ∧ PyData.weightAll ds ≤ (n + 1) * ds.length ∧ PyData.showableAll ds = true ∧ PyData.hasDictAll ds = false ∧ PyData.depthAll ds ≤ z ∧ PyData.canLayAll0 ds = true
  | [], _ => ⟨rfl, Nat.zero_le _, rfl, rfl, Nat.zero_le _, rfl⟩
  | d :: r, h => by
    obtain ⟨a, b, c, e, f, g⟩ := sm_all r fun x hx => h x (List.mem_cons_of_mem _ hx)
    obtain ⟨a', b', c', e', f', g'⟩ := h d List.mem_cons_self
    refine ⟨by simp [PyData.leavesShortAll, a, a'], ?_, by simp [PyData.showableAll, c, c'], by simp [PyData.hasDictAll, e, e'], ?_, by simp [PyData.canLayAll0, g, g']⟩
    · simp only [PyData.weightAll, List.length_cons, Nat.mul_add, Nat.mul_one]
      omega
    · simp only [PyData.depthAll]
      omega
theorem sm_tuple {n z k : Nat} {ds : List PyData} (h : ∀ d ∈ ds, Sm n z d) (hl : ds.length ≤ k) : Sm ((n + 1) * k) (z + 1) (.tuple ds) := by
  obtain ⟨a, b, c, e, f, g⟩ := sm_all ds h
  have hk : (n + 1) * ds.length ≤ (n + 1) * k := Nat.mul_le_mul_left _ hl
  refine ⟨by simpa only [PyData.leavesShort] using a, ?_, by simpa only [PyData.showable] using c, by simpa only [PyData.hasDict] using e, ?_, by simpa only [PyData.canLay0] using g⟩
  · simp only [PyData.weight]
    omega
  · simp only [PyData.depth]
    omega
theorem sm_list {n z k : Nat} {ds : List PyData} (h : ∀ d ∈ ds, Sm n z d) (hl : ds.length ≤ k) : Sm ((n + 1) * k) (z + 1) (.list ds) := by
  obtain ⟨a, b, c, e, f, g⟩ := sm_all ds h
  have hk : (n + 1) * ds.length ≤ (n + 1) * k := Nat.mul_le_mul_left _ hl
  refine ⟨by simpa only [PyData.leavesShort] using a, ?_, by simpa only [PyData.showable] using c, by simpa only [PyData.hasDict] using e, ?_, by simpa only [PyData.canLay0] using g⟩
  · simp only [PyData.weight]
    omega
  · simp only [PyData.depth]
    omega
theorem Sm.repr {n z : Nat} {d : PyData} (h : Sm n z d) (h1 : n ≤ 2 ^ 20) (h2 : z ≤ 60) : d.showable = true ∧ d.hasDict = false ∧ d.depth ≤ 60 ∧ d.shown.length ≤ sizeLine := ⟨h.s, h.n, Nat.le_trans h.z h2, small_fits h.l (Nat.le_trans h.w h1)⟩
theorem Sm.shaped {n z : Nat} {d : PyData} (h : Sm n z d) (h2 : z ≤ 60) : SeqAt.shaped d = true := by
  unfold SeqAt.shaped
  rw [h.c, Bool.true_and, decide_eq_true_eq]
  exact Nat.le_trans h.z (Nat.le_trans h2 (by decide))
def rowD (ns : List Int) : PyData := .tuple (ns.map PyData.int)
def plD (nss : List (List Int)) : PyData := .tuple (nss.map rowD)
/-- the numbers are small -/
def SmN (nss : List (List Int)) : Prop := ∀ ns ∈ nss, ∀ n ∈ ns, -512 ≤ n ∧ n ≤ 511
theorem rows_dp {K : PySem.W.Frag} {H : Hp} : ∀ {vs : List V} {nss : List (List Int)}, Rows H vs nss → DpAll K H vs (nss.map rowD)
  | [], nss, r => by
    have : nss = [] := List.eq_nil_of_length_eq_zero (by rw [← r.1]; rfl)
    subst this
    exact .nil
  | v :: vs, [], r => by cases r.1
  | v :: vs, ns :: nss, r => by
    obtain ⟨b, ns', e1, e2, e3⟩ := r.2 0 v rfl
    have e4 : ns = ns' := Option.some.inj e2
    subst e4 e1
    refine .cons (.tup (SqT.of e3) (KT.dp_ints ns)) (rows_dp ⟨by simpa using r.1, fun j u e => ?_⟩)
    exact r.2 (j + 1) u (by simpa using e)
theorem Pn.dp {K : PySem.W.Frag} {H : Hp} {a : Addr} {nss : List (List Int)} {w : Nat} (p : Pn H a nss w) : Dp K H (.ref a) (plD nss) := by
  obtain ⟨vs, e, r⟩ := p.rows
  exact .tup (SqT.of e) (rows_dp r)
theorem plD_sm {nss : List (List Int)} {w : Nat} (h : SmN nss) (h2 : nss.length ≤ 16) (w2 : w ≤ 16) (ws : ∀ ns ∈ nss, ns.length = w) : Sm 4624 2 (plD nss) := by
  refine sm_tuple (n := 288) (k := 16) (fun d hd => ?_) (by rw [List.length_map]; exact h2)
  obtain ⟨ns, hn, rfl⟩ := List.mem_map.mp hd
  refine sm_tuple (n := 17) (k := 16) (fun d hd => ?_) (by rw [List.length_map, ws ns hn]; exact w2)
  obtain ⟨i, hi, rfl⟩ := List.mem_map.mp hd
  have := h ns hn i hi
  exact sm_int (by omega) (by omega)
theorem Pn.sm {H : Hp} {a : Addr} {nss : List (List Int)} {w : Nat} (p : Pn H a nss w) (h : SmN nss) : Sm 4624 2 (plD nss) := plD_sm h p.h2 p.w2 p.ws
theorem smN_bet {nss : List (List Int)} (h : SmN nss) : betB nss (-512) 511 = true := by
  simp only [betB, List.all_eq_true, Bool.and_eq_true, decide_eq_true_eq]
  exact h
theorem smN_rev {nss : List (List Int)} (h : SmN nss) : SmN nss.reverse := fun ns hn => h ns (List.mem_reverse.mp hn)
theorem smN_side {nss : List (List Int)} (h : SmN nss) : SmN (nss.map List.reverse) := fun ns hn n hnn => by
  obtain ⟨ms, hm, rfl⟩ := List.mem_map.mp hn
  exact h ms hm n (List.mem_reverse.mp hnn)
theorem smN_trans {nss : List (List Int)} {w : Nat} (h : SmN nss) (ws : ∀ ns ∈ nss, ns.length = w) : SmN (trans nss w) := fun ns hn n hnn => by
  obtain ⟨j, hj, rfl⟩ := List.mem_map.mp hn
  obtain ⟨ms, hm, rfl⟩ := List.mem_map.mp hnn
  have hl : j < ms.length := by rw [ws ms hm]; exact List.mem_range.mp hj
  rw [List.getD_eq_getElem?_getD, List.getElem?_eq_getElem hl]
  exact h ms hm _ (List.getElem_mem hl)
theorem side_side (nss : List (List Int)) : (nss.map List.reverse).map List.reverse = nss := by
  rw [List.map_map]
  conv => rhs; rw [← List.map_id nss]
  congr 1
  funext ns
  simp
/-- a plane by its numbers at the places -/
theorem plane_ext {a b : List (List Int)} {h w : Nat} (ha : a.length = h) (hb : b.length = h) (wa : ∀ ns ∈ a, ns.length = w) (wb : ∀ ns ∈ b, ns.length = w) (e : ∀ y x, y < h → x < w → (a.getD y []).getD x 0 = (b.getD y []).getD x 0) : a = b := by
  refine List.ext_getElem (by rw [ha, hb]) fun y h1 h2 => ?_
  have l1 := wa _ (List.getElem_mem h1)
  have l2 := wb _ (List.getElem_mem h2)
  refine List.ext_getElem (by rw [l1, l2]) fun x h3 h4 => ?_
  have := e y x (by omega) (by omega)
  simpa [List.getD_eq_getElem?_getD, List.getElem?_eq_getElem h1, List.getElem?_eq_getElem h2, List.getElem?_eq_getElem h3, List.getElem?_eq_getElem h4] using this
theorem at_trans {nss : List (List Int)} {w x y : Nat} (hx : x < w) (hy : y < nss.length) : ((trans nss w).getD x []).getD y 0 = (nss.getD y []).getD x 0 := by
  unfold trans
  simp [List.getD_eq_getElem?_getD, List.getElem?_map, List.getElem?_range hx, List.getElem?_eq_getElem hy]
theorem at_rev {nss : List (List Int)} {y : Nat} (hy : y < nss.length) : nss.reverse.getD y [] = nss.getD (nss.length - 1 - y) [] := by
  simp [List.getD_eq_getElem?_getD, List.getElem?_reverse hy]
theorem at_side {nss : List (List Int)} {w x y : Nat} (ws : ∀ ns ∈ nss, ns.length = w) (hx : x < w) (hy : y < nss.length) : ((nss.map List.reverse).getD y []).getD x 0 = (nss.getD y []).getD (w - 1 - x) 0 := by
  have l := ws _ (List.getElem_mem hy)
  simp [List.getD_eq_getElem?_getD, List.getElem?_map, List.getElem?_eq_getElem hy, List.getElem?_reverse (show x < nss[y].length by omega), l]
theorem len_trans {nss : List (List Int)} {w : Nat} : (trans nss w).length = w := by
  unfold trans
  rw [List.length_map, List.length_range]
theorem ws_trans {nss : List (List Int)} {w : Nat} : ∀ ns ∈ trans nss w, ns.length = nss.length := fun ns hn => by
  obtain ⟨j, hj, rfl⟩ := List.mem_map.mp hn
  rw [List.length_map]
theorem ws_side {nss : List (List Int)} {w : Nat} (ws : ∀ ns ∈ nss, ns.length = w) : ∀ ns ∈ nss.map List.reverse, ns.length = w := fun ns hn => by
  obtain ⟨j, hj, rfl⟩ := List.mem_map.mp hn
  rw [List.length_reverse, ws j hj]
theorem trans_trans {nss : List (List Int)} {w : Nat} (ws : ∀ ns ∈ nss, ns.length = w) : trans (trans nss w) nss.length = nss := by
  refine plane_ext (h := nss.length) (w := w) len_trans rfl (fun ns hn => by rw [ws_trans ns hn, len_trans]) ws fun y x hy hx => ?_
  rw [at_trans hy (by rw [len_trans]; exact hx), at_trans hx hy]
theorem turn_turn {nss : List (List Int)} {w : Nat} (ws : ∀ ns ∈ nss, ns.length = w) : trans ((trans nss w).map List.reverse) nss.length = nss.reverse := by
  refine plane_ext (h := nss.length) (w := w) len_trans (by simp) (fun ns hn => by rw [ws_trans ns hn, List.length_map, len_trans]) (fun ns hn => ws ns (List.mem_reverse.mp hn)) fun y x hy hx => ?_
  rw [at_trans hy (by rw [List.length_map, len_trans]; exact hx), at_side (w := nss.length) ws_trans hy (by rw [len_trans]; exact hx), at_trans hx (by omega), at_rev hy]
end K03
namespace K03
open PySem PySem.Spec PyProof.Rows L2 PySem.W LamX KA KW KU KL KT
open Evl (pss_cut tCut)
/-! ### grids of numbers, told place by place -/
theorem gridA {K : PySem.W.Frag} {H : Hp} {te : TE} {v0 v1 v2 v5 v6 v7 v8 v9 v10 v11 : Option V} {h w : Nat} {Qd : V → Hp → Prop} (F : Nat → Nat → Int) (h2 : h ≤ 16) (w2 : w ≤ 16)
    (cell : ∀ (i j : Nat) (H' : Hp) (Q : VK), i < h → j < w → Same H H' → Q (.int (F i j)) H' → te [v0, v1, v2, some (.int ((h : Nat) : Int)), some (.int ((w : Nat) : Int)), v5, v6, v7, v8, v9, some (.int (0 + (i : Int))), some (.int (0 + (j : Int)))] H' Q)
    (fin : ∀ (D : Addr) (rs : List V) (H' : Hp), H' D = some (.lst rs) → Rows H' rs ((List.range h).map fun i => (List.range w).map fun j => F i j) → Same H H' → Qd (.ref D) H') :
    tLc (iRng1 (tCons (tVar 3) tNil)) (gName 10) tYes (tCB (rTupOf K) (tCons (tLc (iRng1 (tCons (tVar 4) tNil)) (gName 11) tYes te [11]) tNil)) [10] [v0, v1, v2, some (.int ((h : Nat) : Int)), some (.int ((w : Nat) : Int)), v5, v6, v7, v8, v9, v10, v11] H Qd := by
  refine ⟨_, rfl, _, rfl, by omega, by omega, fun D hD => ?_⟩
  rw [Int.toNat_natCast]
  refine lc_range (lo := 0) (n := h) (fun i H' => ∃ rs, H' D = some (.lst rs) ∧ Rows H' rs ((List.range i).map fun i => (List.range w).map fun j => F i j) ∧ Same H H') ⟨[], upd_same, Rows.nil, Same.new hD⟩ ?_ ?_
  · rintro i H' hi ⟨rs, h1, h3, h4⟩
    refine ⟨rfl, ?_⟩
    dsimp only [tYes]
    rw [if_pos rfl]
    refine ⟨_, rfl, _, rfl, by omega, by omega, fun D2 hD2 => ?_⟩
    rw [Int.toNat_natCast]
    refine lc_range (lo := 0) (n := w) (fun j H'' => H'' D2 = some (.lst (((List.range j).map fun j => F i j).map V.int)) ∧ Same H' H'') ⟨upd_same, Same.new hD2⟩ ?_ ?_
    · rintro j H'' hj ⟨g1, g2⟩
      refine ⟨rfl, ?_⟩
      dsimp only [tYes]
      rw [if_pos rfl]
      refine cell i j H'' _ hi hj (h4.trans g2) ⟨_, g1, ?_, ?_, Same.put g2 hD2⟩
      · rw [List.length_map, List.length_map, List.length_range]
        exact Nat.lt_of_lt_of_le hj (Nat.le_trans (by omega) (show 16 ≤ sizeLine by decide))
      · rw [upd_same, List.range_succ, List.map_append, List.map_append]
        rfl
    · rintro H'' ⟨g1, g2⟩
      refine ⟨D2, _, rfl, .inl ⟨SqL.of g1, fun p hp => ?_⟩⟩
      have g3 := g2.trans (Same.new (o := .tup (((List.range w).map fun j => F i j).map V.int)) hp)
      refine ⟨rs, g3 _ _ h1, ?_, rs ++ [.ref p], upd_same, ?_, Same.put (h4.trans g3) hD⟩
      · rw [h3.1, List.length_map, List.length_range]
        exact Nat.lt_of_lt_of_le hi (Nat.le_trans (by omega) (show 16 ≤ sizeLine by decide))
      · rw [List.range_succ, List.map_append]
        exact Rows.put (Rows.snoc (h3.keep g3) upd_same) (g3 _ _ h1)
  · rintro H' ⟨rs, h1, h3, h4⟩
    exact fin D rs H' h1 h3 h4
theorem gridB {K : PySem.W.Frag} {H : Hp} {te : TE} {v0 v1 v2 v5 v6 v7 v8 v9 v10 v11 : Option V} {h w : Nat} {Qd : V → Hp → Prop} (F : Nat → Nat → Int) (h2 : h ≤ 16) (w2 : w ≤ 16)
    (cell : ∀ (i j : Nat) (H' : Hp) (Q : VK), i < w → j < h → Same H H' → Q (.int (F i j)) H' → te [v0, v1, v2, some (.int ((h : Nat) : Int)), some (.int ((w : Nat) : Int)), v5, v6, v7, v8, v9, some (.int (0 + (j : Int))), some (.int (0 + (i : Int)))] H' Q)
    (fin : ∀ (D : Addr) (rs : List V) (H' : Hp), H' D = some (.lst rs) → Rows H' rs ((List.range w).map fun i => (List.range h).map fun j => F i j) → Same H H' → Qd (.ref D) H') :
    tLc (iRng1 (tCons (tVar 4) tNil)) (gName 11) tYes (tCB (rTupOf K) (tCons (tLc (iRng1 (tCons (tVar 3) tNil)) (gName 10) tYes te [10]) tNil)) [11] [v0, v1, v2, some (.int ((h : Nat) : Int)), some (.int ((w : Nat) : Int)), v5, v6, v7, v8, v9, v10, v11] H Qd := by
  refine ⟨_, rfl, _, rfl, by omega, by omega, fun D hD => ?_⟩
  rw [Int.toNat_natCast]
  refine lc_range (lo := 0) (n := w) (fun i H' => ∃ rs, H' D = some (.lst rs) ∧ Rows H' rs ((List.range i).map fun i => (List.range h).map fun j => F i j) ∧ Same H H') ⟨[], upd_same, Rows.nil, Same.new hD⟩ ?_ ?_
  · rintro i H' hi ⟨rs, h1, h3, h4⟩
    refine ⟨rfl, ?_⟩
    dsimp only [tYes]
    rw [if_pos rfl]
    refine ⟨_, rfl, _, rfl, by omega, by omega, fun D2 hD2 => ?_⟩
    rw [Int.toNat_natCast]
    refine lc_range (lo := 0) (n := h) (fun j H'' => H'' D2 = some (.lst (((List.range j).map fun j => F i j).map V.int)) ∧ Same H' H'') ⟨upd_same, Same.new hD2⟩ ?_ ?_
    · rintro j H'' hj ⟨g1, g2⟩
      refine ⟨rfl, ?_⟩
      dsimp only [tYes]
      rw [if_pos rfl]
      refine cell i j H'' _ hi hj (h4.trans g2) ⟨_, g1, ?_, ?_, Same.put g2 hD2⟩
      · rw [List.length_map, List.length_map, List.length_range]
        exact Nat.lt_of_lt_of_le hj (Nat.le_trans (by omega) (show 16 ≤ sizeLine by decide))
      · rw [upd_same, List.range_succ, List.map_append, List.map_append]
        rfl
    · rintro H'' ⟨g1, g2⟩
      refine ⟨D2, _, rfl, .inl ⟨SqL.of g1, fun p hp => ?_⟩⟩
      have g3 := g2.trans (Same.new (o := .tup (((List.range h).map fun j => F i j).map V.int)) hp)
      refine ⟨rs, g3 _ _ h1, ?_, rs ++ [.ref p], upd_same, ?_, Same.put (h4.trans g3) hD⟩
      · rw [h3.1, List.length_map, List.length_range]
        exact Nat.lt_of_lt_of_le hi (Nat.le_trans (by omega) (show 16 ≤ sizeLine by decide))
      · rw [List.range_succ, List.map_append]
        exact Rows.put (Rows.snoc (h3.keep g3) upd_same) (g3 _ _ h1)
  · rintro H' ⟨rs, h1, h3, h4⟩
    exact fin D rs H' h1 h3 h4
theorem Pn.get {H : Hp} {a : Addr} {nss : List (List Int)} {w : Nat} (p : Pn H a nss w) {y x : Nat} (hy : y < nss.length) (hx : x < w) : ∃ (vs : List V) (b : Addr) (ns : List Int), H a = some (.tup vs) ∧ vs[y]? = some (.ref b) ∧ H b = some (.tup (ns.map V.int)) ∧ (ns.map V.int)[x]? = some (.int ((nss.getD y []).getD x 0)) := by
  obtain ⟨vs, e, l, q⟩ := p.at'
  obtain ⟨v, hv⟩ : ∃ v, vs[y]? = some v := ⟨_, List.getElem?_eq_getElem (by omega)⟩
  obtain ⟨b, ns, rfl, hn, hb⟩ := q y v hv
  have hl : x < ns.length := by rw [p.ws ns (List.mem_of_getElem? hn)]; exact hx
  refine ⟨vs, b, ns, e, hv, hb, ?_⟩
  rw [List.getElem?_map, List.getD_eq_getElem?_getD (l := nss), hn, List.getElem?_eq_getElem hl]
  simp [List.getD_eq_getElem?_getD, List.getElem?_eq_getElem hl]
theorem rows_up {nss : List (List Int)} {w : Nat} (ws : ∀ ns ∈ nss, ns.length = w) : ((List.range nss.length).map fun y => (List.range w).map fun x => (nss.getD (nss.length - 1 - y) []).getD x 0) = nss.reverse := by
  refine plane_ext (h := nss.length) (w := w) (by simp) (by simp) (fun ns hn => ?_) (fun ns hn => ws ns (List.mem_reverse.mp hn)) fun y x hy hx => ?_
  · obtain ⟨y, _, rfl⟩ := List.mem_map.mp hn
    simp
  · rw [at_rev hy]
    simp [List.getD_eq_getElem?_getD, List.getElem?_map, List.getElem?_range hy, List.getElem?_range hx]
theorem rows_side {nss : List (List Int)} {w : Nat} (ws : ∀ ns ∈ nss, ns.length = w) : ((List.range nss.length).map fun y => (List.range w).map fun x => (nss.getD y []).getD (w - 1 - x) 0) = nss.map List.reverse := by
  refine plane_ext (h := nss.length) (w := w) (by simp) (by simp) (fun ns hn => ?_) (ws_side ws) fun y x hy hx => ?_
  · obtain ⟨y, _, rfl⟩ := List.mem_map.mp hn
    simp
  · rw [at_side ws hx hy]
    simp [List.getD_eq_getElem?_getD, List.getElem?_map, List.getElem?_range hy, List.getElem?_range hx]
theorem rows_corner {nss : List (List Int)} {w : Nat} : ((List.range w).map fun x => (List.range nss.length).map fun y => (nss.getD y []).getD x 0) = trans nss w := by
  refine plane_ext (h := w) (w := nss.length) (by simp) len_trans (fun ns hn => ?_) ws_trans fun x y hx hy => ?_
  · obtain ⟨y, _, rfl⟩ := List.mem_map.mp hn
    simp
  · rw [at_trans hx hy]
    simp [List.getD_eq_getElem?_getD, List.getElem?_map, List.getElem?_range hy, List.getElem?_range hx]
end K03
namespace K03
open PySem PySem.Spec PyProof.Rows L2 PySem.W LamX KA KW KU KL KT
open Evl (pss_cut tCut)
/-! ### turned, called with a good plane -/
theorem Pn.th {K : PySem.W.Frag} {H : Hp} {a : Addr} {nss : List (List Int)} {w : Nat} (p : Pn H a nss w) : Th K H (.ref a) (some (nss.map fun ns => some (ns.map V.int))) := by
  obtain ⟨vs, e, l, q⟩ := p.at'
  have h2 := p.h2
  refine .tup e ⟨by rw [l, List.length_map], fun i v hv => ?_⟩ (by omega)
  obtain ⟨b, ns, rfl, hn, hb⟩ := q i v hv
  refine ⟨some (ns.map V.int), by rw [List.getElem?_map, hn]; rfl, .tup hb (fun x hx => ?_) ?_⟩
  · obtain ⟨n, _, rfl⟩ := List.mem_map.mp hx
    exact ⟨true, .int n⟩
  · rw [List.length_map, p.ws ns (List.mem_of_getElem? hn)]
    have := p.w2
    omega
theorem Pn.flc {H : Hp} {a : Addr} {nss : List (List Int)} {w : Nat} (p : Pn H a nss w) : FlC (nss.map fun ns => some (ns.map V.int)) := fun xs hx x hxx => by
  obtain ⟨ns, _, e⟩ := List.mem_map.mp hx
  have := Option.some.inj e
  subst this
  obtain ⟨n, _, rfl⟩ := List.mem_map.mp hxx
  exact .int n
theorem all_int (ns : List Int) : (ns.map V.int).all isNum = true := by
  rw [List.all_map, List.all_eq_true]
  intro n _
  rfl
theorem Pn.rowsB {H : Hp} {a : Addr} {nss : List (List Int)} {w : Nat} (p : Pn H a nss w) : K03.rowsB (some (nss.map fun ns => some (ns.map V.int))) = true := by
  have e : K03.rowsB (some (nss.map fun ns => some (ns.map V.int))) = (decide (1 ≤ (nss.map fun ns => some (ns.map V.int)).length) && decide ((nss.map fun ns => some (ns.map V.int)).length ≤ 16) && (nss.map fun ns => some (ns.map V.int)).all (okAs (width0 (nss.map fun ns => some (ns.map V.int))))) := rfl
  rw [e, p.width, List.length_map, decide_eq_true p.h1, decide_eq_true p.h2, Bool.true_and, Bool.true_and, List.all_map, List.all_eq_true]
  intro ns hn
  show (rowB (some (ns.map V.int)) && ((ns.map V.int).length == w)) = true
  have hl := p.ws ns hn
  have h1 := p.w1
  have h2 := p.w2
  show ((decide (1 ≤ (ns.map V.int).length) && decide ((ns.map V.int).length ≤ 16) && (ns.map V.int).all isNum) && ((ns.map V.int).length == w)) = true
  rw [all_int, List.length_map, hl, decide_eq_true h1, decide_eq_true h2]
  simp
theorem ints_inj : ∀ {a b : List Int}, a.map V.int = b.map V.int → a = b
  | [], [], _ => rfl
  | [], _ :: _, h => by cases h
  | _ :: _, [], h => by cases h
  | x :: a, y :: b, h => by
    rw [List.map_cons, List.map_cons] at h
    injection h with h1 h2
    injection h1 with h1
    rw [h1, ints_inj h2]
theorem Pn.uniq {H : Hp} {a : Addr} {nss mss : List (List Int)} {w v : Nat} (p : Pn H a nss w) (q : Pn H a mss v) : nss = mss ∧ w = v := by
  obtain ⟨vs, e, l, r⟩ := p.at'
  obtain ⟨vs', e', l', r'⟩ := q.at'
  have ev : vs = vs' := by
    rw [e] at e'
    injection e' with e'
    injection e' with e'
  subst ev
  have en : nss = mss := by
    refine List.ext_getElem (by omega) fun i h1 h2 => ?_
    obtain ⟨u, hu⟩ : ∃ u, vs[i]? = some u := ⟨_, List.getElem?_eq_getElem (by omega)⟩
    obtain ⟨b, ns, rfl, hn, hb⟩ := r i u hu
    obtain ⟨b', ns', eb, hn', hb'⟩ := r' i _ hu
    cases eb
    rw [hb] at hb'
    injection hb' with hb'
    injection hb' with hb'
    have := ints_inj hb'
    subst this
    rw [List.getElem?_eq_getElem h1] at hn
    rw [List.getElem?_eq_getElem h2] at hn'
    rw [Option.some.inj hn, Option.some.inj hn']
  subst en
  refine ⟨rfl, ?_⟩
  have h1 := p.h1
  obtain ⟨ns, hns⟩ : ∃ ns, ns ∈ nss := ⟨_, List.getElem_mem (show 0 < nss.length by omega)⟩
  rw [← p.ws ns hns, ← q.ws ns hns]
theorem Pn.turnB {H : Hp} {a : Addr} {nss : List (List Int)} {w : Nat} (p : Pn H a nss w) (s : SmN nss) : K03.turnB (some (nss.map fun ns => some (ns.map V.int))) = true := by
  have e : K03.turnB (some (nss.map fun ns => some (ns.map V.int))) = (K03.rowsB (some (nss.map fun ns => some (ns.map V.int))) && (nss.map fun ns => some (ns.map V.int)).all (allIn (-512) 511)) := rfl
  rw [e, p.rowsB, betB_in, smN_bet s]
  rfl
/-- the numbers and the width behind a turn -/
def turnN (f : Nat) (nss : List (List Int)) (w : Nat) : List (List Int) × Nat := if f = 0 then (nss.reverse, w) else if f = 1 then (nss.map List.reverse, w) else (trans nss w, nss.length)
def turnW (f : Nat) : Str := if f = 0 then "upside" else if f = 1 then "sideways" else "corner"
theorem turn_call {K : PySem.W.Frag} {CP CW : Addr} {H : Hp} {a : Addr} {nss : List (List Int)} {w : Nat} {Q : VK} {E : XK} (f : Nat) (p : Pn H a nss w) (s : SmN nss)
    (k : ∀ (H' : Hp) (b : Addr), Same H H' → Pn H' b (turnN f nss w).1 (turnN f nss w).2 → Q (.ref b) H') : spTurned K CP CW [.ref a, .str (turnW f)] H Q E := by
  refine ⟨.ref a, .str (turnW f), _, rfl, .str _, p.th, fun z => ?_, fun a' nss' w' e p' _ => ?_⟩
  · rw [p.turnB s] at z
    cases z
  · cases e
    obtain ⟨rfl, rfl⟩ := p.uniq p'
    by_cases f0 : f = 0
    · subst f0
      exact ⟨fun z => absurd (V.str.inj z) (by decide +kernel), fun _ H' b s' q => k H' b s' q, fun z => absurd (V.str.inj z) (by decide +kernel), fun _ z => absurd rfl z⟩
    · by_cases f1 : f = 1
      · subst f1
        exact ⟨fun _ H' b s' q => k H' b s' q, fun z => absurd (V.str.inj z) (by decide +kernel), fun z => absurd (V.str.inj z) (by decide +kernel), fun z => absurd rfl z⟩
      · have e1 : turnW f = "corner" := by unfold turnW; rw [if_neg f0, if_neg f1]
        have e2 : turnN f nss w = (trans nss w, nss.length) := by unfold turnN; rw [if_neg f0, if_neg f1]
        rw [e1]
        rw [e2] at k
        exact ⟨fun z => absurd (V.str.inj z) (by decide +kernel), fun z => absurd (V.str.inj z) (by decide +kernel), fun _ H' b s' q => k H' b s' q, fun _ _ z => absurd rfl z⟩
theorem smN_turn {f : Nat} {nss : List (List Int)} {w : Nat} (s : SmN nss) (ws : ∀ ns ∈ nss, ns.length = w) : SmN (turnN f nss w).1 := by
  unfold turnN
  split
  · exact smN_rev s
  · split
    · exact smN_side s
    · exact smN_trans s ws
theorem turn_twice {f : Nat} {nss : List (List Int)} {w : Nat} (ws : ∀ ns ∈ nss, ns.length = w) : (turnN f (turnN f nss w).1 (turnN f nss w).2).1 = nss := by
  unfold turnN
  split
  · exact List.reverse_reverse nss
  · split
    · exact side_side nss
    · exact trans_trans ws
end K03
namespace K03
open PySem PySem.Spec PyProof.Rows L2 PySem.W LamX KA KW KU KL KT
open Evl (pss_cut tCut)
/-! ### whether it is turned rightly -/
def spTR : Sp := fun vs H Q _ => ∃ (x : V) (sa a : Addr) (nss : List (List Int)) (w : Nat) (lo hi : Int), vs = [x, .ref sa, .ref a] ∧ ScV H sa ((nss.length : Nat) : Int) ((w : Nat) : Int) lo hi ∧ Pn H a nss w ∧ SmN nss ∧ ∀ H', Same H H' → Q (.bl true) H'
theorem to_lc {te : TE} {i : Nat} {ts : TS} {D : Ends} {σ : L2.St} {H : Hp} (h : te σ H fun x H1 => ts D (σ.set i (some x)) H1) : tSeq (tAsg te (gName i)) ts D σ H := h
theorem atI_eq {α : Type} {xs : List α} {i : Int} {j : Nat} {v : α} (h : i = (j : Int)) (g : xs[j]? = some v) : atI xs i = some v := by
  rw [h]
  exact atI_nat g
def rSubI : R2 := rI0 fun i j => V.int (i - j)
section
variable {P : Program} {w : World} {K : PySem.W.Frag} {mg : Str → Option Value} {base : Heap} (T : Top K mg)
theorem ok_tr : FnG P w K mg base (L2.CX P w) 5 T._law_turned_right.a T._law_turned_right.d ["state", "scope", "pane"] spTR := by
  refine fnG_of T._law_turned_right.f sc__law_turned_right (fun vs H Q E h => ?_) (fun cdv A outer s0 H vs Q E hr hg h => ?_)
  · obtain ⟨x, sa, a, nss, w, lo, hi, rfl, _⟩ := h
    rfl
  · obtain ⟨x, sa, a, nss, wn, lo, hi, rfl, sc, pn, sm, k⟩ := h
    have hu := hu_of hr
    refine ⟨_, pss_cons (ps_asg (pe_tup (pa_cons (pe_dget hu (pv 1) pe_str (fun _ _ => rfl)) (pa_cons (pe_dget hu (pv 1) pe_str (fun _ _ => rfl)) pa_nil))) (pg_tup rfl (pgs_cons (pg_name (i := 3) sc__law_turned_right.nd rfl (.inr rfl)) (pgs_cons (pg_name (i := 4) sc__law_turned_right.nd rfl (.inr rfl)) pgs_nil))))
      (pss_cons (ps_setLc (i := 5) (own := [("y", 10)]) (g := gName 10) (tt := tYes) rfl sc__law_turned_right.nd rfl rfl (sw_true rfl rfl rfl (by decide +kernel)) (pi_range1 (by rfl) T.b_range (pa_cons (pv 3) pa_nil)) (blkOk_by (own := [("y", 10)]) (N := ["state", "scope", "pane", "tall", "wide", "ups", "sides", "corners", "told", "fashion", "y", "x"]) (sc := defScope s__law_turned_right) (by decide +kernel))
        (fun _ _ _ _ _ => pg_name (i := 10) sc__law_turned_right.nd rfl (Or.inr rfl)) (fun _ _ _ _ _ => pts_nil) (fun _ _ _ _ _ => pe_callTy (show CallR _ _ (rTupOf K) from call_tuple_of) (by rfl) T.b_tuple (by decide +kernel) (pa_cons (show PE _ _ (tLc (iRng1 (tCons (tVar 4) tNil)) (gName 11) tYes (tOp (rIxT K) (tOp (rIxT K) (tVar 2) (tOp rSubI (tOp rSubI (tVar 3) (tC (.int 1))) (tVar 10))) (tVar 11)) [11]) from pe_lc (own := [("x", 11)]) (g := gName 11) (tt := tYes) rfl sc__law_turned_right.nd (pi_range1 (by rfl) T.b_range (pa_cons (pv 4) pa_nil)) (blkOk_by (by kernel_rfl))
          (fun _ _ _ _ _ => pg_name (i := 11) sc__law_turned_right.nd rfl (Or.inl rfl)) (fun _ _ _ _ _ => pts_nil) (fun _ _ _ _ _ => show PE _ _ (tOp (rIxT K) (tOp (rIxT K) (tVar 2) (tOp rSubI (tOp rSubI (tVar 3) (tC (.int 1))) (tVar 10))) (tVar 11)) from (pe_ix ix_tup (pe_ix ix_tup (pv 2) (pe_op op_sub (pe_op op_sub (pv 3) pe_int) (pv 10)) (fun _ _ => rfl)) (pv 11) (fun _ _ => rfl)))) pa_nil)))
      (pss_cons (ps_setLc (i := 6) (own := [("y", 10)]) (g := gName 10) (tt := tYes) rfl sc__law_turned_right.nd rfl rfl (sw_true rfl rfl rfl (by decide +kernel)) (pi_range1 (by rfl) T.b_range (pa_cons (pv 3) pa_nil)) (blkOk_by (own := [("y", 10)]) (N := ["state", "scope", "pane", "tall", "wide", "ups", "sides", "corners", "told", "fashion", "y", "x"]) (sc := defScope s__law_turned_right) (by decide +kernel))
        (fun _ _ _ _ _ => pg_name (i := 10) sc__law_turned_right.nd rfl (Or.inr rfl)) (fun _ _ _ _ _ => pts_nil) (fun _ _ _ _ _ => pe_callTy (show CallR _ _ (rTupOf K) from call_tuple_of) (by rfl) T.b_tuple (by decide +kernel) (pa_cons (show PE _ _ (tLc (iRng1 (tCons (tVar 4) tNil)) (gName 11) tYes (tOp (rIxT K) (tOp (rIxT K) (tVar 2) (tVar 10)) (tOp rSubI (tOp rSubI (tVar 4) (tC (.int 1))) (tVar 11))) [11]) from pe_lc (own := [("x", 11)]) (g := gName 11) (tt := tYes) rfl sc__law_turned_right.nd (pi_range1 (by rfl) T.b_range (pa_cons (pv 4) pa_nil)) (blkOk_by (by kernel_rfl))
          (fun _ _ _ _ _ => pg_name (i := 11) sc__law_turned_right.nd rfl (Or.inl rfl)) (fun _ _ _ _ _ => pts_nil) (fun _ _ _ _ _ => show PE _ _ (tOp (rIxT K) (tOp (rIxT K) (tVar 2) (tVar 10)) (tOp rSubI (tOp rSubI (tVar 4) (tC (.int 1))) (tVar 11))) from (pe_ix ix_tup (pe_ix ix_tup (pv 2) (pv 10) (fun _ _ => rfl)) (pe_op op_sub (pe_op op_sub (pv 4) pe_int) (pv 11)) (fun _ _ => rfl)))) pa_nil)))
      (pss_cons (ps_setLc (i := 7) (own := [("x", 11)]) (g := gName 11) (tt := tYes) rfl sc__law_turned_right.nd rfl rfl (sw_true rfl rfl rfl (by decide +kernel)) (pi_range1 (by rfl) T.b_range (pa_cons (pv 4) pa_nil)) (blkOk_by (own := [("x", 11)]) (N := ["state", "scope", "pane", "tall", "wide", "ups", "sides", "corners", "told", "fashion", "y", "x"]) (sc := defScope s__law_turned_right) (by decide +kernel))
        (fun _ _ _ _ _ => pg_name (i := 11) sc__law_turned_right.nd rfl (Or.inr rfl)) (fun _ _ _ _ _ => pts_nil) (fun _ _ _ _ _ => pe_callTy (show CallR _ _ (rTupOf K) from call_tuple_of) (by rfl) T.b_tuple (by decide +kernel) (pa_cons (show PE _ _ (tLc (iRng1 (tCons (tVar 3) tNil)) (gName 10) tYes (tOp (rIxT K) (tOp (rIxT K) (tVar 2) (tVar 10)) (tVar 11)) [10]) from pe_lc (own := [("y", 10)]) (g := gName 10) (tt := tYes) rfl sc__law_turned_right.nd (pi_range1 (by rfl) T.b_range (pa_cons (pv 3) pa_nil)) (blkOk_by (by kernel_rfl))
          (fun _ _ _ _ _ => pg_name (i := 10) sc__law_turned_right.nd rfl (Or.inl rfl)) (fun _ _ _ _ _ => pts_nil) (fun _ _ _ _ _ => show PE _ _ (tOp (rIxT K) (tOp (rIxT K) (tVar 2) (tVar 10)) (tVar 11)) from (pe_ix ix_tup (pe_ix ix_tup (pv 2) (pv 10) (fun _ _ => rfl)) (pv 11) (fun _ _ => rfl)))) pa_nil)))
      (pss_cons (ps_set (i := 8) sc__law_turned_right.nd rfl (.inl rfl) (pe_lst (pa_cons (pe_call (ok_turned T) (hr.mono (by decide)) (by rfl) T.turned.m T.turned.f.kp (bd_turned T) .nil passE (pa_cons (pv 2) (pa_cons pe_str pa_nil))) (pa_cons (pe_kw (ok_turned T) (hr.mono (by decide)) (by rfl) T.turned.m T.turned.f.kp (KA.Fun.kw2 T.turned.f fun _ _ _ _ _ _ _ _ => rfl) passE (pk_cons pe_str (pk_cons (pv 2) pk_nil))) (pa_cons (pe_call (ok_turned T) (hr.mono (by decide)) (by rfl) T.turned.m T.turned.f.kp (bd_turned T) .nil passE (pa_cons (pv 2) (pa_cons pe_str pa_nil))) pa_nil)))))
      (pss_cons (ps_if (pt_cmpR op_ne (pe_callB (call_repr hg hr) (by rfl) T.b_repr (by decide +kernel) (pa_cons (pv 8) pa_nil)) (pe_callB (call_repr hg hr) (by rfl) T.b_repr (by decide +kernel) (pa_cons (pe_lst (pa_cons (pe_callTy (show CallR _ _ (rTupOf K) from call_tuple_of) (by rfl) T.b_tuple (by decide +kernel) (pa_cons (pv 5) pa_nil)) (pa_cons (pe_callTy (show CallR _ _ (rTupOf K) from call_tuple_of) (by rfl) T.b_tuple (by decide +kernel) (pa_cons (pv 6) pa_nil)) (pa_cons (pe_callTy (show CallR _ _ (rTupOf K) from call_tuple_of) (by rfl) T.b_tuple (by decide +kernel) (pa_cons (pv 7) pa_nil)) pa_nil)))) pa_nil)) (nomark _)) (pss_one (ps_ret pe_bl)) pss_nil)
      (pss_cons (ps_for (passes_of rfl) rfl (pi_list (pe_lst (pa_cons pe_str (pa_cons pe_str (pa_cons pe_str pa_nil))))) (pg_name (i := 9) sc__law_turned_right.nd rfl (.inl rfl))
        (pss_one (ps_if (pt_cmpR (op_neD hr.units) (pe_call (ok_turned T) (hr.mono (by decide)) (by rfl) T.turned.m T.turned.f.kp (bd_turned T) .nil passE (pa_cons (pe_call (ok_turned T) (hr.mono (by decide)) (by rfl) T.turned.m T.turned.f.kp (bd_turned T) .nil passE (pa_cons (pv 2) (pa_cons (pv 9) pa_nil))) (pa_cons (pv 9) pa_nil))) (pv 2) (nomark _)) (pss_one (ps_ret pe_bl)) pss_nil)))
      (pss_one (ps_ret (pe_cmpR (op_eqD hr.units) (pe_call (ok_turned T) (hr.mono (by decide)) (by rfl) T.turned.m T.turned.f.kp (bd_turned T) .nil passE (pa_cons (pe_call (ok_turned T) (hr.mono (by decide)) (by rfl) T.turned.m T.turned.f.kp (bd_turned T) .nil passE (pa_cons (pe_call (ok_turned T) (hr.mono (by decide)) (by rfl) T.turned.m T.turned.f.kp (bd_turned T) .nil passE (pa_cons (pv 2) (pa_cons pe_str pa_nil))) (pa_cons pe_str pa_nil))) (pa_cons pe_str pa_nil))) (pe_call (ok_turned T) (hr.mono (by decide)) (by rfl) T.turned.m T.turned.f.kp (bd_turned T) .nil passE (pa_cons (pv 2) (pa_cons pe_str pa_nil))) (nomark _)))))))))), ?_⟩
    refine ⟨_, rfl, sa, _, rfl, (show DGet H sa (kV kTall) _ from sc_tall ▸ DGet.k sc.d), _, rfl, sa, _, rfl, (show DGet H sa (kV kWide) _ from sc_wide ▸ DGet.k sc.d), (by show 2 ≤ sizeLine; decide), fun p0 hp0 => ⟨p0, _, rfl, SqT.of upd_same, rfl, _, _, rfl, _, _, rfl, rfl, ?_⟩⟩
    have s1 : Same H (upd H p0 (.tup [V.int ((nss.length : Nat) : Int), V.int ((wn : Nat) : Int)])) := Same.new hp0
    generalize upd H p0 (.tup [V.int ((nss.length : Nat) : Int), V.int ((wn : Nat) : Int)]) = H1 at s1 ⊢
    have n1 := pn.h1
    have n2 := pn.h2
    have w1 := pn.w1
    have w2 := pn.w2
    refine to_lc (gridA (K := K) (h := nss.length) (w := wn) (fun y x => (nss.getD (nss.length - 1 - y) []).getD x 0) pn.h2 pn.w2 (fun y x H' Q' hy hx s q => ?_) fun D1 rs1 H2 e1 r1 s2 => ?_)
    · obtain ⟨vs, b, ns, g1, g2, g3, g4⟩ := (pn.keep (s1.trans s)).get (y := nss.length - 1 - y) (x := x) (by omega) hx
      have i1 : ((nss.length : Nat) : Int) - 1 - (0 + (y : Int)) = ((nss.length - 1 - y : Nat) : Int) := by omega
      have i2 : (0 + (x : Int)) = ((x : Nat) : Int) := by omega
      exact ⟨_, rfl, _, rfl, _, _, rfl, rfl, _, rfl, _, _, rfl, rfl, a, vs, _, _, rfl, rfl, SqT.of g1, atI_eq i1 g2, _, rfl, b, _, _, _, rfl, rfl, SqT.of g3, atI_eq i2 g4, q⟩
    rw [rows_up pn.ws] at r1
    have s12 := s1.trans s2
    refine to_lc (gridA (K := K) (h := nss.length) (w := wn) (fun y x => (nss.getD y []).getD (wn - 1 - x) 0) pn.h2 pn.w2 (fun y x H' Q' hy hx s q => ?_) fun D2 rs2 H3 e2 r2 s3 => ?_)
    · obtain ⟨vs, b, ns, g1, g2, g3, g4⟩ := (pn.keep (s12.trans s)).get (y := y) (x := wn - 1 - x) hy (by omega)
      have i1 : (0 + (y : Int)) = ((y : Nat) : Int) := by omega
      have i2 : ((wn : Nat) : Int) - 1 - (0 + (x : Int)) = ((wn - 1 - x : Nat) : Int) := by omega
      exact ⟨_, rfl, _, rfl, a, vs, _, _, rfl, rfl, SqT.of g1, atI_eq i1 g2, _, rfl, _, _, rfl, rfl, _, rfl, _, _, rfl, rfl, b, _, _, _, rfl, rfl, SqT.of g3, atI_eq i2 g4, q⟩
    rw [rows_side pn.ws] at r2
    have s13 := s12.trans s3
    refine to_lc (gridB (K := K) (h := nss.length) (w := wn) (fun x y => (nss.getD y []).getD x 0) pn.h2 pn.w2 (fun x y H' Q' hx hy s q => ?_) fun D3 rs3 H4 e3 r3 s4 => ?_)
    · obtain ⟨vs, b, ns, g1, g2, g3, g4⟩ := (pn.keep (s13.trans s)).get (y := y) (x := x) hy hx
      have i1 : (0 + (y : Int)) = ((y : Nat) : Int) := by omega
      have i2 : (0 + (x : Int)) = ((x : Nat) : Int) := by omega
      exact ⟨_, rfl, _, rfl, a, vs, _, _, rfl, rfl, SqT.of g1, atI_eq i1 g2, _, rfl, b, _, _, _, rfl, rfl, SqT.of g3, atI_eq i2 g4, q⟩
    rw [rows_corner] at r3
    have s14 := s13.trans s4
    have k1 := (s3.trans s4) _ _ e1
    have k2 := s4 _ _ e2
    have r1 := r1.keep (s3.trans s4)
    have r2 := r2.keep s4
    -- told
    refine ⟨_, rfl, turn_call (f := 0) (pn.keep s14) sm fun H5 q1 s5 g1 => ?_⟩
    have s15 := s14.trans s5
    refine ⟨_, rfl, rfl, turn_call (f := 1) (pn.keep s15) sm fun H6 q2 s6 g2 => ⟨_, rfl, turn_call (f := 2) (pn.keep (s15.trans s6)) sm fun H7 q3 s7 g3 => ⟨(by show 3 ≤ sizeLine; decide), fun p1 hp1 => ?_⟩⟩⟩
    have s17 := (s15.trans s6).trans s7
    have e8 : (upd H7 p1 (.lst [V.ref q1, V.ref q2, V.ref q3])) p1 = some (.lst [V.ref q1, V.ref q2, V.ref q3]) := upd_same
    have s8 : Same H7 (upd H7 p1 (.lst [V.ref q1, V.ref q2, V.ref q3])) := Same.new hp1
    generalize upd H7 p1 (.lst [V.ref q1, V.ref q2, V.ref q3]) = H8 at e8 s8 ⊢
    have s18 := s17.trans s8
    have sA : Same H4 H8 := ((s5.trans s6).trans s7).trans s8
    have m0 : Sm 4624 2 (plD (turnN 0 nss wn).1) := g1.sm (smN_turn sm pn.ws)
    have m1 : Sm 4624 2 (plD (turnN 1 nss wn).1) := g2.sm (smN_turn sm pn.ws)
    have m2 : Sm 4624 2 (plD (turnN 2 nss wn).1) := g3.sm (smN_turn sm pn.ws)
    obtain ⟨c1, c2, c3, c4⟩ := (sm_list (k := 3) (ds := [plD (turnN 0 nss wn).1, plD (turnN 1 nss wn).1, plD (turnN 2 nss wn).1]) (n := 4624) (z := 2) (fun d hd => by
      simp only [List.mem_cons, List.not_mem_nil, or_false] at hd
      rcases hd with h | h | h
      · subst h; exact m0
      · subst h; exact m1
      · subst h; exact m2) (Nat.le_refl _)).repr (by decide) (by decide)
    have G1 := g1.keep ((s6.trans s7).trans s8)
    have G2 := g2.keep (s7.trans s8)
    have G3 := g3.keep s8
    refine ⟨_, rfl, p1, _, rfl, .lst (SqL.of e8) (.cons G1.dp (.cons G2.dp (.cons G3.dp .nil))), c1, c2, c3, c4, ?_⟩
    refine ⟨_, rfl, D1, rs1, rfl, .inl ⟨SqL.of (sA _ _ k1), fun l1 hl1 => ?_⟩⟩
    have t1 := Same.new (o := .tup rs1) hl1
    have L1 : (upd H8 l1 (.tup rs1)) l1 = some (.tup rs1) := upd_same
    generalize upd H8 l1 (.tup rs1) = H9 at t1 L1 ⊢
    refine ⟨_, rfl, D2, rs2, rfl, .inl ⟨SqL.of ((sA.trans t1) _ _ k2), fun l2 hl2 => ?_⟩⟩
    have t2 := Same.new (o := .tup rs2) hl2
    have L2' : (upd H9 l2 (.tup rs2)) l2 = some (.tup rs2) := upd_same
    generalize upd H9 l2 (.tup rs2) = H10 at t2 L2' ⊢
    refine ⟨_, rfl, D3, rs3, rfl, .inl ⟨SqL.of (((sA.trans t1).trans t2) _ _ e3), fun l3 hl3 => ?_⟩⟩
    have t3 := Same.new (o := .tup rs3) hl3
    have L3 : (upd H10 l3 (.tup rs3)) l3 = some (.tup rs3) := upd_same
    generalize upd H10 l3 (.tup rs3) = H11 at t3 L3 ⊢
    have sB := ((sA.trans t1).trans t2).trans t3
    refine ⟨(by show 3 ≤ sizeLine; decide), fun l4 hl4 => ?_⟩
    have t4 := Same.new (o := .lst [V.ref l1, V.ref l2, V.ref l3]) hl4
    have L4 : (upd H11 l4 (.lst [V.ref l1, V.ref l2, V.ref l3])) l4 = some (.lst [V.ref l1, V.ref l2, V.ref l3]) := upd_same
    generalize upd H11 l4 (.lst [V.ref l1, V.ref l2, V.ref l3]) = H12 at t4 L4 ⊢
    refine ⟨l4, .list [plD nss.reverse, plD (nss.map List.reverse), plD (trans nss wn)], rfl, .lst (SqL.of L4) (.cons (.tup (SqT.of (((t2.trans t3).trans t4) _ _ L1)) (rows_dp (r1.keep (sB.trans t4)))) (.cons (.tup (SqT.of ((t3.trans t4) _ _ L2')) (rows_dp (r2.keep (sB.trans t4)))) (.cons (.tup (SqT.of (t4 _ _ L3)) (rows_dp (r3.keep (sB.trans t4)))) .nil))), c1, c2, c3, c4, ?_⟩
    refine ⟨rfl, _, rfl, ?_⟩
    rw [show decide (V.str (PyData.list [plD (turnN 0 nss wn).1, plD (turnN 1 nss wn).1, plD (turnN 2 nss wn).1]).shown = V.str (PyData.list [plD nss.reverse, plD (nss.map List.reverse), plD (trans nss wn)]).shown) = true from decide_eq_true rfl]
    refine iteF ?_
    have sC := (((s18.trans t1).trans t2).trans t3).trans t4
    clear c1 c2 c3 c4 L1 L2' L3 L4 G1 G2 G3 e8 k1 k2 e1 e2 e3 r1 r2 r3
    refine ⟨(by show 3 ≤ sizeLine; decide), fun p9 hp9 => ?_⟩
    have s9 := sC.trans (Same.new (o := .lst [V.str "upside", V.str "sideways", V.str "corner"]) hp9)
    have e9 : (upd H12 p9 (.lst [V.str "upside", V.str "sideways", V.str "corner"])) p9 = some (.lst [V.str "upside", V.str "sideways", V.str "corner"]) := upd_same
    generalize upd H12 p9 (.lst [V.str "upside", V.str "sideways", V.str "corner"]) = H13 at s9 e9 ⊢
    refine ⟨p9, rfl, ⟨_, SqL.of e9⟩, for_list (xs := [V.str "upside", V.str "sideways", V.str "corner"]) (fun _ σ H' => (∃ v9, σ = [some x, some (.ref sa), some (.ref a), some (.int ((nss.length : Nat) : Int)), some (.int ((wn : Nat) : Int)), some (.ref D1), some (.ref D2), some (.ref D3), some (.ref p1), v9, none, none]) ∧ Same H13 H') ⟨⟨_, rfl⟩, fun _ _ e => e⟩ (fun i σ H' _ h => SqL.of (h.2 _ _ e9)) ?_ ?_⟩
    · rintro i y σ H' hy ⟨⟨v9, rfl⟩, sH⟩
      obtain ⟨f, rfl⟩ : ∃ f, y = .str (turnW f) := by
        have := List.mem_of_getElem? hy
        simp only [List.mem_cons, List.not_mem_nil, or_false] at this
        rcases this with h | h | h
        · exact ⟨0, h⟩
        · exact ⟨1, h⟩
        · exact ⟨2, h⟩
      have pH := pn.keep (s9.trans sH)
      refine ⟨_, rfl, _, rfl, turn_call f pH sm fun Ha qa za ga => ⟨_, rfl, turn_call f ga (smN_turn sm pn.ws) fun Hb qb zb gb => ⟨_, rfl, plD _, plD nss, gb.dp, (pH.keep (za.trans zb)).dp, (gb.sm (smN_turn (smN_turn sm pn.ws) ga.ws)).shaped (by decide), (pn.sm sm).shaped (by decide), _, rfl, ?_⟩⟩⟩
      rw [turn_twice pn.ws, SeqAt.eqv_refl (plD nss) (pn.sm sm).c]
      exact iteF ⟨⟨_, rfl⟩, (sH.trans za).trans zb⟩
    · rintro σ H' ⟨⟨v9, rfl⟩, sH⟩
      have pH := pn.keep (s9.trans sH)
      refine ⟨_, rfl, turn_call 2 pH sm fun Ha qa za ga => turn_call 1 ga (smN_turn sm pn.ws) fun Hb qb zb gb => turn_call 2 gb (smN_turn (smN_turn sm pn.ws) ga.ws) fun Hc qc zc gc => ⟨_, rfl, turn_call 0 (pH.keep ((za.trans zb).trans zc)) sm fun Hd qd zd gd => ?_⟩⟩
      refine ⟨_, _, (gc.keep zd).dp, gd.dp, (gc.sm (smN_turn (smN_turn (smN_turn sm pn.ws) ga.ws) gb.ws)).shaped (by decide), (gd.sm (smN_turn sm pn.ws)).shaped (by decide), ?_⟩
      refine q_bl (k Hd ((((s9.trans sH).trans za).trans zb).trans (zc.trans zd))) ?_
      rw [show (turnN 2 (turnN 1 (turnN 2 nss wn).1 (turnN 2 nss wn).2).1 (turnN 1 (turnN 2 nss wn).1 (turnN 2 nss wn).2).2).1 = nss.reverse from turn_turn pn.ws]
      exact SeqAt.eqv_refl _ (pn.sm sm |> fun _ => (gd.sm (smN_turn sm pn.ws)).c)
end
end K03
namespace K03
open PySem PySem.Spec PyProof.Rows L2 PySem.W LamX KA KW KU KL KT
open Evl (pss_cut tCut)
/-! ### a plane is drawn -/
theorem StAt.put' {H : Hp} {st lg cl L : Addr} {o : HO} {n : Nat} (S : StAt H st lg cl n) (h1 : L ≠ st) (h2 : L ≠ lg) (h3 : L ≠ cl) : StAt (upd H L o) st lg cl n := by
  obtain ⟨a, b, c, d, s, h⟩ := S
  exact ⟨a, b, c, d, { s with d := (upd_ne (Ne.symm h1)).trans s.d, l := (upd_ne (Ne.symm h2)).trans s.l, c := (upd_ne (Ne.symm h3)).trans s.c }, h⟩
theorem StAt.off3 {H : Hp} {st lg cl p : Addr} {n : Nat} (S : StAt H st lg cl n) (hp : H p = none) : p ≠ st ∧ p ≠ lg ∧ p ≠ cl := by
  obtain ⟨_, _, _, _, s, _⟩ := S
  exact ⟨(ne_of_none s.d hp).symm, (ne_of_none s.l hp).symm, (ne_of_none s.c hp).symm⟩
theorem Rows.kp {H H' : Hp} {st lg cl : Addr} {n : Nat} {rs : List V} {mss : List (List Int)} (r : Rows H rs mss) (S : StAt H st lg cl n) (k : Kp st lg H H') : Rows H' rs mss := ⟨r.1, fun j v e => by
  obtain ⟨b, ns, e1, e2, e3⟩ := r.2 j v e
  obtain ⟨_, _, _, _, s, _⟩ := S
  exact ⟨b, ns, e1, e2, k _ _ e3 (ne_of e3 s.d (by intro z; cases z)) (ne_of e3 s.l (by intro z; cases z))⟩⟩
theorem Pn.kp {H H' : Hp} {st lg cl : Addr} {n : Nat} {a : Addr} {nss : List (List Int)} {w : Nat} (p : Pn H a nss w) (S : StAt H st lg cl n) (k : Kp st lg H H') : Pn H' a nss w := by
  obtain ⟨vs, e, r⟩ := p.rows
  have r' := Rows.kp r S k
  obtain ⟨_, _, _, _, s, _⟩ := S
  exact Rows.pn r' (k _ _ e (ne_of e s.d (by intro z; cases z)) (ne_of e s.l (by intro z; cases z))) p.h1 p.h2 p.w1 p.w2 p.ws
/-- what stands while a plane is drawn -/
structure PB (st lg cl sa D p s : Addr) (H0 : Hp) (m : Nat) (h w lo hi b b2 s0 s1 : Int) (rs : List V) (mss : List (List Int)) (H' : Hp) : Prop where
  S : StAt H' st lg cl m
  K : Kp st lg H0 H'
  A : ScV H' sa h w lo hi
  D : H' D = some (.lst rs)
  R : Rows H' rs mss
  P : H' p = some (.lst [.int b, .int b2])
  L : H' s = some (.lst [.int s0, .int s1])
/-- the addresses are apart from the state -/
structure PA' (st lg sa D p s : Addr) : Prop where
  a : sa ≠ st ∧ sa ≠ lg
  d : D ≠ st ∧ D ≠ lg
  p : p ≠ st ∧ p ≠ lg
  s : s ≠ st ∧ s ≠ lg
section
variable {st lg cl sa D p s : Addr} {H0 H1 H2 : Hp} {m m' : Nat} {h w lo hi b b2 s0 s1 : Int} {rs : List V} {mss : List (List Int)}
theorem PB.same (B : PB st lg cl sa D p s H0 m h w lo hi b b2 s0 s1 rs mss H1) (e : Same H1 H2) : PB st lg cl sa D p s H0 m h w lo hi b b2 s0 s1 rs mss H2 :=
  ⟨B.S.same e, B.K.trans (Kp.same e), B.A.keep (e _), e _ _ B.D, B.R.keep e, e _ _ B.P, e _ _ B.L⟩
theorem PB.kp (B : PB st lg cl sa D p s H0 m h w lo hi b b2 s0 s1 rs mss H1) (N : PA' st lg sa D p s) (S : StAt H2 st lg cl m') (e : Kp st lg H1 H2) : PB st lg cl sa D p s H0 m' h w lo hi b b2 s0 s1 rs mss H2 :=
  ⟨S, B.K.trans e, B.A.keep fun o q => e _ _ q N.a.1 N.a.2, e _ _ B.D N.d.1 N.d.2, B.R.kp B.S e, e _ _ B.P N.p.1 N.p.2, e _ _ B.L N.s.1 N.s.2⟩
/-- a list of one's own is written -/
theorem PB.put {L : Addr} {xs : List V} {o : HO} (B : PB st lg cl sa D p s H0 m h w lo hi b b2 s0 s1 rs mss H1) (f : H0 L = none) (e : H1 L = some (.lst xs)) (n1 : L ≠ st ∧ L ≠ lg ∧ L ≠ cl) (n2 : L ≠ D ∧ L ≠ p ∧ L ≠ s) : PB st lg cl sa D p s H0 m h w lo hi b b2 s0 s1 rs mss (upd H1 L o) :=
  ⟨StAt.put' B.S n1.1 n1.2.1 n1.2.2, fun b' o' q a c => by rw [upd_ne (ne_of_none q f)]; exact B.K b' o' q a c, B.A.keep fun o' q => by rw [upd_ne (fun z => by rw [z, e] at q; have := B.A.d; rw [z, e] at this; cases this)]; exact q, (upd_ne n2.1.symm).trans B.D, B.R.put e, (upd_ne n2.2.1.symm).trans B.P, (upd_ne n2.2.2.symm).trans B.L⟩
end
theorem kp_none {st lg cl L : Addr} {m : Nat} {H H' : Hp} (k : Kp st lg H H') (S : StAt H' st lg cl m) (h : H' L = none) : H L = none := by
  cases e : H L with
  | none => rfl
  | some o =>
    obtain ⟨n1, n2, _⟩ := StAt.off3 S h
    have := k _ _ e n1 n2
    rw [h] at this
    cases this
def spPane : Sp := fun vs H Q _ => ∃ (st lg cl sa : Addr) (h w : Nat) (lo hi : Int) (m : Nat), vs = [.ref st, .ref sa] ∧ ScV H sa ((h : Nat) : Int) ((w : Nat) : Int) lo hi ∧ (sa ≠ st ∧ sa ≠ lg) ∧ m ≤ 980000 ∧ StAt H st lg cl m ∧
  ∀ (a : Addr) (nss : List (List Int)) (H' : Hp), Pn H' a nss w → nss.length = h → (∀ ns ∈ nss, ∀ n ∈ ns, lo ≤ n ∧ n ≤ hi) → StAt H' st lg cl (m + 300) → Kp st lg H H' → Q (.ref a) H'
theorem inAll_snoc {lo hi : Int} {ms : List Int} {n : Int} (h : ∀ k ∈ ms, lo ≤ k ∧ k ≤ hi) (h1 : lo ≤ n) (h2 : n ≤ hi) : ∀ k ∈ ms ++ [n], lo ≤ k ∧ k ≤ hi := fun k hk => by
  rcases List.mem_append.mp hk with q | q
  · exact h k q
  · simp only [List.mem_cons, List.not_mem_nil, or_false] at q
    subst q
    exact ⟨h1, h2⟩
section
variable {P : Program} {w : World} {K : PySem.W.Frag} {mg : Str → Option Value} {base : Heap} (T : Top K mg)
theorem ok_pane : FnOk P w K mg base (L2.CX P w) 3 T._law_pane.a T._law_pane.d ["state", "scope"] spPane := by
  refine T._law_pane.f.okX sc__law_pane (fun vs H Q E h => ?_) (fun cdv A outer s H vs Q E hr h => ?_)
  · obtain ⟨st, lg, cl, sa, h, w, lo, hi, m, rfl, _⟩ := h
    rfl
  · obtain ⟨st, lg, cl, sa, ht, wd, lo, hi, m, rfl, sc, na, hm, S, k⟩ := h
    have hu := hu_of hr
    refine ⟨_, pss_cons (ps_par (i := 2) (j := 3) rfl sc__law_pane.nd rfl rfl (by decide) rfl rfl (pa_cons (pe_call (ok_draw T) (hr.mono (by decide)) (by rfl) T._law_draw.m T._law_draw.f.kp (bd__law_draw T) .nil passE (pa_cons (pv 0) (pa_cons pe_int pa_nil))) (pa_cons (pe_call (ok_grain T) (hr.mono (by decide)) (by rfl) T._law_grain.m T._law_grain.f.kp (bd__law_grain T) .nil passE (pa_cons (pv 0) (pa_cons (pv 1) pa_nil))) pa_nil)) (by rfl))
      (pss_cons (ps_par (i := 4) (j := 5) rfl sc__law_pane.nd rfl rfl (by decide) rfl rfl (pa_cons (pe_lst (pa_cons (pv 3) (pa_cons (pe_call (ok_grain T) (hr.mono (by decide)) (by rfl) T._law_grain.m T._law_grain.f.kp (bd__law_grain T) .nil passE (pa_cons (pv 0) (pa_cons (pv 1) pa_nil))) pa_nil))) (pa_cons (pe_lst (pa_cons (pe_op op_sub (pe_call (ok_draw T) (hr.mono (by decide)) (by rfl) T._law_draw.m T._law_draw.f.kp (bd__law_draw T) .nil passE (pa_cons (pv 0) (pa_cons pe_int pa_nil))) pe_int) (pa_cons (pe_op op_sub (pe_call (ok_draw T) (hr.mono (by decide)) (by rfl) T._law_draw.m T._law_draw.f.kp (bd__law_draw T) .nil passE (pa_cons (pv 0) (pa_cons pe_int pa_nil))) pe_int) pa_nil))) pa_nil)) (by rfl))
      (pss_cut (ps_set (i := 6) sc__law_pane.nd rfl (.inl rfl) (pe_lst pa_nil))
      (pss_cons (ps_for (passes_of rfl) rfl (pi_range1 (by rfl) T.b_range (pa_cons (pe_dget hu (pv 1) pe_str (fun _ _ => rfl)) pa_nil)) (pg_name (i := 7) sc__law_pane.nd rfl (.inl rfl)) (pss_cut (ps_set (i := 8) sc__law_pane.nd rfl (.inl rfl) (pe_lst pa_nil)) (pss_cons (ps_for (passes_of rfl) rfl (pi_range1 (by rfl) T.b_range (pa_cons (pe_dget hu (pv 1) pe_str (fun _ _ => rfl)) pa_nil)) (pg_name (i := 9) sc__law_pane.nd rfl (.inl rfl)) (pss_one (ps_if (pt_cmpR op_eq (pv 2) pe_int (nomark _)) (pss_one (ps_expr (pe_bm PySem.F.plainAttrs_list PySem.F.slot_list_append PySem.F.type_list_append mt_append (pv 8) (pa_cons (pe_call (ok_grain T) (hr.mono (by decide)) (by rfl) T._law_grain.m T._law_grain.f.kp (bd__law_grain T) .nil passE (pa_cons (pv 0) (pa_cons (pv 1) pa_nil))) pa_nil)))) (pss_one (ps_if (pt_cmpR op_eq (pv 2) pe_int (nomark _)) (pss_one (ps_expr (pe_bm PySem.F.plainAttrs_list PySem.F.slot_list_append PySem.F.type_list_append mt_append (pv 8) (pa_cons (pe_call (ok_pick T) (hr.mono (by decide)) (by rfl) T._law_pick.m T._law_pick.f.kp (bd__law_pick T) .nil passE (pa_cons (pv 0) (pa_cons (pv 4) pa_nil))) pa_nil)))) (pss_one (ps_if (pt_cmpR op_eq (pv 2) pe_int (nomark _)) (pss_one (ps_expr (pe_bm PySem.F.plainAttrs_list PySem.F.slot_list_append PySem.F.type_list_append mt_append (pv 8) (pa_cons (pe_call (ok_lwithin T) (hr.mono (by decide)) (by rfl) T._law_within.m T._law_within.f.kp (bd__law_within T) .nil passE (pa_cons (pv 1) (pa_cons (pe_op op_add (pe_op op_add (pv 3) (pe_op op_mul (pe_ix ix_list (pv 5) pe_int (fun _ _ => rfl)) (pv 7))) (pe_op op_mul (pe_ix ix_list (pv 5) pe_int (fun _ _ => rfl)) (pv 9))) pa_nil))) pa_nil)))) (pss_one (ps_expr (pe_bm PySem.F.plainAttrs_list PySem.F.slot_list_append PySem.F.type_list_append mt_append (pv 8) (pa_cons (pe_ix ix_list (pv 4) (pe_callTy call_int1 (by rfl) T.b_int PyProof.Rows.boot_int (pa_cons (pe_cmpR op_eq (pe_call (ok_draw T) (hr.mono (by decide)) (by rfl) T._law_draw.m T._law_draw.f.kp (bd__law_draw T) .nil passE (pa_cons (pv 0) (pa_cons pe_int pa_nil))) pe_int (nomark _)) pa_nil)) (fun _ _ => rfl)) pa_nil))))))))))) (pss_one (ps_expr (pe_bm PySem.F.plainAttrs_list PySem.F.slot_list_append PySem.F.type_list_append mt_append (pv 6) (pa_cons (pe_callTy (show CallR _ _ (rTupOf K) from call_tuple_of) (by rfl) T.b_tuple (by decide +kernel) (pa_cons (pv 8) pa_nil)) pa_nil)))))))
      (pss_one (ps_ret (pe_callTy (show CallR _ _ (rTupOf K) from call_tuple_of) (by rfl) T.b_tuple (by decide +kernel) (pa_cons (pv 6) pa_nil))))))), ?_⟩
    have t1 := sc.t1
    have t2 := sc.t2
    have w1 := sc.w1
    have w2 := sc.w2
    have l1 := sc.l1
    have l2 := sc.l2
    have l3 := sc.l3
    refine ⟨_, rfl, st, lg, cl, 4, m, rfl, by decide, by decide, by omega, S, fun f H1 hf S1 kp1 => ⟨_, rfl, _, rfl, st, lg, cl, sa, _, _, lo, hi, m + 1, rfl, sc.keep fun o q => kp1 _ _ q na.1 na.2, by omega, S1, fun b H2 hb1 hb2 S2 kp2 => ⟨_, _, rfl, ?_⟩⟩⟩
    have kp12 := kp1.trans kp2
    refine ⟨_, rfl, _, rfl, _, rfl, st, lg, cl, sa, _, _, lo, hi, m + 2, rfl, sc.keep fun o q => kp12 _ _ q na.1 na.2, by omega, S2, fun b2 H3 hc1 hc2 S3 kp3 => ⟨(by show 2 ≤ sizeLine; decide), fun p hp => ?_⟩⟩
    have kp13 := kp12.trans kp3
    have S4 := S3.same (Same.new (o := .lst [V.int b, V.int b2]) hp)
    have P4 : (upd H3 p (.lst [V.int b, V.int b2])) p = some (.lst [V.int b, V.int b2]) := upd_same
    have np := S3.off hp
    have kp14 := kp13.trans (Kp.same (Same.new (o := .lst [V.int b, V.int b2]) hp))
    generalize upd H3 p (.lst [V.int b, V.int b2]) = H4 at S4 P4 kp14 ⊢
    refine ⟨_, rfl, st, lg, cl, 5, m + 3, rfl, by decide, by decide, by omega, S4, fun r0 H5 hr0 S5 kp5 => ⟨_, _, rfl, rfl, _, rfl, st, lg, cl, 5, m + 4, rfl, by decide, by decide, by omega, S5, fun r1 H6 hr1 S6 kp6 => ⟨_, _, rfl, rfl, (by show 2 ≤ sizeLine; decide), fun q hq => ⟨_, _, rfl, ?_⟩⟩⟩⟩
    have kp16 := (kp14.trans kp5).trans kp6
    have P6 := kp6 _ _ (kp5 _ _ P4 np.1 np.2) np.1 np.2
    have S7 := S6.same (Same.new (o := .lst [V.int ((r0 : Int) - 2), V.int ((r1 : Int) - 2)]) hq)
    have Q7 : (upd H6 q (.lst [V.int ((r0 : Int) - 2), V.int ((r1 : Int) - 2)])) q = some (.lst [V.int ((r0 : Int) - 2), V.int ((r1 : Int) - 2)]) := upd_same
    have nq := S6.off hq
    have P7 := (Same.new (o := .lst [V.int ((r0 : Int) - 2), V.int ((r1 : Int) - 2)]) hq) _ _ P6
    have kp17 := kp16.trans (Kp.same (Same.new (o := .lst [V.int ((r0 : Int) - 2), V.int ((r1 : Int) - 2)]) hq))
    generalize upd H6 q (.lst [V.int ((r0 : Int) - 2), V.int ((r1 : Int) - 2)]) = H7 at S7 Q7 P7 kp17 ⊢
    generalize ((r0 : Int) - 2) = s0 at Q7 ⊢
    generalize ((r1 : Int) - 2) = s1 at Q7 ⊢
    refine ⟨fun σ' H' => ∃ D : Addr, σ' = [some (.ref st), some (.ref sa), some (.int ((f : Nat) : Int)), some (.int b), some (.ref p), some (.ref q), some (.ref D), none, none, none] ∧ PA' st lg sa D p q ∧ H D = none ∧ (D ≠ cl ∧ D ≠ p ∧ D ≠ q) ∧ PB st lg cl sa D p q H (m + 5) ((ht : Nat) : Int) ((wd : Nat) : Int) lo hi b b2 s0 s1 [] [] H', ⟨(by decide), fun D hD => ⟨D, rfl, ⟨na, S7.off hD, np, nq⟩, kp_none kp17 S7 hD, ⟨(StAt.off3 S7 hD).2.2, (ne_of_none P7 hD).symm, (ne_of_none Q7 hD).symm⟩, ?_⟩⟩, ?_⟩
    · have e := Same.new (o := .lst []) hD
      have kk := kp17.trans (Kp.same e)
      exact ⟨S7.same e, kk, sc.keep fun o z => kk _ _ z na.1 na.2, upd_same, Rows.nil, e _ _ P7, e _ _ Q7⟩
    clear S1 S2 S3 S4 S5 S6 S7 kp1 kp2 kp12 kp3 kp13 kp14 kp5 kp6 kp16 kp17 P4 P6 P7 Q7 hp hq np nq
    rintro σ H8 ⟨D, rfl, N, fD, nc, B⟩
    refine ⟨_, rfl, sa, _, rfl, (show DGet H8 sa (kV kTall) _ from sc_tall ▸ DGet.k B.A.d), _, rfl, by omega, by omega, ?_⟩
    rw [Int.toNat_natCast]
    refine for_range (lo := 0) (n := ht) (fun y σ H' => (∃ v7 v8 v9, σ = [some (.ref st), some (.ref sa), some (.int ((f : Nat) : Int)), some (.int b), some (.ref p), some (.ref q), some (.ref D), v7, v8, v9]) ∧ ∃ rs mss, PB st lg cl sa D p q H (m + 5 + 16 * y) ((ht : Nat) : Int) ((wd : Nat) : Int) lo hi b b2 s0 s1 rs mss H' ∧ mss.length = y ∧ ∀ ns ∈ mss, ns.length = wd ∧ ∀ n ∈ ns, lo ≤ n ∧ n ≤ hi) ⟨⟨_, _, _, rfl⟩, [], [], B, rfl, fun ns hn => by cases hn⟩ ?_ ?_
    · clear B
      rintro y σ H1 hy ⟨⟨v7, v8, v9, rfl⟩, rs, mss, B, hl_eq, hall⟩
      refine ⟨fun σ' H' => ∃ L : Addr, σ' = [some (.ref st), some (.ref sa), some (.int ((f : Nat) : Int)), some (.int b), some (.ref p), some (.ref q), some (.ref D), some (.int (0 + (y : Int))), some (.ref L), v9] ∧ H L = none ∧ (L ≠ st ∧ L ≠ lg ∧ L ≠ cl) ∧ (L ≠ D ∧ L ≠ p ∧ L ≠ q) ∧ H' L = some (.lst []) ∧ PB st lg cl sa D p q H (m + 5 + 16 * y) ((ht : Nat) : Int) ((wd : Nat) : Int) lo hi b b2 s0 s1 rs mss H', ⟨(by decide), fun L hL => ⟨L, rfl, kp_none B.K B.S hL, StAt.off3 B.S hL, ⟨(ne_of_none B.D hL).symm, (ne_of_none B.P hL).symm, (ne_of_none B.L hL).symm⟩, upd_same, B.same (Same.new hL)⟩⟩, ?_⟩
      clear B H1
      rintro σ H1 ⟨L, rfl, fL, nL, nD, hL, B⟩
      refine ⟨_, rfl, sa, _, rfl, (show DGet H1 sa (kV kWide) _ from sc_wide ▸ DGet.k B.A.d), _, rfl, by omega, by omega, ?_⟩
      rw [Int.toNat_natCast]
      refine for_range (lo := 0) (n := wd) (fun x σ H' => (∃ v9, σ = [some (.ref st), some (.ref sa), some (.int ((f : Nat) : Int)), some (.int b), some (.ref p), some (.ref q), some (.ref D), some (.int (0 + (y : Int))), some (.ref L), v9]) ∧ (∃ ms : List Int, H' L = some (.lst (ms.map V.int)) ∧ ms.length = x ∧ ∀ n ∈ ms, lo ≤ n ∧ n ≤ hi) ∧ PB st lg cl sa D p q H (m + 5 + 16 * y + x) ((ht : Nat) : Int) ((wd : Nat) : Int) lo hi b b2 s0 s1 rs mss H') ⟨⟨_, rfl⟩, ⟨[], hL, rfl, fun n hn => by cases hn⟩, B⟩ ?_ ?_
      · clear B hL
        rintro x σ H2 hx ⟨⟨v9, rfl⟩, ⟨ms, hL, hml, hms⟩, B⟩
        have put : ∀ (H' : Hp) (n : Int), PB st lg cl sa D p q H (m + 5 + 16 * y + (x + 1)) ((ht : Nat) : Int) ((wd : Nat) : Int) lo hi b b2 s0 s1 rs mss H' → H' L = some (.lst (ms.map V.int)) → lo ≤ n → n ≤ hi →
            (∃ ms' : List Int, (upd H' L (.lst (ms.map V.int ++ [.int n]))) L = some (.lst (ms'.map V.int)) ∧ ms'.length = x + 1 ∧ ∀ k ∈ ms', lo ≤ k ∧ k ≤ hi) ∧ PB st lg cl sa D p q H (m + 5 + 16 * y + (x + 1)) ((ht : Nat) : Int) ((wd : Nat) : Int) lo hi b b2 s0 s1 rs mss (upd H' L (.lst (ms.map V.int ++ [.int n]))) := fun H' n B' e n1 n2 =>
          ⟨⟨ms ++ [n], by rw [upd_same, List.map_append]; rfl, by simp [hml], inAll_snoc hms n1 n2⟩, B'.put fL e nL nD⟩
        have sz : (ms.map V.int).length < sizeLine := by
          rw [List.length_map, hml]
          exact Nat.lt_of_lt_of_le hx (Nat.le_trans (by omega) (show 16 ≤ sizeLine by decide))
        refine ⟨_, rfl, rfl, _, rfl, ?_⟩
        by_cases c0 : f = 0
        · subst c0
          refine iteT ⟨_, rfl, .inl ⟨rfl, _, SqL.of hL⟩, _, rfl, _, rfl, st, lg, cl, sa, _, _, lo, hi, _, rfl, B.A, by omega, B.S, fun n H3 n1 n2 S3 kp3 => ⟨L, _, _, rfl, rfl, kp3 _ _ hL nL.1 nL.2.1, sz, ⟨_, rfl⟩, put H3 n (B.kp N S3 kp3) (kp3 _ _ hL nL.1 nL.2.1) n1 n2⟩⟩
        rw [show decide (V.int ((f : Nat) : Int) = V.int 0) = false from decide_eq_false fun z => c0 (by have := V.int.inj z; omega)]
        refine iteF ⟨_, rfl, rfl, _, rfl, ?_⟩
        by_cases c1 : f = 1
        · subst c1
          refine iteT ⟨_, rfl, .inl ⟨rfl, _, SqL.of hL⟩, _, rfl, _, rfl, st, lg, cl, p, _, _, rfl, B.P, N.p.2, (by show 0 < 2; decide), (by show 2 ≤ 1000; decide), by omega, B.S, fun v H3 hv S3 kp3 => ?_⟩
          obtain ⟨n, rfl, n1, n2⟩ : ∃ n : Int, v = .int n ∧ lo ≤ n ∧ n ≤ hi := by
            simp only [List.mem_cons, List.not_mem_nil, or_false] at hv
            rcases hv with h | h
            · exact ⟨_, h, hb1, hb2⟩
            · exact ⟨_, h, hc1, hc2⟩
          exact ⟨L, _, _, rfl, rfl, kp3 _ _ hL nL.1 nL.2.1, sz, ⟨_, rfl⟩, put H3 n (B.kp N S3 kp3) (kp3 _ _ hL nL.1 nL.2.1) n1 n2⟩
        rw [show decide (V.int ((f : Nat) : Int) = V.int 1) = false from decide_eq_false fun z => c1 (by have := V.int.inj z; omega)]
        refine iteF ⟨_, rfl, rfl, _, rfl, ?_⟩
        by_cases c2 : f = 2
        · subst c2
          have wi : lo ≤ withI lo hi (b + s0 * (0 + (y : Int)) + s1 * (0 + (x : Int))) ∧ withI lo hi (b + s0 * (0 + (y : Int)) + s1 * (0 + (x : Int))) ≤ hi := by
            generalize b + s0 * (0 + (y : Int)) + s1 * (0 + (x : Int)) = z
            rw [with_eq l2]
            split
            · omega
            · split <;> omega
          exact iteT ⟨_, rfl, .inl ⟨rfl, _, SqL.of hL⟩, _, rfl, _, rfl, _, rfl, q, _, 0, _, rfl, rfl, SqL.of B.L, atI_nat (j := 0) rfl, _, rfl, _, _, rfl, rfl, .inr ⟨by omega, by omega⟩, _, _, rfl, rfl, _, rfl, q, _, 1, _, rfl, rfl, SqL.of B.L, atI_nat (j := 1) rfl, _, rfl, _, _, rfl, rfl, .inr ⟨by omega, by omega⟩, _, _, rfl, rfl, sa, _, _, lo, hi, _, rfl, B.A, L, _, _, rfl, rfl, hL, sz, ⟨_, rfl⟩, put H2 _ { B with S := B.S.mono (by omega) } hL wi.1 wi.2⟩
        rw [show decide (V.int ((f : Nat) : Int) = V.int 2) = false from decide_eq_false fun z => c2 (by have := V.int.inj z; omega)]
        refine iteF ⟨_, rfl, .inl ⟨rfl, _, SqL.of hL⟩, _, rfl, _, rfl, st, lg, cl, 6, _, rfl, by decide, by decide, by omega, B.S, fun r H3 hr S3 kp3 => ⟨rfl, .inr ⟨_, rfl, ?_⟩⟩⟩
        have B3 := B.kp N S3 kp3
        have hL3 := kp3 _ _ hL nL.1 nL.2.1
        cases decide (V.int ((r : Nat) : Int) = V.int 0) with
        | true => exact ⟨p, _, 1, _, rfl, rfl, SqL.of B3.P, atI_nat (j := 1) rfl, L, _, _, rfl, rfl, hL3, sz, ⟨_, rfl⟩, put H3 _ B3 hL3 hc1 hc2⟩
        | false => exact ⟨p, _, 0, _, rfl, rfl, SqL.of B3.P, atI_nat (j := 0) rfl, L, _, _, rfl, rfl, hL3, sz, ⟨_, rfl⟩, put H3 _ B3 hL3 hb1 hb2⟩
      · clear B hL
        rintro σ H2 ⟨⟨v9, rfl⟩, ⟨ms, hL, hml, hms⟩, B⟩
        refine ⟨_, rfl, .inl ⟨rfl, _, SqL.of B.D⟩, _, rfl, L, _, rfl, .inl ⟨SqL.of hL, fun l hl => ?_⟩⟩
        have e := Same.new (o := .tup (ms.map V.int)) hl
        have B' := B.same e
        have T' : (upd H2 l (.tup (ms.map V.int))) l = some (.tup (ms.map V.int)) := upd_same
        generalize upd H2 l (.tup (ms.map V.int)) = H3 at B' T' ⊢
        refine ⟨D, _, _, rfl, rfl, B'.D, ?_, ⟨_, _, _, rfl⟩, rs ++ [.ref l], mss ++ [ms], ?_, by simp [hl_eq], fun ns hn => ?_⟩
        · rw [B.R.1, hl_eq]
          exact Nat.lt_of_lt_of_le hy (Nat.le_trans (by omega) (show 16 ≤ sizeLine by decide))
        · have S' := (StAt.put' (o := .lst (rs ++ [V.ref l])) B'.S N.d.1 N.d.2 nc.1).mono (show m + 5 + 16 * y + wd ≤ m + 5 + 16 * (y + 1) by omega)
          exact ⟨S', fun b' o' z a c => by rw [upd_ne (ne_of_none z fD)]; exact B'.K b' o' z a c, B'.A.keep fun o' z => by rw [upd_ne (fun u => by rw [u, B'.D] at z; have := B'.A.d; rw [u, B'.D] at this; cases this)]; exact z, upd_same, Rows.put (Rows.snoc B'.R T') B'.D, (upd_ne nc.2.1.symm).trans B'.P, (upd_ne nc.2.2.symm).trans B'.L⟩
        · rcases List.mem_append.mp hn with h | h
          · exact hall ns h
          · simp only [List.mem_cons, List.not_mem_nil, or_false] at h
            subst h
            exact ⟨hml, hms⟩
    · clear B
      rintro σ H1 ⟨⟨v7, v8, v9, rfl⟩, rs, mss, B, hl, hall⟩
      refine ⟨_, rfl, D, rs, rfl, .inl ⟨SqL.of B.D, fun l hl' => ?_⟩⟩
      have e := Same.new (o := .tup rs) hl'
      refine k l mss _ (Rows.pn (B.R.keep e) upd_same (by omega) (by omega) (by omega) (by omega) fun ns hn => (hall ns hn).1) hl (fun ns hn => (hall ns hn).2) ((B.S.same e).mono (by omega)) (B.K.trans (Kp.same e))
end
end K03
namespace K03
open PySem PySem.Spec PyProof.Rows L2 PySem.W LamX KA KW KU KL KT
open Evl (pss_cut tCut)
/-! ### a plane is bent -/
def rListOf (K : PySem.W.Frag) : List V → Hp → VK → Prop := fun xs H Q => ∃ p ys, xs = [.ref p] ∧ (SqL K H p ys ∨ SqT K H p ys) ∧ ∀ l, H l = none → Q (.ref l) (upd H l (.lst ys))
/-- lists of flat values, in a list -/
structure LL (st lg cl sa : Addr) (H0 : Hp) (m : Nat) (h w lo hi : Int) (D : Addr) (ls : List Addr) (H' : Hp) : Prop where
  S : StAt H' st lg cl m
  K : Kp st lg H0 H'
  A : ScV H' sa h w lo hi
  dl : H' D = some (.lst (ls.map V.ref))
  fD : H0 D = none
  nD : D ≠ st ∧ D ≠ lg ∧ D ≠ cl
  nl : ls.length ≤ 17
  q : ∀ b ∈ ls, H0 b = none ∧ (b ≠ st ∧ b ≠ lg ∧ b ≠ cl) ∧ b ≠ D ∧ ∃ xs, H' b = some (.lst xs) ∧ (∀ x ∈ xs, Fl x) ∧ xs.length ≤ 17
section
variable {st lg cl sa D : Addr} {H0 H1 H2 : Hp} {m m' : Nat} {h w lo hi : Int} {ls : List Addr}
theorem LL.same (B : LL st lg cl sa H0 m h w lo hi D ls H1) (e : Same H1 H2) : LL st lg cl sa H0 m h w lo hi D ls H2 :=
  ⟨B.S.same e, B.K.trans (Kp.same e), B.A.keep (e _), e _ _ B.dl, B.fD, B.nD, B.nl, fun b hb => by
    obtain ⟨a1, a2, a3, xs, a4, a5⟩ := B.q b hb
    exact ⟨a1, a2, a3, xs, e _ _ a4, a5⟩⟩
theorem LL.kp (B : LL st lg cl sa H0 m h w lo hi D ls H1) (na : sa ≠ st ∧ sa ≠ lg) (S : StAt H2 st lg cl m') (e : Kp st lg H1 H2) : LL st lg cl sa H0 m' h w lo hi D ls H2 :=
  ⟨S, B.K.trans e, B.A.keep fun o z => e _ _ z na.1 na.2, e _ _ B.dl B.nD.1 B.nD.2.1, B.fD, B.nD, B.nl, fun b hb => by
    obtain ⟨a1, a2, a3, xs, a4, a5⟩ := B.q b hb
    exact ⟨a1, a2, a3, xs, e _ _ a4 a2.1 a2.2.1, a5⟩⟩
theorem LL.put {b : Addr} {xs : List V} (B : LL st lg cl sa H0 m h w lo hi D ls H1) (hb : b ∈ ls) (f : ∀ x ∈ xs, Fl x) (l : xs.length ≤ 17) : LL st lg cl sa H0 m h w lo hi D ls (upd H1 b (.lst xs)) := by
  obtain ⟨a1, a2, a3, ys, a4, a5⟩ := B.q b hb
  refine ⟨StAt.put' B.S a2.1 a2.2.1 a2.2.2, fun b' o' z a c => by rw [upd_ne (ne_of_none z a1)]; exact B.K b' o' z a c, B.A.keep fun o' z => by rw [upd_ne (fun u => by rw [u, a4] at z; have := B.A.d; rw [u, a4] at this; cases this)]; exact z, (upd_ne (Ne.symm a3)).trans B.dl, B.fD, B.nD, B.nl, fun c hc => ?_⟩
  obtain ⟨c1, c2, c3, zs, c4, c5⟩ := B.q c hc
  refine ⟨c1, c2, c3, ?_⟩
  by_cases e : c = b
  · subst e
    exact ⟨xs, upd_same, f, l⟩
  · exact ⟨zs, (upd_ne e).trans c4, c5⟩
theorem LL.all {ks : List Addr} (B : LL st lg cl sa H0 m h w lo hi D ls H1) (hk : ∀ b ∈ ks, b ∈ ls) (l : ks.length ≤ 17) : LL st lg cl sa H0 m h w lo hi D ks (upd H1 D (.lst (ks.map V.ref))) := by
  refine ⟨StAt.put' B.S B.nD.1 B.nD.2.1 B.nD.2.2, fun b' o' z a c => by rw [upd_ne (ne_of_none z B.fD)]; exact B.K b' o' z a c, B.A.keep fun o' z => by rw [upd_ne (fun u => by rw [u, B.dl] at z; have := B.A.d; rw [u, B.dl] at this; cases this)]; exact z, upd_same, B.fD, B.nD, l, fun c hc => ?_⟩
  obtain ⟨c1, c2, c3, zs, c4, c5⟩ := B.q c (hk c hc)
  exact ⟨c1, c2, c3, zs, (upd_ne c3).trans c4, c5⟩
end
/-- the same values as tuples -/
def TT (H : Hp) (ts : List Addr) : Prop := ∀ b ∈ ts, ∃ xs, H b = some (.tup xs) ∧ (∀ x ∈ xs, Fl x) ∧ xs.length ≤ 17
theorem TT.keep {H H' : Hp} {ts : List Addr} (h : TT H ts) (s : Same H H') : TT H' ts := fun b hb => by
  obtain ⟨xs, a, r⟩ := h b hb
  exact ⟨xs, s _ _ a, r⟩
theorem TT.put {H : Hp} {ts : List Addr} {D : Addr} {o : HO} {ys : List V} (h : TT H ts) (e : H D = some (.lst ys)) : TT (upd H D o) ts := fun b hb => by
  obtain ⟨xs, a, r⟩ := h b hb
  exact ⟨xs, (upd_ne (fun z => by rw [z, e] at a; cases a)).trans a, r⟩
theorem TT.th {K : PySem.W.Frag} {H : Hp} {ts : List Addr} {p : Addr} (h : TT H ts) (e : H p = some (.tup (ts.map V.ref))) (l : ts.length ≤ 17) : ∃ os, Th K H (.ref p) (some os) ∧ FlC os := by
  have ex : ∀ ts : List Addr, TT H ts → ∃ os : List (Option (List V)), Rws K H (ts.map V.ref) os ∧ FlC os := fun ts => by
    induction ts with
    | nil => exact fun _ => ⟨[], ⟨rfl, fun i v hv => by simp at hv⟩, fun xs hx => by cases hx⟩
    | cons b ts ih =>
      intro h
      obtain ⟨os, r, f⟩ := ih fun c hc => h c (List.mem_cons_of_mem _ hc)
      obtain ⟨xs, a1, a2, a3⟩ := h b List.mem_cons_self
      refine ⟨some xs :: os, ⟨by simp [← r.1], fun i v hv => ?_⟩, fun ys hy => ?_⟩
      · cases i with
        | zero =>
          have : v = .ref b := by simpa using hv.symm
          subst this
          exact ⟨some xs, rfl, .tup a1 (fun x hx => ⟨_, (a2 x hx).pl⟩) (by omega)⟩
        | succ i => exact r.2 i v (by simpa using hv)
      · rcases List.mem_cons.mp hy with e | e
        · cases e
          exact a2
        · exact f ys e
  obtain ⟨os, r, f⟩ := ex ts h
  exact ⟨os, .tup e r (by rw [List.length_map]; omega), f⟩
/-- [tuple(line) for line in lines] -/
theorem tuples_read {K : PySem.W.Frag} {st lg cl sa D : Addr} {H0 H1 : Hp} {m : Nat} {h w lo hi : Int} {ls : List Addr} {v0 v1 v2 v4 v5 v6 v7 : Option V} {Qd : V → Hp → Prop} (B : LL st lg cl sa H0 m h w lo hi D ls H1)
    (k : ∀ (E : Addr) (ts : List Addr) (H' : Hp), Same H1 H' → H' E = some (.lst (ts.map V.ref)) → ts.length = ls.length → TT H' ts → Qd (.ref E) H') :
    tLc (iList K (tVar 3)) (gName 7) tYes (tCB (rTupOf K) (tCons (tVar 7) tNil)) [7] [v0, v1, v2, some (.ref D), v4, v5, v6, v7] H1 Qd := by
  refine ⟨_, rfl, D, rfl, ⟨_, SqL.of B.dl⟩, fun E hE => lc_list (K := K) (a := D) (xs := ls.map V.ref) (fun i H' => ∃ ts : List Addr, H' E = some (.lst (ts.map V.ref)) ∧ ts.length = i ∧ Same H1 H' ∧ TT H' ts) ⟨[], upd_same, rfl, Same.new hE, fun b hb => by cases hb⟩ (fun i H' _ q => SqL.of (q.choose_spec.2.2.1 _ _ B.dl)) ?_ ?_⟩
  · rintro i x H' hx ⟨ts, h1, h2, h3, h4⟩
    refine ⟨rfl, ?_⟩
    dsimp only [tYes]
    rw [if_pos rfl]
    have hil : i < ls.length := by
      rcases Nat.lt_or_ge i ls.length with c | c
      · exact c
      · rw [List.getElem?_eq_none (by simpa using c)] at hx
        cases hx
    have hb0 : ls[i]? = some ls[i] := List.getElem?_eq_getElem hil
    have ex : x = .ref ls[i] := by
      rw [List.getElem?_map, hb0] at hx
      exact (Option.some.inj hx).symm
    subst ex
    obtain ⟨_, _, _, xs, a4, a5, a6⟩ := B.q ls[i] (List.getElem_mem hil)
    have hnl := B.nl
    refine ⟨_, rfl, _, xs, rfl, .inl ⟨SqL.of (h3 _ _ a4), fun l hl => ⟨_, (Same.new hl) _ _ h1, ?_, ts ++ [l], ?_, by simp [h2], Same.put (h3.trans (Same.new hl)) hE, ?_⟩⟩⟩
    · rw [List.length_map, h2]
      exact Nat.lt_of_lt_of_le hil (Nat.le_trans hnl (by decide))
    · rw [upd_same, List.map_append]
      rfl
    · refine TT.put (fun b hb => ?_) ((Same.new hl) _ _ h1)
      rcases List.mem_append.mp hb with e | e
      · exact (h4.keep (Same.new hl)) b e
      · simp only [List.mem_cons, List.not_mem_nil, or_false] at e
        subst e
        exact ⟨xs, upd_same, a5, a6⟩
  · rintro H' ⟨ts, h1, h2, h3, h4⟩
    exact k E ts H' h3 h1 (by rw [h2, List.length_map]) h4
theorem ret_tup {K : PySem.W.Frag} {te : TE} {D : Ends} {σ : L2.St} {H : Hp} (h : te σ H fun x H1 => rTupOf K [x] H1 D.rt) : tRet (tCB (rTupOf K) (tCons te tNil)) D σ H := h
theorem ixN_nat {n j : Nat} (h : j < n) : ixN n (j : Int) = some j := by
  unfold ixN
  rw [if_pos (by omega), if_pos (by omega)]
  rfl
theorem cons_read {te : TE} {ta : TA} {σ : L2.St} {H : Hp} {Q : List V → Hp → Prop} (h : te σ H fun x H1 => ta σ H1 fun xs H2 => Q (x :: xs) H2) : tCons te ta σ H Q := h
def spBent (K : PySem.W.Frag) : Sp := fun vs H Q _ => ∃ (st lg cl sa a : Addr) (nss : List (List Int)) (w : Nat) (lo hi : Int) (m : Nat), vs = [.ref st, .ref sa, .ref a] ∧ ScV H sa ((nss.length : Nat) : Int) ((w : Nat) : Int) lo hi ∧ (sa ≠ st ∧ sa ≠ lg) ∧ Pn H a nss w ∧ m ≤ 980000 ∧ StAt H st lg cl m ∧
  ∀ (y : V) (o : Option (List (Option (List V)))) (H' : Hp), Th K H' y o → (∀ os, o = some os → FlC os) → StAt H' st lg cl (m + 10) → Kp st lg H H' → Q y H'
section
variable {P : Program} {w : World} {K : PySem.W.Frag} {mg : Str → Option Value} {base : Heap} (T : Top K mg)
theorem ok_bent : FnOk P w K mg base (L2.CX P w) 3 T._law_bent.a T._law_bent.d ["state", "scope", "pane"] (spBent K) := by
  refine T._law_bent.f.okX sc__law_bent (fun vs H Q E h => ?_) (fun cdv A outer s H vs Q E hr h => ?_)
  · obtain ⟨st, lg, cl, sa, a, nss, w, lo, hi, m, rfl, _⟩ := h
    rfl
  · obtain ⟨st, lg, cl, sa, a, nss, wd, lo, hi, m, rfl, sc, na, pn, hm, S, k⟩ := h
    have hu := hu_of hr
    refine ⟨_, pss_cons (ps_par (i := 3) (j := 4) rfl sc__law_bent.nd rfl rfl (by decide) rfl rfl (pa_cons (pe_lc (own := [("line", 7)]) (g := gName 7) (tt := tYes) rfl sc__law_bent.nd (pi_tup (pv 2)) (blkOk_by (own := [("line", 7)]) (N := ["state", "scope", "pane", "lines", "fashion", "spot", "dot", "line"]) (sc := defScope s__law_bent) (by decide +kernel)) (fun _ _ _ _ _ => pg_name (i := 7) sc__law_bent.nd rfl (Or.inl rfl)) (fun _ _ _ _ _ => pts_nil) (fun _ _ _ _ _ => show PE _ _ (tCB (rListOf K) (tCons (tVar 7) tNil)) from (pe_callTy (show CallR _ _ (rListOf K) from call_list_of) (by rfl) T.b_list (by decide +kernel) (pa_cons (pv 7) pa_nil)))) (pa_cons (pe_call (ok_draw T) (hr.mono (by decide)) (by rfl) T._law_draw.m T._law_draw.f.kp (bd__law_draw T) .nil passE (pa_cons (pv 0) (pa_cons pe_int pa_nil))) pa_nil)) (by rfl))
      (pss_cut (ps_par (i := 5) (j := 6) rfl sc__law_bent.nd rfl rfl (by decide) rfl rfl (pa_cons (pe_call (ok_draw T) (hr.mono (by decide)) (by rfl) T._law_draw.m T._law_draw.f.kp (bd__law_draw T) .nil passE (pa_cons (pv 0) (pa_cons (pe_callB call_len_seq (by rfl) T.b_len PySem.boot_len (pa_cons (pv 3) pa_nil)) pa_nil))) (pa_cons (pe_call (ok_draw T) (hr.mono (by decide)) (by rfl) T._law_draw.m T._law_draw.f.kp (bd__law_draw T) .nil passE (pa_cons (pv 0) (pa_cons (pe_dget hu (pv 1) pe_str (fun _ _ => rfl)) pa_nil))) pa_nil)) (by rfl))
      (pss_cut (ps_if (pt_cmpR op_eq (pv 4) pe_int (nomark _)) (pss_one (ps_asg (pe_call (ok_pick T) (hr.mono (by decide)) (by rfl) T._law_pick.m T._law_pick.f.kp (bd__law_pick T) .nil passE (pa_cons (pv 0) (pa_cons (pe_lst (pa_cons (pe_op op_add (pe_dget hu (pv 1) pe_str (fun _ _ => rfl)) pe_int) (pa_cons (pe_op op_sub (pe_dget hu (pv 1) pe_str (fun _ _ => rfl)) pe_int) (pa_cons pe_non (pa_cons pe_str pa_nil))))) pa_nil))) (pg_sub (pe_ix ix_list (pv 3) (pv 5) (fun _ _ => rfl)) (pv 6) set_list))) (pss_one (ps_if (pt_cmpR op_eq (pv 4) pe_int (nomark _)) (pss_one (ps_asg (pe_cmpR op_eq (pe_ix ix_list (pe_ix ix_list (pv 3) (pv 5) (fun _ _ => rfl)) (pv 6) (fun _ _ => rfl)) pe_int (nomark _)) (pg_sub (pe_ix ix_list (pv 3) (pv 5) (fun _ _ => rfl)) (pv 6) set_list))) (pss_one (ps_if (pt_cmpR op_eq (pv 4) pe_int (nomark _)) (pss_one (ps_expr (pe_bm PySem.F.plainAttrs_list PySem.F.slot_list_append PySem.F.type_list_append mt_append (pv 3) (pa_cons (pe_ix ix_list (pv 3) pe_int (fun _ _ => rfl)) pa_nil)))) (pss_one (ps_if (pt_cmpR op_eq (pv 4) pe_int (nomark _)) (pss_one (ps_expr (pe_bm PySem.F.plainAttrs_list PySem.F.slot_list_append PySem.F.type_list_append mt_append (pe_ix ix_list (pv 3) (pv 5) (fun _ _ => rfl)) (pa_cons (pe_dget hu (pv 1) pe_str (fun _ _ => rfl)) pa_nil)))) (pss_one (ps_if (pt_cmpR op_eq (pv 4) pe_int (nomark _)) (pss_one (ps_ret (pe_call (ok_pick T) (hr.mono (by decide)) (by rfl) T._law_pick.m T._law_pick.f.kp (bd__law_pick T) .nil passE (pa_cons (pv 0) (pa_cons (pe_lst (pa_cons (pv 3) (pa_cons (pe_callTy (show CallR _ _ (rTupOf K) from call_tuple_of) (by rfl) T.b_tuple (by decide +kernel) (pa_cons (pv 3) pa_nil)) (pa_cons (pe_lc (own := [("line", 7)]) (g := gName 7) (tt := tYes) rfl sc__law_bent.nd (pi_list (pv 3)) (blkOk_by (own := [("line", 7)]) (N := ["state", "scope", "pane", "lines", "fashion", "spot", "dot", "line"]) (sc := defScope s__law_bent) (by decide +kernel)) (fun _ _ _ _ _ => pg_name (i := 7) sc__law_bent.nd rfl (Or.inl rfl)) (fun _ _ _ _ _ => pts_nil) (fun _ _ _ _ _ => show PE _ _ (tCB (rTupOf K) (tCons (tVar 7) tNil)) from (pe_callTy (show CallR _ _ (rTupOf K) from call_tuple_of) (by rfl) T.b_tuple (by decide +kernel) (pa_cons (pv 7) pa_nil)))) (pa_cons pe_non (pa_cons (pe_tup pa_nil) (pa_cons pe_str (pa_cons pe_dnewK pa_nil)))))))) pa_nil))))) (pss_one (ps_if (pt_cmpR op_eq (pv 4) pe_int (nomark _)) (pss_one (ps_expr (pe_bm0 PySem.F.plainAttrs_list PySem.F.slot_list_pop PySem.F.type_list_pop mt_pop (pv 3)))) (pss_one (ps_asg (pe_call (ok_grain T) (hr.mono (by decide)) (by rfl) T._law_grain.m T._law_grain.f.kp (bd__law_grain T) .nil passE (pa_cons (pv 0) (pa_cons (pv 1) pa_nil))) (pg_sub (pe_ix ix_list (pv 3) (pv 5) (fun _ _ => rfl)) (pv 6) set_list))))))))))))))
      (pss_one (ps_ret (pe_callTy (show CallR _ _ (rTupOf K) from call_tuple_of) (by rfl) T.b_tuple (by decide +kernel) (pa_cons (pe_lc (own := [("line", 7)]) (g := gName 7) (tt := tYes) rfl sc__law_bent.nd (pi_list (pv 3)) (blkOk_by (own := [("line", 7)]) (N := ["state", "scope", "pane", "lines", "fashion", "spot", "dot", "line"]) (sc := defScope s__law_bent) (by decide +kernel)) (fun _ _ _ _ _ => pg_name (i := 7) sc__law_bent.nd rfl (Or.inl rfl)) (fun _ _ _ _ _ => pts_nil) (fun _ _ _ _ _ => show PE _ _ (tCB (rTupOf K) (tCons (tVar 7) tNil)) from (pe_callTy (show CallR _ _ (rTupOf K) from call_tuple_of) (by rfl) T.b_tuple (by decide +kernel) (pa_cons (pv 7) pa_nil)))) pa_nil)))))), ?_⟩
    obtain ⟨vs, e, rows⟩ := pn.rows
    have n1 := pn.h1
    have n2 := pn.h2
    have w1 := pn.w1
    have w2 := pn.w2
    have l1 := sc.l1
    have l2 := sc.l2
    have l3 := sc.l3
    refine ⟨_, rfl, a, rfl, ⟨_, SqT.of e⟩, fun D hD => lc_tup (K := K) (a := a) (xs := vs) (fun i H' => ∃ ls : List Addr, H' D = some (.lst (ls.map V.ref)) ∧ ls.length = i ∧ Same H H' ∧ ∀ b ∈ ls, H b = none ∧ b ≠ D ∧ ∃ xs, H' b = some (.lst xs) ∧ (∀ x ∈ xs, Fl x ∧ isNum x = true) ∧ xs.length = wd) ⟨[], upd_same, rfl, Same.new hD, fun b hb => by cases hb⟩ (fun i H' _ q => SqT.of (q.choose_spec.2.2.1 _ _ e)) ?_ ?_⟩
    · rintro i x H' hx ⟨ls, h1, h2, h3, h4⟩
      refine ⟨rfl, ?_⟩
      dsimp only [tYes]
      rw [if_pos rfl]
      obtain ⟨b, ns, rfl, hn, hb⟩ := rows.2 i x hx
      have hi : i < nss.length := by
        rcases Nat.lt_or_ge i nss.length with c | c
        · exact c
        · rw [List.getElem?_eq_none c] at hn
          cases hn
      refine ⟨_, rfl, b, _, rfl, .inr (SqT.of (h3 _ _ hb)), fun l hl => ⟨_, (Same.new hl) _ _ h1, ?_, ls ++ [l], by rw [upd_same, List.map_append]; rfl, by simp [h2], Same.put (h3.trans (Same.new hl)) hD, fun c hc => ?_⟩⟩
      · rw [List.length_map, h2]
        exact Nat.lt_of_lt_of_le hi (Nat.le_trans n2 (by decide))
      · rcases List.mem_append.mp hc with q | q
        · obtain ⟨q1, q2, xs, q3, q4⟩ := h4 c q
          exact ⟨q1, q2, xs, (upd_ne q2).trans ((Same.new hl) _ _ q3), q4⟩
        · simp only [List.mem_cons, List.not_mem_nil, or_false] at q
          subst q
          have nD : c ≠ D := (ne_of_none h1 hl).symm
          refine ⟨?_, nD, ns.map V.int, (upd_ne nD).trans upd_same, fun x hx => ?_, by rw [List.length_map]; exact pn.ws ns (List.mem_of_getElem? hn)⟩
          · cases z : H c with
            | none => rfl
            | some o =>
              have := h3 _ _ z
              rw [hl] at this
              cases this
          · obtain ⟨k', _, rfl⟩ := List.mem_map.mp hx
            exact ⟨.int k', rfl⟩
    rintro H1 ⟨ls, h1, h2, h3, h4⟩
    have hlen : ls.length = nss.length := by rw [h2, rows.1]
    have B1 : LL st lg cl sa H m ((nss.length : Nat) : Int) ((wd : Nat) : Int) lo hi D ls H1 := by
      refine ⟨S.same h3, Kp.same h3, sc.keep (h3 _), h1, hD, StAt.off3 S hD, by omega, fun b hb => ?_⟩
      obtain ⟨q1, q2, xs, q3, q4, q5⟩ := h4 b hb
      exact ⟨q1, StAt.off3 S q1, q2, xs, q3, fun x hx => (q4 x hx).1, by omega⟩
    have W1 : ∀ b ∈ ls, ∃ xs, H1 b = some (.lst xs) ∧ (∀ x ∈ xs, Fl x ∧ isNum x = true) ∧ xs.length = wd := fun b hb => (h4 b hb).2.2
    clear h1 h2 h3 h4
    refine ⟨_, rfl, st, lg, cl, 8, m, rfl, by decide, by decide, by omega, B1.S, fun f H2 hf S2 kp2 => ⟨_, _, rfl, ?_⟩⟩
    have B2 := B1.kp na S2 kp2
    have W2 : ∀ b ∈ ls, ∃ xs, H2 b = some (.lst xs) ∧ (∀ x ∈ xs, Fl x ∧ isNum x = true) ∧ xs.length = wd := fun b hb => by
      obtain ⟨xs, q⟩ := W1 b hb
      have := (B1.q b hb).2.1
      exact ⟨xs, kp2 _ _ q.1 this.1 this.2.1, q.2⟩
    clear B1 W1 S2 kp2
    refine ⟨fun σ' H' => ∃ r d : Nat, σ' = [some (.ref st), some (.ref sa), some (.ref a), some (.ref D), some (.int ((f : Nat) : Int)), some (.int ((r : Nat) : Int)), some (.int ((d : Nat) : Int)), none] ∧ r < ls.length ∧ d < wd ∧ LL st lg cl sa H (m + 3) ((nss.length : Nat) : Int) ((wd : Nat) : Int) lo hi D ls H' ∧ ∀ b ∈ ls, ∃ xs, H' b = some (.lst xs) ∧ (∀ x ∈ xs, Fl x ∧ isNum x = true) ∧ xs.length = wd, ?_, ?_⟩
    · refine ⟨_, rfl, _, rfl, D, _, rfl, .inl (SqL.of B2.dl), st, lg, cl, (ls.map V.ref).length, m + 1, rfl, ?_, ?_, by omega, B2.S, fun r H3 hr3 S3 kp3 => ?_⟩
      · rw [List.length_map]
        omega
      · rw [List.length_map]
        exact Nat.lt_of_le_of_lt (show ls.length ≤ 16 by omega) (by decide)
      have B3 := B2.kp na S3 kp3
      refine ⟨_, rfl, _, rfl, sa, _, rfl, (show DGet H3 sa (kV kWide) _ from sc_wide ▸ DGet.k B3.A.d), st, lg, cl, wd, m + 2, rfl, by omega, Nat.lt_of_le_of_lt (show wd ≤ 16 by omega) (by decide), by omega, B3.S, fun d H4 hd S4 kp4 => ⟨_, _, rfl, r, d, rfl, ?_, hd, B3.kp na S4 kp4, fun b hb => ?_⟩⟩
      · rw [List.length_map] at hr3
        exact hr3
      · obtain ⟨xs, q⟩ := W2 b hb
        have := (B2.q b hb).2.1
        exact ⟨xs, kp4 _ _ (kp3 _ _ q.1 this.1 this.2.1) this.1 this.2.1, q.2⟩
    clear B2 W2 H2
    rintro σ H2 ⟨r, d, rfl, hr3, hd, B, W⟩
    obtain ⟨bl, hbl⟩ : ∃ bl, ls[r]? = some bl := ⟨_, List.getElem?_eq_getElem hr3⟩
    have hbm : bl ∈ ls := List.mem_of_getElem? hbl
    have hat : (ls.map V.ref)[r]? = some (.ref bl) := by rw [List.getElem?_map, hbl]; rfl
    obtain ⟨xs, hx1, hx2, hx3⟩ := W bl hbm
    obtain ⟨_, nb, nbD, _⟩ := B.q bl hbm
    -- a cell is set
    have setc : ∀ (H' : Hp) (v : V) (m' : Nat), LL st lg cl sa H m' ((nss.length : Nat) : Int) ((wd : Nat) : Int) lo hi D ls H' → H' bl = some (.lst xs) → Fl v → LL st lg cl sa H m' ((nss.length : Nat) : Int) ((wd : Nat) : Int) lo hi D ls (upd H' bl (.lst (xs.set d v))) := fun H' v m' B' e' fv =>
      B'.put hbm (fun y hy => (List.mem_or_eq_of_mem_set hy).elim (fun z => (hx2 y z).1) fun z => z ▸ fv) (by rw [List.length_set]; omega)
    refine ⟨fun σ' H' => ∃ (v4 v5 v6 : Option V) (ks : List Addr), σ' = [some (.ref st), some (.ref sa), some (.ref a), some (.ref D), v4, v5, v6, none] ∧ LL st lg cl sa H (m + 5) ((nss.length : Nat) : Int) ((wd : Nat) : Int) lo hi D ks H', ?_, ?_⟩
    · have ne : ∀ n : Nat, f ≠ n → decide (V.int ((f : Nat) : Int) = V.int ((n : Nat) : Int)) = false := fun n h => decide_eq_false fun z => h (by have := V.int.inj z; omega)
      have hj : ∀ ys : List V, ys.length = wd → ixN ys.length ((d : Nat) : Int) = some d := fun ys h => ixN_nat (by omega)
      refine ⟨_, rfl, rfl, _, rfl, ?_⟩
      by_cases c0 : f = 0
      · subst c0
        refine iteT ⟨_, rfl, _, rfl, sa, _, rfl, (show DGet H2 sa (kV kMost) _ from sc_most ▸ DGet.k B.A.d), _, _, rfl, rfl, _, rfl, sa, _, rfl, (show DGet H2 sa (kV kLeast) _ from sc_least ▸ DGet.k B.A.d), _, _, rfl, rfl, (by show 4 ≤ sizeLine; decide), fun p hp => ⟨st, lg, cl, p, _, m + 3, rfl, upd_same, (B.S.off hp).2, (by show 0 < 4; decide), (by show 4 ≤ 1000; decide), by omega, B.S.same (Same.new hp), fun x H3 hx S3 kp3 => ?_⟩⟩
        have B3 := (B.same (Same.new hp)).kp na S3 kp3
        have e3 := kp3 _ _ ((Same.new hp) _ _ hx1) nb.1 nb.2.1
        have fx : Fl x := by
          simp only [List.mem_cons, List.not_mem_nil, or_false] at hx
          rcases hx with h | h | h | h
          · subst h; exact .int _
          · subst h; exact .int _
          · subst h; exact .non
          · subst h; exact .str _ (by decide +kernel)
        exact ⟨_, rfl, _, rfl, D, _, _, _, rfl, rfl, SqL.of B3.dl, atI_nat hat, _, rfl, bl, xs, _, d, rfl, rfl, e3, hj xs hx3, _, _, _, ls, rfl, { setc H3 x _ B3 e3 fx with S := (setc H3 x _ B3 e3 fx).S.mono (by omega) }⟩
      rw [show decide (V.int ((f : Nat) : Int) = V.int 0) = false from ne 0 c0]
      refine iteF ⟨_, rfl, rfl, _, rfl, ?_⟩
      by_cases c1 : f = 1
      · subst c1
        obtain ⟨y, hy⟩ : ∃ y, xs[d]? = some y := ⟨_, List.getElem?_eq_getElem (by omega)⟩
        have fy := hx2 y (List.mem_of_getElem? hy)
        exact iteT ⟨_, rfl, _, rfl, D, _, _, _, rfl, rfl, SqL.of B.dl, atI_nat hat, _, rfl, bl, xs, _, y, rfl, rfl, SqL.of hx1, atI_nat hy, (by obtain ⟨fy, fz⟩ := fy; cases fy with | int i => rfl | _ => cases fz), _, rfl, _, rfl, D, _, _, _, rfl, rfl, SqL.of B.dl, atI_nat hat, _, rfl, bl, xs, _, d, rfl, rfl, hx1, hj xs hx3, _, _, _, ls, rfl, { setc H2 _ _ B hx1 (.bl _) with S := (setc H2 _ _ B hx1 (.bl _)).S.mono (by omega) }⟩
      rw [show decide (V.int ((f : Nat) : Int) = V.int 1) = false from ne 1 c1]
      refine iteF ⟨_, rfl, rfl, _, rfl, ?_⟩
      by_cases c2 : f = 2
      · subst c2
        obtain ⟨b0, hb0⟩ : ∃ b0, ls[0]? = some b0 := ⟨_, List.getElem?_eq_getElem (by omega)⟩
        have q := B.all (ks := ls ++ [b0]) (fun c hc => by
          rcases List.mem_append.mp hc with h | h
          · exact h
          · simp only [List.mem_cons, List.not_mem_nil, or_false] at h
            subst h
            exact List.mem_of_getElem? hb0) (by rw [List.length_append]; show ls.length + 1 ≤ 17; omega)
        rw [List.map_append] at q
        exact iteT ⟨_, rfl, .inl ⟨rfl, _, SqL.of B.dl⟩, _, rfl, D, _, 0, .ref b0, rfl, rfl, SqL.of B.dl, atI_nat (j := 0) (by rw [List.getElem?_map, hb0]; rfl), D, _, _, rfl, rfl, B.dl, (by rw [List.length_map]; exact Nat.lt_of_le_of_lt B.nl (by decide)), _, _, _, ls ++ [b0], rfl, { q with S := q.S.mono (by omega) }⟩
      rw [show decide (V.int ((f : Nat) : Int) = V.int 2) = false from ne 2 c2]
      refine iteF ⟨_, rfl, rfl, _, rfl, ?_⟩
      by_cases c3 : f = 3
      · subst c3
        have q := B.put hbm (xs := xs ++ [.int lo]) (fun y hy => by
          rcases List.mem_append.mp hy with h | h
          · exact (hx2 y h).1
          · simp only [List.mem_cons, List.not_mem_nil, or_false] at h
            subst h
            exact .int _) (by rw [List.length_append]; show xs.length + 1 ≤ 17; omega)
        exact iteT ⟨_, rfl, _, rfl, D, _, _, _, rfl, rfl, SqL.of B.dl, atI_nat hat, .inl ⟨rfl, _, SqL.of hx1⟩, _, rfl, sa, _, rfl, (show DGet H2 sa (kV kLeast) _ from sc_least ▸ DGet.k B.A.d), bl, _, _, rfl, rfl, hx1, (Nat.lt_of_le_of_lt (show xs.length ≤ 16 by omega) (by decide)), _, _, _, ls, rfl, { q with S := q.S.mono (by omega) }⟩
      rw [show decide (V.int ((f : Nat) : Int) = V.int 3) = false from ne 3 c3]
      refine iteF ⟨_, rfl, rfl, _, rfl, ?_⟩
      by_cases c4 : f = 4
      · subst c4
        refine iteT ⟨_, rfl, cons_read ⟨_, rfl, cons_read ⟨_, rfl, D, _, rfl, .inl ⟨SqL.of B.dl, fun t ht => ?_⟩⟩⟩⟩
        have Bt := B.same (Same.new (o := .tup (ls.map V.ref)) ht)
        have t1 : (upd H2 t (.tup (ls.map V.ref))) t = some (.tup (ls.map V.ref)) := upd_same
        have nt := StAt.off3 B.S ht
        generalize upd H2 t (.tup (ls.map V.ref)) = H3 at Bt t1 ⊢
        refine cons_read (tuples_read Bt fun E ts H4 s4 e4 l4 t4 => ?_)
        have nE : E ≠ st ∧ E ≠ lg := by
          obtain ⟨lgs, cls, lf, tn, SD, _⟩ := Bt.S.same s4
          refine ⟨ne_of e4 SD.d (by intro z; cases z), fun z => ?_⟩
          rw [z, SD.l] at e4
          injection e4 with e4
          injection e4 with e4
          cases ts with
          | nil => rw [← l4] at hr3; exact absurd hr3 (Nat.not_lt_zero _)
          | cons c ts =>
            cases lgs with
            | nil => cases e4
            | cons n lgs =>
              rw [List.map_cons, List.map_cons] at e4
              injection e4 with e4 _
              cases e4
        have B4 := Bt.same s4
        have t2 := s4 _ _ t1
        refine ⟨(by decide), fun ep hep => ?_⟩
        have s5 := Same.new (o := .tup []) hep
        have u1 : (upd H4 ep (.tup [])) ep = some (.tup []) := upd_same
        have np := StAt.off3 B4.S hep
        have B5 := B4.same s5
        have t3 := s5 _ _ t2
        have e5 := s5 _ _ e4
        generalize upd H4 ep (.tup []) = H5 at B5 t3 e5 u1 ⊢
        intro dd hdd
        have s6 := Same.new (o := .dK []) hdd
        have u2 : (upd H5 dd (.dK [])) dd = some (.dK []) := upd_same
        have nq := StAt.off3 B5.S hdd
        have B6 := B5.same s6
        have t4' := s6 _ _ t3
        have e6 := s6 _ _ e5
        have u1' := s6 _ _ u1
        generalize upd H5 dd (.dK []) = H6 at B6 t4' e6 u1' u2 ⊢
        refine ⟨(by show 7 ≤ sizeLine; decide), fun p hp => ⟨st, lg, cl, p, _, m + 3, rfl, upd_same, (B6.S.off hp).2, (by show 0 < 7; decide), (by show 7 ≤ 1000; decide), by omega, B6.S.same (Same.new hp), fun x H7 hx S7 kp7 => ?_⟩⟩
        have s7 := Same.new (o := .lst [V.ref D, V.ref t, V.ref E, V.non, V.ref ep, V.str "plane", V.ref dd]) hp
        have B7 := (B6.same s7).kp na S7 kp7
        have fin : ∀ o, Th K H7 x o → (∀ os, o = some os → FlC os) → Q x H7 := fun o th fl => k x o H7 th fl (S7.mono (by omega)) B7.K
        simp only [List.mem_cons, List.not_mem_nil, or_false] at hx
        rcases hx with h | h | h | h | h | h | h
        · subst h
          exact fin none (.no (.lst B7.dl)) fun os z => by cases z
        · subst h
          refine fin (some (ls.map fun _ => none)) (.tup (kp7 _ _ (s7 _ _ t4') nt.1 nt.2.1) ⟨by simp, fun i v hv => ?_⟩ (by rw [List.length_map]; have := B.nl; omega)) fun os z => ?_
          · rw [List.getElem?_map] at hv
            cases hi : ls[i]? with
            | none => rw [hi] at hv; cases hv
            | some c =>
              rw [hi] at hv
              have := Option.some.inj hv
              subst this
              obtain ⟨_, _, _, zs, q4, _⟩ := B7.q c (List.mem_of_getElem? hi)
              exact ⟨none, by rw [List.getElem?_map, hi]; rfl, .no (.lst q4)⟩
          · cases z
            intro ys hy
            obtain ⟨_, _, z⟩ := List.mem_map.mp hy
            cases z
        · subst h
          exact fin none (.no (.lst (kp7 _ _ (s7 _ _ e6) nE.1 nE.2))) fun os z => by cases z
        · subst h
          exact fin none (.no .non) fun os z => by cases z
        · subst h
          exact fin (some []) (.tup (kp7 _ _ (s7 _ _ u1') np.1 np.2.1) ⟨rfl, fun i v hv => by simp at hv⟩ (by decide)) fun os z => by
            cases z
            intro ys hy
            cases hy
        · subst h
          exact fin none (.no (.str _)) fun os z => by cases z
        · subst h
          exact fin none (.no (.dK (kp7 _ _ (s7 _ _ u2) nq.1 nq.2.1))) fun os z => by cases z
      rw [show decide (V.int ((f : Nat) : Int) = V.int 4) = false from ne 4 c4]
      refine iteF ⟨_, rfl, rfl, _, rfl, ?_⟩
      by_cases c5 : f = 5
      · subst c5
        obtain ⟨y, hy⟩ : ∃ y, (ls.map V.ref)[(ls.map V.ref).length - 1]? = some y := ⟨_, List.getElem?_eq_getElem (by rw [List.length_map]; omega)⟩
        have q := B.all (ks := ls.dropLast) (fun c hc => (List.dropLast_sublist ls).subset hc) (by rw [List.length_dropLast]; omega)
        rw [List.map_dropLast] at q
        exact iteT ⟨_, rfl, .inl ⟨rfl, _, SqL.of B.dl⟩, D, _, y, rfl, rfl, B.dl, hy, _, _, _, ls.dropLast, rfl, { q with S := q.S.mono (by omega) }⟩
      rw [show decide (V.int ((f : Nat) : Int) = V.int 5) = false from ne 5 c5]
      refine iteF ⟨_, rfl, _, rfl, st, lg, cl, sa, _, _, lo, hi, m + 3, rfl, B.A, by omega, B.S, fun n H3 n1 n2 S3 kp3 => ?_⟩
      have B3 := B.kp na S3 kp3
      have e3 := kp3 _ _ hx1 nb.1 nb.2.1
      exact ⟨_, rfl, _, rfl, D, _, _, _, rfl, rfl, SqL.of B3.dl, atI_nat hat, _, rfl, bl, xs, _, d, rfl, rfl, e3, hj xs hx3, _, _, _, ls, rfl, { setc H3 _ _ B3 e3 (.int n) with S := (setc H3 _ _ B3 e3 (.int n)).S.mono (by omega) }⟩
    rintro σ H3 ⟨v4, v5, v6, ks, rfl, B3⟩
    refine ret_tup (tuples_read B3 fun E ts H4 s4 e4 l4 t4 => ⟨E, _, rfl, .inl ⟨SqL.of e4, fun p hp => ?_⟩⟩)
    obtain ⟨os, th, fl⟩ := (t4.keep (Same.new hp)).th (K := K) upd_same (by rw [l4]; exact B3.nl)
    have sm := s4.trans (Same.new (o := .tup (ts.map V.ref)) hp)
    exact k _ _ _ th (fun os' z => by cases z; exact fl) ((B3.S.same sm).mono (by omega)) (B3.K.trans (Kp.same sm))
end
end K03
namespace K03
open PySem PySem.Spec PyProof.Rows L2 PySem.W LamX KA KW KU
open Evl (pss_cut tCut)
/-- the code object of a def that makes lambdas, and its table -/
structure LamT (K : PySem.W.Frag) (x : Str) (st : Stmt) (a : Addr) (d : FuncData) (c P : Addr) : Prop where
  ex : ∃ (oc : Value) (od : Option Addr) (kV doc pm : Value) (an : Option Addr) (ct : Value) (osl : Array (Option Value)),
    d = PySem.W.fnOf x x (defArgs st) (defBody st) (defScope st) .none kV doc pm an (.ref c) ct ∧ K.lookup a = some ⟨oc, od, .func d, osl⟩ ∧ PySem.W.codeIn K (.ref c) x = true
theorem pe_caught {X : Cx} (T : Top X.K X.mg) {c Pt : Addr} {k : Nat} {params : Arguments} {body : Expr} {scope : Scope} {t : XK → TE} {p lpos pos : Pos} (TB : TabB X.base X.mg c Pt) (hcode : X.env.code = .ref c) (hr : Room (k + 2) X.A) (hg : Gl X "_law_caught") (L : LamS X.env.scope scope)
    (hdef : defaultsOf params X.env = ([], [])) (hbind : ∀ (q : Str) (cl : List (Str × Addr)) (pm cv ctv : Value), bindArgs (PySem.W.kla_fn "<lambda>" q params body scope cl pm cv ctv) ⟨[], []⟩ = pure [])
    (hbody : ∀ (A : Around) (outer : List Env) (s : Shared) (H : Hp) (E : XK) (f c' : Addr), Room k (A.deeper (lamEnv X scope s.heap.objs.size f c')) → PE (lamCx X A outer s H E scope f c') body (t E)) :
    PE X (.Call (.Name "_law_caught" p) [.Lambda params body scope lpos] [] pos) (tLam [(Pt, X.env.qual ++ "<lambda>")] (TCaught X.K T.reel.C) t) := by
  obtain ⟨oc, od, kV, doc, pm, an, cdv, ct, osl, ed, lk, hcd⟩ := T._law_caught.f.ex
  have hb := bd__law_caught T
  rw [ed] at lk hb
  exact pe_lamcall (T := [(Pt, X.env.qual ++ "<lambda>")]) hg T._law_caught.m T._law_caught.f.kp lk hcd hb sc__law_caught rfl (.inl rfl)
    (caught_gives sc__law_caught rfl rfl rfl rfl T.reel.g (by decide) (by decide) (by decide) (by decide) (by decide)) TB hcode List.mem_cons_self (fun p hp e => by
      rcases List.mem_singleton.mp hp with rfl
      rfl) hr L hdef hbind hbody
/-- all but the state and the tables stands as it stood -/
def KpN (st lg : Addr) (H H' : Hp) : Prop := ∀ b o, H b = some o → b ≠ st → b ≠ lg → (∀ ps, o ≠ .tbl ps) → H' b = some o
theorem KpN.refl {st lg : Addr} {H : Hp} : KpN st lg H H := fun _ _ h _ _ _ => h
theorem KpN.trans {st lg : Addr} {H H1 H2 : Hp} (a : KpN st lg H H1) (b : KpN st lg H1 H2) : KpN st lg H H2 := fun c o h n1 n2 n3 => b c o (a c o h n1 n2 n3) n1 n2 n3
theorem KpN.kp {st lg : Addr} {H H1 : Hp} (a : Kp st lg H H1) : KpN st lg H H1 := fun c o h n1 n2 _ => a c o h n1 n2
theorem KpN.ext {st lg : Addr} {H H1 : Hp} (a : ExtN H H1) : KpN st lg H H1 := fun c o h _ _ n => a c o h n
theorem KpN.new {st lg p : Addr} {H : Hp} {o : HO} (h : H p = none) : KpN st lg H (upd H p o) := .kp (.same (Same.new h))
abbrev lamQ : Str := (envOfC "law" (defScope s_law) 0 0 .none).qual ++ "<lambda>"
abbrev tabs (Pt : Addr) : List (Addr × Str) := [(Pt, lamQ)]
theorem tabs_kp {st lg cl : Addr} {n : Nat} {L : List (Addr × Str)} {H H' : Hp} (t : Tabs L H) (S : StAt H st lg cl n) (e : Kp st lg H H') : Tabs L H' := by
  obtain ⟨_, _, _, _, S', _⟩ := S
  intro p hp
  obtain ⟨ps, h1, h2, h3⟩ := t p hp
  refine ⟨ps, e _ _ h1 (ne_of h1 S'.d (by intro z; cases z)) (ne_of h1 S'.l (by intro z; cases z)), h2, fun pos cv hc => ?_⟩
  obtain ⟨c, e1, e2⟩ := h3 pos cv hc
  exact ⟨c, e1, e _ _ e2 (ne_of e2 S'.d (by intro z; unfold CodeO at z; cases z)) (ne_of e2 S'.l (by intro z; unfold CodeO at z; cases z))⟩
theorem stAt_ext {H H' : Hp} {st lg cl : Addr} {n : Nat} (S : StAt H st lg cl n) (e : ExtN H H') : StAt H' st lg cl n := by
  obtain ⟨a, b, c, d, s, h⟩ := S
  exact ⟨a, b, c, d, { s with d := e _ _ s.d (fun _ z => by cases z), l := e _ _ s.l (fun _ z => by cases z), c := e _ _ s.c (fun _ z => by cases z) }, h⟩
theorem Pl.kpN {K : PySem.W.Frag} {H H' : Hp} {st lg : Addr} {x : V} {b : Bool} (h : Pl K H x b) (n : ∀ a, x = .ref a → a ≠ st ∧ a ≠ lg) (e : KpN st lg H H') : Pl K H' x b := by
  cases h with
  | int i => exact .int i
  | bl i => exact .bl i
  | str i => exact .str i
  | non => exact .non
  | tup q => exact .tup (e _ _ q (n _ rfl).1 (n _ rfl).2 (fun _ z => by cases z))
  | lst q => exact .lst (e _ _ q (n _ rfl).1 (n _ rfl).2 (fun _ z => by cases z))
  | dK q => exact .dK (e _ _ q (n _ rfl).1 (n _ rfl).2 (fun _ z => by cases z))
/-- a value that stands whatever is drawn -/
structure Std (K : PySem.W.Frag) (H : Hp) (st lg : Addr) (x : V) : Prop where
  pl : ∃ b, Pl K H x b
  off : ∀ a, x = .ref a → a ≠ st ∧ a ≠ lg
theorem Std.kpN {K : PySem.W.Frag} {H H' : Hp} {st lg : Addr} {x : V} (h : Std K H st lg x) (e : KpN st lg H H') : Std K H' st lg x := by
  obtain ⟨⟨b, p⟩, n⟩ := h
  exact ⟨⟨b, p.kpN n e⟩, n⟩
theorem Std.flat {K : PySem.W.Frag} {H : Hp} {st lg : Addr} {x : V} {b : Bool} (p : Pl K H x b) (r : ∀ a, x ≠ .ref a) : Std K H st lg x := ⟨⟨b, p⟩, fun a e => absurd e (r a)⟩
theorem Std.updL {K : PySem.W.Frag} {H : Hp} {st lg er : Addr} {x : V} {xs ys : List V} (h : Std K H st lg x) (hl : H er = some (.lst xs)) : Std K (upd H er (.lst ys)) st lg x := by
  obtain ⟨⟨b, p⟩, n⟩ := h
  refine ⟨⟨b, ?_⟩, n⟩
  cases p with
  | int i => exact .int i
  | bl i => exact .bl i
  | str i => exact .str i
  | non => exact .non
  | tup q => exact .tup ((upd_ne (ne_of q hl (by intro z; cases z))).trans q)
  | @lst a zs q =>
    by_cases e : a = er
    · subst e
      exact .lst upd_same
    · exact .lst ((upd_ne e).trans q)
  | dK q => exact .dK ((upd_ne (ne_of q hl (by intro z; cases z))).trans q)
theorem Std.same {K : PySem.W.Frag} {H H' : Hp} {st lg : Addr} {x : V} (h : Std K H st lg x) (e : Same H H') : Std K H' st lg x := h.kpN (.kp (.same e))
/-- the list of the errors that were caught, all of the class at C -/
structure Errs (H : Hp) (st lg er C : Addr) (as : List Addr) : Prop where
  l : H er = some (.lst (as.map V.ref))
  n1 : er ≠ st
  n2 : er ≠ lg
  e : ∀ a ∈ as, H a = some (ExV (.ref C) none a) ∧ a ≠ st ∧ a ≠ lg
theorem exV_tbl {c : Value} {d : Option Addr} {a : Addr} (ps : Array Value) : ExV c d a ≠ .tbl ps := fun z => by
  unfold ExV at z
  cases z
theorem exV_lst {c : Value} {d : Option Addr} {a : Addr} (xs : List V) : ExV c d a ≠ .lst xs := fun z => by
  unfold ExV at z
  cases z
theorem Errs.kpN {H H' : Hp} {st lg er C : Addr} {as : List Addr} (h : Errs H st lg er C as) (k : KpN st lg H H') : Errs H' st lg er C as :=
  ⟨k _ _ h.l h.n1 h.n2 (fun _ z => by cases z), h.n1, h.n2, fun a ha => ⟨k _ _ (h.e a ha).1 (h.e a ha).2.1 (h.e a ha).2.2 exV_tbl, (h.e a ha).2⟩⟩
theorem Errs.app {H : Hp} {st lg er C a : Addr} {as : List Addr} (h : Errs H st lg er C as) (ha : H a = some (ExV (.ref C) none a)) (h1 : a ≠ st) (h2 : a ≠ lg) : Errs (upd H er (.lst (as.map V.ref ++ [.ref a]))) st lg er C (as ++ [a]) := by
  have ne : ∀ b, H b = some (ExV (.ref C) none b) → b ≠ er := fun b hb => ne_of hb h.l (exV_lst _)
  refine ⟨by rw [upd_same]; simp, h.n1, h.n2, fun b hb => ?_⟩
  rcases List.mem_append.mp hb with hb | hb
  · exact ⟨(upd_ne (ne b (h.e b hb).1)).trans (h.e b hb).1, (h.e b hb).2⟩
  · rcases List.mem_singleton.mp hb with rfl
    exact ⟨(upd_ne (ne b ha)).trans ha, h1, h2⟩
theorem stAt_upd {H : Hp} {st lg cl er : Addr} {n : Nat} {xs ys : List V} (S : StAt H st lg cl n) (h : H er = some (.lst xs)) (h1 : er ≠ st) (h2 : er ≠ lg) (h3 : er ≠ cl) : StAt (upd H er (.lst ys)) st lg cl n := by
  obtain ⟨a, b, c, d, s, h'⟩ := S
  exact ⟨a, b, c, d, { s with d := (upd_ne h1.symm).trans s.d, l := (upd_ne h2.symm).trans s.l, c := (upd_ne h3.symm).trans s.c }, h'⟩
theorem tabs_upd {L : List (Addr × Str)} {H : Hp} {er : Addr} {xs ys : List V} (t : Tabs L H) (h : H er = some (.lst xs)) : Tabs L (upd H er (.lst ys)) := by
  intro p hp
  obtain ⟨ps, h1, h2, h3⟩ := t p hp
  refine ⟨ps, (upd_ne (ne_of h1 h (by intro z; cases z))).trans h1, h2, fun pos cv hc => ?_⟩
  obtain ⟨c, e1, e2⟩ := h3 pos cv hc
  exact ⟨c, e1, (upd_ne (ne_of e2 h (by intro z; unfold CodeO at z; cases z))).trans e2⟩
theorem KpN.upd {H X : Hp} {st lg er : Addr} {o : HO} (k : KpN st lg H X) (h : ∀ u, H er = some u → ∃ ps, u = .tbl ps) : KpN st lg H (upd X er o) := fun b u e n1 n2 n3 => by
  have : b ≠ er := fun z => by
    subst z
    obtain ⟨ps, q⟩ := h u e
    exact n3 ps q
  rw [upd_ne this]
  exact k b u e n1 n2 n3
theorem KpN.free {H X : Hp} {st lg er : Addr} (k : KpN st lg H X) (h : X er = none) (n1 : er ≠ st) (n2 : er ≠ lg) : ∀ u, H er = some u → ∃ ps, u = .tbl ps := fun u e => by
  by_cases c : ∃ ps, u = .tbl ps
  · exact c
  · have z := k er u e n1 n2 (fun ps q => c ⟨ps, q⟩)
    rw [h] at z
    cases z
theorem kit_self {K : PySem.W.Frag} {C : Addr} : PySem.W.kitOne K (.ref C) (.ref C) = some true := by
  unfold PySem.W.kitOne
  rw [if_pos (by simp)]
theorem caught_err {K : PySem.W.Frag} {mg : Str → Option Value} (T : Top K mg) {n : Str} (X : ExcT K mg n T.reel.C) {Pt st lg cl : Addr} {m m' : Nat} {t : XK → TE} {σ : L2.St} {H : Hp} {Q : VK} (hT : Tabs (tabs Pt) H) (S : StAt H st lg cl m)
    (A : ∀ (H1 : Hp) (E : XK) (Q1 : VK), ExtN H H1 → StAt H1 st lg cl m → (∀ H2, Kp st lg H1 H2 → StAt H2 st lg cl m' → E (.ref X.C) none H2) → t E σ H1 Q1)
    (k : ∀ a H', StAt H' st lg cl m' → Tabs (tabs Pt) H' → KpN st lg H H' → H' a = some (ExV (.ref X.C) none a) → a ≠ st → a ≠ lg → Q (.ref a) H') : tLam (tabs Pt) (TCaught K T.reel.C) t σ H Q := by
  refine ⟨hT, fun H1 e1 t1 Q1 hQ1 => A H1 _ Q1 e1 (stAt_ext S e1) fun H2 kp S2 => ⟨X.exm T.reel, fun a ha => ?_⟩⟩
  have t2 := tabs_kp t1 (stAt_ext S e1) kp
  exact k a _ (S2.same (Same.new ha)) (t2.ext (Same.new ha)) (((KpN.ext e1).trans (.kp kp)).trans (.new ha)) upd_same (S2.off ha).1 (S2.off ha).2
theorem ite_same {x : V} {A B : Prop} {d : Decidable (x = x)} (h : B) : if (!@decide (x = x) d) = true then A else B := by
  rw [if_neg (by simp)]
  exact h
theorem pair_fits {i j : Int} (h1 : -65535 ≤ i) (h2 : i ≤ 65535) (h3 : -65535 ≤ j) (h4 : j ≤ 65535) : (PyData.tuple [.int i, .int j]).showable = true ∧ (PyData.tuple [.int i, .int j]).hasDict = false ∧ (PyData.tuple [.int i, .int j]).depth ≤ 60 ∧ (PyData.tuple [.int i, .int j]).shown.length ≤ sizeLine := by
  obtain ⟨a, b, c⟩ := int_small h1 h2
  obtain ⟨a', b', c'⟩ := int_small h3 h4
  refine ⟨by simp [PyData.showable, PyData.showableAll] at c c' ⊢; exact ⟨c, c'⟩, by simp [PyData.hasDict, PyData.hasDictAll], by simp [PyData.depth, PyData.depthAll], small_fits (by simp [PyData.leavesShort, PyData.leavesShortAll] at a a' ⊢; exact ⟨a, a'⟩) ?_⟩
  simp only [PyData.weight, PyData.weightAll] at b b' ⊢
  have : (2 : Nat) ^ 20 = 1048576 := by decide
  omega
/-- the law's code object, and its table: FnG of a def that makes lambdas -/
theorem fnG_ofC {CX : CXT} {P : Program} {w : World} {K : PySem.W.Frag} {mg : Str → Option Value} {base : Heap} {k : Nat} {f c Pt : Addr} {x : Str} {st : Stmt} {fd : FuncData} {N ps : List Str} {sp : Sp} (LT : LamT K x st f fd c Pt) (S : FnScope N ps (defScope st))
    (len : ∀ vs H Q E, sp vs H Q E → vs.length = ps.length)
    (hbody : ∀ (A : Around) (outer : List Env) (s : Shared) (H : Hp) (vs : List V) (Q : VK) (E : XK), Room k (A.deeper (envOfC x (defScope st) s.heap.objs.size f (.ref c))) → A.guards = some [] → sp vs H Q E →
      ∃ t, PSs (cxOf CX P w K mg base N x (defScope st) f (.ref c) A outer s H E) (defBody st) t ∧ t { nx := fun _ H' => Q .non H', rt := Q } (L2.start N vs) H) : FnG P w K mg base CX (k + 1) f fd ps sp := by
  obtain ⟨oc, od, kV, doc, pm, an, ct, osl, rfl, lk, hcd⟩ := LT.ex
  exact ⟨len, fun A outer s H args us vs Q E hr hg e0 hb r h => run_ofS lk hcd S hr e0 hb r (len _ _ _ _ h) fun hr' => hbody A outer s H vs Q E hr' hg h⟩
/-! ### calls by names -/
section
variable {K : PySem.W.Frag} {x qual : Str} {st : Stmt} {f : Addr} {fd : FuncData}
theorem Fun.kw3 {a b c : Str} (F : Fun K x qual st f fd) (h : ∀ (kV doc pm : Value) (an : Option Addr) (cdv ct u v z : Value), bindArgs (PySem.W.fnOf x qual (defArgs st) (defBody st) (defScope st) .none kV doc pm an cdv ct) ⟨[], [(c, u), (b, v), (a, z)]⟩ = pure [(a, z), (b, v), (c, u)]) :
    KBn K fd [a, b, c] 0 [c, b, a] (fun _ ws => ws.reverse) (fun _ zs => zs.reverse) := by
  obtain ⟨oc, od, kV, doc, pm, an, cdv, ct, osl, rfl, lk, hcd⟩ := F.ex
  refine ⟨fun s us ws X l1 l2 => ?_, fun {_ _ zs ws} _ r => ?_⟩
  · match us, ws, l1, l2 with
    | [], [u, v, z], _, _ => exact .of_eq (h kV doc pm an cdv ct u v z)
  · clear h
    have rev : ∀ {zs : List V} {ws : List Value}, Vals zs ws → Vals zs.reverse ws.reverse := fun {zs ws} r => by
      induction r with
      | nil => exact .nil
      | cons h _ ih =>
        rw [List.reverse_cons, List.reverse_cons]
        exact ih.append (.cons h .nil)
    exact rev r
def swap3 {α : Type} : List α → List α
  | [x, y, z] => [x, z, y]
  | l => l
theorem Fun.kw3m {a b c : Str} (F : Fun K x qual st f fd) (h : ∀ (kV doc pm : Value) (an : Option Addr) (cdv ct u v z : Value), bindArgs (PySem.W.fnOf x qual (defArgs st) (defBody st) (defScope st) .none kV doc pm an cdv ct) ⟨[], [(a, u), (c, v), (b, z)]⟩ = pure [(a, u), (b, z), (c, v)]) :
    KBn K fd [a, b, c] 0 [a, c, b] (fun _ ws => swap3 ws) (fun _ zs => swap3 zs) := by
  obtain ⟨oc, od, kV, doc, pm, an, cdv, ct, osl, rfl, lk, hcd⟩ := F.ex
  refine ⟨fun s us ws X l1 l2 => ?_, fun {_ _ zs ws} _ r => ?_⟩
  · match us, ws, l1, l2 with
    | [], [u, v, z], _, _ => exact .of_eq (h kV doc pm an cdv ct u v z)
  · clear h
    match zs, ws, r with
    | [], [], _ => exact .nil
    | [_], [_], r => exact r
    | [_, _], [_, _], r => exact r
    | [_, _, _], [_, _, _], .cons h1 (.cons h2 (.cons h3 .nil)) => exact .cons h1 (.cons h3 (.cons h2 .nil))
    | _ :: _ :: _ :: _ :: _, _ :: _ :: _ :: _ :: _, r => exact r
end
/-! ### what a reading promises at the law's own values -/
end K03
namespace KY
open PySem PySem.Spec PyProof.Rows L2 PySem.W LamX KA KW
/-! ### x == y, x != y, where x is an instance whose class writes __eq__ and no __ne__ -/
section
variable {X : Cx} {CX : CXT} {n : Nat} {C f : Addr} {fd : FuncData} {ps : List Str} {sp : Sp} {E : XK}
theorem own_call {A : Around} {pins : List (Addr × Obj)} {σ : L2.St} {H : Hp} {s : Shared} {x y : V} {v u : Value} {R : Bool → Hp → Prop} (sb : L2.Sub X n A) (F : FnOk X.prog X.w X.K X.mg X.base CX n f fd ps sp) (hb : Binds X.K fd ps []) (hx : Passes CX X E)
    (I : Inv X pins σ H s) (rx : RelV x v) (ry : RelV y u) (hsp : sp [x, y] H (fun v H' => ∃ b, v = .bl b ∧ R b H') E) :
    wpAny (model X.prog X.w) A (call (.ref f) [v, u]) (fun r s' => ∃ b, r = .bool b ∧ ∃ H', Inv X pins σ H' s' ∧ R b H') X.xe s := by
  have e0 : Env0 X.prog X.w X.K X.mg X.base A X.stack s H := by
    have e := I.env0
    exact ⟨by rw [sb.fr]; exact e.frames, e.mod, e.bs, e.bsz, e.funs, e.frf, e.hok, e.bare⟩
  have hl := F.len _ _ _ _ hsp
  have r2 : L2.Vals [x, y] [v, u] := .cons rx (.cons ry .nil)
  refine wpAny_call (codeAny_mono (F.run A X.stack s H ⟨[v, u], []⟩ [v, u] [x, y] _ E sb.room e0 (by
    have := hb s [v, u] I.kIn (by simpa using hl)
    simpa using this) r2 hsp) fun r s' hq => ?_)
  cases r with
  | error e => exact hx pins σ H s e s' I hq
  | ok fl =>
    cases fl with
    | ret w =>
      obtain ⟨z, H', I', rz, b, ez, ex⟩ := I.after hq
      subst ez
      cases rz
      exact ⟨b, rfl, H', I', ex⟩
    | next => exact False.elim hq
    | brk => exact False.elim hq
    | cont => exact False.elim hq
def rEqI (K : PySem.W.Frag) (C : Addr) (sp : Sp) (E : XK) (g : Bool → Bool) : R2 := fun x y H Q => ∃ a dx fs tb, x = .ref a ∧ H a = some (.ins C dx fs) ∧ TyX K H y tb ∧ PySem.W.notFirst K C tb = true ∧ sp [x, y] H (fun v H' => ∃ b, v = .bl b ∧ Q (.bl (g b)) H') E
theorem op_eqI (F : FnOk X.prog X.w X.K X.mg X.base CX n f fd ps sp) (hr : Room n X.A) (hs : PySem.W.findIn X.K (.ref C) "__eq__" = some (some (.ref f))) (hf : PySem.W.isFn X.K (.ref f) = true) (hb : Binds X.K fd ps []) (hx : Passes CX X E) :
    OpR X (compareOp .Eq) (rEqI X.K C sp E fun b => b) := by
  intro pins s σ H x y v u Q I rx ry h
  obtain ⟨a, dx, fs, tb, rfl, ha, ty, nf, hsp⟩ := h
  cases rx
  obtain ⟨mA, J, _⟩ := ins_get I.hok ha
  obtain ⟨od, J, _⟩ := J.look
  obtain ⟨Pk, Z, pk, _⟩ := kit_of I ry ty
  obtain ⟨m, hF⟩ := I.fr
  show wpAny (model X.prog X.w) X.A (richCompare .Eq (.ref a) u) (EP X pins σ Q) X.xe s
  refine PySem.W.cmp_K (op := .Eq) hr.units0 hF I.ok.mod.kin J (Z.ty _ _ I.kIn pk) nf hs hf ?_
  refine wpAny_mono (own_call ⟨hr, rfl⟩ F hb hx I (x := .ref a) (show L2.RelV (.ref a) (.ref a) from rfl) ry hsp) (fun r s' hq => ?_) fun _ _ e => e
  obtain ⟨b, rfl, H', I', q⟩ := hq
  exact ⟨.bl b, H', I', rfl, q⟩
section
variable {M : Model} {prog : Program} {w : World} {A : Around} {E' : Value → Shared → Prop} {s : Shared} {K : PySem.W.Frag} {x : Addr} {ox : Obj} {od : Option Obj}
theorem ifBound_objNe {args : List Value} {Q : Option Value → Shared → Prop} (X : K.In s.heap) (I : PySem.W.InstAt s.heap x ox C od) (hs : PySem.W.findIn K (.ref C) "__ne__" = some (some (.builtin "object.__ne__")))
    (h : wpAny M A (call (.builtin "object.__ne__") (.ref x :: args)) (fun v => Q (some v)) E' s) : wpAny M A (callSpecialIfBound? (.ref x) "__ne__" args) Q E' s := by
  simp only [callSpecialIfBound?, bindSpecialIfBound?]
  refine wpAny_holding (wpAny_bind (wpAny_bind (wpAny_bind (I.type.here ((PySem.W.looks_findIn X hs).here ?_)))))
  refine wpAny_bind (wpAny_askSetting (wpAny_ite ?_))
  have fin : wpAny M A (call (.builtin "object.__ne__") ([.ref x] ++ args) >>= fun v => pure (some v)) Q E' s := wpAny_bind (wpAny_mono h (fun v s' h' => wpAny_pure h') fun _ _ h' => h')
  split
  · exact wpAny_bind (wpAny_of_eq (F.cmp_object.ne.bind _) (wpAny_pure (by exact fin)))
  · exact wpAny_tryCatch (wpAny_bind (wpAny_of_eq (F.cmp_object.ne.bind _) (wpAny_pure (by exact fin))))
theorem entry_ne {y : Value} {Q : Fin → Shared → Prop} (hu : A.units < cLine) (X : K.In s.heap) (I : PySem.W.InstAt s.heap x ox C od) (hs : PySem.W.findIn K (.ref C) "__eq__" = some (some (.ref f))) (hf : PySem.W.isFn K (.ref f) = true)
    (hcall : wpAny (model prog w) A (call (.ref f) [.ref x, y]) (fun v s' => ∃ b, v = .bool b ∧ Q (.done (.ret (.bool (!b)))) s') E' s) :
    wpAny (model prog w) A (Builtin.«object.__ne__» ⟨[.ref x, y], []⟩) Q E' s := by
  unfold Builtin.«object.__ne__»
  repeat (first
    | with_reducible refine wpAny_cRoomFor hu ?_
    | (refine wpAny_bind (m := callSpecialIfBound? (.ref x) (Str.ofString "__eq__") [y])
        (PySem.W.ifBound_K X I hs hf (wpAny_mono hcall (fun r s' hr => by
          obtain ⟨b, rfl, hq⟩ := hr
          repeat (first | exact hq | exact wpAny_pure hq | exact wpAny_truthy_bool hq | (refine wpAny_bind (m := truthy (.bool _)) (wpAny_truthy_bool ?_)) | wp_step)) fun _ _ e => e)))
    | wp_step)
theorem ne_K {L : Addr} {h₀ : Heap} {m : Str → Option Value} {b tb : Value} {Q : Value → Shared → Prop} (hu : A.units + 1 < cLine) (hF : Fr h₀ L s.heap m) (X₀ : K.In h₀) (I : PySem.W.InstAt s.heap x ox C od) (hb : PySem.W.Looks (model prog w) s.heap (typeOf b) tb) (hn : PySem.W.notFirst K C tb = true)
    (hne : PySem.W.findIn K (.ref C) "__ne__" = some (some (.builtin "object.__ne__"))) (hm : PySem.W.mroIn K C (.type "object") = some true) (hs : PySem.W.findIn K (.ref C) "__eq__" = some (some (.ref f))) (hf : PySem.W.isFn K (.ref f) = true)
    (h : wpAny (model prog w) A.in1 (call (.ref f) [.ref x, b]) (fun v s' => ∃ c, v = .bool c ∧ Q (.bool (!c)) s') E' s) : wpAny (model prog w) A (richCompare .NotEq (.ref x) b) Q E' s := by
  have X := X₀.keeps hF.keep
  have one : wpAny (model prog w) A (tryCompare (.ref x) "__ne__" b) (fun r s' => ∃ v, r = some v ∧ Q v s') E' s := by
    unfold tryCompare
    refine wpAny_bind (ifBound_objNe X I hne ?_)
    refine wpAny_call (codeAny_call_builtin F.cmp_object.ne.plain F.cmpEntry_ne (PySem.W.check_slot F.cmpKind_ne F.cmpSplit_ne (I.type.andThen (PySem.W.looks_mroIn X hm)) (F.cmpArgs_ne _ _) (entry_ne (A := A.in1) (by show A.units + 1 < cLine; exact hu) X I hs hf (wpAny_mono h (fun r s' hr => ?_) fun _ _ e => e))))
    obtain ⟨c, rfl, q⟩ := hr
    refine ⟨c, rfl, ?_⟩
    first
      | exact wpAny_pure ⟨_, rfl, q⟩
      | exact ⟨_, rfl, q⟩
  unfold richCompare
  simp only [oneThing_ref]
  refine wpAny_holding (wpAny_bind (wpAny_cRoomFor (by omega) ?_))
  refine wpAny_bind (I.type.here (wpAny_bind (hb.here ?_)))
  split
  · rename_i q
    have e : subIn K tb (.ref C) = some false := by
      rcases Bool.or_eq_true_iff.mp hn with e | e
      · rw [beq_iff_eq.mp e] at q; simp at q
      · exact beq_iff_eq.mp e
    refine wpAny_bind ((looks_subIn X e).here ?_)
    simp only [Bool.false_eq_true, if_false]
    refine wpAny_bind (wpAny_mono one (fun r s' z => ?_) fun _ _ e => e)
    obtain ⟨v, rfl, hq⟩ := z
    exact wpAny_pure hq
  · refine wpAny_bind (wpAny_pure ?_)
    simp only [Bool.false_eq_true, if_false]
    refine wpAny_bind (wpAny_mono one (fun r s' z => ?_) fun _ _ e => e)
    obtain ⟨v, rfl, hq⟩ := z
    exact wpAny_pure hq
end
theorem op_neI (F : FnOk X.prog X.w X.K X.mg X.base CX n f fd ps sp) (hr : Room (n + 1) X.A) (hs : PySem.W.findIn X.K (.ref C) "__eq__" = some (some (.ref f))) (hne : PySem.W.findIn X.K (.ref C) "__ne__" = some (some (.builtin "object.__ne__"))) (hm : PySem.W.mroIn X.K C (.type "object") = some true)
    (hf : PySem.W.isFn X.K (.ref f) = true) (hb : Binds X.K fd ps []) (hx : Passes CX X E) :
    OpR X (compareOp .NotEq) (rEqI X.K C sp E fun b => !b) := by
  intro pins s σ H x y v u Q I rx ry h
  obtain ⟨a, dx, fs, tb, rfl, ha, ty, nf, hsp⟩ := h
  cases rx
  obtain ⟨mA, J, _⟩ := ins_get I.hok ha
  obtain ⟨od, J, _⟩ := J.look
  obtain ⟨Pk, Z, pk, _⟩ := kit_of I ry ty
  obtain ⟨m, hF⟩ := I.fr
  show wpAny (model X.prog X.w) X.A (richCompare .NotEq (.ref a) u) (EP X pins σ Q) X.xe s
  have hu : X.A.units + 1 < cLine := by
    have := hr.units
    omega
  refine ne_K hu hF I.ok.mod.kin J (Z.ty _ _ I.kIn pk) nf hne hm hs hf ?_
  refine wpAny_mono (own_call (L2.Sub.in1 ⟨hr, rfl⟩) F hb hx I (x := .ref a) (show L2.RelV (.ref a) (.ref a) from rfl) ry hsp) (fun r s' hq => ?_) fun _ _ e => e
  obtain ⟨b, rfl, H', I', q⟩ := hq
  exact ⟨b, rfl, .bl (!b), H', I', rfl, q⟩
end
end KY
namespace K03
open PySem PySem.Spec PyProof.Rows L2 PySem.W LamX KA KW KU KL KT
open Evl (pss_cut tCut)
/-! ### what stands in the law -/
theorem in_range {i lo hi : Int} (h1 : lo ≤ i) (h2 : i ≤ hi) : within (.int i) lo hi = true := by simp [within, h1, h2]
theorem no_range {i lo hi : Int} {A : Prop} (h1 : lo ≤ i) (h2 : i ≤ hi) (w : within (.int i) lo hi = false) : A := by
  rw [in_range h1 h2] at w
  cases w
/-- a shape of four good numbers is made -/
theorem shape_made {K : PySem.W.Frag} {C CB : Addr} {H : Hp} {Q : Hp → Prop} {E : XK} {x dx : Addr} {h w lo hi : Int} (hx : H x = none) (hdx : H dx = none) (ne : dx ≠ x) (h1 : 1 ≤ h) (h2 : h ≤ 16) (w1 : 1 ≤ w) (w2 : w ≤ 16) (l1 : -512 ≤ lo) (l2 : lo ≤ hi) (l3 : hi ≤ 511)
    (k : ∀ H' : Hp, H' x = some (.ins C dx (shapeFs h w lo hi)) → Same H H' → Q H') :
    spInitX K C CB [.ref x, .int h, .int w, .int lo, .int hi] (upd (upd H dx (.own x)) x (.ins C dx [])) (fun v H3 => v = .non ∧ Q H3) E := by
  refine ⟨x, dx, .int h, .int w, .int lo, .int hi, true, true, true, true, rfl, .int _, .int _, .int _, .int _, upd_same, no_range h1 h2, fun h' e _ _ => ⟨no_range w1 w2, fun w' e2 _ _ => ⟨no_range l1 (by omega), fun lo' e3 _ _ => ⟨?_, fun hi' e4 _ _ H' e5 e6 => ?_⟩⟩⟩⟩
  · cases e3
    exact no_range l2 l3
  · cases e
    cases e2
    cases e3
    cases e4
    refine ⟨rfl, k H' e5 fun b o q => ?_⟩
    have n1 : b ≠ x := ne_of_none q hx
    have n2 : b ≠ dx := ne_of_none q hdx
    rw [e6 b n1, upd_ne n1, upd_ne n2]
    exact q
structure LW (C Pt st lg cl : Addr) (m h w : Nat) (lo hi : Int) (sa fo fa dx : Addr) (H : Hp) : Prop where
  S : StAt H st lg cl m
  T : Tabs (tabs Pt) H
  A : ScV H sa ((h : Nat) : Int) ((w : Nat) : Int) lo hi
  a : sa ≠ st ∧ sa ≠ lg
  F : H fo = some (.lst [.int ((h : Nat) : Int), .int ((w : Nat) : Int), .int lo, .int hi])
  f : fo ≠ st ∧ fo ≠ lg
  G : H fa = some (.ins C dx (shapeFs ((h : Nat) : Int) ((w : Nat) : Int) lo hi))
  g : fa ≠ st ∧ fa ≠ lg
section
variable {C Pt st lg cl : Addr} {m m' h w : Nat} {lo hi : Int} {sa fo fa dx : Addr} {H H' : Hp}
theorem LW.kpN (B : LW C Pt st lg cl m h w lo hi sa fo fa dx H) (S : StAt H' st lg cl m') (T : Tabs (tabs Pt) H') (k : KpN st lg H H') : LW C Pt st lg cl m' h w lo hi sa fo fa dx H' :=
  ⟨S, T, { B.A with d := k _ _ B.A.d B.a.1 B.a.2 (fun ps z => by cases z) }, B.a, k _ _ B.F B.f.1 B.f.2 (fun ps z => by cases z), B.f, k _ _ B.G B.g.1 B.g.2 (fun ps z => by cases z), B.g⟩
theorem LW.kp (B : LW C Pt st lg cl m h w lo hi sa fo fa dx H) (S : StAt H' st lg cl m') (k : Kp st lg H H') : LW C Pt st lg cl m' h w lo hi sa fo fa dx H' := B.kpN S (tabs_kp B.T B.S k) (.kp k)
theorem LW.same (B : LW C Pt st lg cl m h w lo hi sa fo fa dx H) (e : Same H H') : LW C Pt st lg cl m h w lo hi sa fo fa dx H' := B.kpN (B.S.same e) (B.T.ext e) (.kp (.same e))
theorem LW.mono (B : LW C Pt st lg cl m h w lo hi sa fo fa dx H) (l : m ≤ m') : LW C Pt st lg cl m' h w lo hi sa fo fa dx H := { B with S := B.S.mono l }
theorem LW.sh (B : LW C Pt st lg cl m h w lo hi sa fo fa dx H) : Sh C H (.ref fa) ((h : Nat) : Int) ((w : Nat) : Int) lo hi := ⟨fa, dx, rfl, B.G⟩
end
theorem Pn.kpN {H H' : Hp} {st lg cl : Addr} {n : Nat} {a : Addr} {nss : List (List Int)} {w : Nat} (p : Pn H a nss w) (S : StAt H st lg cl n) (k : KpN st lg H H') : Pn H' a nss w := by
  obtain ⟨vs, e, l, r⟩ := p.at'
  obtain ⟨_, _, _, _, s, _⟩ := S
  refine Pn.mk ⟨vs, k _ _ e (ne_of e s.d (by intro z; cases z)) (ne_of e s.l (by intro z; cases z)) (fun ps z => by cases z), l, fun j v hv => ?_⟩ p.h1 p.h2 p.w1 p.w2 p.ws
  obtain ⟨b, ns, e1, e2, e3⟩ := r j v hv
  exact ⟨b, ns, e1, e2, k _ _ e3 (ne_of e3 s.d (by intro z; cases z)) (ne_of e3 s.l (by intro z; cases z)) (fun ps z => by cases z)⟩
/-- what stands in the list of four that is bent -/
inductive Bx (H : Hp) : V → Prop where
  | fl {x : V} (h : Fl x) : Bx H x
  | t1 {b : Addr} (e : H b = some (.tup [.int 1])) : Bx H (.ref b)
theorem Bx.pl {K : PySem.W.Frag} {H : Hp} {x : V} (h : Bx H x) : ∃ b, Pl K H x b := by
  cases h with
  | fl h => exact ⟨_, h.pl⟩
  | t1 e => exact ⟨_, .tup e⟩
theorem Bx.kpN {H H' : Hp} {st lg cl : Addr} {n : Nat} {x : V} (h : Bx H x) (S : StAt H st lg cl n) (k : KpN st lg H H') : Bx H' x := by
  cases h with
  | fl h => exact .fl h
  | t1 e =>
    obtain ⟨_, _, _, _, s, _⟩ := S
    exact .t1 (k _ _ e (ne_of e s.d (by intro z; cases z)) (ne_of e s.l (by intro z; cases z)) (fun ps z => by cases z))
structure Bn (st lg cl fo be : Addr) (H : Hp) : Prop where
  x : ∃ x1 x2 x3 x4, H be = some (.lst [x1, x2, x3, x4]) ∧ Bx H x1 ∧ Bx H x2 ∧ Bx H x3 ∧ Bx H x4
  n : be ≠ st ∧ be ≠ lg ∧ be ≠ cl
  f : be ≠ fo
theorem Bn.kpN {st lg cl fo be : Addr} {n : Nat} {H H' : Hp} (b : Bn st lg cl fo be H) (S : StAt H st lg cl n) (k : KpN st lg H H') : Bn st lg cl fo be H' := by
  obtain ⟨⟨x1, x2, x3, x4, e, h1, h2, h3, h4⟩, n, f⟩ := b
  exact ⟨⟨x1, x2, x3, x4, k _ _ e n.1 n.2.1 (fun ps z => by cases z), h1.kpN S k, h2.kpN S k, h3.kpN S k, h4.kpN S k⟩, n, f⟩
theorem Bx.put {H : Hp} {x : V} {be : Addr} {o : HO} {xs : List V} (h : Bx H x) (e : H be = some (.lst xs)) : Bx (upd H be o) x := by
  cases h with
  | fl h => exact .fl h
  | t1 q => exact .t1 ((upd_ne (fun z => by rw [z, e] at q; cases q)).trans q)
theorem Bn.set {st lg cl fo be : Addr} {H : Hp} (b : Bn st lg cl fo be H) {r : Nat} (hr : r < 4) {v : V} (hv : Bx H v) : ∃ xs, H be = some (.lst xs) ∧ xs.length = 4 ∧ Bn st lg cl fo be (upd H be (.lst (xs.set r v))) := by
  obtain ⟨⟨x1, x2, x3, x4, e, h1, h2, h3, h4⟩, n, f⟩ := b
  refine ⟨_, e, rfl, ?_, n, f⟩
  match r, hr with
  | 0, _ => exact ⟨v, x2, x3, x4, upd_same, hv.put e, h2.put e, h3.put e, h4.put e⟩
  | 1, _ => exact ⟨x1, v, x3, x4, upd_same, h1.put e, hv.put e, h3.put e, h4.put e⟩
  | 2, _ => exact ⟨x1, x2, v, x4, upd_same, h1.put e, h2.put e, hv.put e, h4.put e⟩
  | 3, _ => exact ⟨x1, x2, x3, v, upd_same, h1.put e, h2.put e, h3.put e, hv.put e⟩
theorem LW.put {C Pt st lg cl : Addr} {m h w : Nat} {lo hi : Int} {sa fo fa dx be : Addr} {H : Hp} {xs ys : List V} (B : LW C Pt st lg cl m h w lo hi sa fo fa dx H) (e : H be = some (.lst xs)) (n : be ≠ st ∧ be ≠ lg ∧ be ≠ cl) (f : be ≠ fo) : LW C Pt st lg cl m h w lo hi sa fo fa dx (upd H be (.lst ys)) :=
  ⟨StAt.put' B.S n.1 n.2.1 n.2.2, tabs_upd B.T e, { B.A with d := (upd_ne (fun z => by have := B.A.d; rw [z, e] at this; cases this)).trans B.A.d }, B.a, (upd_ne (Ne.symm f)).trans B.F, B.f, (upd_ne (fun z => by have := B.G; rw [z, e] at this; cases this)).trans B.G, B.g⟩
/-- Shape(..) of any four values, by what is due of them -/
theorem init_due {K : PySem.W.Frag} {C CB : Addr} {H : Hp} {Q : VK} {E : XK} {x dx : Addr} {x1 x2 x3 x4 : V} {b1 b2 b3 b4 : Bool} (p1 : Pl K H x1 b1) (p2 : Pl K H x2 b2) (p3 : Pl K H x3 b3) (p4 : Pl K H x4 b4) (hx : H x = some (.ins C dx []))
    (kE : ∀ p : Str, dueV x1 x2 x3 x4 = .str p → partErr CB H E p)
    (kQ : dueV x1 x2 x3 x4 = .non → ∀ h w lo hi : Int, x1 = .int h → x2 = .int w → x3 = .int lo → x4 = .int hi → 1 ≤ h → h ≤ 16 → 1 ≤ w → w ≤ 16 → -512 ≤ lo → lo ≤ hi → hi ≤ 511 →
      ∀ H', H' x = some (.ins C dx (shapeFs h w lo hi)) → (∀ b, b ≠ x → H' b = H b) → Q .non H') : spInitX K C CB [.ref x, x1, x2, x3, x4] H Q E := by
  refine ⟨x, dx, x1, x2, x3, x4, b1, b2, b3, b4, rfl, p1, p2, p3, p4, hx, fun w1 => kE _ (by simp [dueV, w1]), fun h e1 g1 g2 => ?_⟩
  subst e1
  have w1 : within (.int h) 1 16 = true := in_range g1 g2
  refine ⟨fun w2 => kE _ (by simp [dueV, w1, w2]), fun w e2 g3 g4 => ?_⟩
  subst e2
  have w2 : within (.int w) 1 16 = true := in_range g3 g4
  refine ⟨fun w3 => kE _ (by simp [dueV, w1, w2, w3]), fun lo e3 g5 g6 => ?_⟩
  subst e3
  have w3 : within (.int lo) (-512) 511 = true := in_range g5 g6
  refine ⟨fun w4 => kE _ (by simp [dueV, w1, w2, w3, w4]), fun hi e4 g7 g8 H' e5 e6 => ?_⟩
  subst e4
  have w4 : within (.int hi) lo 511 = true := in_range g7 g8
  exact kQ (by simp [dueV, w1, w2, w3, w4]) h w lo hi rfl rfl rfl rfl g1 g2 g3 g4 g5 g7 g8 H' e5 e6
/-- what was caught, by what was due -/
inductive Cg (CB : Addr) (H : Hp) : V → V → Prop where
  | no : Cg CB H .non .non
  | er {p : Str} {a d : Addr} (e : H a = some (ExV (.ref CB) (some d) a)) (f : H d = some (.xd [("part", .str p)])) : Cg CB H (.str p) (.ref a)
theorem eqv4 (a b c d a' b' c' d' : Int) : PyData.eqv (.list [.int a, .int b, .int c, .int d]) (.list [.int a', .int b', .int c', .int d']) = (decide (a = a') && decide (b = b') && decide (c = c') && decide (d = d')) := by
  have e : PyData.eqv (.list [.int a, .int b, .int c, .int d]) (.list [.int a', .int b', .int c', .int d']) = ((a == a') && ((b == b') && ((c == c') && ((d == d') && true)))) := by
    first
      | rfl
      | simp [PyData.eqv, PyData.eqvAll]
  rw [e, Bool.eq_iff_iff]
  simp only [Bool.and_eq_true, beq_iff_eq, decide_eq_true_eq, and_true, and_assoc]
/-- (x,) * k -/
theorem rep_read {K : PySem.W.Frag} {H : Hp} {p : Addr} {x : V} {k : Nat} {Q : VK} (e : H p = some (.tup [x])) (k1 : 1 ≤ k) (k2 : k ≤ 1000) (c : ∀ (b : Addr) (H' : Hp), Same H H' → H' b = some (.tup (List.replicate k x)) → Q (.ref b) H') : rRepA K (.ref p) (.int ((k : Nat) : Int)) H Q := by
  refine ⟨p, _, [x], rfl, rfl, SqT.of e, by simp, by omega, by omega, by simp, fun z => ?_, fun z q hq => ?_⟩
  · have : k = 1 := by omega
    subst this
    exact c p H (fun _ _ h => h) e
  · refine c q _ (Same.new hq) ?_
    rw [upd_same, rep_one, Int.toNat_natCast]
theorem rep_rows {H : Hp} {b : Addr} {i : Int} {w : Nat} (e : H b = some (.tup (List.replicate w (V.int i)))) (h : Nat) : Rows H (List.replicate h (V.ref b)) (List.replicate h (List.replicate w i)) := by
  refine ⟨by simp, fun j v hv => ?_⟩
  have hj : j < h := by
    rcases Nat.lt_or_ge j h with c | c
    · exact c
    · rw [List.getElem?_eq_none (by simpa using c)] at hv
      cases hv
  have ev : v = .ref b := by
    have := List.mem_of_getElem? hv
    exact List.eq_of_mem_replicate this
  subst ev
  refine ⟨b, List.replicate w i, rfl, by simp [List.getElem?_replicate, hj], ?_⟩
  rw [e, List.map_replicate]
end K03
namespace K03
open PySem PySem.Spec PyProof.Rows L2 PySem.W LamX KA KW KU KL KT
open Evl (pss_cut tCut)
/-! ### what is odd, what is wrong -/
/-- no number of the shape, and no shape -/
inductive Od (H : Hp) : V → Prop where
  | fl {x : V} (h : Fl x) : Od H x
  | tp {b : Addr} {i : Int} (e : H b = some (.tup [.int i])) : Od H (.ref b)
theorem Od.pl {K : PySem.W.Frag} {H : Hp} {x : V} (h : Od H x) : ∃ b, Pl K H x b := by
  cases h with
  | fl h => exact ⟨_, h.pl⟩
  | tp e => exact ⟨_, .tup e⟩
theorem Od.noS {H : Hp} {x : V} (h : Od H x) : NoS H x := by
  cases h with
  | fl h =>
    cases h with
    | int i => exact .int i
    | bl i => exact .bl i
    | str i _ => exact .str i
    | non => exact .non
  | tp e => exact .tup e
theorem Od.kpN {H H' : Hp} {st lg cl : Addr} {n : Nat} {x : V} (h : Od H x) (S : StAt H st lg cl n) (k : KpN st lg H H') : Od H' x := by
  cases h with
  | fl h => exact .fl h
  | tp e =>
    obtain ⟨_, _, _, _, s, _⟩ := S
    exact .tp (k _ _ e (ne_of e s.d (by intro z; cases z)) (ne_of e s.l (by intro z; cases z)) (fun ps z => by cases z))
/-- all that stands while lambdas are called -/
structure LO (C Pt st lg cl : Addr) (m w : Nat) (lo hi : Int) (sa fo fa dx pa : Addr) (nss : List (List Int)) (od : V) (H : Hp) : Prop where
  B : LW C Pt st lg cl m nss.length w lo hi sa fo fa dx H
  p : Pn H pa nss w
  o : Od H od
section
variable {C Pt st lg cl : Addr} {m m' w : Nat} {lo hi : Int} {sa fo fa dx pa : Addr} {nss : List (List Int)} {od : V} {H H' : Hp}
theorem LO.kpN (B : LO C Pt st lg cl m w lo hi sa fo fa dx pa nss od H) (S : StAt H' st lg cl m') (T : Tabs (tabs Pt) H') (k : KpN st lg H H') : LO C Pt st lg cl m' w lo hi sa fo fa dx pa nss od H' :=
  ⟨B.B.kpN S T k, B.p.kpN B.B.S k, B.o.kpN B.B.S k⟩
theorem LO.same (B : LO C Pt st lg cl m w lo hi sa fo fa dx pa nss od H) (e : Same H H') : LO C Pt st lg cl m w lo hi sa fo fa dx pa nss od H' := B.kpN (B.B.S.same e) (B.B.T.ext e) (.kp (.same e))
theorem LO.ext (B : LO C Pt st lg cl m w lo hi sa fo fa dx pa nss od H) (e : ExtN H H') (T : Tabs (tabs Pt) H') : LO C Pt st lg cl m w lo hi sa fo fa dx pa nss od H' := B.kpN (stAt_ext B.B.S e) T (.ext e)
theorem LO.kp (B : LO C Pt st lg cl m w lo hi sa fo fa dx pa nss od H) (S : StAt H' st lg cl m') (k : Kp st lg H H') : LO C Pt st lg cl m' w lo hi sa fo fa dx pa nss od H' := B.kpN S (tabs_kp B.B.T B.B.S k) (.kp k)
/-- a lambda stands -/
structure Lm (H : Hp) (f c' : Addr) (L : HO) (q : Str) : Prop where
  f : H f = some L
  c : H c' = some (CodeO c' q)
theorem Lm.same {f c' : Addr} {L : HO} {q : Str} (l : Lm H f c' L q) (e : Same H H') : Lm H' f c' L q := ⟨e _ _ l.f, e _ _ l.c⟩
theorem Lm.ext {f c' : Addr} {L : HO} {q : Str} (l : Lm H f c' L q) (nt : ∀ ps, L ≠ .tbl ps) (e : ExtN H H') : Lm H' f c' L q := ⟨e _ _ l.f nt, e _ _ l.c codeO_ne⟩
/-- a further lambda is made -/
theorem lam_step {Ha : Hp} {f1 c1 : Addr} {L1 : HO} {q : Str} (B : LO C Pt st lg cl m w lo hi sa fo fa dx pa nss od H) (ea : ExtN H Ha) (Ta : Tabs (tabs Pt) Ha) (hf1 : Ha f1 = none) (hc1 : Ha c1 = some (CodeO c1 q)) :
    LO C Pt st lg cl m w lo hi sa fo fa dx pa nss od (upd Ha f1 L1) ∧ Lm (upd Ha f1 L1) f1 c1 L1 q := ⟨(B.ext ea Ta).same (Same.new hf1), upd_same, (Same.new hf1) _ _ hc1⟩
end
/-- tuples of flat values -/
inductive RR (H : Hp) : List V → List (List V) → Prop where
  | nil : RR H [] []
  | cons {b : Addr} {xs : List V} {vs : List V} {xss : List (List V)} (e : H b = some (.tup xs)) (f : ∀ x ∈ xs, Fl x) (l : xs.length ≤ 1000) (r : RR H vs xss) : RR H (.ref b :: vs) (xs :: xss)
theorem RR.mono {H H' : Hp} {vs : List V} {xss : List (List V)} (r : RR H vs xss) (k : ∀ b xs, H b = some (.tup xs) → H' b = some (.tup xs)) : RR H' vs xss := by
  induction r with
  | nil => exact .nil
  | cons e f l _ ih => exact .cons (k _ _ e) f l ih
theorem RR.rep {H : Hp} {b : Addr} {xs : List V} (e : H b = some (.tup xs)) (f : ∀ x ∈ xs, Fl x) (l : xs.length ≤ 1000) : ∀ n : Nat, RR H (List.replicate n (.ref b)) (List.replicate n xs)
  | 0 => .nil
  | n + 1 => .cons e f l (RR.rep e f l n)
theorem RR.rws {K : PySem.W.Frag} {H : Hp} {vs : List V} {xss : List (List V)} (r : RR H vs xss) : Rws K H vs (xss.map some) := by
  induction r with
  | nil => exact ⟨rfl, fun i v e => by simp at e⟩
  | @cons b xs vs xss e f l _ ih =>
    refine ⟨by simp [ih.1], fun i v hv => ?_⟩
    cases i with
    | zero =>
      have := Option.some.inj hv
      subst this
      exact ⟨some xs, rfl, .tup e (fun x hx => ⟨_, (f x hx).pl⟩) l⟩
    | succ i => exact ih.2 i v hv
/-- no plane -/
inductive Wr (st lg : Addr) (H : Hp) : V → Prop where
  | non : Wr st lg H .non
  | lst {a : Addr} {xs : List V} (e : H a = some (.lst xs)) (n1 : a ≠ st) (n2 : a ≠ lg) : Wr st lg H (.ref a)
  | tup {a : Addr} {vs : List V} {xss : List (List V)} (e : H a = some (.tup vs)) (r : RR H vs xss) (l : vs.length ≤ 1000) (g : turnB (some (xss.map some)) = false) : Wr st lg H (.ref a)
theorem Wr.th {K : PySem.W.Frag} {st lg : Addr} {H : Hp} {x : V} (h : Wr st lg H x) : ∃ o, Th K H x o ∧ turnB o = false := by
  cases h with
  | non => exact ⟨none, .no .non, rfl⟩
  | lst e _ _ => exact ⟨none, .no (.lst e), rfl⟩
  | tup e r l g => exact ⟨_, .tup e r.rws l, g⟩
theorem Wr.kpN {H H' : Hp} {st lg cl : Addr} {n : Nat} {x : V} (h : Wr st lg H x) (S : StAt H st lg cl n) (k : KpN st lg H H') : Wr st lg H' x := by
  obtain ⟨_, _, _, _, s, _⟩ := S
  have kt : ∀ b xs, H b = some (.tup xs) → H' b = some (.tup xs) := fun b xs e => k _ _ e (ne_of e s.d (by intro z; cases z)) (ne_of e s.l (by intro z; cases z)) (fun ps z => by cases z)
  cases h with
  | non => exact .non
  | lst e n1 n2 => exact .lst (k _ _ e n1 n2 (fun ps z => by cases z)) n1 n2
  | tup e r l g => exact .tup (kt _ _ e) (r.mono kt) l g
theorem wr_same {H H' : Hp} {st lg cl : Addr} {n : Nat} {xs : List V} (W : ∀ x ∈ xs, Wr st lg H x) (S : StAt H st lg cl n) (s : Same H H') : ∀ x ∈ xs, Wr st lg H' x := fun x hx => (W x hx).kpN S (.kp (.same s))
theorem wr_snoc {H : Hp} {st lg : Addr} {xs : List V} {y : V} (W : ∀ x ∈ xs, Wr st lg H x) (h : Wr st lg H y) : ∀ x ∈ xs ++ [y], Wr st lg H x := fun x hx => by
  rcases List.mem_append.mp hx with q | q
  · exact W x q
  · rcases List.mem_singleton.mp q with rfl
    exact h
theorem fl_nil : ∀ x ∈ ([] : List V), Fl x := fun _ h => nomatch h
theorem fl_cons {x : V} {xs : List V} (h : Fl x) (r : ∀ y ∈ xs, Fl y) : ∀ y ∈ x :: xs, Fl y := fun y hy => by
  rcases List.mem_cons.mp hy with e | e
  · rw [e]
    exact h
  · exact r y e
theorem Rw.det {K : PySem.W.Frag} {H : Hp} {x : V} {o o' : Option (List V)} (h : Rw K H x o) (h' : Rw K H x o') : o = o' := by
  cases h with
  | no n =>
    cases h' with
    | no _ => rfl
    | tup e _ _ =>
      cases n with
      | lst q => rw [e] at q; cases q
      | dK q => rw [e] at q; cases q
  | tup e _ _ =>
    cases h' with
    | no n =>
      cases n with
      | lst q => rw [e] at q; cases q
      | dK q => rw [e] at q; cases q
    | tup e' _ _ =>
      rw [e] at e'
      cases e'
      rfl
theorem Th.det {K : PySem.W.Frag} {H : Hp} {x : V} {o o' : Option (List (Option (List V)))} (h : Th K H x o) (h' : Th K H x o') : o = o' := by
  cases h with
  | no n =>
    cases h' with
    | no _ => rfl
    | tup e _ _ =>
      cases n with
      | lst q => rw [e] at q; cases q
      | dK q => rw [e] at q; cases q
  | @tup a vs os e p _ =>
    cases h' with
    | no n =>
      cases n with
      | lst q => rw [e] at q; cases q
      | dK q => rw [e] at q; cases q
    | @tup _ vs' os' e' p' _ =>
      obtain rfl : vs = vs' := by
        rw [e] at e'
        exact HO.tup.inj (Option.some.inj e')
      congr 1
      refine List.ext_getElem? fun i => ?_
      rcases Nat.lt_or_ge i vs.length with c | c
      · obtain ⟨u, h1, h2⟩ := p.2 i _ (List.getElem?_eq_getElem c)
        obtain ⟨u', h1', h2'⟩ := p'.2 i _ (List.getElem?_eq_getElem c)
        rw [h1, h1', h2.det h2']
      · rw [List.getElem?_eq_none (by rw [← p.1]; exact c), List.getElem?_eq_none (by rw [← p'.1]; exact c)]
theorem Pn.turned {H : Hp} {a : Addr} {nss : List (List Int)} {w : Nat} (p : Pn H a nss w) (s : betB nss (-512) 511 = true) : K03.turnB (some (nss.map fun ns => some (ns.map V.int))) = true :=
  p.turnB fun ns hn n hnn => by
    unfold betB at s
    rw [List.all_eq_true] at s
    have := s ns hn
    rw [List.all_eq_true] at this
    have := this n hnn
    simpa using this
theorem rep_c17 {K : PySem.W.Frag} {σ : L2.St} {H : Hp} {p : Addr} {Q : VK} (h : rRepA K (.ref p) (.int ((17 : Nat) : Int)) H Q) : tC (V.int 17) σ H (fun y H2 => rRepA K (.ref p) y H2 Q) := h
end K03
namespace K03
open PySem PySem.Spec PyProof.Rows L2 PySem.W LamX KA KW KU KL KT
open Evl (pss_cut tCut)
/-! ### the law -/
def lamP : Expr → Arguments
  | .Lambda p _ _ _ => p
  | _ => ⟨[], [], none, [], [], none, []⟩
def lamB : Expr → Expr
  | .Lambda _ b _ _ => b
  | e => e
def lamSc : Expr → Scope
  | .Lambda _ _ s _ => s
  | _ => defScope s_law
def itOf : Stmt → Expr
  | .For _ it _ _ _ => it
  | _ => .Constant .none 0 ⟨0, 0, 0, 0⟩
def bdOf : Stmt → List Stmt
  | .For _ _ b _ _ => b
  | _ => []
def elt : Expr → Nat → Expr
  | .List es _, i => es.getD i (.Constant .none 0 ⟨0, 0, 0, 0⟩)
  | e, _ => e
def stL (i : Nat) : Stmt := (bdOf ((defBody s_law).getD 1 (.Pass ⟨0, 0, 0, 0⟩))).getD i (.Pass ⟨0, 0, 0, 0⟩)
abbrev e10 : Expr := elt (itOf (stL 20)) 0
abbrev e11 : Expr := elt (itOf (stL 20)) 1
theorem ok_nil {X : Cx} {kb : Nat} : ∀ l ∈ ([] : List LamD), LamOk X kb l := fun _ h => nomatch h
theorem ok_cons {X : Cx} {kb : Nat} {l : LamD} {ls : List LamD} (h : LamOk X kb l) (r : ∀ l ∈ ls, LamOk X kb l) : ∀ x ∈ l :: ls, LamOk X kb x := fun x hx => by
  rcases List.mem_cons.mp hx with e | e
  · rw [e]
    exact h
  · exact r x e
theorem FnG.w {P : Program} {w : World} {K : PySem.W.Frag} {mg : Str → Option Value} {base : Heap} {CX : CXT} {k : Nat} {f : Addr} {fd : FuncData} {ps : List Str} {sp : Sp} {fs : List Addr} {H0 : Hp} {h0 : Heap} (F : FnG P w K mg base CX k f fd ps sp) : FnW P w K mg base fs H0 h0 CX k f fd ps sp :=
  ⟨F.len, fun A outer s H args us vs Q E hr hg e0 _ _ b r h => F.run A outer s H args us vs Q E hr hg e0 b r h⟩
theorem since_self {Z : Cx} (h : Z.ex = []) : Since Z Z.fs Z.H_0 Z.s_0.heap := ⟨Un.kept fun _ _ z => z, fun _ hb => .inl hb, h⟩
section
variable {K : PySem.W.Frag} {x qual : Str} {st : Stmt} {f : Addr} {fd : FuncData}
/-- one value by place, four by name, the names from behind -/
theorem Fun.kw14 {s0 a b c d : Str} (F : Fun K x qual st f fd) (h : ∀ (kV doc pm : Value) (an : Option Addr) (cdv ct o u v y z : Value), bindArgs (PySem.W.fnOf x qual (defArgs st) (defBody st) (defScope st) .none kV doc pm an cdv ct) ⟨[o], [(d, u), (c, v), (b, y), (a, z)]⟩ = pure [(s0, o), (a, z), (b, y), (c, v), (d, u)]) :
    KBn K fd [s0, a, b, c, d] 1 [d, c, b, a] (fun us ws => us ++ ws.reverse) (fun us zs => us ++ zs.reverse) := by
  obtain ⟨oc, od, kV, doc, pm, an, cdv, ct, osl, rfl, lk, hcd⟩ := F.ex
  refine ⟨fun s us ws X l1 l2 => ?_, fun {_ _ zs ws} r1 r => ?_⟩
  · match us, ws, l1, l2 with
    | [o], [u, v, y, z], _, _ => exact .of_eq (h kV doc pm an cdv ct o u v y z)
  · clear h
    have rev : ∀ {zs : List V} {ws : List Value}, Vals zs ws → Vals zs.reverse ws.reverse := fun {zs ws} r => by
      induction r with
      | nil => exact .nil
      | cons h _ ih =>
        rw [List.reverse_cons, List.reverse_cons]
        exact ih.append (.cons h .nil)
    exact r1.append (rev r)
end
def spLaw (K : PySem.W.Frag) (Pt : Addr) : Sp := fun vs H Q _ => ∃ (a : Addr) (ns : List Int), vs = [.ref a] ∧ SqL K H a (ns.map V.int) ∧ ns.length ≤ 63 ∧ Tabs (tabs Pt) H ∧ ∀ H', Q (.bl true) H'
section
variable {P : Program} {w : World} {K : PySem.W.Frag} {mg : Str → Option Value} {base : Heap} (T : Top K mg) (SH : ShapeT K mg) (SQ : ShapeQ K mg SH) (kB : PySem.W.kitOne K (.type "bool") (.ref SH.C) = some false) (BE : BadShapeT P w K mg T.reel.C)
include SQ kB BE in
theorem ok_law {c Pt : Addr} (LT : LamT K "law" s_law T.law.a T.law.d c Pt) (TB : TabB base mg c Pt) : FnG P w K mg base (L2.CX P w) 14 T.law.a T.law.d ["script"] (spLaw K Pt) := by
  refine fnG_ofC LT sc_law (fun vs H Q E h => ?_) (fun A outer s0 H vs Q E hr hg h => ?_)
  · obtain ⟨a, ns, rfl, _⟩ := h
    rfl
  · obtain ⟨a, ns, rfl, hS, hl, Tb, k⟩ := h
    have hu := hu_of hr
    have hr7 : Room (8 + 2) _ := hr.mono (by decide)
    refine ⟨_, pss_cons (ps_set (i := 16) sc_law.nd rfl (.inr rfl) (pe_call (ok_begun T) (hr.mono (by decide)) (by rfl) T._law_begun.m T._law_begun.f.kp (bd__law_begun T) .nil passE (pa_cons (pv 0) pa_nil)))
      (pss_cons (ps_for (passes_of rfl) rfl (pi_range1 (by rfl) T.b_range (pa_cons (pe_op op_add pe_int (pe_callB (call_min2 rfl) (by rfl) T.b_min PyProof.Rows.boot_min (pa_cons (pe_callB call_len_seq (by rfl) T.b_len PySem.boot_len (pa_cons (pv 0) pa_nil)) (pa_cons pe_int pa_nil)))) pa_nil)) (pg_name (i := 1) sc_law.nd rfl (.inl rfl)) (pss_cut (ps_set (i := 2) sc_law.nd rfl (.inl rfl) (pe_call (ok_scope T) (hr.mono (by decide)) (by rfl) T._law_scope.m T._law_scope.f.kp (bd__law_scope T) .nil passE (pa_cons (pv 16) pa_nil)))
        (pss_cut (ps_set (i := 3) sc_law.nd rfl (.inl rfl) (pe_lst (pa_cons (pe_dget hu (pv 2) pe_str (fun _ _ => rfl)) (pa_cons (pe_dget hu (pv 2) pe_str (fun _ _ => rfl)) (pa_cons (pe_dget hu (pv 2) pe_str (fun _ _ => rfl)) (pa_cons (pe_dget hu (pv 2) pe_str (fun _ _ => rfl)) pa_nil))))))
        (pss_cut (ps_set (i := 13) sc_law.nd rfl (.inr rfl) (pe_make SH.M (ok_initX T SH BE) (hr.mono (by decide)) (by rfl) SH.g (SH.F.binds fun _ _ _ _ _ _ us hl => match us, hl with | [_, _, _, _, _], _ => rfl) .nil passE (pa_cons (pe_ix (show IxR _ (rIxL K) from ix_list) (pv 3) pe_int (fun _ _ => rfl)) (pa_cons (pe_ix (show IxR _ (rIxL K) from ix_list) (pv 3) pe_int (fun _ _ => rfl)) (pa_cons (pe_ix (show IxR _ (rIxL K) from ix_list) (pv 3) pe_int (fun _ _ => rfl)) (pa_cons (pe_ix (show IxR _ (rIxL K) from ix_list) (pv 3) pe_int (fun _ _ => rfl)) pa_nil))))))
        (pss_cut (ps_set (i := 4) sc_law.nd rfl (.inl rfl) (pe_op op_fdiv (pe_op op_add (pe_ix ix_list (pv 3) pe_int (fun _ _ => rfl)) (pe_ix ix_list (pv 3) pe_int (fun _ _ => rfl))) pe_int))
        (pss_cut (ps_if (pt_cmpR op_ne (pe_callB (call_repr hg hr) (by rfl) T.b_repr (by decide +kernel) (pa_cons (pe_lst (pa_cons (pe_fld (pv 13) rfl) (pa_cons (pe_fld (pv 13) rfl) (pa_cons (pe_fld (pv 13) rfl) (pa_cons (pe_fld (pv 13) rfl) (pa_cons (pe_fld (pv 13) rfl) pa_nil)))))) pa_nil)) (pe_callB (call_repr hg hr) (by rfl) T.b_repr (by decide +kernel) (pa_cons (pe_op op_cat (pv 3) (pe_lst (pa_cons (pv 4) pa_nil))) pa_nil)) (nomark _)) (pss_one (ps_ret pe_bl)) pss_nil)
        (pss_cut (ps_if (PW.pt (pw_or (pt_cmpR (KY.op_eqI (ok_eq T SH SQ) (hr.mono (by decide)) SQ.s SQ.i (SQ.F.binds fun _ _ _ _ _ _ us hl => match us, hl with | [_, _], _ => rfl) passE) (pv 13) (pe_callTy (show CallR _ _ (rTupOf K) from call_tuple_of) (by rfl) T.b_tuple (by decide +kernel) (pa_cons (pv 3) pa_nil)) (nomark _)) (pw_or1 (pt_cmpR (KY.op_eqI (ok_eq T SH SQ) (hr.mono (by decide)) SQ.s SQ.i (SQ.F.binds fun _ _ _ _ _ _ us hl => match us, hl with | [_, _], _ => rfl) passE) (pv 13) pe_non (nomark _))))) (pss_one (ps_ret pe_bl)) pss_nil)
        (pss_cut (ps_if (pt_cmpR (KY.op_neI (ok_eq T SH SQ) (hr.mono (by decide)) SQ.s SQ.n SQ.o SQ.i (SQ.F.binds fun _ _ _ _ _ _ us hl => match us, hl with | [_, _], _ => rfl) passE) (pv 13) (pe_makeK0 SH.M (ok_initX T SH BE) (hr.mono (by decide)) (by rfl) SH.g (Fun.kw14 SH.F fun _ _ _ _ _ _ _ _ _ _ _ => rfl) passE (pk_cons (pe_ix ix_list (pv 3) pe_int (fun _ _ => rfl)) (pk_cons (pe_ix ix_list (pv 3) pe_int (fun _ _ => rfl)) (pk_cons (pe_ix ix_list (pv 3) pe_int (fun _ _ => rfl)) (pk_cons (pe_ix ix_list (pv 3) pe_int (fun _ _ => rfl)) pk_nil))))) (nomark _)) (pss_one (ps_ret pe_bl)) pss_nil)
        (pss_cut (ps_set (i := 12) sc_law.nd rfl (.inr rfl) (pe_callTy (show CallR _ _ (rListOf K) from call_list_of) (by rfl) T.b_list (by decide +kernel) (pa_cons (pv 3) pa_nil)))
        (pss_cut (ps_for (passes_of rfl) rfl (pi_range1 (by rfl) T.b_range (pa_cons (pe_op op_add pe_int (pe_call (ok_draw T) (hr.mono (by decide)) (by rfl) T._law_draw.m T._law_draw.f.kp (bd__law_draw T) .nil passE (pa_cons (pv 16) (pa_cons pe_int pa_nil)))) pa_nil)) (pg_name (i := 5) sc_law.nd rfl (.inl rfl)) (pss_cut (ps_set (i := 6) sc_law.nd rfl (.inl rfl) (pe_lst (pa_cons pe_int (pa_cons pe_int (pa_cons (pe_un un_neg pe_int) (pa_cons pe_int (pa_cons pe_int (pa_cons pe_bl (pa_cons pe_non (pa_cons pe_str (pa_cons pe_int (pa_cons pe_int (pa_cons (pe_un un_neg pe_int) (pa_cons (pe_un un_neg pe_int) (pa_cons (pe_tup (pa_cons pe_int pa_nil)) (pa_cons (pe_op op_sub (pe_ix ix_list (pv 3) pe_int (fun _ _ => rfl)) pe_int) pa_nil))))))))))))))))
        (pss_one (ps_asg (pe_call (ok_pick T) (hr.mono (by decide)) (by rfl) T._law_pick.m T._law_pick.f.kp (bd__law_pick T) .nil passE (pa_cons (pv 16) (pa_cons (pv 6) pa_nil))) (pg_sub (pv 12) (pe_call (ok_draw T) (hr.mono (by decide)) (by rfl) T._law_draw.m T._law_draw.f.kp (bd__law_draw T) .nil passE (pa_cons (pv 16) (pa_cons pe_int pa_nil))) set_list)))))
        (pss_cut (ps_par (i := 7) (j := 8) rfl sc_law.nd rfl rfl (by decide) rfl rfl (pa_cons (pe_call (ok_due T) (hr.mono (by decide)) (by rfl) T._law_due.m T._law_due.f.kp (bd__law_due T) .nil passE (pa_cons (pv 12) pa_nil)) (pa_cons (pe_caught T TB rfl hr7 (by rfl) (lamS_by (sc := defScope s_law) (by decide +kernel)) rfl (fun _ _ _ _ _ => rfl) (fun A outer s H E f c' h => (pe_make SH.M (ok_initX T SH BE) (h.mono (by decide)) (by rfl) SH.g (SH.F.binds fun _ _ _ _ _ _ us hl => match us, hl with | [_, _, _, _, _], _ => rfl) .nil (passX rfl rfl rfl rfl) (pa_cons (pe_ix (show IxR _ (rIxL K) from ix_list) (pv 12) pe_int (fun _ _ => rfl)) (pa_cons (pe_ix (show IxR _ (rIxL K) from ix_list) (pv 12) pe_int (fun _ _ => rfl)) (pa_cons (pe_ix (show IxR _ (rIxL K) from ix_list) (pv 12) pe_int (fun _ _ => rfl)) (pa_cons (pe_ix (show IxR _ (rIxL K) from ix_list) (pv 12) pe_int (fun _ _ => rfl)) pa_nil))))))) pa_nil)) (by rfl))
        (pss_cut (ps_if (PW.pt (pw_and (pt_cmpR op_isN (pv 7) pe_non (nomark _)) (pw_and1 (pt_cmpR op_notN (pv 8) pe_non (nomark _))))) (pss_one (ps_ret pe_bl)) pss_nil)
        (pss_cut (ps_if (PW.pt (pw_and (pt_cmpR op_isN (pv 7) pe_non (nomark _)) (pw_and1 (pt_cmpR op_ne (pe_cmpR (KY.op_eqI (ok_eq T SH SQ) (hr.mono (by decide)) SQ.s SQ.i (SQ.F.binds fun _ _ _ _ _ _ us hl => match us, hl with | [_, _], _ => rfl) passE) (pe_make SH.M (ok_initX T SH BE) (hr.mono (by decide)) (by rfl) SH.g (SH.F.binds fun _ _ _ _ _ _ us hl => match us, hl with | [_, _, _, _, _], _ => rfl) .nil passE (pa_cons (pe_ix (show IxR _ (rIxL K) from ix_list) (pv 12) pe_int (fun _ _ => rfl)) (pa_cons (pe_ix (show IxR _ (rIxL K) from ix_list) (pv 12) pe_int (fun _ _ => rfl)) (pa_cons (pe_ix (show IxR _ (rIxL K) from ix_list) (pv 12) pe_int (fun _ _ => rfl)) (pa_cons (pe_ix (show IxR _ (rIxL K) from ix_list) (pv 12) pe_int (fun _ _ => rfl)) pa_nil))))) (pv 13) (nomark _)) (pe_cmpR (op_eqD hr.units) (pv 12) (pv 3) (nomark _)) (nomark _))))) (pss_one (ps_ret pe_bl)) pss_nil)
        (pss_cut (ps_if (PW.pt (pw_and (pt_cmpR op_notN (pv 7) pe_non (nomark _)) (pw_and1 (PW.pt (pw_or (pt_not (pt_val (pe_callB (show CallR _ _ (rIs3 K) from call_is3) (by rfl) T.b_isinstance PyProof.Rows.boot_isinstance (pa_cons (pv 8) (pa_cons (pe_glob (v := .ref BE.C) (by rfl) BE.g rfl) pa_nil))))) (pw_or1 (pt_cmpR op_ne (pe_upGet BE.u (pv 8)) (pv 7) (nomark _)))))))) (pss_one (ps_ret pe_bl)) pss_nil)
        (pss_cut (ps_set (i := 15) sc_law.nd rfl (.inr rfl) (pe_call (ok_pane T) (hr.mono (by decide)) (by rfl) T._law_pane.m T._law_pane.f.kp (bd__law_pane T) .nil passE (pa_cons (pv 16) (pa_cons (pv 2) pa_nil))))
        (pss_cut (ps_for (passes_of rfl) rfl (pi_range1 (by rfl) T.b_range (pa_cons pe_int pa_nil)) (pg_name (i := 5) sc_law.nd rfl (.inl rfl)) (pss_cut (ps_set (i := 9) sc_law.nd rfl (.inl rfl) (pe_ifExp (pt_cmpR op_eq (pv 5) pe_int (nomark _)) (pv 15) (pe_call (ok_bent T) (hr.mono (by decide)) (by rfl) T._law_bent.m T._law_bent.f.kp (bd__law_bent T) .nil passE (pa_cons (pv 16) (pa_cons (pv 2) (pa_cons (pv 15) pa_nil))))))
        (pss_cut (ps_set (i := 7) sc_law.nd rfl (.inl rfl) (pe_call (ok_is_pane T) (hr.mono (by decide)) (by rfl) T._law_is_pane.m T._law_is_pane.f.kp (bd__law_is_pane T) .nil passE (pa_cons (pv 2) (pa_cons (pv 9) pa_nil))))
        (pss_one (ps_if (pt_cmpR op_ne (pe_callB (call_repr hg hr) (by rfl) T.b_repr (by decide +kernel) (pa_cons (pe_lst (pa_cons (pe_call (ok_is_plane T SH SQ kB BE) (hr.mono (by decide)) (by rfl) T.is_plane.m T.is_plane.f.kp (bd_is_plane T) .nil passE (pa_cons (pv 13) (pa_cons (pv 9) pa_nil))) (pa_cons (pe_kw (ok_is_plane T SH SQ kB BE) (hr.mono (by decide)) (by rfl) T.is_plane.m T.is_plane.f.kp (KA.Fun.kw2 T.is_plane.f fun _ _ _ _ _ _ _ _ => rfl) passE (pk_cons (pv 9) (pk_cons (pv 13) pk_nil))) pa_nil))) pa_nil)) (pe_callB (call_repr hg hr) (by rfl) T.b_repr (by decide +kernel) (pa_cons (pe_lst (pa_cons (pv 7) (pa_cons (pv 7) pa_nil))) pa_nil)) (nomark _)) (pss_one (ps_ret pe_bl)) pss_nil)))))
        (pss_cut (ps_set (i := 10) sc_law.nd rfl (.inl rfl) (pe_call (ok_grain T) (hr.mono (by decide)) (by rfl) T._law_grain.m T._law_grain.f.kp (bd__law_grain T) .nil passE (pa_cons (pv 16) (pa_cons (pv 2) pa_nil))))
        (pss_cut (ps_if (pt_cmpR op_ne (pe_callB (call_repr hg hr) (by rfl) T.b_repr (by decide +kernel) (pa_cons (pe_call (ok_flat T SH SQ kB BE) (hr.mono (by decide)) (by rfl) T.flat_plane.m T.flat_plane.f.kp (bd_flat_plane T) .nil passE (pa_cons (pv 13) (pa_cons (pv 10) pa_nil))) pa_nil)) (pe_callB (call_repr hg hr) (by rfl) T.b_repr (by decide +kernel) (pa_cons (pe_op op_repA (pe_tup (pa_cons (pe_op op_repA (pe_tup (pa_cons (pv 10) pa_nil)) (pe_ix ix_list (pv 3) pe_int (fun _ _ => rfl))) pa_nil)) (pe_ix ix_list (pv 3) pe_int (fun _ _ => rfl))) pa_nil)) (nomark _)) (pss_one (ps_ret pe_bl)) pss_nil)
        (pss_cut (ps_if (pt_not (pt_val (pe_wcall (FnG.w (ok_tr T)) (since_self rfl) (hr.mono (by decide)) hg (by rfl) T._law_turned_right.m T._law_turned_right.f.kp (bd__law_turned_right T) passE (pa_cons (pv 16) (pa_cons (pv 2) (pa_cons (pv 15) pa_nil)))))) (pss_one (ps_ret pe_bl)) pss_nil)
        (pss_cut (ps_set (i := 14) sc_law.nd rfl (.inr rfl) (pe_call (ok_pick T) (hr.mono (by decide)) (by rfl) T._law_pick.m T._law_pick.f.kp (bd__law_pick T) .nil passE (pa_cons (pv 16) (pa_cons (pe_lst (pa_cons (pe_op op_add (pe_ix ix_list (pv 3) pe_int (fun _ _ => rfl)) pe_int) (pa_cons (pe_op op_sub (pe_ix ix_list (pv 3) pe_int (fun _ _ => rfl)) pe_int) (pa_cons pe_non (pa_cons pe_str (pa_cons (pe_tup (pa_cons (pv 10) pa_nil)) (pa_cons pe_bl (pa_cons pe_bl pa_nil)))))))) pa_nil))))
        (pss_cut (ps_if (pt_not (pt_val (pe_callB (show CallR _ _ (rIs2 K) from call_is2) (by rfl) T.b_isinstance PyProof.Rows.boot_isinstance (pa_cons (pe_caught T TB rfl hr7 (by rfl) (lamS_by (sc := defScope s_law) (by decide +kernel)) rfl (fun _ _ _ _ _ => rfl) (fun A outer s H E f c' h => (pe_kw (ok_flat T SH SQ kB BE) (h.mono (by decide)) (by rfl) T.flat_plane.m T.flat_plane.f.kp (KA.Fun.kw2 T.flat_plane.f fun _ _ _ _ _ _ _ _ => rfl) (passX rfl rfl rfl rfl) (pk_cons (pv 14) (pk_cons (pv 13) pk_nil))))) (pa_cons (pe_glob (v := .ref T.BadNumber.C) (by rfl) T.BadNumber.g rfl) pa_nil))))) (pss_one (ps_ret pe_bl)) pss_nil)
        (pss_cut (ps_for (passes_of rfl) rfl (pi_list (pe_lst (pa_cons (pe_lamV (params := lamP (e10)) (body := lamB (e10)) (scope := lamSc (e10)) TB rfl List.mem_cons_self (fun p hp e => by (rcases List.mem_singleton.mp hp with rfl; rfl)) (lamS_by (sc := defScope s_law) (by decide +kernel)) rfl) (pa_cons (pe_lamV (params := lamP (e11)) (body := lamB (e11)) (scope := lamSc (e11)) TB rfl List.mem_cons_self (fun p hp e => by (rcases List.mem_singleton.mp hp with rfl; rfl)) (lamS_by (sc := defScope s_law) (by decide +kernel)) rfl) pa_nil)))) (pg_name (i := 11) sc_law.nd rfl (.inl rfl)) (pss_cons (ps_set (i := 8) sc_law.nd rfl (.inl rfl) (pe_callL (kb := 8) (k := 10) (i := 11) (sp := fun f pre t => spCaughtL K T.reel.C f pre t) [⟨lamP e10, lamB e10, lamSc e10, _⟩, ⟨lamP e11, lamB e11, lamSc e11, _⟩] ((ok_cons ⟨(show LamS (defScope s_law) (lamSc e10) from lamS_by (by decide +kernel)), fun _ _ _ _ _ => rfl, fun A outer s H E f c' h => (pe_call (ok_is_plane T SH SQ kB BE) (h.mono (by decide)) (by rfl) T.is_plane.m T.is_plane.f.kp (bd_is_plane T) .nil (passX rfl rfl rfl rfl) (pa_cons (pv 14) (pa_cons (pv 15) pa_nil)))⟩ (ok_cons ⟨(show LamS (defScope s_law) (lamSc e11) from lamS_by (by decide +kernel)), fun _ _ _ _ _ => rfl, fun A outer s H E f c' h => (pe_call (ok_flat T SH SQ kB BE) (h.mono (by decide)) (by rfl) T.flat_plane.m T.flat_plane.f.kp (bd_flat_plane T) .nil (passX rfl rfl rfl rfl) (pa_cons pe_non (pa_cons (pv 14) pa_nil)))⟩ ok_nil))) (fun H0 h0 f pre t' Wk => caught_workL Wk T._law_caught.f sc__law_caught rfl rfl rfl rfl rfl T.reel.g (by decide) (by decide) (by decide) (by decide) (by decide) (by decide) (by decide)) (by rfl) T._law_caught.m T._law_caught.f.kp (bd__law_caught T) passE (hr.mono (by decide)) hg rfl (.inl rfl)))
        (pss_one (ps_if (PW.pt (pw_or (pt_not (pt_val (pe_callB (show CallR _ _ (rIs3 K) from call_is3) (by rfl) T.b_isinstance PyProof.Rows.boot_isinstance (pa_cons (pv 8) (pa_cons (pe_glob (v := .ref BE.C) (by rfl) BE.g rfl) pa_nil))))) (pw_or1 (pt_cmpR op_notN (pe_upGet BE.u (pv 8)) pe_non (nomark _))))) (pss_one (ps_ret pe_bl)) pss_nil))))
        (pss_cut (ps_set (i := 6) sc_law.nd rfl (.inl rfl) (pe_lst (pa_cons pe_non (pa_cons (pe_tup pa_nil) (pa_cons (pe_tup (pa_cons (pe_tup pa_nil) pa_nil)) (pa_cons (pe_lst (pa_cons (pv 15) pa_nil)) (pa_cons (pe_tup (pa_cons (pe_tup (pa_cons pe_int pa_nil)) pa_nil)) (pa_cons (pe_tup (pa_cons (pe_tup (pa_cons pe_int (pa_cons pe_int pa_nil))) (pa_cons (pe_tup (pa_cons pe_int pa_nil)) pa_nil))) (pa_cons (pe_tup (pa_cons (pe_tup (pa_cons pe_bl pa_nil)) pa_nil)) (pa_cons (pe_tup (pa_cons (pe_op op_repA (pe_tup (pa_cons pe_int pa_nil)) pe_int) pa_nil)) (pa_cons (pe_op op_repA (pe_tup (pa_cons (pe_tup (pa_cons pe_int pa_nil)) pa_nil)) pe_int) (pa_cons (pe_tup (pa_cons (pe_tup (pa_cons (pe_un un_neg pe_int) pa_nil)) pa_nil)) pa_nil))))))))))))
        (pss_cut (ps_set (i := 17) sc_law.nd rfl (.inr rfl) (pe_call (ok_pick T) (hr.mono (by decide)) (by rfl) T._law_pick.m T._law_pick.f.kp (bd__law_pick T) .nil passE (pa_cons (pv 16) (pa_cons (pv 6) pa_nil))))
        (pss_cut (ps_if (pt_not (pt_val (pe_callB (show CallR _ _ (rIs2 K) from call_is2) (by rfl) T.b_isinstance PyProof.Rows.boot_isinstance (pa_cons (pe_caught T TB rfl hr7 (by rfl) (lamS_by (sc := defScope s_law) (by decide +kernel)) rfl (fun _ _ _ _ _ => rfl) (fun A outer s H E f c' h => (pe_call (ok_turned T) (h.mono (by decide)) (by rfl) T.turned.m T.turned.f.kp (bd_turned T) .nil (passX rfl rfl rfl rfl) (pa_cons (pv 17) (pa_cons pe_str pa_nil))))) (pa_cons (pe_glob (v := .ref T.BadPlane.C) (by rfl) T.BadPlane.g rfl) pa_nil))))) (pss_one (ps_ret pe_bl)) pss_nil)
        (pss_one (ps_if (pt_not (pt_val (pe_callB (show CallR _ _ (rIs2 K) from call_is2) (by rfl) T.b_isinstance PyProof.Rows.boot_isinstance (pa_cons (pe_caught T TB rfl hr7 (by rfl) (lamS_by (sc := defScope s_law) (by decide +kernel)) rfl (fun _ _ _ _ _ => rfl) (fun A outer s H E f c' h => (pe_call (ok_turned T) (h.mono (by decide)) (by rfl) T.turned.m T.turned.f.kp (bd_turned T) .nil (passX rfl rfl rfl rfl) (pa_cons (pv 15) (pa_cons (pe_call (ok_pick T) (h.mono (by decide)) (by rfl) T._law_pick.m T._law_pick.f.kp (bd__law_pick T) .nil passE (pa_cons (pv 16) (pa_cons (pe_lst (pa_cons pe_str (pa_cons pe_non (pa_cons pe_int (pa_cons pe_str (pa_cons pe_str pa_nil)))))) pa_nil))) pa_nil))))) (pa_cons (pe_glob (v := .ref T.BadWay.C) (by rfl) T.BadWay.g rfl) pa_nil))))) (pss_one (ps_ret pe_bl)) pss_nil)))))))))))))))))))))))))))
      (pss_one (ps_ret pe_bl))), ?_⟩
    refine ⟨_, rfl, a, ns, rfl, hS, hl, fun st lg cl H1 S1 sm1 n1 n2 => ?_⟩
    have T1 := Tb.ext sm1
    clear Tb
    refine ⟨_, rfl, a, _, rfl, .inl (sm1.seq hS), _, _, rfl, _, _, rfl, rfl, _, rfl, by split <;> omega, by split <;> omega, for_range (n := _) (fun j σ H => StAt H st lg cl (400 * j) ∧ Tabs (tabs Pt) H ∧ ∃ v1 v2 v3 v4 v5 v6 v7 v8 v9 v10 v11 v12 v13 v14 v15 v17, σ = [some (.ref a), v1, v2, v3, v4, v5, v6, v7, v8, v9, v10, v11, v12, v13, v14, v15, some (.ref st), v17]) ⟨S1, T1, _, _, _, _, _, _, _, _, _, _, _, _, _, _, _, _, rfl⟩ ?_ fun σ H _ => k H⟩
    clear S1 T1 sm1 hS n1 n2 H1
    rintro j σ H hj ⟨S, Tb, v1, v2, v3, v4, v5, v6, v7, v8, v9, v10, v11, v12, v13, v14, v15, v17, rfl⟩
    have hj : j < 12 := by
      refine Nat.lt_of_lt_of_le hj ?_
      split <;> omega
    -- scope
    refine ⟨fun σ' H' => ∃ (sa : Addr) (ht wd : Nat) (lo hi : Int), (∃ v1 v3 v4 v5 v6 v7 v8 v9 v10 v11 v12 v13 v14 v15 v17, σ' = [some (.ref a), v1, some (.ref sa), v3, v4, v5, v6, v7, v8, v9, v10, v11, v12, v13, v14, v15, some (.ref st), v17]) ∧ ScV H' sa ((ht : Nat) : Int) ((wd : Nat) : Int) lo hi ∧ (sa ≠ st ∧ sa ≠ lg) ∧ StAt H' st lg cl (400 * j + 4) ∧ Tabs (tabs Pt) H', ?_, ?_⟩
    · refine ⟨_, rfl, st, lg, cl, 400 * j, rfl, by omega, S, fun ad t w lo hi Ha Sc na1 na2 Sa kpa => ?_⟩
      have q1 := Sc.t1
      have q2 := Sc.w1
      obtain ⟨t', rfl⟩ : ∃ n : Nat, t = n := ⟨t.toNat, by omega⟩
      obtain ⟨w', rfl⟩ : ∃ n : Nat, w = n := ⟨w.toNat, by omega⟩
      exact ⟨ad, t', w', lo, hi, ⟨_, _, _, _, _, _, _, _, _, _, _, _, _, _, _, rfl⟩, Sc, ⟨na1, na2⟩, Sa, tabs_kp Tb S kpa⟩
    clear S Tb H
    rintro σ H ⟨sa, ht, wd, lo, hi, ⟨v1, v3, v4, v5, v6, v7, v8, v9, v10, v11, v12, v13, v14, v15, v17, rfl⟩, Sc, na, S, Tb⟩
    have q1 := Sc.t1
    have q2 := Sc.t2
    have q3 := Sc.w1
    have q4 := Sc.w2
    have q5 := Sc.l1
    have q6 := Sc.l2
    have q7 := Sc.l3
    -- four
    refine ⟨fun σ' H' => ∃ fo : Addr, (∃ v1 v4 v5 v6 v7 v8 v9 v10 v11 v12 v13 v14 v15 v17, σ' = [some (.ref a), v1, some (.ref sa), some (.ref fo), v4, v5, v6, v7, v8, v9, v10, v11, v12, v13, v14, v15, some (.ref st), v17]) ∧ ScV H' sa ((ht : Nat) : Int) ((wd : Nat) : Int) lo hi ∧ StAt H' st lg cl (400 * j + 4) ∧ Tabs (tabs Pt) H' ∧ (fo ≠ st ∧ fo ≠ lg) ∧ H' fo = some (.lst [.int ((ht : Nat) : Int), .int ((wd : Nat) : Int), .int lo, .int hi]), ?_, ?_⟩
    · refine ⟨_, rfl, sa, _, rfl, (show DGet H sa (kV kTall) _ from sc_tall ▸ DGet.k Sc.d), _, rfl, sa, _, rfl, (show DGet H sa (kV kWide) _ from sc_wide ▸ DGet.k Sc.d), _, rfl, sa, _, rfl, (show DGet H sa (kV kLeast) _ from sc_least ▸ DGet.k Sc.d), _, rfl, sa, _, rfl, (show DGet H sa (kV kMost) _ from sc_most ▸ DGet.k Sc.d), (by show 4 ≤ sizeLine; decide), fun fo hfo => ?_⟩
      have e := Same.new (o := .lst [V.int ((ht : Nat) : Int), V.int ((wd : Nat) : Int), V.int lo, V.int hi]) hfo
      exact ⟨fo, ⟨_, _, _, _, _, _, _, _, _, _, _, _, _, _, rfl⟩, Sc.keep (e _), S.same e, Tb.ext e, S.off hfo, upd_same⟩
    clear S Tb Sc H
    rintro σ H ⟨fo, ⟨v1, v4, v5, v6, v7, v8, v9, v10, v11, v12, v13, v14, v15, v17, rfl⟩, Sc, S, Tb, nf, hfo⟩
    -- form
    refine ⟨fun σ' H' => ∃ fa dx : Addr, (∃ v1 v4 v5 v6 v7 v8 v9 v10 v11 v12 v14 v15 v17, σ' = [some (.ref a), v1, some (.ref sa), some (.ref fo), v4, v5, v6, v7, v8, v9, v10, v11, v12, some (.ref fa), v14, v15, some (.ref st), v17]) ∧ LW SH.C Pt st lg cl (400 * j + 4) ht wd lo hi sa fo fa dx H', ?_, ?_⟩
    · refine ⟨_, rfl, fo, _, 0, _, rfl, rfl, SqL.of hfo, atI_nat (j := 0) rfl, _, rfl, fo, _, 1, _, rfl, rfl, SqL.of hfo, atI_nat (j := 1) rfl, _, rfl, fo, _, 2, _, rfl, rfl, SqL.of hfo, atI_nat (j := 2) rfl, _, rfl, fo, _, 3, _, rfl, rfl, SqL.of hfo, atI_nat (j := 3) rfl, fun fa dx e2 hdx ne => shape_made e2 hdx ne q1 q2 q3 q4 q5 q6 q7 fun H' e1 e => ?_⟩
      exact ⟨fa, dx, ⟨_, _, _, _, _, _, _, _, _, _, _, _, _, rfl⟩, S.same e, Tb.ext e, Sc.keep (e _), na, e _ _ hfo, nf, e1, S.off e2⟩
    clear S Tb Sc H hfo na nf
    rintro σ H ⟨fa, dx, ⟨v1, v4, v5, v6, v7, v8, v9, v10, v11, v12, v14, v15, v17, rfl⟩, B⟩
    -- middle_here
    refine ⟨fun σ' H' => (∃ v1 v5 v6 v7 v8 v9 v10 v11 v12 v14 v15 v17, σ' = [some (.ref a), v1, some (.ref sa), some (.ref fo), some (.int ((lo + hi) / 2)), v5, v6, v7, v8, v9, v10, v11, v12, some (.ref fa), v14, v15, some (.ref st), v17]) ∧ LW SH.C Pt st lg cl (400 * j + 4) ht wd lo hi sa fo fa dx H', ?_, ?_⟩
    · exact ⟨_, rfl, fo, _, 2, _, rfl, rfl, SqL.of B.F, atI_nat (j := 2) rfl, _, rfl, fo, _, 3, _, rfl, rfl, SqL.of B.F, atI_nat (j := 3) rfl, _, _, rfl, rfl, _, _, rfl, rfl, ⟨by decide, by decide⟩, ⟨_, _, _, _, _, _, _, _, _, _, _, _, rfl⟩, B⟩
    clear B H
    rintro σ H ⟨⟨v1, v5, v6, v7, v8, v9, v10, v11, v12, v14, v15, v17, rfl⟩, B⟩
    -- repr of the attributes
    refine ⟨fun σ' H' => (∃ v1 v4 v5 v6 v7 v8 v9 v10 v11 v12 v14 v15 v17, σ' = [some (.ref a), v1, some (.ref sa), some (.ref fo), v4, v5, v6, v7, v8, v9, v10, v11, v12, some (.ref fa), v14, v15, some (.ref st), v17]) ∧ LW SH.C Pt st lg cl (400 * j + 4) ht wd lo hi sa fo fa dx H', ?_, ?_⟩
    · obtain ⟨r1, r2, r3, r4⟩ := (sm_list (n := 17) (z := 0) (k := 5) (ds := [.int ((ht : Nat) : Int), .int ((wd : Nat) : Int), .int lo, .int hi, .int ((lo + hi) / 2)]) (fun d hd => by
        simp only [List.mem_cons, List.not_mem_nil, or_false] at hd
        rcases hd with h | h | h | h | h <;> subst h <;> exact sm_int (by omega) (by omega)) (Nat.le_refl _)).repr (by decide) (by decide)
      refine ⟨_, rfl, fa, SH.C, dx, _, _, rfl, B.G, SH.i.cl, SH.n1, rfl, _, rfl, fa, SH.C, dx, _, _, rfl, B.G, SH.i.cl, SH.n2, rfl, _, rfl, fa, SH.C, dx, _, _, rfl, B.G, SH.i.cl, SH.n3, rfl, _, rfl, fa, SH.C, dx, _, _, rfl, B.G, SH.i.cl, SH.n4, rfl, _, rfl, fa, SH.C, dx, _, _, rfl, B.G, SH.i.cl, SH.n5, rfl, (by show 5 ≤ sizeLine; decide), fun p hp => ?_⟩
      refine ⟨p, _, rfl, .lst (SqL.of upd_same) (KT.dp_ints [((ht : Nat) : Int), ((wd : Nat) : Int), lo, hi, (lo + hi) / 2]), r1, r2, r3, r4, ?_⟩
      have B := B.same (Same.new (o := .lst [V.int ((ht : Nat) : Int), V.int ((wd : Nat) : Int), V.int lo, V.int hi, V.int ((lo + hi) / 2)]) hp)
      refine ⟨_, rfl, _, rfl, (by show 1 ≤ sizeLine; decide), fun q hq => ?_⟩
      have e2 := Same.new (o := .lst [V.int ((lo + hi) / 2)]) hq
      refine ⟨fo, q, _, _, rfl, rfl, e2 _ _ B.F, upd_same, (by show 5 ≤ sizeLine; decide), fun r hr' => ?_⟩
      refine ⟨r, _, rfl, .lst (SqL.of upd_same) (KT.dp_ints [((ht : Nat) : Int), ((wd : Nat) : Int), lo, hi, (lo + hi) / 2]), r1, r2, r3, r4, ?_⟩
      exact ⟨rfl, _, rfl, ite_same ⟨⟨_, _, _, _, _, _, _, _, _, _, _, _, _, rfl⟩, (B.same e2).same (Same.new hr')⟩⟩
    clear B H
    rintro σ H ⟨⟨v1, v4, v5, v6, v7, v8, v9, v10, v11, v12, v14, v15, v17, rfl⟩, B⟩
    -- == of others
    have nfT : PySem.W.notFirst K SH.C (.type "tuple") = true := by
      unfold PySem.W.notFirst
      rw [SQ.sT]
      simp
    have nfN : PySem.W.notFirst K SH.C (.type "NoneType") = true := by
      unfold PySem.W.notFirst
      rw [SQ.sN]
      simp
    have nfS : PySem.W.notFirst K SH.C (.ref SH.C) = true := by
      unfold PySem.W.notFirst
      simp
    have tyS : ∀ (H : Hp) (x y : Addr) (fs : List (Str × V)), H x = some (.ins SH.C y fs) → TyX K H (.ref x) (.ref SH.C) := fun H x y fs e => .base (.ins e SH.i.cl SH.i.ha SH.i.hn SH.i.htk SH.i.hm)
    refine ⟨fun σ' H' => (∃ v1 v4 v5 v6 v7 v8 v9 v10 v11 v12 v14 v15 v17, σ' = [some (.ref a), v1, some (.ref sa), some (.ref fo), v4, v5, v6, v7, v8, v9, v10, v11, v12, some (.ref fa), v14, v15, some (.ref st), v17]) ∧ LW SH.C Pt st lg cl (400 * j + 4) ht wd lo hi sa fo fa dx H', ?_, ?_⟩
    · refine ⟨_, rfl, _, rfl, fo, _, rfl, .inl ⟨SqL.of B.F, fun l hl => ?_⟩⟩
      have e := Same.new (o := .tup [V.int ((ht : Nat) : Int), V.int ((wd : Nat) : Int), V.int lo, V.int hi]) hl
      have B := B.same e
      refine ⟨fa, dx, _, _, rfl, B.G, .base (.tup upd_same), nfT, .ref fa, .ref l, false, _, _, _, _, rfl, B.sh, .tup upd_same, false, rfl, _, rfl, iteF ?_⟩
      exact ⟨_, rfl, fa, dx, _, _, rfl, B.G, .base .non, nfN, .ref fa, .non, false, _, _, _, _, rfl, B.sh, .non, false, rfl, _, rfl, iteF ⟨⟨_, _, _, _, _, _, _, _, _, _, _, _, _, rfl⟩, B⟩⟩
    clear B H
    rintro σ H ⟨⟨v1, v4, v5, v6, v7, v8, v9, v10, v11, v12, v14, v15, v17, rfl⟩, B⟩
    -- != of the same
    refine ⟨fun σ' H' => (∃ v1 v4 v5 v6 v7 v8 v9 v10 v11 v12 v14 v15 v17, σ' = [some (.ref a), v1, some (.ref sa), some (.ref fo), v4, v5, v6, v7, v8, v9, v10, v11, v12, some (.ref fa), v14, v15, some (.ref st), v17]) ∧ LW SH.C Pt st lg cl (400 * j + 4) ht wd lo hi sa fo fa dx H', ?_, ?_⟩
    · refine ⟨_, rfl, _, rfl, fo, _, 3, _, rfl, rfl, SqL.of B.F, atI_nat (j := 3) rfl, _, rfl, fo, _, 2, _, rfl, rfl, SqL.of B.F, atI_nat (j := 2) rfl, _, rfl, fo, _, 1, _, rfl, rfl, SqL.of B.F, atI_nat (j := 1) rfl, _, rfl, fo, _, 0, _, rfl, rfl, SqL.of B.F, atI_nat (j := 0) rfl, rfl, rfl, fun x2 dx2 f1 f2 f3 => shape_made f1 f2 f3 q1 q2 q3 q4 q5 q6 q7 fun H2 e2 s2 => ?_⟩
      have B2 := B.same s2
      refine ⟨fa, dx, _, _, rfl, B2.G, tyS _ _ _ _ e2, nfS, .ref fa, .ref x2, _, _, _, _, _, rfl, B2.sh, .sh ⟨x2, dx2, rfl, e2⟩, _, rfl, _, rfl, ?_⟩
      rw [decide_eq_true (show ((ht : Nat) : Int) = ((ht : Nat) : Int) from rfl), decide_eq_true (show ((wd : Nat) : Int) = ((wd : Nat) : Int) from rfl), decide_eq_true (show lo = lo from rfl), decide_eq_true (show hi = hi from rfl)]
      exact iteF ⟨⟨_, _, _, _, _, _, _, _, _, _, _, _, _, rfl⟩, B2⟩
    clear B H
    rintro σ H ⟨⟨v1, v4, v5, v6, v7, v8, v9, v10, v11, v12, v14, v15, v17, rfl⟩, B⟩
    -- bent
    refine ⟨fun σ' H' => ∃ be : Addr, (∃ v1 v4 v5 v6 v7 v8 v9 v10 v11 v14 v15 v17, σ' = [some (.ref a), v1, some (.ref sa), some (.ref fo), v4, v5, v6, v7, v8, v9, v10, v11, some (.ref be), some (.ref fa), v14, v15, some (.ref st), v17]) ∧ LW SH.C Pt st lg cl (400 * j + 4) ht wd lo hi sa fo fa dx H' ∧ Bn st lg cl fo be H', ?_, ?_⟩
    · refine ⟨_, rfl, fo, _, rfl, .inl (SqL.of B.F), fun be hbe => ⟨be, ⟨_, _, _, _, _, _, _, _, _, _, _, _, rfl⟩, B.same (Same.new hbe), ⟨_, _, _, _, upd_same, .fl (.int _), .fl (.int _), .fl (.int _), .fl (.int _)⟩, StAt.off3 B.S hbe, (ne_of_none B.F hbe).symm⟩⟩
    clear B H
    rintro σ H ⟨be, ⟨v1, v4, v5, v6, v7, v8, v9, v10, v11, v14, v15, v17, rfl⟩, B, N⟩
    refine ⟨fun σ' H' => (∃ v1 v4 v5 v6 v7 v8 v9 v10 v11 v14 v15 v17, σ' = [some (.ref a), v1, some (.ref sa), some (.ref fo), v4, v5, v6, v7, v8, v9, v10, v11, some (.ref be), some (.ref fa), v14, v15, some (.ref st), v17]) ∧ LW SH.C Pt st lg cl (400 * j + 10) ht wd lo hi sa fo fa dx H' ∧ Bn st lg cl fo be H', ?_, ?_⟩
    · refine ⟨_, rfl, st, lg, cl, 2, 400 * j + 4, rfl, by decide, by decide, by omega, B.S, fun rr H1 hrr S1 kp1 => ⟨_, _, rfl, rfl, _, rfl, by omega, by omega, ?_⟩⟩
      refine for_range (lo := 0) (n := _) (fun i σ H' => (∃ v1 v4 v5 v6 v7 v8 v9 v10 v11 v14 v15 v17, σ = [some (.ref a), v1, some (.ref sa), some (.ref fo), v4, v5, v6, v7, v8, v9, v10, v11, some (.ref be), some (.ref fa), v14, v15, some (.ref st), v17]) ∧ LW SH.C Pt st lg cl (400 * j + 5 + 2 * i) ht wd lo hi sa fo fa dx H' ∧ Bn st lg cl fo be H') ⟨⟨_, _, _, _, _, _, _, _, _, _, _, _, rfl⟩, B.kp S1 kp1, N.kpN B.S (.kp kp1)⟩ ?_ ?_
      · clear B N H1 S1 kp1
        rintro i σ H2 hi2 ⟨⟨v1, v4, v5, v6, v7, v8, v9, v10, v11, v14, v15, v17, rfl⟩, B, N⟩
        have hi2 : i < 2 := by omega
        refine ⟨fun σ' H' => ∃ (sm tp : Addr), (∃ v1 v4 v5 v7 v8 v9 v10 v11 v14 v15 v17, σ' = [some (.ref a), v1, some (.ref sa), some (.ref fo), v4, v5, some (.ref sm), v7, v8, v9, v10, v11, some (.ref be), some (.ref fa), v14, v15, some (.ref st), v17]) ∧ LW SH.C Pt st lg cl (400 * j + 5 + 2 * i) ht wd lo hi sa fo fa dx H' ∧ Bn st lg cl fo be H' ∧ H' tp = some (.tup [.int 1]) ∧ sm ≠ lg ∧ H' sm = some (.lst [.int 0, .int 17, .int (-1), .int 16, .int 1, .bl true, .non, .str "1", .int 511, .int 512, .int (-512), .int (-513), .ref tp, .int (lo - 1)]), ?_, ?_⟩
        · refine ⟨_, rfl, _, rfl, _, rfl, (by show 1 ≤ sizeLine; decide), fun tp htp => ?_⟩
          have e := Same.new (o := .tup [V.int 1]) htp
          have N := N.kpN B.S (.kp (.same e))
          have B := B.same e
          have t1 : (upd H2 tp (.tup [V.int 1])) tp = some (.tup [V.int 1]) := upd_same
          generalize upd H2 tp (.tup [V.int 1]) = H3 at B N t1 ⊢
          refine ⟨_, rfl, fo, _, 2, _, rfl, rfl, SqL.of B.F, atI_nat (j := 2) rfl, _, _, rfl, rfl, (by show 14 ≤ sizeLine; decide), fun sm hsm => ?_⟩
          have e2 := Same.new (o := .lst [V.int 0, V.int 17, V.int (-1), V.int 16, V.int 1, V.bl true, V.non, V.str "1", V.int 511, V.int 512, V.int (-512), V.int (-513), V.ref tp, V.int (lo - 1)]) hsm
          exact ⟨sm, tp, ⟨_, _, _, _, _, _, _, _, _, _, _, rfl⟩, B.same e2, N.kpN B.S (.kp (.same e2)), e2 _ _ t1, (B.S.off hsm).2, upd_same⟩
        clear B N H2
        rintro σ H2 ⟨sm, tp, ⟨v1, v4, v5, v7, v8, v9, v10, v11, v14, v15, v17, rfl⟩, B, N, ht1, nsm, hsm⟩
        refine ⟨_, rfl, _, rfl, st, lg, cl, sm, _, 400 * j + 5 + 2 * i, rfl, hsm, nsm, (by show 0 < 14; decide), (by show 14 ≤ 1000; decide), by omega, B.S, fun x H3 hx S3 kp3 => ?_⟩
        have B3 := B.kp S3 kp3
        have N3 := N.kpN B.S (.kp kp3)
        have bx : Bx H3 x := by
          have t3 : Bx H2 (.ref tp) := .t1 ht1
          have t4 := t3.kpN B.S (.kp kp3)
          simp only [List.mem_cons, List.not_mem_nil, or_false] at hx
          rcases hx with h | h | h | h | h | h | h | h | h | h | h | h | h | h <;> subst h
          · exact .fl (.int _)
          · exact .fl (.int _)
          · exact .fl (.int _)
          · exact .fl (.int _)
          · exact .fl (.int _)
          · exact .fl (.bl _)
          · exact .fl .non
          · exact .fl (.str _ (by decide +kernel))
          · exact .fl (.int _)
          · exact .fl (.int _)
          · exact .fl (.int _)
          · exact .fl (.int _)
          · exact t4
          · exact .fl (.int _)
        refine ⟨_, rfl, _, rfl, st, lg, cl, 4, 400 * j + 5 + 2 * i + 1, rfl, by decide, by decide, by omega, B3.S, fun r H4 hr4 S4 kp4 => ?_⟩
        have B4 := B3.kp S4 kp4
        have N4 := N3.kpN B3.S (.kp kp4)
        obtain ⟨xs, e4, l4, N5⟩ := N4.set hr4 (bx.kpN B3.S (.kp kp4))
        exact ⟨be, xs, _, r, rfl, rfl, e4, by rw [l4]; exact ixN_nat hr4, ⟨_, _, _, _, _, _, _, _, _, _, _, _, rfl⟩, (B4.put e4 N4.n N4.f).mono (by omega), N5⟩
      · rintro σ H2 ⟨⟨v1, v4, v5, v6, v7, v8, v9, v10, v11, v14, v15, v17, rfl⟩, B, N⟩
        exact ⟨⟨_, _, _, _, _, _, _, _, _, _, _, _, rfl⟩, B.mono (by omega), N⟩
    clear B N H
    rintro σ H ⟨⟨v1, v4, v5, v6, v7, v8, v9, v10, v11, v14, v15, v17, rfl⟩, B, N⟩
    -- due, caught
    refine ⟨fun σ' H' => ∃ dv cv : V, (∃ v1 v4 v5 v6 v9 v10 v11 v14 v15 v17, σ' = [some (.ref a), v1, some (.ref sa), some (.ref fo), v4, v5, v6, some dv, some cv, v9, v10, v11, some (.ref be), some (.ref fa), v14, v15, some (.ref st), v17]) ∧ LW SH.C Pt st lg cl (400 * j + 10) ht wd lo hi sa fo fa dx H' ∧ Bn st lg cl fo be H' ∧ Cg BE.C H' dv cv ∧ ∃ x1 x2 x3 x4, H' be = some (.lst [x1, x2, x3, x4]) ∧ dv = dueV x1 x2 x3 x4, ?_, ?_⟩
    · obtain ⟨⟨x1, x2, x3, x4, e, h1, h2, h3, h4⟩, nb, nf⟩ := id N
      obtain ⟨b1, p1⟩ := h1.pl (K := K)
      obtain ⟨b2, p2⟩ := h2.pl (K := K)
      obtain ⟨b3, p3⟩ := h3.pl (K := K)
      obtain ⟨b4, p4⟩ := h4.pl (K := K)
      refine ⟨_, rfl, be, x1, x2, x3, x4, b1, b2, b3, b4, rfl, e, p1, p2, p3, p4, B.T, fun H1 e1 t1 Q1 hQ1 => ?_⟩
      have eb := e1 _ _ e (fun ps z => by cases z)
      refine ⟨_, rfl, be, _, 0, _, rfl, rfl, SqL.of eb, atI_nat (j := 0) rfl, _, rfl, be, _, 1, _, rfl, rfl, SqL.of eb, atI_nat (j := 1) rfl, _, rfl, be, _, 2, _, rfl, rfl, SqL.of eb, atI_nat (j := 2) rfl, _, rfl, be, _, 3, _, rfl, rfl, SqL.of eb, atI_nat (j := 3) rfl, fun x dx2 f1 f2 f3 => ?_⟩
      have S1 := stAt_ext B.S e1
      have sA : Same H1 (upd (upd H1 dx2 (.own x)) x (.ins SH.C dx2 [])) := (Same.new f2).trans (Same.new ((upd_ne (Ne.symm f3)).trans f1))
      have kA : KpN st lg H (upd (upd H1 dx2 (.own x)) x (.ins SH.C dx2 [])) := (KpN.ext e1).trans (.kp (.same sA))
      obtain ⟨c1, r1⟩ := (h1.kpN B.S kA).pl (K := K)
      obtain ⟨c2, r2⟩ := (h2.kpN B.S kA).pl (K := K)
      obtain ⟨c3, r3⟩ := (h3.kpN B.S kA).pl (K := K)
      obtain ⟨c4, r4⟩ := (h4.kpN B.S kA).pl (K := K)
      refine init_due r1 r2 r3 r4 upd_same (fun p hp d hd => ⟨exd_exm T.reel BE, fun y hy => ?_⟩) (fun hp h' w' lo' hi' _ _ _ _ _ _ _ _ _ _ _ H2 g1 g2 => ⟨rfl, hQ1 _ _ ?_⟩)
      · have s1 := Same.new (o := .xd [("part", .str p)]) hd
        have s2 := Same.new (o := ExV (.ref BE.C) (some d) y) hy
        have kB := kA.trans (.kp (.same (s1.trans s2)))
        refine ⟨_, _, rfl, _, .ref y, ⟨_, _, _, _, _, _, _, _, _, _, rfl⟩, B.kpN (((S1.same sA).same s1).same s2) (((t1.ext sA).ext s1).ext s2) kB, N.kpN B.S kB, ?_, x1, x2, x3, x4, kB _ _ e nb.1 nb.2.1 (fun ps z => by cases z), rfl⟩
        rw [hp]
        exact .er upd_same ((upd_ne (ne_of_none upd_same hy)).trans upd_same)
      · have sB : Same H1 H2 := fun b o q => by
          have n1 : b ≠ x := ne_of_none q f1
          rw [g2 b n1]
          exact sA b o q
        have kB : KpN st lg H H2 := (KpN.ext e1).trans (.kp (.same sB))
        refine ⟨_, _, rfl, _, .non, ⟨_, _, _, _, _, _, _, _, _, _, rfl⟩, B.kpN (S1.same sB) (t1.ext sB) kB, N.kpN B.S kB, ?_, x1, x2, x3, x4, kB _ _ e nb.1 nb.2.1 (fun ps z => by cases z), rfl⟩
        rw [hp]
        exact .no
    clear B N H
    rintro σ H ⟨dv, cv, ⟨v1, v4, v5, v6, v9, v10, v11, v14, v15, v17, rfl⟩, B, N, G, x1, x2, x3, x4, hbe, hdv⟩
    refine ⟨fun σ' H' => (∃ v1 v4 v5 v6 v9 v10 v11 v14 v15 v17, σ' = [some (.ref a), v1, some (.ref sa), some (.ref fo), v4, v5, v6, some dv, some cv, v9, v10, v11, some (.ref be), some (.ref fa), v14, v15, some (.ref st), v17]) ∧ LW SH.C Pt st lg cl (400 * j + 10) ht wd lo hi sa fo fa dx H' ∧ Bn st lg cl fo be H' ∧ Cg BE.C H' dv cv ∧ H' be = some (.lst [x1, x2, x3, x4]), ?_, ?_⟩
    · cases G with
      | no =>
        refine ⟨_, rfl, rfl, _, rfl, ?_⟩
        rw [show decide (V.non = V.non) = true from decide_eq_true rfl]
        exact iteT ⟨_, rfl, rfl, _, rfl, ite_same ⟨⟨_, _, _, _, _, _, _, _, _, _, rfl⟩, B, N, .no, hbe⟩⟩
      | er g1 g2 =>
        refine ⟨_, rfl, rfl, _, rfl, ?_⟩
        rename_i p _ _
        rw [show decide (V.str p = V.non) = false from decide_eq_false fun z => by cases z]
        exact iteF (iteF ⟨⟨_, _, _, _, _, _, _, _, _, _, rfl⟩, B, N, .er g1 g2, hbe⟩)
    clear B N G H hbe
    rintro σ H ⟨⟨v1, v4, v5, v6, v9, v10, v11, v14, v15, v17, rfl⟩, B, N, G, hbe⟩
    refine ⟨fun σ' H' => (∃ v1 v4 v5 v6 v9 v10 v11 v14 v15 v17, σ' = [some (.ref a), v1, some (.ref sa), some (.ref fo), v4, v5, v6, some dv, some cv, v9, v10, v11, some (.ref be), some (.ref fa), v14, v15, some (.ref st), v17]) ∧ LW SH.C Pt st lg cl (400 * j + 10) ht wd lo hi sa fo fa dx H' ∧ Cg BE.C H' dv cv, ?_, ?_⟩
    · cases G with
      | er g1 g2 =>
        refine ⟨_, rfl, rfl, _, rfl, ?_⟩
        rename_i p _ _
        rw [show decide (V.str p = V.non) = false from decide_eq_false fun z => by cases z]
        exact iteF (iteF ⟨⟨_, _, _, _, _, _, _, _, _, _, rfl⟩, B, .er g1 g2⟩)
      | no =>
        refine ⟨_, rfl, rfl, _, rfl, ?_⟩
        rw [show decide (V.non = V.non) = true from decide_eq_true rfl]
        obtain ⟨⟨y1, y2, y3, y4, e, h1, h2, h3, h4⟩, nb, nf⟩ := id N
        have ey : y1 = x1 ∧ y2 = x2 ∧ y3 = x3 ∧ y4 = x4 := by
          rw [hbe] at e
          injection e with e
          injection e with e
          injection e with e1 e
          injection e with e2 e
          injection e with e3 e
          injection e with e4 e
          exact ⟨e1.symm, e2.symm, e3.symm, e4.symm⟩
        obtain ⟨rfl, rfl, rfl, rfl⟩ := ey
        refine iteT ⟨_, rfl, be, _, 0, _, rfl, rfl, SqL.of hbe, atI_nat (j := 0) rfl, _, rfl, be, _, 1, _, rfl, rfl, SqL.of hbe, atI_nat (j := 1) rfl, _, rfl, be, _, 2, _, rfl, rfl, SqL.of hbe, atI_nat (j := 2) rfl, _, rfl, be, _, 3, _, rfl, rfl, SqL.of hbe, atI_nat (j := 3) rfl, fun x dx2 f1 f2 f3 => ?_⟩
        have sA : Same H (upd (upd H dx2 (.own x)) x (.ins SH.C dx2 [])) := (Same.new f2).trans (Same.new ((upd_ne (Ne.symm f3)).trans f1))
        have kA : KpN st lg H (upd (upd H dx2 (.own x)) x (.ins SH.C dx2 [])) := .kp (.same sA)
        obtain ⟨c1, r1⟩ := (h1.kpN B.S kA).pl (K := K)
        obtain ⟨c2, r2⟩ := (h2.kpN B.S kA).pl (K := K)
        obtain ⟨c3, r3⟩ := (h3.kpN B.S kA).pl (K := K)
        obtain ⟨c4, r4⟩ := (h4.kpN B.S kA).pl (K := K)
        refine init_due r1 r2 r3 r4 upd_same (fun p hp => by rw [← hdv] at hp; cases hp) (fun _ h' w' lo' hi' u1 u2 u3 u4 _ _ _ _ _ _ _ H2 g1 g2 => ⟨rfl, ?_⟩)
        subst u1 u2 u3 u4
        have sB : Same H H2 := fun b o q => by
          have n1 : b ≠ x := ne_of_none q f1
          rw [g2 b n1]
          exact sA b o q
        have B2 := B.same sB
        refine ⟨_, rfl, x, dx2, _, _, rfl, g1, tyS _ _ _ _ B2.G, nfS, .ref x, .ref fa, _, h', w', lo', hi', rfl, ⟨x, dx2, rfl, g1⟩, .sh B2.sh, _, rfl, _, rfl, _, rfl, _, _, .lst (SqL.of (sB _ _ hbe)) (KT.dp_ints [h', w', lo', hi']), .lst (SqL.of B2.F) (KT.dp_ints [((ht : Nat) : Int), ((wd : Nat) : Int), lo, hi]), shaped_is [h', w', lo', hi'], shaped_is [((ht : Nat) : Int), ((wd : Nat) : Int), lo, hi], ?_⟩
        rw [show PyData.eqv (.list ([h', w', lo', hi'].map PyData.int)) (.list ([((ht : Nat) : Int), ((wd : Nat) : Int), lo, hi].map PyData.int)) = _ from eqv4 h' w' lo' hi' ((ht : Nat) : Int) ((wd : Nat) : Int) lo hi]
        exact ⟨rfl, _, rfl, ite_same ⟨⟨_, _, _, _, _, _, _, _, _, _, rfl⟩, B2, .no⟩⟩
    clear B N G H hbe
    rintro σ H ⟨⟨v1, v4, v5, v6, v9, v10, v11, v14, v15, v17, rfl⟩, B, G⟩
    refine ⟨fun σ' H' => (∃ v1 v4 v5 v6 v7 v8 v9 v10 v11 v12 v14 v15 v17, σ' = [some (.ref a), v1, some (.ref sa), some (.ref fo), v4, v5, v6, v7, v8, v9, v10, v11, v12, some (.ref fa), v14, v15, some (.ref st), v17]) ∧ LW SH.C Pt st lg cl (400 * j + 10) ht wd lo hi sa fo fa dx H', ?_, ?_⟩
    · cases G with
      | no => exact ⟨_, rfl, rfl, _, rfl, ite_same (iteF ⟨⟨_, _, _, _, _, _, _, _, _, _, _, _, _, rfl⟩, B⟩)⟩
      | er g1 g2 =>
        refine ⟨_, rfl, rfl, _, rfl, ?_⟩
        rename_i p y d
        rw [show (!decide (V.str p = V.non)) = true by rw [show decide (V.str p = V.non) = false from decide_eq_false fun z => by cases z]; rfl]
        refine iteT ⟨_, rfl, .inr ⟨y, BE.C, d, _, _, _, true, rfl, g1, g2, BE.x, .own _, kit_self, _, rfl, ?_⟩⟩
        exact iteF ⟨_, rfl, y, d, _, rfl, g1, g2, _, rfl, rfl, _, rfl, ite_same ⟨⟨_, _, _, _, _, _, _, _, _, _, _, _, _, rfl⟩, B⟩⟩
    clear B G H
    rintro σ H ⟨⟨v1, v4, v5, v6, v7, v8, v9, v10, v11, v12, v14, v15, v17, rfl⟩, B⟩
    clear hdv dv cv x1 x2 x3 x4
    -- the pane
    refine ⟨fun σ' H' => ∃ (pa : Addr) (nss : List (List Int)), (∃ v1 v4 v5 v6 v7 v8 v9 v10 v11 v12 v14 v17, σ' = [some (.ref a), v1, some (.ref sa), some (.ref fo), v4, v5, v6, v7, v8, v9, v10, v11, v12, some (.ref fa), v14, some (.ref pa), some (.ref st), v17]) ∧ LW SH.C Pt st lg cl (400 * j + 310) ht wd lo hi sa fo fa dx H' ∧ Pn H' pa nss wd ∧ nss.length = ht ∧ ∀ ns ∈ nss, ∀ n ∈ ns, lo ≤ n ∧ n ≤ hi, ?_, ?_⟩
    · refine ⟨_, rfl, _, rfl, st, lg, cl, sa, ht, wd, lo, hi, 400 * j + 10, rfl, B.A, B.a, by omega, B.S, fun pa nss H' pn hl' hall S' kp' => ⟨pa, nss, ⟨_, _, _, _, _, _, _, _, _, _, _, _, rfl⟩, B.kp S' kp', pn, hl', hall⟩⟩
    clear B H
    rintro σ H ⟨pa, nss, ⟨v1, v4, v5, v6, v7, v8, v9, v10, v11, v12, v14, v17, rfl⟩, B, pn, rfl, hall⟩
    -- four items
    refine ⟨fun σ' H' => (∃ v1 v4 v5 v6 v7 v8 v9 v10 v11 v12 v14 v17, σ' = [some (.ref a), v1, some (.ref sa), some (.ref fo), v4, v5, v6, v7, v8, v9, v10, v11, v12, some (.ref fa), v14, some (.ref pa), some (.ref st), v17]) ∧ LW SH.C Pt st lg cl (400 * j + 370) nss.length wd lo hi sa fo fa dx H' ∧ Pn H' pa nss wd, ?_, ?_⟩
    · refine ⟨4, rfl, by decide, by decide, for_range (lo := 0) (n := 4) (fun i σ H' => (∃ v1 v4 v5 v6 v7 v8 v9 v10 v11 v12 v14 v17, σ = [some (.ref a), v1, some (.ref sa), some (.ref fo), v4, v5, v6, v7, v8, v9, v10, v11, v12, some (.ref fa), v14, some (.ref pa), some (.ref st), v17]) ∧ LW SH.C Pt st lg cl (400 * j + 310 + 12 * i) nss.length wd lo hi sa fo fa dx H' ∧ Pn H' pa nss wd) ⟨⟨_, _, _, _, _, _, _, _, _, _, _, _, rfl⟩, B, pn⟩ ?_ fun σ H' ⟨⟨v1, v4, v5, v6, v7, v8, v9, v10, v11, v12, v14, v17, z⟩, B, pn⟩ => ⟨⟨_, _, _, _, _, _, _, _, _, _, _, _, z⟩, B.mono (by omega), pn⟩⟩
      clear B pn H
      rintro i σ H hi4 ⟨⟨v1, v4, v5, v6, v7, v8, v9, v10, v11, v12, v14, v17, rfl⟩, B, pn⟩
      refine ⟨fun σ' H' => ∃ (y : V) (o : Option (List (Option (List V)))), (∃ v1 v4 v5 v6 v7 v8 v10 v11 v12 v14 v17, σ' = [some (.ref a), v1, some (.ref sa), some (.ref fo), v4, v5, v6, v7, v8, some y, v10, v11, v12, some (.ref fa), v14, some (.ref pa), some (.ref st), v17]) ∧ LW SH.C Pt st lg cl (400 * j + 310 + 12 * i + 10) nss.length wd lo hi sa fo fa dx H' ∧ Pn H' pa nss wd ∧ Th K H' y o ∧ ∀ os, o = some os → FlC os, ?_, ?_⟩
      · refine ⟨_, rfl, rfl, _, rfl, ?_⟩
        by_cases c0 : decide (V.int (0 + (i : Int)) = V.int 0) = true
        · rw [c0]
          exact iteT ⟨_, rfl, .ref pa, _, ⟨_, _, _, _, _, _, _, _, _, _, _, rfl⟩, B.mono (by omega), pn, pn.th, fun os z => by cases z; exact pn.flc⟩
        · rw [show decide (V.int (0 + (i : Int)) = V.int 0) = false by simpa using c0]
          exact iteF ⟨_, rfl, _, rfl, _, rfl, st, lg, cl, sa, pa, nss, wd, lo, hi, _, rfl, B.A, B.a, pn, by omega, B.S, fun y o H' th fl S' kp' => ⟨y, o, ⟨_, _, _, _, _, _, _, _, _, _, _, rfl⟩, B.kp S' kp', pn.kp B.S kp', th, fl⟩⟩
      clear B pn H
      rintro σ H ⟨y, o, ⟨v1, v4, v5, v6, v7, v8, v10, v11, v12, v14, v17, rfl⟩, B, pn, th, fl⟩
      refine ⟨fun σ' H' => (∃ v1 v4 v5 v6 v8 v10 v11 v12 v14 v17, σ' = [some (.ref a), v1, some (.ref sa), some (.ref fo), v4, v5, v6, some (.bl (paneB o ((nss.length : Nat) : Int) ((wd : Nat) : Int) lo hi)), v8, some y, v10, v11, v12, some (.ref fa), v14, some (.ref pa), some (.ref st), v17]) ∧ LW SH.C Pt st lg cl (400 * j + 310 + 12 * i + 10) nss.length wd lo hi sa fo fa dx H' ∧ Pn H' pa nss wd ∧ Th K H' y o, ?_, ?_⟩
      · exact ⟨_, rfl, _, rfl, sa, y, o, _, _, lo, hi, rfl, B.A, th, fl, fun H' s' => ⟨⟨_, _, _, _, _, _, _, _, _, _, rfl⟩, B.same s', pn.keep s', th.keep s'⟩⟩
      clear B pn th H
      rintro σ H ⟨⟨v1, v4, v5, v6, v8, v10, v11, v12, v14, v17, rfl⟩, B, pn, th⟩
      have eqP : planeB o ((nss.length : Nat) : Int) ((wd : Nat) : Int) lo hi = paneB o ((nss.length : Nat) : Int) ((wd : Nat) : Int) lo hi := pane_plane q1 q2 q3 q4
      obtain ⟨r1, r2, r3, r4⟩ := (sm_list (n := 17) (z := 0) (k := 2) (ds := [.bool (paneB o ((nss.length : Nat) : Int) ((wd : Nat) : Int) lo hi), .bool (paneB o ((nss.length : Nat) : Int) ((wd : Nat) : Int) lo hi)]) (fun d hd => by
        simp only [List.mem_cons, List.not_mem_nil, or_false, or_self] at hd
        subst hd
        exact sm_bool) (Nat.le_refl _)).repr (by decide) (by decide)
      refine ⟨_, rfl, _, rfl, .ref fa, y, o, rfl, th, .inl ⟨_, _, lo, hi, B.sh, fun H1 s1 => ?_⟩⟩
      have B := B.same s1
      have th := th.keep s1
      have pn := pn.keep s1
      refine ⟨_, rfl, _, rfl, rfl, .ref fa, y, o, rfl, th, .inl ⟨_, _, lo, hi, B.sh, fun H2 s2 => ?_⟩⟩
      have B := B.same s2
      have pn := pn.keep s2
      rw [eqP]
      refine ⟨(by show 2 ≤ sizeLine; decide), fun p hp => ⟨p, _, rfl, .lst (SqL.of upd_same) (.cons (.bl _) (.cons (.bl _) .nil)), r1, r2, r3, r4, ?_⟩⟩
      have e1 := Same.new (o := .lst [V.bl (paneB o ((nss.length : Nat) : Int) ((wd : Nat) : Int) lo hi), V.bl (paneB o ((nss.length : Nat) : Int) ((wd : Nat) : Int) lo hi)]) hp
      refine ⟨_, rfl, _, rfl, (by show 2 ≤ sizeLine; decide), fun q hq => ⟨q, _, rfl, .lst (SqL.of upd_same) (.cons (.bl _) (.cons (.bl _) .nil)), r1, r2, r3, r4, ?_⟩⟩
      have e2 := Same.new (o := .lst [V.bl (paneB o ((nss.length : Nat) : Int) ((wd : Nat) : Int) lo hi), V.bl (paneB o ((nss.length : Nat) : Int) ((wd : Nat) : Int) lo hi)]) hq
      exact ⟨rfl, _, rfl, ite_same ⟨⟨_, _, _, _, _, _, _, _, _, _, _, _, rfl⟩, ((B.same e1).same e2).mono (by omega), (pn.keep e1).keep e2⟩⟩
    clear B pn H
    rintro σ H ⟨⟨v1, v4, v5, v6, v7, v8, v9, v10, v11, v12, v14, v17, rfl⟩, B, pn⟩
    -- base
    have n2 := pn.h2
    have n1 := pn.h1
    have w2 := pn.w2
    have w1 := pn.w1
    refine ⟨fun σ' H' => ∃ bb : Int, (∃ v1 v4 v5 v6 v7 v8 v9 v11 v12 v14 v17, σ' = [some (.ref a), v1, some (.ref sa), some (.ref fo), v4, v5, v6, v7, v8, v9, some (.int bb), v11, v12, some (.ref fa), v14, some (.ref pa), some (.ref st), v17]) ∧ LW SH.C Pt st lg cl (400 * j + 371) nss.length wd lo hi sa fo fa dx H' ∧ Pn H' pa nss wd ∧ lo ≤ bb ∧ bb ≤ hi, ?_, ?_⟩
    · exact ⟨_, rfl, _, rfl, st, lg, cl, sa, _, _, lo, hi, 400 * j + 370, rfl, B.A, by omega, B.S, fun bb H' z1 z2 S' kp' => ⟨bb, ⟨_, _, _, _, _, _, _, _, _, _, _, rfl⟩, B.kp S' kp', pn.kp B.S kp', z1, z2⟩⟩
    clear B pn H
    rintro σ H ⟨bb, ⟨v1, v4, v5, v6, v7, v8, v9, v11, v12, v14, v17, rfl⟩, B, pn, z1, z2⟩
    -- the flat plane
    refine ⟨fun σ' H' => (∃ v1 v4 v5 v6 v7 v8 v9 v11 v12 v14 v17, σ' = [some (.ref a), v1, some (.ref sa), some (.ref fo), v4, v5, v6, v7, v8, v9, some (.int bb), v11, v12, some (.ref fa), v14, some (.ref pa), some (.ref st), v17]) ∧ LW SH.C Pt st lg cl (400 * j + 371) nss.length wd lo hi sa fo fa dx H' ∧ Pn H' pa nss wd, ?_, ?_⟩
    · have sm : Sm 4624 2 (plD (List.replicate nss.length (List.replicate wd bb))) := plD_sm (w := wd) (fun ns hn n hnn => by
        have := List.eq_of_mem_replicate hn
        subst this
        have := List.eq_of_mem_replicate hnn
        subst this
        omega) (by simpa using n2) w2 (fun ns hn => by
        have := List.eq_of_mem_replicate hn
        subst this
        simp)
      obtain ⟨r1, r2, r3, r4⟩ := sm.repr (by decide) (by decide)
      refine ⟨_, rfl, _, rfl, .ref fa, .int bb, true, rfl, .int bb, .inl ⟨_, _, lo, hi, B.sh, q1, q2, q3, q4, no_range z1 z2, fun i' e _ _ => ?_⟩⟩
      cases e
      intro H1 a1 b1 s1 e1 e2
      rw [Int.toNat_natCast] at e1 e2
      have B := B.same s1
      have pn := pn.keep s1
      refine ⟨a1, plD (List.replicate nss.length (List.replicate wd bb)), rfl, .tup (SqT.of e2) (rows_dp (rep_rows e1 nss.length)), r1, r2, r3, r4, ?_⟩
      refine ⟨_, rfl, (by show 1 ≤ sizeLine; decide), fun p1 hp1 => ?_⟩
      have s2 := Same.new (o := .tup [V.int bb]) hp1
      have t1 : (upd H1 p1 (.tup [V.int bb])) p1 = some (.tup [V.int bb]) := upd_same
      have B := B.same s2
      have pn := pn.keep s2
      generalize upd H1 p1 (.tup [V.int bb]) = H2 at B pn t1 ⊢
      refine ⟨_, rfl, fo, _, 1, _, rfl, rfl, SqL.of B.F, atI_nat (j := 1) rfl, rep_read t1 w1 (by omega) fun b2 H3 s3 e3 => ⟨(by show 1 ≤ sizeLine; decide), fun p4 hp4 => ?_⟩⟩
      have s4 := s3.trans (Same.new (o := .tup [V.ref b2]) hp4)
      have t4 : (upd H3 p4 (.tup [V.ref b2])) p4 = some (.tup [V.ref b2]) := upd_same
      have e4 := (Same.new (o := .tup [V.ref b2]) hp4) _ _ e3
      have B := B.same s4
      have pn := pn.keep s4
      generalize upd H3 p4 (.tup [V.ref b2]) = H4 at B pn t4 e4 ⊢
      refine ⟨_, rfl, fo, _, 0, _, rfl, rfl, SqL.of B.F, atI_nat (j := 0) rfl, rep_read t4 n1 (by omega) fun b5 H5 s5 e5 => ?_⟩
      refine ⟨b5, plD (List.replicate nss.length (List.replicate wd bb)), rfl, .tup (SqT.of e5) (rows_dp (rep_rows (s5 _ _ e4) nss.length)), r1, r2, r3, r4, ?_⟩
      exact ⟨rfl, _, rfl, ite_same ⟨⟨_, _, _, _, _, _, _, _, _, _, _, rfl⟩, B.same s5, pn.keep s5⟩⟩
    clear B pn H
    rintro σ H ⟨⟨v1, v4, v5, v6, v7, v8, v9, v11, v12, v14, v17, rfl⟩, B, pn⟩
    -- turned rightly
    have smn : SmN nss := fun ns hn n hnn => by
      have := hall ns hn n hnn
      omega
    refine ⟨fun σ' H' => (∃ v1 v4 v5 v6 v7 v8 v9 v11 v12 v14 v17, σ' = [some (.ref a), v1, some (.ref sa), some (.ref fo), v4, v5, v6, v7, v8, v9, some (.int bb), v11, v12, some (.ref fa), v14, some (.ref pa), some (.ref st), v17]) ∧ LW SH.C Pt st lg cl (400 * j + 371) nss.length wd lo hi sa fo fa dx H' ∧ Pn H' pa nss wd, ?_, ?_⟩
    · exact ⟨_, rfl, _, rfl, _, rfl, .ref st, sa, pa, nss, wd, lo, hi, rfl, B.A, pn, smn, fun H' s' => ⟨_, rfl, iteF ⟨⟨_, _, _, _, _, _, _, _, _, _, _, rfl⟩, B.same s', pn.keep s'⟩⟩⟩
    clear B pn H
    rintro σ H ⟨⟨v1, v4, v5, v6, v7, v8, v9, v11, v12, v14, v17, rfl⟩, B, pn⟩
    -- odd
    refine ⟨fun σ' H' => ∃ od : V, (∃ v1 v4 v5 v6 v7 v8 v9 v10 v11 v12 v17, σ' = [some (.ref a), v1, some (.ref sa), some (.ref fo), v4, v5, v6, v7, v8, v9, v10, v11, v12, some (.ref fa), some od, some (.ref pa), some (.ref st), v17]) ∧ LW SH.C Pt st lg cl (400 * j + 372) nss.length wd lo hi sa fo fa dx H' ∧ Pn H' pa nss wd ∧ within od lo hi = false ∧ (Fl od ∨ ∃ tp, od = .ref tp ∧ H' tp = some (.tup [.int bb])), ?_, ?_⟩
    · refine ⟨_, rfl, _, rfl, fo, _, 3, _, rfl, rfl, SqL.of B.F, atI_nat (j := 3) rfl, _, _, rfl, rfl, _, rfl, fo, _, 2, _, rfl, rfl, SqL.of B.F, atI_nat (j := 2) rfl, _, _, rfl, rfl, _, rfl, (by show 1 ≤ sizeLine; decide), fun tp htp => ?_⟩
      have s1 := Same.new (o := .tup [V.int bb]) htp
      have t1 : (upd H tp (.tup [V.int bb])) tp = some (.tup [V.int bb]) := upd_same
      have B := B.same s1
      have pn := pn.keep s1
      generalize upd H tp (.tup [V.int bb]) = H1 at B pn t1 ⊢
      refine ⟨(by show 7 ≤ sizeLine; decide), fun p hp => ⟨st, lg, cl, p, _, 400 * j + 371, rfl, upd_same, (B.S.off hp).2, (by show 0 < 7; decide), (by show 7 ≤ 1000; decide), by omega, B.S.same (Same.new hp), fun od H2 hod S2 kp2 => ?_⟩⟩
      have s2 := Same.new (o := .lst [V.int (hi + 1), V.int (lo - 1), V.non, V.str "0", V.ref tp, V.bl true, V.bl false]) hp
      have B1 := B.same s2
      have pn1 := pn.keep s2
      refine ⟨od, ⟨_, _, _, _, _, _, _, _, _, _, _, rfl⟩, B1.kp S2 kp2, pn1.kp B1.S kp2, ?_⟩
      simp only [List.mem_cons, List.not_mem_nil, or_false] at hod
      rcases hod with h | h | h | h | h | h | h <;> subst h
      · exact ⟨by simp [within]; omega, .inl (.int _)⟩
      · exact ⟨by simp [within]; omega, .inl (.int _)⟩
      · exact ⟨rfl, .inl .non⟩
      · exact ⟨rfl, .inl (.str _ (by decide +kernel))⟩
      · obtain ⟨_, _, _, _, sd, _⟩ := B1.S
        exact ⟨rfl, .inr ⟨tp, rfl, kp2 _ _ (s2 _ _ t1) (ne_of (s2 _ _ t1) sd.d (by intro z; cases z)) (ne_of (s2 _ _ t1) sd.l (by intro z; cases z))⟩⟩
      · exact ⟨rfl, .inl (.bl _)⟩
      · exact ⟨rfl, .inl (.bl _)⟩
    clear B pn H
    rintro σ H ⟨od, ⟨v1, v4, v5, v6, v7, v8, v9, v10, v11, v12, v17, rfl⟩, B, pn, wo, ho⟩
    replace ho : Od H od := by
      rcases ho with h | ⟨tp, rfl, e⟩
      · exact .fl h
      · exact .tp e
    replace B : LO SH.C Pt st lg cl (400 * j + 372) wd lo hi sa fo fa dx pa nss od H := ⟨B, pn, ho⟩
    clear pn ho
    -- BadNumber
    refine ⟨fun σ' H' => (∃ v1 v4 v5 v6 v7 v8 v9 v10 v11 v12 v17, σ' = [some (.ref a), v1, some (.ref sa), some (.ref fo), v4, v5, v6, v7, v8, v9, v10, v11, v12, some (.ref fa), some od, some (.ref pa), some (.ref st), v17]) ∧ LO SH.C Pt st lg cl (400 * j + 372) wd lo hi sa fo fa dx pa nss od H', ?_, ?_⟩
    · refine caught_err (m' := 400 * j + 372) T T.BadNumber B.B.T B.B.S (fun H1 E1 Q1 e1 S1 k1 => ?_) (fun a1 H2 S2 T2 kp2 h2 _ _ => ?_)
      · obtain ⟨yb, py⟩ := (B.o.kpN B.B.S (.ext e1)).pl (K := K)
        exact ⟨_, rfl, _, rfl, rfl, .ref fa, od, yb, rfl, py, .inl ⟨_, _, lo, hi, ⟨fa, dx, rfl, e1 _ _ B.B.G (fun _ z => by cases z)⟩, q1, q2, q3, q4, fun _ => k1 H1 Kp.refl S1, fun i e g1 g2 => by (subst e; exact no_range g1 g2 wo)⟩⟩
      · exact .inr ⟨a1, T.BadNumber.C, _, _, true, rfl, h2, T.BadNumber.e, .own _, kit_self, _, rfl, iteF ⟨⟨_, _, _, _, _, _, _, _, _, _, _, rfl⟩, B.kpN S2 T2 kp2⟩⟩
    clear B H
    rintro σ H ⟨⟨v1, v4, v5, v6, v7, v8, v9, v10, v11, v12, v17, rfl⟩, B⟩
    -- two lambdas in a list
    refine ⟨fun σ' H' => (∃ v1 v4 v5 v6 v7 v8 v9 v10 v11 v12 v17, σ' = [some (.ref a), v1, some (.ref sa), some (.ref fo), v4, v5, v6, v7, v8, v9, v10, v11, v12, some (.ref fa), some od, some (.ref pa), some (.ref st), v17]) ∧ LO SH.C Pt st lg cl (400 * j + 372) wd lo hi sa fo fa dx pa nss od H', ?_, ?_⟩
    · refine ⟨B.B.T, fun Ha ea Ta f1 c1 hf1 hc1 => ⟨Ta.ext (Same.new hf1), fun Hb eb Tb2 f2 c2 hf2 hc2 => ⟨(by show 2 ≤ sizeLine; decide), fun p hp => ?_⟩⟩⟩
      obtain ⟨Ba, l1⟩ := lam_step (L1 := LamO (envOfC "law" (defScope s_law) s0.heap.objs.size T.law.a (.ref c)) (lamP e10) (lamB e10) (lamSc e10) f1 c1) B ea Ta hf1 hc1
      obtain ⟨Bb, l2⟩ := lam_step (L1 := LamO (envOfC "law" (defScope s_law) s0.heap.objs.size T.law.a (.ref c)) (lamP e11) (lamB e11) (lamSc e11) f2 c2) Ba eb Tb2 hf2 hc2
      have l1 := (l1.ext lamO_tbl eb).same (Same.new (o := LamO (envOfC "law" (defScope s_law) s0.heap.objs.size T.law.a (.ref c)) (lamP e11) (lamB e11) (lamSc e11) f2 c2) hf2)
      have B := Bb.same (Same.new (o := .lst [V.ref f1, V.ref f2]) hp)
      have l1 := l1.same (Same.new (o := .lst [V.ref f1, V.ref f2]) hp)
      have l2 := l2.same (Same.new (o := .lst [V.ref f1, V.ref f2]) hp)
      refine ⟨p, rfl, ⟨_, SqL.of upd_same⟩, for_list (xs := [V.ref f1, V.ref f2]) (fun _ σ H' => (∃ v1 v4 v5 v6 v7 v8 v9 v10 v11 v12 v17, σ = [some (.ref a), v1, some (.ref sa), some (.ref fo), v4, v5, v6, v7, v8, v9, v10, v11, v12, some (.ref fa), some od, some (.ref pa), some (.ref st), v17]) ∧ LO SH.C Pt st lg cl (400 * j + 372) wd lo hi sa fo fa dx pa nss od H' ∧ Lm H' f1 c1 (LamO (envOfC "law" (defScope s_law) s0.heap.objs.size T.law.a (.ref c)) (lamP e10) (lamB e10) (lamSc e10) f1 c1) lamQ ∧ Lm H' f2 c2 (LamO (envOfC "law" (defScope s_law) s0.heap.objs.size T.law.a (.ref c)) (lamP e11) (lamB e11) (lamSc e11) f2 c2) lamQ ∧ H' p = some (.lst [V.ref f1, V.ref f2])) ⟨⟨_, _, _, _, _, _, _, _, _, _, _, rfl⟩, B, l1, l2, upd_same⟩ (fun i σ H' _ h => SqL.of h.2.2.2.2) ?_ fun σ' H' ⟨e, B, _⟩ => ⟨e, B⟩⟩
      rintro i x σ H' hx ⟨⟨v1, v4, v5, v6, v7, v8, v9, v10, v11, v12, v17, rfl⟩, B, l1, l2, hl⟩
      have hx2 : x = V.ref f1 ∨ x = V.ref f2 := by
        have := List.mem_of_getElem? hx
        simpa only [List.mem_cons, List.not_mem_nil, or_false] using this
      obtain ⟨yb, py⟩ := B.o.pl (K := K)
      rcases hx2 with rfl | rfl
      · refine ⟨_, List.mem_cons_self, f1, c1, rfl, l1.f, l1.c, rfl, ⟨l1.f, l1.c⟩, fun Q1 hQ1 => ⟨_, rfl, _, rfl, od, .ref pa, _, rfl, B.p.th, .inr ⟨B.o.noS, fun d hd => ⟨exd_exm T.reel BE, fun a ha => ?_⟩⟩⟩⟩
        have e2 : (upd (upd H' d (.xd [("part", V.non)])) a (ExV (.ref BE.C) (some d) a)) d = some (.xd [("part", V.non)]) := (upd_ne (ne_of_none upd_same ha)).trans upd_same
        have sm := (Same.new (o := .xd [("part", V.non)]) hd).trans (Same.new (o := ExV (.ref BE.C) (some d) a) ha)
        refine ⟨_, rfl, .inr ⟨a, BE.C, d, _, _, _, true, rfl, upd_same, e2, BE.x, .own _, kit_self, _, rfl, ?_⟩⟩
        exact iteF ⟨_, rfl, a, d, _, rfl, upd_same, e2, rfl, _, rfl, iteF ⟨⟨_, _, _, _, _, _, _, _, _, _, _, rfl⟩, B.same sm, l1.same sm, l2.same sm, sm _ _ hl⟩⟩
      · refine ⟨_, List.mem_cons_of_mem _ List.mem_cons_self, f2, c2, rfl, l2.f, l2.c, rfl, ⟨l2.f, l2.c⟩, fun Q1 hQ1 => ⟨_, rfl, .non, od, yb, rfl, py, .inr ⟨.non, fun d hd => ⟨exd_exm T.reel BE, fun a ha => ?_⟩⟩⟩⟩
        have e2 : (upd (upd H' d (.xd [("part", V.non)])) a (ExV (.ref BE.C) (some d) a)) d = some (.xd [("part", V.non)]) := (upd_ne (ne_of_none upd_same ha)).trans upd_same
        have sm := (Same.new (o := .xd [("part", V.non)]) hd).trans (Same.new (o := ExV (.ref BE.C) (some d) a) ha)
        refine ⟨_, rfl, .inr ⟨a, BE.C, d, _, _, _, true, rfl, upd_same, e2, BE.x, .own _, kit_self, _, rfl, ?_⟩⟩
        exact iteF ⟨_, rfl, a, d, _, rfl, upd_same, e2, rfl, _, rfl, iteF ⟨⟨_, _, _, _, _, _, _, _, _, _, _, rfl⟩, B.same sm, l1.same sm, l2.same sm, sm _ _ hl⟩⟩
    clear B H
    rintro σ H ⟨⟨v1, v4, v5, v6, v7, v8, v9, v10, v11, v12, v17, rfl⟩, B⟩
    -- ten values
    refine ⟨fun σ' H' => ∃ (sm : Addr) (xs : List V), (∃ v1 v4 v5 v7 v8 v9 v10 v11 v12 v17, σ' = [some (.ref a), v1, some (.ref sa), some (.ref fo), v4, v5, some (.ref sm), v7, v8, v9, v10, v11, v12, some (.ref fa), some od, some (.ref pa), some (.ref st), v17]) ∧ LO SH.C Pt st lg cl (400 * j + 372) wd lo hi sa fo fa dx pa nss od H' ∧ sm ≠ lg ∧ H' sm = some (.lst xs) ∧ xs.length = 10 ∧ ∀ x ∈ xs, Wr st lg H' x, ?_, ?_⟩
    · have W : ∀ x ∈ [V.non], Wr st lg H x := fun x hx => by (rcases List.mem_singleton.mp hx with rfl; exact .non)
      refine ⟨(by show 0 ≤ sizeLine; decide), fun p1 hp1 => ?_⟩
      have sp1 := Same.new (o := .tup []) hp1
      have tp1 : (upd H p1 (.tup [])) p1 = some (.tup []) := upd_same
      have W := wr_same W B.B.S sp1
      have B := B.same sp1
      generalize upd H p1 (.tup []) = Hx0 at B W tp1  ⊢
      have W := wr_snoc W (.tup tp1 .nil (by simp) rfl)
      refine ⟨(by show 0 ≤ sizeLine; decide), fun p2 hp2 => ?_⟩
      have sp2 := Same.new (o := .tup []) hp2
      have tp2 : (upd Hx0 p2 (.tup [])) p2 = some (.tup []) := upd_same
      have W := wr_same W B.B.S sp2
      have B := B.same sp2
      generalize upd Hx0 p2 (.tup []) = Hx1 at B W tp2  ⊢
      refine ⟨(by show 1 ≤ sizeLine; decide), fun p3 hp3 => ?_⟩
      have sp3 := Same.new (o := .tup [V.ref p2]) hp3
      have tp3 : (upd Hx1 p3 (.tup [V.ref p2])) p3 = some (.tup [V.ref p2]) := upd_same
      have W := wr_same W B.B.S sp3
      have B := B.same sp3
      have tp2 := sp3 _ _ tp2
      generalize upd Hx1 p3 (.tup [V.ref p2]) = Hx2 at B W tp3 tp2 ⊢
      have W := wr_snoc W (.tup (xss := [[]]) tp3 (.cons tp2 fl_nil (by simp) .nil) (by simp) rfl)
      refine ⟨_, rfl, (by show 1 ≤ sizeLine; decide), fun p4 hp4 => ?_⟩
      have sp4 := Same.new (o := .lst [V.ref pa]) hp4
      have np4 := B.B.S.off hp4
      have tp4 : (upd Hx2 p4 (.lst [V.ref pa])) p4 = some (.lst [V.ref pa]) := upd_same
      have W := wr_same W B.B.S sp4
      have B := B.same sp4
      generalize upd Hx2 p4 (.lst [V.ref pa]) = Hx3 at B W tp4  ⊢
      have W := wr_snoc W (.lst tp4 np4.1 np4.2)
      refine ⟨(by show 1 ≤ sizeLine; decide), fun p5 hp5 => ?_⟩
      have sp5 := Same.new (o := .tup [V.int 512]) hp5
      have tp5 : (upd Hx3 p5 (.tup [V.int 512])) p5 = some (.tup [V.int 512]) := upd_same
      have W := wr_same W B.B.S sp5
      have B := B.same sp5
      generalize upd Hx3 p5 (.tup [V.int 512]) = Hx4 at B W tp5  ⊢
      refine ⟨(by show 1 ≤ sizeLine; decide), fun p6 hp6 => ?_⟩
      have sp6 := Same.new (o := .tup [V.ref p5]) hp6
      have tp6 : (upd Hx4 p6 (.tup [V.ref p5])) p6 = some (.tup [V.ref p5]) := upd_same
      have W := wr_same W B.B.S sp6
      have B := B.same sp6
      have tp5 := sp6 _ _ tp5
      generalize upd Hx4 p6 (.tup [V.ref p5]) = Hx5 at B W tp6 tp5 ⊢
      have W := wr_snoc W (.tup (xss := [[V.int 512]]) tp6 (.cons tp5 (fl_cons (.int _) fl_nil) (by simp) .nil) (by simp) (by decide +kernel))
      refine ⟨(by show 2 ≤ sizeLine; decide), fun p7 hp7 => ?_⟩
      have sp7 := Same.new (o := .tup [V.int 0, V.int 1]) hp7
      have tp7 : (upd Hx5 p7 (.tup [V.int 0, V.int 1])) p7 = some (.tup [V.int 0, V.int 1]) := upd_same
      have W := wr_same W B.B.S sp7
      have B := B.same sp7
      generalize upd Hx5 p7 (.tup [V.int 0, V.int 1]) = Hx6 at B W tp7  ⊢
      refine ⟨(by show 1 ≤ sizeLine; decide), fun p8 hp8 => ?_⟩
      have sp8 := Same.new (o := .tup [V.int 0]) hp8
      have tp8 : (upd Hx6 p8 (.tup [V.int 0])) p8 = some (.tup [V.int 0]) := upd_same
      have W := wr_same W B.B.S sp8
      have B := B.same sp8
      have tp7 := sp8 _ _ tp7
      generalize upd Hx6 p8 (.tup [V.int 0]) = Hx7 at B W tp8 tp7 ⊢
      refine ⟨(by show 2 ≤ sizeLine; decide), fun p9 hp9 => ?_⟩
      have sp9 := Same.new (o := .tup [V.ref p7, V.ref p8]) hp9
      have tp9 : (upd Hx7 p9 (.tup [V.ref p7, V.ref p8])) p9 = some (.tup [V.ref p7, V.ref p8]) := upd_same
      have W := wr_same W B.B.S sp9
      have B := B.same sp9
      have tp7 := sp9 _ _ tp7
      have tp8 := sp9 _ _ tp8
      generalize upd Hx7 p9 (.tup [V.ref p7, V.ref p8]) = Hx8 at B W tp9 tp7 tp8 ⊢
      have W := wr_snoc W (.tup (xss := [[V.int 0, V.int 1], [V.int 0]]) tp9 (.cons tp7 (fl_cons (.int _) (fl_cons (.int _) fl_nil)) (by simp) (.cons tp8 (fl_cons (.int _) fl_nil) (by simp) .nil)) (by simp) (by decide +kernel))
      refine ⟨(by show 1 ≤ sizeLine; decide), fun p10 hp10 => ?_⟩
      have sp10 := Same.new (o := .tup [V.bl true]) hp10
      have tp10 : (upd Hx8 p10 (.tup [V.bl true])) p10 = some (.tup [V.bl true]) := upd_same
      have W := wr_same W B.B.S sp10
      have B := B.same sp10
      generalize upd Hx8 p10 (.tup [V.bl true]) = Hx9 at B W tp10  ⊢
      refine ⟨(by show 1 ≤ sizeLine; decide), fun p11 hp11 => ?_⟩
      have sp11 := Same.new (o := .tup [V.ref p10]) hp11
      have tp11 : (upd Hx9 p11 (.tup [V.ref p10])) p11 = some (.tup [V.ref p10]) := upd_same
      have W := wr_same W B.B.S sp11
      have B := B.same sp11
      have tp10 := sp11 _ _ tp10
      generalize upd Hx9 p11 (.tup [V.ref p10]) = Hx10 at B W tp11 tp10 ⊢
      have W := wr_snoc W (.tup (xss := [[V.bl true]]) tp11 (.cons tp10 (fl_cons (.bl _) fl_nil) (by simp) .nil) (by simp) (by decide +kernel))
      refine ⟨(by show 1 ≤ sizeLine; decide), fun p12 hp12 => ?_⟩
      have sp12 := Same.new (o := .tup [V.int 0]) hp12
      have tp12 : (upd Hx10 p12 (.tup [V.int 0])) p12 = some (.tup [V.int 0]) := upd_same
      have W := wr_same W B.B.S sp12
      have B := B.same sp12
      generalize upd Hx10 p12 (.tup [V.int 0]) = Hx11 at B W tp12  ⊢
      refine rep_c17 ?_
      refine rep_read (k := 17) tp12 (by decide) (by decide) fun p13 Hx12 sp13 tp13 => ?_
      have W := wr_same W B.B.S sp13
      have B := B.same sp13
      refine ⟨(by show 1 ≤ sizeLine; decide), fun p14 hp14 => ?_⟩
      have sp14 := Same.new (o := .tup [V.ref p13]) hp14
      have tp14 : (upd Hx12 p14 (.tup [V.ref p13])) p14 = some (.tup [V.ref p13]) := upd_same
      have W := wr_same W B.B.S sp14
      have B := B.same sp14
      have tp13 := sp14 _ _ tp13
      generalize upd Hx12 p14 (.tup [V.ref p13]) = Hx13 at B W tp14 tp13 ⊢
      have W := wr_snoc W (.tup (xss := [List.replicate 17 (V.int 0)]) tp14 (.cons tp13 (fun x hx => by (rw [List.eq_of_mem_replicate hx]; exact .int _)) (by simp) .nil) (by simp) (by decide +kernel))
      refine ⟨(by show 1 ≤ sizeLine; decide), fun p15 hp15 => ?_⟩
      have sp15 := Same.new (o := .tup [V.int 0]) hp15
      have tp15 : (upd Hx13 p15 (.tup [V.int 0])) p15 = some (.tup [V.int 0]) := upd_same
      have W := wr_same W B.B.S sp15
      have B := B.same sp15
      generalize upd Hx13 p15 (.tup [V.int 0]) = Hx14 at B W tp15  ⊢
      refine ⟨(by show 1 ≤ sizeLine; decide), fun p16 hp16 => ?_⟩
      have sp16 := Same.new (o := .tup [V.ref p15]) hp16
      have tp16 : (upd Hx14 p16 (.tup [V.ref p15])) p16 = some (.tup [V.ref p15]) := upd_same
      have W := wr_same W B.B.S sp16
      have B := B.same sp16
      have tp15 := sp16 _ _ tp15
      generalize upd Hx14 p16 (.tup [V.ref p15]) = Hx15 at B W tp16 tp15 ⊢
      refine rep_c17 ?_
      refine rep_read (k := 17) tp16 (by decide) (by decide) fun p17 Hx16 sp17 tp17 => ?_
      have W := wr_same W B.B.S sp17
      have B := B.same sp17
      have tp15 := sp17 _ _ tp15
      have W := wr_snoc W (.tup (xss := List.replicate 17 [V.int 0]) tp17 (RR.rep tp15 (fl_cons (.int _) fl_nil) (by simp) 17) (by simp) (by decide +kernel))
      refine ⟨_, rfl, (by show 1 ≤ sizeLine; decide), fun p18 hp18 => ?_⟩
      have sp18 := Same.new (o := .tup [V.int (-513)]) hp18
      have tp18 : (upd Hx16 p18 (.tup [V.int (-513)])) p18 = some (.tup [V.int (-513)]) := upd_same
      have W := wr_same W B.B.S sp18
      have B := B.same sp18
      generalize upd Hx16 p18 (.tup [V.int (-513)]) = Hx17 at B W tp18  ⊢
      refine ⟨(by show 1 ≤ sizeLine; decide), fun p19 hp19 => ?_⟩
      have sp19 := Same.new (o := .tup [V.ref p18]) hp19
      have tp19 : (upd Hx17 p19 (.tup [V.ref p18])) p19 = some (.tup [V.ref p18]) := upd_same
      have W := wr_same W B.B.S sp19
      have B := B.same sp19
      have tp18 := sp19 _ _ tp18
      generalize upd Hx17 p19 (.tup [V.ref p18]) = Hx18 at B W tp19 tp18 ⊢
      have W := wr_snoc W (.tup (xss := [[V.int (-513)]]) tp19 (.cons tp18 (fl_cons (.int _) fl_nil) (by simp) .nil) (by simp) (by decide +kernel))
      refine ⟨(by show 10 ≤ sizeLine; decide), fun sm hsm => ⟨sm, [V.non, V.ref p1, V.ref p3, V.ref p4, V.ref p6, V.ref p9, V.ref p11, V.ref p14, V.ref p17, V.ref p19], ⟨_, _, _, _, _, _, _, _, _, _, rfl⟩, B.same (Same.new hsm), (B.B.S.off hsm).2, upd_same, rfl, wr_same W B.B.S (Same.new hsm)⟩⟩
    clear B H
    rintro σ H ⟨sm, xs, ⟨v1, v4, v5, v7, v8, v9, v10, v11, v12, v17, rfl⟩, B, nsm, hsm, l10, hwr⟩
    -- wrong
    refine ⟨fun σ' H' => ∃ wr : V, (∃ v1 v4 v5 v6 v7 v8 v9 v10 v11 v12, σ' = [some (.ref a), v1, some (.ref sa), some (.ref fo), v4, v5, v6, v7, v8, v9, v10, v11, v12, some (.ref fa), some od, some (.ref pa), some (.ref st), some wr]) ∧ LO SH.C Pt st lg cl (400 * j + 373) wd lo hi sa fo fa dx pa nss od H' ∧ Wr st lg H' wr, ?_, ?_⟩
    · exact ⟨_, rfl, _, rfl, st, lg, cl, sm, _, 400 * j + 372, rfl, hsm, nsm, by omega, by omega, by omega, B.B.S, fun x H' hx S' kp' => ⟨x, ⟨_, _, _, _, _, _, _, _, _, _, rfl⟩, B.kp S' kp', (hwr x hx).kpN B.B.S (.kp kp')⟩⟩
    clear B H hsm hwr
    rintro σ H ⟨wr, ⟨v1, v4, v5, v6, v7, v8, v9, v10, v11, v12, rfl⟩, B, hw⟩
    -- BadPlane
    refine ⟨fun σ' H' => (∃ v1 v4 v5 v6 v7 v8 v9 v10 v11 v12, σ' = [some (.ref a), v1, some (.ref sa), some (.ref fo), v4, v5, v6, v7, v8, v9, v10, v11, v12, some (.ref fa), some od, some (.ref pa), some (.ref st), some wr]) ∧ LO SH.C Pt st lg cl (400 * j + 373) wd lo hi sa fo fa dx pa nss od H', ?_, ?_⟩
    · refine caught_err (m' := 400 * j + 373) T T.BadPlane B.B.T B.B.S (fun H1 E1 Q1 e1 S1 k1 => ?_) (fun a1 H2 S2 T2 kp2 h2 _ _ => ?_)
      · obtain ⟨o, th, g⟩ := (hw.kpN B.B.S (.ext e1)).th (K := K)
        exact ⟨_, rfl, wr, .str "up", o, rfl, .str _, th, fun _ H' s' => k1 H' (.same s') (S1.same s'), fun a' nss' w' e p bt => by
          subst e
          have z := p.turned bt
          rw [← th.det p.th, g] at z
          cases z⟩
      · exact .inr ⟨a1, T.BadPlane.C, _, _, true, rfl, h2, T.BadPlane.e, .own _, kit_self, _, rfl, iteF ⟨⟨_, _, _, _, _, _, _, _, _, _, rfl⟩, B.kpN S2 T2 kp2⟩⟩
    clear B hw H
    rintro σ H ⟨⟨v1, v4, v5, v6, v7, v8, v9, v10, v11, v12, rfl⟩, B⟩
    -- BadWay
    refine caught_err (m' := 400 * j + 374) T T.BadWay B.B.T B.B.S (fun H1 E1 Q1 e1 S1 k1 => ?_) (fun a1 H2 S2 T2 kp2 h2 _ _ => ?_)
    · have p1 := B.p.kpN B.B.S (.ext e1)
      refine ⟨_, rfl, _, rfl, (by show 5 ≤ sizeLine; decide), fun p hp => ⟨st, lg, cl, p, _, 400 * j + 373, rfl, upd_same, (S1.off hp).2, (by show 0 < 5; decide), (by show 5 ≤ 1000; decide), by omega, S1.same (Same.new hp), fun x H3 hx S3 kp3 => ?_⟩⟩
      have kp4 := (Kp.same (Same.new (o := .lst [V.str "up", V.non, V.int 0, V.str "", V.str "Corner"]) hp)).trans kp3
      have p3 := p1.kpN S1 (.kp kp4)
      have sc : Sc x ∧ x ≠ .str "sideways" ∧ x ≠ .str "upside" ∧ x ≠ .str "corner" := by
        simp only [List.mem_cons, List.not_mem_nil, or_false] at hx
        rcases hx with h | h | h | h | h <;> subst h
        · exact ⟨.str _, (by intro z; exact absurd (V.str.inj z) (by decide +kernel)), (by intro z; exact absurd (V.str.inj z) (by decide +kernel)), (by intro z; exact absurd (V.str.inj z) (by decide +kernel))⟩
        · exact ⟨.non, by simp, by simp, by simp⟩
        · exact ⟨.int _, by simp, by simp, by simp⟩
        · exact ⟨.str _, (by intro z; exact absurd (V.str.inj z) (by decide +kernel)), (by intro z; exact absurd (V.str.inj z) (by decide +kernel)), (by intro z; exact absurd (V.str.inj z) (by decide +kernel))⟩
        · exact ⟨.str _, (by intro z; exact absurd (V.str.inj z) (by decide +kernel)), (by intro z; exact absurd (V.str.inj z) (by decide +kernel)), (by intro z; exact absurd (V.str.inj z) (by decide +kernel))⟩
      obtain ⟨s1, s2, s3, s4⟩ := sc
      exact ⟨.ref pa, x, _, rfl, s1, p3.th, fun z => by (rw [p3.turnB smn] at z; cases z), fun a' nss' w' e p' bt => ⟨fun z => absurd z s2, fun z => absurd z s3, fun z => absurd z s4, fun _ _ _ H' s' => k1 H' (kp4.trans (.same s')) (S3.same s')⟩⟩
    · have B := B.kpN S2 T2 kp2
      exact .inr ⟨a1, T.BadWay.C, _, _, true, rfl, h2, T.BadWay.e, .own _, kit_self, _, rfl, iteF ⟨S2.mono (by omega), T2, _, _, _, _, _, _, _, _, _, _, _, _, _, _, _, _, rfl⟩⟩
end
end K03
namespace K03
open PySem PySem.Spec PyProof.Rows L2 PySem.W LamX KA KW KU KL KT
/-! ### what the head's heap says, put together -/
section
variable {K : PySem.W.Frag} {mg : Str → Option Value} {h : Heap}
theorem defT_of {x : Str} {st : Stmt} {f : Addr} {od an : Option Addr} {sl : Array (Option Value)} {oc kV dc pm cd ct : Value} (X : K.In h) (G : h.Ns mainGlobals mg)
    (a : PySem.W.nsIn K mainGlobals x = some (some (.ref f))) (l : K.lookup f = some ⟨oc, od, .func (PySem.W.fnOf x x (defArgs st) (defBody st) (defScope st) .none kV dc pm an cd ct), sl⟩) (c : PySem.W.codeIn K cd x = true) (k : PySem.W.keepIn K (.ref f) = true) :
    Nonempty (DefT K mg x st) := ⟨⟨f, _, fun_mk l c k, PySem.W.mg_of X G a⟩⟩
theorem lamT_of {x : Str} {st : Stmt} {f c Pt : Addr} {od an : Option Addr} {sl : Array (Option Value)} {oc kV dc pm ct : Value} (X : K.In h) (G : h.Ns mainGlobals mg) (T : DefT K mg x st)
    (a : PySem.W.nsIn K mainGlobals x = some (some (.ref f))) (l : K.lookup f = some ⟨oc, od, .func (PySem.W.fnOf x x (defArgs st) (defBody st) (defScope st) .none kV dc pm an (.ref c) ct), sl⟩) (cc : PySem.W.codeIn K (.ref c) x = true) :
    LamT K x st T.a T.d c Pt := by
  have e := (PySem.W.mg_of X G a).symm.trans T.m
  have e : f = T.a := Value.ref.inj (Option.some.inj e)
  obtain ⟨oc', od', kV', dc', pm', an', cd', ct', sl', ed, lk, hcd⟩ := T.f.ex
  rw [e] at l
  have e2 := l.symm.trans lk
  have e3 := congrArg Obj.data (Option.some.inj e2)
  have e4 := Data.func.inj e3
  exact ⟨oc, od, kV, dc, pm, an, ct, sl, e4.symm, by rw [← e4]; exact l, cc⟩
theorem reelT_of {C : Addr} (X : K.In h) (G : h.Ns mainGlobals mg) (a : PySem.W.nsIn K mainGlobals "ReelError" = some (some (.ref C))) (b : PySem.W.subIn K (.ref C) (.type "BaseException") = some true)
    (t : PySem.W.typeIn K (.ref C) = some (.type "type")) (d : PySem.W.hasDictIn K C = true) : ∃ R : ReelT K mg, R.C = C := ⟨⟨C, PySem.W.mg_of X G a, b, t, d⟩, rfl⟩
theorem excT_of {x : Str} {C R : Addr} (X : K.In h) (G : h.Ns mainGlobals mg) (a : PySem.W.nsIn K mainGlobals x = some (some (.ref C))) (q : PySem.W.excIn K C veB "ValueError.__new__" = true) (k : PySem.W.keepIn K (.ref C) = true)
    (b : PySem.W.subIn K (.ref C) (.type "BaseException") = some true) (t : PySem.W.typeIn K (.ref C) = some (.type "type")) (r : PySem.W.subIn K (.ref C) (.ref R) = some true)
    (e1 : PySem.W.findIn K (.ref C) "__getattribute__" = some (some (.builtin "BaseException.__getattribute__"))) (e2 : PySem.W.findIn K (.ref C) "__getattr__" = some none) (e3 : PySem.W.hasDictIn K C = true)
    (e4 : PySem.W.findIn K (.ref C) "__class__" = some (some (.builtin "object.__class__"))) (e5 : PySem.W.specialIn K (.builtin "object.__class__") "__get__" = some (some (.builtin "getset_descriptor.__get__")))
    (e6 : PySem.W.takesIn K (.builtin "object.__class__") = some true) (e7 : PySem.W.mroIn K C (.type "object") = some true) : Nonempty (ExcT K mg x R) :=
  ⟨⟨C, PySem.W.mg_of X G a, q, k, b, t, r, ⟨e1, e2, b, e3, e4, e5, e6, e7⟩⟩⟩
theorem cstT_of {x : Str} {n : Int} {t : Tok} (X : K.In h) (G : h.Ns mainGlobals mg) (a : PySem.W.nsIn K mainGlobals x = some (some (.int n t))) : CstT mg x n := ⟨t, PySem.W.mg_of X G a⟩
/-- the law, at the head's heap -/
theorem law_at {l : PySem.W.OpenLaw} {w : World} {fa c Pt : Addr} (T : Top K mg) (SH : ShapeT K mg) (SQ : ShapeQ K mg SH) (kB : PySem.W.kitOne K (.type "bool") (.ref SH.C) = some false) (BE : BadShapeT l.prog w K mg T.reel.C) (name : mg "law" = some (.ref fa)) (LT : LamT K "law" s_law T.law.a T.law.d c Pt)
    (ht : h.get? Pt = some { cls := .none, data := .fields #[] }) (hk : K.lookup Pt = none) (hc : PySem.W.CodeHd h c Pt) : LawAtG l w K (L2.CX l.prog w) 14 63 "script" mg fa h := by
  have e : fa = T.law.a := Value.ref.inj (Option.some.inj (name.symm.trans T.law.m))
  subst e
  have one : ∀ {A : Addr × Addr → Prop}, A (c, Pt) → ∀ p ∈ [(c, Pt)], A p := fun q p hp => by
    rw [List.mem_singleton.mp hp]
    exact q
  refine ⟨T.law.d, [(c, Pt)], spLaw K Pt, ⟨one ht, one hk, one hc⟩, fun s u => ?_, fun H a ns short t S => ?_, fun base _ _ tb => ok_law T SH SQ kB BE LT (tb (c, Pt) (List.mem_singleton.mpr rfl))⟩
  · obtain ⟨oc, od, kV, doc, pm, an, cdv, ct, osl, ed, lk, hcd⟩ := T.law.f.ex
    rw [ed]
    exact .of_eq rfl
  · refine ⟨a, ns, rfl, S, short, fun p hp => ?_, fun _ => rfl⟩
    rw [List.mem_singleton.mp hp]
    exact TabS.nil (t (c, Pt) (List.mem_singleton.mpr rfl))
theorem calm_cx {P : Program} {w : World} {H : Hp} {s : Shared} {e : Value} {s' : Shared} (z : L2.CX P w [] H s (fun _ _ _ => False) e s') : False := by
  obtain ⟨_, _, _, _, _, _, _, _, _, _, _, _, f⟩ := z
  exact f
end
end K03
namespace K03
open PySem PySem.Spec PyProof.Rows L2 PySem.W LamX KA KW KU KL KT
section
variable {K : PySem.W.Frag} {mg : Str → Option Value} {h : Heap} {A : Prop}
theorem reel_use {C : Addr} (X : K.In h) (G : h.Ns mainGlobals mg) (a : PySem.W.nsIn K mainGlobals "ReelError" = some (some (.ref C))) (b : PySem.W.subIn K (.ref C) (.type "BaseException") = some true)
    (t : PySem.W.typeIn K (.ref C) = some (.type "type")) (d : PySem.W.hasDictIn K C = true) (n : ∀ R : ReelT K mg, R.C = C → A) : A := by
  obtain ⟨R, e⟩ := reelT_of X G a b t d
  exact n R e
theorem exc_use {x : Str} {C B : Addr} (X : K.In h) (G : h.Ns mainGlobals mg) (R : ReelT K mg) (eR : R.C = B) (a : PySem.W.nsIn K mainGlobals x = some (some (.ref C))) (q : PySem.W.excIn K C veB "ValueError.__new__" = true) (k : PySem.W.keepIn K (.ref C) = true)
    (b : PySem.W.subIn K (.ref C) (.type "BaseException") = some true) (t : PySem.W.typeIn K (.ref C) = some (.type "type")) (r : PySem.W.subIn K (.ref C) (.ref B) = some true)
    (e1 : PySem.W.findIn K (.ref C) "__getattribute__" = some (some (.builtin "BaseException.__getattribute__"))) (e2 : PySem.W.findIn K (.ref C) "__getattr__" = some none) (e3 : PySem.W.hasDictIn K C = true)
    (e4 : PySem.W.findIn K (.ref C) "__class__" = some (some (.builtin "object.__class__"))) (e5 : PySem.W.specialIn K (.builtin "object.__class__") "__get__" = some (some (.builtin "getset_descriptor.__get__")))
    (e6 : PySem.W.takesIn K (.builtin "object.__class__") = some true) (e7 : PySem.W.mroIn K C (.type "object") = some true) (n : ExcT K mg x R.C → A) : A := by
  rw [← eR] at r
  obtain ⟨D⟩ := excT_of X G a q k b t r e1 e2 e3 e4 e5 e6 e7
  exact n D
theorem def_use {x : Str} {st : Stmt} {f : Addr} {od an : Option Addr} {sl : Array (Option Value)} {oc kV dc pm cd ct : Value} (X : K.In h) (G : h.Ns mainGlobals mg)
    (a : PySem.W.nsIn K mainGlobals x = some (some (.ref f))) (l : K.lookup f = some ⟨oc, od, .func (PySem.W.fnOf x x (defArgs st) (defBody st) (defScope st) .none kV dc pm an cd ct), sl⟩) (c : PySem.W.codeIn K cd x = true) (k : PySem.W.keepIn K (.ref f) = true)
    (n : DefT K mg x st → A) : A := by
  obtain ⟨D⟩ := defT_of X G a l c k
  exact n D
theorem lam_use {x : Str} {st : Stmt} {f c Pt : Addr} {od an : Option Addr} {sl : Array (Option Value)} {oc kV dc pm ct : Value} (X : K.In h) (G : h.Ns mainGlobals mg) (T : DefT K mg x st) (t : h.get? Pt = some { cls := .none, data := .fields #[] })
    (a : PySem.W.nsIn K mainGlobals x = some (some (.ref f))) (l : K.lookup f = some ⟨oc, od, .func (PySem.W.fnOf x x (defArgs st) (defBody st) (defScope st) .none kV dc pm an (.ref c) ct), sl⟩) (cc : PySem.W.codeIn K (.ref c) x = true)
    (hk : K.lookup Pt = none) (hc : PySem.W.codeHdIn K c Pt = true) (n : LamT K x st T.a T.d c Pt → K.lookup Pt = none → PySem.W.CodeHd h c Pt → A) : A := n (lamT_of X G T a l cc) hk (PySem.W.codeHd_of_K X hc)
end
end K03
namespace K03
open PySem PySem.Spec PyProof.Rows L2 PySem.W LamX KA KW KU
open PySem.HandSPX (refsVE)
theorem say_none {P : Program} {w : World} {fI cda cc : Addr} {qual f z : Str} {j : Nat} {pc pn pf pj : Pos} (hd : f ≠ "__debug__") (h1 : z.length ≤ sizeLine) (h2 : (z ++ ("None" : Str)).length ≤ sizeLine) :
    Text P w fI cda cc qual f (.JoinedStr [.Constant (.str z) j pc, .FormattedValue (.Name f pn) (-1) none pf] pj) .none :=
  text_of hd (fun _ _ _ _ k => wpAny_formatField_none (k _ _)) h1 h2
theorem say_text {P : Program} {w : World} {fI cda cc : Addr} {qual f z y : Str} {j : Nat} {pc pn pf pj : Pos} {t : Tok} (hd : f ≠ "__debug__") (h1 : z.length ≤ 1000) (h3 : y.length ≤ 1000) :
    Text P w fI cda cc qual f (.JoinedStr [.Constant (.str z) j pc, .FormattedValue (.Name f pn) (-1) none pf] pj) (.str y t) := by
  have e : (z ++ y).length = z.length + y.length := Array.size_append
  exact text_str hd (Nat.le_trans h1 (by decide)) (by rw [e]; exact Nat.le_trans (show _ ≤ 2000 by omega) (by decide)) (Nat.le_trans h3 (by decide))
theorem kit_false {K : PySem.W.Frag} {C : Addr} {t : String} {cd : ClassData} (c : PySem.W.clsIn K C = some cd) (ty : PySem.W.typeIn K (.ref C) = some (.type "type")) (s : PySem.W.subIn K (.type t) (.ref C) = some false) : PySem.W.kitOne K (.type t) (.ref C) = some false := by
  unfold PySem.W.kitOne
  rw [if_neg (by simp)]
  unfold PySem.W.kitCls
  dsimp only
  rw [c, ty, if_pos (by simp)]
  exact s
section
variable {P : Program} {w : World} {K : PySem.W.Frag} {mg : Str → Option Value} {h : Heap} {A : Prop}
theorem badshape_use {C fI cda cc B : Addr} {e : Expr} (X : K.In h) (G : h.Ns mainGlobals mg) (R : ReelT K mg) (eR : R.C = B)
    (a : PySem.W.nsIn K mainGlobals "BadShape" = some (some (.ref C))) (iC : PySem.W.findIn K (.ref C) "__init__" = some (some (.ref fI)))
    {oc : Value} {od : Option Addr} {doc pm : Value} {an : Option Addr} {ct : Value} {osl : Array (Option Value)} {r1 r2 p0 p1 p2 p3 pe q1 q2 q3 q4 : Pos}
    (lk : K.lookup fI = some ⟨oc, od, .func (ksFn "__init__" "BadShape.__init__" (upArgs "part" r1 r2) (upBody "part" e p0 p1 p2 p3 pe q1 q2 q3 q4) (upScope "part") .none .none doc pm an (.ref cda) ct cc), osl⟩)
    (bd : ∀ a b : Value, bindArgs (ksFn "__init__" "BadShape.__init__" (upArgs "part" r1 r2) (upBody "part" e p0 p1 p2 p3 pe q1 q2 q3 q4) (upScope "part") .none .none doc pm an (.ref cda) ct cc) ⟨[a, b], []⟩ = pure [(PySem.Str.ofString "self", a), (PySem.Str.ofString "part", b)])
    (sw : ∀ L : Addr, swapsWith (.Name "part" q3) (some (.Attribute (.Name "self" q1) "part" q2)) q4.line (ksEnv "BadShape.__init__" (upScope "part") L fI (.ref cda) cc) = pure false)
    {pl : Sem Bool}
    (cl : ∀ L : Addr, eval (.Call (.Attribute (.Call (.Name "super" p0) [] [] p1) "__init__" p2) [e] [] p3) (ksEnv "BadShape.__init__" (upScope "part") L fI (.ref cda) cc) = (do
        let o ← attributeBase (.Call (.Name "super" p0) [] [] p1) "__init__" (ksEnv "BadShape.__init__" (upScope "part") L fI (.ref cda) cc) (eval (.Call (.Name "super" p0) [] [] p1) (ksEnv "BadShape.__init__" (upScope "part") L fI (.ref cda) cc))
        standAt p2.atName
        let (g, first) ← holding [o] (getMethod o "__init__" pl)
        callWith p3 g first (backTo p3 (starEach [e] (ksEnv "BadShape.__init__" (upScope "part") L fI (.ref cda) cc))) []))
    (star : ∀ env : Env, starEach [e] env = [(false, eval e env)])
    (sayN : Text P w fI cda cc "BadShape.__init__" "part" e .none)
    (sayS : ∀ (y : Str) (t : Tok), y.length ≤ 1000 → Text P w fI cda cc "BadShape.__init__" "part" e (.str y t))
    (code : PySem.W.codeIn K (.ref cda) "BadShape.__init__" = true)
    {fcl : Value} {cdd : Option Addr} {vs : Array Value} {ccs : Array (Option Value)} {fl : Str} {tf : Tok}
    (f1 : K.lookup cda = some ⟨fcl, cdd, .fields vs, ccs⟩) (f2 : vs[2]? = some (.str fl tf)) (f3 : ((P.main.file : Str) == fl) = true)
    {ecl : Value} {cld : Option Addr} {csl : Array (Option Value)} (cell : K.lookup cc = some ⟨ecl, cld, .cell (some (.ref C)), csl⟩)
    {cd : ClassData} (c1 : PySem.W.clsIn K C = some cd) (c2 : refsVE cd.mro = true) (c3 : cd.hasDict = true)
    (self : PySem.W.mroIn K C (.ref C) = some true) (noSuper : PySem.W.nsIn K mainGlobals "super" = some none) (top : (P.main.scope.names.lookup ("super" : Str)).isSome = false) (third : PySem.W.nsIn K cStatics "thirdparty.any" = some none)
    (up : PySem.W.ks_superIn K C C "__init__" = some (some (.builtin "ValueError.__init__"))) (val : PySem.W.subIn K (.ref C) (.type "ValueError") = some true)
    (own : PySem.W.excInitIn K C [.type "ValueError", .type "Exception", .type "BaseException", .type "object"] "ValueError.__new__" = true)
    (set_ : PySem.W.findIn K (.ref C) "__setattr__" = some (some (.builtin "object.__setattr__"))) (noF : PySem.W.findIn K (.ref C) "part" = some none)
    {nm q : Str} {N : Addr} {bs bm : List Value} {sn : List Str} {sub : List Value} {ab : Bool} {col : Option Bool} {dd : Option Addr} {k0 k1 k2 k3 k5 : Option Value}
    (o1 : K.lookup C = some (excClassObj nm q C N bs bm true sn sub ab col dd k0 k1 k2 k3 k5 "ValueError.__new__")) (o2 : refsVE bm = true)
    (tC : PySem.W.typeIn K (.ref fI) = some (.type "function")) (ga : PySem.W.findIn K (.ref C) "__getattribute__" = some (some (.builtin "BaseException.__getattribute__"))) (gg : PySem.W.findIn K (.ref C) "__getattr__" = some none)
    (kC : PySem.W.keepIn K (.ref C) = true) (exC : PySem.W.subIn K (.ref C) (.type "BaseException") = some true) (tyC : PySem.W.typeIn K (.ref C) = some (.type "type")) (hdC : PySem.W.hasDictIn K C = true)
    (r : PySem.W.subIn K (.ref C) (.ref B) = some true)
    (e4 : PySem.W.findIn K (.ref C) "__class__" = some (some (.builtin "object.__class__"))) (e5 : PySem.W.specialIn K (.builtin "object.__class__") "__get__" = some (some (.builtin "getset_descriptor.__get__")))
    (e6 : PySem.W.takesIn K (.builtin "object.__class__") = some true) (e7 : PySem.W.mroIn K C (.type "object") = some true)
    (n : BadShapeT P w K mg R.C → A) : A := by
  rw [← eR] at r
  exact n { C := C, fI := fI, cda := cda, cc := cc, e := e, g := PySem.W.mg_of X G a, u := { fn := ⟨oc, od, doc, pm, an, ct, osl, r1, r2, p0, p1, p2, p3, pe, q1, q2, q3, q4, lk, bd, sw, pl, cl⟩, star := star, code := code, file := ⟨fcl, cdd, vs, ccs, fl, tf, f1, f2, f3⟩, cell := ⟨ecl, cld, csl, cell⟩, cls := ⟨cd, c1, c2, c3⟩, self := self, noSuper := noSuper, top := top, third := third, up := up, val := val, own := own, «set» := set_, noF := noF, obj := ⟨nm, q, N, bs, bm, sn, sub, ab, col, dd, k0, k1, k2, k3, k5, o1, o2⟩, iC := iC, tC := tC, ga := ga, gg := gg, kC := kC, exC := exC, tyC := tyC, hdC := hdC, nf := by decide }, r := r, x := ⟨ga, gg, exC, hdC, e4, e5, e6, e7⟩, sayN := sayN, sayS := sayS }
theorem shape_use {C f : Addr} (X : K.In h) (G : h.Ns mainGlobals mg) {oc : Value} {od : Option Addr} {kV dc pm : Value} {an : Option Addr} {cd ct : Value} {sl : Array (Option Value)}
    (a : PySem.W.nsIn K mainGlobals "Shape" = some (some (.ref C))) (init : PySem.W.findIn K (.ref C) "__init__" = some (some (.ref f)))
    (l : K.lookup f = some ⟨oc, od, .func (PySem.W.fnOf "__init__" "Shape.__init__" (defArgs s_Shape_init) (defBody s_Shape_init) (defScope s_Shape_init) .none kV dc pm an cd ct), sl⟩) (c : PySem.W.codeIn K cd "Shape.__init__" = true) (k : PySem.W.keepIn K (.ref f) = true)
    (makes : PySem.W.makesIn K C = true) (fn : PySem.W.isFn K (.ref f) = true) (kp : PySem.W.keepIn K (.ref C) = true) (pg : PySem.W.plainGet K C Str.empty = true) (hd : PySem.W.hasDictIn K C = true) (po : PySem.W.plainOver K C = true)
    (sa : PySem.W.findIn K (.ref C) "__setattr__" = some (some (.builtin "object.__setattr__"))) (ha : PySem.W.findIn K (.ref C) "__class__" = some (some (.builtin "object.__class__")))
    (hn : PySem.W.specialIn K (.builtin "object.__class__") "__get__" = some (some (.builtin "getset_descriptor.__get__"))) (htk : PySem.W.takesIn K (.builtin "object.__class__") = some true) (hm : PySem.W.mroIn K C (.type "object") = some true)
    (n1 : PySem.W.findIn K (.ref C) "height" = some none) (n2 : PySem.W.findIn K (.ref C) "width" = some none) (n3 : PySem.W.findIn K (.ref C) "low" = some none) (n4 : PySem.W.findIn K (.ref C) "high" = some none) (n5 : PySem.W.findIn K (.ref C) "middle" = some none)
    {cld : ClassData} (cl : PySem.W.clsIn K C = some cld) (ty : PySem.W.typeIn K (.ref C) = some (.type "type")) (sI : PySem.W.subIn K (.type "int") (.ref C) = some false) (sS : PySem.W.subIn K (.type "str") (.ref C) = some false) (sN : PySem.W.subIn K (.type "NoneType") (.ref C) = some false)
    {fe : Addr} {oc2 : Value} {od2 : Option Addr} {kV2 dc2 pm2 : Value} {an2 : Option Addr} {cd2 ct2 : Value} {sl2 : Array (Option Value)} (eq : PySem.W.findIn K (.ref C) "__eq__" = some (some (.ref fe)))
    (l2 : K.lookup fe = some ⟨oc2, od2, .func (PySem.W.fnOf "__eq__" "Shape.__eq__" (defArgs s_Shape_eq) (defBody s_Shape_eq) (defScope s_Shape_eq) .none kV2 dc2 pm2 an2 cd2 ct2), sl2⟩) (c2 : PySem.W.codeIn K cd2 "Shape.__eq__" = true) (k2 : PySem.W.keepIn K (.ref fe) = true)
    (fn2 : PySem.W.isFn K (.ref fe) = true) (ne : PySem.W.findIn K (.ref C) "__ne__" = some (some (.builtin "object.__ne__"))) (sT : PySem.W.subIn K (.type "tuple") (.ref C) = some false) (sB : PySem.W.subIn K (.type "bool") (.ref C) = some false)
    (n : (SH : ShapeT K mg) → ShapeQ K mg SH → PySem.W.kitOne K (.type "bool") (.ref SH.C) = some false → A) : A :=
  n { C := C, f := f, d := _, F := fun_mk l c k, M := ⟨makes, init, fn, kp⟩, g := PySem.W.mg_of X G a, i := ⟨⟨pg, hd, po, sa⟩, ha, hn, htk, hm, kit_self⟩, n1 := n1, n2 := n2, n3 := n3, n4 := n4, n5 := n5, kI := kit_false cl ty sI, kS := kit_false cl ty sS, kN := kit_false cl ty sN } { f := fe, d := _, F := fun_mk l2 c2 k2, s := eq, i := fn2, n := ne, o := hm, kT := kit_false cl ty sT, sT := sT, sN := sN } (kit_false cl ty sB)
end
end K03
open PySem PySem.W PyProof.Rows
set_option maxRecDepth 100000 in
set_option maxHeartbeats 0 in
theorem PySem.Challenge.cw_pricedreels_k03_shapes_planes_and_turnin_holds : PySem.Challenge.rw_pricedreels_k03_shapes_planes_and_turnin.Holds := by
  w_on; o_law; k_head; (case hw => w_witness2)
  k_fill
  refine KA.walk_ofG (l := PySem.Challenge.rw_pricedreels_k03_shapes_planes_and_turnin) (k := 14) (n := 63) (x := "script") (CX := fun w => L2.CX PySem.Challenge.rw_pricedreels_k03_shapes_planes_and_turnin.prog w) rfl (by decide) rfl ⟨rfl, by decide, by decide⟩ (fun w h Y => km_in_of Y) ?F (fun _ _ _ _ _ z => K03.calm_cx z)
  case F =>
    intro w mg fa h Y KX G hmg
    have tabs := km_tabs_of Y
    have one := tabs _ List.mem_cons_self
    refine' K03.reel_use KX G ?ya ?yb ?yt ?yd ?_
    (case ya => k_is); (case yb => k_is); (case yt => k_is); (case yd => k_is)
    intro R eR
    refine' K03.badshape_use (P := (PySem.Challenge.rw_pricedreels_k03_shapes_planes_and_turnin).prog) (w := w) KX G R eR ?ya ?yiC ?ylk ?ybd ?ysw ?ycl ?ystar ?ysayN ?ysayS ?ycode ?yf1 ?yf2 ?yf3 ?ycell ?yc1 ?yc2 ?yc3 ?yself ?ynoS ?ytop ?ythird ?yup ?yval ?yown ?yset ?ynoF ?yo1 ?yo2 ?ytC ?yga ?ygg ?ykC ?yexC ?ytyC ?yhdC ?yr ?ye4 ?ye5 ?ye6 ?ye7 ?_
    (case ya => k_is); (case yiC => k_is); (case ylk => k_is)
    (case ybd => intro a b; rfl)
    (case ysw => intro L; rfl)
    (case ycl => intro L; rfl)
    (case ystar => intro env; rfl)
    (case ysayN => exact K03.say_none (by decide) (by decide) (by decide))
    (case ysayS => intro y t hy; exact K03.say_text (by decide) (by decide) hy)
    (case ycode => k_is)
    (case yf1 => k_is); (case yf2 => rfl); (case yf3 => decide +kernel)
    (case ycell => k_is); (case yc1 => k_is); (case yc2 => decide +kernel); (case yc3 => rfl)
    (case yself => k_is); (case ynoS => k_is); (case ytop => kernel_rfl); (case ythird => k_is)
    (case yup => ks_is); (case yval => k_is); (case yown => kx_is); (case yset => k_is); (case ynoF => k_is)
    (case yo1 => k_is); (case yo2 => decide +kernel)
    (case ytC => k_is); (case yga => k_is); (case ygg => k_is); (case ykC => k_is); (case yexC => k_is); (case ytyC => k_is); (case yhdC => k_is); (case yr => k_is); (case ye4 => k_is); (case ye5 => k_is); (case ye6 => k_is); (case ye7 => k_is)
    intro BE
    refine' K03.shape_use KX G ?ya ?yin ?yl ?yc ?yk ?ymk ?yfn ?ykp ?ypg ?yhd ?ypo ?ysa ?yha ?yhn ?yht ?yhm ?yn1 ?yn2 ?yn3 ?yn4 ?yn5 ?ycl ?yty ?ysI ?ysS ?ysN ?yeq ?yl2 ?yc2 ?yk2 ?yfn2 ?yne ?ysT ?ysB ?_
    (case ya => k_is); (case yin => k_is); (case yl => k_is)
    (case yc => k_is); (case yk => k_is); (case ymk => k_is); (case yfn => k_is); (case ykp => k_is); (case ypg => k_is); (case yhd => k_is); (case ypo => k_is); (case ysa => k_is); (case yha => k_is); (case yhn => k_is); (case yht => k_is); (case yhm => k_is); (case yn1 => k_is); (case yn2 => k_is); (case yn3 => k_is); (case yn4 => k_is); (case yn5 => k_is); (case ycl => k_is); (case yty => k_is); (case ysI => k_is); (case ysS => k_is); (case ysN => k_is); (case yeq => k_is); (case yl2 => k_is); (case yc2 => k_is); (case yk2 => k_is); (case yfn2 => k_is); (case yne => k_is); (case ysT => k_is); (case ysB => k_is)
    intro SH SQ kB
    refine' K03.exc_use (x := "BadNumber") KX G R eR ?ya ?yq ?yk ?yb ?yt ?yr ?ye1 ?ye2 ?ye3 ?ye4 ?ye5 ?ye6 ?ye7 ?_
    (case ya => k_is); (case yq => k_exc); (case yk => k_is); (case yb => k_is); (case yt => k_is); (case yr => k_is); (case ye1 => k_is); (case ye2 => k_is); (case ye3 => k_is); (case ye4 => k_is); (case ye5 => k_is); (case ye6 => k_is); (case ye7 => k_is)
    intro BadNumber
    refine' K03.exc_use (x := "BadPlane") KX G R eR ?ya ?yq ?yk ?yb ?yt ?yr ?ye1 ?ye2 ?ye3 ?ye4 ?ye5 ?ye6 ?ye7 ?_
    (case ya => k_is); (case yq => k_exc); (case yk => k_is); (case yb => k_is); (case yt => k_is); (case yr => k_is); (case ye1 => k_is); (case ye2 => k_is); (case ye3 => k_is); (case ye4 => k_is); (case ye5 => k_is); (case ye6 => k_is); (case ye7 => k_is)
    intro BadPlane
    refine' K03.exc_use (x := "BadWay") KX G R eR ?ya ?yq ?yk ?yb ?yt ?yr ?ye1 ?ye2 ?ye3 ?ye4 ?ye5 ?ye6 ?ye7 ?_
    (case ya => k_is); (case yq => k_exc); (case yk => k_is); (case yb => k_is); (case yt => k_is); (case yr => k_is); (case ye1 => k_is); (case ye2 => k_is); (case ye3 => k_is); (case ye4 => k_is); (case ye5 => k_is); (case ye6 => k_is); (case ye7 => k_is)
    intro BadWay
    refine' K03.def_use (x := "is_number") (st := K03.s_is_number) KX G ?ya ?yl ?yc ?yk ?_
    (case ya => k_is); (case yl => k_is); (case yc => k_is); (case yk => k_is)
    intro f_is_number
    refine' K03.def_use (x := "is_within") (st := K03.s_is_within) KX G ?ya ?yl ?yc ?yk ?_
    (case ya => k_is); (case yl => k_is); (case yc => k_is); (case yk => k_is)
    intro f_is_within
    refine' K03.def_use (x := "is_row") (st := K03.s_is_row) KX G ?ya ?yl ?yc ?yk ?_
    (case ya => k_is); (case yl => k_is); (case yc => k_is); (case yk => k_is)
    intro f_is_row
    refine' K03.def_use (x := "is_rows") (st := K03.s_is_rows) KX G ?ya ?yl ?yc ?yk ?_
    (case ya => k_is); (case yl => k_is); (case yc => k_is); (case yk => k_is)
    intro f_is_rows
    refine' K03.def_use (x := "are_between") (st := K03.s_are_between) KX G ?ya ?yl ?yc ?yk ?_
    (case ya => k_is); (case yl => k_is); (case yc => k_is); (case yk => k_is)
    intro f_are_between
    refine' K03.def_use (x := "is_plane") (st := K03.s_is_plane) KX G ?ya ?yl ?yc ?yk ?_
    (case ya => k_is); (case yl => k_is); (case yc => k_is); (case yk => k_is)
    intro f_is_plane
    refine' K03.def_use (x := "flat_plane") (st := K03.s_flat_plane) KX G ?ya ?yl ?yc ?yk ?_
    (case ya => k_is); (case yl => k_is); (case yc => k_is); (case yk => k_is)
    intro f_flat_plane
    refine' K03.def_use (x := "turned") (st := K03.s_turned) KX G ?ya ?yl ?yc ?yk ?_
    (case ya => k_is); (case yl => k_is); (case yc => k_is); (case yk => k_is)
    intro f_turned
    refine' K03.def_use (x := "check_shape") (st := K03.s_check_shape) KX G ?ya ?yl ?yc ?yk ?_
    (case ya => k_is); (case yl => k_is); (case yc => k_is); (case yk => k_is)
    intro f_check_shape
    refine' K03.def_use (x := "fits_shape") (st := K03.s_fits_shape) KX G ?ya ?yl ?yc ?yk ?_
    (case ya => k_is); (case yl => k_is); (case yc => k_is); (case yk => k_is)
    intro f_fits_shape
    refine' K03.def_use (x := "_law_begun") (st := K03.s__law_begun) KX G ?ya ?yl ?yc ?yk ?_
    (case ya => k_is); (case yl => k_is); (case yc => k_is); (case yk => k_is)
    intro f__law_begun
    refine' K03.def_use (x := "_law_draw") (st := K03.s__law_draw) KX G ?ya ?yl ?yc ?yk ?_
    (case ya => k_is); (case yl => k_is); (case yc => k_is); (case yk => k_is)
    intro f__law_draw
    refine' K03.def_use (x := "_law_pick") (st := K03.s__law_pick) KX G ?ya ?yl ?yc ?yk ?_
    (case ya => k_is); (case yl => k_is); (case yc => k_is); (case yk => k_is)
    intro f__law_pick
    refine' K03.def_use (x := "_law_caught") (st := K03.s__law_caught) KX G ?ya ?yl ?yc ?yk ?_
    (case ya => k_is); (case yl => k_is); (case yc => k_is); (case yk => k_is)
    intro f__law_caught
    refine' K03.def_use (x := "_law_is_whole") (st := K03.s__law_is_whole) KX G ?ya ?yl ?yc ?yk ?_
    (case ya => k_is); (case yl => k_is); (case yc => k_is); (case yk => k_is)
    intro f__law_is_whole
    refine' K03.def_use (x := "_law_scope") (st := K03.s__law_scope) KX G ?ya ?yl ?yc ?yk ?_
    (case ya => k_is); (case yl => k_is); (case yc => k_is); (case yk => k_is)
    intro f__law_scope
    refine' K03.def_use (x := "_law_within") (st := K03.s__law_within) KX G ?ya ?yl ?yc ?yk ?_
    (case ya => k_is); (case yl => k_is); (case yc => k_is); (case yk => k_is)
    intro f__law_within
    refine' K03.def_use (x := "_law_grain") (st := K03.s__law_grain) KX G ?ya ?yl ?yc ?yk ?_
    (case ya => k_is); (case yl => k_is); (case yc => k_is); (case yk => k_is)
    intro f__law_grain
    refine' K03.def_use (x := "_law_pane") (st := K03.s__law_pane) KX G ?ya ?yl ?yc ?yk ?_
    (case ya => k_is); (case yl => k_is); (case yc => k_is); (case yk => k_is)
    intro f__law_pane
    refine' K03.def_use (x := "_law_due") (st := K03.s__law_due) KX G ?ya ?yl ?yc ?yk ?_
    (case ya => k_is); (case yl => k_is); (case yc => k_is); (case yk => k_is)
    intro f__law_due
    refine' K03.def_use (x := "_law_is_pane") (st := K03.s__law_is_pane) KX G ?ya ?yl ?yc ?yk ?_
    (case ya => k_is); (case yl => k_is); (case yc => k_is); (case yk => k_is)
    intro f__law_is_pane
    refine' K03.def_use (x := "_law_bent") (st := K03.s__law_bent) KX G ?ya ?yl ?yc ?yk ?_
    (case ya => k_is); (case yl => k_is); (case yc => k_is); (case yk => k_is)
    intro f__law_bent
    refine' K03.def_use (x := "_law_turned_right") (st := K03.s__law_turned_right) KX G ?ya ?yl ?yc ?yk ?_
    (case ya => k_is); (case yl => k_is); (case yc => k_is); (case yk => k_is)
    intro f__law_turned_right
    refine' K03.def_use (x := "law") (st := K03.s_law) KX G ?ya ?yl ?yc ?yk ?_
    (case ya => k_is); (case yl => k_is); (case yc => k_is); (case yk => k_is)
    intro f_law
    refine' K03.lam_use KX G f_law one ?ya ?yl ?yc ?yh ?yj ?_
    (case ya => k_is); (case yl => k_is); (case yc => k_is); (case yh => kernel_rfl); (case yj => kernel_rfl)
    intro LT noT hd
    have cLOWEST := K03.cstT_of (x := "LOWEST") (n := -512) KX G (by k_is)
    have cHIGHEST := K03.cstT_of (x := "HIGHEST") (n := 511) KX G (by k_is)
    have cMOST_SPOTS := K03.cstT_of (x := "MOST_SPOTS") (n := 16) KX G (by k_is)
    have b_isinstance := PySem.W.mg_none_of (n := "isinstance") KX G (by k_is)
    have b_int := PySem.W.mg_none_of (n := "int") KX G (by k_is)
    have b_bool := PySem.W.mg_none_of (n := "bool") KX G (by k_is)
    have b_str := PySem.W.mg_none_of (n := "str") KX G (by k_is)
    have b_len := PySem.W.mg_none_of (n := "len") KX G (by k_is)
    have b_abs := PySem.W.mg_none_of (n := "abs") KX G (by k_is)
    have b_range := PySem.W.mg_none_of (n := "range") KX G (by k_is)
    have b_min := PySem.W.mg_none_of (n := "min") KX G (by k_is)
    have b_max := PySem.W.mg_none_of (n := "max") KX G (by k_is)
    have b_repr := PySem.W.mg_none_of (n := "repr") KX G (by k_is)
    have b_list := PySem.W.mg_none_of (n := "list") KX G (by k_is)
    have b_tuple := PySem.W.mg_none_of (n := "tuple") KX G (by k_is)
    have b_all := PySem.W.mg_none_of (n := "all") KX G (by k_is)
    have b_ValueError := PySem.W.mg_none_of (n := "ValueError") KX G (by k_is)
    exact K03.law_at (Pt := _) { reel := R, BadNumber := BadNumber, BadPlane := BadPlane, BadWay := BadWay, is_number := f_is_number, is_within := f_is_within, is_row := f_is_row, is_rows := f_is_rows, are_between := f_are_between, is_plane := f_is_plane, flat_plane := f_flat_plane, turned := f_turned, check_shape := f_check_shape, fits_shape := f_fits_shape, _law_begun := f__law_begun, _law_draw := f__law_draw, _law_pick := f__law_pick, _law_caught := f__law_caught, _law_is_whole := f__law_is_whole, _law_scope := f__law_scope, _law_within := f__law_within, _law_grain := f__law_grain, _law_pane := f__law_pane, _law_due := f__law_due, _law_is_pane := f__law_is_pane, _law_bent := f__law_bent, _law_turned_right := f__law_turned_right, law := f_law, cLOWEST := cLOWEST, cHIGHEST := cHIGHEST, cMOST_SPOTS := cMOST_SPOTS, b_isinstance := b_isinstance, b_int := b_int, b_bool := b_bool, b_str := b_str, b_len := b_len, b_abs := b_abs, b_range := b_range, b_min := b_min, b_max := b_max, b_repr := b_repr, b_list := b_list, b_tuple := b_tuple, b_all := b_all, b_ValueError := b_ValueError } SH SQ kB BE hmg LT one noT hd
