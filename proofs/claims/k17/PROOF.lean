import PyProof.Rows.All
import Wide.All
import OpenK.AllK
import Wide.FinOn
import PyProof.FString3
import PyProof.StrBlock2
import PyProof.ReprRoads
import KE.KxField
import HandS.ForMost
import HandS.EndTab
import HandS.WordsExc
import HandS.ExcOwn
import HandS.ExcValue
import HandS.ExcIs
import HandS.IsInst
import HandS.StrMore
import HandS.FStr
import HandS.Style
import HandS.Wide
import HandS.WideBits
import HandS.RaiseMore
import HandS.Small
import HandS.Evl
import HandS.Defaults
import KE.KExcSuper
import KE.KExcIs
import PySem.Challenge.RW_pricedreels_k17_spans_of_lifted_numbers
import KE.DataMinMax
import HandS.TupMul
import HandS.TupAny
import PyProof.InstEq
import HandS.OwnEq
import HandS.Walk
import HandS.RevRange
import HandS.TryOnly
import KE.KDictDisplayH
import PyProof.DictTable
import HandS.Zip
import PyProof.ZipIter
import KE.KTurns
import HandS.CallLocal
import HandS.MakeKwOnly
set_option Elab.async false
set_option linter.all false
set_option maxRecDepth 100000
set_option maxHeartbeats 4000000
namespace KA
open PySem PySem.Spec PyProof.Rows L2
section
variable {X : Cx}
/-- text * int -/
def rMulS : R2 := fun x y H Q => ∃ (a : Str) (n : Int), x = .str a ∧ y = .int n ∧ 0 ≤ n ∧ n ≤ 1000 ∧ a.length ≤ 1000 ∧ Q (.str (Txt.mul a n)) H
theorem op_mulS : OpR X (binaryOp .Mult) rMulS := by
  intro pins s σ H x y v u Q I rx ry h
  obtain ⟨a, n, rfl, rfl, h0, h1, h2, q⟩ := h
  obtain ⟨t, rfl⟩ := rx
  obtain ⟨t', rfl⟩ := ry
  refine SB.mul ⟨?_, fun hn hz => ?_, fun hn hz => ?_⟩ fun t' k => ⟨.str (Txt.mul a n), H, I.tok _, ⟨_, rfl⟩, q⟩
  · simp
    omega
  · have h3 : (1000 : Int) ≤ (2 ^ 63 - 1) / n := by
      refine Int.le_ediv_of_mul_le (by omega) ?_
      omega
    omega
  · have : a.length * n.toNat ≤ 1000 * 1000 := Nat.mul_le_mul h2 (by omega)
    unfold Builtin.Str.tooLong
    simp
    have e : sizeLine = 16777216 := by rfl
    omega
end
end KA
namespace KA
open PySem PySem.Spec PyProof.Rows L2 PySem.W
/-- the binary digits of a number from 0 on, as a text -/
def binText (n : Nat) : Str := ⟨((Nat.toDigits 2 n).map Char.toNat).toArray⟩
def specB : Str := ⟨#[98]⟩
theorem digits_some (n : Nat) : ∃ d ds, (Nat.toDigits 2 n).map Char.toNat = d :: ds := by
  cases e : (Nat.toDigits 2 n).map Char.toNat with
  | nil =>
    have h := congrArg List.length e
    simp at h
  | cons d ds => exact ⟨d, ds, rfl⟩
theorem meets_b {a : Int} {t : Tok} (h0 : 0 ≤ a) (hl : (binText a.natAbs).length ≤ sizeLine) (u : Tok) :
    Meets (Builtin.«int.__format__» ⟨[.int a t, .str specB u], []⟩) (fun _ R s => ∀ t' k, R (.ok (.ret (.str (binText a.natAbs) t'))) { s with toks := k }) := by
  apply KPc.meets_of
  intro _ _ _ _ _ _ _
  unfold Builtin.«int.__format__»
  refine wpAny_bind (wpAny_of_eq (a := (_, _)) rfl ?_)
  refine wpAny_bind (wpAny_of_eq (a := _) rfl ?_)
  kxf_if
  refine wpAny_bind (wpAny_typeNameOf (T := "str") (typeIs_str _ _ _) (by decide) fun _ => ?_)
  refine wpAny_bind (wpAny_of_eq (a := some _) rfl ?_)
  kxf_if
  kxf_if
  refine wpAny_bind (wpAny_typeNameOfCut_int ?_)
  have hneg : decide (a < 0) = false := decide_eq_false (by omega)
  (repeat kxf_if)
  refine KXf.ret_text (T := binText a.natAbs) ?_ ?_ ?_
  · rw [hneg]
    obtain ⟨d, ds, e⟩ := digits_some a.natAbs
    unfold binText
    rw [e]
    generalize hL : List.map _ _ = L
    have eL : L = d :: ds := hL.symm.trans e
    subst eL
    show ((⟨(List.replicate (((-1 : Int) - ((([] : List Nat).length : Nat) + (([] : List Nat).length : Nat) + (([] : List Nat).length : Nat)) - ((List.replicate ((0 : Int).toNat - (d :: ds).length) 48 ++ (d :: ds)).length : Nat)).toNat) 32 ++ ([] : List Nat) ++ [] ++ List.replicate 0 32 ++ (List.replicate ((0 : Int).toNat - (d :: ds).length) 48 ++ (d :: ds)) ++ [] ++ List.replicate 0 32).toArray⟩ : Str)) = _
    have z1 : (0 : Int).toNat - (d :: ds).length = 0 := by simp
    rw [z1]
    have z2 : ((-1 : Int) - ((([] : List Nat).length : Nat) + (([] : List Nat).length : Nat) + (([] : List Nat).length : Nat)) - ((List.replicate 0 48 ++ (d :: ds)).length : Nat)).toNat = 0 := by
      simp
      omega
    rw [z2]
    simp
  · rw [hneg]
    obtain ⟨d, ds, e⟩ := digits_some a.natAbs
    unfold binText at hl
    rw [e] at hl
    generalize hL : List.map _ _ = L
    have eL : L = d :: ds := hL.symm.trans e
    subst eL
    show (⟨(List.replicate (((-1 : Int) - ((([] : List Nat).length : Nat) + (([] : List Nat).length : Nat) + (([] : List Nat).length : Nat)) - ((List.replicate ((0 : Int).toNat - (d :: ds).length) 48 ++ (d :: ds)).length : Nat)).toNat) 32 ++ ([] : List Nat) ++ [] ++ List.replicate 0 32 ++ (List.replicate ((0 : Int).toNat - (d :: ds).length) 48 ++ (d :: ds)) ++ [] ++ List.replicate 0 32).toArray⟩ : Str).length ≤ _
    have z1 : (0 : Int).toNat - (d :: ds).length = 0 := by simp
    rw [z1]
    have z2 : ((-1 : Int) - ((([] : List Nat).length : Nat) + (([] : List Nat).length : Nat) + (([] : List Nat).length : Nat)) - ((List.replicate 0 48 ++ (d :: ds)).length : Nat)).toNat = 0 := by
      simp
      omega
    rw [z2]
    simpa using hl
  · assumption
end KA
namespace KA
open PySem PySem.Spec PyProof.Rows L2 PySem.W
section
variable {X : Cx}
/-- f'{e:b}', a number from 0 on -/
theorem pe_fmtB {e : Expr} {te : TE} {pos p1 p2 : Pos} {k : Nat} (he : PE X e te) :
    PE X (.FormattedValue e (-1) (some (.JoinedStr [.Constant (.str "b") k p1] p2)) pos) (fun σ H Q => te σ H fun x H1 => ∃ i : Int, x = .int i ∧ 0 ≤ i ∧ (binText i.natAbs).length ≤ sizeLine ∧ Q (.str (binText i.natAbs)) H1) := by
  refine ⟨fun pins s σ H Q I h => ?_⟩
  refine wpAny_FormattedValue_spec (thn (he.run pins s σ H _ I h) fun v s1 hv => ?_)
  obtain ⟨x, H1, I1, r1, i, rfl, h0, hz, q⟩ := hv
  obtain ⟨t, rfl⟩ := r1
  refine wpAny_JoinedStr_one ?_
  refine Calls.Constant_str ⟨("b" : Str), _, rfl, ?_⟩
  exact KXf.field_int (spec' := specB) (by decide +kernel) (by decide) (by decide) (fun u => meets_b h0 hz u) fun t' k => ⟨.str (binText i.natAbs), H1, (I1.tok _).tok _, ⟨_, rfl⟩, q⟩
end
end KA
namespace KA
open PySem PySem.Spec PyProof.Rows L2 PySem.W
/-! ### an exception that was caught, kept as a value -/
/-- an exception of the class cls with the own dict d stands at a -/
def ExV (cls : Value) (d : Option Addr) (a : Addr) : HO := .ext fun h => ∃ oe : Obj, h.get? a = some oe ∧ Zc cls d oe ∧ ∃ vs, oe.data = .fields vs
theorem exV_ok {P : Program} {w : World} {H : Hp} {h : Heap} {a : Addr} {cls : Value} {d : Option Addr} {oe : Obj} {vs : Array Value} (e : h.get? a = some oe) (z : Zc cls d oe) (f : oe.data = .fields vs) :
    ObjOk P w H h a (ExV cls d a) := ⟨⟨oe, e, z, vs, f⟩, ⟨oe, e⟩, fun _ _ ⟨o, q, r⟩ k => ⟨o, k o q, r⟩⟩
section
variable {X : Cx} {pins : List (Addr × Obj)} {σ : L2.St} {H : Hp} {s : Shared}
/-- what was pinned, and did not stand at the entry, is tracked from here on -/
theorem track {a : Addr} {oe : Obj} {φ : Heap → Prop} (J : Inv X ((a, oe) :: pins) σ H s) (ok : X.Ok) (n0 : X.s_0.heap.get? a = none) (np : ∀ p ∈ X.pn ++ pins, p.1 ≠ a)
    (new : ObjOk X.prog X.w (upd H a (.ext φ)) s.heap a (.ext φ)) : Inv X pins σ (upd H a (.ext φ)) s := by
  obtain ⟨ea, na, nL, notF, nc⟩ := J.pin (a, oe) (List.mem_append_right _ List.mem_cons_self)
  have nz : ∀ b u, H b = some u → b ≠ a := fun b u q => ne_of_none q na
  have cut : ∀ p, p ∈ X.pn ++ pins → p ∈ X.pn ++ (a, oe) :: pins := fun p hp => by
    rcases List.mem_append.mp hp with h | h
    · exact List.mem_append_left _ h
    · exact List.mem_append_right _ (List.mem_cons_of_mem _ h)
  have old : ∀ b o, X.s_0.heap.get? b = some o → b ≠ a := fun b o q z => by
    rw [z, n0] at q
    cases q
  have base : Un X.fs X.ex X.H_0 (upd H a (.ext φ)) X.s_0.heap s.heap :=
    { keep := J.base.keep, slot := J.base.slot, there := J.base.there
      free := fun b o q n hx => (upd_ne (old b o q)).trans (J.base.free b o q n hx)
      tups := fun b xs q => (upd_ne (nz b _ (J.base.tups b xs q))).trans (J.base.tups b xs q)
      frzs := fun b o u q => (upd_ne (nz b _ (J.base.frzs b o u q))).trans (J.base.frzs b o u q)
      tbls := fun b ps q => by
        obtain ⟨more, z⟩ := J.base.tbls b ps q
        exact ⟨more, (upd_ne (nz b _ z)).trans z⟩ }
  have apart : ∀ b, b ≠ a → H b = none → upd H a (.ext φ) b = none := fun b hb hn => (upd_ne hb).trans hn
  have ce : ∀ x c, X.env.cells.lookup x = some c → c ≠ a := fun x c q z => by
    obtain ⟨v, o, ho, hd⟩ := J.cell x c q
    rw [z, ea] at ho
    cases ho
    exact nc v hd
  have hk : HOk X.prog X.w (upd H a (.ext φ)) s.heap := fun b o q => by
    by_cases hb : b = a
    · subst hb
      rw [upd_same] at q
      cases q
      exact new
    · rw [upd_ne hb] at q
      exact (J.hok b o q).stay (fun c v _ r => r) (fun c r => (upd_ne (nz c _ r)).trans r) (fun c xs r => (upd_ne (nz c _ r)).trans r)
  have pk : ∀ p ∈ X.pn ++ pins, s.heap.get? p.1 = some p.2 ∧ upd H a (.ext φ) p.1 = none ∧ p.1 ≠ X.env.locals ∧ p.1 ∉ X.fs ∧ ∀ v, p.2.data ≠ .cell v := fun p hp => by
    obtain ⟨e1, e2, e3⟩ := J.pin p (cut p hp)
    exact ⟨e1, apart _ (np p hp) e2, e3⟩
  exact { ok := ok, os := J.os, bare := J.bare, base := base, loc := J.loc, cell := J.cell, free := apart _ (Ne.symm nL) J.free
          freeC := fun x c q => apart _ (ce x c q) (J.freeC x c q), pin := pk, hok := hk, len := J.len }
end
/-- what 'except x as n: m = n' wishes of an exception of the body: it is of the clause's class, and m holds it behind the try (slots: n in i, m in j) -/
def wKeep (K : PySem.W.Frag) (c : Value) (i j len : Nat) (D : Ends) : WX := fun cls d σ H =>
  PySem.W.exmOne K cls c = some true ∧ ∀ a, H a = none → σ.length = len → D.nx ((((σ.set i (some (.ref a))).set j (some (.ref a)))).set i none) (upd H a (ExV cls d a))
section
variable {X : Cx} {x n m : Str} {c : Value} {i j : Nat} {body : List Stmt} {np pm pr pa ph pt : Pos} {tb : WX → TS}
theorem ps_try_keep (hx : X.ex = []) (hs : X.stack = X.env :: X.outer) (hf : X.env.frame = some X.env.locals) (hN : X.N.Nodup) (hi : X.N[i]? = some n) (hj : X.N[j]? = some m) (hln : X.env.kindOf n = some .local) (hlm : X.env.kindOf m = some .local) (hc : Names X x c)
    (hd : (n == ("__debug__" : Str)) = false) (hcd : (n == ("__classdict__" : Str)) = false)
    (hb : ∀ (W : WX) (pn : List (Addr × Obj)) (xe : Value → Shared → Prop), Takes (X.tr pn xe) W → PassesOwn (model X.prog X.w) X.A X.env xe → PSs (X.tr pn xe) body (tb W)) :
    PS X (.Try body [.ExceptHandler (some (.Name x np)) (some n) [.Assign [.Name m pm] (.Name n pr) pa] ph] [] [] pt) (fun D σ H => tb (wKeep X.K c i j X.N.length D) D σ H) := by
  refine ⟨fun pins s σ H D I h => wpAny_Try_except ?_⟩
  have ok := I.ok
  have fr : X.A.frames = some (X.env :: X.outer) := ok.frames.trans (congrArg some hs)
  have ways : ∀ u s', XE (X.tr (X.pn ++ pins) (fun e s₁ => wpAny (model X.prog X.w) X.A (noteFrame e X.env)
      (fun _ s₂ => wpAny (model X.prog X.w) X.A (setFlight e none)
        (fun _ s₃ => wpAny (model X.prog X.w) X.A (handleBy e X.env [.ExceptHandler (some (.Name x np)) (some n) [.Assign [.Name m pm] (.Name n pr) pa] ph]) (SP X pins D) X.xe s₃) X.xe s₂) X.xe s₁)) (wKeep X.K c i j X.N.length D) u s' →
      wpAny (model X.prog X.w) X.A (noteFrame u X.env)
        (fun _ s₂ => wpAny (model X.prog X.w) X.A (setFlight u none)
          (fun _ s₃ => wpAny (model X.prog X.w) X.A (handleBy u X.env [.ExceptHandler (some (.Name x np)) (some n) [.Assign [.Name m pm] (.Name n pr) pa] ph]) (SP X pins D) X.xe s₃) X.xe s₂) X.xe s' := by
    rintro u s' ⟨a, B, sI, pins', σ', H', cls, d, rfl, Jt, nb, up, sky, na, os, ag, hyes, hgo⟩
    have J : Inv X pins σ' H' sI := Jt.ofTry ok
    have nb : ∀ b o, sI.heap.get? b = some o → b ∉ frs X.stack → B.get? b = some o := nb
    have sky : Sky B (X.env :: X.outer) a (Zc cls d) X.env.locals s'.heap := hs ▸ sky
    refine Sky.land Zc.steady fr hf sky fun h3 air3 grow3 => ?_
    have J3 : Inv X pins σ' H' { s' with heap := h3 } := J.landed nb air3.1 (up.trans grow3) os ag
    obtain ⟨o3, v3, e3, z3, f3⟩ := air3.there
    have away : a ∉ frs (X.env :: X.outer) := fun hm => by
      obtain ⟨_, o', e', hnf⟩ := air3.2.2.1.mem hm
      cases e3.symm.trans e'
      exact hnf _ f3
    have nL : a ≠ X.env.locals := fun z => away (List.mem_filterMap.mpr ⟨X.env, List.mem_cons_self, hf.trans (congrArg some z.symm)⟩)
    have notF : a ∉ X.fs := fun hm => by
      obtain ⟨e, inX, q⟩ := List.mem_filterMap.mp hm
      exact away (List.mem_filterMap.mpr ⟨e, List.mem_cons_of_mem _ inX, q⟩)
    have gone : sI.heap.get? a = none := by
      cases q : sI.heap.get? a with
      | none => rfl
      | some o =>
        have z := nb a o q (by rw [hs]; exact away)
        rw [air3.2.1] at z
        cases z
    have n0 : X.s_0.heap.get? a = none := by
      cases q : X.s_0.heap.get? a with
      | none => rfl
      | some o =>
        obtain ⟨o', z⟩ := J.base.there a o q (by rw [hx]; exact fun z => nomatch z)
        rw [gone] at z
        cases z
    have np' : ∀ p ∈ X.pn ++ pins, p.1 ≠ a := fun p hp z => by
      have q := (J.pin p hp).1
      rw [z, gone] at q
      cases q
    have S3 := J3.suite e3 f3 na nL notF
    refine wpAny_handleBy_cons (codeAny_handlers_test ?_) (by intro q; cases q)
    have LT : PySem.W.Looks (model X.prog X.w) h3 (typeOf (.ref a)) cls := fun A Q E s k q => wpAny_typeOf_ref (k _ _ e3) (z3.1.symm ▸ q)
    have LM := PySem.W.exm_one (M := model X.prog X.w) J3.kIn LT hyes
    have named : ∀ {Q E : Value → Shared → Prop}, Q c { s' with heap := h3 } →
        wpAny (model X.prog X.w) (X.A.mark (some (.ref a))) (eval (.Name x np) X.env) Q E { s' with heap := h3 } := fun {Q E} q => by
      obtain ⟨g, gd, gm | ⟨gm, gv, gn⟩⟩ := hc
      · exact ld_glob (X := X.suite a _) S3 g gm q gd
      · exact ld_blt (X := X.suite a _) S3 g gm gv q gn gd
    refine named (LM.here (codeAny_handlers_suite_as ?_))
    refine HandSPX.lands_againZ air3 fun h4 air4 grow4 => ?_
    have J4 : Inv X pins σ' H' { s' with heap := h4 } := J.landed nb air4.1 ((up.trans grow3).trans grow4) os ag
    obtain ⟨o4, v4, e4, z4, f4⟩ := air4.there
    refine store_ok (X := X.suite a ((a, o4) :: (X.pn ++ pins))) (v := .ref a) (J4.suite e4 f4 na nL notF) hN hi (.inl hln) rfl (fun s5 S5 => ?_) (.inr hln)
    have assign : PSs (X.suite a ((a, o4) :: (X.pn ++ pins))) [.Assign [.Name m pm] (.Name n pr) pa] (tAsg (tVar i) (gName j)) :=
      pss_one (ps_set (i := j) hN hj (.inl hlm) (pe_var hi (.inl hln) hd hcd) (hf := .inr hlm))
    have hlt : i < (σ'.set i (some (V.ref a))).length := by
      rw [List.length_set, J.len]
      exact (List.getElem?_eq_some_iff.mp hi).1
    refine wpAny_mono (assign.run [] s5 _ H' { D with nx := fun σ6 H6 => σ6 = (σ'.set i (some (.ref a))).set j (some (.ref a)) ∧ H6 = H', rt := fun _ _ => False, bk := fun _ _ => False, ct := fun _ _ => False } S5
      ⟨.ref a, by rw [List.getElem?_set_self (by simpa using hlt)], rfl, rfl⟩) (fun f s6 q6 => ?_) (fun _ _ z => z.elim)
    cases f with
    | next =>
      obtain ⟨σ6, H6, S6, eσ, eH⟩ := q6
      subst eσ
      subst eH
      have U : Inv X pins _ H6 s6 := S6.unsuite ok
      have P6 := S6.pin (a, o4) (List.mem_append_left _ List.mem_cons_self)
      have pin2 : ∀ p ∈ X.pn ++ (a, o4) :: pins, s6.heap.get? p.1 = some p.2 ∧ H6 p.1 = none ∧ p.1 ≠ X.env.locals ∧ p.1 ∉ X.fs ∧ ∀ v, p.2.data ≠ .cell v := fun p hp => by
        rcases List.mem_append.mp hp with h | h
        · exact U.pin p (List.mem_append_left _ h)
        · rcases List.mem_cons.mp h with e | h
          · rw [e]
            exact P6
          · exact U.pin p (List.mem_append_right _ h)
      have U2 : Inv X ((a, o4) :: pins) _ H6 s6 := { U with pin := pin2 }
      refine gone_ok U2 hN hi hln fun s7 J7 => ?_
      have P7 := (J7.pin (a, o4) (List.mem_append_right _ List.mem_cons_self)).1
      exact ⟨_, _, track J7 ok n0 np' (exV_ok P7 z4 f4), hgo a na J.len⟩
    | brk =>
      obtain ⟨_, _, _, z⟩ := q6
      exact z.elim
    | cont =>
      obtain ⟨_, _, _, z⟩ := q6
      exact z.elim
    | ret u =>
      obtain ⟨_, _, _, _, _, z⟩ := q6
      exact z.elim
  refine wpAny_mono ((hb (wKeep X.K c i j X.N.length D) (X.pn ++ pins) _ ways PassesOwn.looking).run [] s σ H D (I.toTry _) h) (fun f s1 q => ?_) fun _ _ z => z
  cases f with
  | next =>
    obtain ⟨σ1, H1, J1, q1⟩ := q
    exact wpAny_execs_nil ⟨σ1, H1, J1.ofTry ok, q1⟩
  | brk =>
    obtain ⟨σ1, H1, J1, q1⟩ := q
    exact ⟨σ1, H1, J1.ofTry ok, q1⟩
  | cont =>
    obtain ⟨σ1, H1, J1, q1⟩ := q
    exact ⟨σ1, H1, J1.ofTry ok, q1⟩
  | ret u =>
    obtain ⟨v, σ1, H1, J1, r, q1⟩ := q
    exact ⟨v, σ1, H1, J1.ofTry ok, r, q1⟩
end
end KA
namespace KA
open PySem PySem.Spec PyProof.Rows L2 PySem.W
/-- isinstance of an exception that is kept as a value, its class without fields of its own -/
def rIsV (K : PySem.W.Frag) : List V → Hp → VK → Prop := fun xs H Q => ∃ (a D : Addr) (c : V) (cv : Value) (b : Bool), xs = [.ref a, c] ∧ H a = some (ExV (.ref D) none a) ∧ ExcC K D ∧ ClsV c cv ∧ PySem.W.kitOne K (.ref D) cv = some b ∧ Q (.bl b) H
def rIs2 (K : PySem.W.Frag) : List V → Hp → VK → Prop := fun xs H Q => rIsi K xs H Q ∨ rIsV K xs H Q
section
variable {X : Cx}
theorem call_isV : CallR X (.builtin "isinstance") (rIsV X.K) := by
  intro pins s σ H xs us Q I r h
  obtain ⟨a, D, c, cv, b, rfl, ha, C, k, e, q⟩ := h
  obtain ⟨u1, u2, rfl, r1, r2⟩ := vals2 r
  cases k.eq r2
  cases (show u1 = Value.ref a from r1)
  obtain ⟨⟨oe, h1, ⟨z1, z2⟩, vs, z3⟩, _⟩ := I.hok a _ ha
  obtain ⟨oc, od, dt, sl⟩ := oe
  dsimp only at z1 z2 z3
  subst z1 z2 z3
  have J : PySem.W.InstAt s.heap a ⟨.ref D, none, .fields vs, sl⟩ D none := ⟨h1, rfl, rfl, trivial⟩
  exact PySem.W.kia_one (PySem.W.handS_kitx_exc C.hg C.hk C.hs C.hd C.ha C.hn C.ht C.hm) I.kIn J e (fun z => nomatch z) fun tk => ⟨.bl b, H, I.tok tk, rfl, q⟩
theorem call_is2 : CallR X (.builtin "isinstance") (rIs2 X.K) := by
  intro pins s σ H xs us Q I r h
  rcases h with h | h
  · exact call_isi pins s σ H xs us Q I r h
  · exact call_isV pins s σ H xs us Q I r h
/-- repr of data -/
def rRepr (K : PySem.W.Frag) : List V → Hp → VK → Prop := fun xs H Q => ∃ (x : Addr) (d : PyData), xs = [.ref x] ∧ Dp K H (.ref x) d ∧ d.showable = true ∧ d.hasDict = false ∧ d.depth ≤ 60 ∧ d.shown.length ≤ sizeLine ∧ Q (.str d.shown) H
theorem call_repr {k : Nat} (hg : X.A.guards = some []) (hr : Room k X.A) : CallR X (.builtin "repr") (rRepr X.K) := by
  intro pins s σ H xs us Q I r h
  obtain ⟨x, d, rfl, hd, hs, hn, hz, hl, q⟩ := h
  obtain ⟨u1, rfl, r1⟩ := vals1 r
  cases (show u1 = Value.ref x from r1)
  obtain ⟨as, rd⟩ := Dp.reads I d (.ref x) (.ref x) hd rfl
  have hu := hr.un
  refine repr_of_reads' rd hs (fun z => by rw [hn] at z; cases z) hg (by omega) (fun _ _ e => e) (fun h' u tk hk => ?_) hl
  exact ⟨.str d.shown, H, I.kept (t' := tk) hk, ⟨_, rfl⟩, q⟩
end
end KA
namespace KA
open PySem PySem.Spec PyProof.Rows L2 PySem.W LamX
section
variable {X : Cx}
/-- caught: what the lambda raises is kept and handed back, None if it raises nothing -/
def TCaught (K : PySem.W.Frag) (CS : Addr) : (XK → Hp → VK → Prop) → Hp → VK → Prop := fun tl H Q => ∀ Q1 : VK, (∀ v H', Q .non H' → Q1 v H') →
  tl (fun cls d H' => PySem.W.exmOne K cls (.ref CS) = some true ∧ ∀ a, H' a = none → Q (.ref a) (upd H' a (ExV cls d a))) H Q1
theorem caught_gives {a e n m q x : Str} {sg : Scope} {g CS : Addr} {cdg : Value} {j1 : Nat} {p1 p2 p3 p4 p5 p6 p7 p8 p9 pa pb pc pd pe : Pos} (S : FnScope [a, m, n] [a] sg)
    (la : sg.names.lookup a = some .local) (lm : sg.names.lookup m = some .local) (ln : sg.names.lookup n = some .local) (he : sg.names.lookup e = some .globalImplicit) (hme : X.mg e = some (.ref CS)) (hde : (e == ("__debug__" : Str)) = false)
    (d1 : (n == ("__debug__" : Str)) = false) (d2 : (n == ("__classdict__" : Str)) = false) (d3 : (m == ("__debug__" : Str)) = false) (d4 : (m == ("__classdict__" : Str)) = false) :
    GivesTo X [a, m, n] x sg g cdg
      [.Assign [.Name m p1] (.Constant .none j1 p2) p3,
       .Try [.Expr (.Call (.Name a p4) [] [] p5) p6] [.ExceptHandler (some (.Name e p7)) (some n) [.Assign [.Name m p8] (.Name n p9) pa] pb] [] [] pc,
       .Return (some (.Name m pd)) pe] a q (TCaught X.K CS) := by
  intro f c' s H Q tl act hc h
  have hgl : Gl (cxOf C8.CX0 X.prog X.w X.K X.mg X.base [a, m, n] x sg g cdg X.A X.stack s H C8.E0).nox e := he
  refine ⟨_, pss_cons (ps_set (i := 1) S.nd rfl (.inl lm) pe_non) (pss_cons (ps_try_keep (X := (cxOf C8.CX0 X.prog X.w X.K X.mg X.base [a, m, n] x sg g cdg X.A X.stack s H C8.E0).nox) (c := .ref CS) (i := 2) (j := 1)
      (tb := fun W D σ H => ∃ Eb : XK, (∀ cls d σ' H', Eb cls d H' → W cls d σ' H') ∧ σ[0]? = some (some (.ref f)) ∧ H c' = some (CodeO c' q) ∧ tl Eb H (fun _ H' => D.nx σ H'))
      rfl rfl rfl S.nd rfl rfl ln lm ⟨hgl, hde, .inl hme⟩ d1 d2 (fun W pn xe tk _ => ?_))
    (pss_one (ps_ret (pe_var (i := 1) rfl (.inl lm) d3 d4)))), ?_⟩
  · refine ⟨fun pins s' σ H' D I h' => ?_⟩
    obtain ⟨Eb, wish, h1, h2, h3⟩ := h'
    exact (pss_one (ps_expr (act W pn xe Eb p4 p5 tk wish))).run pins s' σ H' D I ⟨h1, h2, h3⟩
  · refine ⟨fun cls d H' => PySem.W.exmOne X.K cls (.ref CS) = some true ∧ ∀ a, H' a = none → Q (.ref a) (upd H' a (ExV cls d a)), fun cls d σ' H' ⟨e1, e2⟩ => ⟨e1, fun b hb hl => ?_⟩, rfl, hc, ?_⟩
    · match σ', hl with
      | [u, v, w], _ => exact ⟨_, rfl, e2 b hb⟩
    · exact h _ fun v H' z => ⟨_, rfl, z⟩
end
end KA
namespace KA
open PySem PySem.Spec PyProof.Rows L2 PySem.W LamX
/-! ### what the top has written, by name -/
/-- a def of the top -/
structure DefT (K : PySem.W.Frag) (mg : Str → Option Value) (x : Str) (st : Stmt) where
  a : Addr
  d : FuncData
  f : Fun K x x st a d
  m : mg x = some (.ref a)
abbrev veB : List Value := [.type "ValueError", .type "Exception", .type "BaseException", .type "object"]
/-- an exception class of the top over ReelError at R, without an __init__ of its own -/
structure ExcT (K : PySem.W.Frag) (mg : Str → Option Value) (x : Str) (R : Addr) where
  C : Addr
  g : mg x = some (.ref C)
  q : PySem.W.excIn K C veB "ValueError.__new__" = true
  k : PySem.W.keepIn K (.ref C) = true
  b : PySem.W.subIn K (.ref C) (.type "BaseException") = some true
  t : PySem.W.typeIn K (.ref C) = some (.type "type")
  r : PySem.W.subIn K (.ref C) (.ref R) = some true
  e : ExcC K C
/-- ReelError -/
structure ReelT (K : PySem.W.Frag) (mg : Str → Option Value) where
  C : Addr
  g : mg "ReelError" = some (.ref C)
  b : PySem.W.subIn K (.ref C) (.type "BaseException") = some true
  t : PySem.W.typeIn K (.ref C) = some (.type "type")
  d : PySem.W.hasDictIn K C = true
theorem ExcT.exm {K : PySem.W.Frag} {mg : Str → Option Value} {x : Str} (R : ReelT K mg) (T : ExcT K mg x R.C) : PySem.W.exmOne K (.ref T.C) (.ref R.C) = some true := PySem.W.exm_ref R.b R.d R.t T.r
/-- an int constant of the top -/
def CstT (mg : Str → Option Value) (x : Str) (n : Int) : Prop := ∃ t, mg x = some (.int n t)
abbrev C1 := L2.CX
theorem passE {X : Cx} : Passes (L2.CX X.prog X.w) X E0 := passL
section
variable {X : Cx} {E : XK}
/-- raise C('..') in a def that lets it out -/
theorem ps_raiseT {K : PySem.W.Frag} {mg : Str → Option Value} {x : Str} {R : Addr} {pos p1 p2 pc : Pos} {j : Nat} {m : Str} (hK : X.K = K) (hM : X.mg = mg) (T : ExcT K mg x R) (hg : Gl X x) (hc : X.calm = true) {W : WX} (tk : Takes X W)
    (hdb : (x == ("__debug__" : Str)) = false := by decide) :
    PS X (.Raise (some (.Call (.Name x p1) [.Constant (.str m) j pc] [] p2)) none pos) (fun _ σ H => W (.ref T.C) none σ H) := by
  subst hK
  subst hM
  exact ps_raise hc tk (pmk_own PySem.F.excBase_ValueError T.q T.g T.k (raises_own T.b T.t) hg hdb)
end
end KA
namespace KA
open PySem PySem.Spec PyProof.Rows L2 PySem.W LamX
/-! ### the law's own draws: their state -/
abbrev kLarge : Key := Sum.inr "large"
abbrev kCells : Key := Sum.inr "cells"
abbrev kLeft : Key := Sum.inr "left"
abbrev kTurn : Key := Sum.inr "turn"
def stKv (lg cl : Addr) (left turn : Int) : List (Key × V) := [(kLarge, .ref lg), (kCells, .ref cl), (kLeft, .int left), (kTurn, .int turn)]
section
variable {lg cl : Addr} {left turn : Int}
theorem k12 : ¬ kLarge = kCells := by decide +kernel
theorem k13 : ¬ kLarge = kLeft := by decide +kernel
theorem k14 : ¬ kLarge = kTurn := by decide +kernel
theorem k23 : ¬ kCells = kLeft := by decide +kernel
theorem k24 : ¬ kCells = kTurn := by decide +kernel
theorem k34 : ¬ kLeft = kTurn := by decide +kernel
theorem st_large : valV (stKv lg cl left turn) kLarge = some (.ref lg) := valV_pos rfl
theorem st_cells : valV (stKv lg cl left turn) kCells = some (.ref cl) := (valV_neg k12).trans (valV_pos rfl)
theorem st_left : valV (stKv lg cl left turn) kLeft = some (.int left) := (valV_neg k13).trans ((valV_neg k23).trans (valV_pos rfl))
theorem st_turn : valV (stKv lg cl left turn) kTurn = some (.int turn) := (valV_neg k14).trans ((valV_neg k24).trans ((valV_neg k34).trans (valV_pos rfl)))
theorem st_put_left (l : Int) : putK (stKv lg cl left turn) kLeft (.int l) = stKv lg cl l turn := by
  unfold putK
  rw [valV_any, st_left, Option.isSome_some, if_pos rfl]
  simp only [stKv, List.map_cons, List.map_nil, if_neg k13, if_neg k23, if_neg (Ne.symm k34), if_true]
theorem st_put_turn (t : Int) : putK (stKv lg cl left turn) kTurn (.int t) = stKv lg cl left t := by
  unfold putK
  rw [valV_any, st_turn, Option.isSome_some, if_pos rfl]
  simp only [stKv, List.map_cons, List.map_nil, if_neg k14, if_neg k24, if_neg k34, if_true]
end
/-- the state stands at st: the numbers that are left to draw from at lg, the script's at cl -/
structure StD (H : Hp) (st lg cl : Addr) (large cells : List Int) (left : Int) (turn : Nat) : Prop where
  d : H st = some (.dK (stKv lg cl left turn))
  l : H lg = some (.lst (large.map V.int))
  c : H cl = some (.lst (cells.map V.int))
  ne : lg ≠ cl
  pl : ∀ x ∈ large, 0 ≤ x
  p0 : 0 ≤ left
def StAt (H : Hp) (st lg cl : Addr) (n : Nat) : Prop := ∃ large cells left turn, StD H st lg cl large cells left turn ∧ turn ≤ n
/-- all but the state stands as it stood -/
def Kp (st lg : Addr) (H H' : Hp) : Prop := ∀ b o, H b = some o → b ≠ st → b ≠ lg → H' b = some o
theorem Kp.refl {st lg : Addr} {H : Hp} : Kp st lg H H := fun _ _ h _ _ => h
theorem Kp.trans {st lg : Addr} {H H1 H2 : Hp} (a : Kp st lg H H1) (b : Kp st lg H1 H2) : Kp st lg H H2 := fun c o h n1 n2 => b c o (a c o h n1 n2) n1 n2
theorem Kp.same {st lg : Addr} {H H1 : Hp} (a : Same H H1) : Kp st lg H H1 := fun c o h _ _ => a c o h
theorem Same.new {H : Hp} {p : Addr} {o : HO} (h : H p = none) : Same H (upd H p o) := fun b u e => by
  rw [upd_ne (ne_of_none e h)]
  exact e
theorem StD.same {H H' : Hp} {st lg cl : Addr} {large cells : List Int} {left : Int} {turn : Nat} (S : StD H st lg cl large cells left turn) (e : Same H H') : StD H' st lg cl large cells left turn :=
  { S with d := e _ _ S.d, l := e _ _ S.l, c := e _ _ S.c }
theorem StAt.same {H H' : Hp} {st lg cl : Addr} {n : Nat} (S : StAt H st lg cl n) (e : Same H H') : StAt H' st lg cl n := by
  obtain ⟨a, b, c, d, s, h⟩ := S
  exact ⟨a, b, c, d, s.same e, h⟩
theorem StAt.mono {H : Hp} {st lg cl : Addr} {n m : Nat} (S : StAt H st lg cl n) (h : n ≤ m) : StAt H st lg cl m := by
  obtain ⟨a, b, c, d, s, h'⟩ := S
  exact ⟨a, b, c, d, s, Nat.le_trans h' h⟩
theorem StD.st_lg {H : Hp} {st lg cl : Addr} {large cells : List Int} {left : Int} {turn : Nat} (S : StD H st lg cl large cells left turn) : st ≠ lg := ne_of S.d S.l (by intro z; cases z)
theorem StD.st_cl {H : Hp} {st lg cl : Addr} {large cells : List Int} {left : Int} {turn : Nat} (S : StD H st lg cl large cells left turn) : st ≠ cl := ne_of S.d S.c (by intro z; cases z)
/-- the state's dict is written -/
theorem StD.put {H : Hp} {st lg cl : Addr} {large cells : List Int} {left l : Int} {turn t : Nat} (S : StD H st lg cl large cells left turn) (h : 0 ≤ l) : StD (upd H st (.dK (stKv lg cl l t))) st lg cl large cells l t :=
  { d := upd_same, l := (upd_ne S.st_lg.symm).trans S.l, c := (upd_ne S.st_cl.symm).trans S.c, ne := S.ne, pl := S.pl, p0 := h }
theorem Kp.put {st lg : Addr} {H : Hp} {o : HO} : Kp st lg H (upd H st o) := fun b u e n _ => (upd_ne n).trans e
theorem Kp.put2 {st lg : Addr} {H : Hp} {o : HO} : Kp st lg H (upd H lg o) := fun b u e _ n => (upd_ne n).trans e
theorem dp_ints {K : PySem.W.Frag} {H : Hp} : ∀ ns : List Int, DpAll K H (ns.map V.int) (ns.map PyData.int)
  | [] => .nil
  | n :: r => .cons (.int n) (dp_ints r)
theorem dp_int_list {K : PySem.W.Frag} {H : Hp} {a : Addr} {ns : List Int} (h : H a = some (.lst (ns.map V.int))) : Dp K H (.ref a) (.list (ns.map PyData.int)) := .lst (SqL.of h) (dp_ints ns)
theorem dp_nil {K : PySem.W.Frag} {H : Hp} {a : Addr} (h : H a = some (.lst [])) : Dp K H (.ref a) (.list []) := .lst (SqL.of h) .nil
theorem lay_is : ∀ ns : List Int, PyData.canLayAll0 (ns.map PyData.int) = true ∧ PyData.depthAll (ns.map PyData.int) = 0
  | [] => ⟨rfl, rfl⟩
  | n :: r => by
    obtain ⟨h1, h2⟩ := lay_is r
    exact ⟨by simp [PyData.canLayAll0, PyData.canLay0, h1], by simp [PyData.depthAll, PyData.depth, h2]⟩
theorem shaped_is (ns : List Int) : SeqAt.shaped (.list (ns.map PyData.int)) = true := by
  obtain ⟨h1, h2⟩ := lay_is ns
  simp [SeqAt.shaped, PyData.canLay0, PyData.depth, h1, h2]
theorem shaped_nil : SeqAt.shaped (.list []) = true := shaped_is []
theorem eqv_ints_nil (ns : List Int) : PyData.eqv (.list (ns.map PyData.int)) (.list []) = ns.isEmpty := by
  cases ns <;> rfl
theorem st_merge (lg cl : Addr) (left turn : Int) : mergeK [] (stKv lg cl left turn) = stKv lg cl left turn := by
  unfold stKv mergeK
  simp only [List.foldl_cons, List.foldl_nil]
  rw [putK_new (kvs := []) _ valV_nil, List.nil_append]
  rw [putK_new (k := kCells) _ ((valV_neg (show ¬ kLarge = kCells from k12)).trans valV_nil), List.cons_append, List.nil_append]
  rw [putK_new (k := kLeft) _ ((valV_neg (show ¬ kLarge = kLeft from k13)).trans ((valV_neg (show ¬ kCells = kLeft from k23)).trans valV_nil)), List.cons_append, List.cons_append, List.nil_append]
  rw [putK_new (k := kTurn) _ ((valV_neg (show ¬ kLarge = kTurn from k14)).trans ((valV_neg (show ¬ kCells = kTurn from k24)).trans ((valV_neg (show ¬ kLeft = kTurn from k34)).trans valV_nil)))]
  rfl
theorem take_map_snoc {α β : Type} (f : α → β) (l : List α) (i : Nat) (x : α) (h : l[i]? = some x) : (l.take (i + 1)).map f = (l.take i).map f ++ [f x] := by
  rw [List.take_add_one, h]
  simp
theorem StAt.off {H : Hp} {st lg cl p : Addr} {n : Nat} (S : StAt H st lg cl n) (hp : H p = none) : p ≠ st ∧ p ≠ lg := by
  obtain ⟨_, _, _, _, S', _⟩ := S
  exact ⟨(ne_of_none S'.d hp).symm, (ne_of_none S'.l hp).symm⟩
end KA
namespace KA
open PySem PySem.Spec PyProof.Rows L2 PySem.W LamX
/-! ### calls by names alone; defs whose frame must know that no repr is running -/
section
variable {X : Cx} {CX : CXT} {k : Nat} {f : Addr} {fd : FuncData} {ps ks : List Str} {sp : Sp} {E : XK} {x : Str} {p pos : Pos} {kws : List Keyword} {tk : TA} {g : List Value → List Value → List Value} {gV : List V → List V → List V}
def tKw (m : Nat) (sp : Sp) (gV : List V → List V → List V) (E : XK) (tk : TA) : TE := fun σ H Q => tk σ H fun zs H2 => zs.length = m ∧ sp (gV [] zs) H2 Q E
/-- f(k = v, ..) -/
theorem pe_kw (F : FnOk X.prog X.w X.K X.mg X.base CX k f fd ps sp) (hr : Room k X.A) (hg : Gl X x) (hm : X.mg x = some (.ref f)) (hk : PySem.W.keepIn X.K (.ref f) = true) (hb : KBn X.K fd ps 0 ks g gV) (hx : Passes CX X E) (hkw : PK X kws tk)
    (named : (backToKw pos (keywordEach kws X.env)).all (·.1.isSome) = true := by rfl) (theirs : (backToKw pos (keywordEach kws X.env)).filterMap (·.1) = ks := by rfl) (hdb : (x == ("__debug__" : Str)) = false := by decide)
    (noStars : ((backTo pos (starEach [] X.env)).any (·.1) || (backToKw pos (keywordEach kws X.env)).any (·.1.isNone)) = false := by rfl) :
    PE X (.Call (.Name x p) [] kws pos) (tKw ks.length sp gV E tk) :=
  ⟨fun pins s σ H Q I h => wpAny_Call_Name_kw (ld_glob I hg hm (PySem.W.callWith_KW0 (h₀ := X.base) I.ok.mod.kin hk named (thn (hkw.run pos pins s σ H _ I h) fun ws s2 hw => by
    obtain ⟨zs, H2, I2, rz, l2, q2⟩ := hw
    refine ⟨I2.kIn, ?_⟩
    rw [theirs]
    exact run_fnN F hr hb hx I2 .nil rz rfl l2 q2) noStars) hdb)⟩
end
section
variable {K : PySem.W.Frag} {x qual : Str} {st : Stmt} {f : Addr} {fd : FuncData} {ps ks : List Str}
/-- one parameter, by its name -/
theorem Fun.kw1 {a : Str} (F : Fun K x qual st f fd) (h : ∀ (kV doc pm : Value) (an : Option Addr) (cdv ct u : Value), bindArgs (PySem.W.fnOf x qual (defArgs st) (defBody st) (defScope st) .none kV doc pm an cdv ct) ⟨[], [(a, u)]⟩ = pure [(a, u)]) :
    KBn K fd [a] 0 [a] (fun _ ws => ws) (fun _ zs => zs) := by
  obtain ⟨oc, od, kV, doc, pm, an, cdv, ct, osl, rfl, lk, hcd⟩ := F.ex
  refine ⟨fun s us ws X l1 l2 => ?_, fun _ r => r⟩
  match us, ws, l1, l2 with
  | [], [u], _, _ => exact .of_eq (h kV doc pm an cdv ct u)
/-- two parameters a, b, called as f(b = .., a = ..) -/
theorem Fun.kw2 {a b : Str} (F : Fun K x qual st f fd) (h : ∀ (kV doc pm : Value) (an : Option Addr) (cdv ct u v : Value), bindArgs (PySem.W.fnOf x qual (defArgs st) (defBody st) (defScope st) .none kV doc pm an cdv ct) ⟨[], [(b, u), (a, v)]⟩ = pure [(a, v), (b, u)]) :
    KBn K fd [a, b] 0 [b, a] (fun _ ws => ws.reverse) (fun _ zs => zs.reverse) := by
  obtain ⟨oc, od, kV, doc, pm, an, cdv, ct, osl, rfl, lk, hcd⟩ := F.ex
  refine ⟨fun s us ws X l1 l2 => ?_, fun {_ _ zs ws} _ r => ?_⟩
  · match us, ws, l1, l2 with
    | [], [u, v], _, _ => exact .of_eq (h kV doc pm an cdv ct u v)
  · clear h
    have rev : ∀ {zs : List V} {ws : List Value}, Vals zs ws → Vals zs.reverse ws.reverse := fun {zs ws} r => by
      induction r with
      | nil => exact .nil
      | cons h _ ih =>
        rw [List.reverse_cons, List.reverse_cons]
        exact ih.append (.cons h .nil)
    exact rev r
end
end KA
namespace KA
open PySem PySem.Spec PyProof.Rows L2 PySem.W LamX
/-- as FnOk, where no repr is running around the call -/
structure FnG (P : Program) (w : World) (K : PySem.W.Frag) (mg : Str → Option Value) (base : Heap) (CX : CXT) (k : Nat) (f : Addr) (fd : FuncData) (ps : List Str) (sp : Sp) : Prop where
  len : ∀ vs H Q E, sp vs H Q E → vs.length = ps.length
  run : ∀ (A : Around) (outer : List Env) (s : Shared) (H : Hp) (args : Args) (us : List Value) (vs : List V) (Q : VK) (E : XK), Room k A → A.guards = some [] →
    Env0 P w K mg base A outer s H → BindsTo s fd args (ps.zip us) → Vals vs us → sp vs H Q E → codeAny (model P w) A (.call (.ref f) args) (CR CX outer P w H s Q E) s
theorem fnG_of {CX : CXT} {P : Program} {w : World} {K : PySem.W.Frag} {mg : Str → Option Value} {base : Heap} {k : Nat} {f : Addr} {x qual : Str} {st : Stmt} {fd : FuncData} {N ps : List Str} {sp : Sp} (F : Fun K x qual st f fd) (S : FnScope N ps (defScope st))
    (len : ∀ vs H Q E, sp vs H Q E → vs.length = ps.length)
    (hbody : ∀ (cdv : Value) (A : Around) (outer : List Env) (s : Shared) (H : Hp) (vs : List V) (Q : VK) (E : XK), Room k (A.deeper (envOfC qual (defScope st) s.heap.objs.size f cdv)) → A.guards = some [] → sp vs H Q E →
      ∃ t, PSs (cxOf CX P w K mg base N qual (defScope st) f cdv A outer s H E) (defBody st) t ∧ t { nx := fun _ H' => Q .non H', rt := Q } (L2.start N vs) H) : FnG P w K mg base CX (k + 1) f fd ps sp := by
  obtain ⟨oc, od, kV, doc, pm, an, cdv, ct, osl, rfl, lk, hcd⟩ := F.ex
  exact ⟨len, fun A outer s H args us vs Q E hr hg e0 hb r h => run_ofS lk hcd S hr e0 hb r (len _ _ _ _ h) fun hr' => hbody cdv A outer s H vs Q E hr' hg h⟩
/-- what stands around the law's call: the script at a, the tables of cs (each a code object and its table) empty -/
structure Law (h : Heap) (mg mb : Str → Option Value) (K : PySem.W.Frag) (cs : List (Addr × Addr)) (a : Addr) (vs : List Value) (ns : List Int) : Prop where
  kx : K.In h
  nsM : h.Ns mainGlobals mg
  bn : h.Ns builtinsNs mb
  bb : ∀ x : Str, x ≠ "__name__" → mb x = bootBuiltins x
  lim : h.NoLimit
  tab : ∀ p ∈ cs, h.get? p.2 = some { cls := .none, data := .fields #[] }
  notab : ∀ p ∈ cs, K.lookup p.2 = none
  code : ∀ p ∈ cs, PySem.W.CodeHd h p.1 p.2
  bm : ∃ (bm : Addr) (ob : Obj), mg "__builtins__" = some (.ref bm) ∧ bm ≠ builtinsNs ∧ h.get? bm = some ob ∧ ob.cls = .type "module" ∧ ob.dict = some builtinsNs ∧ ob.data = .plain
  at_ : h.get? a = some { cls := .type "list", data := .seq vs.toArray }
  isI : IntsAre vs ns
  len : ns.length ≤ sizeLine
/-- the abstract heap at the law's call -/
def lawH (K : PySem.W.Frag) (cs : List (Addr × Addr)) (a : Addr) (vs : List Value) (ns : List Int) : Hp := fun b =>
  if b = a ∧ K.lookup a = none then some (.frz { cls := .type "list", data := .seq vs.toArray } (.lst (ns.map V.int)))
  else if b ∈ cs.map (·.2) then some (.tbl #[]) else none
section
variable {P : Program} {w : World} {K : PySem.W.Frag} {mg mb : Str → Option Value} {h : Heap} {cs : List (Addr × Addr)} {a : Addr} {vs : List Value} {ns : List Int}
theorem Law.tabAt (L : Law h mg mb K cs a vs ns) {b : Addr} (hb : b ∈ cs.map (·.2)) : h.get? b = some { cls := .none, data := .fields #[] } ∧ K.lookup b = none := by
  obtain ⟨p, hp, rfl⟩ := List.mem_map.mp hb
  exact ⟨L.tab p hp, L.notab p hp⟩
theorem Law.ne (L : Law h mg mb K cs a vs ns) {b : Addr} (hb : b ∈ cs.map (·.2)) : b ≠ a := fun z => by
  have q := (L.tabAt hb).1
  rw [z, L.at_] at q
  cases q
/-- what is tracked: the script, or a table -/
theorem Law.cases (L : Law h mg mb K cs a vs ns) {b : Addr} {u : HO} (e : lawH K cs a vs ns b = some u) :
    (b = a ∧ K.lookup a = none ∧ u = .frz { cls := .type "list", data := .seq vs.toArray } (.lst (ns.map V.int))) ∨ (b ∈ cs.map (·.2) ∧ u = .tbl #[]) := by
  unfold lawH at e
  split at e
  · rename_i c
    exact .inl ⟨c.1, c.2, (Option.some.inj e).symm⟩
  · split at e
    · rename_i c
      exact .inr ⟨c, (Option.some.inj e).symm⟩
    · cases e
theorem Law.tbl (L : Law h mg mb K cs a vs ns) {b : Addr} (hb : b ∈ cs.map (·.2)) : lawH K cs a vs ns b = some (.tbl #[]) := by
  unfold lawH
  rw [if_neg (fun z => L.ne hb z.1), if_pos hb]
theorem Law.seq (L : Law h mg mb K cs a vs ns) : SqL K (lawH K cs a vs ns) a (ns.map V.int) := by
  cases q : K.lookup a with
  | none => exact .inl (.inr ⟨_, by unfold lawH; rw [if_pos ⟨rfl, q⟩]⟩)
  | some o =>
    have e := L.kx a o q
    rw [L.at_] at e
    cases e
    exact .inr ⟨_, vs.toArray, _, q, rfl, rfl, rfl, by rw [List.size_toArray, L.isI.length]; exact L.len, by simpa using vals_ints L.isI⟩
theorem Law.hok (L : Law h mg mb K cs a vs ns) : HOk P w (lawH K cs a vs ns) h := fun b u e => by
  rcases L.cases e with ⟨rfl, _, rfl⟩ | ⟨hb, rfl⟩
  · exact ⟨L.at_, by rw [List.length_map]; exact L.len, vs, _, vals_ints L.isI, L.at_⟩
  · exact (L.tabAt hb).1
/-- an object that is neither a list nor an empty record is not tracked -/
theorem Law.free (L : Law h mg mb K cs a vs ns) {b : Addr} {o : Obj} (e : h.get? b = some o) (h1 : ∀ vs n, o.data ≠ .seq vs n) (h2 : o.data ≠ .fields #[]) : lawH K cs a vs ns b = none := by
  cases q : lawH K cs a vs ns b with
  | none => rfl
  | some u =>
    rcases L.cases q with ⟨rfl, _⟩ | ⟨hb, _⟩
    · rw [L.at_] at e
      cases e
      exact absurd rfl (h1 _ _)
    · rw [(L.tabAt hb).1] at e
      cases e
      exact absurd rfl h2
theorem Law.nsK (L : Law h mg mb K cs a vs ns) {b : Addr} {m : Str → Option Value} (x : h.Ns b m) : (hidT h (lawH K cs a vs ns)).Ns b m := by
  obtain ⟨o, es, ep, e, d, r⟩ := x
  refine ⟨o, es, ep, hidT_get e (L.free e (fun _ _ z => ?_) fun z => ?_), d, r⟩ <;> (rw [d] at z; cases z)
theorem Law.kin (L : Law h mg mb K cs a vs ns) : K.In (hidT h (lawH K cs a vs ns)) := fun b o e => hidT_get (L.kx b o e) (by
  cases q : lawH K cs a vs ns b with
  | none => rfl
  | some u =>
    rcases L.cases q with ⟨rfl, z, _⟩ | ⟨hb, _⟩
    · rw [z] at e
      cases e
    · rw [(L.tabAt hb).2] at e
      cases e)
theorem Law.mod (L : Law h mg mb K cs a vs ns) : L2.Mod K mg (hidT h (lawH K cs a vs ns)) := by
  obtain ⟨mc, h1, h2⟩ := L.lim
  exact ⟨L.kin, L.nsK L.nsM, ⟨mb, L.nsK L.bn, L.bb⟩, mc, L.nsK h1, h2⟩
theorem Law.main (L : Law h mg mb K cs a vs ns) {b : Addr} {o : Obj} (e : h.get? b = some o) (n : ∀ es ep, o.data ≠ .dict es ep) : b ≠ mainGlobals := fun z => by
  obtain ⟨o', es, ep, e', d, _⟩ := L.nsM
  rw [z, e'] at e
  cases e
  exact n _ _ d
theorem Law.tabs (L : Law h mg mb K cs a vs ns) : ∀ p ∈ cs, TabB (hidT h (lawH K cs a vs ns)) mg p.1 p.2 := fun p hp => by
  have hm : p.2 ∈ cs.map (·.2) := List.mem_map.mpr ⟨p, hp, rfl⟩
  have ht := (L.tabAt hm).1
  refine ⟨?_, ?_, fun z => L.main ht (fun _ _ q => by cases q) z.symm⟩
  · obtain ⟨o, us, file, tf, flags, tg, inF, text, tt, e1, r1, r2, r3, rest⟩ := L.code p hp
    refine ⟨o, us, file, tf, flags, tg, inF, text, tt, hidT_get e1 (L.free e1 (fun _ _ z => ?_) fun z => ?_), r1, r2, r3, rest⟩
    · rw [r2] at z
      cases z
    · rw [r2] at z
      cases z
      simp at r3
  · obtain ⟨bm, ob, b1, b2, b3, b4, b5, b6⟩ := L.bm
    refine ⟨bm, ob, b1, b2, L.main b3 (fun _ _ q => by rw [b6] at q; cases q), fun q => ?_, hidT_get b3 (L.free b3 (fun _ _ z => ?_) fun z => ?_), b4, b5, b6⟩
    · rw [q, ht] at b3
      cases b3
      cases b6
    · rw [b6] at z
      cases z
    · rw [b6] at z
      cases z
/-- an address of the heap at the call stands as it stood, or it is a table that has grown -/
theorem Law.stay (L : Law h mg mb K cs a vs ns) {s' : Shared} {H' : Hp} {b : Addr} {o : Obj} (un : Un [] [] (lawH K cs a vs ns) H' h s'.heap) (ok : HOk P w H' s'.heap) (e : h.get? b = some o) (nb : b ∉ cs.map (·.2)) : s'.heap.get? b = some o := by
  cases q : lawH K cs a vs ns b with
  | none => exact un.keep b o e q (by simp) (by simp)
  | some u =>
    rcases L.cases q with ⟨rfl, _, rfl⟩ | ⟨z, _⟩
    · have e2 := (ok b _ (un.frzs b _ _ q)).1
      rw [L.at_] at e
      rw [← e]
      exact e2
    · exact absurd z nb
theorem Law.grown (L : Law h mg mb K cs a vs ns) {s' : Shared} {H' : Hp} {b : Addr} (un : Un [] [] (lawH K cs a vs ns) H' h s'.heap) (ok : HOk P w H' s'.heap) (hb : b ∈ cs.map (·.2)) : ∃ more : Array Value, s'.heap.get? b = some { cls := .none, data := .fields more } := by
  obtain ⟨more, z⟩ := un.tbls b #[] (L.tbl hb)
  exact ⟨_, ok b _ z⟩
theorem Law.old (L : Law h mg mb K cs a vs ns) {s' : Shared} {H' : Hp} (un : Un [] [] (lawH K cs a vs ns) H' h s'.heap) (ok : HOk P w H' s'.heap) : OldK h s'.heap := by
  constructor
  · intro b o e
    by_cases hb : b ∈ cs.map (·.2)
    · obtain ⟨p, hp, rfl⟩ := List.mem_map.mp hb
      obtain ⟨more, hm⟩ := L.grown un ok hb
      have ht := L.tab p hp
      rw [ht] at e
      cases e
      refine .inr (.inl ⟨((L.code p hp).tab ht).isCodeTable, rfl, #[], more, rfl, ?_⟩)
      rw [Array.empty_append]
      exact hm
    · exact .inl (L.stay un ok e hb)
  · intro b o e
    by_cases hb : b ∈ cs.map (·.2)
    · obtain ⟨more, hm⟩ := L.grown un ok hb
      exact ⟨_, hm⟩
    · exact ⟨o, L.stay un ok e hb⟩
end
/-- the law, called with the script at a -/
theorem law_callG {P : Program} {w : World} {K : PySem.W.Frag} {mg mb : Str → Option Value} {CX : CXT} {k : Nat} {fa a : Addr} {cs : List (Addr × Addr)} {fd : FuncData} {x : Str} {sp : Sp} {s : Shared} {vs : List Value} {ns : List Int}
    (L : Law s.heap mg mb K cs a vs ns) (hg : s.gens = #[]) (hr : Room k callerA) (F : ∀ base : Heap, K.In base → base.Ns mainGlobals mg → (∀ p ∈ cs, TabB base mg p.1 p.2) → FnG P w K mg base CX k fa fd [x] sp)
    (hbind : ∀ (s : Shared) (u : Value), BindsTo s fd ⟨[u], []⟩ [(x, u)]) (hsp : ∀ H : Hp, (∀ p ∈ cs, H p.2 = some (.tbl #[])) → SqL K H a (ns.map V.int) → sp [.ref a] H (fun v _ => v = .bl true) fun _ _ _ => False)
    (hCX : ∀ H e s', CX [] H s (fun _ _ _ => False) e s' → False) :
    codeAny (model P w) callerA (.call (.ref fa) ⟨[.ref a], []⟩) (fun r s' => r = .ok (.ret (.bool true)) ∧ OldK s.heap s'.heap ∧ s'.os = s.os ∧ AllBare s'.gens) s := by
  have env : Env0 P w K mg (hidT s.heap (lawH K cs a vs ns)) callerA [] s (lawH K cs a vs ns) :=
    ⟨rfl, L.mod, fun _ _ => of_hidT, Nat.le_of_eq (hidT_size _ _), trivial, fun b hb => absurd (show b ∈ ([] : List Addr) from hb) List.not_mem_nil, L.hok, .of_eq hg⟩
  have pre := hsp (lawH K cs a vs ns) (fun p hp => L.tbl (List.mem_map.mpr ⟨p, hp, rfl⟩)) L.seq
  have run := (F _ L.kin (L.nsK L.nsM) L.tabs).run callerA [] s _ ⟨[.ref a], []⟩ [.ref a] [.ref a] _ _ hr rfl env (hbind s _) (.cons rfl .nil) pre
  refine codeAny_mono run fun r s' q => ?_
  match r, q with
  | .error e, q => exact (hCX _ e s' q).elim
  | .ok .next, q => exact False.elim q
  | .ok .brk, q => exact False.elim q
  | .ok .cont, q => exact False.elim q
  | .ok (.ret u), q =>
    obtain ⟨v, H', os, bare, un, ok, rv, e⟩ := q
    cases (show v = .bl true from e)
    cases (show u = Value.bool true from rv)
    exact ⟨rfl, L.old un ok, os, bare⟩
/-- what is known of the law at the head's heap h -/
def LawAtG (l : PySem.W.OpenLaw) (w : World) (K : PySem.W.Frag) (CX : CXT) (k n : Nat) (x : Str) (mg : Str → Option Value) (fa : Addr) (h : Heap) : Prop :=
  ∃ (fd : FuncData) (cs : List (Addr × Addr)) (sp : Sp), ((∀ p ∈ cs, h.get? p.2 = some { cls := .none, data := .fields #[] }) ∧ (∀ p ∈ cs, K.lookup p.2 = none) ∧ ∀ p ∈ cs, PySem.W.CodeHd h p.1 p.2) ∧
    (∀ (s : Shared) (u : Value), BindsTo s fd ⟨[u], []⟩ [(x, u)]) ∧
    (∀ (H : Hp) (a : Addr) (ns : List Int), ns.length ≤ n → (∀ p ∈ cs, H p.2 = some (.tbl #[])) → SqL K H a (ns.map V.int) → sp [.ref a] H (fun v _ => v = .bl true) fun _ _ _ => False) ∧
    ∀ base : Heap, K.In base → base.Ns mainGlobals mg → (∀ p ∈ cs, TabB base mg p.1 p.2) → FnG l.prog w K mg base CX k fa fd [x] sp
theorem walk_ofG {l : PySem.W.OpenLaw} {n k : Nat} {q : Program} {loose : List Str} {XP : (Str → Option Value) → Heap → Prop} {YP : World → Heap → Prop} {d : DefRec} {K : Params → PySem.W.Frag} {CX : World → CXT} {x : Str}
    (most : l.most = some n) (line : n ≤ sizeLine) (plain : d.params.defaults = []) (room : Room k callerA) (known : ∀ (w : World) (h : Heap), YP w h → (K w.params).In h)
    (at_ : ∀ (w : World) (mg : Str → Option Value) (fa : Addr) (h : Heap), YP w h → (K w.params).In h → h.Ns mainGlobals mg → mg d.name = some (.ref fa) → LawAtG l w (K w.params) (CX w) k n x mg fa h)
    (calm : ∀ (w : World) (H : Hp) (s : Shared) (e : Value) (s' : Shared), CX w [] H s (fun _ _ _ => False) e s' → False) : PySem.W.WalkO q loose XP YP l.row.toRowW d [] (fun f vs => PySem.call f vs) := by
  refine Att.attach_callB most plain fun w _ s mg mb fa _ _ _ _ a vs ns G Y _ _ _ name here isI short _ bare => ?_
  obtain ⟨fd, cs, sp, ⟨t1, t2, t3⟩, bind, pre, F⟩ := at_ w mg fa _ Y (known w _ Y) G.T.g name
  exact law_callG ⟨known w _ Y, G.T.g, G.T.b, G.T.builtins, G.T.nolimit, t1, t2, t3, G.T.bmain, here, isI, Nat.le_trans short line⟩ bare room F bind (fun H t S => pre H a ns short t S) fun H e s' => calm w H s e s'
end KA
namespace KU
open PySem PySem.W PySem.Calls PyProof.Rows PySem.HandSPX
/-! ### an own error whose __init__(self, f) says super().__init__(e) and self.f = f -/
abbrev upBody (f : Str) (e : Expr) (p0 p1 p2 p3 pe q1 q2 q3 q4 : Pos) : List Stmt :=
  [.Expr (.Call (.Attribute (.Call (.Name "super" p0) [] [] p1) "__init__" p2) [e] [] p3) pe, .Assign [.Attribute (.Name "self" q1) f q2] (.Name f q3) q4]
abbrev upArgs (f : Str) (r1 r2 : Pos) : Arguments := { posonlyargs := [], args := [{ arg := "self", annotation := none, pos := r1 }, { arg := f, annotation := none, pos := r2 }], vararg := none, kwonlyargs := [], kw_defaults := [], kwarg := none, defaults := [] }
abbrev upScope (f : Str) : Scope := { kind := .function, names := [(PySem.Str.ofString "self", .local), (f, .local), (PySem.Str.ofString "__class__", .free), (PySem.Str.ofString "super", .globalImplicit)], isGenerator := false, isCoroutine := false, more := [] }
/-- what the written part says of the class at C, of its __init__ at fI -/
structure UpTxt (P : Program) (K : Frag) (C fI cda cc : Addr) (qual f : Str) (e : Expr) : Prop where
  fn : ∃ (oc : Value) (od : Option Addr) (doc pm : Value) (an : Option Addr) (ct : Value) (osl : Array (Option Value)) (r1 r2 p0 p1 p2 p3 pe q1 q2 q3 q4 : Pos),
    K.lookup fI = some ⟨oc, od, .func (ksFn "__init__" qual (upArgs f r1 r2) (upBody f e p0 p1 p2 p3 pe q1 q2 q3 q4) (upScope f) .none .none doc pm an (.ref cda) ct cc), osl⟩ ∧
      (∀ a b : Value, bindArgs (ksFn "__init__" qual (upArgs f r1 r2) (upBody f e p0 p1 p2 p3 pe q1 q2 q3 q4) (upScope f) .none .none doc pm an (.ref cda) ct cc) ⟨[a, b], []⟩ = pure [(PySem.Str.ofString "self", a), (f, b)]) ∧
      (∀ L : Addr, swapsWith (.Name f q3) (some (.Attribute (.Name "self" q1) f q2)) q4.line (ksEnv qual (upScope f) L fI (.ref cda) cc) = pure false) ∧
      ∃ pl : Sem Bool, ∀ L : Addr, eval (.Call (.Attribute (.Call (.Name "super" p0) [] [] p1) "__init__" p2) [e] [] p3) (ksEnv qual (upScope f) L fI (.ref cda) cc) = (do
        let o ← attributeBase (.Call (.Name "super" p0) [] [] p1) "__init__" (ksEnv qual (upScope f) L fI (.ref cda) cc) (eval (.Call (.Name "super" p0) [] [] p1) (ksEnv qual (upScope f) L fI (.ref cda) cc))
        standAt p2.atName
        let (g, first) ← holding [o] (getMethod o "__init__" pl)
        callWith p3 g first (backTo p3 (starEach [e] (ksEnv qual (upScope f) L fI (.ref cda) cc))) [])
  star : ∀ env : Env, starEach [e] env = [(false, eval e env)]
  code : codeIn K (.ref cda) qual = true
  file : ∃ (cl : Value) (cdd : Option Addr) (vs : Array Value) (ccs : Array (Option Value)) (fl : Str) (tf : Tok), K.lookup cda = some ⟨cl, cdd, .fields vs, ccs⟩ ∧ vs[2]? = some (.str fl tf) ∧ ((P.main.file : Str) == fl) = true
  cell : ∃ (cl : Value) (cld : Option Addr) (csl : Array (Option Value)), K.lookup cc = some ⟨cl, cld, .cell (some (.ref C)), csl⟩
  cls : ∃ cd, clsIn K C = some cd ∧ refsVE cd.mro = true ∧ cd.hasDict = true
  self : mroIn K C (.ref C) = some true
  noSuper : nsIn K mainGlobals "super" = some none
  top : (P.main.scope.names.lookup ("super" : Str)).isSome = false
  third : nsIn K cStatics "thirdparty.any" = some none
  up : ks_superIn K C C "__init__" = some (some (.builtin "ValueError.__init__"))
  val : subIn K (.ref C) (.type "ValueError") = some true
  own : excInitIn K C [.type "ValueError", .type "Exception", .type "BaseException", .type "object"] "ValueError.__new__" = true
  set : findIn K (.ref C) "__setattr__" = some (some (.builtin "object.__setattr__"))
  noF : findIn K (.ref C) f = some none
  obj : ∃ (nm q : Str) (N : Addr) (bs bm : List Value) (sn : List Str) (sub : List Value) (ab : Bool) (col : Option Bool) (dd : Option Addr) (k0 k1 k2 k3 k5 : Option Value),
    K.lookup C = some (excClassObj nm q C N bs bm true sn sub ab col dd k0 k1 k2 k3 k5 "ValueError.__new__") ∧ refsVE bm = true
  iC : findIn K (.ref C) "__init__" = some (some (.ref fI))
  tC : typeIn K (.ref fI) = some (.type "function")
  ga : findIn K (.ref C) "__getattribute__" = some (some (.builtin "BaseException.__getattribute__"))
  gg : findIn K (.ref C) "__getattr__" = some none
  kC : keepIn K (.ref C) = true
  exC : subIn K (.ref C) (.type "BaseException") = some true
  tyC : typeIn K (.ref C) = some (.type "type")
  hdC : hasDictIn K C = true
  nf : f ≠ "self" ∧ f ≠ "__class__" ∧ f ≠ "super" ∧ f ≠ "__debug__"
/-- what it leaves of a fresh exception at x -/
structure UpEnd (h h' : Heap) (x C dx t1 : Addr) (f : Str) (v : Value) : Prop where
  keep : ∀ b o, b ≠ x → h.get? b = some o → h'.get? b = some o
  obj : h'.get? x = some { cls := .ref C, dict := some dx, data := .fields #[.ref t1, .none, .none, .none, .bool false, .none] }
  big : h.objs.size ≤ dx
  ne : dx ≠ x
  ns : h'.Ns1 dx (fun y => if y = f then some v else none)
section
variable {prog : Program} {w : World} {A : Around} {R : Result → Shared → Prop} {s : Shared} {K : Frag} {mg mb : Str → Option Value} {C fI cda cc : Addr} {qual f : Str} {e : Expr}
theorem up_init (T : UpTxt prog K C fI cda cc qual f e) {x t0 : Addr} {v : Value} (X : K.In s.heap) (hlim : s.heap.NoLimit) (hg : s.heap.Ns mainGlobals mg) (hb : s.heap.Ns builtinsNs mb) (hbb : ∀ y : Str, y ≠ "__name__" → mb y = bootBuiltins y)
    (hx : s.heap.get? x = some (excO C t0)) (hnx : K.lookup x = none) (hroom : A.depth < recursionLimit)
    (text : ∀ (A' : Around) (E : Value → Shared → Prop) (s' : Shared) (L : Addr) (m : Str → Option Value) (Q : Value → Shared → Prop), s'.heap.Ns L m → m f = some v → (∀ (z : Str) (t t' : Tok), Q (.str z t) { s' with toks := t' }) → wpAny (model prog w) A' (eval e (ksEnv qual (upScope f) L fI (.ref cda) cc)) Q E s')
    (hq : ∀ h' tk dx t1, UpEnd s.heap h' x C dx t1 f v → R (.ok (.ret .none)) { s with heap := h', toks := tk }) :
    codeAny (model prog w) A (.call (.ref fI) ⟨[.ref x, v], []⟩) R s := by
  obtain ⟨hp, g, dr, tk, os⟩ := s
  dsimp only at X hlim hg hb hx
  obtain ⟨oc, od, doc, pm, an, ct, osl, r1, r2, p0, p1, p2, p3, pe, q1, q2, q3, q4, ho, hbd, hswap, pl, hcall⟩ := T.fn
  obtain ⟨n1, n2, n3, n4⟩ := T.nf
  have lf : (upScope f).names.lookup f = some .local := by
    show List.lookup f ((PySem.Str.ofString "self", NameKind.local) :: _) = _
    rw [List.lookup_cons]
    cases f == PySem.Str.ofString "self" with
    | true => rfl
    | false =>
      show List.lookup f ((f, NameKind.local) :: _) = _
      rw [List.lookup_cons, beq_self_eq_true]
  refine ks_codeAny_call_defAt (binds := [(PySem.Str.ofString "self", .ref x), (f, v)]) (body := upBody f e p0 p1 p2 p3 pe q1 q2 q3 q4) hroom (X _ _ ho) rfl hlim (codeRec_of X T.code) rfl ?bind ?cells ?locs (fun h₁ hns keep => ?_) rfl rfl rfl
  case bind => exact .of_eq (hbd _ _)
  case cells =>
    intro y hy
    simp only [List.mem_cons, List.not_mem_nil, or_false] at hy
    rcases hy with z | z | z | z <;> (subst z; exact fun q => by cases q)
  case locs =>
    intro y hy
    simp only [List.mem_cons, List.not_mem_nil, or_false] at hy
    rcases hy with z | z <;> subst z
    · rfl
    · exact lf
  have X1 : K.In h₁ := X.keeps keep
  have ms : (List.lookup (PySem.Str.ofString "self") [(PySem.Str.ofString "self", Value.ref x), (f, v)].reverse) = some (.ref x) := by
    show List.lookup (PySem.Str.ofString "self") [(f, v), (PySem.Str.ofString "self", Value.ref x)] = _
    rw [List.lookup_cons, beq_false_of_ne (Ne.symm n1)]
    rfl
  have mf : (List.lookup f [(PySem.Str.ofString "self", Value.ref x), (f, v)].reverse) = some v := by
    show List.lookup f [(f, v), (PySem.Str.ofString "self", Value.ref x)] = _
    rw [List.lookup_cons, beq_self_eq_true]
  obtain ⟨cd, hcd, hmro, hdict⟩ := T.cls
  obtain ⟨cl, cdd, vs, ccs, fl, tf, hcode, hvs, hfile⟩ := T.file
  obtain ⟨ccl, cld, csl, hcell⟩ := T.cell
  have hx1 := keep _ _ hx
  generalize hm : (fun y => List.lookup y [(PySem.Str.ofString "self", Value.ref x), (f, v)].reverse) = m at hns
  have ms' : m "self" = some (.ref x) := by rw [← hm]; exact ms
  have mf' : m f = some v := by rw [← hm]; exact mf
  clear ms mf hm
  show PySem.wpAt _ _ _ (execs (upBody f e p0 p1 p2 p3 pe q1 q2 q3 q4) (ksEnv qual (upScope f) hp.objs.size fI (.ref cda) cc)) _ _ _
  refine ks_wpAt_execs_cons (ks_wpAt_Expr_any (ks_wpAt_MethodCall (pl := pl) ?_ (hcall _)))
  obtain ⟨oC, hC1, hC2⟩ : ∃ oC, h₁.get? C = some oC ∧ oC.data = .cls cd := by
    unfold clsIn at hcd
    split at hcd
    · rename_i c d cd' sl z
      cases hcd
      exact ⟨_, X1 _ _ z, rfl⟩
    · cases hcd
  have k1 : (upScope f).names.lookup ("super" : Str) = some .globalImplicit := by
    show List.lookup (PySem.Str.ofString "super") ((f, NameKind.local) :: _) = _
    rw [List.lookup_cons, beq_false_of_ne (Ne.symm n3)]
    rfl
  have k2 : (upScope f).names.lookup ("__class__" : Str) = some .free := by
    show List.lookup (PySem.Str.ofString "__class__") ((f, NameKind.local) :: _) = _
    rw [List.lookup_cons, beq_false_of_ne (Ne.symm n2)]
    rfl
  refine ks_wpAt_super_base (env := ksEnv qual (upScope f) hp.objs.size fI (.ref cda) cc) k1 k2 rfl rfl (X1 _ _ ho) rfl rfl rfl (X1 _ _ hcode) rfl hvs hfile T.top ?_
  refine ks_loadName_global rfl k1 (loadGlobal_builtin (env := ksEnv qual (upScope f) hp.objs.size fI (.ref cda) cc) (hg.keeps keep) (mg_none_of X hg T.noSuper) (hb.keeps keep) ((hbb _ (by decide +kernel)).trans (show bootBuiltins "super" = some (.type "super") by kernel_rfl)) ⟨rfl, ?_⟩)
  refine wpAny_loadName_free rfl k2 rfl ⟨_, X1 _ _ hcell, rfl⟩ ?_
  refine wpAny_loadName_local rfl rfl hns ms' ?_
  refine ks_wpAny_isType_cls hC1 hC2 ⟨rfl, ?_⟩
  refine ks_wpAny_call_super hC1 hC2 hx1 rfl (fun c z => by cases z) (looks_mroIn X1 T.self) (fun h2 so keep2 => ?_)
  have X2 : K.In h2 := X1.keeps keep2
  have hx2 := keep2 _ _ hx1
  have I2 : InstAt h2 x (excO C t0) C none := ⟨hx2, rfl, rfl, trivial⟩
  have along : alongIn K "__init__" ((cd.mro.dropWhile (· != .ref C)).drop 1) = some (some (.builtin "ValueError.__init__")) := by
    have z := T.up
    unfold ks_superIn at z
    rw [hcd] at z
    exact z
  refine kxs_getMethod kxs_ValueError so (looks_opaque X2 T.third) (l₀ := cd.mro) (fun A Q E s k q => wpAny_bind ((looks_clsIn X2 hcd) A _ E s k (wpAny_pure q))) rfl X2 along (I2.type.andThen (looks_subIn X2 T.val)) (ks_ne X2 I2 hcd) rfl ?_
  have push3 : ∀ b o, h2.get? b = some o → (h2.push (kxs_mw "ValueError.__init__" x)).get? b = some o := fun b o z => Heap.get?_push_of_some _ z
  generalize hh3 : h2.push (kxs_mw "ValueError.__init__" x) = h3 at push3
  have hu : h3.get? h2.objs.size = some (kxs_mw "ValueError.__init__" x) := by
    rw [← hh3]
    exact Heap.get?_push_at rfl rfl
  generalize h2.objs.size = u at hu
  have X3 : K.In h3 := X2.keeps push3
  have hx3 := push3 _ _ hx2
  have hns3 : h3.Ns hp.objs.size m := (hns.keeps keep2).keeps push3
  rw [T.star]
  refine kxs_callWith (i := "ValueError.__init__") (x := x) (u := u) rfl (evalArgs_plain (spliced_cons ?_))
  refine text _ _ _ _ _ _ hns3 mf' fun z zt t' => spliced_nil ⟨hu, ?_⟩
  obtain ⟨nm, N', qn, bs, bm, hdct, sn, sub, ab, col, dd, kk0, kk1, kk2, kk3, kk5, hC, hT⟩ := excInit_of X3 T.own
  refine wpAny_call (codeAny_of_tree ?_)
  show wpAny _ (Around.in1 _) (callAny (.ref u) ⟨[.str z zt], []⟩) _ _ _
  simp only [callAny]
  refine wpAny_bind (wpAny_load hu ?_)
  simp only [kxs_mw, show (Value.type "method-wrapper" == Value.type "method" || Value.type "method-wrapper" == Value.type "builtin_function_or_method" || Value.type "method-wrapper" == Value.type "method-wrapper") = true by decide, if_true]
  have FB := F.excBase_ValueError
  refine KFB.if_so (by decide) (wpAny_bind (check_bound_init FB.toExcCallFacts hC hx3 rfl (wpAny_bind (wpAny_pure (wpAny_pure ⟨plainId_quiet FB.init.plain _, codeAny_builtin FB.initEntry ?_⟩)))))
  refine exc_init_tree (cls := .ref C) (t0 := t0) (dv := none) (c2 := .none) (c3 := .none) (b4 := .bool false) hx3 (by show 1 ≤ sizeLine; decide) fun h4 keep4 hx4 _ => ?_
  have X4 : K.In h4 := fun b o z => keep4 b o (fun q => by rw [q, hnx] at z; cases z) (X3 b o z)
  have hns4 : h4.Ns hp.objs.size m := by
    obtain ⟨oL, es, ep, hL, rest⟩ := hns3
    exact ⟨oL, es, ep, keep4 _ _ (Nat.ne_of_gt (Heap.lt_size hx)) hL, rest⟩
  refine wpAt_of_wpAny (wpAny_execs_cons (plainObj_wpAny_Assign_Attribute ?_ (hswap _)))
  have kf : (ksEnv qual (upScope f) hp.objs.size fI (.ref cda) cc).kindOf f = some .local := lf
  have ndb : (f == ("__debug__" : Str)) = false := beq_false_of_ne n4
  refine wpAny_Name (wpAny_loadName_local rfl kf hns4 mf' ?_) ndb
  refine wpAny_Name (wpAny_loadName_local rfl rfl hns4 ms' ?_) rfl
  refine set_plain X4 (ox := excO C h3.objs.size) (od := none) ⟨hx4, rfl, rfl, trivial⟩ T.set ?_
  refine exc_osa X4 hx4 hcd hmro hdict T.noF fun h5 tk5 dx keep5 big ne5 hx5 hn5 => ?_
  refine wpAny_execs_nil (hq h5 tk5 dx h3.objs.size ⟨fun b o hb z => keep5 b o hb (keep4 b o hb (push3 b o (keep2 b o (keep b o z)))), hx5, ?_, ne5, hn5⟩)
  exact Nat.le_of_lt (Nat.lt_of_lt_of_le hns4.lt big)
/-- a made one -/
structure UpMade (h h' : Heap) (e C d : Addr) (f : Str) (v : Value) : Prop where
  keep : ∀ b o, h.get? b = some o → h'.get? b = some o
  new : h.objs.size ≤ e
  obj : ∃ oe vs, h'.get? e = some oe ∧ oe.cls = .ref C ∧ oe.dict = some d ∧ oe.data = .fields vs ∧ vs[1]? = some .none
  big : h.objs.size ≤ d
  ne : d ≠ e
  ns : h'.Ns1 d (fun y => if y = f then some v else none)
theorem up_made (T : UpTxt prog K C fI cda cc qual f e) {v : Value} (X : K.In s.heap) (hlim : s.heap.NoLimit) (hg : s.heap.Ns mainGlobals mg) (hb : s.heap.Ns builtinsNs mb) (hbb : ∀ y : Str, y ≠ "__name__" → mb y = bootBuiltins y) (hroom : A.depth + 1 < recursionLimit)
    (text : ∀ (A' : Around) (E : Value → Shared → Prop) (s' : Shared) (L : Addr) (m : Str → Option Value) (Q : Value → Shared → Prop), s'.heap.Ns L m → m f = some v → (∀ (z : Str) (t t' : Tok), Q (.str z t) { s' with toks := t' }) → wpAny (model prog w) A' (eval e (ksEnv qual (upScope f) L fI (.ref cda) cc)) Q E s')
    (hq : ∀ h' tk a d, UpMade s.heap h' a C d f v → R (.ok (.ret (.ref a))) { s with heap := h', toks := tk }) : codeAny (model prog w) A (.call (.ref C) ⟨[v], []⟩) R s := by
  obtain ⟨nm, q, N, bs, bm, sn, sub, ab, col, dd, k0, k1, k2, k3, k5, hC, hbm⟩ := T.obj
  obtain ⟨hp, g, dr, tk, os⟩ := s
  dsimp only at X hlim hg hb
  generalize hh : (hp.push (kdv_tup [v])).push (excO C hp.objs.size) = h1
  have k : ∀ b o, hp.get? b = some o → h1.get? b = some o := fun b o z => by
    rw [← hh]
    exact Heap.get?_push_of_some _ (Heap.get?_push_of_some _ z)
  have got : h1.get? (hp.objs.size + 1) = some (excO C hp.objs.size) := by
    rw [← hh]
    heap_get
  have fresh : K.lookup (hp.objs.size + 1) = none := by
    cases z : K.lookup (hp.objs.size + 1) with
    | none => rfl
    | some o => exact absurd (show hp.objs.size + 1 < hp.objs.size from Heap.lt_size (X _ _ z)) (Nat.not_lt.mpr (Nat.le_succ _))
  refine call_own F.excBase_ValueError (fun Y => refsVE_contains Y bm hbm) (X _ _ hC) (looks_findIn X T.iC) (fun self => bind_fn X self T.tC) (by show 1 ≤ sizeLine; decide) ?_
  rw [hh]
  refine up_init (s := ⟨h1, g, dr, tk, os⟩) T (X.keeps k) (hlim.keeps k) (hg.keeps k) (hb.keeps k) hbb got fresh hroom text fun h' tk' dx t1 Z => ?_
  have size1 : hp.objs.size ≤ h1.objs.size := Nat.le_of_lt (Nat.lt_of_succ_lt (Heap.lt_size got))
  exact ⟨rfl, hq h' tk' (hp.objs.size + 1) dx ⟨fun b o z => Z.keep b o (Nat.ne_of_lt (Nat.lt_succ_of_lt (Heap.lt_size z))) (k b o z), Nat.le_succ _, ⟨_, _, Z.obj, rfl, rfl, rfl, rfl⟩, Nat.le_trans size1 Z.big, Z.ne, Z.ns⟩⟩
end
end KU
namespace KU
open PySem PySem.W PySem.Calls PyProof.Rows PySem.HandSPX
/-- what the error says of v can be told -/
abbrev Text (P : Program) (w : World) (fI cda cc : Addr) (qual f : Str) (e : Expr) (v : Value) : Prop :=
  ∀ (A' : Around) (E : Value → Shared → Prop) (s' : Shared) (L : Addr) (m : Str → Option Value) (Q : Value → Shared → Prop), s'.heap.Ns L m → m f = some v → (∀ (z : Str) (t t' : Tok), Q (.str z t) { s' with toks := t' }) →
    wpAny (model P w) A' (eval e (ksEnv qual (upScope f) L fI (.ref cda) cc)) Q E s'
theorem kind_f {f : Str} : (upScope f).names.lookup f = some .local := by
  show List.lookup f ((PySem.Str.ofString "self", NameKind.local) :: _) = _
  rw [List.lookup_cons]
  cases f == PySem.Str.ofString "self" with
  | true => rfl
  | false =>
    show List.lookup f ((f, NameKind.local) :: _) = _
    rw [List.lookup_cons, beq_self_eq_true]
/-- f'z{f}' of an int, of a text -/
theorem text_of {P : Program} {w : World} {fI cda cc : Addr} {qual f z : Str} {j : Nat} {pc pn pf pj : Pos} {v : Value} {y : Str} (hd : f ≠ "__debug__")
    (fld : ∀ (A' : Around) (E : Value → Shared → Prop) (s' : Shared) (Q : Value → Shared → Prop), (∀ (t t' : Tok), Q (.str y t) { s' with toks := t' }) → wpAny (model P w) A' (formatField v Str.empty) Q E s')
    (h1 : z.length ≤ sizeLine) (h2 : (z ++ y).length ≤ sizeLine) : Text P w fI cda cc qual f (.JoinedStr [.Constant (.str z) j pc, .FormattedValue (.Name f pn) (-1) none pf] pj) v := by
  intro A' E s' L m Q hn hm k
  refine wpAny_JoinedStr ?_
  have e0 : ∀ env : Env, evalEach [.Constant (.str z) j pc, .FormattedValue (.Name f pn) (-1) none pf] env = [eval (.Constant (.str z) j pc) env, eval (.FormattedValue (.Name f pn) (-1) none pf) env] := fun _ => by first | rfl | simp [evalEach]
  rw [e0]
  have e1 : Str.empty ++ z = z := by
    show (⟨#[] ++ z.cps⟩ : Str) = z
    rw [Array.empty_append]
  refine Calls.Constant_str ⟨z, _, rfl, by rw [e1]; exact h1, ?_⟩
  rw [e1]
  refine wpAny_FormattedValue_plain (wpAny_Name (wpAny_loadName_local rfl (show (ksEnv qual (upScope f) L fI (.ref cda) cc).kindOf f = some .local from kind_f) hn hm ?_) (beq_false_of_ne hd))
  exact fld _ _ _ _ fun t t' => ⟨y, t, rfl, h2, h2, k _ _ _⟩
theorem text_int {P : Program} {w : World} {fI cda cc : Addr} {qual f z : Str} {j : Nat} {pc pn pf pj : Pos} {i : Int} {t : Tok} (hd : f ≠ "__debug__") (hi : i.natAbs.log2 < 1920) (h1 : z.length ≤ sizeLine) (h2 : (z ++ (toString i : String)).length ≤ sizeLine) :
    Text P w fI cda cc qual f (.JoinedStr [.Constant (.str z) j pc, .FormattedValue (.Name f pn) (-1) none pf] pj) (.int i t) :=
  text_of hd (fun _ _ _ _ k => wpAny_formatField_int hi (k _ _)) h1 h2
theorem text_str {P : Program} {w : World} {fI cda cc : Addr} {qual f z y : Str} {j : Nat} {pc pn pf pj : Pos} {t : Tok} (hd : f ≠ "__debug__") (h1 : z.length ≤ sizeLine) (h2 : (z ++ y).length ≤ sizeLine) (h3 : y.length ≤ sizeLine) :
    Text P w fI cda cc qual f (.JoinedStr [.Constant (.str z) j pc, .FormattedValue (.Name f pn) (-1) none pf] pj) (.str y t) :=
  text_of hd (fun _ _ _ _ k => wpAny_formatField_str (k _ _) (k _ _) h3) h1 h2
end KU
namespace KU
open PySem PySem.Spec PyProof.Rows L2
theorem relO_up {v : V} {v' : Value} {n : Str} (r : RelV v v') (f : Str) : RelO (List.lookup f [(n, v)]) (if f = n then some v' else none) := by
  by_cases c : f = n
  · subst c
    rw [if_pos rfl, List.lookup_cons, beq_self_eq_true]
    exact r
  · rw [if_neg c, List.lookup_cons, beq_false_of_ne c]
    trivial
section
variable {X : Cx} {C fI cda cc : Addr} {qual f x : Str} {e : Expr}
/-- x(a), x the class's name -/
def tMkUp (T : Value → Prop) (C : Addr) (f : Str) (ta : TA) : L2.St → Hp → XK → Prop := fun σ H Q => ta σ H fun vs H1 => ∃ v, vs = [v] ∧ (∀ v', RelV v v' → T v') ∧ ∀ d, H1 d = none → Q (.ref C) (some d) (upd H1 d (.xd [(f, v)]))
theorem pmk_up {a : Expr} {ta : TA} {p pos : Pos} {k : Nat} (T : UpTxt X.prog X.K C fI cda cc qual f e) (gC : X.mg x = some (.ref C)) (hr : Room k X.A) (ha : PA X [a] ta) (hg : Gl X x) (hdb : (x == ("__debug__" : Str)) = false := by decide)
    (he : starEach (a :: []) X.env = (false, eval a X.env) :: starEach [] X.env := by rfl) (hpl : (backTo pos (starEach [] X.env)).any (·.1) = false := by rfl) :
    PMk X (.Call (.Name x p) [a] [] pos) (tMkUp (Text X.prog X.w fI cda cc qual f e) C f ta) := by
  intro pins s σ H Q I h
  refine wpAny_Call_Name_kw (ld_glob I hg gC ?_ hdb)
  refine PySem.W.callWith_K (h₀ := X.base) I.ok.mod.kin T.kC (thn (ha.run pos pins s σ H _ I h) fun us s1 hh => ?_) he hpl
  obtain ⟨vs, H1, I1, r1, v, rfl, ht, q1⟩ := hh
  refine ⟨I1.kIn, ?_⟩
  cases r1 with
  | cons rv rn =>
    rename_i v' us'
    cases rn
    show wpAny _ _ (call (.ref C) [v']) _ _ _
    obtain ⟨mb, b1, b2⟩ := I1.mod.blt
    have lim := I1.nolimit
    have glob := I1.mod.glob.keeps I1.bk
    have blt := b1.keeps I1.bk
    have dp := hr.dp
    obtain ⟨hp, g, dr, tk, os⟩ := s1
    refine wpAny_call (up_made T I1.kIn lim glob blt b2 (by omega) (ht v' rv) fun h' tk' a' d M => ?_)
    show MkP X pins σ Q (.ref a') ⟨h', g, dr, tk', os⟩
    obtain ⟨oe, fv, hoe, hc, hd, hdat, one⟩ := M.obj
    obtain ⟨G, in_, out⟩ := restrict h' fun b => decide (b ≠ a')
    have same : ∀ b, b ≠ a' → G.get? b = h'.get? b := fun b hb => in_ b (decide_eq_true hb)
    have gone : G.get? a' = none := out a' (by simp)
    have stay : ∀ b o, hp.get? b = some o → G.get? b = some o := fun b o z => (same b (Nat.ne_of_lt (Nat.lt_of_lt_of_le (Heap.lt_size z) M.new))).trans (M.keep b o z)
    have own : ObjOk X.prog X.w (upd H1 d (.xd [(f, v)])) G d (.xd [(f, v)]) := ⟨_, M.ns.at (fun o z => (same d M.ne).trans z), fun y => relO_up rv y⟩
    have J : Inv X pins σ (upd H1 d (.xd [(f, v)])) ⟨G, g, dr, tk', os⟩ := I1.laid (t' := tk') stay M.big own
    refine ⟨a', oe, fv, ⟨G, g, dr, tk', os⟩, _, .ref C, some d, rfl, J, fun b o z => ?_, gone, hoe, ⟨hc, hd⟩, hdat, one, ?_, rfl, I1.bare, raises_own T.exC T.tyC, q1 d (I1.hok.fresh M.big)⟩
    · have hb : b ≠ a' := fun y => by
        rw [y] at z
        exact absurd (gone.symm.trans z) (by simp)
      exact (same b hb).symm.trans z
    · rw [upd_ne (Ne.symm M.ne)]
      exact I1.hok.fresh M.new
/-- raise x(a) -/
theorem ps_raiseUp {a : Expr} {ta : TA} {W : WX} {p pos pos2 : Pos} {k : Nat} (hc : X.calm = true) (T : UpTxt X.prog X.K C fI cda cc qual f e) (gC : X.mg x = some (.ref C)) (hr : Room k X.A) (tk : Takes X W) (ha : PA X [a] ta) (hg : Gl X x) (hdb : (x == ("__debug__" : Str)) = false := by decide)
    (he : starEach (a :: []) X.env = (false, eval a X.env) :: starEach [] X.env := by rfl) (hpl : (backTo pos (starEach [] X.env)).any (·.1) = false := by rfl) :
    PS X (.Raise (some (.Call (.Name x p) [a] [] pos)) none pos2) (fun _ σ H => tMkUp (Text X.prog X.w fI cda cc qual f e) C f ta σ H fun cls d H' => W cls d σ H') := ps_raise hc tk (pmk_up T gC hr ha hg hdb he hpl)
/-- err.f, err an exception that is kept as a value -/
def tUpGet (C : Addr) (f : Str) (te : TE) : TE := fun σ H Q => te σ H fun x H1 => ∃ (a d : Addr) (v : V), x = .ref a ∧ H1 a = some (KA.ExV (.ref C) (some d) a) ∧ H1 d = some (.xd [(f, v)]) ∧ Q v H1
theorem pe_upGet {o : Expr} {te : TE} {pos : Pos} (T : UpTxt X.prog X.K C fI cda cc qual f e) (he : PE X o te) (hb : attributeBase o f X.env (eval o X.env) = eval o X.env := by rfl) :
    PE X (.Attribute o f pos) (tUpGet C f te) := by
  refine ⟨fun pins s σ H Q I h => ?_⟩
  refine attr_of hb (thn (he.run pins s σ H _ I h) fun u s1 hh => ?_)
  obtain ⟨x, H1, I1, rx, a, d, v, rfl, ha, hd, q⟩ := hh
  obtain rfl : u = Value.ref a := rx
  obtain ⟨⟨oe, got, z, vs, dat⟩, _⟩ := I1.hok a _ ha
  obtain ⟨mA, ns, rel⟩ := I1.hok d _ hd
  obtain ⟨od, at_, look⟩ := lookIn_ns ns
  have l : List.lookup f [(f, v)] = some v := by rw [List.lookup_cons, beq_self_eq_true]
  obtain ⟨u, hu, ru⟩ := RelO.some_of (v := v) (o := mA f) (by rw [← l]; exact rel f)
  have J : PySem.W.InstAt s1.heap a oe C (some od) := ⟨got, z.1, by unfold PySem.W.notCls; rw [dat] <;> rfl, by rw [z.2]; exact at_⟩
  exact HandSPX.exc_get I1.kIn J T.ga T.gg T.exC (PySem.W.findObj_own T.hdC T.noF rfl (by rw [look, hu])) (handed_of ru) ⟨v, H1, I1.tok _, ru, q⟩
end
end KU
namespace KW
open PySem PySem.Spec PyProof.Rows L2 PySem.W LamX
/-! ### a lambda without parameters that is handed on from def to def: it stands as it was made, whoever calls it -/
theorem un_comp {fs gs : List Addr} {H H1 H2 : Hp} {h h1 h2 : Heap} (a : Un fs [] H H1 h h1) (b : Un gs [] H1 H2 h1 h2) (sub : ∀ x ∈ gs, x ∈ fs ∨ h.get? x = none) : Un fs [] H H2 h h2 := by
  have no : ∀ {x : Addr} {o : Obj}, h.get? x = some o → x ∉ fs → x ∉ gs := fun e n z => by
    rcases sub _ z with q | q
    · exact n q
    · rw [q] at e
      cases e
  refine ⟨fun x o e n hx _ => ?_, fun x o e n hx _ => ?_, fun x o e n _ => ?_, fun x o e _ => ?_, fun x xs e => b.tups _ _ (a.tups _ _ e), fun x o u e => b.frzs _ _ _ (a.frzs _ _ _ e), fun x ps e => ?_⟩
  · exact b.keep x o (a.keep x o e n hx (by simp)) (a.free x o e n (by simp)) (no e hx) (by simp)
  · obtain ⟨sl, e1⟩ := a.slot x o e n hx (by simp)
    have n1 := a.free x o e n (by simp)
    by_cases hg : x ∈ gs
    · obtain ⟨sl2, e2⟩ := b.slot x _ e1 n1 hg (by simp)
      exact ⟨sl2, e2⟩
    · exact ⟨sl, b.keep x _ e1 n1 hg (by simp)⟩
  · obtain ⟨o1, e1⟩ := a.there x o e (by simp)
    exact b.free x o1 e1 (a.free x o e n (by simp)) (by simp)
  · obtain ⟨o1, e1⟩ := a.there x o e (by simp)
    exact b.there x o1 e1 (by simp)
  · obtain ⟨m1, e1⟩ := a.tbls x ps e
    obtain ⟨m2, e2⟩ := b.tbls x _ e1
    exact ⟨m1 ++ m2, by rw [e2, Array.append_assoc]⟩
/-- the lambda at f, its code object at c' of the name q, made where the heaps were H0, h0; fs: the frames that ran then; t: what it promises -/
structure Work (P : Program) (w : World) (K : PySem.W.Frag) (mg : Str → Option Value) (base : Heap) (k : Nat) (fs : List Addr) (H0 : Hp) (h0 : Heap) (f c' : Addr) (q : Str) (t : XK → Hp → VK → Prop) : Prop where
  obj : ∃ (params : Arguments) (body : Expr) (scope : Scope) (cl : List (Str × Addr)) (pm ctv : Value), h0.get? f = some (PySem.W.kla_obj "<lambda>" q params body scope cl pm c' ctv)
  free : H0 f = none
  out : f ∉ fs
  run : ∀ (A : Around) (outer : List Env) (s1 : Shared) (HZ : Hp) (Q : VK) (E : XK), Room (k + 1) A → Env0 P w K mg base A outer s1 HZ → Un fs [] H0 HZ h0 s1.heap → HZ c' = some (CodeO c' q) → t E HZ Q →
    codeAny (model P w) A (.call (.ref f) ⟨[], []⟩) (CR (L2.CX P w) outer P w HZ s1 Q E) s1
section
variable {X : Cx} {pins : List (Addr × Obj)} {σ : L2.St} {H : Hp} {s : Shared}
theorem work_of {k : Nat} {f c' : Addr} {pm ctv : Value} {params : Arguments} {body : Expr} {scope : Scope} {tb : XK → TE} (I : Inv X pins σ H s) (L : LamS X.env.scope scope)
    (hf : s.heap.get? f = some (PySem.W.kla_obj "<lambda>" (X.env.qual ++ "<lambda>") params body scope (cloFrom X.env.cells scope.names []) pm c' ctv)) (hfn : H f = none) (hfr : f ∉ frs X.stack)
    (hbind : bindArgs (PySem.W.kla_fn "<lambda>" (X.env.qual ++ "<lambda>") params body scope (cloFrom X.env.cells scope.names []) pm (.ref c') ctv) ⟨[], []⟩ = pure [])
    (hbody : ∀ (A : Around) (outer : List Env) (s1 : Shared) (HZ : Hp) (E : XK), Room k (A.deeper (lamEnv X scope s1.heap.objs.size f c')) → PE (lamCx X A outer s1 HZ E scope f c') body (tb E)) :
    Work X.prog X.w X.K X.mg X.base k (frs X.stack) H s.heap f c' (X.env.qual ++ "<lambda>") (fun E HZ Q => tb E σ HZ Q) := by
  refine ⟨⟨_, _, _, _, _, _, hf⟩, hfn, hfr, fun A outer s1 HZ Q E hr e0 un hc ht => ?_⟩
  have of1 := un.keep f _ hf hfn hfr (by simp)
  obtain ⟨⟨oc, vs, t, hoc, hdc, hvc⟩, _, _⟩ := e0.hok c' _ hc
  have lim : s1.heap.NoLimit := e0.mod.nolimit.keeps fun b o e => (e0.bs b o e).1
  refine PySem.W.kla_callFunE hr.depth of1 rfl L.co L.gen rfl ⟨c', oc, vs, t, rfl, hoc, hdc, hvc⟩ ?_
  rw [hbind]
  refine wpAny_pure (wpAny_newFunctionEnv (fun y hy => (L.own y hy).2) (fun y hy => absurd hy (by simp)) (fun h₁ hns hsb => ⟨lim.fresh _ hsb, ?_⟩) L.kind)
  show codeAny _ _ (.expr body (lamEnv X scope s1.heap.objs.size f c')) _ _
  have kp : ∀ b o, s1.heap.get? b = some o → h₁.get? b = some o := fun b o e => hsb.extBut b o (Nat.ne_of_lt (Heap.lt_size e)) (Heap.get?_push_of_some _ e)
  have J : Inv (lamCx X A outer s1 HZ E scope f c') [] σ HZ { s1 with heap := h₁, toks := s1.toks + ([] : List (Str × Value)).length } := lam_start2 I L e0 hr.hd un hns kp
  refine PySem.W.kla_codeExpr (wpAny_mono ((hbody A outer s1 HZ E (hr.deeper _)).run [] _ _ HZ Q J ht) (fun v s' hq => ?_) fun e s' hq => hq)
  obtain ⟨w', H', J', rv, q⟩ := hq
  exact ⟨w', H', J'.os, J'.bare, J'.base, J'.hok, rv, q⟩
end
section
variable {Z : Cx} {k : Nat} {fs : List Addr} {H0 : Hp} {h0 : Heap} {f c' : Addr} {q : Str} {t : XK → Hp → VK → Prop}
/-- where Z stands to the making -/
structure Since (Z : Cx) (fs : List Addr) (H0 : Hp) (h0 : Heap) : Prop where
  un : Un fs [] H0 Z.H_0 h0 Z.s_0.heap
  sub : ∀ b ∈ Z.fs, b ∈ fs ∨ h0.get? b = none
  ex : Z.ex = []
theorem Since.now {pins : List (Addr × Obj)} {σ : L2.St} {H : Hp} {s : Shared} (S : Since Z fs H0 h0) (I : Inv Z pins σ H s) : Un fs [] H0 H h0 s.heap := by
  have b := I.base
  rw [S.ex] at b
  exact un_comp S.un b S.sub
theorem Since.stk {pins : List (Addr × Obj)} {σ : L2.St} {H : Hp} {s : Shared} (S : Since Z fs H0 h0) (I : Inv Z pins σ H s) : ∀ b ∈ frs Z.stack, b ∈ fs ∨ h0.get? b = none := fun b hb => by
  rcases List.mem_cons.mp (I.stkSub b hb) with e | e
  · refine .inr ?_
    cases z : h0.get? b with
    | none => rfl
    | some o =>
      obtain ⟨o', z'⟩ := S.un.there b o z (by simp)
      have l := Heap.lt_size z'
      have a := I.ok.above
      rw [e] at l
      exact absurd l (Nat.not_lt.mpr a)
  · exact S.sub b e
/-- the slot's name is called: a work stands in it -/
theorem pe_work {i : Nat} {a : Str} {E : XK} {p1 p2 : Pos} (Wk : Work Z.prog Z.w Z.K Z.mg Z.base k fs H0 h0 f c' q t) (S : Since Z fs H0 h0) (hx : Passes (L2.CX Z.prog Z.w) Z E) (hr : Room (k + 1) Z.A) (hN : Z.N[i]? = some a) (hv : Vis Z.env.scope a)
    (hd : (a == ("__debug__" : Str)) = false := by decide) (hcd : (a == ("__classdict__" : Str)) = false := by decide) :
    PE Z (.Call (.Name a p1) [] [] p2) (fun σ H Q => σ[i]? = some (some (.ref f)) ∧ H c' = some (CodeO c' q) ∧ t E H Q) := by
  refine ⟨fun pins s σ H Q I h => ?_⟩
  obtain ⟨hs, hc, ht⟩ := h
  refine wpAny_Call_Name_kw (thn ((pe_var (pos := p1) (i := i) hN hv hd hcd).run pins s σ H (fun v H1 => v = .ref f ∧ H1 = H) I ⟨.ref f, hs, rfl, rfl⟩) fun u s1 ⟨v, H1, I1, r1, q1⟩ => ?_)
  obtain ⟨ev, eH⟩ := q1
  subst ev
  rw [eH] at I1
  obtain rfl : u = Value.ref f := r1
  obtain ⟨_, _, _, _, _, _, ob⟩ := Wk.obj
  have un := S.now I1
  have of1 := un.keep f _ ob Wk.free Wk.out (by simp)
  refine PySem.W.callWith_F0 ⟨_, _, _, _, of1⟩ ?_
  refine wpAny_call (codeAny_mono (Wk.run Z.A Z.stack s1 H Q E hr I1.env0 un hc ht) fun r s' hq => ?_)
  match r, hq with
  | .error e, hq => exact hx pins σ H s1 e s' I1 hq
  | .ok (.ret u), hq => exact I1.after hq
  | .ok .next, hq => exact False.elim hq
  | .ok .brk, hq => exact False.elim hq
  | .ok .cont, hq => exact False.elim hq
end
/-- the promise of a def that a work is handed to -/
structure FnW (P : Program) (w : World) (K : PySem.W.Frag) (mg : Str → Option Value) (base : Heap) (fs : List Addr) (H0 : Hp) (h0 : Heap) (CX : CXT) (k : Nat) (g : Addr) (fd : FuncData) (ps : List Str) (sp : Sp) : Prop where
  len : ∀ vs H Q E, sp vs H Q E → vs.length = ps.length
  run : ∀ (A : Around) (outer : List Env) (s : Shared) (H : Hp) (args : Args) (us : List Value) (vs : List V) (Q : VK) (E : XK), Room k A → A.guards = some [] → Env0 P w K mg base A outer s H → Un fs [] H0 H h0 s.heap → (∀ b ∈ frs outer, b ∈ fs ∨ h0.get? b = none) →
    BindsTo s fd args (ps.zip us) → Vals vs us → sp vs H Q E → codeAny (model P w) A (.call (.ref g) args) (CR CX outer P w H s Q E) s
theorem fnW_of {CX : CXT} {P : Program} {w : World} {K : PySem.W.Frag} {mg : Str → Option Value} {base : Heap} {fs : List Addr} {H0 : Hp} {h0 : Heap} {k : Nat} {f : Addr} {x qual : Str} {st : Stmt} {fd : FuncData} {N ps : List Str} {sp : Sp} (F : Fun K x qual st f fd) (S : FnScope N ps (defScope st))
    (len : ∀ vs H Q E, sp vs H Q E → vs.length = ps.length)
    (hbody : ∀ (cdv : Value) (A : Around) (outer : List Env) (s : Shared) (H : Hp) (vs : List V) (Q : VK) (E : XK), Room k (A.deeper (envOfC qual (defScope st) s.heap.objs.size f cdv)) → A.guards = some [] → Since (cxOf CX P w K mg base N qual (defScope st) f cdv A outer s H E) fs H0 h0 → sp vs H Q E →
      ∃ t, PSs (cxOf CX P w K mg base N qual (defScope st) f cdv A outer s H E) (defBody st) t ∧ t { nx := fun _ H' => Q .non H', rt := Q } (L2.start N vs) H) : FnW P w K mg base fs H0 h0 CX (k + 1) f fd ps sp := by
  obtain ⟨oc, od, kV, doc, pm, an, cdv, ct, osl, rfl, lk, hcd⟩ := F.ex
  exact ⟨len, fun A outer s H args us vs Q E hr hgd e0 un sub hb r h => run_ofS lk hcd S hr e0 hb r (len _ _ _ _ h) fun hr' => hbody cdv A outer s H vs Q E hr' hgd ⟨un, sub, rfl⟩ h⟩
section
variable {Z : Cx} {CX : CXT} {k : Nat} {fs : List Addr} {H0 : Hp} {h0 : Heap} {g : Addr} {fd : FuncData} {ps : List Str} {sp : Sp} {E : XK} {x : Str} {p pos : Pos} {e : Expr} {es : List Expr} {t : TA}
/-- x(a, ..) in a def that the work has been handed to, handed on -/
theorem pe_wcall (F : FnW Z.prog Z.w Z.K Z.mg Z.base fs H0 h0 CX k g fd ps sp) (S : Since Z fs H0 h0) (hr : Room k Z.A) (hgd : Z.A.guards = some []) (hg : Gl Z x) (hm : Z.mg x = some (.ref g)) (hk : PySem.W.keepIn Z.K (.ref g) = true) (hb : Binds Z.K fd ps []) (hx : Passes CX Z E) (ha : PA Z (e :: es) t)
    (hdb : (x == ("__debug__" : Str)) = false := by decide) (he : starEach (e :: es) Z.env = (false, eval e Z.env) :: starEach es Z.env := by rfl) (hpl : (backTo pos (starEach es Z.env)).any (·.1) = false := by rfl) :
    PE Z (.Call (.Name x p) (e :: es) [] pos) (tCall sp [] E t) := by
  refine ⟨fun pins s σ H Q I h => ?_⟩
  refine wpAny_Call_Name_kw (ld_glob I hg hm ?_ hdb)
  refine PySem.W.callWith_K (h₀ := Z.base) I.ok.mod.kin hk (thn (ha.run pos pins s σ H _ I h) fun us s1 ⟨vs, H1, I1, r, q⟩ => ⟨I1.kIn, ?_⟩) he hpl
  have q : sp (vs ++ []) H1 Q E := q
  rw [List.append_nil] at q
  have hl : us.length = ps.length := by rw [← r.length]; exact F.len _ _ _ _ q
  have bt := hb s1 us I1.kIn (by simpa using hl)
  rw [List.append_nil] at bt
  refine wpAny_call (codeAny_mono (F.run Z.A Z.stack s1 H1 ⟨us, []⟩ us vs Q E hr hgd I1.env0 (S.now I1) (S.stk I1) bt r q) fun rr s' hq => ?_)
  match rr, hq with
  | .error e, hq => exact hx pins σ H1 s1 e s' I1 hq
  | .ok (.ret u), hq => exact I1.after hq
  | .ok .next, hq => exact False.elim hq
  | .ok .brk, hq => exact False.elim hq
  | .ok .cont, hq => exact False.elim hq
end
section
variable {X : Cx} {T : List (Addr × Str)} {CX : CXT} {kb k : Nat} {g c P : Addr} {fd : FuncData} {ps : List Str} {E : XK} {x : Str} {params : Arguments} {body : Expr} {scope : Scope} {t : XK → TE} {p lpos pos : Pos} {es : List Expr} {ta : TA} {sp : Addr → Addr → (XK → Hp → VK → Prop) → Sp}
/-- x(lambda: body, ..), x a def that hands it on -/
theorem pe_lamW (FW : ∀ (H0 : Hp) (h0 : Heap) (f c' : Addr) (t' : XK → Hp → VK → Prop), Work X.prog X.w X.K X.mg X.base kb (frs X.stack) H0 h0 f c' (X.env.qual ++ "<lambda>") t' → FnW X.prog X.w X.K X.mg X.base (frs X.stack) H0 h0 CX k g fd ps (sp f c' t'))
    (hg : Gl X x) (hm : X.mg x = some (.ref g)) (hk : PySem.W.keepIn X.K (.ref g) = true) (hb : Binds X.K fd ps []) (hx : Passes CX X E) (hr : Room k X.A) (hgd : X.A.guards = some []) (TB : TabB X.base X.mg c P) (hcode : X.env.code = .ref c) (hmT : (P, X.env.qual ++ "<lambda>") ∈ T) (hu : ∀ p ∈ T, p.1 = P → p.2 = X.env.qual ++ "<lambda>")
    (L : LamS X.env.scope scope) (hdef : defaultsOf params X.env = ([], [])) (hbind : ∀ (q : Str) (cl : List (Str × Addr)) (pm cv ctv : Value), bindArgs (PySem.W.kla_fn "<lambda>" q params body scope cl pm cv ctv) ⟨[], []⟩ = pure [])
    (hbody : ∀ (A : Around) (outer : List Env) (s : Shared) (H : Hp) (E : XK) (f c' : Addr), Room kb (A.deeper (lamEnv X scope s.heap.objs.size f c')) → PE (lamCx X A outer s H E scope f c') body (t E)) (ha : PA X es ta)
    (hdb : (x == ("__debug__" : Str)) = false := by decide) (he : starEach (.Lambda params body scope lpos :: es) X.env = (false, eval (.Lambda params body scope lpos) X.env) :: starEach es X.env := by rfl) (hpl : (backTo pos (starEach es X.env)).any (·.1) = false := by rfl) :
    PE X (.Call (.Name x p) (.Lambda params body scope lpos :: es) [] pos) (fun σ H Q => Tabs T H ∧ ∀ H1, ExtN H H1 → Tabs T H1 → ∀ f c' : Addr, H1 c' = some (CodeO c' (X.env.qual ++ "<lambda>")) →
      ta σ H1 fun vs H2 => sp f c' (fun E H Q => t E σ H Q) (.ref f :: vs) H2 Q E) := by
  refine ⟨fun pins s σ H Q I h => ?_⟩
  obtain ⟨hT, h⟩ := h
  refine wpAny_Call_Name_kw (ld_glob I hg hm ?_ hdb)
  refine PySem.W.callWith_K (h₀ := X.base) I.ok.mod.kin hk ?_ he hpl
  rw [he]
  show wpAny _ _ (spliced ((false, eval (.Lambda params body scope lpos) X.env) :: backTo pos (starEach es X.env))) _ _ s
  refine Calls.spliced_cons (lam_make2 I TB hcode hmT hu hT hdef (L.has I.ok) fun f c' pm' ctv H1 s' I1 eN T1 hf hfn hfr hco => ?_)
  have fl : f ≠ X.env.locals := fun z => by
    obtain ⟨m, ⟨o, es', ep, e1, e2, _⟩, _⟩ := I1.loc
    rw [← z, hf] at e1
    cases e1
    cases e2
  have ff : f ∉ X.fs := fun z => hfr (by
    rcases I1.ok.stk with q | ⟨q, _⟩
    · rw [q]
      exact z
    · rw [q]
      obtain ⟨e, he', q'⟩ := List.mem_filterMap.mp z
      exact List.mem_filterMap.mpr ⟨e, List.mem_cons_of_mem _ he', q'⟩)
  have J1 : Inv X ((f, PySem.W.kla_obj "<lambda>" (X.env.qual ++ "<lambda>") params body scope (cloFrom X.env.cells scope.names []) pm' c' ctv) :: pins) σ H1 s' := I1.pins_of fun q hq => by
    rcases List.mem_cons.mp hq with z | z
    · rw [z]
      exact ⟨hf, hfn, fl, ff, fun v y => by cases y⟩
    · exact I1.pin q (List.mem_append_right _ z)
  refine thn (ha.run pos _ s' σ H1 _ J1 (h H1 eN T1 f c' hco)) fun us s2 ⟨vs, H2, J2, r, q⟩ => ⟨J2.kIn, ?_⟩
  have at2 := J2.pin (f, _) (List.mem_append_right _ List.mem_cons_self)
  have I2 : Inv X pins σ H2 s2 := J2.pins_of fun q hq => J2.pin q (List.mem_append_right _ (List.mem_cons_of_mem _ hq))
  have Wk := work_of (tb := t) I2 L at2.1 at2.2.1 hfr (hbind _ _ _ _ _) (fun A outer s1 HZ E hr2 => hbody A outer s1 HZ E f c' hr2)
  have F := FW H2 s2.heap f c' _ Wk
  have r2 : Vals (.ref f :: vs) (.ref f :: us) := .cons rfl r
  have hl : (Value.ref f :: us).length = ps.length := by rw [← r2.length]; exact F.len _ _ _ _ q
  have bt := hb s2 (.ref f :: us) I2.kIn (by simpa using hl)
  rw [List.append_nil] at bt
  refine wpAny_call (codeAny_mono (F.run X.A X.stack s2 H2 ⟨.ref f :: us, []⟩ (.ref f :: us) (.ref f :: vs) Q E hr hgd I2.env0 (Un.kept fun _ _ z => z) (fun b hb => .inl hb) bt r2 q) fun rr s3 hq => ?_)
  match rr, hq with
  | .error e, hq => exact hx pins σ H2 s2 e s3 I2 hq
  | .ok (.ret u), hq => exact I2.after hq
  | .ok .next, hq => exact False.elim hq
  | .ok .brk, hq => exact False.elim hq
  | .ok .cont, hq => exact False.elim hq
end
end KW
namespace KA
open PySem PySem.Spec PyProof.Rows L2 PySem.W LamX KW
/-- isinstance of an exception that is kept as a value, with fields of its own -/
def rIsD (K : PySem.W.Frag) : List V → Hp → VK → Prop := fun xs H Q => ∃ (a D d : Addr) (fs : List (Str × V)) (c : V) (cv : Value) (b : Bool), xs = [.ref a, c] ∧ H a = some (ExV (.ref D) (some d) a) ∧ H d = some (.xd fs) ∧ ExcC K D ∧ ClsV c cv ∧ PySem.W.kitOne K (.ref D) cv = some b ∧ Q (.bl b) H
def rIs3 (K : PySem.W.Frag) : List V → Hp → VK → Prop := fun xs H Q => rIs2 K xs H Q ∨ rIsD K xs H Q
section
variable {X : Cx}
theorem call_isD : CallR X (.builtin "isinstance") (rIsD X.K) := by
  intro pins s σ H xs us Q I r h
  obtain ⟨a, D, d, fs, c, cv, b, rfl, ha, hd, C, k, e, q⟩ := h
  obtain ⟨u1, u2, rfl, r1, r2⟩ := vals2 r
  cases k.eq r2
  obtain rfl : u1 = Value.ref a := r1
  obtain ⟨⟨oe, at1, z, vs, dat⟩, _⟩ := I.hok a _ ha
  obtain ⟨mA, ns, _⟩ := I.hok d _ hd
  obtain ⟨od, at2, _⟩ := lookIn_ns ns
  have J : PySem.W.InstAt s.heap a oe D (some od) := ⟨at1, z.1, by unfold PySem.W.notCls; rw [dat] <;> rfl, by rw [z.2]; exact at2⟩
  obtain ⟨cd, hc, _⟩ := any_some C.hd
  exact PySem.W.kia_one (kitx_exc (by rw [hc]; rfl) C.hg C.hk C.hs C.ha C.hn C.ht C.hm) I.kIn J e (fun z => nomatch z) fun tk => ⟨.bl b, H, I.tok tk, rfl, q⟩
theorem call_is3 : CallR X (.builtin "isinstance") (rIs3 X.K) := by
  intro pins s σ H xs us Q I r h
  rcases h with h | h
  · exact call_is2 pins s σ H xs us Q I r h
  · exact call_isD pins s σ H xs us Q I r h
end
/-- caught, of a work that was handed on: at f, its code object at c' -/
def spCaughtW (K : PySem.W.Frag) (CS : Addr) (f c' : Addr) (q : Str) (t : XK → Hp → VK → Prop) : Sp := fun vs H Q _ => vs = [.ref f] ∧ H c' = some (CodeO c' q) ∧ TCaught K CS t H Q
theorem caught_work {P : Program} {w : World} {K : PySem.W.Frag} {mg : Str → Option Value} {base : Heap} {fs : List Addr} {H0 : Hp} {h0 : Heap} {k : Nat} {f c' : Addr} {q : Str} {t : XK → Hp → VK → Prop} {g : Addr} {fd : FuncData} {x a e n m : Str} {st : Stmt} {CS : Addr} {j1 : Nat} {p1 p2 p3 p4 p5 p6 p7 p8 p9 pa pb pc pd pe : Pos}
    (Wk : Work P w K mg base k fs H0 h0 f c' q t) (F : Fun K x x st g fd) (S : FnScope [a, m, n] [a] (defScope st))
    (hb : defBody st = [.Assign [.Name m p1] (.Constant .none j1 p2) p3,
       .Try [.Expr (.Call (.Name a p4) [] [] p5) p6] [.ExceptHandler (some (.Name e p7)) (some n) [.Assign [.Name m p8] (.Name n p9) pa] pb] [] [] pc,
       .Return (some (.Name m pd)) pe])
    (la : (defScope st).names.lookup a = some .local) (lm : (defScope st).names.lookup m = some .local) (ln : (defScope st).names.lookup n = some .local) (he : (defScope st).names.lookup e = some .globalImplicit) (hme : mg e = some (.ref CS)) (hde : (e == ("__debug__" : Str)) = false)
    (d0 : (a == ("__debug__" : Str)) = false) (d00 : (a == ("__classdict__" : Str)) = false) (d1 : (n == ("__debug__" : Str)) = false) (d2 : (n == ("__classdict__" : Str)) = false) (d3 : (m == ("__debug__" : Str)) = false) (d4 : (m == ("__classdict__" : Str)) = false) :
    FnW P w K mg base fs H0 h0 (L2.CX P w) (k + 2) g fd [a] (spCaughtW K CS f c' q t) := by
  refine fnW_of F S (fun vs H Q E h => by rw [h.1]; rfl) (fun cdv A outer s H vs Q E hr _ Sn h => ?_)
  obtain ⟨rfl, hc, hT⟩ := h
  rw [hb]
  refine ⟨_, pss_cons (ps_set (i := 1) S.nd rfl (.inl lm) pe_non) (pss_cons (ps_try_keep (c := .ref CS) (i := 2) (j := 1)
      (tb := fun W D σ H => ∃ Eb : XK, (∀ cls d σ' H', Eb cls d H' → W cls d σ' H') ∧ σ[0]? = some (some (.ref f)) ∧ H c' = some (CodeO c' q) ∧ t Eb H (fun _ H' => D.nx σ H'))
      rfl rfl rfl S.nd rfl rfl ln lm ⟨he, hde, .inl hme⟩ d1 d2 (fun W pn xe tk _ => ?_))
    (pss_one (ps_ret (pe_var (i := 1) rfl (.inl lm) d3 d4)))), ?_⟩
  · refine ⟨fun pins s' σ H' D I h' => ?_⟩
    obtain ⟨Eb, wish, h1, h2, h3⟩ := h'
    exact (pss_one (ps_expr (pe_work (Z := (cxOf (L2.CX P w) P w K mg base [a, m, n] x (defScope st) g cdv A outer s H E).tr pn xe) (i := 0) Wk ⟨Sn.un, Sn.sub, Sn.ex⟩ (passes_call tk wish) hr rfl (.inl la) d0 d00))).run pins s' σ H' D I ⟨h1, h2, h3⟩
  · refine ⟨fun cls d H' => PySem.W.exmOne K cls (.ref CS) = some true ∧ ∀ b, H' b = none → Q (.ref b) (upd H' b (ExV cls d b)), fun cls d σ' H' ⟨e1, e2⟩ => ⟨e1, fun b hb hl => ?_⟩, rfl, hc, ?_⟩
    · match σ', hl with
      | [u, v, z], _ => exact ⟨_, rfl, e2 b hb⟩
    · exact hT _ fun v H' z => ⟨_, rfl, z⟩
end KA
namespace KL
open PySem PySem.Spec PyProof.Rows L2 PySem.W LamX KA KW
/-! ### a lambda without parameters as a value: kept in a list, a local name, and called later by a def it is handed to -/
/-- the lambda at f, its code object at c', as the def with the frame env made it -/
def LamO (env : Env) (params : Arguments) (body : Expr) (scope : Scope) (f c' : Addr) : HO :=
  .ext fun h => ∃ pm ctv : Value, h.get? f = some (PySem.W.kla_obj "<lambda>" (env.qual ++ "<lambda>") params body scope (cloFrom env.cells scope.names []) pm c' ctv)
theorem lamO_tbl {env : Env} {params : Arguments} {body : Expr} {scope : Scope} {f c' : Addr} (ps : Array Value) : LamO env params body scope f c' ≠ .tbl ps := fun z => by
  unfold LamO at z
  cases z
theorem lamO_lst {env : Env} {params : Arguments} {body : Expr} {scope : Scope} {f c' : Addr} (xs : List V) : LamO env params body scope f c' ≠ .lst xs := fun z => by
  unfold LamO at z
  cases z
section
variable {X : Cx} {pins : List (Addr × Obj)} {σ : L2.St} {H : Hp} {s : Shared}
theorem laidLam {env : Env} {params : Arguments} {body : Expr} {scope : Scope} {c' : Addr} {pm ctv : Value} {h' : Heap} {tk : Nat} (I : Inv X pins σ H { s with heap := h', toks := tk }) :
    Inv X pins σ (upd H h'.objs.size (LamO env params body scope h'.objs.size c')) { s with heap := h'.push (PySem.W.kla_obj "<lambda>" (env.qual ++ "<lambda>") params body scope (cloFrom env.cells scope.names []) pm c' ctv), toks := tk } :=
  I.laid (t' := tk) (fun b o e => Heap.get?_push_of_some _ e) (Nat.le_refl _) ⟨⟨pm, ctv, Heap.get?_push_size _ rfl⟩, ⟨_, Heap.get?_push_size _ rfl⟩, fun h1 h2 ⟨a, b, e⟩ st => ⟨a, b, st _ e⟩⟩
/-- it is made: a value of the heap -/
theorem lam_val {T : List (Addr × Str)} {c P : Addr} {params : Arguments} {body : Expr} {scope : Scope} {pos : Pos} {E Q : Value → Shared → Prop} (I : Inv X pins σ H s) (TB : TabB X.base X.mg c P) (hcode : X.env.code = .ref c)
    (mem : (P, X.env.qual ++ "<lambda>") ∈ T) (one : ∀ p ∈ T, p.1 = P → p.2 = X.env.qual ++ "<lambda>") (hT : Tabs T H) (hdef : defaultsOf params X.env = ([], [])) (L : LamS X.env.scope scope)
    (k : ∀ (f c' : Addr) (H1 : Hp) (s' : Shared), ExtN H H1 → Tabs T H1 → H1 f = none → H1 c' = some (CodeO c' (X.env.qual ++ "<lambda>")) → Inv X pins σ (upd H1 f (LamO X.env params body scope f c')) s' → Q (.ref f) s') :
    wpAny (model X.prog X.w) X.A (eval (.Lambda params body scope pos) X.env) Q E s := by
  obtain ⟨tb, atP, tri, amg⟩ := hT _ mem
  have clo := closure_ok (L.has I.ok)
  have glob := I.mod.glob.keeps I.bk
  have code := TB.code.keeps I.bk
  have raw : s.heap.get? P = some { cls := .none, data := .fields tb } := I.hok P _ atP
  have bm := TB.bm.keeps I.bk
  refine PySem.W.kla_eval hdef ?_
  cases found : codeAmong pos tb.toList with
  | some cv =>
    obtain ⟨c', rfl, hco⟩ := amg pos cv found
    refine PySem.W.kla_makeFunctionHit clo I.ok.glob glob hcode code raw tri found bm ?_
    intro ctv h' tk hx hsz
    have J : Inv X pins σ H { s with heap := h', toks := tk } := I.kept fun b o e => hx b o e
    exact k _ c' H _ (ExtN.refl H) hT (I.hok.fresh hsz) hco (laidLam J)
  | none =>
    refine PySem.W.kla_makeFunction clo I.ok.glob glob hcode code raw tri found TB.gP bm ?_
    intro c' ctv h' tk hx hge hlt rec tbl
    obtain ⟨c2, oc, vs, t, ec, hoc, hd, hv⟩ := rec
    cases ec
    have free : H c' = none := I.hok.fresh hge
    have ne : P ≠ c' := ne_of_none atP free
    have J := inv_table (t' := tk) (more := #[rawInt pos.line, rawInt pos.col, .ref c']) (h' := h') I atP hx tbl hge ⟨oc, vs, t, hoc, hd, hv⟩
    generalize hH : upd (upd H P (.tbl (tb ++ #[rawInt pos.line, rawInt pos.col, .ref c']))) c' (CodeO c' (X.env.qual ++ "<lambda>")) = H1 at J
    have at1 : H1 c' = some (CodeO c' (X.env.qual ++ "<lambda>")) := by rw [← hH, upd_same]
    have at2 : H1 P = some (.tbl (tb ++ #[rawInt pos.line, rawInt pos.col, .ref c'])) := by rw [← hH, upd_ne ne, upd_same]
    have at3 : ∀ b, b ≠ P → b ≠ c' → H1 b = H b := fun b h1 h2 => by rw [← hH, upd_ne h2, upd_ne h1]
    have ext : ExtN H H1 := fun b o e n => by
      rw [at3 b (fun z => n tb (Option.some.inj (e.symm.trans (z ▸ atP)))) (ne_of_none e free)]
      exact e
    have eL : (tb ++ #[rawInt pos.line, rawInt pos.col, .ref c']).toList = tb.toList ++ [rawInt pos.line, rawInt pos.col, .ref c'] := by simp
    refine k _ c' H1 _ ext (fun p hp => ?_) (J.hok.fresh (Nat.le_refl _)) at1 (laidLam J)
    by_cases hb : p.1 = P
    · rw [one p hp hb, hb]
      refine ⟨_, at2, eL ▸ PySem.TriplesOk_snoc _ _ _ _ tri, fun p' cv hcv => ?_⟩
      rw [eL] at hcv
      cases among_app _ tri hcv with
      | inl z =>
        obtain ⟨c0, e1, e2⟩ := amg p' cv z
        exact ⟨c0, e1, ext _ _ e2 codeO_ne⟩
      | inr z => exact ⟨c', z, at1⟩
    · obtain ⟨ps', a1, a2, a3⟩ := hT p hp
      refine ⟨ps', (at3 p.1 hb (ne_of_none a1 free)).trans a1, a2, fun p' cv hcv => ?_⟩
      obtain ⟨c0, e1, e2⟩ := a3 p' cv hcv
      exact ⟨c0, e1, ext _ _ e2 codeO_ne⟩
end
def tLamV (T : List (Addr × Str)) (env : Env) (params : Arguments) (body : Expr) (scope : Scope) : TE := fun _ H Q => Tabs T H ∧ ∀ H1, ExtN H H1 → Tabs T H1 → ∀ f c' : Addr, H1 f = none → H1 c' = some (CodeO c' (env.qual ++ "<lambda>")) → Q (.ref f) (upd H1 f (LamO env params body scope f c'))
theorem pe_lamV {X : Cx} {T : List (Addr × Str)} {c P : Addr} {params : Arguments} {body : Expr} {scope : Scope} {pos : Pos} (TB : TabB X.base X.mg c P) (hcode : X.env.code = .ref c) (mem : (P, X.env.qual ++ "<lambda>") ∈ T) (one : ∀ p ∈ T, p.1 = P → p.2 = X.env.qual ++ "<lambda>")
    (L : LamS X.env.scope scope) (hdef : defaultsOf params X.env = ([], [])) : PE X (.Lambda params body scope pos) (tLamV T X.env params body scope) := by
  refine ⟨fun pins s σ H Q I h => ?_⟩
  obtain ⟨hT, h⟩ := h
  exact lam_val I TB hcode mem one hT hdef L fun f c' H1 s' ext T1 fr co J => ⟨.ref f, _, J, rfl, h H1 ext T1 f c' fr co⟩
/-- what is known of a lambda that was handed on: pre tells that it stands, t what its call promises -/
structure WorkL (P : Program) (w : World) (K : PySem.W.Frag) (mg : Str → Option Value) (base : Heap) (k : Nat) (fs : List Addr) (H0 : Hp) (h0 : Heap) (f : Addr) (pre : Hp → Prop) (t : XK → Hp → VK → Prop) : Prop where
  fn : ∀ (HZ : Hp) (h1 : Heap), HOk P w HZ h1 → pre HZ → ∃ (qual : Str) (params : Arguments) (body : Expr) (scope : Scope) (cl : List (Str × Addr)) (pm : Value) (c' : Addr) (ctv : Value), h1.get? f = some (PySem.W.kla_obj "<lambda>" qual params body scope cl pm c' ctv)
  run : ∀ (A : Around) (outer : List Env) (s1 : Shared) (HZ : Hp) (Q : VK) (E : XK), Room (k + 1) A → Env0 P w K mg base A outer s1 HZ → Un fs [] H0 HZ h0 s1.heap → pre HZ → t E HZ Q →
    codeAny (model P w) A (.call (.ref f) ⟨[], []⟩) (CR (L2.CX P w) outer P w HZ s1 Q E) s1
section
variable {X : Cx} {pins : List (Addr × Obj)} {σ : L2.St} {H : Hp} {s : Shared}
theorem work_ofL {k : Nat} {f c' : Addr} {params : Arguments} {body : Expr} {scope : Scope} {tb : XK → TE} (I : Inv X pins σ H s) (L : LamS X.env.scope scope)
    (hbind : ∀ (q : Str) (cl : List (Str × Addr)) (pm cv ctv : Value), bindArgs (PySem.W.kla_fn "<lambda>" q params body scope cl pm cv ctv) ⟨[], []⟩ = pure [])
    (hbody : ∀ (A : Around) (outer : List Env) (s1 : Shared) (HZ : Hp) (E : XK), Room k (A.deeper (lamEnv X scope s1.heap.objs.size f c')) → PE (lamCx X A outer s1 HZ E scope f c') body (tb E)) :
    WorkL X.prog X.w X.K X.mg X.base k (frs X.stack) H s.heap f (fun HZ => HZ f = some (LamO X.env params body scope f c') ∧ HZ c' = some (CodeO c' (X.env.qual ++ "<lambda>"))) (fun E HZ Q => tb E σ HZ Q) := by
  refine ⟨fun HZ h1 ok pre => ?_, fun A outer s1 HZ Q E hr e0 un pre ht => ?_⟩
  · obtain ⟨⟨pm, ctv, e⟩, _⟩ := ok f _ pre.1
    exact ⟨_, _, _, _, _, _, _, _, e⟩
  · obtain ⟨pf, pc⟩ := pre
    obtain ⟨⟨pm, ctv, of1⟩, _⟩ := e0.hok f _ pf
    obtain ⟨⟨oc, vs, t, hoc, hdc, hvc⟩, _⟩ := e0.hok c' _ pc
    have lim : s1.heap.NoLimit := e0.mod.nolimit.keeps fun b o e => (e0.bs b o e).1
    refine PySem.W.kla_callFunE hr.depth of1 rfl L.co L.gen rfl ⟨c', oc, vs, t, rfl, hoc, hdc, hvc⟩ ?_
    rw [hbind]
    refine wpAny_pure (wpAny_newFunctionEnv (fun y hy => (L.own y hy).2) (fun y hy => absurd hy (by simp)) (fun h₁ hns hsb => ⟨lim.fresh _ hsb, ?_⟩) L.kind)
    show codeAny _ _ (.expr body (lamEnv X scope s1.heap.objs.size f c')) _ _
    have keep : ∀ b o, s1.heap.get? b = some o → h₁.get? b = some o := fun b o e => hsb.extBut b o (Nat.ne_of_lt (Heap.lt_size e)) (Heap.get?_push_of_some _ e)
    have J : Inv (lamCx X A outer s1 HZ E scope f c') [] σ HZ { s1 with heap := h₁, toks := s1.toks + ([] : List (Str × Value)).length } := lam_start2 I L e0 hr.hd un hns keep
    refine PySem.W.kla_codeExpr (wpAny_mono ((hbody A outer s1 HZ E (hr.deeper _)).run [] _ _ HZ Q J ht) (fun v s' hq => ?_) fun e s' hq => hq)
    obtain ⟨w', H', J', rv, q⟩ := hq
    exact ⟨w', H', J'.os, J'.bare, J'.base, J'.hok, rv, q⟩
end
section
variable {Z : Cx} {k : Nat} {fs : List Addr} {H0 : Hp} {h0 : Heap} {f : Addr} {pre : Hp → Prop} {t : XK → Hp → VK → Prop}
theorem pe_workL {i : Nat} {a : Str} {E : XK} {p1 p2 : Pos} (Wk : WorkL Z.prog Z.w Z.K Z.mg Z.base k fs H0 h0 f pre t) (S : Since Z fs H0 h0) (hx : Passes (L2.CX Z.prog Z.w) Z E) (hr : Room (k + 1) Z.A) (hN : Z.N[i]? = some a) (hv : Vis Z.env.scope a)
    (hd : (a == ("__debug__" : Str)) = false := by decide) (hcd : (a == ("__classdict__" : Str)) = false := by decide) :
    PE Z (.Call (.Name a p1) [] [] p2) (fun σ H Q => σ[i]? = some (some (.ref f)) ∧ pre H ∧ t E H Q) := by
  refine ⟨fun pins s σ H Q I h => ?_⟩
  obtain ⟨hs, hp, ht⟩ := h
  refine wpAny_Call_Name_kw (thn ((pe_var (pos := p1) (i := i) hN hv hd hcd).run pins s σ H (fun v H1 => v = .ref f ∧ H1 = H) I ⟨.ref f, hs, rfl, rfl⟩) fun u s1 ⟨v, H1, I1, r1, q1⟩ => ?_)
  obtain ⟨rfl, rfl⟩ := q1
  obtain rfl : u = Value.ref f := r1
  obtain ⟨_, _, _, _, _, _, _, _, ob⟩ := Wk.fn H1 s1.heap I1.hok hp
  refine PySem.W.callWith_F0 ⟨_, _, _, _, ob⟩ ?_
  refine wpAny_call (codeAny_mono (Wk.run Z.A Z.stack s1 H1 Q E hr I1.env0 (S.now I1) hp ht) fun r s' hq => ?_)
  match r, hq with
  | .error e, hq => exact hx pins σ H1 s1 e s' I1 hq
  | .ok (.ret u), hq => exact I1.after hq
  | .ok .next, hq => exact False.elim hq
  | .ok .brk, hq => exact False.elim hq
  | .ok .cont, hq => exact False.elim hq
end
/-- caught, of such a lambda -/
def spCaughtL (K : PySem.W.Frag) (CS : Addr) (f : Addr) (pre : Hp → Prop) (t : XK → Hp → VK → Prop) : Sp := fun vs H Q _ => vs = [.ref f] ∧ pre H ∧ TCaught K CS t H Q
theorem caught_workL {P : Program} {w : World} {K : PySem.W.Frag} {mg : Str → Option Value} {base : Heap} {fs : List Addr} {H0 : Hp} {h0 : Heap} {k : Nat} {f : Addr} {pre : Hp → Prop} {t : XK → Hp → VK → Prop} {g : Addr} {fd : FuncData} {x a e n m : Str} {st : Stmt} {CS : Addr} {j1 : Nat} {p1 p2 p3 p4 p5 p6 p7 p8 p9 pa pb pc pd pe : Pos}
    (Wk : WorkL P w K mg base k fs H0 h0 f pre t) (F : Fun K x x st g fd) (S : FnScope [a, m, n] [a] (defScope st))
    (hb : defBody st = [.Assign [.Name m p1] (.Constant .none j1 p2) p3,
       .Try [.Expr (.Call (.Name a p4) [] [] p5) p6] [.ExceptHandler (some (.Name e p7)) (some n) [.Assign [.Name m p8] (.Name n p9) pa] pb] [] [] pc,
       .Return (some (.Name m pd)) pe])
    (la : (defScope st).names.lookup a = some .local) (lm : (defScope st).names.lookup m = some .local) (ln : (defScope st).names.lookup n = some .local) (he : (defScope st).names.lookup e = some .globalImplicit) (hme : mg e = some (.ref CS)) (hde : (e == ("__debug__" : Str)) = false)
    (d0 : (a == ("__debug__" : Str)) = false) (d00 : (a == ("__classdict__" : Str)) = false) (d1 : (n == ("__debug__" : Str)) = false) (d2 : (n == ("__classdict__" : Str)) = false) (d3 : (m == ("__debug__" : Str)) = false) (d4 : (m == ("__classdict__" : Str)) = false) :
    FnW P w K mg base fs H0 h0 (L2.CX P w) (k + 2) g fd [a] (spCaughtL K CS f pre t) := by
  refine fnW_of F S (fun vs H Q E h => by rw [h.1]; rfl) (fun cdv A outer s H vs Q E hr _ Sn h => ?_)
  obtain ⟨rfl, hp, hT⟩ := h
  rw [hb]
  refine ⟨_, pss_cons (ps_set (i := 1) S.nd rfl (.inl lm) pe_non) (pss_cons (ps_try_keep (c := .ref CS) (i := 2) (j := 1)
      (tb := fun W D σ H => ∃ Eb : XK, (∀ cls d σ' H', Eb cls d H' → W cls d σ' H') ∧ σ[0]? = some (some (.ref f)) ∧ pre H ∧ t Eb H (fun _ H' => D.nx σ H'))
      rfl rfl rfl S.nd rfl rfl ln lm ⟨he, hde, .inl hme⟩ d1 d2 (fun W pn xe tk _ => ?_))
    (pss_one (ps_ret (pe_var (i := 1) rfl (.inl lm) d3 d4)))), ?_⟩
  · refine ⟨fun pins s' σ H' D I h' => ?_⟩
    obtain ⟨Eb, wish, h1, h2, h3⟩ := h'
    exact (pss_one (ps_expr (pe_workL (Z := (cxOf (L2.CX P w) P w K mg base [a, m, n] x (defScope st) g cdv A outer s H E).tr pn xe) (i := 0) Wk ⟨Sn.un, Sn.sub, Sn.ex⟩ (passes_call tk wish) hr rfl (.inl la) d0 d00))).run pins s' σ H' D I ⟨h1, h2, h3⟩
  · refine ⟨fun cls d H' => PySem.W.exmOne K cls (.ref CS) = some true ∧ ∀ b, H' b = none → Q (.ref b) (upd H' b (ExV cls d b)), fun cls d σ' H' ⟨e1, e2⟩ => ⟨e1, fun b hb hl => ?_⟩, rfl, hp, ?_⟩
    · match σ', hl with
      | [u, v, z], _ => exact ⟨_, rfl, e2 b hb⟩
    · exact hT _ fun v H' z => ⟨_, rfl, z⟩
/-- a lambda of a def, and what its body promises -/
structure LamD where
  params : Arguments
  body : Expr
  scope : Scope
  t : XK → TE
structure LamOk (X : Cx) (kb : Nat) (l : LamD) : Prop where
  L : LamS X.env.scope l.scope
  bind : ∀ (q : Str) (cl : List (Str × Addr)) (pm cv ctv : Value), bindArgs (PySem.W.kla_fn "<lambda>" q l.params l.body l.scope cl pm cv ctv) ⟨[], []⟩ = pure []
  run : ∀ (A : Around) (outer : List Env) (s : Shared) (H : Hp) (E : XK) (f c' : Addr), Room kb (A.deeper (lamEnv X l.scope s.heap.objs.size f c')) → PE (lamCx X A outer s H E l.scope f c') l.body (l.t E)
/-- x(work): work, a name of this def, stands for one of its lambdas -/
theorem pe_callL {X : Cx} {CX : CXT} {kb k i : Nat} {g : Addr} {fd : FuncData} {ps : List Str} {E : XK} {x a : Str} {p p' pos : Pos} {sp : Addr → (Hp → Prop) → (XK → Hp → VK → Prop) → Sp} (lams : List LamD) (ok : ∀ l ∈ lams, LamOk X kb l)
    (FW : ∀ (H0 : Hp) (h0 : Heap) (f : Addr) (pre : Hp → Prop) (t' : XK → Hp → VK → Prop), WorkL X.prog X.w X.K X.mg X.base kb (frs X.stack) H0 h0 f pre t' → FnW X.prog X.w X.K X.mg X.base (frs X.stack) H0 h0 CX k g fd ps (sp f pre t'))
    (hg : Gl X x) (hm : X.mg x = some (.ref g)) (hk : PySem.W.keepIn X.K (.ref g) = true) (hb : Binds X.K fd ps []) (hx : Passes CX X E) (hr : Room k X.A) (hgd : X.A.guards = some []) (hN : X.N[i]? = some a) (hv : Vis X.env.scope a)
    (hdb : (x == ("__debug__" : Str)) = false := by decide) (hd : (a == ("__debug__" : Str)) = false := by decide) (hcd : (a == ("__classdict__" : Str)) = false := by decide)
    (he : starEach [.Name a p'] X.env = (false, eval (.Name a p') X.env) :: starEach [] X.env := by rfl) (hpl : (backTo pos (starEach [] X.env)).any (·.1) = false := by rfl) :
    PE X (.Call (.Name x p) [.Name a p'] [] pos) (fun σ H Q => ∃ l ∈ lams, ∃ f c' : Addr, σ[i]? = some (some (.ref f)) ∧ H f = some (LamO X.env l.params l.body l.scope f c') ∧ H c' = some (CodeO c' (X.env.qual ++ "<lambda>")) ∧
      sp f (fun HZ => HZ f = some (LamO X.env l.params l.body l.scope f c') ∧ HZ c' = some (CodeO c' (X.env.qual ++ "<lambda>"))) (fun E H Q => l.t E σ H Q) [.ref f] H Q E) := by
  refine ⟨fun pins s σ H Q I h => ?_⟩
  obtain ⟨l, hl, f, c', hs, hf, hc, q⟩ := h
  have O := ok l hl
  refine wpAny_Call_Name_kw (ld_glob I hg hm ?_ hdb)
  refine PySem.W.callWith_K (h₀ := X.base) I.ok.mod.kin hk ?_ he hpl
  rw [he]
  refine Calls.spliced_cons (thn ((pe_var (pos := p') (i := i) hN hv hd hcd).run pins s σ H (fun v H1 => v = .ref f ∧ H1 = H) I ⟨.ref f, hs, rfl, rfl⟩) fun u s1 ⟨v, H1, I1, r1, q1⟩ => ?_)
  obtain ⟨rfl, rfl⟩ := q1
  obtain rfl : u = Value.ref f := r1
  refine Calls.spliced_nil ⟨I1.kIn, ?_⟩
  have Wk := work_ofL (tb := l.t) (f := f) (c' := c') I1 O.L O.bind (fun A outer s2 HZ E hr2 => O.run A outer s2 HZ E f c' hr2)
  have F := FW H1 s1.heap f _ _ Wk
  have hlen : [Value.ref f].length = ps.length := by
    have := F.len _ _ _ _ q
    exact this
  have bt := hb s1 [.ref f] I1.kIn (by simpa using hlen)
  rw [List.append_nil] at bt
  refine wpAny_call (codeAny_mono (F.run X.A X.stack s1 H1 ⟨[.ref f], []⟩ [.ref f] [.ref f] Q E hr hgd I1.env0 (Un.kept fun _ _ z => z) (fun b hb => .inl hb) bt (.cons rfl .nil) q) fun rr s3 hq => ?_)
  match rr, hq with
  | .error e, hq => exact hx pins σ H1 s1 e s3 I1 hq
  | .ok (.ret u), hq => exact I1.after hq
  | .ok .next, hq => exact False.elim hq
  | .ok .brk, hq => exact False.elim hq
  | .ok .cont, hq => exact False.elim hq
end KL
namespace K17
open PySem PySem.Spec PyProof.Rows L2 PySem.W LamX KA
def top (i : Nat) : Stmt := PySem.Challenge.pw_pricedreels_k17_spans_of_lifted_numbers.main.body.getD i (.Pass ⟨0, 0, 0, 0⟩)
abbrev s_is_number : Stmt := top 1
theorem sc_is_number : FnScope ["thing"] ["thing"] (defScope s_is_number) := ⟨rfl, rfl, rfl, by decide +kernel, rfl, by decide +kernel, by decide +kernel⟩
abbrev s_is_within : Stmt := top 2
theorem sc_is_within : FnScope ["thing", "low", "high"] ["thing", "low", "high"] (defScope s_is_within) := ⟨rfl, rfl, rfl, by decide +kernel, rfl, by decide +kernel, by decide +kernel⟩
abbrev s_is_row : Stmt := top 3
theorem sc_is_row : FnScope ["thing", "part"] ["thing"] (defScope s_is_row) := ⟨rfl, rfl, rfl, by decide +kernel, rfl, by decide +kernel, by decide +kernel⟩
abbrev s_is_rows : Stmt := top 4
theorem sc_is_rows : FnScope ["thing", "row"] ["thing"] (defScope s_is_rows) := ⟨rfl, rfl, rfl, by decide +kernel, rfl, by decide +kernel, by decide +kernel⟩
abbrev s_lift_spans : Stmt := top 12
theorem sc_lift_spans : FnScope ["lows", "highs"] ["lows", "highs"] (defScope s_lift_spans) := ⟨rfl, rfl, rfl, by decide +kernel, rfl, by decide +kernel, by decide +kernel⟩
abbrev s_lift_end : Stmt := top 13
theorem sc_lift_end : FnScope ["lows", "highs", "y", "x", "upper"] ["lows", "highs", "y", "x", "upper"] (defScope s_lift_end) := ⟨rfl, rfl, rfl, by decide +kernel, rfl, by decide +kernel, by decide +kernel⟩
abbrev s_check_rectangle : Stmt := top 14
theorem sc_check_rectangle : FnScope ["rectangle"] ["rectangle"] (defScope s_check_rectangle) := ⟨rfl, rfl, rfl, by decide +kernel, rfl, by decide +kernel, by decide +kernel⟩
abbrev s_check_spans : Stmt := top 15
theorem sc_check_spans : FnScope ["lows", "highs", "row", "others", "low", "high"] ["lows", "highs"] (defScope s_check_spans) := ⟨rfl, rfl, rfl, by decide +kernel, rfl, by decide +kernel, by decide +kernel⟩
abbrev s_check_spot : Stmt := top 16
theorem sc_check_spot : FnScope ["height", "width", "y", "x"] ["height", "width", "y", "x"] (defScope s_check_spot) := ⟨rfl, rfl, rfl, by decide +kernel, rfl, by decide +kernel, by decide +kernel⟩
abbrev s_is_inner : Stmt := top 17
theorem sc_is_inner : FnScope ["area"] ["area"] (defScope s_is_inner) := ⟨rfl, rfl, rfl, by decide +kernel, rfl, by decide +kernel, by decide +kernel⟩
abbrev s_halves : Stmt := top 18
theorem sc_halves : FnScope ["area", "top", "left", "height", "width", "many"] ["area"] (defScope s_halves) := ⟨rfl, rfl, rfl, by decide +kernel, rfl, by decide +kernel, by decide +kernel⟩
abbrev s_halves_at : Stmt := top 19
theorem sc_halves_at : FnScope ["inner"] ["inner"] (defScope s_halves_at) := ⟨rfl, rfl, rfl, by decide +kernel, rfl, by decide +kernel, by decide +kernel⟩
abbrev s_list_areas : Stmt := top 20
theorem sc_list_areas : FnScope ["height", "width", "found", "at", "area"] ["height", "width"] (defScope s_list_areas) := ⟨rfl, rfl, rfl, by decide +kernel, rfl, by decide +kernel, by decide +kernel⟩
abbrev s_lies_in : Stmt := top 21
theorem sc_lies_in : FnScope ["area", "y", "x", "top", "left", "height", "width"] ["area", "y", "x"] (defScope s_lies_in) := ⟨rfl, rfl, rfl, by decide +kernel, rfl, by decide +kernel, by decide +kernel⟩
abbrev s_in_rows : Stmt := top 22
theorem sc_in_rows : FnScope ["numbers", "width", "at"] ["numbers", "width"] (defScope s_in_rows) := ⟨rfl, rfl, rfl, by decide +kernel, rfl, by decide +kernel, by decide +kernel⟩
abbrev s_lowest : Stmt := top 23
theorem sc_lowest : FnScope ["lows", "highs", "height", "width", "least", "greatest", "all_areas", "means", "rows", "inner", "at", "area", "first", "second", "row", "number", "_"] ["lows", "highs"] (defScope s_lowest) := ⟨rfl, rfl, rfl, by decide +kernel, rfl, by decide +kernel, by decide +kernel⟩
abbrev s_end_at : Stmt := top 24
theorem sc_end_at : FnScope ["lows", "highs", "y", "x", "width", "most", "numbers", "inner", "area", "chosen", "row", "number"] ["lows", "highs", "y", "x"] (defScope s_end_at) := ⟨rfl, rfl, rfl, by decide +kernel, rfl, by decide +kernel, by decide +kernel⟩
abbrev s__law_begun : Stmt := top 26
theorem sc__law_begun : FnScope ["script", "cells_here", "large", "cell"] ["script"] (defScope s__law_begun) := ⟨rfl, rfl, rfl, by decide +kernel, rfl, by decide +kernel, by decide +kernel⟩
abbrev s__law_draw : Stmt := top 27
theorem sc__law_draw : FnScope ["state", "size_here", "found", "turn", "cell", "mixed"] ["state", "size_here"] (defScope s__law_draw) := ⟨rfl, rfl, rfl, by decide +kernel, rfl, by decide +kernel, by decide +kernel⟩
abbrev s__law_pick : Stmt := top 28
theorem sc__law_pick : FnScope ["state", "several"] ["state", "several"] (defScope s__law_pick) := ⟨rfl, rfl, rfl, by decide +kernel, rfl, by decide +kernel, by decide +kernel⟩
abbrev s__law_caught : Stmt := top 29
theorem sc__law_caught : FnScope ["work", "caught", "error"] ["work"] (defScope s__law_caught) := ⟨rfl, rfl, rfl, by decide +kernel, rfl, by decide +kernel, by decide +kernel⟩
abbrev s__law_is_whole : Stmt := top 30
theorem sc__law_is_whole : FnScope ["item"] ["item"] (defScope s__law_is_whole) := ⟨rfl, rfl, rfl, by decide +kernel, rfl, by decide +kernel, by decide +kernel⟩
abbrev s__law_odd : Stmt := top 31
theorem sc__law_odd : FnScope ["state"] ["state"] (defScope s__law_odd) := ⟨rfl, rfl, rfl, by decide +kernel, rfl, by decide +kernel, by decide +kernel⟩
abbrev s__law_areas : Stmt := top 32
theorem sc__law_areas : FnScope ["tall", "wide", "found", "turn"] ["tall", "wide"] (defScope s__law_areas) := ⟨rfl, rfl, rfl, by decide +kernel, rfl, by decide +kernel, by decide +kernel⟩
abbrev s__law_halves : Stmt := top 33
theorem sc__law_halves : FnScope ["area", "top", "left", "tall", "wide", "cut"] ["area"] (defScope s__law_halves) := ⟨rfl, rfl, rfl, by decide +kernel, rfl, by decide +kernel, by decide +kernel⟩
abbrev s__law_lift : Stmt := top 34
theorem sc__law_lift : FnScope ["tall", "wide", "numbers_here", "every", "means", "area", "halves_v", "found"] ["tall", "wide", "numbers_here"] (defScope s__law_lift) := ⟨rfl, rfl, rfl, by decide +kernel, rfl, by decide +kernel, by decide +kernel⟩
abbrev s__law_unlift : Stmt := top 35
theorem sc__law_unlift : FnScope ["tall", "wide", "numbers_here", "means", "spot", "found", "area", "halves_v", "first"] ["tall", "wide", "numbers_here"] (defScope s__law_unlift) := ⟨rfl, rfl, rfl, by decide +kernel, rfl, by decide +kernel, by decide +kernel⟩
abbrev s__law_lines_of : Stmt := top 36
theorem sc__law_lines_of : FnScope ["told", "wide", "spot"] ["told", "wide"] (defScope s__law_lines_of) := ⟨rfl, rfl, rfl, by decide +kernel, rfl, by decide +kernel, by decide +kernel⟩
abbrev s__law_row_by_row : Stmt := top 37
theorem sc__law_row_by_row : FnScope ["pane", "found", "line"] ["pane"] (defScope s__law_row_by_row) := ⟨rfl, rfl, rfl, by decide +kernel, rfl, by decide +kernel, by decide +kernel⟩
abbrev s__law_sizes : Stmt := top 38
theorem sc__law_sizes : FnScope ["state", "cap", "tall", "wide"] ["state", "cap"] (defScope s__law_sizes) := ⟨rfl, rfl, rfl, by decide +kernel, rfl, by decide +kernel, by decide +kernel⟩
abbrev s__law_figure : Stmt := top 39
theorem sc__law_figure : FnScope ["state", "fashion", "span"] ["state", "fashion"] (defScope s__law_figure) := ⟨rfl, rfl, rfl, by decide +kernel, rfl, by decide +kernel, by decide +kernel⟩
abbrev s__law_is_pane : Stmt := top 40
theorem sc__law_is_pane : FnScope ["item", "line", "each"] ["item"] (defScope s__law_is_pane) := ⟨rfl, rfl, rfl, by decide +kernel, rfl, by decide +kernel, by decide +kernel⟩
abbrev s__law_bent_pane : Stmt := top 41
theorem sc__law_bent_pane : FnScope ["state", "pane", "way", "turn", "line", "spot", "each"] ["state", "pane"] (defScope s__law_bent_pane) := ⟨rfl, rfl, rfl, by decide +kernel, rfl, by decide +kernel, by decide +kernel⟩
abbrev s__law_sides_of : Stmt := top 42
theorem sc__law_sides_of : FnScope ["tall", "wide", "dot", "found", "area", "halves_v"] ["tall", "wide", "dot"] (defScope s__law_sides_of) := ⟨rfl, rfl, rfl, by decide +kernel, rfl, by decide +kernel, by decide +kernel⟩
abbrev s__law_lies_in : Stmt := top 43
theorem sc__law_lies_in : FnScope ["area", "dot"] ["area", "dot"] (defScope s__law_lies_in) := ⟨rfl, rfl, rfl, by decide +kernel, rfl, by decide +kernel, by decide +kernel⟩
abbrev s__law_span_at : Stmt := top 44
theorem sc__law_span_at : FnScope ["tall", "wide", "least", "most", "dot", "down", "up", "turn", "side", "one", "two"] ["tall", "wide", "least", "most", "dot"] (defScope s__law_span_at) := ⟨rfl, rfl, rfl, by decide +kernel, rfl, by decide +kernel, by decide +kernel⟩
abbrev s__law_all_rows : Stmt := top 45
theorem sc__law_all_rows : FnScope ["least", "most", "found", "one", "two", "longer", "row", "each"] ["least", "most"] (defScope s__law_all_rows) := ⟨rfl, rfl, rfl, by decide +kernel, rfl, by decide +kernel, by decide +kernel⟩
abbrev s__law_all_dots : Stmt := top 46
theorem sc__law_all_dots : FnScope ["tall", "wide", "found", "down", "across"] ["tall", "wide"] (defScope s__law_all_dots) := ⟨rfl, rfl, rfl, by decide +kernel, rfl, by decide +kernel, by decide +kernel⟩
abbrev s__law_all_spans : Stmt := top 47
theorem sc__law_all_spans : FnScope ["tall", "wide", "least", "most", "some", "dot", "one", "two"] ["tall", "wide", "least", "most"] (defScope s__law_all_spans) := ⟨rfl, rfl, rfl, by decide +kernel, rfl, by decide +kernel, by decide +kernel⟩
abbrev s__law_are_spans : Stmt := top 48
theorem sc__law_are_spans : FnScope ["tall", "wide", "least", "most", "found", "ways", "one", "two", "some", "down", "up", "row", "spot"] ["tall", "wide", "least", "most"] (defScope s__law_are_spans) := ⟨rfl, rfl, rfl, by decide +kernel, rfl, by decide +kernel, by decide +kernel⟩
abbrev s__law_are_ends : Stmt := top 49
theorem sc__law_are_ends : FnScope ["tall", "wide", "least", "most", "dot", "due", "turn", "low", "high", "found", "each", "one", "two"] ["tall", "wide", "least", "most", "dot"] (defScope s__law_are_ends) := ⟨rfl, rfl, rfl, by decide +kernel, rfl, by decide +kernel, by decide +kernel⟩
abbrev s__law_are_refused : Stmt := top 50
theorem sc__law_are_refused : FnScope ["state", "tall", "wide", "least", "most", "spot", "sunk", "wider", "bent", "far", "high", "low", "odd", "upset", "wrong", "line"] ["state", "tall", "wide", "least", "most"] (defScope s__law_are_refused) := ⟨rfl, rfl, rfl, by decide +kernel, rfl, by decide +kernel, by decide +kernel⟩
abbrev s_law : Stmt := top 51
theorem sc_law : FnScope ["script", "state", "turn", "tall", "wide", "fashion", "span", "least", "most", "dots", "wide_low", "wide_high", "inner", "outer", "dot", "spot", "each"] ["script"] (defScope s_law) := ⟨rfl, rfl, rfl, by decide +kernel, rfl, by decide +kernel, by decide +kernel⟩
/-- what the top has written -/
structure Top (K : PySem.W.Frag) (mg : Str → Option Value) where
  reel : ReelT K mg
  BadRectangle : ExcT K mg "BadRectangle" reel.C
  BadSpans : ExcT K mg "BadSpans" reel.C
  BadSpot : ExcT K mg "BadSpot" reel.C
  BadUpper : ExcT K mg "BadUpper" reel.C
  is_number : DefT K mg "is_number" s_is_number
  is_within : DefT K mg "is_within" s_is_within
  is_row : DefT K mg "is_row" s_is_row
  is_rows : DefT K mg "is_rows" s_is_rows
  lift_spans : DefT K mg "lift_spans" s_lift_spans
  lift_end : DefT K mg "lift_end" s_lift_end
  check_rectangle : DefT K mg "check_rectangle" s_check_rectangle
  check_spans : DefT K mg "check_spans" s_check_spans
  check_spot : DefT K mg "check_spot" s_check_spot
  is_inner : DefT K mg "is_inner" s_is_inner
  halves : DefT K mg "halves" s_halves
  halves_at : DefT K mg "halves_at" s_halves_at
  list_areas : DefT K mg "list_areas" s_list_areas
  lies_in : DefT K mg "lies_in" s_lies_in
  in_rows : DefT K mg "in_rows" s_in_rows
  lowest : DefT K mg "lowest" s_lowest
  end_at : DefT K mg "end_at" s_end_at
  _law_begun : DefT K mg "_law_begun" s__law_begun
  _law_draw : DefT K mg "_law_draw" s__law_draw
  _law_pick : DefT K mg "_law_pick" s__law_pick
  _law_caught : DefT K mg "_law_caught" s__law_caught
  _law_is_whole : DefT K mg "_law_is_whole" s__law_is_whole
  _law_odd : DefT K mg "_law_odd" s__law_odd
  _law_areas : DefT K mg "_law_areas" s__law_areas
  _law_halves : DefT K mg "_law_halves" s__law_halves
  _law_lift : DefT K mg "_law_lift" s__law_lift
  _law_unlift : DefT K mg "_law_unlift" s__law_unlift
  _law_lines_of : DefT K mg "_law_lines_of" s__law_lines_of
  _law_row_by_row : DefT K mg "_law_row_by_row" s__law_row_by_row
  _law_sizes : DefT K mg "_law_sizes" s__law_sizes
  _law_figure : DefT K mg "_law_figure" s__law_figure
  _law_is_pane : DefT K mg "_law_is_pane" s__law_is_pane
  _law_bent_pane : DefT K mg "_law_bent_pane" s__law_bent_pane
  _law_sides_of : DefT K mg "_law_sides_of" s__law_sides_of
  _law_lies_in : DefT K mg "_law_lies_in" s__law_lies_in
  _law_span_at : DefT K mg "_law_span_at" s__law_span_at
  _law_all_rows : DefT K mg "_law_all_rows" s__law_all_rows
  _law_all_dots : DefT K mg "_law_all_dots" s__law_all_dots
  _law_all_spans : DefT K mg "_law_all_spans" s__law_all_spans
  _law_are_spans : DefT K mg "_law_are_spans" s__law_are_spans
  _law_are_ends : DefT K mg "_law_are_ends" s__law_are_ends
  _law_are_refused : DefT K mg "_law_are_refused" s__law_are_refused
  law : DefT K mg "law" s_law
  b_isinstance : mg "isinstance" = none
  b_int : mg "int" = none
  b_bool : mg "bool" = none
  b_len : mg "len" = none
  b_abs : mg "abs" = none
  b_range : mg "range" = none
  b_min : mg "min" = none
  b_max : mg "max" = none
  b_list : mg "list" = none
  b_tuple : mg "tuple" = none
  b_all : mg "all" = none
  b_enumerate : mg "enumerate" = none
  b_zip : mg "zip" = none
  b_ValueError : mg "ValueError" = none
section
variable {K : PySem.W.Frag} {mg : Str → Option Value}
theorem bd_is_number (T : Top K mg) : Binds K T.is_number.d ["thing"] [] := T.is_number.f.binds fun _ _ _ _ _ _ us hl => match us, hl with | [_], _ => rfl
theorem bd_is_within (T : Top K mg) : Binds K T.is_within.d ["thing", "low", "high"] [] := T.is_within.f.binds fun _ _ _ _ _ _ us hl => match us, hl with | [_, _, _], _ => rfl
theorem bd_is_row (T : Top K mg) : Binds K T.is_row.d ["thing"] [] := T.is_row.f.binds fun _ _ _ _ _ _ us hl => match us, hl with | [_], _ => rfl
theorem bd_is_rows (T : Top K mg) : Binds K T.is_rows.d ["thing"] [] := T.is_rows.f.binds fun _ _ _ _ _ _ us hl => match us, hl with | [_], _ => rfl
theorem bd_lift_spans (T : Top K mg) : Binds K T.lift_spans.d ["lows", "highs"] [] := T.lift_spans.f.binds fun _ _ _ _ _ _ us hl => match us, hl with | [_, _], _ => rfl
theorem bd_lift_end (T : Top K mg) : Binds K T.lift_end.d ["lows", "highs", "y", "x", "upper"] [] := T.lift_end.f.binds fun _ _ _ _ _ _ us hl => match us, hl with | [_, _, _, _, _], _ => rfl
theorem bd_check_rectangle (T : Top K mg) : Binds K T.check_rectangle.d ["rectangle"] [] := T.check_rectangle.f.binds fun _ _ _ _ _ _ us hl => match us, hl with | [_], _ => rfl
theorem bd_check_spans (T : Top K mg) : Binds K T.check_spans.d ["lows", "highs"] [] := T.check_spans.f.binds fun _ _ _ _ _ _ us hl => match us, hl with | [_, _], _ => rfl
theorem bd_check_spot (T : Top K mg) : Binds K T.check_spot.d ["height", "width", "y", "x"] [] := T.check_spot.f.binds fun _ _ _ _ _ _ us hl => match us, hl with | [_, _, _, _], _ => rfl
theorem bd_is_inner (T : Top K mg) : Binds K T.is_inner.d ["area"] [] := T.is_inner.f.binds fun _ _ _ _ _ _ us hl => match us, hl with | [_], _ => rfl
theorem bd_halves (T : Top K mg) : Binds K T.halves.d ["area"] [] := T.halves.f.binds fun _ _ _ _ _ _ us hl => match us, hl with | [_], _ => rfl
theorem bd_halves_at (T : Top K mg) : Binds K T.halves_at.d ["inner"] [] := T.halves_at.f.binds fun _ _ _ _ _ _ us hl => match us, hl with | [_], _ => rfl
theorem bd_list_areas (T : Top K mg) : Binds K T.list_areas.d ["height", "width"] [] := T.list_areas.f.binds fun _ _ _ _ _ _ us hl => match us, hl with | [_, _], _ => rfl
theorem bd_lies_in (T : Top K mg) : Binds K T.lies_in.d ["area", "y", "x"] [] := T.lies_in.f.binds fun _ _ _ _ _ _ us hl => match us, hl with | [_, _, _], _ => rfl
theorem bd_in_rows (T : Top K mg) : Binds K T.in_rows.d ["numbers", "width"] [] := T.in_rows.f.binds fun _ _ _ _ _ _ us hl => match us, hl with | [_, _], _ => rfl
theorem bd_lowest (T : Top K mg) : Binds K T.lowest.d ["lows", "highs"] [] := T.lowest.f.binds fun _ _ _ _ _ _ us hl => match us, hl with | [_, _], _ => rfl
theorem bd_end_at (T : Top K mg) : Binds K T.end_at.d ["lows", "highs", "y", "x"] [] := T.end_at.f.binds fun _ _ _ _ _ _ us hl => match us, hl with | [_, _, _, _], _ => rfl
theorem bd__law_begun (T : Top K mg) : Binds K T._law_begun.d ["script"] [] := T._law_begun.f.binds fun _ _ _ _ _ _ us hl => match us, hl with | [_], _ => rfl
theorem bd__law_draw (T : Top K mg) : Binds K T._law_draw.d ["state", "size_here"] [] := T._law_draw.f.binds fun _ _ _ _ _ _ us hl => match us, hl with | [_, _], _ => rfl
theorem bd__law_pick (T : Top K mg) : Binds K T._law_pick.d ["state", "several"] [] := T._law_pick.f.binds fun _ _ _ _ _ _ us hl => match us, hl with | [_, _], _ => rfl
theorem bd__law_caught (T : Top K mg) : Binds K T._law_caught.d ["work"] [] := T._law_caught.f.binds fun _ _ _ _ _ _ us hl => match us, hl with | [_], _ => rfl
theorem bd__law_is_whole (T : Top K mg) : Binds K T._law_is_whole.d ["item"] [] := T._law_is_whole.f.binds fun _ _ _ _ _ _ us hl => match us, hl with | [_], _ => rfl
theorem bd__law_odd (T : Top K mg) : Binds K T._law_odd.d ["state"] [] := T._law_odd.f.binds fun _ _ _ _ _ _ us hl => match us, hl with | [_], _ => rfl
theorem bd__law_areas (T : Top K mg) : Binds K T._law_areas.d ["tall", "wide"] [] := T._law_areas.f.binds fun _ _ _ _ _ _ us hl => match us, hl with | [_, _], _ => rfl
theorem bd__law_halves (T : Top K mg) : Binds K T._law_halves.d ["area"] [] := T._law_halves.f.binds fun _ _ _ _ _ _ us hl => match us, hl with | [_], _ => rfl
theorem bd__law_lift (T : Top K mg) : Binds K T._law_lift.d ["tall", "wide", "numbers_here"] [] := T._law_lift.f.binds fun _ _ _ _ _ _ us hl => match us, hl with | [_, _, _], _ => rfl
theorem bd__law_unlift (T : Top K mg) : Binds K T._law_unlift.d ["tall", "wide", "numbers_here"] [] := T._law_unlift.f.binds fun _ _ _ _ _ _ us hl => match us, hl with | [_, _, _], _ => rfl
theorem bd__law_lines_of (T : Top K mg) : Binds K T._law_lines_of.d ["told", "wide"] [] := T._law_lines_of.f.binds fun _ _ _ _ _ _ us hl => match us, hl with | [_, _], _ => rfl
theorem bd__law_row_by_row (T : Top K mg) : Binds K T._law_row_by_row.d ["pane"] [] := T._law_row_by_row.f.binds fun _ _ _ _ _ _ us hl => match us, hl with | [_], _ => rfl
theorem bd__law_sizes (T : Top K mg) : Binds K T._law_sizes.d ["state", "cap"] [] := T._law_sizes.f.binds fun _ _ _ _ _ _ us hl => match us, hl with | [_, _], _ => rfl
theorem bd__law_figure (T : Top K mg) : Binds K T._law_figure.d ["state", "fashion"] [] := T._law_figure.f.binds fun _ _ _ _ _ _ us hl => match us, hl with | [_, _], _ => rfl
theorem bd__law_is_pane (T : Top K mg) : Binds K T._law_is_pane.d ["item"] [] := T._law_is_pane.f.binds fun _ _ _ _ _ _ us hl => match us, hl with | [_], _ => rfl
theorem bd__law_bent_pane (T : Top K mg) : Binds K T._law_bent_pane.d ["state", "pane"] [] := T._law_bent_pane.f.binds fun _ _ _ _ _ _ us hl => match us, hl with | [_, _], _ => rfl
theorem bd__law_sides_of (T : Top K mg) : Binds K T._law_sides_of.d ["tall", "wide", "dot"] [] := T._law_sides_of.f.binds fun _ _ _ _ _ _ us hl => match us, hl with | [_, _, _], _ => rfl
theorem bd__law_lies_in (T : Top K mg) : Binds K T._law_lies_in.d ["area", "dot"] [] := T._law_lies_in.f.binds fun _ _ _ _ _ _ us hl => match us, hl with | [_, _], _ => rfl
theorem bd__law_span_at (T : Top K mg) : Binds K T._law_span_at.d ["tall", "wide", "least", "most", "dot"] [] := T._law_span_at.f.binds fun _ _ _ _ _ _ us hl => match us, hl with | [_, _, _, _, _], _ => rfl
theorem bd__law_all_rows (T : Top K mg) : Binds K T._law_all_rows.d ["least", "most"] [] := T._law_all_rows.f.binds fun _ _ _ _ _ _ us hl => match us, hl with | [_, _], _ => rfl
theorem bd__law_all_dots (T : Top K mg) : Binds K T._law_all_dots.d ["tall", "wide"] [] := T._law_all_dots.f.binds fun _ _ _ _ _ _ us hl => match us, hl with | [_, _], _ => rfl
theorem bd__law_all_spans (T : Top K mg) : Binds K T._law_all_spans.d ["tall", "wide", "least", "most"] [] := T._law_all_spans.f.binds fun _ _ _ _ _ _ us hl => match us, hl with | [_, _, _, _], _ => rfl
theorem bd__law_are_spans (T : Top K mg) : Binds K T._law_are_spans.d ["tall", "wide", "least", "most"] [] := T._law_are_spans.f.binds fun _ _ _ _ _ _ us hl => match us, hl with | [_, _, _, _], _ => rfl
theorem bd__law_are_ends (T : Top K mg) : Binds K T._law_are_ends.d ["tall", "wide", "least", "most", "dot"] [] := T._law_are_ends.f.binds fun _ _ _ _ _ _ us hl => match us, hl with | [_, _, _, _, _], _ => rfl
theorem bd__law_are_refused (T : Top K mg) : Binds K T._law_are_refused.d ["state", "tall", "wide", "least", "most"] [] := T._law_are_refused.f.binds fun _ _ _ _ _ _ us hl => match us, hl with | [_, _, _, _, _], _ => rfl
theorem bd_law (T : Top K mg) : Binds K T.law.d ["script"] [] := T.law.f.binds fun _ _ _ _ _ _ us hl => match us, hl with | [_], _ => rfl
end
end K17
namespace KA
open PySem
/-! ### numbers in bits: the mathematics -/
/-- n in k bits, as codes -/
def bitsL : Nat → Nat → List Nat
  | 0, _ => []
  | k + 1, n => bitsL k (n / 2) ++ [48 + n % 2]
theorem bitsL_len : ∀ k n, (bitsL k n).length = k
  | 0, _ => rfl
  | k + 1, n => by simp [bitsL, bitsL_len k]
def binL (n : Nat) : List Nat := (Nat.toDigits 2 n).map Char.toNat
theorem binL_lt {n : Nat} (h : n < 2) : binL n = [48 + n] := by
  unfold binL
  rw [Nat.toDigits_of_lt_base h]
  have : n = 0 ∨ n = 1 := by omega
  rcases this with rfl | rfl <;> rfl
theorem binL_ge {n : Nat} (h : 2 ≤ n) : binL n = binL (n / 2) ++ [48 + n % 2] := by
  unfold binL
  rw [Nat.toDigits_of_base_le (by decide) h, List.map_append]
  have : n % 2 = 0 ∨ n % 2 = 1 := by omega
  rcases this with e | e <;> rw [e] <;> rfl
/-- the digits behind the first one -/
def tailL (n : Nat) : List Nat := (binL n).drop 1
theorem binL_ne (n : Nat) : binL n ≠ [] := by
  unfold binL
  intro h
  exact Nat.toDigits_ne_nil (List.map_eq_nil_iff.mp h)
theorem tailL_lt {n : Nat} (h : n < 2) : tailL n = [] := by
  unfold tailL
  rw [binL_lt h]
  rfl
theorem tailL_ge {n : Nat} (h : 2 ≤ n) : tailL n = tailL (n / 2) ++ [48 + n % 2] := by
  unfold tailL
  rw [binL_ge h, List.drop_append_of_le_length]
  have := List.length_pos_iff.mpr (binL_ne (n / 2))
  omega
theorem binL_head : ∀ (n : Nat), 1 ≤ n → binL n = 49 :: tailL n := by
  intro n
  induction n using Nat.strongRecOn with
  | _ n ih =>
    intro h
    by_cases h2 : n < 2
    · have : n = 1 := by omega
      subst this
      rfl
    · rw [tailL_ge (by omega), binL_ge (by omega), ih (n / 2) (by omega) (by omega)]
      rfl
theorem binL_le : ∀ (k n : Nat), 0 < k → n < 2 ^ k → (binL n).length ≤ k
  | 0, _, h, _ => by omega
  | k + 1, n, _, h => by
    by_cases h2 : n < 2
    · rw [binL_lt h2]
      simp
    · rw [binL_ge (by omega), List.length_append]
      have hk : 0 < k := by
        rcases Nat.eq_zero_or_pos k with e | e
        · subst e
          simp at h
          omega
        · exact e
      have := binL_le k (n / 2) hk (by rw [Nat.pow_succ] at h; omega)
      simp
      omega
theorem bitsL_bin : ∀ (k n : Nat), 0 < k → n < 2 ^ k → List.replicate (k - (binL n).length) 48 ++ binL n = bitsL k n
  | 0, _, h, _ => by omega
  | k + 1, n, _, h => by
    rw [bitsL]
    by_cases h2 : n < 2
    · rw [binL_lt h2]
      have e : n / 2 = 0 := by omega
      have e2 : n % 2 = n := by omega
      rw [e, e2]
      have z : ∀ j, bitsL j 0 = List.replicate j 48 := fun j => by
        induction j with
        | zero => rfl
        | succ j ih => rw [bitsL, Nat.zero_div, ih, List.replicate_succ']
      rw [z]
      simp
    · have hk : 0 < k := by
        rcases Nat.eq_zero_or_pos k with e | e
        · subst e
          simp at h
          omega
        · exact e
      have hd : n / 2 < 2 ^ k := by
        rw [Nat.pow_succ] at h
        omega
      rw [← bitsL_bin k (n / 2) hk hd, binL_ge (by omega), List.length_append]
      have e : k + 1 - ((binL (n / 2)).length + [48 + n % 2].length) = k - (binL (n / 2)).length := by simp
      rw [e, List.append_assoc]
theorem binText_eq (n : Nat) : binText n = ⟨(binL n).toArray⟩ := rfl
theorem binText_len (n : Nat) : (binText n).length = (binL n).length := by simp [binText, binL, Str.length]
/-- n in m bits, as a text -/
def twosT (m n : Nat) : Str := ⟨(bitsL m n).toArray⟩
theorem zfill_bin {m n : Nat} (hm : 0 < m) (h : n < 2 ^ m) : Txt.zfill (binText n) (m : Int) = twosT m n := by
  have hl := binL_le m n hm h
  have hb := bitsL_bin m n hm h
  unfold Txt.zfill
  rw [binText_len]
  by_cases e : (m : Int) ≤ ((binL n).length : Nat)
  · rw [if_pos e]
    have : m - (binL n).length = 0 := by omega
    rw [this] at hb
    simp only [List.replicate_zero, List.nil_append] at hb
    rw [binText_eq, hb]
    rfl
  · rw [if_neg e]
    have h0 : (binText n).cps[0]? = some 48 ∨ (binText n).cps[0]? = some 49 := by
      rw [binText_eq]
      rcases Nat.eq_zero_or_pos n with z | z
      · subst z
        exact .inl rfl
      · rw [binL_head n z]
        exact .inr rfl
    have e2 : zfilled (binText n) ((m : Int).toNat - (binL n).length) = Builtin.Str.padded (binText n) ((m : Int).toNat - (binL n).length) 0 48 := by
      unfold zfilled
      rcases h0 with z | z
      · rw [z]
        rfl
      · rw [z]
        rfl
    rw [e2]
    unfold Builtin.Str.padded twosT
    rw [← hb, binText_eq]
    congr 1
    apply Array.toList_inj.mp
    simp
/-- n ones -/
def onesT (n : Nat) : Str := ⟨(List.replicate n 49).toArray⟩
theorem onesT_len (n : Nat) : (onesT n).length = n := by simp [onesT, Str.length]
theorem fold_ones (n : Nat) : ∀ acc : Array Nat, (List.replicate n (#[49] : Array Nat)).foldl (· ++ ·) acc = acc ++ (List.replicate n 49).toArray := by
  induction n with
  | zero => intro acc; simp
  | succ n ih =>
    intro acc
    rw [List.replicate_succ, List.foldl_cons, ih, List.replicate_succ]
    apply Array.toList_inj.mp
    simp
theorem mul_ones (n : Nat) : Txt.mul "1" (n : Int) = onesT n := by
  unfold Txt.mul
  by_cases h : (n : Int) < 1
  · rw [if_pos h]
    have : n = 0 := by omega
    subst this
    rfl
  · rw [if_neg h]
    by_cases h1 : n = 1
    · subst h1
      rfl
    · rw [if_neg (by
        have e : ((n : Int) == 1) = false := by
          rw [beq_eq_false_iff_ne]
          omega
        rw [e]
        decide)]
      show (⟨(List.replicate (n : Int).toNat (#[49] : Array Nat)).foldl (· ++ ·) #[]⟩ : Str) = _
      rw [Int.toNat_natCast, fold_ones]
      unfold onesT
      congr 1
      apply Array.toList_inj.mp
      simp
end KA
namespace K17
open PySem PySem.Spec PyProof.Rows L2 PySem.W LamX KA
/-! ### the promises -/
/-- a value whose type isinstance can tell; whether it is a number -/
inductive Pl (K : PySem.W.Frag) (H : Hp) : V → Bool → Prop where
  | int (i : Int) : Pl K H (.int i) true
  | bl (b : Bool) : Pl K H (.bl b) false
  | str (s : Str) : Pl K H (.str s) false
  | non : Pl K H .non false
  | tup {a : Addr} {xs : List V} (e : H a = some (.tup xs)) : Pl K H (.ref a) false
  | lst {a : Addr} {xs : List V} (e : H a = some (.lst xs)) : Pl K H (.ref a) false
  | dK {a : Addr} {kvs : List (Key × V)} (e : H a = some (.dK kvs)) : Pl K H (.ref a) false
theorem Pl.ty {K : PySem.W.Frag} {H : Hp} {x : V} {b : Bool} (h : Pl K H x b) : ∃ t : String, TyX K H x (.type t) ∧ kitB t "int" = some (b || (t == "bool")) ∧ kitB t "bool" = some (t == "bool") ∧ ((b || (t == "bool")) && !(t == "bool")) = b := by
  cases h with
  | int i => exact ⟨"int", .base (.int i), by decide +kernel, by decide +kernel, by decide⟩
  | bl i => exact ⟨"bool", .base (.bl i), by decide +kernel, by decide +kernel, by decide⟩
  | str i => exact ⟨"str", .base (.str i), by decide +kernel, by decide +kernel, by decide⟩
  | non => exact ⟨"NoneType", .base .non, by decide +kernel, by decide +kernel, by decide⟩
  | tup e => exact ⟨"tuple", .base (.tup e), by decide +kernel, by decide +kernel, by decide⟩
  | lst e => exact ⟨"list", .base (.lst e), by decide +kernel, by decide +kernel, by decide⟩
  | dK e => exact ⟨"dict", .base (.dK e), by decide +kernel, by decide +kernel, by decide⟩
def within (x : V) (lo hi : Int) : Bool := match x with
  | .int i => decide (lo ≤ i) && decide (i ≤ hi)
  | _ => false
def spNumber (K : PySem.W.Frag) : Sp := fun vs H Q _ => ∃ x b, vs = [x] ∧ Pl K H x b ∧ Q (.bl b) H
def spWithin (K : PySem.W.Frag) : Sp := fun vs H Q _ => ∃ x b lo hi, vs = [x, .int lo, .int hi] ∧ Pl K H x b ∧ Q (.bl (within x lo hi)) H
section
variable {P : Program} {w : World} {K : PySem.W.Frag} {mg : Str → Option Value} {base : Heap} (T : Top K mg)
abbrev pInt {X : Cx} {pos : Pos} (hg : Gl X "int") (hm : X.mg "int" = none) : PE X (.Name "int" pos) (tC (.ty "int")) := pe_bltn hg hm PyProof.Rows.boot_int rfl
theorem q_bl {Q : VK} {H : Hp} {a b : Bool} (k : Q (.bl b) H) (e : a = b) : Q (.bl a) H := e ▸ k
theorem q_int {Q : VK} {H : Hp} {a b : Int} (k : Q (.int b) H) (e : a = b) : Q (.int a) H := e ▸ k
theorem q_str {Q : VK} {H : Hp} {a b : Str} (k : Q (.str b) H) (e : a = b) : Q (.str a) H := e ▸ k
theorem ok_is_number : FnOk P w K mg base (L2.CX P w) 1 T.is_number.a T.is_number.d ["thing"] (spNumber K) := by
  refine T.is_number.f.okX sc_is_number (fun vs H Q E h => ?_) (fun cdv A outer s H vs Q E hr h => ?_)
  · obtain ⟨x, b, rfl, _⟩ := h
    rfl
  · obtain ⟨x, b, rfl, hp, k⟩ := h
    refine ⟨_, pss_one (ps_ret (pe_and
      (pe_callB call_isi (by rfl) T.b_isinstance PyProof.Rows.boot_isinstance (pa_cons (pv 0) (pa_cons (pe_bltn (v := .ty "int") (by rfl) T.b_int PyProof.Rows.boot_int rfl) pa_nil)))
      (pe_one (pe_not (pe_callB call_isi (by rfl) T.b_isinstance PyProof.Rows.boot_isinstance (pa_cons (pv 0) (pa_cons (pe_bltn (v := .ty "bool") (by rfl) T.b_bool (by decide +kernel) rfl) pa_nil))))))), ?_⟩
    obtain ⟨t, ht, h1, h2, h3⟩ := hp.ty
    refine ⟨_, rfl, x, _, _, _, _, rfl, .ty "int", ht, kit_ty h1, _, rfl, ?_⟩
    cases e : (b || (t == "bool"))
    · rw [e] at h3
      refine iteF ?_
      exact q_bl k h3
    · rw [e] at h3
      refine iteT ?_
      refine ⟨_, rfl, x, _, _, _, _, rfl, .ty "bool", ht, kit_ty h2, _, rfl, ?_⟩
      exact q_bl k (by simpa using h3)
theorem ok_is_within : FnOk P w K mg base (L2.CX P w) 2 T.is_within.a T.is_within.d ["thing", "low", "high"] (spWithin K) := by
  refine T.is_within.f.okX sc_is_within (fun vs H Q E h => ?_) (fun cdv A outer s H vs Q E hr h => ?_)
  · obtain ⟨x, b, lo, hi, rfl, _⟩ := h
    rfl
  · obtain ⟨x, b, lo, hi, rfl, hp, k⟩ := h
    refine ⟨_, pss_one (ps_ret (pe_and (pe_call (ok_is_number T) hr (by rfl) T.is_number.m T.is_number.f.kp (bd_is_number T) .nil passE (pa_cons (pv 0) pa_nil))
      (pe_one (pe_chain op_le op_le (pv 1) (pv 0) (pv 2))))), ?_⟩
    refine ⟨_, rfl, x, b, rfl, hp, b, rfl, ?_⟩
    cases hp with
    | int i =>
      refine iteT ⟨_, rfl, _, rfl, lo, i, rfl, rfl, _, rfl, ?_⟩
      by_cases h1 : lo ≤ i
      · rw [decide_eq_true h1]
        refine iteT ⟨_, rfl, i, hi, rfl, rfl, ?_⟩
        exact q_bl k (by simp [within, h1])
      · rw [decide_eq_false h1]
        refine iteF ?_
        exact q_bl k (by simp [within, h1])
    | _ => exact iteF k
def foldI (i : Int) : Int := if i > 0 then 2 * i - 1 else -2 * i
def spFold : Sp := fun vs H Q _ => ∃ i : Int, vs = [.int i] ∧ Q (.int (foldI i)) H
def unfoldI (n : Int) : Int := if Builtin.bitAnd n 1 != 0 then (n + 1) / 2 else -(n / 2)
def spUnfold : Sp := fun vs H Q _ => ∃ i : Int, vs = [.int i] ∧ Q (.int (unfoldI i)) H
/-- n in m bits, as the program writes it -/
theorem padOk {m : Int} (h0 : 0 ≤ m) (h1 : m ≤ 100) : PadOk m = true := by
  unfold PadOk fitsSsize Builtin.Str.tooLong
  have e : sizeLine = 16777216 := rfl
  rw [e]
  simp
  omega
def inBits (n m : Int) : Str := if m = 0 then "" else Txt.zfill (binText n.natAbs) m
def spInBits : Sp := fun vs H Q _ => ∃ n m : Int, vs = [.int n, .int m] ∧ 0 ≤ n ∧ (binText n.natAbs).length ≤ 100 ∧ 0 ≤ m ∧ m ≤ 100 ∧ Q (.str (inBits n m)) H
def spIsTold (K : PySem.W.Frag) : Sp := fun vs H Q _ => ∃ x b, vs = [x] ∧ Pl K H x b ∧ Q (.bl (within x (-32767) 32767)) H
/-- a check: nothing, or an error of the class at C -/
def spCheck (K : PySem.W.Frag) (lo hi : Int) (C : Addr) : Sp := fun vs H Q E => ∃ x b, vs = [x] ∧ Pl K H x b ∧ (within x lo hi = true → Q .non H) ∧ (within x lo hi = false → E (.ref C) none H)
theorem iteNot {A B : Prop} {b : Bool} (h1 : b = false → A) (h2 : b = true → B) : if (!b) = true then A else B := by
  cases b
  · exact h1 rfl
  · exact h2 rfl
theorem passX {X : Cx} {E : XK} (hs : X.stack = X.env :: X.outer) (hf : X.env.frame = some X.env.locals) (hex : X.ex = []) (hx : X.xe = fun e s' => wpAny (model X.prog X.w) X.A (leaving X.env e) (fun _ s'' => L2.CX X.prog X.w X.outer X.H_0 X.s_0 E e s'') (fun e' s'' => L2.CX X.prog X.w X.outer X.H_0 X.s_0 E e' s'') s') :
    Passes (L2.CX X.prog X.w) X E := passes_call (takes_of hs hf hex hx) fun _ _ _ _ h => h
theorem within_int {x : V} {lo hi : Int} (h : within x lo hi = true) : ∃ i, x = .int i ∧ lo ≤ i ∧ i ≤ hi := by
  cases x with
  | int i =>
    simp only [within, Bool.and_eq_true, decide_eq_true_eq] at h
    exact ⟨i, rfl, h⟩
  | _ => cases h
def spFolded (K : PySem.W.Frag) (C : Addr) : Sp := fun vs H Q E => ∃ x b, vs = [x] ∧ Pl K H x b ∧ (∀ i, x = .int i → -32767 ≤ i → i ≤ 32767 → Q (.int (foldI i)) H) ∧ (within x (-32767) 32767 = false → E (.ref C) none H)
def spUnfolded (K : PySem.W.Frag) (C : Addr) : Sp := fun vs H Q E => ∃ x b, vs = [x] ∧ Pl K H x b ∧ (∀ i, x = .int i → 0 ≤ i → i ≤ 65534 → Q (.int (unfoldI i)) H) ∧ (within x 0 65534 = false → E (.ref C) none H)
end
end K17
namespace K17
open PySem PySem.Spec PyProof.Rows L2 PySem.W LamX KA
section
variable {P : Program} {w : World} {K : PySem.W.Frag} {mg : Str → Option Value} {base : Heap} (T : Top K mg)
def isStr (x : V) : Bool := match x with
  | .str _ => true
  | _ => false
theorem Pl.str? {K : PySem.W.Frag} {H : Hp} {x : V} {b : Bool} (h : Pl K H x b) : ∃ t : String, TyX K H x (.type t) ∧ kitB t "str" = some (isStr x) := by
  cases h with
  | int i => exact ⟨"int", .base (.int i), (by decide +kernel : kitB "int" "str" = some false)⟩
  | bl i => exact ⟨"bool", .base (.bl i), (by decide +kernel : kitB "bool" "str" = some false)⟩
  | str i => exact ⟨"str", .base (.str i), (by decide +kernel : kitB "str" "str" = some true)⟩
  | non => exact ⟨"NoneType", .base .non, by decide +kernel⟩
  | tup e => exact ⟨"tuple", .base (.tup e), (by decide +kernel : kitB "tuple" "str" = some false)⟩
  | lst e => exact ⟨"list", .base (.lst e), (by decide +kernel : kitB "list" "str" = some false)⟩
  | dK e => exact ⟨"dict", .base (.dK e), (by decide +kernel : kitB "dict" "str" = some false)⟩
def isBits (x : V) : Bool := match x with
  | .str s => decide (V.str (Txt.stripChars s "01") = V.str "")
  | _ => false
def spIsBits (K : PySem.W.Frag) : Sp := fun vs H Q _ => ∃ x b, vs = [x] ∧ Pl K H x b ∧ (∀ s, x = .str s → s.length ≤ 1000) ∧ Q (.bl (isBits x)) H
def spFixed (K : PySem.W.Frag) (CM CN : Addr) : Sp := fun vs H Q E => ∃ x bx y «by», vs = [x, y] ∧ Pl K H x bx ∧ Pl K H y «by» ∧ (within y 1 16 = false → E (.ref CM) none H) ∧
  ∀ m : Nat, y = .int m → 1 ≤ m → m ≤ 16 → (within x 0 (2 ^ m - 1) = false → E (.ref CN) none H) ∧ ∀ n : Nat, x = .int n → n < 2 ^ m → Q (.str (twosT m n)) H
theorem pow16 {m : Nat} (h : m ≤ 16) : 2 ^ m ≤ 65536 := by
  have := Nat.pow_le_pow_right (n := 2) (by decide) h
  exact this
theorem binText_small {n : Nat} (h : n < 65536) : (binText n).length ≤ 100 := by
  rw [binText_len]
  have := binL_le 16 n (by decide) h
  omega
theorem inBits_eq {m n : Nat} (hm : 0 < m) (h : n < 2 ^ m) : inBits (n : Int) (m : Int) = twosT m n := by
  unfold inBits
  rw [if_neg (by omega), Int.natAbs_natCast]
  exact zfill_bin hm h
theorem cut_one {z : Str} (h : 1 ≤ z.length) : cutS z (some 1) none = ⟨(z.cps.toList.drop 1).toArray⟩ := by
  have e1 : HT.sIx z.length 0 (some 1) = 1 := (HT.sIx_nat z.length 0 1).trans (by omega)
  unfold cutS
  rw [e1, HT.sIx_none, List.take_of_length_le]
  simp [Str.length]
theorem len_app (x y : Str) : (x ++ y).length = x.length + y.length := Array.size_append
def longT (f : Nat) : Str := onesT (tailL (f + 1)).length ++ "0" ++ ⟨(tailL (f + 1)).toArray⟩
theorem foldI_nat {i : Int} (h1 : -32767 ≤ i) (h2 : i ≤ 32767) : ∃ f : Nat, foldI i = f ∧ f < 65535 := by
  refine ⟨(foldI i).toNat, ?_, ?_⟩ <;> (unfold foldI; split <;> omega)
def spLong (K : PySem.W.Frag) (C : Addr) : Sp := fun vs H Q E => ∃ x b, vs = [x] ∧ Pl K H x b ∧ (∀ i (f : Nat), x = .int i → foldI i = f → f < 65535 → Q (.str (longT f)) H) ∧ (within x (-32767) 32767 = false → E (.ref C) none H)
def gradeT (f g : Nat) : Str := if 12 ≤ f / 2 ^ g then onesT 12 ++ twosT 16 f else onesT (f / 2 ^ g) ++ "0" ++ twosT g (f % 2 ^ g)
theorem twosT_len (m n : Nat) : (twosT m n).length = m := by
  show ((bitsL m n).toArray).size = m
  simp [bitsL_len]
def spGrade (K : PySem.W.Frag) (CN CG : Addr) : Sp := fun vs H Q E => ∃ x b y yb, vs = [x, y] ∧ Pl K H x b ∧ Pl K H y yb ∧ (within x (-32767) 32767 = false → E (.ref CN) none H) ∧
  ∀ i (f : Nat), x = .int i → foldI i = f → f < 65535 → (within y 0 7 = false → E (.ref CG) none H) ∧ ∀ g : Nat, y = .int g → g ≤ 7 → Q (.str (gradeT f g)) H
end
end K17
namespace K17
open PySem PySem.Spec PyProof.Rows L2 PySem.W LamX KA
open Evl (pss_cut tCut)
def spDraw : Sp := fun vs H Q _ => ∃ (st lg cl : Addr) (n m : Nat), vs = [.ref st, .int n] ∧ 0 < n ∧ n < 2 ^ 100 ∧ m ≤ 1000000 ∧ StAt H st lg cl m ∧
  ∀ (r : Nat) (H' : Hp), r < n → StAt H' st lg cl (m + 1) → Kp st lg H H' → Q (.int r) H'
section
variable {P : Program} {w : World} {K : PySem.W.Frag} {mg : Str → Option Value} {base : Heap} (T : Top K mg)
theorem draw_div {n : Nat} (h0 : 0 < n) (h : n < 2 ^ 100) {i : Int} : CDivW i (n : Int) := wide_div (b := 100) (by omega) (by simpa using h) (by decide) (by decide)
theorem ok_draw : FnOk P w K mg base (L2.CX P w) 1 T._law_draw.a T._law_draw.d ["state", "size_here"] spDraw := by
  refine T._law_draw.f.okX sc__law_draw (fun vs H Q E h => ?_) (fun cdv A outer s H vs Q E hr h => ?_)
  · obtain ⟨st, lg, cl, n, m, rfl, _⟩ := h
    rfl
  · obtain ⟨st, lg, cl, n, m, rfl, hn, hn2, hm, ⟨large, cells, left, turn, S, ht⟩, k⟩ := h
    have hu := hu_of hr
    refine ⟨_, pss_cut (ps_while (passes_of rfl) (PW.pt (pw_and (pt_cmpR op_eq (pe_dget hu (pv 0) pe_str (fun _ _ => rfl)) pe_int (nomark _)) (pw_and1 (pt_cmpR (op_neD hr.units) (pe_dget hu (pv 0) pe_str (fun _ _ => rfl)) (pe_lst pa_nil) (nomark _)))))
        (pss_one (ps_dput hu (pv 0) pe_str (pe_bm PySem.F.plainAttrs_list PySem.F.slot_list_pop PySem.F.type_list_pop mt_popAt (pe_dget hu (pv 0) pe_str (fun _ _ => rfl)) (pa_cons pe_int pa_nil)) rfl)))
      (pss_cons (ps_if (pt_cmpR op_gt (pe_dget hu (pv 0) pe_str (fun _ _ => rfl)) pe_int (nomark _))
        (pss_cons (ps_set (i := 2) sc__law_draw.nd rfl (.inl rfl) (pe_op op_mod (pe_callTy call_int1 (by rfl) T.b_int PyProof.Rows.boot_int (pa_cons (pe_dget hu (pv 0) pe_str (fun _ _ => rfl)) pa_nil)) (pv 1)))
        (pss_cons (ps_dput hu (pv 0) pe_str (pe_op op_fdivW (pe_dget hu (pv 0) pe_str (fun _ _ => rfl)) (pv 1)) rfl)
        (pss_one (ps_ret (pv 2))))) pss_nil)
      (pss_cons (ps_set (i := 3) sc__law_draw.nd rfl (.inl rfl) (pe_op op_add (pe_dget hu (pv 0) pe_str (fun _ _ => rfl)) pe_int))
      (pss_cons (ps_dput hu (pv 0) pe_str (pv 3) rfl)
      (pss_cut (ps_set (i := 4) sc__law_draw.nd rfl (.inl rfl) (pe_ifExp (pt_cmpR (op_neD hr.units) (pe_dget hu (pv 0) pe_str (fun _ _ => rfl)) (pe_lst pa_nil) (nomark _))
        (pe_ix ix_list (pe_dget hu (pv 0) pe_str (fun _ _ => rfl)) (pe_op op_mod (pe_callTy call_int1 (by rfl) T.b_int PyProof.Rows.boot_int (pa_cons (pv 3) pa_nil)) (pe_callB call_len_seq (by rfl) T.b_len PySem.boot_len (pa_cons (pe_dget hu (pv 0) pe_str (fun _ _ => rfl)) pa_nil))) (fun _ _ => rfl))
        pe_int))
      (pss_cons (ps_set (i := 5) sc__law_draw.nd rfl (.inl rfl) (pe_op op_mod (pe_callTy call_int1 (by rfl) T.b_int PyProof.Rows.boot_int (pa_cons (pe_op op_pow (pe_op op_add (pe_op op_add (pe_op op_mod (pe_callTy call_int1 (by rfl) T.b_int PyProof.Rows.boot_int (pa_cons (pv 4) pa_nil)) pe_int) (pe_op op_mul pe_int (pv 3))) pe_int) pe_int) pa_nil)) pe_int))
      (pss_one (ps_ret (pe_op op_mod (pe_callTy call_int1 (by rfl) T.b_int PyProof.Rows.boot_int (pa_cons (pe_op op_fdiv (pe_op op_mod (pe_callTy call_int1 (by rfl) T.b_int PyProof.Rows.boot_int (pa_cons (pe_op op_pow (pe_op op_add (pv 5) (pe_op op_mul pe_int (pv 3))) pe_int) pa_nil)) pe_int) pe_int) pa_nil)) (pv 1))))))))), ?_⟩
    -- the while
    refine ⟨fun σ' H' => σ' = [some (.ref st), some (.int n), none, none, none, none] ∧ ∃ large' left', StD H' st lg cl large' cells left' turn ∧ Kp st lg H H', ?_, ?_⟩
    · refine ⟨fun μ σ' H' => σ' = [some (.ref st), some (.int n), none, none, none, none] ∧ ∃ large' left', large'.length = μ ∧ StD H' st lg cl large' cells left' turn ∧ Kp st lg H H',
        ⟨large.length, rfl, large, left, rfl, S, Kp.refl⟩, ?_⟩
      rintro μ σ' H1 ⟨rfl, large', left', hμ, S1, kp1⟩
      refine ⟨_, rfl, st, _, rfl, (show DGet H1 st (kV kLeft) _ from st_left ▸ DGet.k S1.d), rfl, _, rfl, ?_⟩
      by_cases c1 : left' = 0
      · subst c1
        refine iteT ⟨_, rfl, st, _, rfl, (show DGet H1 st (kV kLarge) _ from st_large ▸ DGet.k S1.d), by decide, fun p hp => ?_⟩
        have S2 := S1.same (Same.new (o := .lst []) hp)
        have kp2 := kp1.trans (Kp.same (Same.new (o := .lst []) hp))
        refine ⟨_, _, dp_int_list S2.l, dp_nil upd_same, shaped_is _, shaped_nil, _, rfl, ?_⟩
        rw [eqv_ints_nil]
        cases large' with
        | nil => exact iteF ⟨rfl, [], 0, S2, kp2⟩
        | cons x rest =>
          refine iteT ⟨fun σ' H' => σ' = [some (.ref st), some (.int n), none, none, none, none] ∧ ∃ large' left', large'.length = rest.length ∧ StD H' st lg cl large' cells left' turn ∧ Kp st lg H H',
            fun σ' H' ⟨e, l', lf, e2, r⟩ => ⟨rest.length, by rw [← hμ]; exact Nat.lt_succ_self _, e, l', lf, e2, r⟩, ?_⟩
          refine ⟨_, rfl, st, .ref lg, rfl, (show DGet _ st (kV kLarge) _ from st_large ▸ DGet.k S2.d), .inl ⟨rfl, _, SqL.of S2.l⟩, lg, _, 0, 0, .int x, rfl, rfl, S2.l, by decide, by decide, by simp [seqIndex?], rfl, ?_⟩
          have S3 : StD (upd (upd H1 p (.lst [])) lg (.lst (rest.map V.int))) st lg cl rest cells 0 turn :=
            { d := (upd_ne S2.st_lg).trans S2.d, l := upd_same, c := (upd_ne S2.ne.symm).trans S2.c, ne := S2.ne, pl := fun y hy => S2.pl y (List.mem_cons_of_mem _ hy), p0 := S2.p0 }
          have hx : 0 ≤ x := S2.pl x List.mem_cons_self
          refine ⟨_, rfl, st, _, rfl, (show DPut _ st (kV kLeft) _ _ from DPut.k S3.d (by show 4 < sizeLine; decide)), ?_⟩
          rw [st_put_left]
          exact ⟨rfl, rest, x, rfl, S3.put hx, (kp2.trans Kp.put2).trans Kp.put⟩
      · rw [show decide (V.int left' = V.int 0) = false from decide_eq_false fun z => c1 (V.int.inj z)]
        exact iteF ⟨rfl, large', left', S1, kp1⟩
    · rintro σ' H1 ⟨rfl, large', left', S1, kp1⟩
      refine ⟨_, rfl, st, _, rfl, (show DGet H1 st (kV kLeft) _ from st_left ▸ DGet.k S1.d), _, _, rfl, rfl, _, rfl, ?_⟩
      by_cases c1 : 0 < left'
      · rw [show decide ((0 : Int) < left') = true from decide_eq_true c1]
        refine iteT ⟨_, rfl, st, _, rfl, (show DGet H1 st (kV kLeft) _ from st_left ▸ DGet.k S1.d), .inl ⟨_, rfl, _, rfl, _, _, rfl, rfl, (by show (0 : Int) < (n : Int); omega), ?_⟩⟩
        refine ⟨_, rfl, st, _, rfl, (show DGet H1 st (kV kLeft) _ from st_left ▸ DGet.k S1.d), _, rfl, _, _, rfl, rfl, draw_div hn hn2, _, rfl, st, _, rfl, (show DPut _ st (kV kLeft) _ _ from DPut.k S1.d (by show 4 < sizeLine; decide)), ?_⟩
        rw [st_put_left]
        have hr0 := Int.emod_nonneg left' (show (n : Int) ≠ 0 by omega)
        have hr1 := Int.emod_lt_of_pos left' (show (0 : Int) < n by omega)
        have S3 := S1.put (t := turn) (l := left' / (n : Int)) (Int.ediv_nonneg (by omega) (by omega))
        exact ⟨_, rfl, q_int (k (left' % (n : Int)).toNat _ (by omega) ⟨_, _, _, _, S3, by omega⟩ (kp1.trans Kp.put)) (by omega)⟩
      · rw [show decide ((0 : Int) < left') = false from decide_eq_false c1]
        refine iteF ⟨_, rfl, st, _, rfl, (show DGet H1 st (kV kTurn) _ from st_turn ▸ DGet.k S1.d), _, _, rfl, rfl, _, rfl, _, rfl, st, _, rfl, (show DPut _ st (kV kTurn) _ _ from DPut.k S1.d (by show 4 < sizeLine; decide)), ?_⟩
        rw [st_put_turn]
        have S2 : StD (upd H1 st (.dK (stKv lg cl left' ((turn + 1 : Nat) : Int)))) st lg cl large' cells left' (turn + 1) := S1.put S1.p0
        have kp2 : Kp st lg H (upd H1 st (.dK (stKv lg cl left' ((turn + 1 : Nat) : Int)))) := kp1.trans Kp.put
        have e1 : ((turn : Int) + 1) = ((turn + 1 : Nat) : Int) := by omega
        rw [e1]
        generalize upd H1 st (.dK (stKv lg cl left' ((turn + 1 : Nat) : Int))) = H2 at S2 kp2 ⊢
        refine ⟨fun σ' H' => ∃ c : Int, σ' = [some (.ref st), some (.int n), none, some (.int ((turn + 1 : Nat) : Int)), some (.int c), none] ∧ StD H' st lg cl large' cells left' (turn + 1) ∧ Kp st lg H H', ?_, ?_⟩
        · refine ⟨_, rfl, st, .ref cl, rfl, (show DGet H2 st (kV kCells) _ from st_cells ▸ DGet.k S2.d), by decide, fun p hp => ?_⟩
          have S3 := S2.same (Same.new (o := .lst []) hp)
          have kp3 := kp2.trans (Kp.same (Same.new (o := .lst []) hp))
          refine ⟨_, _, dp_int_list S3.c, dp_nil upd_same, shaped_is _, shaped_nil, _, rfl, ?_⟩
          rw [eqv_ints_nil]
          generalize upd H2 p (.lst []) = H3 at S3 kp3 ⊢
          cases cells with
          | nil => exact iteF ⟨0, rfl, S3, kp3⟩
          | cons y ys =>
            refine iteT ⟨_, rfl, st, .ref cl, rfl, (show DGet H3 st (kV kCells) _ from st_cells ▸ DGet.k S3.d), _, rfl, .inl ⟨_, rfl, _, rfl, st, .ref cl, rfl, (show DGet H3 st (kV kCells) _ from st_cells ▸ DGet.k S3.d), cl, _, rfl, .inl (SqL.of S3.c), _, _, rfl, rfl, ?_, ?_⟩⟩
            · show (0 : Int) < ((((y :: ys).map V.int).length : Nat) : Int)
              simp
            · have hlen : ((y :: ys).map V.int).length = (y :: ys).length := List.length_map _
              have hz : (turn + 1) % (y :: ys).length < (y :: ys).length := Nat.mod_lt _ (by simp)
              obtain ⟨c, hc⟩ : ∃ c, (y :: ys)[(turn + 1) % (y :: ys).length]? = some c := ⟨_, List.getElem?_eq_getElem hz⟩
              refine ⟨cl, _, _, .int c, rfl, rfl, SqL.of S3.c, ?_, c, rfl, S3, kp3⟩
              rw [hlen, show (((turn : Int) + 1) % (((y :: ys).length : Nat) : Int)) = (((turn + 1) % (y :: ys).length : Nat) : Int) from rfl]
              exact atI_nat (by rw [List.getElem?_map, hc]; rfl)
        · rintro σ' H3 ⟨c, rfl, S3, kp3⟩
          have h1 := Int.emod_nonneg c (show (2147483563 : Int) ≠ 0 by decide)
          have h2 := Int.emod_lt_of_pos c (show (0 : Int) < 2147483563 by decide)
          refine ⟨_, rfl, .inl ⟨_, rfl, _, _, rfl, rfl, (by show (0 : Int) < 2147483563; decide), _, rfl, _, _, rfl, rfl, .inl ⟨by decide, by decide⟩, _, _, rfl, rfl, _, _, rfl, rfl, _, _, rfl, rfl, ⟨by decide, by decide, ?_⟩, .inl ⟨_, rfl, _, _, rfl, rfl, (by show (0 : Int) < 2147483629; decide), ?_⟩⟩⟩
          · generalize c % 2147483563 = c' at h1 h2 ⊢
            omega
          generalize (c % 2147483563 + 40692 * ((turn + 1 : Nat) : Int) + 24681) ^ (3 : Int).toNat = z
          have h3 := Int.emod_nonneg z (show (2147483629 : Int) ≠ 0 by decide)
          have h4 := Int.emod_lt_of_pos z (show (0 : Int) < 2147483629 by decide)
          dsimp only
          generalize z % 2147483629 = y at h3 h4 ⊢
          refine ⟨_, rfl, _, rfl, _, _, rfl, rfl, .inl ⟨by decide, by decide⟩, _, _, rfl, rfl, _, _, rfl, rfl, ⟨by decide, by decide, by omega⟩, .inl ⟨_, rfl, _, _, rfl, rfl, (by show (0 : Int) < 2147483579; decide), _, _, rfl, rfl, ⟨by decide, by decide⟩, .inl ⟨_, rfl, _, rfl, _, _, rfl, rfl, (by show (0 : Int) < (n : Int); omega), ?_⟩⟩⟩
          generalize (y + 104917 * ((turn + 1 : Nat) : Int)) ^ (5 : Int).toNat % 2147483579 / 29 = x
          have h5 := Int.emod_nonneg x (show (n : Int) ≠ 0 by omega)
          have h6 := Int.emod_lt_of_pos x (show (0 : Int) < n by omega)
          exact q_int (k (x % (n : Int)).toNat _ (by omega) ⟨_, _, _, _, S3, by omega⟩ kp3) (by omega)
end
end K17
namespace K17
open PySem PySem.Spec PyProof.Rows L2 PySem.W LamX KA
open Evl (pss_cut tCut)
def spPick : Sp := fun vs H Q _ => ∃ (st lg cl a : Addr) (xs : List V) (m : Nat), vs = [.ref st, .ref a] ∧ H a = some (.lst xs) ∧ a ≠ lg ∧ 0 < xs.length ∧ xs.length ≤ 1000 ∧ m ≤ 1000000 ∧ StAt H st lg cl m ∧
  ∀ (x : V) (H' : Hp), x ∈ xs → StAt H' st lg cl (m + 1) → Kp st lg H H' → Q x H'
section
variable {P : Program} {w : World} {K : PySem.W.Frag} {mg : Str → Option Value} {base : Heap} (T : Top K mg)
theorem ok_pick : FnOk P w K mg base (L2.CX P w) 2 T._law_pick.a T._law_pick.d ["state", "several"] spPick := by
  refine T._law_pick.f.okX sc__law_pick (fun vs H Q E h => ?_) (fun cdv A outer s H vs Q E hr h => ?_)
  · obtain ⟨st, lg, cl, a, xs, m, rfl, _⟩ := h
    rfl
  · obtain ⟨st, lg, cl, a, xs, m, rfl, ha, hal, h0, h1, hm, S, k⟩ := h
    have has : a ≠ st := by
      obtain ⟨_, _, _, _, S', _⟩ := S
      exact ne_of ha S'.d (by intro z; cases z)
    refine ⟨_, pss_one (ps_ret (pe_ix ix_list (pv 1) (pe_call (ok_draw T) hr (by rfl) T._law_draw.m T._law_draw.f.kp (bd__law_draw T) .nil passE (pa_cons (pv 0) (pa_cons (pe_callB call_len_seq (by rfl) T.b_len PySem.boot_len (pa_cons (pv 1) pa_nil)) pa_nil))) (fun _ _ => rfl))), ?_⟩
    refine ⟨_, rfl, _, rfl, _, rfl, a, xs, rfl, .inl (SqL.of ha), st, lg, cl, xs.length, m, rfl, h0, ?_, hm, S, fun r H' hr' S' kp => ?_⟩
    · exact Nat.lt_of_le_of_lt h1 (by decide)
    · obtain ⟨x, hx⟩ : ∃ x, xs[r]? = some x := ⟨_, List.getElem?_eq_getElem hr'⟩
      exact ⟨a, xs, _, x, rfl, rfl, SqL.of (kp a _ ha has hal), atI_nat hx, k x H' (List.mem_of_getElem? hx) S' kp⟩
def spBegun (K : PySem.W.Frag) : Sp := fun vs H Q _ => ∃ (a : Addr) (ns : List Int), vs = [.ref a] ∧ SqL K H a (ns.map V.int) ∧ ns.length ≤ 63 ∧
  ∀ (st lg cl : Addr) (H' : Hp), StAt H' st lg cl 0 → Same H H' → H st = none → H lg = none → Q (.ref st) H'
theorem ok_begun : FnOk P w K mg base (L2.CX P w) 1 T._law_begun.a T._law_begun.d ["script"] (spBegun K) := by
  refine T._law_begun.f.okX sc__law_begun (fun vs H Q E h => ?_) (fun cdv A outer s H vs Q E hr h => ?_)
  · obtain ⟨a, ns, rfl, _⟩ := h
    rfl
  · obtain ⟨a, ns, rfl, hS, hl, k⟩ := h
    refine ⟨_, pss_cons (ps_setLc (i := 1) (own := [("cell", 3)]) (g := gName 3) (tt := tYes) rfl sc__law_begun.nd rfl rfl (sw_true rfl rfl rfl (by decide +kernel)) (pi_list (pv 0)) (blkOk_by (own := [("cell", 3)]) (N := ["script", "cells_here", "large", "cell"]) (sc := defScope s__law_begun) (by decide +kernel))
        (fun _ _ _ _ _ => pg_name (i := 3) sc__law_begun.nd rfl (Or.inl rfl)) (fun _ _ _ _ _ => pts_nil) (fun _ _ _ _ _ => pe_callB call_abs (by rfl) T.b_abs (by decide +kernel) (pa_cons (pv 3) pa_nil)))
      (pss_cons (ps_setLc (i := 2) (own := [("cell", 3)]) (g := gName 3) rfl sc__law_begun.nd rfl rfl (sw_true rfl rfl rfl (by decide +kernel)) (pi_list (pv 1)) (blkOk_by (own := [("cell", 3)]) (N := ["script", "cells_here", "large", "cell"]) (sc := defScope s__law_begun) (by decide +kernel))
        (fun _ _ _ _ _ => pg_name (i := 3) sc__law_begun.nd rfl (Or.inl rfl)) (fun _ _ _ _ _ => pts_one (pt_cmpR op_ge (pv 3) (pe_op op_pow pe_int pe_int) (nomark _))) (fun _ _ _ _ _ => pe_op op_sub (pv 3) (pe_op op_pow pe_int pe_int)))
      (pss_one (ps_ret (pe_disp (pps_cons pe_str (pv 2) (pps_cons pe_str (pv 1) (pps_cons pe_str pe_int (pps_cons pe_str pe_int pps_nil)))) (by rfl) (by rfl) (fun z => by cases z) (by decide))))), ?_⟩
    refine ⟨_, rfl, a, rfl, ⟨_, hS⟩, fun cl hcl => lc_list (K := K) (a := a) (xs := ns.map V.int) (fun i H' => H' cl = some (.lst ((ns.take i).map fun n => V.int (if n < 0 then -n else n))) ∧ Same H H') ⟨upd_same, Same.new hcl⟩ (fun i H' _ h => h.2.seq hS) ?_ ?_⟩
    · rintro i x H' hx ⟨h1, h2⟩
      obtain ⟨n, hn, rfl⟩ : ∃ n, ns[i]? = some n ∧ x = V.int n := by
        rw [List.getElem?_map] at hx
        cases e : ns[i]? with
        | none => rw [e] at hx; cases hx
        | some n => rw [e] at hx; exact ⟨n, rfl, (Option.some.inj hx).symm⟩
      refine ⟨rfl, ?_⟩
      dsimp only [tYes]
      rw [if_pos rfl]
      refine ⟨_, rfl, n, rfl, _, h1, ?_, ?_, ?_⟩
      · rw [List.length_map, List.length_take]
        exact Nat.lt_of_le_of_lt (Nat.min_le_right _ _) (Nat.lt_of_le_of_lt hl (by decide))
      · rw [upd_same, take_map_snoc _ _ _ _ hn]
      · intro b o e
        rw [upd_ne (ne_of_none e hcl)]
        exact h2 b o e
    rintro H1 ⟨h1, h2⟩
    rw [List.length_map, List.take_length] at h1
    have h1 : H1 cl = some (.lst ((ns.map fun n => if n < 0 then -n else n).map V.int)) := by rw [h1, List.map_map]; rfl
    have hlc : (ns.map fun n => if n < 0 then -n else n).length ≤ 63 := by rw [List.length_map]; exact hl
    generalize (ns.map fun n => if n < 0 then -n else n) = cells at h1 hlc
    refine ⟨_, rfl, cl, rfl, ⟨_, SqL.of h1⟩, fun lg hlg => lc_list (K := K) (a := cl) (xs := cells.map V.int) (fun i H' => H' lg = some (.lst ((((cells.take i).filter fun c => decide ((1000000000000000000 : Int) ≤ c)).map fun c => c - 1000000000000000000).map V.int)) ∧ Same H1 H') ⟨upd_same, Same.new hlg⟩ (fun i H' _ h => h.2.seq (SqL.of h1)) ?_ ?_⟩
    · rintro i x H' hx ⟨h3, h4⟩
      obtain ⟨n, hn, rfl⟩ : ∃ n, cells[i]? = some n ∧ x = V.int n := by
        rw [List.getElem?_map] at hx
        cases e : cells[i]? with
        | none => rw [e] at hx; cases hx
        | some n => rw [e] at hx; exact ⟨n, rfl, (Option.some.inj hx).symm⟩
      have et : cells.take (i + 1) = cells.take i ++ [n] := by rw [List.take_add_one, hn]; rfl
      refine ⟨rfl, _, rfl, _, _, rfl, rfl, ⟨by decide, by decide, by decide⟩, _, _, rfl, rfl, _, rfl, ?_⟩
      rw [show ((10 : Int) ^ (18 : Int).toNat) = 1000000000000000000 by decide, et, List.filter_append]
      by_cases c : (1000000000000000000 : Int) ≤ n
      · rw [show decide ((1000000000000000000 : Int) ≤ n) = true from decide_eq_true c]
        dsimp only
        rw [if_pos rfl]
        refine ⟨_, rfl, _, _, rfl, rfl, ⟨by decide, by decide, by decide⟩, _, _, rfl, rfl, _, h3, ?_, ?_, ?_⟩
        · rw [List.length_map, List.length_map]
          refine Nat.lt_of_le_of_lt (Nat.le_trans (List.length_filter_le _ _) ?_) (show 63 < sizeLine by decide)
          rw [List.length_take]
          omega
        · rw [upd_same]
          simp [c]
        · intro b o e
          rw [upd_ne (ne_of_none e hlg)]
          exact h4 b o e
      · rw [show decide ((1000000000000000000 : Int) ≤ n) = false from decide_eq_false c]
        dsimp only
        rw [if_neg Bool.false_ne_true]
        refine ⟨?_, h4⟩
        simpa [c] using h3
    rintro H2 ⟨h3, h4⟩
    intro st hst
    refine ⟨_, rfl, _, rfl, upd_same, stKv lg cl 0 0, rfl, (by show 4 ≤ 15; decide), ?_⟩
    rw [st_merge]
    have hne : cl ≠ lg := ne_of_none h1 hlg
    have h5 := h4 cl _ h1
    rw [List.length_map, List.take_length] at h3
    have hp : ∀ x ∈ (cells.filter fun c => decide ((1000000000000000000 : Int) ≤ c)).map (fun c => c - 1000000000000000000), 0 ≤ x := by
      intro x hx
      obtain ⟨c, hc, rfl⟩ := List.mem_map.mp hx
      have := (List.mem_filter.mp hc).2
      simp at this
      omega
    generalize (cells.filter fun c => decide ((1000000000000000000 : Int) ≤ c)).map (fun c => c - 1000000000000000000) = large at h3 hp
    have n1 : lg ≠ st := ne_of_none h3 hst
    have n2 : cl ≠ st := ne_of_none h5 hst
    have same : Same H (upd (upd H2 st (.dK [])) st (.dK (stKv lg cl 0 0))) := fun b o e => by
      have e2 := h4 b o (h2 b o e)
      rw [upd_upd, upd_ne (ne_of_none e2 hst)]
      exact e2
    refine k st lg cl _ ⟨large, cells, 0, 0, ⟨upd_same, ?_, ?_, hne.symm, hp, Int.le_refl _⟩, Nat.le_refl _⟩ same ((h2.trans h4).free hst) (h2.free hlg)
    · rw [upd_upd, upd_ne n1]
      exact h3
    · rw [upd_upd, upd_ne n2]
      exact h5
end
end K17
namespace KT
open PySem PySem.Spec PyProof.Rows L2 PySem.W LamX KA KW
/-! ### min(t), max(t) of a tuple of ints; t[::-1]; t * n, n from 1 on -/
theorem alike_ints (ns : List Int) : AlikeAll (ns.map PyData.int) := by
  refine ⟨fun x hx y hy => ?_, fun x hx => ?_⟩
  · obtain ⟨i, _, rfl⟩ := List.mem_map.mp hx
    obtain ⟨j, _, rfl⟩ := List.mem_map.mp hy
    simp [alike]
  · obtain ⟨i, _, rfl⟩ := List.mem_map.mp hx
    exact fun z => by cases z
theorem dp_ints {K : PySem.W.Frag} {H : Hp} : ∀ ns : List Int, DpAll K H (ns.map V.int) (ns.map PyData.int)
  | [] => .nil
  | i :: ns => .cons (.int i) (dp_ints ns)
theorem depth_ints : ∀ ns : List Int, PyData.depthAll (ns.map PyData.int) ≤ 1
  | [] => by simp [PyData.depthAll]
  | i :: ns => by
    have := depth_ints ns
    simp only [List.map_cons, PyData.depthAll, PyData.depth]
    omega
theorem reads_int {h : Heap} {v : Value} {i : Int} {as : List Addr} (r : Reads h v (.int i) as) : ∃ t, v = .int i t := by
  cases r
  exact ⟨_, rfl⟩
theorem foldl_min_mem (n : Int) : ∀ ns : List Int, ns.foldl min n ∈ n :: ns := by
  intro ns
  induction ns generalizing n with
  | nil => simp
  | cons k r ih =>
    rw [List.foldl_cons]
    rcases List.mem_cons.mp (ih (min n k)) with e | e
    · rw [e]
      rcases Int.le_total n k with h | h
      · rw [Int.min_eq_left h]; exact List.mem_cons_self
      · rw [Int.min_eq_right h]; exact List.mem_cons_of_mem _ List.mem_cons_self
    · exact List.mem_cons_of_mem _ (List.mem_cons_of_mem _ e)
theorem foldl_min_le (n : Int) : ∀ (ns : List Int) (y : Int), y ∈ n :: ns → ns.foldl min n ≤ y := by
  intro ns
  induction ns generalizing n with
  | nil => intro y hy; simp at hy; subst hy; exact Int.le_refl _
  | cons k r ih =>
    intro y hy
    rw [List.foldl_cons]
    have h0 := ih (min n k) (min n k) List.mem_cons_self
    rcases List.mem_cons.mp hy with e | e
    · subst e; omega
    · rcases List.mem_cons.mp e with e | e
      · subst e; omega
      · exact ih (min n k) y (List.mem_cons_of_mem _ e)
theorem foldl_max_mem (n : Int) : ∀ ns : List Int, ns.foldl max n ∈ n :: ns := by
  intro ns
  induction ns generalizing n with
  | nil => simp
  | cons k r ih =>
    rw [List.foldl_cons]
    rcases List.mem_cons.mp (ih (max n k)) with e | e
    · rw [e]
      rcases Int.le_total n k with h | h
      · rw [Int.max_eq_right h]; exact List.mem_cons_of_mem _ List.mem_cons_self
      · rw [Int.max_eq_left h]; exact List.mem_cons_self
    · exact List.mem_cons_of_mem _ (List.mem_cons_of_mem _ e)
theorem foldl_max_ge (n : Int) : ∀ (ns : List Int) (y : Int), y ∈ n :: ns → y ≤ ns.foldl max n := by
  intro ns
  induction ns generalizing n with
  | nil => intro y hy; simp at hy; subst hy; exact Int.le_refl _
  | cons k r ih =>
    intro y hy
    rw [List.foldl_cons]
    have h0 := ih (max n k) (max n k) List.mem_cons_self
    rcases List.mem_cons.mp hy with e | e
    · subst e; omega
    · rcases List.mem_cons.mp e with e | e
      · subst e; omega
      · exact ih (max n k) y (List.mem_cons_of_mem _ e)
def rMinT (K : PySem.W.Frag) : List V → Hp → VK → Prop := fun vs H Q => ∃ (a : Addr) (ns : List Int), vs = [V.ref a] ∧ SqT K H a (ns.map V.int) ∧ 0 < ns.length ∧ ∀ m, m ∈ ns → (∀ y, y ∈ ns → m ≤ y) → Q (.int m) H
def rMaxT (K : PySem.W.Frag) : List V → Hp → VK → Prop := fun vs H Q => ∃ (a : Addr) (ns : List Int), vs = [V.ref a] ∧ SqT K H a (ns.map V.int) ∧ 0 < ns.length ∧ ∀ m, m ∈ ns → (∀ y, y ∈ ns → y ≤ m) → Q (.int m) H
section
variable {X : Cx}
theorem cr_minT (hc : X.calm = true) (hu : X.A.units + 2 < cLine) : CallR X (.builtin "min") (rMinT X.K) := by
  intro pins s σ H vs us Q I r h
  obtain ⟨a, ns, rfl, hs, hne, q⟩ := h
  obtain ⟨its, rv, hl, _⟩ := I.tuple hs
  rw [Vals.ref1 r]
  cases ns with
  | nil => cases hne
  | cons n ns =>
    obtain ⟨as, hr⟩ := Dp.readsAll I _ _ its (dp_ints (n :: ns)) rv
    refine min_tuple_data (x := .int n) (xs := ns.map .int) (I.ok.hd hc) hl hr (alike_ints (n :: ns)) ?_ fun i v h' tk bs _ rd hk => ?_
    · have := depth_ints (n :: ns)
      rw [List.map_cons] at this
      omega
    · rw [minD_ints] at rd
      obtain ⟨t, rfl⟩ := reads_int rd
      exact ⟨.int _, H, I.kept hk, ⟨_, rfl⟩, q _ (foldl_min_mem n ns) (foldl_min_le n ns)⟩
theorem cr_maxT (hc : X.calm = true) (hu : X.A.units + 2 < cLine) : CallR X (.builtin "max") (rMaxT X.K) := by
  intro pins s σ H vs us Q I r h
  obtain ⟨a, ns, rfl, hs, hne, q⟩ := h
  obtain ⟨its, rv, hl, _⟩ := I.tuple hs
  rw [Vals.ref1 r]
  cases ns with
  | nil => cases hne
  | cons n ns =>
    obtain ⟨as, hr⟩ := Dp.readsAll I _ _ its (dp_ints (n :: ns)) rv
    refine max_tuple_data (x := .int n) (xs := ns.map .int) (I.ok.hd hc) hl hr (alike_ints (n :: ns)) ?_ fun i v h' tk bs _ rd hk => ?_
    · have := depth_ints (n :: ns)
      rw [List.map_cons] at this
      omega
    · rw [maxD_ints] at rd
      obtain ⟨t, rfl⟩ := reads_int rd
      exact ⟨.int _, H, I.kept hk, ⟨_, rfl⟩, q _ (foldl_max_mem n ns) (foldl_max_ge n ns)⟩
/-- one call name, either a list or a tuple -/
def rOrC (r r' : List V → Hp → VK → Prop) : List V → Hp → VK → Prop := fun vs H Q => r vs H Q ∨ r' vs H Q
theorem cr_or {f : Value} {r r' : List V → Hp → VK → Prop} (h : CallR X f r) (h' : CallR X f r') : CallR X f (rOrC r r') := fun pins s σ H vs us Q I rv q => q.elim (h pins s σ H vs us Q I rv) (h' pins s σ H vs us Q I rv)
end
section
variable {prog : Program} {w : World} {A : Around} {E : Value → Shared → Prop} {s : Shared}
theorem adjust_rev (n : Nat) : Builtin.Slice.sliceAdjust none none (-1) (n : Int) = ((n : Int) - 1, -1) := rfl
theorem places_rev (n : Nat) : Builtin.Slice.slicePlaces ((n : Int) - 1) (-1) (-1) = n := by
  unfold Builtin.Slice.slicePlaces
  have h1 : ¬ ((-1 : Int) > 0) := by omega
  have h2 : (- -1 : Int) = 1 := by decide
  simp only [h1, if_false, h2, Int.ediv_one]
  split <;> omega
theorem sliceApplied_rev {sl : Addr} {vl vu vs : Value} {n : Nat} {Q : Int × Int × Nat → Shared → Prop} (hs : s.heap.IsSliceOf sl vl vu vs) (pl : IsPart vl none) (pu : IsPart vu none) (ps : IsPart vs (some (-1)))
    (h : Q ((n : Int) - 1, -1, n) s) : wpAny (model prog w) A (Builtin.Slice.sliceApplied (.ref sl) (pure (n : Int))) Q E s := by
  obtain ⟨os, hos, hcs, hds⟩ := id hs
  unfold Builtin.Slice.sliceApplied Builtin.Slice.sliceFields
  refine wpAny_bind (wpAny_bind (wpAny_field hos hds (x := vl) rfl (wpAny_bind (wpAny_field hos hds (x := vu) rfl (wpAny_bind (wpAny_field hos hds (x := vs) rfl (wpAny_pure ?_)))))))
  refine wpAny_bind (HT.slicePart_ ps ?_)
  show wpAny _ _ (if ((-1 : Int) == 0) = true then _ else _) _ _ s
  rw [if_neg (by decide)]
  refine wpAny_bind (HT.slicePart_ pl (wpAny_bind (HT.slicePart_ pu (wpAny_bind (wpAny_pure ?_)))))
  show wpAny _ _ (match Builtin.Slice.sliceAdjust none none (-1) (n : Int) with | (lo, hi) => pure (lo, (-1 : Int), Builtin.Slice.slicePlaces lo hi (-1))) _ _ s
  rw [adjust_rev n]
  show wpAny _ _ (pure ((n : Int) - 1, (-1 : Int), Builtin.Slice.slicePlaces ((n : Int) - 1) (-1) (-1))) _ _ s
  rw [places_rev]
  exact wpAny_pure h
theorem fm_congr {α β : Type} {f g : α → Option β} : ∀ {l : List α}, (∀ x, x ∈ l → f x = g x) → l.filterMap f = l.filterMap g
  | [], _ => rfl
  | x :: l, h => by
    have ih := fm_congr (l := l) fun y hy => h y (List.mem_cons_of_mem _ hy)
    rw [List.filterMap_cons, List.filterMap_cons, h x List.mem_cons_self, ih]
theorem pick_rev (xs : Array Value) : ((List.range xs.size).filterMap fun (m : Nat) => xs[(((xs.size : Int) - 1) + (m : Int) * (-1)).toNat]?).toArray = xs.toList.reverse.toArray := by
  have h := krv_pick xs
  unfold slicePick at h
  rw [krv_bounds] at h
  rw [← h]
  show _ = ((sliceRange ((xs.size : Int) - 1) (-1) (-1)).filterMap (xs[·]?)).toArray
  rw [krv_sliceRange, List.filterMap_map]
  congr 1
  apply fm_congr
  intro m hm
  have := List.mem_range.mp hm
  have e : (((xs.size : Int) - 1) + (m : Int) * (-1)).toNat = xs.size - 1 - m := by omega
  show xs[(((xs.size : Int) - 1) + (m : Int) * (-1)).toNat]? = xs[xs.size - 1 - m]?
  rw [e]
theorem getItem_tuple_rev {t sl : Addr} {items : Array Value} {vl vu vs : Value} {Q : Value → Shared → Prop} (ht : IsTup s.heap t items) (hs : s.heap.IsSliceOf sl vl vu vs) (pl : IsPart vl none) (pu : IsPart vu none) (ps : IsPart vs (some (-1)))
    (h : Q (.ref s.heap.objs.size) { s with heap := s.heap.push { cls := .type "tuple", data := .seq items.toList.reverse.toArray } })
    (hsz : items.size ≤ sizeLine) : wpAny (model prog w) A (getItem (.ref t) (.ref sl)) Q E s := by
  have htake : sizeOk (.seq items.toList.reverse.toArray) := by
    show items.toList.reverse.toArray.size ≤ sizeLine
    rw [List.size_toArray, List.length_reverse, Array.length_toList]
    exact hsz
  obtain ⟨os, hos, hcs, hds⟩ := id hs
  have hTs : s.TypeIs (.ref sl) "slice" := ⟨os, hos, hcs⟩
  unfold getItem
  try with_reducible refine wpAny_holding ?_
  first | refine wpAny_bind (wpAny_pure ?_) | skip
  refine wpAny_bind (wpAny_sequenceKey ht.typeIs (by decide) ?_)
  refine wpAny_bind (wpAny_callSpecial?_slot (name := Str.ofString "__getitem__") ht.typeIs PyProof.Rows.slot_tuple_getitem
    (wpAny_call_entry PyProof.Rows.slot_tuple_getitem ht.typeIs entry_tuple_getitem ?_ (args_tuple_getitem _ _)))
  show wpAny _ _ (Builtin.Tuple.tupleItemsOf (.ref t) >>= _) _ _ s
  refine wpAny_bind (tupleItemsOf_ ht ?_)
  refine wpAny_bind (wpAny_typeOf hTs ?_)
  rw [if_pos (by decide)]
  refine wpAny_bind (sliceApplied_rev hs pl pu ps ?_)
  have hno : ¬ ((((items.size : Int) - 1) == 0 && (-1 : Int) == 1 && items.size == items.size) = true) := by
    intro q
    rw [Bool.and_eq_true, Bool.and_eq_true] at q
    exact absurd q.1.2 (by decide)
  show wpAny _ _ (if (((items.size : Int) - 1) == 0 && (-1 : Int) == 1 && items.size == items.size) = true then _ else _) _ _ s
  rw [if_neg hno, pick_rev]
  first
    | exact wpAny_bind (m := Builtin.Tuple.tupleExact _) (wpAny_newObj_type (wpAny_pure ⟨_, rfl, wpAny_pure h⟩) htake)
    | exact wpAny_bind (m := Builtin.Tuple.tupleExact _) (wpAny_newObj_type (wpAny_bind (wpAny_pure (wpAny_pure ⟨_, rfl, wpAny_pure h⟩))) htake)
    | exact wpAny_bind (wpAny_bind (m := Builtin.Tuple.tupleExact _) (wpAny_newObj_type (wpAny_pure (wpAny_pure ⟨_, rfl, wpAny_pure h⟩)) htake))
    | exact wpAny_bind (wpAny_bind (m := Builtin.Tuple.tupleExact _) (wpAny_newObj_type (wpAny_pure ⟨_, rfl, wpAny_pure h⟩) htake))
end
section
variable {X : Cx}
def tRevT (K : PySem.W.Frag) (te : TE) : TE := fun σ H Q => te σ H fun x H1 => ∃ a xs, x = .ref a ∧ SqT K H1 a xs ∧ ∀ p, H1 p = none → Q (.ref p) (upd H1 p (.tup xs.reverse))
theorem pe_revT {e : Expr} {te : TE} {k : Nat} {p1 p2 p3 pos : Pos} (he : PE X e te) : PE X (.Subscript e (.Slice none none (some (.UnaryOp .USub (.Constant (.int 1) k p1) p2)) p3) pos) (tRevT X.K te) := by
  refine ⟨fun pins s σ H Q I h => ?_⟩
  refine Subscript_ (thn (he.run pins s σ H _ I h) fun v s1 ⟨x, H1, I1, r1, q1⟩ => ?_)
  obtain ⟨a, xs, ex, hx, q⟩ := q1
  subst ex
  cases r1
  have hst : PO X (some (.UnaryOp .USub (.Constant (.int 1) k p1) p2)) (tPart (tUn (rU fun i => .int (-i)) (tC (.int 1)))) := po_some (pe_un un_neg pe_int)
  refine wpAny_Slice (thn (po_none.run pins s1 σ H1 (fun o H2 => o = none ∧ H2 = H1) I1 ⟨rfl, rfl⟩) fun vl s2 ⟨l, H2, I2, pl, el, e2⟩ => ?_)
  subst el e2
  refine thn (po_none.run pins s2 σ H2 (fun o H3 => o = none ∧ H3 = H2) I2 ⟨rfl, rfl⟩) fun vu s3 ⟨u, H3, I3, pu, eu, e3⟩ => ?_
  subst eu e3
  refine thn (hst.run pins s3 σ H3 (fun o H4 => o = some (-1) ∧ H4 = H3) I3 ⟨1, rfl, -1, rfl, rfl, rfl⟩) fun vs s4 ⟨o, H4, I4, ps, eo, e4⟩ => ?_
  subst eo e4
  have I5 : Inv X pins σ H4 { s4 with heap := s4.heap.push { cls := .type "slice", data := .fields #[vl, vu, vs] } } := I4.kept (t' := s4.toks) fun b ob q => Heap.get?_push_of_some _ q
  obtain ⟨its, r, ht, hz⟩ := I5.tuple hx
  have hlen := r.length
  show wpAny (model X.prog X.w) X.A (subscriptTail e (.Slice none none (some (.UnaryOp .USub (.Constant (.int 1) k p1) p2)) p3) (.ref a) (.ref s4.heap.objs.size)) (EP X pins σ Q) X.xe { s4 with heap := s4.heap.push { cls := .type "slice", data := .fields #[vl, vu, vs] } }
  refine tail_any (ops := [.ref a, .ref s4.heap.objs.size]) ht.typeIs (PyProof.Rows.slot_tuple_getitem.lookup) ?_ (by with_unfolding_all rfl)
  refine getItem_tuple_rev ht (Heap.IsSliceOf.new _ vl vu vs) pl pu ps ?_ (by rw [List.size_toArray]; omega)
  refine ⟨.ref _, _, I5.laid (t' := s4.toks) (o := .tup xs.reverse) (fun b ob q => Heap.get?_push_of_some _ q) (Nat.le_refl _) ?_, rfl, q _ (I5.hok.fresh (Nat.le_refl _))⟩
  exact ⟨by rw [List.length_reverse]; exact hz, _, r.reverse, IsTup.new _ _⟩
end
section
theorem tuple_mul_one (l : Addr) (items : Array Value) (n : Nat) (dd : Option Addr) (sl : Array (Option Value)) (u : Tok) :
    Meets (Builtin.«tuple.__mul__» ⟨[.ref l, .int 1 u], []⟩) (fun _ R s => s.heap.get? l = some { cls := .type "tuple", dict := dd, data := .seq items n, slots := sl } ∧ R (.ok (.ret (Value.ref l))) s) :=
  .of_wp fun prog w A R s h => by
    obtain ⟨hp, g, d, tk, os⟩ := s
    obtain ⟨hl, h⟩ := h
    have f1 := AutoSeq1.idx_int
    have c0 : (decide ((1 : Int) < -(2 ^ 63)) || decide ((1 : Int) ≥ 2 ^ 63)) = false := by decide
    have c1 : (items.isEmpty || (1 : Int) == 1) = true := by
      cases items.isEmpty <;> rfl
    wp_walk using wpAny_loadPart' hl
    repeat (first
      | (refine wpAny_ite_false (decide_eq_false (by rw [c0]; exact Bool.false_ne_true)) ?_; wp_walk using wpAny_loadPart' hl)
      | (refine wpAny_ite_true (decide_eq_true c1) ?_; wp_walk using wpAny_loadPart' hl))
    exact ⟨_, rfl, h⟩
/-- t * k, k from 1 on: of 1 it is t itself -/
def rRepA (K : PySem.W.Frag) : R2 := fun x y H Q => ∃ l k xs, x = .ref l ∧ y = .int k ∧ SqT K H l xs ∧ xs ≠ [] ∧ 1 ≤ k ∧ k ≤ 1000 ∧ xs.length ≤ 1000 ∧ (k = 1 → Q (.ref l) H) ∧ (2 ≤ k → ∀ p, H p = none → Q (.ref p) (upd H p (.tup (List.replicate k.toNat xs).flatten)))
variable {X : Cx}
theorem op_repA : OpR X (binaryOp .Mult) (rRepA X.K) := by
  intro pins s σ H x y v u Q I rx ry h
  obtain ⟨l, k, xs, rfl, rfl, hT, hne, h1, h2, hz, q1, q2⟩ := h
  by_cases hk : k = 1
  · subst hk
    cases rx
    obtain ⟨t, rfl⟩ := ry
    obtain ⟨its, r, ⟨⟨cls, dd, data, sl⟩, ho, hc, n, hd⟩, hs⟩ := I.tuple hT
    simp only at hc hd
    subst hc hd
    refine wpAny_binaryOp_repeat_ref (T := "tuple") (U := "int") (by decide) ⟨_, ho, rfl⟩ (fun s' => typeIs_int s' 1 t) noFill_tuple_mul F.fills_int_mul F.slot_int_rmul repeat_tuple F.slot_int_index.lookup
      (call_meets F.slot_int_rmul (typeIs_int s 1 t) F.entry_int_rmul (F.args_int_rmul_2 _ _) (int_rmul_tuple 1 t l its.toArray n dd sl)
        ⟨ho, rfl, ⟨_, ho, rfl⟩, call_meets F.slot_tuple_mul ⟨_, ho, rfl⟩ F.entry_tuple_mul (F.args_tuple_mul_2 _ _) (tuple_mul_one l its.toArray n dd sl t) ⟨ho, ?_⟩⟩)
    exact ⟨.ref l, H, I, rfl, q1 rfl⟩
  · exact op_repT pins s σ H _ _ v u Q I rx ry ⟨l, k, xs, rfl, rfl, hT, hne, by omega, h2, hz, q2 (by omega)⟩
end
end KT
namespace K17
open PySem PySem.Spec PyProof.Rows L2 PySem.W LamX KA KW KU KL KT
open Evl (pss_cut tCut)
/-! ### rows and planes of any values -/
def isNum : V → Bool
  | .int _ => true
  | _ => false
theorem Pl.num {K : PySem.W.Frag} {H : Hp} {x : V} {b : Bool} (h : Pl K H x b) : isNum x = b := by cases h <;> rfl
theorem Pl.keep {K : PySem.W.Frag} {H H' : Hp} {x : V} {b : Bool} (h : Pl K H x b) (s : Same H H') : Pl K H' x b := by
  cases h with
  | int i => exact .int i
  | bl i => exact .bl i
  | str i => exact .str i
  | non => exact .non
  | tup e => exact .tup (s _ _ e)
  | lst e => exact .lst (s _ _ e)
  | dK e => exact .dK (s _ _ e)
/-- no tuple -/
inductive Nt (H : Hp) : V → Prop where
  | int (i : Int) : Nt H (.int i)
  | bl (b : Bool) : Nt H (.bl b)
  | str (s : Str) : Nt H (.str s)
  | non : Nt H .non
  | lst {a : Addr} {xs : List V} (e : H a = some (.lst xs)) : Nt H (.ref a)
  | dK {a : Addr} {kvs : List (Key × V)} (e : H a = some (.dK kvs)) : Nt H (.ref a)
theorem Nt.ty {K : PySem.W.Frag} {H : Hp} {x : V} (h : Nt H x) : ∃ t : String, TyX K H x (.type t) ∧ kitB t "tuple" = some false := by
  cases h with
  | int i => exact ⟨"int", .base (.int i), by decide +kernel⟩
  | bl i => exact ⟨"bool", .base (.bl i), by decide +kernel⟩
  | str i => exact ⟨"str", .base (.str i), by decide +kernel⟩
  | non => exact ⟨"NoneType", .base .non, by decide +kernel⟩
  | lst e => exact ⟨"list", .base (.lst e), by decide +kernel⟩
  | dK e => exact ⟨"dict", .base (.dK e), by decide +kernel⟩
theorem Nt.keep {H H' : Hp} {x : V} (h : Nt H x) (s : Same H H') : Nt H' x := by
  cases h with
  | int i => exact .int i
  | bl i => exact .bl i
  | str i => exact .str i
  | non => exact .non
  | lst e => exact .lst (s _ _ e)
  | dK e => exact .dK (s _ _ e)
theorem take_map_snoc' (xs : List V) (f : V → Bool) (i : Nat) (x : V) (h : xs[i]? = some x) : ((xs.take (i + 1)).map f).map V.bl = ((xs.take i).map f).map V.bl ++ [V.bl (f x)] := by
  rw [List.take_add_one, h, List.map_append, List.map_append]
  rfl
/-- a value as a row: its items, if it is a tuple -/
inductive Rw (K : PySem.W.Frag) (H : Hp) : V → Option (List V) → Prop where
  | no {x : V} (h : Nt H x) : Rw K H x none
  | tup {a : Addr} {xs : List V} (e : H a = some (.tup xs)) (p : ∀ x ∈ xs, ∃ b, Pl K H x b) (l : xs.length ≤ 1000) : Rw K H (.ref a) (some xs)
theorem Rw.keep {K : PySem.W.Frag} {H H' : Hp} {x : V} {o : Option (List V)} (h : Rw K H x o) (s : Same H H') : Rw K H' x o := by
  cases h with
  | no h => exact .no (h.keep s)
  | tup e p l => exact .tup (s _ _ e) (fun x hx => (p x hx).imp fun b h => h.keep s) l
def rowB : Option (List V) → Bool
  | none => false
  | some xs => decide (1 ≤ xs.length) && decide (xs.length ≤ 16) && xs.all isNum
def spRow (K : PySem.W.Frag) : Sp := fun vs H Q _ => ∃ x o, vs = [x] ∧ Rw K H x o ∧ ∀ H', Same H H' → Q (.bl (rowB o)) H'
section
variable {P : Program} {w : World} {K : PySem.W.Frag} {mg : Str → Option Value} {base : Heap} (T : Top K mg)
theorem ok_is_row : FnOk P w K mg base (L2.CX P w) 2 T.is_row.a T.is_row.d ["thing"] (spRow K) := by
  refine T.is_row.f.okX sc_is_row (fun vs H Q E h => ?_) (fun cdv A outer s H vs Q E hr h => ?_)
  · obtain ⟨x, o, rfl, _⟩ := h
    rfl
  · obtain ⟨x, o, rfl, hp, k⟩ := h
    refine ⟨_, pss_one (ps_ret (pe_and
      (pe_callB call_isi (by rfl) T.b_isinstance PyProof.Rows.boot_isinstance (pa_cons (pv 0) (pa_cons (pe_bltn (v := .ty "tuple") (by rfl) T.b_tuple (by decide +kernel) rfl) pa_nil)))
      (pe_and (pe_chain op_le op_le pe_int (pe_callB call_len_seq (by rfl) T.b_len PySem.boot_len (pa_cons (pv 0) pa_nil)) pe_int)
      (pe_one (pe_callB (cr_all rfl) (by rfl) T.b_all (by decide +kernel) (pa_cons (pe_lc (own := [("part", 1)]) (g := gName 1) (tt := tYes) rfl sc_is_row.nd (pi_tup (pv 0)) (blkOk_by (own := [("part", 1)]) (N := ["thing", "part"]) (sc := defScope s_is_row) (by decide +kernel))
        (fun _ _ _ _ _ => pg_name (i := 1) sc_is_row.nd rfl (Or.inl rfl)) (fun _ _ _ _ _ => pts_nil) (fun _ _ _ _ _ => pe_call (ok_is_number T) hr (by rfl) T.is_number.m T.is_number.f.kp (bd_is_number T) .nil passE (pa_cons (pv 1) pa_nil))) pa_nil)))))), ?_⟩
    cases hp with
    | no hn =>
      obtain ⟨t, ht, h1⟩ := hn.ty (K := K)
      refine ⟨_, rfl, x, _, _, _, _, rfl, .ty "tuple", ht, kit_ty h1, _, rfl, iteF ?_⟩
      exact k H fun _ _ e => e
    | tup e p l =>
      rename_i a xs
      refine ⟨_, rfl, _, _, _, _, true, rfl, .ty "tuple", .base (.tup e), kit_ty (by decide +kernel), _, rfl, iteT ?_⟩
      refine ⟨_, rfl, a, xs, rfl, .inr (SqT.of e), 1, ((xs.length : Nat) : Int), rfl, rfl, _, rfl, ?_⟩
      have go : ∀ c1 c2 : Bool, c1 = decide ((1 : Int) ≤ ((xs.length : Nat) : Int)) → c2 = decide (((xs.length : Nat) : Int) ≤ 16) → rowB (some xs) = (c1 && c2 && xs.all isNum) := fun c1 c2 e1 e2 => by
        subst e1 e2
        show (decide (1 ≤ xs.length) && decide (xs.length ≤ 16) && xs.all isNum) = _
        congr 1
        congr 1 <;> exact decide_eq_decide.mpr (by omega)
      by_cases c1 : (1 : Int) ≤ ((xs.length : Nat) : Int)
      · rw [decide_eq_true c1]
        refine iteT ⟨((xs.length : Nat) : Int), 16, rfl, rfl, _, rfl, ?_⟩
        by_cases c2 : ((xs.length : Nat) : Int) ≤ 16
        · rw [decide_eq_true c2]
          refine iteT ⟨_, rfl, a, rfl, ⟨_, SqT.of e⟩, fun D hD => lc_tup (K := K) (a := a) (xs := xs) (fun i H' => H' D = some (.lst (((xs.take i).map isNum).map V.bl)) ∧ Same H H') ⟨upd_same, Same.new hD⟩ (fun i H' _ h => SqT.of (h.2 _ _ e)) ?_ ?_⟩
          · rintro i x H' hx ⟨h1, h2⟩
            refine ⟨rfl, ?_⟩
            dsimp only [tYes]
            rw [if_pos rfl]
            obtain ⟨b, hb⟩ := p x (List.mem_of_getElem? hx)
            refine ⟨_, rfl, x, b, rfl, hb.keep h2, _, h1, ?_, ?_, ?_⟩
            · rw [List.length_map, List.length_map, List.length_take]
              exact Nat.lt_of_le_of_lt (Nat.min_le_right _ _) (Nat.lt_of_le_of_lt l (by decide))
            · rw [upd_same, take_map_snoc' _ _ _ _ hx, hb.num]
            · intro b' o e'
              rw [upd_ne (ne_of_none e' hD)]
              exact h2 b' o e'
          · rintro H1 ⟨h1, h2⟩
            rw [List.take_length] at h1
            refine ⟨D, _, rfl, SqL.of h1, ?_⟩
            refine q_bl (k H1 h2) ?_
            rw [go true true (decide_eq_true c1).symm (decide_eq_true c2).symm, List.all_map]
            rfl
        · rw [decide_eq_false c2]
          refine iteF ?_
          exact q_bl (k H fun _ _ e => e) (by rw [go true false (decide_eq_true c1).symm (decide_eq_false c2).symm]; rfl)
      · rw [decide_eq_false c1]
        refine iteF ⟨_, rfl, iteF ?_⟩
        exact q_bl (k H fun _ _ e => e) (by rw [go false _ (decide_eq_false c1).symm rfl]; rfl)
end
end K17
namespace K17
open PySem PySem.Spec PyProof.Rows L2 PySem.W LamX KA KW KU KL KT
open Evl (pss_cut tCut)
/-! ### planes of any values -/
def okAs (n : Nat) (o : Option (List V)) : Bool := rowB o && (match o with | some xs => xs.length == n | none => false)
def width0 : List (Option (List V)) → Nat
  | some xs :: _ => xs.length
  | _ => 0
def rowsB : Option (List (Option (List V))) → Bool
  | none => false
  | some os => decide (1 ≤ os.length) && decide (os.length ≤ 16) && os.all (okAs (width0 os))
/-- the items of a tuple as rows -/
def Rws (K : PySem.W.Frag) (H : Hp) (vs : List V) (os : List (Option (List V))) : Prop := vs.length = os.length ∧ ∀ (i : Nat) (v : V), vs[i]? = some v → ∃ o, os[i]? = some o ∧ Rw K H v o
theorem Rws.keep {K : PySem.W.Frag} {H H' : Hp} {vs : List V} {os : List (Option (List V))} (h : Rws K H vs os) (s : Same H H') : Rws K H' vs os :=
  ⟨h.1, fun i v e => by
    obtain ⟨o, q1, q2⟩ := h.2 i v e
    exact ⟨o, q1, q2.keep s⟩⟩
/-- a value as a plane -/
inductive Th (K : PySem.W.Frag) (H : Hp) : V → Option (List (Option (List V))) → Prop where
  | no {x : V} (h : Nt H x) : Th K H x none
  | tup {a : Addr} {vs : List V} {os : List (Option (List V))} (e : H a = some (.tup vs)) (p : Rws K H vs os) (l : vs.length ≤ 1000) : Th K H (.ref a) (some os)
theorem Th.keep {K : PySem.W.Frag} {H H' : Hp} {x : V} {o : Option (List (Option (List V)))} (h : Th K H x o) (s : Same H H') : Th K H' x o := by
  cases h with
  | no h => exact .no (h.keep s)
  | tup e p l => exact .tup (s _ _ e) (p.keep s) l
theorem rowB_some {o : Option (List V)} (h : rowB o = true) : ∃ xs, o = some xs ∧ 1 ≤ xs.length ∧ xs.length ≤ 16 ∧ xs.all isNum = true := by
  cases o with
  | none => cases h
  | some xs =>
    simp only [rowB, Bool.and_eq_true, decide_eq_true_eq] at h
    exact ⟨xs, rfl, h.1.1, h.1.2, h.2⟩
theorem all_false {α : Type} {l : List α} {f : α → Bool} {i : Nat} {x : α} (h : l[i]? = some x) (hf : f x = false) : l.all f = false := by
  rw [List.all_eq_false]
  exact ⟨x, List.mem_of_getElem? h, by rw [hf]; exact Bool.false_ne_true⟩
theorem all_take_succ {α : Type} {l : List α} {f : α → Bool} {i : Nat} {x : α} (h : l[i]? = some x) (h1 : (l.take i).all f = true) (hf : f x = true) : (l.take (i + 1)).all f = true := by
  rw [List.take_add_one, h, List.all_append, h1]
  simp [hf]
def spRows (K : PySem.W.Frag) : Sp := fun vs H Q _ => ∃ x o, vs = [x] ∧ Th K H x o ∧ ∀ H', Same H H' → Q (.bl (rowsB o)) H'
section
variable {P : Program} {w : World} {K : PySem.W.Frag} {mg : Str → Option Value} {base : Heap} (T : Top K mg)
theorem ok_is_rows : FnOk P w K mg base (L2.CX P w) 3 T.is_rows.a T.is_rows.d ["thing"] (spRows K) := by
  refine T.is_rows.f.okX sc_is_rows (fun vs H Q E h => ?_) (fun cdv A outer s H vs Q E hr h => ?_)
  · obtain ⟨x, o, rfl, _⟩ := h
    rfl
  · obtain ⟨x, o, rfl, hp, k⟩ := h
    refine ⟨_, pss_cons (ps_if (PW.pt (pw_or (pt_not (pt_val (pe_callB call_isi (by rfl) T.b_isinstance PyProof.Rows.boot_isinstance (pa_cons (pv 0) (pa_cons (pe_bltn (v := .ty "tuple") (by rfl) T.b_tuple (by decide +kernel) rfl) pa_nil)))))
        (pw_or1 (pt_not (pt_chain op_le op_le pe_int (pe_callB call_len_seq (by rfl) T.b_len PySem.boot_len (pa_cons (pv 0) pa_nil)) pe_int)))))
        (pss_one (ps_ret pe_bl)) pss_nil)
      (pss_cons (ps_for (passes_of rfl) rfl (pi_tup (pv 0)) (pg_name (i := 1) sc_is_rows.nd rfl (.inl rfl))
        (pss_one (ps_if (PW.pt (pw_or (pt_not (pt_val (pe_call (ok_is_row T) hr (by rfl) T.is_row.m T.is_row.f.kp (bd_is_row T) .nil passE (pa_cons (pv 1) pa_nil))))
          (pw_or1 (pt_cmpR op_ne (pe_callB call_len_seq (by rfl) T.b_len PySem.boot_len (pa_cons (pv 1) pa_nil)) (pe_callB call_len_seq (by rfl) T.b_len PySem.boot_len (pa_cons (pe_ix ix_tup (pv 0) pe_int (fun _ _ => rfl)) pa_nil)) (nomark _)))))
          (pss_one (ps_ret pe_bl)) pss_nil)))
      (pss_one (ps_ret pe_bl))), ?_⟩
    cases hp with
    | no hn =>
      obtain ⟨t, ht, h1⟩ := hn.ty (K := K)
      refine ⟨_, rfl, x, _, _, _, _, rfl, .ty "tuple", ht, kit_ty h1, _, rfl, ?_⟩
      exact iteT (iteT (k H fun _ _ e => e))
    | tup e p l =>
      rename_i a xs os
      refine ⟨_, rfl, _, _, _, _, true, rfl, .ty "tuple", .base (.tup e), kit_ty (by decide +kernel), _, rfl, iteF ⟨_, rfl, a, xs, rfl, .inr (SqT.of e), 1, ((xs.length : Nat) : Int), rfl, rfl, _, rfl, ?_⟩⟩
      have hlen := p.1
      have go : ∀ c1 c2 : Bool, c1 = decide ((1 : Int) ≤ ((xs.length : Nat) : Int)) → c2 = decide (((xs.length : Nat) : Int) ≤ 16) → rowsB (some os) = (c1 && c2 && os.all (okAs (width0 os))) := fun c1 c2 e1 e2 => by
        subst e1 e2
        show (decide (1 ≤ os.length) && decide (os.length ≤ 16) && os.all (okAs (width0 os))) = _
        congr 1
        congr 1 <;> exact decide_eq_decide.mpr (by omega)
      by_cases c1 : (1 : Int) ≤ ((xs.length : Nat) : Int)
      · rw [decide_eq_true c1]
        refine iteT ⟨((xs.length : Nat) : Int), 16, rfl, rfl, _, rfl, ?_⟩
        by_cases c2 : ((xs.length : Nat) : Int) ≤ 16
        · rw [decide_eq_true c2]
          have go' : rowsB (some os) = os.all (okAs (width0 os)) := by rw [go true true (decide_eq_true c1).symm (decide_eq_true c2).symm]; rfl
          clear go
          refine iteF ?_
          refine ⟨_, rfl, a, rfl, ⟨_, SqT.of e⟩, for_tup (K := K) (a := a) (xs := xs) (fun i σ H' => (∃ v1, σ = [some (.ref a), v1]) ∧ Same H H' ∧ (os.take i).all (okAs (width0 os)) = true) ⟨⟨none, rfl⟩, fun _ _ e => e, rfl⟩ (fun i σ H' _ h => SqT.of (h.2.1 _ _ e)) ?_ ?_⟩
          · rintro i x σ H' hx ⟨⟨v1, rfl⟩, sm, ht⟩
            obtain ⟨o, ho, hr2⟩ := p.2 i x hx
            have hr3 := hr2.keep sm
            refine ⟨_, rfl, x, o, rfl, hr3, fun H2 sm2 => ?_⟩
            have sm' : Same H H2 := sm.trans sm2
            have bad : okAs (width0 os) o = false → Q (.bl false) H2 := fun z => q_bl (k H2 sm') (by rw [go', all_false ho z])
            refine ⟨_, rfl, ?_⟩
            cases hb : rowB o with
            | false => exact iteT (iteT (bad (by simp [okAs, hb])))
            | true =>
              refine iteF ?_
              obtain ⟨ys, rfl, y1, y2, y3⟩ := rowB_some hb
              cases hr3 with
              | tup eb pb lb =>
                rename_i b
                -- the first row
                obtain ⟨v0, hv0⟩ : ∃ v0, xs[0]? = some v0 := ⟨_, List.getElem?_eq_getElem (by omega)⟩
                obtain ⟨o0, ho0, hr0⟩ := p.2 0 v0 hv0
                have hs0 : ∃ zs, o0 = some zs := by
                  cases i with
                  | zero =>
                    rw [ho] at ho0
                    exact ⟨ys, (Option.some.inj ho0).symm⟩
                  | succ i =>
                    rw [List.all_eq_true] at ht
                    have hm : o0 ∈ os.take (i + 1) := List.mem_of_getElem? (i := 0) (by rw [List.getElem?_take]; simpa using ho0)
                    have := ht o0 hm
                    simp only [okAs, Bool.and_eq_true] at this
                    obtain ⟨zs, h, _⟩ := rowB_some this.1
                    exact ⟨zs, h⟩
                obtain ⟨zs, rfl⟩ := hs0
                have hw0 : width0 os = zs.length := by
                  cases os with
                  | nil => cases ho0
                  | cons o1 os =>
                    have : o1 = some zs := by simpa using ho0
                    subst this
                    rfl
                have hr0' := hr0.keep sm'
                cases hr0' with
                | tup e0 p0 l0 =>
                  refine ⟨_, rfl, _, ys, rfl, .inr (SqT.of (sm2 _ _ eb)), _, rfl, a, xs, 0, _, rfl, rfl, SqT.of (sm' _ _ e), atI_nat (j := 0) hv0, _, zs, rfl, .inr (SqT.of e0), ?_⟩
                  refine ⟨rfl, _, rfl, ?_⟩
                  rw [dec_int]
                  by_cases c : ys.length = zs.length
                  · rw [show (((ys.length : Nat) : Int) == ((zs.length : Nat) : Int)) = true by simp [c]]
                    refine iteF ⟨⟨_, rfl⟩, sm', all_take_succ ho ht ?_⟩
                    simp [okAs, hb, hw0, c]
                  · rw [show (((ys.length : Nat) : Int) == ((zs.length : Nat) : Int)) = false from beq_eq_false_iff_ne.mpr (by omega)]
                    refine iteT (bad ?_)
                    simp [okAs, hb, hw0, c]
          · rintro σ H' ⟨⟨v1, rfl⟩, sm, ht⟩
            rw [hlen, List.take_length] at ht
            exact q_bl (k H' sm) (by rw [go', ht])
        · rw [decide_eq_false c2]
          refine iteT ?_
          exact q_bl (k H fun _ _ e => e) (by rw [go true false (decide_eq_true c1).symm (decide_eq_false c2).symm]; rfl)
      · rw [decide_eq_false c1]
        refine iteF ⟨_, rfl, ?_⟩
        refine iteT ?_
        exact q_bl (k H fun _ _ e => e) (by rw [go false _ (decide_eq_false c1).symm rfl]; rfl)
end
end K17
namespace K17
open PySem PySem.Spec PyProof.Rows L2 PySem.W LamX KA KW KU KL KT
open Evl (pss_cut tCut)
/-! ### planes of numbers -/
/-- a tuple of h rows of w numbers -/
structure Pn (H : Hp) (a : Addr) (nss : List (List Int)) (w : Nat) : Prop where
  at' : ∃ vs, H a = some (.tup vs) ∧ vs.length = nss.length ∧ ∀ (i : Nat) (v : V), vs[i]? = some v → ∃ b ns, v = .ref b ∧ nss[i]? = some ns ∧ H b = some (.tup (ns.map V.int))
  h1 : 1 ≤ nss.length
  h2 : nss.length ≤ 16
  w1 : 1 ≤ w
  w2 : w ≤ 16
  ws : ∀ ns ∈ nss, ns.length = w
theorem Pn.keep {H H' : Hp} {a : Addr} {nss : List (List Int)} {w : Nat} (p : Pn H a nss w) (s : Same H H') : Pn H' a nss w := by
  refine ⟨?_, p.h1, p.h2, p.w1, p.w2, p.ws⟩
  obtain ⟨vs, h, l, q⟩ := p.at'
  refine ⟨vs, s _ _ h, l, fun i v e => ?_⟩
  obtain ⟨b, ns, e1, e2, e3⟩ := q i v e
  exact ⟨b, ns, e1, e2, s _ _ e3⟩
theorem nums_map : ∀ {xs : List V}, xs.all isNum = true → ∃ ns : List Int, xs = ns.map V.int
  | [], _ => ⟨[], rfl⟩
  | x :: xs, h => by
    rw [List.all_cons, Bool.and_eq_true] at h
    obtain ⟨ns, rfl⟩ := nums_map h.2
    cases x with
    | int i => exact ⟨i :: ns, rfl⟩
    | _ => exact absurd h.1 (by simp [isNum])
theorem opts_map : ∀ {os : List (Option (List V))}, (∀ o ∈ os, rowB o = true) → ∃ nss : List (List Int), os = nss.map fun ns => some (ns.map V.int)
  | [], _ => ⟨[], rfl⟩
  | o :: os, h => by
    obtain ⟨nss, rfl⟩ := opts_map (os := os) fun o ho => h o (List.mem_cons_of_mem _ ho)
    obtain ⟨xs, rfl, _, _, hx⟩ := rowB_some (h o List.mem_cons_self)
    obtain ⟨ns, rfl⟩ := nums_map hx
    exact ⟨ns :: nss, rfl⟩
/-- of a value that is a tuple of rows of numbers -/
theorem Th.good {K : PySem.W.Frag} {H : Hp} {x : V} {o : Option (List (Option (List V)))} (h : Th K H x o) (g : rowsB o = true) : ∃ a nss w, x = .ref a ∧ Pn H a nss w ∧ o = some (nss.map fun ns => some (ns.map V.int)) := by
  cases h with
  | no h => cases g
  | tup e p l =>
    rename_i a vs os
    simp only [rowsB, Bool.and_eq_true, decide_eq_true_eq, List.all_eq_true, okAs] at g
    obtain ⟨⟨g1, g2⟩, g3⟩ := g
    obtain ⟨nss, rfl⟩ := opts_map fun o ho => (g3 o ho).1
    refine ⟨a, nss, width0 (nss.map fun ns => some (ns.map V.int)), rfl, ⟨⟨vs, e, ?_, fun i v hv => ?_⟩, ?_, ?_, ?_, ?_, fun ns hn => ?_⟩, rfl⟩
    · rw [p.1, List.length_map]
    · obtain ⟨o, ho, hr⟩ := p.2 i v hv
      rw [List.getElem?_map] at ho
      cases hn : nss[i]? with
      | none => rw [hn] at ho; cases ho
      | some ns =>
        rw [hn] at ho
        have := Option.some.inj ho
        subst this
        cases hr with
        | tup e' _ _ => exact ⟨_, ns, rfl, rfl, e'⟩
    · rw [List.length_map] at g1
      exact g1
    · rw [List.length_map] at g2
      exact g2
    · cases nss with
      | nil => rw [List.length_map] at g1; exact absurd g1 (by decide)
      | cons ns nss =>
        obtain ⟨xs, e1, e2, e3, _⟩ := rowB_some (g3 _ (by rw [List.map_cons]; exact List.mem_cons_self)).1
        have := Option.some.inj e1
        subst this
        exact e2
    · cases nss with
      | nil => rw [List.length_map] at g1; exact absurd g1 (by decide)
      | cons ns nss =>
        obtain ⟨xs, e1, e2, e3, _⟩ := rowB_some (g3 _ (by rw [List.map_cons]; exact List.mem_cons_self)).1
        have := Option.some.inj e1
        subst this
        exact e3
    · have := (g3 _ (List.mem_map_of_mem hn)).2
      simpa using this
def minL : List Int → Int
  | n :: r => r.foldl min n
  | [] => 0
def maxL : List Int → Int
  | n :: r => r.foldl max n
  | [] => 0
theorem minL_eq {ns : List Int} {m : Int} (h : m ∈ ns) (l : ∀ y ∈ ns, m ≤ y) : m = minL ns := by
  cases ns with
  | nil => cases h
  | cons n r =>
    have h1 := l _ (foldl_min_mem n r)
    have h2 := foldl_min_le n r m h
    show m = r.foldl min n
    omega
theorem maxL_eq {ns : List Int} {m : Int} (h : m ∈ ns) (l : ∀ y ∈ ns, y ≤ m) : m = maxL ns := by
  cases ns with
  | nil => cases h
  | cons n r =>
    have h1 := l _ (foldl_max_mem n r)
    have h2 := foldl_max_ge n r m h
    show m = r.foldl max n
    omega
theorem minL_le {ns : List Int} (h : 0 < ns.length) (lo : Int) : lo ≤ minL ns ↔ ∀ y ∈ ns, lo ≤ y := by
  cases ns with
  | nil => cases h
  | cons n r =>
    constructor
    · intro q y hy
      exact Int.le_trans q (foldl_min_le n r y hy)
    · intro q
      exact q _ (foldl_min_mem n r)
theorem maxL_ge {ns : List Int} (h : 0 < ns.length) (hi : Int) : maxL ns ≤ hi ↔ ∀ y ∈ ns, y ≤ hi := by
  cases ns with
  | nil => cases h
  | cons n r =>
    constructor
    · intro q y hy
      exact Int.le_trans (foldl_max_ge n r y hy) q
    · intro q
      exact q _ (foldl_max_mem n r)
def betB (nss : List (List Int)) (lo hi : Int) : Bool := nss.all fun ns => ns.all fun n => decide (lo ≤ n) && decide (n ≤ hi)
theorem betB_eq {nss : List (List Int)} (h : 0 < nss.length) (hw : ∀ ns ∈ nss, 0 < ns.length) (lo hi : Int) : betB nss lo hi = (decide (lo ≤ minL (nss.map minL)) && decide (maxL (nss.map maxL) ≤ hi)) := by
  rw [Bool.eq_iff_iff]
  simp only [betB, List.all_eq_true, Bool.and_eq_true, decide_eq_true_eq]
  rw [minL_le (by rw [List.length_map]; exact h), maxL_ge (by rw [List.length_map]; exact h)]
  constructor
  · intro q
    constructor
    · intro y hy
      obtain ⟨ns, hn, rfl⟩ := List.mem_map.mp hy
      exact (minL_le (hw ns hn) lo).mpr fun y hy => (q ns hn y hy).1
    · intro y hy
      obtain ⟨ns, hn, rfl⟩ := List.mem_map.mp hy
      exact (maxL_ge (hw ns hn) hi).mpr fun y hy => (q ns hn y hy).2
  · intro q ns hn n hnn
    exact ⟨(minL_le (hw ns hn) lo).mp (q.1 _ (List.mem_map_of_mem hn)) n hnn, (maxL_ge (hw ns hn) hi).mp (q.2 _ (List.mem_map_of_mem hn)) n hnn⟩
theorem take_map_snocI (xs : List (List Int)) (f : List Int → Int) (i : Nat) (x : List Int) (h : xs[i]? = some x) : ((xs.take (i + 1)).map f).map V.int = ((xs.take i).map f).map V.int ++ [V.int (f x)] := by
  rw [List.take_add_one, h, List.map_append, List.map_append]
  rfl
def spBetween : Sp := fun vs H Q _ => ∃ a nss w lo hi, vs = [.ref a, .int lo, .int hi] ∧ Pn H a nss w ∧ ∀ H', Same H H' → Q (.bl (betB nss lo hi)) H'
section
variable {P : Program} {w : World} {K : PySem.W.Frag} {mg : Str → Option Value} {base : Heap} (T : Top K mg)
end
end K17
namespace K17
open PySem PySem.Spec PyProof.Rows L2 PySem.W LamX KA KW KU KL KT
open Evl (pss_cut tCut)
/-! ### turned -/
def trans (nss : List (List Int)) (w : Nat) : List (List Int) := (List.range w).map fun j => nss.map fun ns => ns.getD j 0
def rTupOf (K : PySem.W.Frag) : List V → Hp → VK → Prop := fun xs H Q => ∃ p ys, xs = [.ref p] ∧ ((SqL K H p ys ∧ ∀ l, H l = none → Q (.ref l) (upd H l (.tup ys))) ∨ (SqT K H p ys ∧ Q (.ref p) H))
/-- these values are tuples of these numbers -/
def Rows (H : Hp) (rs : List V) (mss : List (List Int)) : Prop := rs.length = mss.length ∧ ∀ (j : Nat) (v : V), rs[j]? = some v → ∃ b ns, v = .ref b ∧ mss[j]? = some ns ∧ H b = some (.tup (ns.map V.int))
theorem Rows.keep {H H' : Hp} {rs : List V} {mss : List (List Int)} (r : Rows H rs mss) (s : Same H H') : Rows H' rs mss := ⟨r.1, fun j v e => by
  obtain ⟨b, ns, e1, e2, e3⟩ := r.2 j v e
  exact ⟨b, ns, e1, e2, s _ _ e3⟩⟩
theorem Rows.put {H : Hp} {rs xs : List V} {mss : List (List Int)} {D : Addr} {o : HO} (r : Rows H rs mss) (h : H D = some (.lst xs)) : Rows (upd H D o) rs mss := ⟨r.1, fun j v e => by
  obtain ⟨b, ns, e1, e2, e3⟩ := r.2 j v e
  refine ⟨b, ns, e1, e2, ?_⟩
  rw [upd_ne (fun z => by rw [z, h] at e3; cases e3)]
  exact e3⟩
theorem Rows.snoc {H : Hp} {rs : List V} {mss : List (List Int)} {p : Addr} {ms : List Int} (r : Rows H rs mss) (h : H p = some (.tup (ms.map V.int))) : Rows H (rs ++ [.ref p]) (mss ++ [ms]) := by
  refine ⟨by simp [r.1], fun j v e => ?_⟩
  by_cases c : j < rs.length
  · rw [List.getElem?_append_left c] at e
    obtain ⟨b, ns, e1, e2, e3⟩ := r.2 j v e
    exact ⟨b, ns, e1, by rw [List.getElem?_append_left (by rw [← r.1]; exact c)]; exact e2, e3⟩
  · rw [List.getElem?_append_right (by omega)] at e
    have hj : j - rs.length = 0 := by
      rcases Nat.eq_zero_or_pos (j - rs.length) with h | h
      · exact h
      · rw [List.getElem?_eq_none (by simp; omega)] at e
        cases e
    rw [hj] at e
    have := Option.some.inj e
    subst this
    refine ⟨p, ms, rfl, ?_, h⟩
    rw [List.getElem?_append_right (by rw [← r.1]; omega), ← r.1, hj]
    rfl
theorem Rows.nil {H : Hp} : Rows H [] [] := ⟨rfl, fun j v e => by simp at e⟩
theorem Rows.pn {H : Hp} {rs : List V} {mss : List (List Int)} {a : Addr} {w : Nat} (r : Rows H rs mss) (e : H a = some (.tup rs)) (h1 : 1 ≤ mss.length) (h2 : mss.length ≤ 16) (w1 : 1 ≤ w) (w2 : w ≤ 16) (ws : ∀ ns ∈ mss, ns.length = w) : Pn H a mss w := ⟨⟨rs, e, r⟩, h1, h2, w1, w2, ws⟩
theorem Pn.rows {H : Hp} {a : Addr} {nss : List (List Int)} {w : Nat} (p : Pn H a nss w) : ∃ vs, H a = some (.tup vs) ∧ Rows H vs nss := p.at'
theorem Rows.rev {H : Hp} {rs : List V} {mss : List (List Int)} (r : Rows H rs mss) : Rows H rs.reverse mss.reverse := by
  refine ⟨by simp [r.1], fun j v e => ?_⟩
  have hj : j < rs.length := by
    rcases Nat.lt_or_ge j rs.length with h | h
    · exact h
    · rw [List.getElem?_eq_none (by simpa using h)] at e
      cases e
  rw [List.getElem?_reverse hj] at e
  obtain ⟨b, ns, e1, e2, e3⟩ := r.2 _ v e
  exact ⟨b, ns, e1, by rw [List.getElem?_reverse (by rw [← r.1]; exact hj), ← r.1]; exact e2, e3⟩
theorem take_snoc {α β : Type} {xs : List α} (f : α → β) {i : Nat} {x : α} (h : xs[i]? = some x) : (xs.take (i + 1)).map f = (xs.take i).map f ++ [f x] := by
  rw [List.take_add_one, h, List.map_append]
  rfl
theorem Same.put {H H' : Hp} {D : Addr} {o : HO} (s : Same H H') (h : H D = none) : Same H (upd H' D o) := fun b o e => by
  rw [upd_ne (ne_of_none e h)]
  exact s b o e
/-- what a plane is turned by -/
inductive Sc : V → Prop where
  | int (i : Int) : Sc (.int i)
  | str (s : Str) : Sc (.str s)
  | non : Sc .non
section
variable {P : Program} {w : World} {K : PySem.W.Frag} {mg : Str → Option Value} {base : Heap} (T : Top K mg)
end
end K17
namespace K17
/-! ### areas, means and differences: the mathematics -/
structure Ar where
  t : Nat
  l : Nat
  h : Nat
  w : Nat
deriving DecidableEq
namespace Ar
def inn (a : Ar) : Bool := decide (1 < a.h * a.w)
def half (a : Ar) (b : Bool) : Ar :=
  if a.w ≤ a.h then (if b then ⟨a.t + (a.h + 1) / 2, a.l, a.h - (a.h + 1) / 2, a.w⟩ else ⟨a.t, a.l, (a.h + 1) / 2, a.w⟩)
  else (if b then ⟨a.t, a.l + (a.w + 1) / 2, a.h, a.w - (a.w + 1) / 2⟩ else ⟨a.t, a.l, a.h, (a.w + 1) / 2⟩)
def ok (a : Ar) : Prop := 1 ≤ a.h ∧ 1 ≤ a.w
def size (a : Ar) : Nat := a.h * a.w
end Ar
open Ar
theorem big_of {a : Ar} (o : a.ok) (i : a.inn = true) : (a.w ≤ a.h ∧ 2 ≤ a.h) ∨ (a.h < a.w ∧ 2 ≤ a.w) := by
  obtain ⟨o1, o2⟩ := o
  unfold inn at i
  have i := of_decide_eq_true i
  by_cases c : a.w ≤ a.h
  · refine .inl ⟨c, ?_⟩
    rcases Nat.lt_or_ge a.h 2 with z | z
    · have e1 : a.h = 1 := by omega
      have e2 : a.w = 1 := by omega
      rw [e1, e2] at i
      omega
    · exact z
  · exact .inr ⟨by omega, by omega⟩
theorem one_of {a : Ar} (o : a.ok) (i : a.inn = false) : a.h = 1 ∧ a.w = 1 := by
  obtain ⟨o1, o2⟩ := o
  unfold inn at i
  have i := of_decide_eq_false i
  have h1 := Nat.mul_le_mul_left a.h o2
  have h2 := Nat.mul_le_mul_right a.w o1
  omega
/-- r lies in a -/
def In (r a : Ar) : Prop := a.t ≤ r.t ∧ r.t + r.h ≤ a.t + a.h ∧ a.l ≤ r.l ∧ r.l + r.w ≤ a.l + a.w
theorem In.refl {a : Ar} : In a a := ⟨Nat.le_refl _, Nat.le_refl _, Nat.le_refl _, Nat.le_refl _⟩
theorem In.trans {a b c : Ar} (x : In a b) (y : In b c) : In a c := by
  unfold In at *
  omega
theorem half_ok {a : Ar} (o : a.ok) (i : a.inn = true) (b : Bool) : (a.half b).ok := by
  have g := big_of o i
  obtain ⟨o1, o2⟩ := o
  unfold half ok
  rcases g with ⟨g1, g2⟩ | ⟨g1, g2⟩
  · rw [if_pos g1]
    cases b
    · exact ⟨by show 1 ≤ (a.h + 1) / 2; omega, o2⟩
    · exact ⟨by show 1 ≤ a.h - (a.h + 1) / 2; omega, o2⟩
  · rw [if_neg (by omega)]
    cases b
    · exact ⟨o1, by show 1 ≤ (a.w + 1) / 2; omega⟩
    · exact ⟨o1, by show 1 ≤ a.w - (a.w + 1) / 2; omega⟩
theorem half_in {a : Ar} (b : Bool) : In (a.half b) a := by
  unfold half In
  by_cases c : a.w ≤ a.h
  · rw [if_pos c]
    cases b <;> (dsimp; omega)
  · rw [if_neg c]
    cases b <;> (dsimp; omega)
theorem half_size {a : Ar} (o : a.ok) (i : a.inn = true) : (a.half false).size + (a.half true).size = a.size := by
  have g := big_of o i
  unfold half size
  rcases g with ⟨g1, g2⟩ | ⟨g1, g2⟩
  · rw [if_pos g1, if_pos g1]
    show (a.h + 1) / 2 * a.w + (a.h - (a.h + 1) / 2) * a.w = a.h * a.w
    rw [← Nat.add_mul]
    congr 1
    omega
  · have c : ¬ a.w ≤ a.h := by omega
    rw [if_neg c, if_neg c]
    show a.h * ((a.w + 1) / 2) + a.h * (a.w - (a.w + 1) / 2) = a.h * a.w
    rw [← Nat.mul_add]
    congr 1
    omega
theorem ok_size {a : Ar} (o : a.ok) : 1 ≤ a.size := Nat.mul_pos o.1 o.2
theorem half_lt {a : Ar} (o : a.ok) (i : a.inn = true) (b : Bool) : (a.half b).size < a.size := by
  have e := half_size o i
  have p1 := ok_size (half_ok o i false)
  have p2 := ok_size (half_ok o i true)
  cases b <;> omega
theorem half_apart {a r s : Ar} (o : a.ok) (i : a.inn = true) (hr : r.ok) (x : In r (a.half false)) (y : In s (a.half true)) : r.t ≠ s.t ∨ r.l ≠ s.l := by
  have g := big_of o i
  obtain ⟨r1, r2⟩ := hr
  unfold half In at x y
  rcases g with ⟨g1, g2⟩ | ⟨g1, g2⟩
  · rw [if_pos g1] at x y
    left
    simp only [if_true, Bool.false_eq_true, if_false] at x y
    omega
  · have c : ¬ a.w ≤ a.h := by omega
    rw [if_neg c] at x y
    right
    simp only [if_true, Bool.false_eq_true, if_false] at x y
    omega
theorem half_cover {a : Ar} {y x : Nat} (h : a.t ≤ y ∧ y < a.t + a.h ∧ a.l ≤ x ∧ x < a.l + a.w) : ∃ b, (a.half b).t ≤ y ∧ y < (a.half b).t + (a.half b).h ∧ (a.half b).l ≤ x ∧ x < (a.half b).l + (a.half b).w := by
  unfold half
  by_cases c : a.w ≤ a.h
  · by_cases d : y < a.t + (a.h + 1) / 2
    · refine ⟨false, ?_⟩
      rw [if_pos c]
      simp only [Bool.false_eq_true, if_false]
      omega
    · refine ⟨true, ?_⟩
      rw [if_pos c]
      simp only [if_true]
      omega
  · by_cases d : x < a.l + (a.w + 1) / 2
    · refine ⟨false, ?_⟩
      rw [if_neg c]
      simp only [Bool.false_eq_true, if_false]
      omega
    · refine ⟨true, ?_⟩
      rw [if_neg c]
      simp only [if_true]
      omega
/-! the ways from the whole area -/
def reg (a : Ar) : List Bool → Ar
  | [] => a
  | b :: p => reg (a.half b) p
theorem reg_snoc : ∀ (p : List Bool) (a : Ar) (b : Bool), reg a (p ++ [b]) = (reg a p).half b
  | [], _, _ => rfl
  | c :: p, a, b => reg_snoc p (a.half c) b
/-- each area that is halved on the way is inner -/
def Way (a : Ar) : List Bool → Prop
  | [] => True
  | b :: p => a.inn = true ∧ Way (a.half b) p
theorem way_snoc : ∀ {p : List Bool} {a : Ar} {b : Bool}, Way a p → (reg a p).inn = true → Way a (p ++ [b])
  | [], _, _, _, i => ⟨i, trivial⟩
  | _ :: _, _, _, ⟨h1, h2⟩, i => ⟨h1, way_snoc h2 i⟩
theorem way_ok : ∀ {p : List Bool} {a : Ar}, a.ok → Way a p → (reg a p).ok ∧ In (reg a p) a ∧ (reg a p).size ≤ a.size
  | [], _, o, _ => ⟨o, In.refl, Nat.le_refl _⟩
  | b :: p, a, o, ⟨h1, h2⟩ => by
    obtain ⟨q1, q2, q3⟩ := way_ok (half_ok o h1 b) h2
    exact ⟨q1, q2.trans (half_in b), Nat.le_trans q3 (Nat.le_of_lt (half_lt o h1 b))⟩
theorem way_inj : ∀ {p q : List Bool} {a : Ar}, a.ok → Way a p → Way a q → reg a p = reg a q → p = q
  | [], [], _, _, _, _, _ => rfl
  | [], b :: q, a, o, _, ⟨h1, h2⟩, e => by
    have z := (way_ok (half_ok o h1 b) h2).2.2
    have y := half_lt o h1 b
    have e : a = reg (a.half b) q := e
    rw [← e] at z
    omega
  | b :: p, [], a, o, ⟨h1, h2⟩, _, e => by
    have z := (way_ok (half_ok o h1 b) h2).2.2
    have y := half_lt o h1 b
    have e : reg (a.half b) p = a := e
    rw [e] at z
    omega
  | b :: p, c :: q, a, o, ⟨h1, h2⟩, ⟨_, h4⟩, e => by
    have e : reg (a.half b) p = reg (a.half c) q := e
    by_cases d : b = c
    · subst d
      rw [way_inj (half_ok o h1 b) h2 h4 e]
    · obtain ⟨w1, w2, _⟩ := way_ok (half_ok o h1 b) h2
      obtain ⟨w3, w4, _⟩ := way_ok (half_ok o h1 c) h4
      exfalso
      cases b <;> cases c
      · exact d rfl
      · rcases half_apart o h1 w1 w2 w4 with z | z <;> exact z (by rw [e])
      · rcases half_apart o h1 w3 w4 w2 with z | z <;> exact z (by rw [e])
      · exact d rfl
/-! the list of the areas, as it grows -/
def grow (a : Ar) (P : List (List Bool)) (n : Nat) : List (List Bool) := match P[n]? with
  | some p => if (reg a p).inn = true then P ++ [p ++ [false], p ++ [true]] else P
  | none => P
def ways (a : Ar) : Nat → List (List Bool)
  | 0 => [[]]
  | n + 1 => grow a (ways a n) n
/-- how many of the first n are inner -/
def cnt (a : Ar) (P : List (List Bool)) (n : Nat) : Nat := (P.take n).countP fun p => (reg a p).inn
def pot (a : Ar) (P : List (List Bool)) : Nat := (P.map fun p => 2 * (reg a p).size - 1).sum
structure Grown (a : Ar) (P : List (List Bool)) (n : Nat) : Prop where
  le : n ≤ P.length
  pot : n + pot a (P.drop n) = 2 * a.size - 1
  way : ∀ p ∈ P, Way a p
  nd : P.Nodup
  root : P[0]? = some []
  len : P.length = 1 + 2 * cnt a P n
  kid : ∀ p b, p ++ [b] ∈ P → ∃ i, i < n ∧ P[i]? = some p
  kids : ∀ i p, i < n → P[i]? = some p → (reg a p).inn = true → P[2 * cnt a P (i + 1) - 1]? = some (p ++ [false]) ∧ P[2 * cnt a P (i + 1)]? = some (p ++ [true])
theorem cnt_app {a : Ar} {P R : List (List Bool)} {n : Nat} (h : n ≤ P.length) : cnt a (P ++ R) n = cnt a P n := by
  unfold cnt
  rw [List.take_append_of_le_length h]
theorem cnt_succ {a : Ar} {P : List (List Bool)} {n : Nat} {p : List Bool} (h : P[n]? = some p) : cnt a P (n + 1) = cnt a P n + (if (reg a p).inn = true then 1 else 0) := by
  unfold cnt
  rw [List.take_add_one, h, List.countP_append]
  cases e : (reg a p).inn <;> simp [e]
theorem cnt_mono {a : Ar} {P : List (List Bool)} {m n : Nat} (h : m ≤ n) : cnt a P m ≤ cnt a P n := by
  unfold cnt
  exact List.Sublist.countP_le (List.take_sublist_take_left h)
theorem snoc_ne {p q : List Bool} {b c : Bool} (h : p ++ [b] = q ++ [c]) : p = q ∧ b = c := by
  have := List.append_inj' h rfl
  exact ⟨this.1, by simpa using this.2⟩
theorem Grown.zero {a : Ar} (o : a.ok) : Grown a (ways a 0) 0 where
  le := Nat.zero_le _
  pot := by
    show 0 + ((2 * a.size - 1) + 0) = _
    omega
  way := fun p hp => by
    rw [List.mem_singleton.mp hp]
    trivial
  nd := by simp [ways]
  root := rfl
  len := rfl
  kid := fun p b h => by
    have := List.mem_singleton.mp h
    simp at this
  kids := fun i p h => absurd h (Nat.not_lt_zero _)
theorem Grown.step {a : Ar} (o : a.ok) {P : List (List Bool)} {n : Nat} (g : Grown a P n) (h : n < P.length) : Grown a (grow a P n) (n + 1) := by
  obtain ⟨p, hp⟩ : ∃ p, P[n]? = some p := ⟨_, List.getElem?_eq_getElem h⟩
  have hd : P.drop n = p :: P.drop (n + 1) := by
    rw [List.drop_eq_getElem_cons h]
    congr 1
    rw [List.getElem?_eq_getElem h] at hp
    exact Option.some.inj hp
  have hw := g.way p (List.mem_of_getElem? hp)
  have po := way_ok o hw
  have hs := ok_size po.1
  have g2 := g.pot
  rw [hd] at g2
  have g2 : n + ((2 * (reg a p).size - 1) + K17.pot a (P.drop (n + 1))) = 2 * a.size - 1 := g2
  unfold grow
  rw [hp]
  dsimp only
  by_cases i : (reg a p).inn = true
  · rw [if_pos i]
    have e2 : cnt a (P ++ [p ++ [false], p ++ [true]]) (n + 1) = cnt a P n + 1 := by
      rw [cnt_app h, cnt_succ hp, if_pos i]
    have new : ∀ b, p ++ [b] ∉ P := fun b m => by
      obtain ⟨j, hj, e⟩ := g.kid p b m
      have := (List.getElem?_inj (Nat.lt_trans hj h) g.nd).mp (e.trans hp.symm)
      omega
    refine ⟨?_, ?_, ?_, ?_, ?_, ?_, ?_, ?_⟩
    · simp
      omega
    · rw [List.drop_append_of_le_length h]
      have hz := half_size po.1 i
      have h1 := ok_size (half_ok po.1 i false)
      have h2 := ok_size (half_ok po.1 i true)
      have e : K17.pot a (P.drop (n + 1) ++ [p ++ [false], p ++ [true]]) = K17.pot a (P.drop (n + 1)) + ((2 * ((reg a p).half false).size - 1) + (2 * ((reg a p).half true).size - 1)) := by
        unfold K17.pot
        simp [reg_snoc]
      rw [e]
      omega
    · intro q hq
      rcases List.mem_append.mp hq with z | z
      · exact g.way q z
      · simp only [List.mem_cons, List.not_mem_nil, or_false] at z
        rcases z with z | z <;> (rw [z]; exact way_snoc hw i)
    · rw [List.nodup_append]
      refine ⟨g.nd, ?_, ?_⟩
      · simp
      · intro x hx y hy e
        subst e
        simp only [List.mem_cons, List.not_mem_nil, or_false] at hy
        rcases hy with z | z <;> (rw [z] at hx; exact new _ hx)
    · rw [List.getElem?_append_left (by omega)]
      exact g.root
    · rw [e2, List.length_append, g.len]
      simp
      omega
    · intro q b m
      rcases List.mem_append.mp m with z | z
      · obtain ⟨j, hj, e⟩ := g.kid q b z
        exact ⟨j, Nat.lt_succ_of_lt hj, by rw [List.getElem?_append_left (Nat.lt_trans hj h)]; exact e⟩
      · simp only [List.mem_cons, List.not_mem_nil, or_false] at z
        refine ⟨n, Nat.lt_succ_self _, ?_⟩
        rw [List.getElem?_append_left h, hp]
        rcases z with z | z <;> rw [(snoc_ne z).1]
    · intro j q hj hq hi
      by_cases c : j < n
      · rw [List.getElem?_append_left (Nat.lt_trans c h)] at hq
        rw [cnt_app (by omega)]
        obtain ⟨k1, k2⟩ := g.kids j q c hq hi
        have l1 := (List.getElem?_eq_some_iff.mp k1).1
        have l2 := (List.getElem?_eq_some_iff.mp k2).1
        exact ⟨by rw [List.getElem?_append_left l1]; exact k1, by rw [List.getElem?_append_left l2]; exact k2⟩
      · have : j = n := by omega
        subst this
        rw [List.getElem?_append_left h, hp] at hq
        cases hq
        rw [e2]
        have l := g.len
        have i1 : 2 * (cnt a P j + 1) - 1 = P.length := by omega
        have i2 : 2 * (cnt a P j + 1) = P.length + 1 := by omega
        refine ⟨?_, ?_⟩
        · rw [i1, List.getElem?_append_right (Nat.le_refl _), Nat.sub_self]
          rfl
        · rw [i2, List.getElem?_append_right (by omega), show P.length + 1 - P.length = 1 by omega]
          rfl
  · rw [if_neg i]
    have e2 : cnt a P (n + 1) = cnt a P n := by
      rw [cnt_succ hp, if_neg i]
      rfl
    refine ⟨h, ?_, g.way, g.nd, g.root, by rw [e2]; exact g.len, fun q b m => ?_, fun j q hj hq hi => ?_⟩
    · have := one_of po.1 (by simpa using i)
      have e : (reg a p).size = 1 := by
        unfold size
        rw [this.1, this.2]
      rw [e] at g2
      omega
    · obtain ⟨j, hj, e⟩ := g.kid q b m
      exact ⟨j, Nat.lt_succ_of_lt hj, e⟩
    · by_cases c : j < n
      · exact g.kids j q c hq hi
      · have : j = n := by omega
        subst this
        rw [hp] at hq
        cases hq
        exact absurd hi i
theorem pot_zero {a : Ar} (o : a.ok) {P : List (List Bool)} (w : ∀ p ∈ P, Way a p) : P.length ≤ pot a P := by
  induction P with
  | nil => exact Nat.zero_le _
  | cons p P ih =>
    have h1 := ih fun q hq => w q (List.mem_cons_of_mem _ hq)
    have h2 := ok_size (way_ok o (w p List.mem_cons_self)).1
    have e : pot a (p :: P) = (2 * (reg a p).size - 1) + pot a P := rfl
    rw [e, List.length_cons]
    omega
/-- while it is shorter, another turn; at 2n - 1 turns it is whole -/
theorem Grown.lt_iff {a : Ar} (o : a.ok) {P : List (List Bool)} {n : Nat} (g : Grown a P n) : n < P.length ↔ n < 2 * a.size - 1 := by
  have h := g.pot
  have l := pot_zero o (P := P.drop n) fun p hp => g.way p (List.mem_of_mem_drop hp)
  rw [List.length_drop] at l
  have le := g.le
  constructor
  · intro z
    omega
  · intro z
    rcases Nat.lt_or_ge n P.length with c | c
    · exact c
    · have e : P.drop n = [] := List.drop_eq_nil_of_le c
      rw [e] at h
      have : K17.pot a [] = 0 := rfl
      omega
theorem Grown.at {a : Ar} (o : a.ok) : ∀ n, n ≤ 2 * a.size - 1 → Grown a (ways a n) n
  | 0, _ => Grown.zero o
  | n + 1, h => by
    have g := Grown.at o n (by omega)
    exact g.step o ((g.lt_iff o).mpr (by omega))
def many (a : Ar) : Nat := 2 * a.size - 1
def allW (a : Ar) : List (List Bool) := ways a (many a)
theorem allW_len {a : Ar} (o : a.ok) : (allW a).length = many a := by
  have g := Grown.at o (many a) (Nat.le_refl _)
  have h1 := g.le
  have h2 := g.lt_iff o
  unfold many at *
  unfold allW many
  omega
theorem ways_pre {a : Ar} (o : a.ok) {n : Nat} (h : n ≤ many a) : ∃ R, allW a = ways a n ++ R := by
  unfold allW
  suffices q : ∀ k, n + k ≤ many a → ∃ R, ways a (n + k) = ways a n ++ R by
    obtain ⟨R, e⟩ := q (many a - n) (by omega)
    exact ⟨R, by rw [← e]; congr 1; omega⟩
  intro k
  induction k with
  | zero => exact fun _ => ⟨[], by simp⟩
  | succ k ih =>
    intro hk
    obtain ⟨R, e⟩ := ih (by omega)
    show ∃ R, grow a (ways a (n + k)) (n + k) = _
    unfold grow
    split
    · split
      · exact ⟨R ++ _, by rw [e, List.append_assoc]⟩
      · exact ⟨R, e⟩
    · exact ⟨R, e⟩
end K17
namespace K17
open Ar
/-! ### means -/
def meanK (f : Nat → Nat → Int) : Nat → Ar → Int
  | 0, a => f a.t a.l
  | k + 1, a => if a.inn = true then (meanK f k (a.half false) + meanK f k (a.half true)) / 2 else f a.t a.l
theorem meanK_more (f : Nat → Nat → Int) : ∀ (k j : Nat) (a : Ar), a.ok → a.size ≤ k → a.size ≤ j → meanK f k a = meanK f j a
  | 0, _, a, o, h, _ => absurd (ok_size o) (by omega)
  | _, 0, a, o, _, h => absurd (ok_size o) (by omega)
  | k + 1, j + 1, a, o, h1, h2 => by
    unfold meanK
    by_cases i : a.inn = true
    · rw [if_pos i, if_pos i]
      have l0 := half_lt o i false
      have l1 := half_lt o i true
      rw [meanK_more f k j _ (half_ok o i false) (by omega) (by omega), meanK_more f k j _ (half_ok o i true) (by omega) (by omega)]
    · rw [if_neg i, if_neg i]
def mean (f : Nat → Nat → Int) (a : Ar) : Int := meanK f a.size a
theorem mean_in {f : Nat → Nat → Int} {a : Ar} (o : a.ok) (i : a.inn = true) : mean f a = (mean f (a.half false) + mean f (a.half true)) / 2 := by
  have s := ok_size o
  obtain ⟨k, e⟩ : ∃ k, a.size = k + 1 := ⟨a.size - 1, by omega⟩
  have l0 := half_lt o i false
  have l1 := half_lt o i true
  have z : mean f a = meanK f (k + 1) a := by unfold mean; rw [e]
  rw [z]
  show (if a.inn = true then _ else _) = _
  rw [if_pos i]
  unfold mean
  rw [meanK_more f k _ _ (half_ok o i false) (by omega) (Nat.le_refl _), meanK_more f k _ _ (half_ok o i true) (by omega) (Nat.le_refl _)]
theorem mean_one {f : Nat → Nat → Int} {a : Ar} (o : a.ok) (i : a.inn = false) : mean f a = f a.t a.l := by
  have s := ok_size o
  obtain ⟨k, e⟩ : ∃ k, a.size = k + 1 := ⟨a.size - 1, by omega⟩
  unfold mean
  rw [e]
  show (if a.inn = true then _ else _) = _
  rw [if_neg (by rw [i]; simp)]
/-- what holds of all areas within, from the small ones on -/
theorem area_ind {p : Ar → Prop} (h1 : ∀ a, a.ok → a.inn = false → p a) (h2 : ∀ a, a.ok → a.inn = true → p (a.half false) → p (a.half true) → p a) : ∀ a, a.ok → p a := by
  suffices q : ∀ k a, a.ok → a.size ≤ k → p a from fun a o => q a.size a o (Nat.le_refl _)
  intro k
  induction k with
  | zero => exact fun a o h => absurd (ok_size o) (by omega)
  | succ k ih =>
    intro a o h
    cases i : a.inn
    · exact h1 a o i
    · have l0 := half_lt o i false
      have l1 := half_lt o i true
      exact h2 a o i (ih _ (half_ok o i false) (by omega)) (ih _ (half_ok o i true) (by omega))
theorem mean_shift {f : Nat → Nat → Int} {k : Int} : ∀ a, a.ok → mean (fun y x => f y x + k) a = mean f a + k :=
  area_ind (fun a o i => by rw [mean_one o i, mean_one o i]) fun a o i x y => by
    rw [mean_in o i, mean_in o i, x, y]
    omega
/-- the spots of an area -/
def Spot (a : Ar) (y x : Nat) : Prop := a.t ≤ y ∧ y < a.t + a.h ∧ a.l ≤ x ∧ x < a.l + a.w
theorem spot_half {a : Ar} {b : Bool} {y x : Nat} (h : Spot (a.half b) y x) : Spot a y x := by
  have := half_in (a := a) b
  unfold Spot In at *
  omega
theorem mean_between {f : Nat → Nat → Int} {lo hi : Int} : ∀ a : Ar, a.ok → (∀ y x, Spot a y x → lo ≤ f y x ∧ f y x ≤ hi) → lo ≤ mean f a ∧ mean f a ≤ hi :=
  area_ind (fun a o i h => by
    rw [mean_one o i]
    exact h _ _ ⟨Nat.le_refl _, by have := o.1; omega, Nat.le_refl _, by have := o.2; omega⟩) fun a o i p q h => by
    rw [mean_in o i]
    have h1 := p fun y x s => h y x (spot_half s)
    have h2 := q fun y x s => h y x (spot_half s)
    omega
theorem mean_same {f : Nat → Nat → Int} {c : Int} {a : Ar} (o : a.ok) (h : ∀ y x, Spot a y x → f y x = c) : mean f a = c := by
  have := mean_between (f := f) (lo := c) (hi := c) a o fun y x s => by rw [h y x s]; omega
  omega
theorem mean_eq {f g : Nat → Nat → Int} : ∀ a : Ar, a.ok → (∀ y x, Spot a y x → f y x = g y x) → mean f a = mean g a :=
  area_ind (fun a o i h => by
    rw [mean_one o i, mean_one o i]
    exact h _ _ ⟨Nat.le_refl _, by have := o.1; omega, Nat.le_refl _, by have := o.2; omega⟩) fun a o i p q h => by
    rw [mean_in o i, mean_in o i, p fun y x s => h y x (spot_half s), q fun y x s => h y x (spot_half s)]
theorem spot_apart {a : Ar} (o : a.ok) (i : a.inn = true) {y x : Nat} (h1 : Spot (a.half false) y x) (h2 : Spot (a.half true) y x) : False := by
  have := half_apart (r := ⟨y, x, 1, 1⟩) (s := ⟨y, x, 1, 1⟩) o i ⟨Nat.le_refl _, Nat.le_refl _⟩ (by unfold Spot In at *; dsimp; omega) (by unfold Spot In at *; dsimp; omega)
  rcases this with z | z <;> exact z rfl
/-! the areas, each with its way -/
def root (h w : Nat) : Ar := ⟨0, 0, h, w⟩
def regs (a : Ar) (n : Nat) : List Ar := (ways a n).map (reg a)
def areasL (h w : Nat) : List Ar := (allW (root h w)).map (reg (root h w))
def innL (h w : Nat) : List Ar := (areasL h w).filter Ar.inn
def diff (f : Nat → Nat → Int) (a : Ar) : Int := mean f (a.half true) - mean f (a.half false)
def liftL (f : Nat → Nat → Int) (h w : Nat) : List Int := mean f (root h w) :: (innL h w).map (diff f)
section
variable {h w : Nat} (h1 : 1 ≤ h) (w1 : 1 ≤ w)
include h1 w1
theorem root_ok : (root h w).ok := ⟨h1, w1⟩
theorem areas_grown : Grown (root h w) (allW (root h w)) (many (root h w)) := Grown.at (root_ok h1 w1) _ (Nat.le_refl _)
theorem areas_len : (areasL h w).length = 2 * (h * w) - 1 := by
  unfold areasL
  rw [List.length_map, allW_len (root_ok h1 w1)]
  rfl
theorem areas_ok {a : Ar} (m : a ∈ areasL h w) : a.ok ∧ In a (root h w) := by
  obtain ⟨p, hp, rfl⟩ := List.mem_map.mp m
  have g := way_ok (root_ok h1 w1) ((areas_grown h1 w1).way p hp)
  exact ⟨g.1, g.2.1⟩
theorem areas_nodup : (areasL h w).Nodup := by
  unfold areasL
  have g := areas_grown h1 w1
  have o := root_ok h1 w1
  rw [List.Nodup, List.pairwise_map]
  exact List.Pairwise.imp_of_mem (fun {p q} hp hq n e => n (way_inj o (g.way p hp) (g.way q hq) e)) g.nd
theorem areas_inj {i j : Nat} {a : Ar} (hi : (areasL h w)[i]? = some a) (hj : (areasL h w)[j]? = some a) : i = j :=
  (List.getElem?_inj (List.getElem?_eq_some_iff.mp hi).1 (areas_nodup h1 w1)).mp (hi.trans hj.symm)
end
/-- how many of the first n areas are inner -/
def kth (h w n : Nat) : Nat := ((areasL h w).take n).countP Ar.inn
theorem kth_cnt (h w n : Nat) : kth h w n = cnt (root h w) (allW (root h w)) n := by
  unfold kth areasL cnt
  rw [← List.map_take, List.countP_map]
  rfl
theorem kth_succ {h w n : Nat} {a : Ar} (e : (areasL h w)[n]? = some a) : kth h w (n + 1) = kth h w n + (if a.inn = true then 1 else 0) := by
  unfold kth
  rw [List.take_add_one, e, List.countP_append]
  cases i : a.inn <;> simp [i]
theorem kth_inn {h w n : Nat} {a : Ar} (e : (areasL h w)[n]? = some a) (i : a.inn = true) : (innL h w)[kth h w n]? = some a := by
  unfold innL kth
  generalize areasL h w = L at e
  induction L generalizing n with
  | nil => simp at e
  | cons x L ih =>
    cases n with
    | zero =>
      simp at e
      subst e
      simp [i]
    | succ n =>
      have e : L[n]? = some a := by simpa using e
      have q := ih e
      rw [List.take_succ_cons, List.countP_cons, List.filter_cons]
      cases z : x.inn
      · simpa using q
      · simpa using q
section
variable {h w : Nat} (h1 : 1 ≤ h) (w1 : 1 ≤ w)
include h1 w1
theorem kth_all : 2 * kth h w (2 * (h * w) - 1) + 1 = 2 * (h * w) - 1 := by
  have g := (areas_grown h1 w1).len
  rw [allW_len (root_ok h1 w1)] at g
  rw [kth_cnt]
  have e : many (root h w) = 2 * (h * w) - 1 := rfl
  rw [e] at g
  omega
theorem inn_len : (innL h w).length = h * w - 1 := by
  have g := kth_all h1 w1
  have l := areas_len h1 w1
  have e : kth h w (2 * (h * w) - 1) = (innL h w).length := by
    unfold kth innL
    rw [← l, List.take_length, List.countP_eq_length_filter]
  have := Nat.mul_pos h1 w1
  omega
theorem kids_at {i : Nat} {a : Ar} (e : (areasL h w)[i]? = some a) (n : a.inn = true) : (areasL h w)[2 * kth h w (i + 1) - 1]? = some (a.half false) ∧ (areasL h w)[2 * kth h w (i + 1)]? = some (a.half true) ∧ i < 2 * kth h w (i + 1) - 1 := by
  have g := areas_grown h1 w1
  have li := (List.getElem?_eq_some_iff.mp e).1
  rw [areas_len h1 w1] at li
  unfold areasL at e
  rw [List.getElem?_map] at e
  cases hp : (allW (root h w))[i]? with
  | none => rw [hp] at e; cases e
  | some p =>
    rw [hp] at e
    have e : reg (root h w) p = a := Option.some.inj e
    rw [kth_cnt]
    obtain ⟨k1, k2⟩ := g.kids i p li hp (by rw [e]; exact n)
    refine ⟨?_, ?_, ?_⟩
    · unfold areasL
      rw [List.getElem?_map, k1]
      show some (reg _ (p ++ [false])) = _
      rw [reg_snoc, e]
    · unfold areasL
      rw [List.getElem?_map, k2]
      show some (reg _ (p ++ [true])) = _
      rw [reg_snoc, e]
    · -- the list was longer than i when it grew
      have li' : i ≤ 2 * (root h w).size - 1 := Nat.le_of_lt li
      have gi := Grown.at (root_ok h1 w1) i li'
      have lt := (gi.lt_iff (root_ok h1 w1)).mpr li
      obtain ⟨R, eR⟩ := ways_pre (root_ok h1 w1) (n := i) li'
      have ec : cnt (root h w) (allW (root h w)) (i + 1) = cnt (root h w) (ways (root h w) i) i + 1 := by
        rw [cnt_succ hp, if_pos (by rw [e]; exact n), eR, cnt_app gi.le]
      have gl := gi.len
      rw [ec]
      omega
/-- each area but the whole one is the half of one ahead -/
theorem par_at {j : Nat} {b : Ar} (e : (areasL h w)[j]? = some b) (j0 : 0 < j) : ∃ i a c, i < j ∧ (areasL h w)[i]? = some a ∧ a.inn = true ∧ b = a.half c ∧ j = (if c then 2 * kth h w (i + 1) else 2 * kth h w (i + 1) - 1) := by
  have g := areas_grown h1 w1
  have o := root_ok h1 w1
  have e0 := e
  unfold areasL at e
  rw [List.getElem?_map] at e
  cases hp : (allW (root h w))[j]? with
  | none => rw [hp] at e; cases e
  | some p =>
    rw [hp] at e
    have e : reg (root h w) p = b := Option.some.inj e
    rcases List.eq_nil_or_concat p with z | ⟨q, c, z⟩
    · subst z
      have := (List.getElem?_inj (List.getElem?_eq_some_iff.mp hp).1 g.nd).mp (hp.trans g.root.symm)
      omega
    · rw [List.concat_eq_append] at z
      subst z
      obtain ⟨i, hi, eq⟩ := g.kid q c (List.mem_of_getElem? hp)
      have ea : (areasL h w)[i]? = some (reg (root h w) q) := by
        unfold areasL
        rw [List.getElem?_map, eq]
        rfl
      have wy := g.way _ (List.mem_of_getElem? hp)
      have inn : (reg (root h w) q).inn = true := by
        have : ∀ (q : List Bool) (a : Ar), Way a (q ++ [c]) → (reg a q).inn = true := fun q => by
          induction q with
          | nil => exact fun a y => y.1
          | cons d q ih => exact fun a y => ih _ y.2
        exact this q _ wy
      obtain ⟨k1, k2, k3⟩ := kids_at h1 w1 ea inn
      have eb : b = (reg (root h w) q).half c := by rw [← e, reg_snoc]
      cases c
      · have := areas_inj h1 w1 e0 (eb ▸ k1)
        exact ⟨i, _, false, by omega, ea, inn, eb, by simpa using this⟩
      · have := areas_inj h1 w1 e0 (eb ▸ k2)
        exact ⟨i, _, true, by omega, ea, inn, eb, by simpa using this⟩
/-- each spot is an area of its own -/
theorem leaf_at {y x : Nat} (hy : y < h) (hx : x < w) : (⟨y, x, 1, 1⟩ : Ar) ∈ areasL h w := by
  suffices q : ∀ a, a.ok → a ∈ areasL h w → Spot a y x → (⟨y, x, 1, 1⟩ : Ar) ∈ areasL h w by
    refine q (root h w) (root_ok h1 w1) ?_ ⟨Nat.zero_le _, by show y < 0 + h; omega, Nat.zero_le _, by show x < 0 + w; omega⟩
    unfold areasL
    exact List.mem_map.mpr ⟨[], List.mem_of_getElem? (areas_grown h1 w1).root, rfl⟩
  refine area_ind (fun a o i m s => ?_) fun a o i p q m s => ?_
  · obtain ⟨e1, e2⟩ := one_of o i
    unfold Spot at s
    have : a = ⟨y, x, 1, 1⟩ := by
      cases a
      simp only at *
      congr 1 <;> omega
    rw [← this]
    exact m
  · obtain ⟨n, hn⟩ := List.getElem?_of_mem m
    obtain ⟨k1, k2, _⟩ := kids_at h1 w1 hn i
    obtain ⟨b, hb⟩ := half_cover (a := a) s
    cases b
    · exact p (List.mem_of_getElem? k1) hb
    · exact q (List.mem_of_getElem? k2) hb
end
/-! ### back again -/
/-- the means of the areas that are listed when n of them are done -/
def upL (h w : Nat) (m g : Nat → Int) : Nat → List Int
  | 0 => [m 0]
  | n + 1 => match (areasL h w)[n]? with
    | some a => if a.inn = true then upL h w m g n ++ [(upL h w m g n).getD n 0 - g (kth h w (n + 1)) / 2, (upL h w m g n).getD n 0 + m (kth h w (n + 1)) - m (kth h w (n + 1)) / 2] else upL h w m g n
    | none => upL h w m g n
theorem kth_zero (h w : Nat) : kth h w 0 = 0 := rfl
theorem upL_len {h w : Nat} {m g : Nat → Int} : ∀ n, n ≤ (areasL h w).length → (upL h w m g n).length = 1 + 2 * kth h w n
  | 0, _ => rfl
  | n + 1, l => by
    obtain ⟨a, e⟩ : ∃ a, (areasL h w)[n]? = some a := ⟨_, List.getElem?_eq_getElem l⟩
    have ih := upL_len (h := h) (w := w) (m := m) (g := g) n (Nat.le_of_succ_le l)
    rw [kth_succ e]
    have u : upL h w m g (n + 1) = if a.inn = true then upL h w m g n ++ [(upL h w m g n).getD n 0 - g (kth h w (n + 1)) / 2, (upL h w m g n).getD n 0 + m (kth h w (n + 1)) - m (kth h w (n + 1)) / 2] else upL h w m g n := by
      show (match (areasL h w)[n]? with | some a => _ | none => _ : List Int) = _
      rw [e]
    rw [u]
    by_cases i : a.inn = true
    · rw [if_pos i, if_pos i, List.length_append, ih]
      simp only [List.length_cons, List.length_nil]
      omega
    · rw [if_neg i, if_neg i, ih]
      omega
theorem upL_pre {h w : Nat} {m g : Nat → Int} (n : Nat) : ∀ k, ∃ R, upL h w m g (n + k) = upL h w m g n ++ R
  | 0 => ⟨[], by simp⟩
  | k + 1 => by
    obtain ⟨R, e⟩ := upL_pre (h := h) (w := w) (m := m) (g := g) n k
    have s : ∃ S, upL h w m g (n + k + 1) = upL h w m g (n + k) ++ S := by
      show ∃ S, (match (areasL h w)[n + k]? with | some a => _ | none => _ : List Int) = _
      split
      · split
        · exact ⟨_, rfl⟩
        · exact ⟨[], by simp⟩
      · exact ⟨[], by simp⟩
    obtain ⟨S, s⟩ := s
    exact ⟨R ++ S, by rw [← Nat.add_assoc, s, e, List.append_assoc]⟩
theorem upL_get {h w : Nat} {m g : Nat → Int} {n N j : Nat} {x : Int} (l : n ≤ N) (e : (upL h w m g n)[j]? = some x) : (upL h w m g N)[j]? = some x := by
  obtain ⟨R, q⟩ := upL_pre (h := h) (w := w) (m := m) (g := g) n (N - n)
  rw [show n + (N - n) = N by omega] at q
  rw [q, List.getElem?_append_left (List.getElem?_eq_some_iff.mp e).1]
  exact e
section
variable {h w : Nat} (h1 : 1 ≤ h) (w1 : 1 ≤ w) (m g : Nat → Int)
/-- all means, from the lifted numbers m -/
def up (h w : Nat) (m g : Nat → Int) : List Int := upL h w m g (2 * (h * w) - 1)
include h1 w1
theorem up_len : (up h w m g).length = 2 * (h * w) - 1 := by
  unfold up
  rw [upL_len _ (by rw [areas_len h1 w1]; exact Nat.le_refl _)]
  have := kth_all h1 w1
  omega
/-- the turn of the area at i -/
theorem upL_lt {i : Nat} (li : i < 2 * (h * w) - 1) : i < (upL h w m g i).length := by
  rw [upL_len _ (by rw [areas_len h1 w1]; omega)]
  rcases Nat.eq_zero_or_pos i with z | z
  · omega
  · have la : i < (areasL h w).length := by rw [areas_len h1 w1]; exact li
    obtain ⟨j, a, c, hj, e, n, _, ej⟩ := par_at h1 w1 (List.getElem?_eq_getElem la) z
    have hm : kth h w (j + 1) ≤ kth h w i := by
      unfold kth
      exact List.Sublist.countP_le (List.take_sublist_take_left hj)
    cases c
    · have : i = 2 * kth h w (j + 1) - 1 := by simpa using ej
      omega
    · have : i = 2 * kth h w (j + 1) := by simpa using ej
      omega
theorem up_kids {i : Nat} {a : Ar} (e : (areasL h w)[i]? = some a) (n : a.inn = true) {x : Int} (hx : (up h w m g)[i]? = some x) :
    (up h w m g)[2 * kth h w (i + 1) - 1]? = some (x - g (kth h w (i + 1)) / 2) ∧ (up h w m g)[2 * kth h w (i + 1)]? = some (x + m (kth h w (i + 1)) - m (kth h w (i + 1)) / 2) := by
  have li := (List.getElem?_eq_some_iff.mp e).1
  rw [areas_len h1 w1] at li
  have ll := upL_lt h1 w1 m g li
  have ex : (upL h w m g i).getD i 0 = x := by
    rw [List.getD_eq_getElem?_getD, List.getElem?_eq_getElem ll, Option.getD_some]
    have := upL_get (N := 2 * (h * w) - 1) (Nat.le_of_lt li) (List.getElem?_eq_getElem ll)
    exact Option.some.inj (this.symm.trans hx)
  have u : upL h w m g (i + 1) = upL h w m g i ++ [x - g (kth h w (i + 1)) / 2, x + m (kth h w (i + 1)) - m (kth h w (i + 1)) / 2] := by
    show (match (areasL h w)[i]? with | some a => _ | none => _ : List Int) = _
    rw [e]
    dsimp only
    rw [if_pos n, ex]
  have len := upL_len (h := h) (w := w) (m := m) (g := g) i (by rw [areas_len h1 w1]; omega)
  have ks := kth_succ e
  rw [if_pos n] at ks
  have i1 : 2 * kth h w (i + 1) - 1 = (upL h w m g i).length := by omega
  have i2 : 2 * kth h w (i + 1) = (upL h w m g i).length + 1 := by omega
  refine ⟨upL_get (n := i + 1) li ?_, upL_get (n := i + 1) li ?_⟩
  · rw [u, i1, List.getElem?_append_right (Nat.le_refl _), Nat.sub_self]
    rfl
  · rw [u, i2, List.getElem?_append_right (by omega), show (upL h w m g i).length + 1 - (upL h w m g i).length = 1 by omega]
    rfl
theorem up_root : (up h w m g)[0]? = some (m 0) := upL_get (n := 0) (Nat.zero_le _) rfl
end
def numAt (ns : List Int) (k : Nat) : Int := ns.getD k 0
def fOf (ns : List Int) (w : Nat) : Nat → Nat → Int := fun y x => ns.getD (y * w + x) 0
/-- the number at a spot, from the means -/
def cellV (h w : Nat) (u : List Int) (y x : Nat) : Int := u.getD ((areasL h w).idxOf ⟨y, x, 1, 1⟩) 0
def downL (h w : Nat) (m g : Nat → Int) : List Int := (List.range (h * w)).map fun j => cellV h w (up h w m g) (j / w) (j % w)
section
variable {h w : Nat} (h1 : 1 ≤ h) (w1 : 1 ≤ w)
include h1 w1
theorem root_at : (areasL h w)[0]? = some (root h w) := by
  unfold areasL
  rw [List.getElem?_map, (areas_grown h1 w1).root]
  rfl
theorem lift_at {f : Nat → Nat → Int} {i : Nat} {a : Ar} (e : (areasL h w)[i]? = some a) (n : a.inn = true) : (liftL f h w).getD (kth h w (i + 1)) 0 = diff f a := by
  have ks := kth_succ e
  rw [if_pos n] at ks
  rw [ks, List.getD_eq_getElem?_getD]
  show (((innL h w).map (diff f))[kth h w i]?).getD 0 = _
  rw [List.getElem?_map, kth_inn e n]
  rfl
theorem liftL_len {f : Nat → Nat → Int} : (liftL f h w).length = h * w := by
  have := inn_len h1 w1
  have := Nat.mul_pos h1 w1
  show ((innL h w).map (diff f)).length + 1 = _
  rw [List.length_map]
  omega
/-- lifted and taken back: the means -/
theorem up_lift {f : Nat → Nat → Int} : ∀ (j : Nat) (a : Ar), (areasL h w)[j]? = some a → (up h w (numAt (liftL f h w)) (numAt (liftL f h w)))[j]? = some (mean f a) := by
  intro j
  induction j using Nat.strongRecOn with
  | _ j ih =>
    intro b e
    rcases Nat.eq_zero_or_pos j with z | z
    · subst z
      rw [root_at h1 w1] at e
      cases e
      exact up_root h1 w1 _ _
    · obtain ⟨i, a, c, hi, ea, n, rfl, ej⟩ := par_at h1 w1 e z
      obtain ⟨k1, k2⟩ := up_kids h1 w1 _ _ ea n (ih i hi a ea)
      have d : numAt (liftL f h w) (kth h w (i + 1)) = diff f a := lift_at h1 w1 ea n
      rw [d] at k1 k2
      have mi := mean_in (f := f) (areas_ok h1 w1 (List.mem_of_getElem? ea)).1 n
      unfold diff at k1 k2
      cases c
      · have ej : j = 2 * kth h w (i + 1) - 1 := by simpa using ej
        rw [ej, k1]
        congr 1
        omega
      · have ej : j = 2 * kth h w (i + 1) := by simpa using ej
        rw [ej, k2]
        congr 1
        omega
theorem idx_at {j : Nat} {a : Ar} (e : (areasL h w)[j]? = some a) : (areasL h w).idxOf a = j := by
  have m := List.mem_of_getElem? e
  have l := List.idxOf_lt_length_iff.mpr m
  refine areas_inj h1 w1 (a := a) ?_ e
  rw [List.getElem?_eq_getElem l, List.getElem_idxOf]
theorem cell_lift {f : Nat → Nat → Int} {y x : Nat} (hy : y < h) (hx : x < w) : cellV h w (up h w (numAt (liftL f h w)) (numAt (liftL f h w))) y x = f y x := by
  obtain ⟨j, e⟩ := List.getElem?_of_mem (leaf_at h1 w1 hy hx)
  have q := up_lift h1 w1 (f := f) j _ e
  unfold cellV
  rw [idx_at h1 w1 e, List.getD_eq_getElem?_getD, q, Option.getD_some]
  exact mean_one ⟨Nat.le_refl _, Nat.le_refl _⟩ rfl
/-- taken back and lifted: the means -/
theorem mean_up {m : Nat → Int} : ∀ a : Ar, a.ok → ∀ j : Nat, (areasL h w)[j]? = some a → (up h w m m)[j]? = some (mean (cellV h w (up h w m m)) a) := by
  refine area_ind (fun a o i j e => ?_) fun a o i p q j e => ?_
  · obtain ⟨e1, e2⟩ := one_of o i
    rw [mean_one o i]
    have ea : a = ⟨a.t, a.l, 1, 1⟩ := by
      cases a
      simp only at *
      congr 1
    unfold cellV
    have l : j < (up h w m m).length := by
      rw [up_len h1 w1, ← areas_len h1 w1]
      exact (List.getElem?_eq_some_iff.mp e).1
    rw [← ea, idx_at h1 w1 e, List.getD_eq_getElem?_getD, List.getElem?_eq_getElem l, Option.getD_some]
  · have l : j < (up h w m m).length := by
      rw [up_len h1 w1, ← areas_len h1 w1]
      exact (List.getElem?_eq_some_iff.mp e).1
    obtain ⟨k1, k2, _⟩ := kids_at h1 w1 e i
    obtain ⟨u1, u2⟩ := up_kids h1 w1 m m e i (List.getElem?_eq_getElem l)
    have p1 := Option.some.inj ((p _ k1).symm.trans u1)
    have p2 := Option.some.inj ((q _ k2).symm.trans u2)
    rw [List.getElem?_eq_getElem l, mean_in o i, p1, p2]
    congr 1
    omega
theorem diff_up {m : Nat → Int} {j : Nat} {a : Ar} (e : (areasL h w)[j]? = some a) (i : a.inn = true) : diff (cellV h w (up h w m m)) a = m (kth h w (j + 1)) := by
  have l : j < (up h w m m).length := by
    rw [up_len h1 w1, ← areas_len h1 w1]
    exact (List.getElem?_eq_some_iff.mp e).1
  have o := (areas_ok h1 w1 (List.mem_of_getElem? e)).1
  obtain ⟨k1, k2, _⟩ := kids_at h1 w1 e i
  obtain ⟨u1, u2⟩ := up_kids h1 w1 m m e i (List.getElem?_eq_getElem l)
  have p1 := Option.some.inj ((mean_up h1 w1 _ (half_ok o i false) _ k1).symm.trans u1)
  have p2 := Option.some.inj ((mean_up h1 w1 _ (half_ok o i true) _ k2).symm.trans u2)
  unfold diff
  rw [p1, p2]
  omega
end
end K17
namespace KY
open PySem PySem.Spec PyProof.Rows L2 PySem.W LamX KA KW
/-! ### x == y, x != y, where x is an instance whose class writes __eq__ and no __ne__ -/
section
variable {X : Cx} {CX : CXT} {n : Nat} {C f : Addr} {fd : FuncData} {ps : List Str} {sp : Sp} {E : XK}
theorem own_call {A : Around} {pins : List (Addr × Obj)} {σ : L2.St} {H : Hp} {s : Shared} {x y : V} {v u : Value} {R : Bool → Hp → Prop} (sb : L2.Sub X n A) (F : FnOk X.prog X.w X.K X.mg X.base CX n f fd ps sp) (hb : Binds X.K fd ps []) (hx : Passes CX X E)
    (I : Inv X pins σ H s) (rx : RelV x v) (ry : RelV y u) (hsp : sp [x, y] H (fun v H' => ∃ b, v = .bl b ∧ R b H') E) :
    wpAny (model X.prog X.w) A (call (.ref f) [v, u]) (fun r s' => ∃ b, r = .bool b ∧ ∃ H', Inv X pins σ H' s' ∧ R b H') X.xe s := by
  have e0 : Env0 X.prog X.w X.K X.mg X.base A X.stack s H := by
    have e := I.env0
    exact ⟨by rw [sb.fr]; exact e.frames, e.mod, e.bs, e.bsz, e.funs, e.frf, e.hok, e.bare⟩
  have hl := F.len _ _ _ _ hsp
  have r2 : L2.Vals [x, y] [v, u] := .cons rx (.cons ry .nil)
  refine wpAny_call (codeAny_mono (F.run A X.stack s H ⟨[v, u], []⟩ [v, u] [x, y] _ E sb.room e0 (by
    have := hb s [v, u] I.kIn (by simpa using hl)
    simpa using this) r2 hsp) fun r s' hq => ?_)
  cases r with
  | error e => exact hx pins σ H s e s' I hq
  | ok fl =>
    cases fl with
    | ret w =>
      obtain ⟨z, H', I', rz, b, ez, ex⟩ := I.after hq
      subst ez
      cases rz
      exact ⟨b, rfl, H', I', ex⟩
    | next => exact False.elim hq
    | brk => exact False.elim hq
    | cont => exact False.elim hq
def rEqI (K : PySem.W.Frag) (C : Addr) (sp : Sp) (E : XK) (g : Bool → Bool) : R2 := fun x y H Q => ∃ a dx fs tb, x = .ref a ∧ H a = some (.ins C dx fs) ∧ TyX K H y tb ∧ PySem.W.notFirst K C tb = true ∧ sp [x, y] H (fun v H' => ∃ b, v = .bl b ∧ Q (.bl (g b)) H') E
theorem op_eqI (F : FnOk X.prog X.w X.K X.mg X.base CX n f fd ps sp) (hr : Room n X.A) (hs : PySem.W.findIn X.K (.ref C) "__eq__" = some (some (.ref f))) (hf : PySem.W.isFn X.K (.ref f) = true) (hb : Binds X.K fd ps []) (hx : Passes CX X E) :
    OpR X (compareOp .Eq) (rEqI X.K C sp E fun b => b) := by
  intro pins s σ H x y v u Q I rx ry h
  obtain ⟨a, dx, fs, tb, rfl, ha, ty, nf, hsp⟩ := h
  cases rx
  obtain ⟨mA, J, _⟩ := ins_get I.hok ha
  obtain ⟨od, J, _⟩ := J.look
  obtain ⟨Pk, Z, pk, _⟩ := kit_of I ry ty
  obtain ⟨m, hF⟩ := I.fr
  show wpAny (model X.prog X.w) X.A (richCompare .Eq (.ref a) u) (EP X pins σ Q) X.xe s
  refine PySem.W.cmp_K (op := .Eq) hr.units0 hF I.ok.mod.kin J (Z.ty _ _ I.kIn pk) nf hs hf ?_
  refine wpAny_mono (own_call ⟨hr, rfl⟩ F hb hx I (x := .ref a) (show L2.RelV (.ref a) (.ref a) from rfl) ry hsp) (fun r s' hq => ?_) fun _ _ e => e
  obtain ⟨b, rfl, H', I', q⟩ := hq
  exact ⟨.bl b, H', I', rfl, q⟩
section
variable {M : Model} {prog : Program} {w : World} {A : Around} {E' : Value → Shared → Prop} {s : Shared} {K : PySem.W.Frag} {x : Addr} {ox : Obj} {od : Option Obj}
theorem ifBound_objNe {args : List Value} {Q : Option Value → Shared → Prop} (X : K.In s.heap) (I : PySem.W.InstAt s.heap x ox C od) (hs : PySem.W.findIn K (.ref C) "__ne__" = some (some (.builtin "object.__ne__")))
    (h : wpAny M A (call (.builtin "object.__ne__") (.ref x :: args)) (fun v => Q (some v)) E' s) : wpAny M A (callSpecialIfBound? (.ref x) "__ne__" args) Q E' s := by
  simp only [callSpecialIfBound?, bindSpecialIfBound?]
  refine wpAny_holding (wpAny_bind (wpAny_bind (wpAny_bind (I.type.here ((PySem.W.looks_findIn X hs).here ?_)))))
  refine wpAny_bind (wpAny_askSetting (wpAny_ite ?_))
  have fin : wpAny M A (call (.builtin "object.__ne__") ([.ref x] ++ args) >>= fun v => pure (some v)) Q E' s := wpAny_bind (wpAny_mono h (fun v s' h' => wpAny_pure h') fun _ _ h' => h')
  split
  · exact wpAny_bind (wpAny_of_eq (F.cmp_object.ne.bind _) (wpAny_pure (by exact fin)))
  · exact wpAny_tryCatch (wpAny_bind (wpAny_of_eq (F.cmp_object.ne.bind _) (wpAny_pure (by exact fin))))
theorem entry_ne {y : Value} {Q : Fin → Shared → Prop} (hu : A.units < cLine) (X : K.In s.heap) (I : PySem.W.InstAt s.heap x ox C od) (hs : PySem.W.findIn K (.ref C) "__eq__" = some (some (.ref f))) (hf : PySem.W.isFn K (.ref f) = true)
    (hcall : wpAny (model prog w) A (call (.ref f) [.ref x, y]) (fun v s' => ∃ b, v = .bool b ∧ Q (.done (.ret (.bool (!b)))) s') E' s) :
    wpAny (model prog w) A (Builtin.«object.__ne__» ⟨[.ref x, y], []⟩) Q E' s := by
  unfold Builtin.«object.__ne__»
  repeat (first
    | with_reducible refine wpAny_cRoomFor hu ?_
    | (refine wpAny_bind (m := callSpecialIfBound? (.ref x) (Str.ofString "__eq__") [y])
        (PySem.W.ifBound_K X I hs hf (wpAny_mono hcall (fun r s' hr => by
          obtain ⟨b, rfl, hq⟩ := hr
          repeat (first | exact hq | exact wpAny_pure hq | exact wpAny_truthy_bool hq | (refine wpAny_bind (m := truthy (.bool _)) (wpAny_truthy_bool ?_)) | wp_step)) fun _ _ e => e)))
    | wp_step)
theorem ne_K {L : Addr} {h₀ : Heap} {m : Str → Option Value} {b tb : Value} {Q : Value → Shared → Prop} (hu : A.units + 1 < cLine) (hF : Fr h₀ L s.heap m) (X₀ : K.In h₀) (I : PySem.W.InstAt s.heap x ox C od) (hb : PySem.W.Looks (model prog w) s.heap (typeOf b) tb) (hn : PySem.W.notFirst K C tb = true)
    (hne : PySem.W.findIn K (.ref C) "__ne__" = some (some (.builtin "object.__ne__"))) (hm : PySem.W.mroIn K C (.type "object") = some true) (hs : PySem.W.findIn K (.ref C) "__eq__" = some (some (.ref f))) (hf : PySem.W.isFn K (.ref f) = true)
    (h : wpAny (model prog w) A.in1 (call (.ref f) [.ref x, b]) (fun v s' => ∃ c, v = .bool c ∧ Q (.bool (!c)) s') E' s) : wpAny (model prog w) A (richCompare .NotEq (.ref x) b) Q E' s := by
  have X := X₀.keeps hF.keep
  have one : wpAny (model prog w) A (tryCompare (.ref x) "__ne__" b) (fun r s' => ∃ v, r = some v ∧ Q v s') E' s := by
    unfold tryCompare
    refine wpAny_bind (ifBound_objNe X I hne ?_)
    refine wpAny_call (codeAny_call_builtin F.cmp_object.ne.plain F.cmpEntry_ne (PySem.W.check_slot F.cmpKind_ne F.cmpSplit_ne (I.type.andThen (PySem.W.looks_mroIn X hm)) (F.cmpArgs_ne _ _) (entry_ne (A := A.in1) (by show A.units + 1 < cLine; exact hu) X I hs hf (wpAny_mono h (fun r s' hr => ?_) fun _ _ e => e))))
    obtain ⟨c, rfl, q⟩ := hr
    refine ⟨c, rfl, ?_⟩
    first
      | exact wpAny_pure ⟨_, rfl, q⟩
      | exact ⟨_, rfl, q⟩
  unfold richCompare
  simp only [oneThing_ref]
  refine wpAny_holding (wpAny_bind (wpAny_cRoomFor (by omega) ?_))
  refine wpAny_bind (I.type.here (wpAny_bind (hb.here ?_)))
  split
  · rename_i q
    have e : subIn K tb (.ref C) = some false := by
      rcases Bool.or_eq_true_iff.mp hn with e | e
      · rw [beq_iff_eq.mp e] at q; simp at q
      · exact beq_iff_eq.mp e
    refine wpAny_bind ((looks_subIn X e).here ?_)
    simp only [Bool.false_eq_true, if_false]
    refine wpAny_bind (wpAny_mono one (fun r s' z => ?_) fun _ _ e => e)
    obtain ⟨v, rfl, hq⟩ := z
    exact wpAny_pure hq
  · refine wpAny_bind (wpAny_pure ?_)
    simp only [Bool.false_eq_true, if_false]
    refine wpAny_bind (wpAny_mono one (fun r s' z => ?_) fun _ _ e => e)
    obtain ⟨v, rfl, hq⟩ := z
    exact wpAny_pure hq
end
theorem op_neI (F : FnOk X.prog X.w X.K X.mg X.base CX n f fd ps sp) (hr : Room (n + 1) X.A) (hs : PySem.W.findIn X.K (.ref C) "__eq__" = some (some (.ref f))) (hne : PySem.W.findIn X.K (.ref C) "__ne__" = some (some (.builtin "object.__ne__"))) (hm : PySem.W.mroIn X.K C (.type "object") = some true)
    (hf : PySem.W.isFn X.K (.ref f) = true) (hb : Binds X.K fd ps []) (hx : Passes CX X E) :
    OpR X (compareOp .NotEq) (rEqI X.K C sp E fun b => !b) := by
  intro pins s σ H x y v u Q I rx ry h
  obtain ⟨a, dx, fs, tb, rfl, ha, ty, nf, hsp⟩ := h
  cases rx
  obtain ⟨mA, J, _⟩ := ins_get I.hok ha
  obtain ⟨od, J, _⟩ := J.look
  obtain ⟨Pk, Z, pk, _⟩ := kit_of I ry ty
  obtain ⟨m, hF⟩ := I.fr
  show wpAny (model X.prog X.w) X.A (richCompare .NotEq (.ref a) u) (EP X pins σ Q) X.xe s
  have hu : X.A.units + 1 < cLine := by
    have := hr.units
    omega
  refine ne_K hu hF I.ok.mod.kin J (Z.ty _ _ I.kIn pk) nf hne hm hs hf ?_
  refine wpAny_mono (own_call (L2.Sub.in1 ⟨hr, rfl⟩) F hb hx I (x := .ref a) (show L2.RelV (.ref a) (.ref a) from rfl) ry hsp) (fun r s' hq => ?_) fun _ _ e => e
  obtain ⟨b, rfl, H', I', q⟩ := hq
  exact ⟨b, rfl, .bl (!b), H', I', rfl, q⟩
end
end KY
namespace K17
open PySem PySem.Spec PyProof.Rows L2 PySem.W LamX KA KW KU KL KT
open Evl (pss_cut tCut)
/-! ### areas as values -/
def arV (a : Ar) : List V := [.int a.t, .int a.l, .int a.h, .int a.w]
inductive AL (H : Hp) : List V → List Ar → Prop
  | nil : AL H [] []
  | cons {p : Addr} {a : Ar} {vs : List V} {as : List Ar} (e : H p = some (.tup (arV a))) (r : AL H vs as) : AL H (.ref p :: vs) (a :: as)
theorem AL.mono {H H' : Hp} {vs : List V} {as : List Ar} (p : AL H vs as) (k : ∀ b o, H b = some o → (∀ xs, o ≠ .lst xs) → H' b = some o) : AL H' vs as := by
  induction p with
  | nil => exact .nil
  | cons e _ ih => exact .cons (k _ _ e (fun xs z => by cases z)) ih
theorem AL.same {H H' : Hp} {vs : List V} {as : List Ar} (p : AL H vs as) (s : Same H H') : AL H' vs as := p.mono fun b o e _ => s b o e
theorem AL.put {H : Hp} {vs xs : List V} {as : List Ar} {D : Addr} {o : HO} (p : AL H vs as) (h : H D = some (.lst xs)) : AL (upd H D o) vs as := p.mono fun b o' e n => by
  rw [upd_ne (fun z => by rw [z, h] at e; exact n _ (Option.some.inj e).symm)]
  exact e
theorem AL.append {H : Hp} {vs us : List V} {as bs : List Ar} (p : AL H vs as) (q : AL H us bs) : AL H (vs ++ us) (as ++ bs) := by
  induction p with
  | nil => exact q
  | cons e _ ih => exact .cons e ih
theorem AL.len {H : Hp} {vs : List V} {as : List Ar} (p : AL H vs as) : vs.length = as.length := by
  induction p with
  | nil => rfl
  | cons _ _ ih => simp [ih]
theorem AL.at_ {H : Hp} {vs : List V} {as : List Ar} (p : AL H vs as) : ∀ {i : Nat} {a : Ar}, as[i]? = some a → ∃ q, vs[i]? = some (.ref q) ∧ H q = some (.tup (arV a)) := by
  induction p with
  | nil => intro i a h; simp at h
  | @cons q b vs as e r ih =>
    intro i a h
    cases i with
    | zero =>
      simp at h
      subst h
      exact ⟨q, rfl, e⟩
    | succ i => exact ih (by simpa using h)
theorem AL.get {H : Hp} {vs : List V} {as : List Ar} (p : AL H vs as) : ∀ {i : Nat} {v : V}, vs[i]? = some v → ∃ q a, v = .ref q ∧ as[i]? = some a ∧ H q = some (.tup (arV a)) := by
  induction p with
  | nil => intro i a h; simp at h
  | @cons q b vs as e r ih =>
    intro i v h
    cases i with
    | zero =>
      simp at h
      exact ⟨q, b, h.symm, rfl, e⟩
    | succ i => exact ih (by simpa using h)
theorem AL.rev {H : Hp} {vs : List V} {as : List Ar} (p : AL H vs as) : AL H vs.reverse as.reverse := by
  induction p with
  | nil => exact .nil
  | cons e _ ih =>
    rw [List.reverse_cons, List.reverse_cons]
    exact ih.append (.cons e .nil)
theorem ite_false {A B : Prop} {b : Bool} (h : b = false) (k : B) : if b = true then A else B := by
  rw [h, if_neg Bool.false_ne_true]
  exact k
theorem ite_true {A B : Prop} {b : Bool} (h : b = true) (k : A) : if b = true then A else B := by
  rw [h, if_pos rfl]
  exact k
/-- a number small enough to count with -/
structure Lit (a : Ar) : Prop where
  o : a.ok
  i : In a ⟨0, 0, 16, 16⟩
theorem Lit.bd {a : Ar} (h : Lit a) : a.t ≤ 16 ∧ a.l ≤ 16 ∧ a.h ≤ 16 ∧ a.w ≤ 16 := by
  obtain ⟨_, i⟩ := h
  unfold In at i
  dsimp at i
  omega
theorem Lit.half {a : Ar} (h : Lit a) (i : a.inn = true) (b : Bool) : Lit (a.half b) := ⟨half_ok h.o i b, (half_in b).trans h.i⟩
theorem lit_root {h w : Nat} (h1 : 1 ≤ h) (h2 : h ≤ 16) (w1 : 1 ≤ w) (w2 : w ≤ 16) : Lit (root h w) := ⟨⟨h1, w1⟩, by unfold In root; dsimp; omega⟩
theorem lit_areas {h w : Nat} (h1 : 1 ≤ h) (h2 : h ≤ 16) (w1 : 1 ≤ w) (w2 : w ≤ 16) {a : Ar} (m : a ∈ areasL h w) : Lit a := by
  have q := areas_ok h1 w1 m
  exact ⟨q.1, q.2.trans (lit_root h1 h2 w1 w2).i⟩
theorem inn_int (a : Ar) : a.inn = decide ((1 : Int) < (a.h : Int) * (a.w : Int)) := by
  unfold Ar.inn
  exact decide_eq_decide.mpr (by rw [← Int.natCast_mul]; omega)
def spCheckSize (K : PySem.W.Frag) (C : Addr) : Sp := fun vs H Q E => ∃ x bx y «by», vs = [x, y] ∧ Pl K H x bx ∧ Pl K H y «by» ∧ ((within x 1 16 && within y 1 16) = true → Q .non H) ∧ ((within x 1 16 && within y 1 16) = false → E (.ref C) none H)
def spInner : Sp := fun vs H Q _ => ∃ p a, vs = [.ref p] ∧ H p = some (.tup (arV a)) ∧ Lit a ∧ Q (.bl a.inn) H
def spHalves : Sp := fun vs H Q _ => ∃ p a, vs = [.ref p] ∧ H p = some (.tup (arV a)) ∧ Lit a ∧ ∀ q us H', Same H H' → H q = none → H' q = some (.lst us) → AL H' us [a.half false, a.half true] → Q (.ref q) H'
def spHalvesAt : Sp := fun vs H Q _ => ∃ k : Nat, vs = [.int k] ∧ 1 ≤ k ∧ k ≤ 1000 ∧ ∀ p, H p = none → Q (.ref p) (upd H p (.tup [.int ((2 * k - 1 : Nat) : Int), .int ((2 * k : Nat) : Int)]))
def spAreas : Sp := fun vs H Q _ => ∃ h w : Nat, vs = [.int h, .int w] ∧ 1 ≤ h ∧ h ≤ 16 ∧ 1 ≤ w ∧ w ≤ 16 ∧ ∀ q us H', Same H H' → H q = none → H' q = some (.lst us) → AL H' us (areasL h w) → Q (.ref q) H'
def spAreasC (K : PySem.W.Frag) (C : Addr) : Sp := fun vs H Q E => ∃ x bx y «by», vs = [x, y] ∧ Pl K H x bx ∧ Pl K H y «by» ∧ (∀ h w : Nat, x = .int h → y = .int w → 1 ≤ h → h ≤ 16 → 1 ≤ w → w ≤ 16 → ∀ q us H', Same H H' → H q = none → H' q = some (.lst us) → AL H' us (areasL h w) → Q (.ref q) H') ∧ ((within x 1 16 && within y 1 16) = false → E (.ref C) none H)
theorem half_ge {a : Ar} (c : a.w ≤ a.h) : a.half false = ⟨a.t, a.l, (a.h + 1) / 2, a.w⟩ ∧ a.half true = ⟨a.t + (a.h + 1) / 2, a.l, a.h - (a.h + 1) / 2, a.w⟩ := by
  unfold Ar.half
  rw [if_pos c, if_pos c]
  exact ⟨rfl, rfl⟩
theorem half_lt' {a : Ar} (c : ¬ a.w ≤ a.h) : a.half false = ⟨a.t, a.l, a.h, (a.w + 1) / 2⟩ ∧ a.half true = ⟨a.t, a.l + (a.w + 1) / 2, a.h, a.w - (a.w + 1) / 2⟩ := by
  unfold Ar.half
  rw [if_neg c, if_neg c]
  exact ⟨rfl, rfl⟩
/-- two new tuples in a new list -/
theorem two_new {H : Hp} {Q : VK} {a b : Ar} {xs ys : List V} (ex : xs = arV a) (ey : ys = arV b) (k : ∀ q us H', Same H H' → H q = none → H' q = some (.lst us) → AL H' us [a, b] → Q (.ref q) H') {p p2 q : Addr} (hp : H p = none) (hp2 : upd H p (.tup xs) p2 = none) (hq : upd (upd H p (.tup xs)) p2 (.tup ys) q = none) :
    Q (.ref q) (upd (upd (upd H p (.tup xs)) p2 (.tup ys)) q (.lst [.ref p, .ref p2])) := by
  subst ex ey
  have s1 := Same.new (o := .tup (arV a)) hp
  have s2 := Same.new (o := .tup (arV b)) hp2
  have s3 := Same.new (o := .lst [V.ref p, .ref p2]) hq
  exact k q _ _ ((s1.trans s2).trans s3) ((s1.trans s2).free hq) upd_same (.cons (s3 _ _ (s2 _ _ upd_same)) (.cons (s3 _ _ upd_same) .nil))
theorem arV_eq {a : Ar} {t l h w : Int} (e1 : t = a.t) (e2 : l = a.l) (e3 : h = a.h) (e4 : w = a.w) : [V.int t, .int l, .int h, .int w] = arV a := by
  subst e1 e2 e3 e4
  rfl
section
variable {P : Program} {w : World} {K : PySem.W.Frag} {mg : Str → Option Value} {base : Heap} (T : Top K mg)
theorem ok_is_inner : FnOk P w K mg base (L2.CX P w) 1 T.is_inner.a T.is_inner.d ["area"] spInner := by
  refine T.is_inner.f.okX sc_is_inner (fun vs H Q E h => ?_) (fun cdv A outer s H vs Q E hr h => ?_)
  · obtain ⟨p, a, rfl, _⟩ := h
    rfl
  · obtain ⟨p, a, rfl, hp, lt, k⟩ := h
    refine ⟨_, pss_one (ps_ret (pe_cmpR op_gt (pe_op op_mul (pe_ix ix_tup (pv 0) pe_int (fun _ _ => rfl)) (pe_ix ix_tup (pv 0) pe_int (fun _ _ => rfl))) pe_int (nomark _))), ?_⟩
    have b := lt.bd
    refine ⟨_, rfl, p, _, 2, .int a.h, rfl, rfl, SqT.of hp, rfl, _, rfl, p, _, 3, .int a.w, rfl, rfl, SqT.of hp, rfl, _, _, rfl, rfl, .inl ⟨by omega, by omega⟩, _, _, rfl, rfl, ?_⟩
    exact q_bl k (inn_int a).symm
theorem ok_halves : FnOk P w K mg base (L2.CX P w) 1 T.halves.a T.halves.d ["area"] spHalves := by
  refine T.halves.f.okX sc_halves (fun vs H Q E h => ?_) (fun cdv A outer s H vs Q E hr h => ?_)
  · obtain ⟨p, a, rfl, _⟩ := h
    rfl
  · obtain ⟨p, a, rfl, hp, lt, k⟩ := h
    have b := lt.bd
    refine ⟨_, pss_cons (ps_asg (pv 0) (pg_tup rfl (pgs_cons (pg_name (i := 1) sc_halves.nd rfl (.inl rfl)) (pgs_cons (pg_name (i := 2) sc_halves.nd rfl (.inl rfl)) (pgs_cons (pg_name (i := 3) sc_halves.nd rfl (.inl rfl)) (pgs_cons (pg_name (i := 4) sc_halves.nd rfl (.inl rfl)) pgs_nil))))))
      (pss_cons (ps_if (pt_cmpR op_ge (pv 3) (pv 4) (nomark _))
        (pss_cons (ps_set (i := 5) sc_halves.nd rfl (.inl rfl) (pe_op op_fdiv (pe_op op_add (pv 3) pe_int) pe_int))
        (pss_one (ps_ret (pe_lst (pa_cons (pe_tup (pa_cons (pv 1) (pa_cons (pv 2) (pa_cons (pv 5) (pa_cons (pv 4) pa_nil))))) (pa_cons (pe_tup (pa_cons (pe_op op_add (pv 1) (pv 5)) (pa_cons (pv 2) (pa_cons (pe_op op_sub (pv 3) (pv 5)) (pa_cons (pv 4) pa_nil))))) pa_nil)))))) pss_nil)
      (pss_cons (ps_set (i := 5) sc_halves.nd rfl (.inl rfl) (pe_op op_fdiv (pe_op op_add (pv 4) pe_int) pe_int))
      (pss_one (ps_ret (pe_lst (pa_cons (pe_tup (pa_cons (pv 1) (pa_cons (pv 2) (pa_cons (pv 3) (pa_cons (pv 5) pa_nil))))) (pa_cons (pe_tup (pa_cons (pv 1) (pa_cons (pe_op op_add (pv 2) (pv 5)) (pa_cons (pv 3) (pa_cons (pe_op op_sub (pv 4) (pv 5)) pa_nil))))) pa_nil))))))), ?_⟩
    refine ⟨_, rfl, p, _, rfl, SqT.of hp, rfl, _, _, rfl, _, _, rfl, _, _, rfl, _, _, rfl, rfl, ?_⟩
    refine ⟨_, rfl, _, rfl, _, _, rfl, rfl, _, rfl, ?_⟩
    by_cases c : a.w ≤ a.h
    · obtain ⟨e1, e2⟩ := half_ge c
      rw [decide_eq_true (show ((a.w : Nat) : Int) ≤ ((a.h : Nat) : Int) by omega)]
      refine iteT ⟨_, rfl, _, _, rfl, rfl, _, _, rfl, rfl, ⟨by decide, by decide⟩, ?_⟩
      refine ⟨_, rfl, _, rfl, _, rfl, _, rfl, (by show 4 ≤ sizeLine; decide), fun p1 h1 => ?_⟩
      refine ⟨_, rfl, _, rfl, _, _, rfl, rfl, _, rfl, _, rfl, _, rfl, _, _, rfl, rfl, _, rfl, (by show 4 ≤ sizeLine; decide), fun p2 h2 => ⟨(by show 2 ≤ sizeLine; decide), fun q hq => ?_⟩⟩
      exact two_new (a := a.half false) (b := a.half true) (by rw [e1]; exact arV_eq rfl rfl (by first | rfl | (dsimp; omega)) rfl) (by rw [e2]; exact arV_eq (by first | rfl | (dsimp; omega)) rfl (by first | rfl | (dsimp; omega)) rfl) k h1 h2 hq
    · obtain ⟨e1, e2⟩ := half_lt' c
      rw [decide_eq_false (show ¬ ((a.w : Nat) : Int) ≤ ((a.h : Nat) : Int) by omega)]
      refine iteF ⟨_, rfl, _, _, rfl, rfl, _, _, rfl, rfl, ⟨by decide, by decide⟩, ?_⟩
      refine ⟨_, rfl, _, rfl, _, rfl, _, rfl, (by show 4 ≤ sizeLine; decide), fun p1 h1 => ?_⟩
      refine ⟨_, rfl, _, rfl, _, rfl, _, _, rfl, rfl, _, rfl, _, rfl, _, rfl, _, _, rfl, rfl, (by show 4 ≤ sizeLine; decide), fun p2 h2 => ⟨(by show 2 ≤ sizeLine; decide), fun q hq => ?_⟩⟩
      exact two_new (a := a.half false) (b := a.half true) (by rw [e1]; exact arV_eq rfl rfl rfl (by first | rfl | (dsimp; omega))) (by rw [e2]; exact arV_eq rfl (by first | rfl | (dsimp; omega)) rfl (by first | rfl | (dsimp; omega))) k h1 h2 hq
theorem ok_halves_at : FnOk P w K mg base (L2.CX P w) 1 T.halves_at.a T.halves_at.d ["inner"] spHalvesAt := by
  refine T.halves_at.f.okX sc_halves_at (fun vs H Q E h => ?_) (fun cdv A outer s H vs Q E hr h => ?_)
  · obtain ⟨k, rfl, _⟩ := h
    rfl
  · obtain ⟨k, rfl, h1, h2, q⟩ := h
    refine ⟨_, pss_one (ps_ret (pe_tup (pa_cons (pe_op op_sub (pe_op op_mul pe_int (pv 0)) pe_int) (pa_cons (pe_op op_mul pe_int (pv 0)) pa_nil)))), ?_⟩
    refine ⟨_, rfl, _, _, rfl, rfl, .inl ⟨by decide, by decide⟩, _, _, rfl, rfl, _, rfl, _, _, rfl, rfl, .inl ⟨by decide, by decide⟩, (by show 2 ≤ sizeLine; decide), fun p hp => ?_⟩
    have := q p hp
    rw [show (((2 * k - 1 : Nat) : Nat) : Int) = 2 * (k : Int) - 1 by omega, show (((2 * k : Nat) : Nat) : Int) = 2 * (k : Int) by omega] at this
    exact this
/-- the list as it grows -/
theorem regs_succ {h w n : Nat} {p : Ar} (e : ((ways (root h w) n).map (reg (root h w)))[n]? = some p) :
    (ways (root h w) (n + 1)).map (reg (root h w)) = (ways (root h w) n).map (reg (root h w)) ++ (if p.inn = true then [p.half false, p.half true] else []) := by
  rw [List.getElem?_map] at e
  cases hp : (ways (root h w) n)[n]? with
  | none => rw [hp] at e; cases e
  | some q =>
    rw [hp] at e
    have e : reg (root h w) q = p := Option.some.inj e
    show (grow (root h w) (ways (root h w) n) n).map _ = _
    unfold grow
    rw [hp]
    dsimp only
    rw [e]
    by_cases i : p.inn = true
    · rw [if_pos i, if_pos i, List.map_append]
      congr 1
      simp [reg_snoc, e]
    · rw [if_neg i, if_neg i, List.append_nil]
theorem ok_list_areas : FnOk P w K mg base (L2.CX P w) 2 T.list_areas.a T.list_areas.d ["height", "width"] spAreas := by
  refine T.list_areas.f.okX sc_list_areas (fun vs H Q E h => ?_) (fun cdv A outer s H vs Q E hr h => ?_)
  · obtain ⟨h, w, rfl, _⟩ := h
    rfl
  · obtain ⟨h, w, rfl, h1, h2, w1, w2, k⟩ := h
    refine ⟨_, pss_cons (ps_set (i := 2) sc_list_areas.nd rfl (.inl rfl) (pe_lst (pa_cons (pe_tup (pa_cons pe_int (pa_cons pe_int (pa_cons (pv 0) (pa_cons (pv 1) pa_nil))))) pa_nil)))
      (pss_cons (ps_set (i := 3) sc_list_areas.nd rfl (.inl rfl) pe_int)
      (pss_cut (ps_while (passes_of rfl) (pt_cmpR op_lt (pv 3) (pe_callB call_len_seq (by rfl) T.b_len PySem.boot_len (pa_cons (pv 2) pa_nil)) (nomark _))
        (pss_cons (ps_set (i := 4) sc_list_areas.nd rfl (.inl rfl) (pe_ix ix_list (pv 2) (pv 3) (fun _ _ => rfl)))
        (pss_cut (ps_if (pt_val (pe_call (ok_is_inner T) (hr.mono (by decide)) (by rfl) T.is_inner.m T.is_inner.f.kp (bd_is_inner T) .nil passE (pa_cons (pv 4) pa_nil)))
          (pss_one (ps_expr (pe_bm PySem.F.plainAttrs_list PySem.F.slot_list_extend PySem.F.type_list_extend mt_extend (pv 2) (pa_cons (pe_call (ok_halves T) (hr.mono (by decide)) (by rfl) T.halves.m T.halves.f.kp (bd_halves T) .nil passE (pa_cons (pv 4) pa_nil)) pa_nil)))) pss_nil)
        (pss_one (ps_aug (i := 3) sc_list_areas.nd rfl (.inl rfl) pe_int ip_add)))))
      (pss_one (ps_ret (pv 2))))), ?_⟩
    refine ⟨_, rfl, _, rfl, (by show 4 ≤ sizeLine; decide), fun p hp => ⟨(by show 1 ≤ sizeLine; decide), fun fa hfa => ?_⟩⟩
    have s1 := Same.new (o := .tup [V.int 0, .int 0, .int h, .int w]) hp
    have s2 := Same.new (o := .lst [V.ref p]) hfa
    have ff := s1.free hfa
    have lr := lit_root h1 h2 w1 w2
    have g0 : AL (upd (upd H p (.tup [V.int 0, .int 0, .int h, .int w])) fa (.lst [V.ref p])) [.ref p] ((ways (root h w) 0).map (reg (root h w))) := .cons (s2 _ _ upd_same) .nil
    have S0 : Same H (upd (upd H p (.tup [V.int 0, .int 0, .int h, .int w])) fa (.lst [V.ref p])) := s1.trans s2
    have l0 : (upd (upd H p (.tup [V.int 0, .int 0, .int h, .int w])) fa (.lst [V.ref p])) fa = some (.lst [V.ref p]) := upd_same
    generalize upd (upd H p (.tup [V.int 0, .int 0, .int h, .int w])) fa (.lst [V.ref p]) = H0 at g0 S0 l0 ⊢
    refine ⟨fun σ' H' => ∃ us v3 v4, σ' = [some (.int h), some (.int w), some (.ref fa), v3, v4] ∧ H' fa = some (.lst us) ∧ AL H' us (areasL h w) ∧ Same H H', ?_, ?_⟩
    · refine ⟨fun μ σ' H' => ∃ n us v4, μ = many (root h w) - n ∧ n ≤ many (root h w) ∧ σ' = [some (.int h), some (.int w), some (.ref fa), some (.int (n : Nat)), v4] ∧ H' fa = some (.lst us) ∧ AL H' us ((ways (root h w) n).map (reg (root h w))) ∧ Same H H',
        ⟨many (root h w), 0, _, _, rfl, Nat.zero_le _, rfl, l0, g0, S0⟩, ?_⟩
      rintro μ σ' H1 ⟨n, us, v4, rfl, ln, rfl, hl, al, sm⟩
      have gr := Grown.at lr.o n ln
      have lu : us.length = (ways (root h w) n).length := by rw [al.len, List.length_map]
      have lsz : us.length ≤ 511 := by
        have lw := gr.lt_iff lr.o
        have : many (root h w) ≤ 511 := by
          unfold many
          have e : (root h w).size = h * w := rfl
          have := Nat.mul_le_mul h2 w2
          omega
        rw [lu]
        obtain ⟨R, e⟩ := ways_pre lr.o ln
        have := allW_len lr.o
        rw [e, List.length_append] at this
        omega
      refine ⟨_, rfl, _, rfl, fa, us, rfl, .inl (SqL.of hl), _, _, rfl, rfl, _, rfl, ?_⟩
      by_cases c : n < us.length
      · rw [decide_eq_true (show ((n : Nat) : Int) < ((us.length : Nat) : Int) by omega)]
        have c2 : n < many (root h w) := (gr.lt_iff lr.o).mp (by omega)
        obtain ⟨a, ha⟩ : ∃ a, ((ways (root h w) n).map (reg (root h w)))[n]? = some a := ⟨_, List.getElem?_eq_getElem (by rw [← al.len]; exact c)⟩
        obtain ⟨q, hq, eq⟩ := al.at_ ha
        have la : Lit a := by
          obtain ⟨z, hz, rfl⟩ := List.mem_map.mp (List.mem_of_getElem? ha)
          have := way_ok lr.o (gr.way z hz)
          exact ⟨this.1, this.2.1.trans lr.i⟩
        refine iteT ⟨fun σ' H' => ∃ us v4, σ' = [some (.int h), some (.int w), some (.ref fa), some (.int ((n + 1 : Nat) : Int)), v4] ∧ H' fa = some (.lst us) ∧ AL H' us ((ways (root h w) (n + 1)).map (reg (root h w))) ∧ Same H H',
          fun σ' H' ⟨us, v4, r⟩ => ⟨many (root h w) - (n + 1), by omega, n + 1, us, v4, rfl, c2, r⟩, ?_⟩
        refine ⟨_, rfl, _, rfl, fa, us, _, _, rfl, rfl, SqL.of hl, atI_nat hq, ?_⟩
        refine ⟨fun σ' H' => ∃ us, σ' = [some (.int h), some (.int w), some (.ref fa), some (.int (n : Nat)), some (.ref q)] ∧ H' fa = some (.lst us) ∧ AL H' us ((ways (root h w) (n + 1)).map (reg (root h w))) ∧ Same H H', ?_, ?_⟩
        · refine ⟨_, rfl, q, a, rfl, eq, la, _, rfl, ?_⟩
          rw [regs_succ ha]
          cases i : a.inn
          · refine iteF ⟨us, rfl, hl, ?_, sm⟩
            rw [if_neg Bool.false_ne_true, List.append_nil]
            exact al
          · refine iteT ?_
            rw [if_pos rfl]
            refine ⟨_, rfl, .inl ⟨rfl, _, SqL.of hl⟩, _, rfl, q, a, rfl, eq, la, fun b ws H2 m2 f2 l2 al2 => ?_⟩
            have hl2 := m2 _ _ hl
            refine ⟨fa, b, us, ws, rfl, rfl, hl2, l2, ?_, us ++ ws, rfl, upd_same, ((al.same m2).append al2).put hl2, Same.put (sm.trans m2) ff⟩
            have := al2.len
            exact Nat.le_trans (show _ ≤ 600 by rw [this]; simp; omega) (by decide)
        · rintro σ' H2 ⟨us, rfl, r⟩
          exact ⟨_, rfl, _, _, rfl, rfl, us, _, rfl, r⟩
      · rw [decide_eq_false (show ¬ ((n : Nat) : Int) < ((us.length : Nat) : Int) by omega)]
        have e : n = many (root h w) := by
          have := (gr.lt_iff lr.o)
          have : ¬ n < many (root h w) := fun z => c (by have := this.mpr z; omega)
          omega
        subst e
        exact iteF ⟨us, _, _, rfl, hl, al, sm⟩
    · rintro σ' H1 ⟨us, v3, v4, rfl, hl, al, sm⟩
      exact ⟨_, rfl, k fa us H1 sm ff hl al⟩
end
end K17
namespace K17
open PySem PySem.Spec PyProof.Rows L2 PySem.W LamX KA KW KU KL KT
open Evl (pss_cut tCut)
/-! ### what is due of four values -/
def dueV (x1 x2 x3 x4 : V) : V :=
  if within x1 1 16 = true then (if within x2 1 16 = true then (if within x3 (-512) 511 = true then (match x3 with | .int lo => (if within x4 lo 511 = true then .non else .str "high") | _ => .non) else .str "low") else .str "width") else .str "height"
def spDue (K : PySem.W.Frag) : Sp := fun vs H Q _ => ∃ a x1 x2 x3 x4 b1 b2 b3 b4, vs = [.ref a] ∧ H a = some (.lst [x1, x2, x3, x4]) ∧ Pl K H x1 b1 ∧ Pl K H x2 b2 ∧ Pl K H x3 b3 ∧ Pl K H x4 b4 ∧ Q (dueV x1 x2 x3 x4) H
section
variable {P : Program} {w : World} {K : PySem.W.Frag} {mg : Str → Option Value} {base : Heap} (T : Top K mg)
theorem ok_whole : FnOk P w K mg base (L2.CX P w) 1 T._law_is_whole.a T._law_is_whole.d ["item"] (spNumber K) := by
  refine T._law_is_whole.f.okX sc__law_is_whole (fun vs H Q E h => ?_) (fun cdv A outer s H vs Q E hr h => ?_)
  · obtain ⟨x, b, rfl, _⟩ := h
    rfl
  · obtain ⟨x, b, rfl, hp, k⟩ := h
    refine ⟨_, pss_one (ps_ret (pe_and
      (pe_callB call_isi (by rfl) T.b_isinstance PyProof.Rows.boot_isinstance (pa_cons (pv 0) (pa_cons (pe_bltn (v := .ty "int") (by rfl) T.b_int PyProof.Rows.boot_int rfl) pa_nil)))
      (pe_one (pe_not (pe_callB call_isi (by rfl) T.b_isinstance PyProof.Rows.boot_isinstance (pa_cons (pv 0) (pa_cons (pe_bltn (v := .ty "bool") (by rfl) T.b_bool (by decide +kernel) rfl) pa_nil))))))), ?_⟩
    obtain ⟨t, ht, h1, h2, h3⟩ := hp.ty
    refine ⟨_, rfl, x, _, _, _, _, rfl, .ty "int", ht, kit_ty h1, _, rfl, ?_⟩
    cases e : (b || (t == "bool"))
    · rw [e] at h3
      refine iteF ?_
      exact q_bl k h3
    · rw [e] at h3
      refine iteT ?_
      refine ⟨_, rfl, x, _, _, _, _, rfl, .ty "bool", ht, kit_ty h2, _, rfl, ?_⟩
      exact q_bl k (by simpa using h3)
theorem pl_int {K : PySem.W.Frag} {H : Hp} {x : V} (h : Pl K H x true) : ∃ i, x = .int i := by
  cases h with
  | int i => exact ⟨i, rfl⟩
theorem within_no {K : PySem.W.Frag} {H : Hp} {x : V} {lo hi : Int} (h : Pl K H x false) : within x lo hi = false := by
  cases h <;> rfl
theorem within_i {i lo hi : Int} : within (.int i) lo hi = (decide (lo ≤ i) && decide (i ≤ hi)) := rfl
theorem q_v {Q : VK} {H : Hp} {a b : V} (k : Q b H) (e : b = a) : Q a H := e ▸ k
end
end K17
namespace K17
open PySem PySem.Spec PyProof.Rows L2 PySem.W LamX KA KW KU KL KT
open Evl (pss_cut tCut)
/-! ### whether it is a pane -/
inductive Fl : V → Prop where
  | int (i : Int) : Fl (.int i)
  | bl (b : Bool) : Fl (.bl b)
  | str (s : Str) (h : PyData.strOk s = true) : Fl (.str s)
  | non : Fl .non
theorem Fl.pl {K : PySem.W.Frag} {H : Hp} {x : V} (h : Fl x) : Pl K H x (isNum x) := by
  cases h with
  | int i => exact .int i
  | bl i => exact .bl i
  | str i _ => exact .str i
  | non => exact .non
def fd : V → PyData
  | .int i => .int i
  | .bl b => .bool b
  | .str s => .str s
  | _ => .none
theorem Fl.dp {K : PySem.W.Frag} {H : Hp} {x : V} (h : Fl x) : Dp K H x (fd x) := by
  cases h with
  | int i => exact .int i
  | bl i => exact .bl i
  | str i _ => exact .str i
  | non => exact .non
theorem dp_fl {K : PySem.W.Frag} {H : Hp} : ∀ {xs : List V}, (∀ x ∈ xs, Fl x) → DpAll K H xs (xs.map fd)
  | [], _ => .nil
  | x :: xs, h => .cons (h x List.mem_cons_self).dp (dp_fl fun y hy => h y (List.mem_cons_of_mem _ hy))
theorem fl_lay : ∀ xs : List V, (∀ x ∈ xs, Fl x) → PyData.canLayAll0 (xs.map fd) = true ∧ PyData.depthAll (xs.map fd) = 0
  | [], _ => ⟨rfl, rfl⟩
  | x :: xs, h => by
    obtain ⟨h1, h2⟩ := fl_lay xs fun y hy => h y (List.mem_cons_of_mem _ hy)
    cases h x List.mem_cons_self with
    | str s e => exact ⟨by simp [fd, PyData.canLayAll0, PyData.canLay0, h1, e], by simp [fd, PyData.depthAll, PyData.depth, h2]⟩
    | _ => exact ⟨by simp [fd, PyData.canLayAll0, PyData.canLay0, h1], by simp [fd, PyData.depthAll, PyData.depth, h2]⟩
theorem shaped_fl (xs : List V) (h : ∀ x ∈ xs, Fl x) : SeqAt.shaped (.list (xs.map fd)) = true := by
  obtain ⟨h1, h2⟩ := fl_lay xs h
  simp [SeqAt.shaped, PyData.canLay0, PyData.depth, h1, h2]
theorem filter_none {xs : List V} {f : V → Bool} : (xs.filter fun x => !f x).isEmpty = xs.all f := by
  induction xs with
  | nil => rfl
  | cons x xs ih =>
    rw [List.filter_cons, List.all_cons]
    cases f x
    · rfl
    · rw [Bool.true_and, ← ih]
      rfl
theorem eqv_fl_nil (xs : List V) : PyData.eqv (.list (xs.map fd)) (.list []) = xs.isEmpty := by
  cases xs <;> rfl
/-- the cells are flat -/
def FlC (os : List (Option (List V))) : Prop := ∀ xs, some xs ∈ os → ∀ x ∈ xs, Fl x
def lineB (w lo hi : Int) : Option (List V) → Bool
  | some xs => decide (((xs.length : Nat) : Int) = w) && xs.all fun x => within x lo hi
  | none => false
def paneB (o : Option (List (Option (List V)))) (h w lo hi : Int) : Bool := match o with
  | some os => decide (((os.length : Nat) : Int) = h) && os.all (lineB w lo hi)
  | none => false
def badC (lo hi : Int) (x : V) : Bool := !within x lo hi
theorem take_filter {xs : List V} (f : V → Bool) {i : Nat} {x : V} (h : xs[i]? = some x) : (xs.take (i + 1)).filter f = (xs.take i).filter f ++ (if f x = true then [x] else []) := by
  rw [List.take_add_one, h, List.filter_append]
  cases hx : f x <;> simp [hx]
theorem within_num {x : V} {lo hi : Int} (h : within x lo hi = true) : isNum x = true := by
  obtain ⟨i, rfl, _⟩ := within_int h
  rfl
theorem width_of {os : List (Option (List V))} {w : Nat} (h : 0 < os.length) (q : ∀ o ∈ os, ∃ xs, o = some xs ∧ xs.length = w) : width0 os = w := by
  cases os with
  | nil => cases h
  | cons o os =>
    obtain ⟨xs, rfl, e⟩ := q o List.mem_cons_self
    exact e
end K17
namespace K17
open PySem PySem.Spec PyProof.Rows L2 PySem.W LamX KA KW KU KL KT
open Evl (pss_cut tCut)
/-! ### data of planes: small enough to be shown and compared -/
structure Sm (n z : Nat) (d : PyData) : Prop where
  l : d.leavesShort 13 = true
  w : d.weight ≤ n
  s : d.showable = true
  n : d.hasDict = false
  z : d.depth ≤ z
  c : d.canLay0 = true
theorem small_fits {d : PyData} (hl : d.leavesShort 13 = true) (hw : d.weight ≤ 2 ^ 20) : d.shown.length ≤ sizeLine := PyData.shown_fits (by decide) (by decide) hl hw
theorem int_small {i : Int} (h1 : -65535 ≤ i) (h2 : i ≤ 65535) : (PyData.int i).leavesShort 13 = true ∧ (PyData.int i).weight ≤ 17 ∧ (PyData.int i).showable = true := by
  have hn : i.natAbs < 2 ^ 17 := by omega
  have hl : i.natAbs.log2 ≤ 17 := by
    rcases Nat.eq_zero_or_pos i.natAbs with z | z
    · rw [z]
      decide
    · exact Nat.le_of_lt ((Nat.log2_lt (by omega)).mpr hn)
  have hl2 : i.natAbs.log2 < 17 ∨ i.natAbs = 0 := by
    rcases Nat.eq_zero_or_pos i.natAbs with z | z
    · exact .inr z
    · exact .inl ((Nat.log2_lt (by omega)).mpr hn)
  refine ⟨?_, ?_, ?_⟩
  · simp only [PyData.leavesShort, decide_eq_true_eq]
    exact PyData.shown_int_le (by omega)
  · simp only [PyData.weight]
    split
    · omega
    · rename_i c
      rcases hl2 with q | q
      · omega
      · exact absurd (by simpa using q) c
  · simp only [PyData.showable, decide_eq_true_eq]
    omega
theorem Sm.mono {n m z y : Nat} {d : PyData} (h : Sm n z d) (h1 : n ≤ m) (h2 : z ≤ y) : Sm m y d := ⟨h.l, Nat.le_trans h.w h1, h.s, h.n, Nat.le_trans h.z h2, h.c⟩
theorem sm_int {i : Int} (h1 : -65535 ≤ i) (h2 : i ≤ 65535) : Sm 17 0 (.int i) := by
  obtain ⟨a, b, c⟩ := int_small h1 h2
  exact ⟨a, b, c, rfl, Nat.le_refl _, rfl⟩
theorem sm_bool {b : Bool} : Sm 17 0 (.bool b) := ⟨rfl, Nat.zero_le _, rfl, rfl, Nat.le_refl _, rfl⟩
theorem sm_all {n z : Nat} : ∀ ds : List PyData, (∀ d ∈ ds, Sm n z d) → PyData.leavesShortAll 13 ds = true ∧ PyData.weightAll ds ≤ (n + 1) * ds.length ∧ PyData.showableAll ds = true ∧ PyData.hasDictAll ds = false ∧ PyData.depthAll ds ≤ z ∧ PyData.canLayAll0 ds = true
  | [], _ => ⟨rfl, Nat.zero_le _, rfl, rfl, Nat.zero_le _, rfl⟩
  | d :: r, h => by
    obtain ⟨a, b, c, e, f, g⟩ := sm_all r fun x hx => h x (List.mem_cons_of_mem _ hx)
    obtain ⟨a', b', c', e', f', g'⟩ := h d List.mem_cons_self
    refine ⟨by simp [PyData.leavesShortAll, a, a'], ?_, by simp [PyData.showableAll, c, c'], by simp [PyData.hasDictAll, e, e'], ?_, by simp [PyData.canLayAll0, g, g']⟩
    · simp only [PyData.weightAll, List.length_cons, Nat.mul_add, Nat.mul_one]
      omega
    · simp only [PyData.depthAll]
      omega
theorem sm_tuple {n z k : Nat} {ds : List PyData} (h : ∀ d ∈ ds, Sm n z d) (hl : ds.length ≤ k) : Sm ((n + 1) * k) (z + 1) (.tuple ds) := by
  obtain ⟨a, b, c, e, f, g⟩ := sm_all ds h
  have hk : (n + 1) * ds.length ≤ (n + 1) * k := Nat.mul_le_mul_left _ hl
  refine ⟨by simpa only [PyData.leavesShort] using a, ?_, by simpa only [PyData.showable] using c, by simpa only [PyData.hasDict] using e, ?_, by simpa only [PyData.canLay0] using g⟩
  · simp only [PyData.weight]
    omega
  · simp only [PyData.depth]
    omega
theorem sm_list {n z k : Nat} {ds : List PyData} (h : ∀ d ∈ ds, Sm n z d) (hl : ds.length ≤ k) : Sm ((n + 1) * k) (z + 1) (.list ds) := by
  obtain ⟨a, b, c, e, f, g⟩ := sm_all ds h
  have hk : (n + 1) * ds.length ≤ (n + 1) * k := Nat.mul_le_mul_left _ hl
  refine ⟨by simpa only [PyData.leavesShort] using a, ?_, by simpa only [PyData.showable] using c, by simpa only [PyData.hasDict] using e, ?_, by simpa only [PyData.canLay0] using g⟩
  · simp only [PyData.weight]
    omega
  · simp only [PyData.depth]
    omega
theorem Sm.repr {n z : Nat} {d : PyData} (h : Sm n z d) (h1 : n ≤ 2 ^ 20) (h2 : z ≤ 60) : d.showable = true ∧ d.hasDict = false ∧ d.depth ≤ 60 ∧ d.shown.length ≤ sizeLine := ⟨h.s, h.n, Nat.le_trans h.z h2, small_fits h.l (Nat.le_trans h.w h1)⟩
theorem Sm.shaped {n z : Nat} {d : PyData} (h : Sm n z d) (h2 : z ≤ 60) : SeqAt.shaped d = true := by
  unfold SeqAt.shaped
  rw [h.c, Bool.true_and, decide_eq_true_eq]
  exact Nat.le_trans h.z (Nat.le_trans h2 (by decide))
def rowD (ns : List Int) : PyData := .tuple (ns.map PyData.int)
def plD (nss : List (List Int)) : PyData := .tuple (nss.map rowD)
/-- the numbers are small -/
def SmN (nss : List (List Int)) : Prop := ∀ ns ∈ nss, ∀ n ∈ ns, -512 ≤ n ∧ n ≤ 511
theorem rows_dp {K : PySem.W.Frag} {H : Hp} : ∀ {vs : List V} {nss : List (List Int)}, Rows H vs nss → DpAll K H vs (nss.map rowD)
  | [], nss, r => by
    have : nss = [] := List.eq_nil_of_length_eq_zero (by rw [← r.1]; rfl)
    subst this
    exact .nil
  | v :: vs, [], r => by cases r.1
  | v :: vs, ns :: nss, r => by
    obtain ⟨b, ns', e1, e2, e3⟩ := r.2 0 v rfl
    have e4 : ns = ns' := Option.some.inj e2
    subst e4 e1
    refine .cons (.tup (SqT.of e3) (KT.dp_ints ns)) (rows_dp ⟨by simpa using r.1, fun j u e => ?_⟩)
    exact r.2 (j + 1) u (by simpa using e)
theorem Pn.dp {K : PySem.W.Frag} {H : Hp} {a : Addr} {nss : List (List Int)} {w : Nat} (p : Pn H a nss w) : Dp K H (.ref a) (plD nss) := by
  obtain ⟨vs, e, r⟩ := p.rows
  exact .tup (SqT.of e) (rows_dp r)
theorem plD_sm {nss : List (List Int)} {w : Nat} (h : SmN nss) (h2 : nss.length ≤ 16) (w2 : w ≤ 16) (ws : ∀ ns ∈ nss, ns.length = w) : Sm 4624 2 (plD nss) := by
  refine sm_tuple (n := 288) (k := 16) (fun d hd => ?_) (by rw [List.length_map]; exact h2)
  obtain ⟨ns, hn, rfl⟩ := List.mem_map.mp hd
  refine sm_tuple (n := 17) (k := 16) (fun d hd => ?_) (by rw [List.length_map, ws ns hn]; exact w2)
  obtain ⟨i, hi, rfl⟩ := List.mem_map.mp hd
  have := h ns hn i hi
  exact sm_int (by omega) (by omega)
theorem Pn.sm {H : Hp} {a : Addr} {nss : List (List Int)} {w : Nat} (p : Pn H a nss w) (h : SmN nss) : Sm 4624 2 (plD nss) := plD_sm h p.h2 p.w2 p.ws
theorem smN_bet {nss : List (List Int)} (h : SmN nss) : betB nss (-512) 511 = true := by
  simp only [betB, List.all_eq_true, Bool.and_eq_true, decide_eq_true_eq]
  exact h
theorem smN_rev {nss : List (List Int)} (h : SmN nss) : SmN nss.reverse := fun ns hn => h ns (List.mem_reverse.mp hn)
theorem smN_side {nss : List (List Int)} (h : SmN nss) : SmN (nss.map List.reverse) := fun ns hn n hnn => by
  obtain ⟨ms, hm, rfl⟩ := List.mem_map.mp hn
  exact h ms hm n (List.mem_reverse.mp hnn)
theorem smN_trans {nss : List (List Int)} {w : Nat} (h : SmN nss) (ws : ∀ ns ∈ nss, ns.length = w) : SmN (trans nss w) := fun ns hn n hnn => by
  obtain ⟨j, hj, rfl⟩ := List.mem_map.mp hn
  obtain ⟨ms, hm, rfl⟩ := List.mem_map.mp hnn
  have hl : j < ms.length := by rw [ws ms hm]; exact List.mem_range.mp hj
  rw [List.getD_eq_getElem?_getD, List.getElem?_eq_getElem hl]
  exact h ms hm _ (List.getElem_mem hl)
theorem side_side (nss : List (List Int)) : (nss.map List.reverse).map List.reverse = nss := by
  rw [List.map_map]
  conv => rhs; rw [← List.map_id nss]
  congr 1
  funext ns
  simp
/-- a plane by its numbers at the places -/
theorem plane_ext {a b : List (List Int)} {h w : Nat} (ha : a.length = h) (hb : b.length = h) (wa : ∀ ns ∈ a, ns.length = w) (wb : ∀ ns ∈ b, ns.length = w) (e : ∀ y x, y < h → x < w → (a.getD y []).getD x 0 = (b.getD y []).getD x 0) : a = b := by
  refine List.ext_getElem (by rw [ha, hb]) fun y h1 h2 => ?_
  have l1 := wa _ (List.getElem_mem h1)
  have l2 := wb _ (List.getElem_mem h2)
  refine List.ext_getElem (by rw [l1, l2]) fun x h3 h4 => ?_
  have := e y x (by omega) (by omega)
  simpa [List.getD_eq_getElem?_getD, List.getElem?_eq_getElem h1, List.getElem?_eq_getElem h2, List.getElem?_eq_getElem h3, List.getElem?_eq_getElem h4] using this
theorem at_trans {nss : List (List Int)} {w x y : Nat} (hx : x < w) (hy : y < nss.length) : ((trans nss w).getD x []).getD y 0 = (nss.getD y []).getD x 0 := by
  unfold trans
  simp [List.getD_eq_getElem?_getD, List.getElem?_map, List.getElem?_range hx, List.getElem?_eq_getElem hy]
theorem at_rev {nss : List (List Int)} {y : Nat} (hy : y < nss.length) : nss.reverse.getD y [] = nss.getD (nss.length - 1 - y) [] := by
  simp [List.getD_eq_getElem?_getD, List.getElem?_reverse hy]
theorem at_side {nss : List (List Int)} {w x y : Nat} (ws : ∀ ns ∈ nss, ns.length = w) (hx : x < w) (hy : y < nss.length) : ((nss.map List.reverse).getD y []).getD x 0 = (nss.getD y []).getD (w - 1 - x) 0 := by
  have l := ws _ (List.getElem_mem hy)
  simp [List.getD_eq_getElem?_getD, List.getElem?_map, List.getElem?_eq_getElem hy, List.getElem?_reverse (show x < nss[y].length by omega), l]
theorem len_trans {nss : List (List Int)} {w : Nat} : (trans nss w).length = w := by
  unfold trans
  rw [List.length_map, List.length_range]
theorem ws_trans {nss : List (List Int)} {w : Nat} : ∀ ns ∈ trans nss w, ns.length = nss.length := fun ns hn => by
  obtain ⟨j, hj, rfl⟩ := List.mem_map.mp hn
  rw [List.length_map]
theorem ws_side {nss : List (List Int)} {w : Nat} (ws : ∀ ns ∈ nss, ns.length = w) : ∀ ns ∈ nss.map List.reverse, ns.length = w := fun ns hn => by
  obtain ⟨j, hj, rfl⟩ := List.mem_map.mp hn
  rw [List.length_reverse, ws j hj]
theorem trans_trans {nss : List (List Int)} {w : Nat} (ws : ∀ ns ∈ nss, ns.length = w) : trans (trans nss w) nss.length = nss := by
  refine plane_ext (h := nss.length) (w := w) len_trans rfl (fun ns hn => by rw [ws_trans ns hn, len_trans]) ws fun y x hy hx => ?_
  rw [at_trans hy (by rw [len_trans]; exact hx), at_trans hx hy]
theorem turn_turn {nss : List (List Int)} {w : Nat} (ws : ∀ ns ∈ nss, ns.length = w) : trans ((trans nss w).map List.reverse) nss.length = nss.reverse := by
  refine plane_ext (h := nss.length) (w := w) len_trans (by simp) (fun ns hn => by rw [ws_trans ns hn, List.length_map, len_trans]) (fun ns hn => ws ns (List.mem_reverse.mp hn)) fun y x hy hx => ?_
  rw [at_trans hy (by rw [List.length_map, len_trans]; exact hx), at_side (w := nss.length) ws_trans hy (by rw [len_trans]; exact hx), at_trans hx (by omega), at_rev hy]
end K17
namespace K17
open PySem PySem.Spec PyProof.Rows L2 PySem.W LamX KA KW KU KL KT
open Evl (pss_cut tCut)
/-! ### numbers in rows -/
def rowsOf (ns : List Int) (h w : Nat) : List (List Int) := (List.range h).map fun y => (ns.drop (y * w)).take w
theorem rowsOf_len {ns : List Int} {h w : Nat} : (rowsOf ns h w).length = h := by
  unfold rowsOf
  rw [List.length_map, List.length_range]
theorem rowsOf_ws {ns : List Int} {h w : Nat} (l : ns.length = h * w) : ∀ r ∈ rowsOf ns h w, r.length = w := fun r hr => by
  obtain ⟨y, hy, rfl⟩ := List.mem_map.mp hr
  have hy := List.mem_range.mp hy
  rw [List.length_take, List.length_drop, l]
  have : (y + 1) * w ≤ h * w := Nat.mul_le_mul_right w hy
  rw [Nat.succ_mul] at this
  omega
theorem rgc : ∀ h w : Nat, 1 ≤ h → h ≤ 16 → 1 ≤ w → w ≤ 16 → RgC 0 ((h * w : Nat) : Int) (w : Int) h := by
  have q : (List.range 17).all (fun h => (List.range 17).all fun w => h == 0 || w == 0 || (Builtin.Range.small 0 ((h * w : Nat) : Int) (w : Int) && decide (Builtin.Range.rangeSize 0 ((h * w : Nat) : Int) (w : Int) = h))) = true := by decide +kernel
  intro h w h1 h2 w1 w2
  have := List.all_eq_true.mp q h (List.mem_range.mpr (by omega))
  have := List.all_eq_true.mp this w (List.mem_range.mpr (by omega))
  have e1 : (h == 0) = false := beq_eq_false_iff_ne.mpr (by omega)
  have e2 : (w == 0) = false := beq_eq_false_iff_ne.mpr (by omega)
  rw [e1, e2, Bool.false_or, Bool.false_or, Bool.and_eq_true, decide_eq_true_eq] at this
  exact ⟨by omega, by omega, this.1, this.2⟩
theorem cut_mid {xs : List V} {a b : Nat} (ha : a ≤ xs.length) (hb : b ≤ xs.length) : cutV xs (some (a : Int)) (some (b : Int)) = (xs.drop a).take (b - a) := by
  have e1 : HT.sIx xs.length 0 (some (a : Int)) = a := (HT.sIx_nat xs.length 0 a).trans (by omega)
  have e2 : HT.sIx xs.length xs.length (some (b : Int)) = b := (HT.sIx_nat xs.length xs.length b).trans (by omega)
  unfold cutV
  rw [e1, e2]
def spInRows : Sp := fun vs H Q _ => ∃ (q : Addr) (ns : List Int) (h w : Nat), vs = [.ref q, .int w] ∧ H q = some (.lst (ns.map V.int)) ∧ ns.length = h * w ∧ 1 ≤ h ∧ h ≤ 16 ∧ 1 ≤ w ∧ w ≤ 16 ∧ ∀ p H', Same H H' → H p = none → Pn H' p (rowsOf ns h w) w → Q (.ref p) H'
def rLenQ (K : PySem.W.Frag) : List V → Hp → VK → Prop := fun xs H Q => ∃ p ys, xs = [.ref p] ∧ (SqL K H p ys ∨ SqT K H p ys) ∧ Q (.int ys.length) H
theorem rows_read {K : PySem.W.Frag} {H : Hp} {q : Addr} {ns : List Int} {h w : Nat} {Qd : V → Hp → Prop} {i j k : Nat} {σ : L2.St} (hq : H q = some (.lst (ns.map V.int))) (hl : ns.length = h * w) (h1 : 1 ≤ h) (h2 : h ≤ 16) (w1 : 1 ≤ w) (w2 : w ≤ 16)
    (s0 : ∀ x : V, (σ.set k (some x))[i]? = some (some (V.ref q))) (s1 : ∀ x : V, (σ.set k (some x))[j]? = some (some (V.int w))) (s2 : ∀ x : V, (σ.set k (some x))[k]? = some (some x)) (hw : ∀ x : V, wipe (σ.set k (some x)) [k] = σ) (hw0 : wipe σ [k] = σ)
    (e0 : σ[i]? = some (some (V.ref q))) (e1 : σ[j]? = some (some (V.int w)))
    (kk : ∀ (D : Addr) (rs : List V) (H' : Hp), Same H H' → H D = none → H' D = some (.lst rs) → Rows H' rs (rowsOf ns h w) → Qd (.ref D) H') :
    tLc (iRng3 (tCons (tC (.int 0)) (tCons (tCB (rLenQ K) (tCons (tVar i) tNil)) (tCons (tVar j) tNil)))) (gName k) tYes (tCB (rTupOf K) (tCons (tSl (rSlL K) (tVar i) (tPart (tVar k)) (tPart (tOp (rI0 fun i j => .int (i + j)) (tVar k) (tVar j)))) tNil)) [k] σ H Qd := by
  refine ⟨_, e0, q, _, rfl, .inl (SqL.of hq), _, e1, 0, _, _, h, rfl, ?_, fun D hD => lc_it walk_rangeC (fun i H' => ∃ rs, H' D = some (.lst rs) ∧ Rows H' rs ((rowsOf ns h w).take i) ∧ Same H H') ⟨[], upd_same, by simpa using Rows.nil, Same.new hD⟩ (fun _ _ _ _ => trivial) ?_ ?_⟩
  · rw [List.length_map, hl]
    exact rgc h w h1 h2 w1 w2
  · rintro n x H1 H2 hn ⟨rs, a1, a2, a3⟩ ⟨rfl, rfl⟩
    rw [hw0]
    have ev : (0 : Int) + (n : Nat) * (w : Int) = ((n * w : Nat) : Int) := by rw [Int.natCast_mul]; omega
    dsimp only
    rw [ev]
    have hq1 := a3 _ _ hq
    have n1 : n * w + w ≤ h * w := by
      have : (n + 1) * w ≤ h * w := Nat.mul_le_mul_right w hn
      rw [Nat.succ_mul] at this
      exact this
    refine ⟨hw _, ?_⟩
    dsimp only [tYes]
    rw [if_pos rfl]
    refine ⟨_, s0 _, _, s2 _, _, rfl, _, s2 _, _, s1 _, _, _, rfl, rfl, _, rfl, q, _, rfl, SqL.of hq1, fun p hp => ?_⟩
    have e : cutV (ns.map V.int) (some ((n * w : Nat) : Int)) (some (((n * w : Nat) : Int) + (w : Int))) = ((ns.drop (n * w)).take w).map V.int := by
      rw [show (((n * w : Nat) : Int) + (w : Int)) = ((n * w + w : Nat) : Int) by omega, cut_mid (by rw [List.length_map]; omega) (by rw [List.length_map]; omega), show n * w + w - n * w = w by omega, List.map_take, List.map_drop]
    rw [e]
    refine ⟨p, _, rfl, .inl ⟨SqL.of upd_same, fun l hl' => ?_⟩⟩
    have t1 := Same.new (o := .lst (((ns.drop (n * w)).take w).map V.int)) hp
    have t2 := Same.new (o := .tup (((ns.drop (n * w)).take w).map V.int)) hl'
    have er : (rowsOf ns h w)[n]? = some ((ns.drop (n * w)).take w) := by
      unfold rowsOf
      rw [List.getElem?_map, List.getElem?_range hn]
      rfl
    refine ⟨rs, t2 _ _ (t1 _ _ a1), ?_, rs ++ [.ref l], upd_same, ?_, Same.put ((a3.trans t1).trans t2) hD⟩
    · rw [a2.1, List.length_take, rowsOf_len]
      exact Nat.lt_of_le_of_lt (show _ ≤ 16 by omega) (by decide)
    · rw [List.take_add_one, er]
      exact Rows.put (Rows.snoc ((a2.keep t1).keep t2) upd_same) (t2 _ _ (t1 _ _ a1))
  · rintro H1 ⟨rs, a1, a2, a3⟩
    rw [List.take_of_length_le (by rw [rowsOf_len]; exact Nat.le_refl _)] at a2
    exact kk D rs H1 a3 hD a1 a2
theorem ret_tup {K : PySem.W.Frag} {te : TE} {D : Ends} {σ : L2.St} {H : Hp} (h : te σ H fun x H1 => rTupOf K [x] H1 D.rt) : tRet (tCB (rTupOf K) (tCons te tNil)) D σ H := h
section
variable {P : Program} {w : World} {K : PySem.W.Frag} {mg : Str → Option Value} {base : Heap} (T : Top K mg)
theorem ok_in_rows : FnOk P w K mg base (L2.CX P w) 1 T.in_rows.a T.in_rows.d ["numbers", "width"] spInRows := by
  refine T.in_rows.f.okX sc_in_rows (fun vs H Q E h => ?_) (fun cdv A outer s H vs Q E hr h => ?_)
  · obtain ⟨q, ns, h, w, rfl, _⟩ := h
    rfl
  · obtain ⟨q, ns, h, w, rfl, hq, hl, h1, h2, w1, w2, k⟩ := h
    refine ⟨_, pss_one (ps_ret (pe_callTy (show CallR _ _ (rTupOf K) from call_tuple_of) (by rfl) T.b_tuple (by decide +kernel) (pa_cons (pe_lc (own := [("at", 2)]) (g := gName 2) (tt := tYes) rfl sc_in_rows.nd (pi_range3 (by rfl) T.b_range (pa_cons pe_int (pa_cons (pe_callB (show CallR _ _ (rLenQ K) from call_len_seq) (by rfl) T.b_len PySem.boot_len (pa_cons (pv 0) pa_nil)) (pa_cons (pv 1) pa_nil))))
        (blkOk_by (own := [("at", 2)]) (N := ["numbers", "width", "at"]) (sc := defScope s_in_rows) (by decide +kernel)) (fun _ _ _ _ _ => pg_name (i := 2) sc_in_rows.nd rfl (Or.inl rfl)) (fun _ _ _ _ _ => pts_nil)
        (fun _ _ _ _ _ => pe_callTy (show CallR _ _ (rTupOf K) from call_tuple_of) (by rfl) T.b_tuple (by decide +kernel) (pa_cons (pe_slice (show SlR _ (rSlL K) from sl_list) (pv 0) (po_some (pv 2)) (po_some (pe_op op_add (pv 2) (pv 1)))) pa_nil))) pa_nil))), ?_⟩
    refine ret_tup (rows_read (σ := [some (.ref q), some (.int w), none]) (i := 0) (j := 1) (k := 2) hq hl h1 h2 w1 w2 (fun _ => rfl) (fun _ => rfl) (fun _ => rfl) (fun _ => rfl) rfl rfl rfl fun D rs H1 m f l r => ?_)
    refine ⟨D, rs, rfl, .inl ⟨SqL.of l, fun p hp => k p _ (m.trans (Same.new hp)) (m.free hp) ?_⟩⟩
    exact Rows.pn (r.keep (Same.new hp)) upd_same (by rw [rowsOf_len]; exact h1) (by rw [rowsOf_len]; exact h2) w1 w2 (rowsOf_ws hl)
end
end K17
namespace K17
open PySem PySem.Spec PyProof.Rows L2 PySem.W LamX KA KW KU KL KT
open Evl (pss_cut tCut)
/-! ### lifted -/
theorem flat_at : ∀ {nss : List (List Int)} {w y x : Nat}, (∀ r ∈ nss, r.length = w) → y < nss.length → x < w → nss.flatten.getD (y * w + x) 0 = (nss.getD y []).getD x 0
  | [], _, _, _, _, hy, _ => absurd hy (Nat.not_lt_zero _)
  | r :: nss, w, 0, x, ws, _, hx => by
    have l := ws r List.mem_cons_self
    rw [List.flatten_cons, List.getD_eq_getElem?_getD, Nat.zero_mul, Nat.zero_add, List.getElem?_append_left (by omega)]
    rfl
  | r :: nss, w, y + 1, x, ws, hy, hx => by
    have l := ws r List.mem_cons_self
    have ih := flat_at (nss := nss) (w := w) (y := y) (x := x) (fun q hq => ws q (List.mem_cons_of_mem _ hq)) (Nat.lt_of_succ_lt_succ hy) hx
    rw [List.flatten_cons, List.getD_eq_getElem?_getD, Nat.succ_mul, List.getElem?_append_right (by omega)]
    rw [show y * w + w + x - r.length = y * w + x by omega]
    rw [List.getD_eq_getElem?_getD] at ih
    rw [ih]
    rfl
theorem flat_len : ∀ {nss : List (List Int)} {w : Nat}, (∀ r ∈ nss, r.length = w) → nss.flatten.length = nss.length * w
  | [], w, _ => by simp
  | r :: nss, w, ws => by
    rw [List.flatten_cons, List.length_append, ws r List.mem_cons_self, flat_len fun q hq => ws q (List.mem_cons_of_mem _ hq), List.length_cons, Nat.succ_mul]
    omega
def spCheckRect (K : PySem.W.Frag) (C : Addr) : Sp := fun vs H Q E => ∃ x o, vs = [x] ∧ Th K H x o ∧ (rowsB o = true → ∀ H', Same H H' → Q .non H') ∧ (rowsB o = false → ∀ H', Same H H' → E (.ref C) none H')
/-- what a rectangle is made to, else refused -/
def spMade (K : PySem.W.Frag) (C : Addr) (g : List (List Int) → Nat → List Int) : Sp := fun vs H Q E => ∃ x o, vs = [x] ∧ Th K H x o ∧ (rowsB o = false → ∀ H', Same H H' → E (.ref C) none H') ∧
  (∀ a nss w, x = .ref a → Pn H a nss w → ∀ p H', Same H H' → Pn H' p (rowsOf (g nss w) nss.length w) w → Q (.ref p) H')
def liftG (nss : List (List Int)) (w : Nat) : List Int := liftL (fOf nss.flatten w) nss.length w
/-- the loop of lifted, when j areas are done from behind -/
structure Lf (H0 : Hp) (f : Nat → Nat → Int) (h w : Nat) (us : List V) (ra fm fd : Addr) (j : Nat) (H : Hp) : Prop where
  s : Same H0 H
  m : ∃ ms : List Int, H fm = some (.lst (ms.map V.int)) ∧ ms.length = 2 * (h * w) - 1 ∧ ∀ (i : Nat) (a : Ar), 2 * (h * w) - 1 - j ≤ i → (areasL h w)[i]? = some a → ms[i]? = some (mean f a)
  d : H fd = some (.lst (((((areasL h w).drop (2 * (h * w) - 1 - j)).filter Ar.inn).map (diff f)).reverse.map V.int))
  fmd : fm ≠ fd
theorem ixN_nat {n j : Nat} (h : j < n) : ixN n (j : Int) = some j := by
  unfold ixN
  rw [if_pos (by omega), if_pos (by omega)]
  rfl
theorem upd2 {H : Hp} {a b : Addr} {o : HO} {u : Option HO} (h : H a = u) (n : a ≠ b) : (upd H b o) a = u := (upd_ne n).trans h
section
variable {P : Program} {w : World} {K : PySem.W.Frag} {mg : Str → Option Value} {base : Heap} (T : Top K mg)
theorem ok_check_rectangle : FnOk P w K mg base (L2.CX P w) 4 T.check_rectangle.a T.check_rectangle.d ["rectangle"] (spCheckRect K T.BadRectangle.C) := by
  refine T.check_rectangle.f.okX sc_check_rectangle (fun vs H Q E h => ?_) (fun cdv A outer s H vs Q E hr h => ?_)
  · obtain ⟨x, o, rfl, _⟩ := h
    rfl
  · obtain ⟨x, o, rfl, th, k1, k2⟩ := h
    refine ⟨_, pss_one (ps_if (pt_not (pt_val (pe_call (ok_is_rows T) hr (by rfl) T.is_rows.m T.is_rows.f.kp (bd_is_rows T) .nil passE (pa_cons (pv 0) pa_nil))))
        (pss_one (ps_raiseT rfl rfl T.BadRectangle (by rfl) rfl (takes_of rfl rfl rfl rfl))) pss_nil), ?_⟩
    refine ⟨_, rfl, x, o, rfl, th, fun H1 s1 => ⟨_, rfl, ?_⟩⟩
    cases hg : rowsB o
    · exact iteT (k2 hg H1 s1)
    · exact iteF (k1 hg H1 s1)
end
end K17
namespace K17
open PySem PySem.Spec PyProof.Rows L2 PySem.W LamX KA KW KU KL KT
open Evl (pss_cut tCut)
/-! ### unlifted -/
theorem walk_core {J : It} {n : Nat} {G : Hp → Prop} {Y : Nat → Hp → V → Hp → Prop} (w : Walk J n G Y) {H1 : Hp} {Stop : Hp → Prop} {Body : (Hp → Prop) → V → Hp → Prop} (Pv : Nat → Hp → Prop) (h0 : Pv 0 H1) (hG : ∀ i H, i ≤ n → Pv i H → G H)
    (hs : ∀ i x H H', i < n → Pv i H → Y i H x H' → Body (Pv (i + 1)) x H') (hd : ∀ H, Pv n H → Stop H) :
    ∃ W : Nat → Nat → Hp → Prop, (∃ m, W 0 m H1) ∧ ∀ i m H, W i m H → (J.stop i H ∧ Stop H) ∨ (J.go i H ∧ ∃ Nx : Hp → Prop, (∀ H', Nx H' → ∃ m', m' < m ∧ W (i + 1) m' H') ∧ ∀ x H', J.yld i H x H' → Body Nx x H') := by
  refine ⟨fun i m H => m = n - i ∧ i ≤ n ∧ Pv i H, ⟨n, by simp, Nat.zero_le _, h0⟩, ?_⟩
  rintro i m H ⟨rfl, hi, p⟩
  have q := hG i H hi p
  by_cases hlt : i < n
  · exact .inr ⟨w.goes i H hlt q, Pv (i + 1), fun H' p' => ⟨n - (i + 1), by omega, rfl, hlt, p'⟩, fun x H' y => hs i x H H' hlt p (w.yields i H x H' hlt q y)⟩
  · have e : i = n := by omega
    subst e
    exact .inl ⟨w.stops H q, hd H p⟩
theorem take_flat {nss : List (List Int)} {i : Nat} {r : List Int} (h : nss[i]? = some r) : (nss.take (i + 1)).flatten = (nss.take i).flatten ++ r := by
  rw [List.take_add_one, h, List.flatten_append]
  simp
/-- [number for row in pane for number in row] -/
theorem flat_read {K : PySem.W.Frag} {H : Hp} {a : Addr} {nss : List (List Int)} {w : Nat} {Qd : V → Hp → Prop} {i j k : Nat} {σ : L2.St} (pn : Pn H a nss w) (e0 : σ[i]? = some (some (V.ref a)))
    (hj : ∀ x : V, ∃ σ2 : L2.St, σ2 = (wipe σ [j, k]).set j (some x) ∧ wipe σ2 [j, k] = wipe σ [j, k] ∧ σ2[j]? = some (some x) ∧ ∀ y : V, ((wipe σ2 [k]).set k (some y))[k]? = some (some y) ∧ wipe ((wipe σ2 [k]).set k (some y)) [k] = wipe σ2 [k])
    (kk : ∀ (D : Addr) (H' : Hp), Same H H' → H D = none → H' D = some (.lst (nss.flatten.map V.int)) → Qd (.ref D) H') :
    tLc2 (iTup K (tVar i)) (gName j) tYes (iTup K (tVar j)) (gName k) tYes (tVar k) [j, k] [k] σ H Qd := by
  obtain ⟨vs, ea, rows⟩ := pn.rows
  refine ⟨_, e0, a, rfl, ⟨_, SqT.of ea⟩, fun D hD => ?_⟩
  refine walk_core (w := walk_tup (K := K) (a := a) (xs := vs)) (Body := fun Nx x H' => gName j x (wipe σ [j, k]) H' fun σ2 H2 => wipe σ2 [j, k] = wipe σ [j, k] ∧ tYes σ2 H2 fun b H3 => if b = true then iTup K (tVar j) σ2 H3 fun J1 H4 => ∃ W1 : Nat → Nat → Hp → Prop, (∃ m, W1 0 m H4) ∧ ∀ j' k' H, W1 j' k' H →
      (J1.stop j' H ∧ Nx H) ∨ (J1.go j' H ∧ ∃ Nx1 : Hp → Prop, (∀ H', Nx1 H' → ∃ k'', k'' < k' ∧ W1 (j' + 1) k'' H') ∧ ∀ x H', J1.yld j' H x H' → gName k x (wipe σ2 [k]) H' fun σ3 H5 => wipe σ3 [k] = wipe σ2 [k] ∧ tYes σ3 H5 fun b H6 =>
        if b = true then tVar k σ3 H6 fun y H7 => ∃ acc, H7 D = some (.lst acc) ∧ acc.length < sizeLine ∧ Nx1 (upd H7 D (.lst (acc ++ [y]))) else Nx1 H6) else Nx H3)
    (fun n H' => H' D = some (.lst ((nss.take n).flatten.map V.int)) ∧ Same H H') ⟨upd_same, Same.new hD⟩ (fun _ H' _ q => SqT.of (q.2 _ _ ea)) ?_ ?_
  · rintro n x H2 H3 hn ⟨q1, q2⟩ ⟨rfl, hx⟩
    obtain ⟨b, ns, rfl, hns, eb⟩ := rows.2 n x hx
    obtain ⟨σ2, es, ew, ej, ek⟩ := hj (.ref b)
    have ln := pn.ws ns (List.mem_of_getElem? hns)
    show wipe ((wipe σ [j, k]).set j _) [j, k] = wipe σ [j, k] ∧ _
    rw [← es]
    refine ⟨ew, ?_⟩
    dsimp only [tYes]
    rw [if_pos rfl]
    refine ⟨_, ej, b, rfl, ⟨_, SqT.of (q2 _ _ eb)⟩, ?_⟩
    refine walk_core (w := walk_tup (K := K) (a := b) (xs := ns.map V.int)) (Body := fun Nx1 x H' => gName k x (wipe σ2 [k]) H' fun σ3 H5 => wipe σ3 [k] = wipe σ2 [k] ∧ tYes σ3 H5 fun b H6 =>
        if b = true then tVar k σ3 H6 fun y H7 => ∃ acc, H7 D = some (.lst acc) ∧ acc.length < sizeLine ∧ Nx1 (upd H7 D (.lst (acc ++ [y]))) else Nx1 H6)
      (fun m H' => H' D = some (.lst (((nss.take n).flatten ++ ns.take m).map V.int)) ∧ Same H H') ⟨by simpa using q1, q2⟩ (fun _ H' _ q => SqT.of (q.2 _ _ eb)) ?_ ?_
    · rintro m y H4 H5 hm ⟨r1, r2⟩ ⟨rfl, hy⟩
      obtain ⟨v, hv, rfl⟩ : ∃ v, ns[m]? = some v ∧ y = V.int v := by
        rw [List.getElem?_map] at hy
        cases e : ns[m]? with
        | none => rw [e] at hy; cases hy
        | some v => rw [e] at hy; exact ⟨v, rfl, (Option.some.inj hy).symm⟩
      obtain ⟨ek1, ek2⟩ := ek (.int v)
      refine ⟨ek2, ?_⟩
      dsimp only [tYes]
      rw [if_pos rfl]
      refine ⟨_, ek1, _, r1, ?_, ?_, Same.put r2 hD⟩
      · rw [List.length_map, List.length_append]
        have l1 : ((nss.take n).flatten).length ≤ 256 := by
          rw [flat_len (w := w) fun r hr => pn.ws r (List.mem_of_mem_take hr)]
          exact Nat.mul_le_mul (Nat.le_trans (by rw [List.length_take]; exact Nat.min_le_right _ _) pn.h2) pn.w2
        have l2 : (ns.take m).length ≤ 16 := by
          rw [List.length_take, ln]
          exact Nat.le_trans (Nat.min_le_right _ _) pn.w2
        exact Nat.lt_of_le_of_lt (show _ ≤ 300 by omega) (by decide)
      · rw [upd_same, List.take_add_one, hv]
        simp
    · rintro H4 ⟨r1, r2⟩
      have et : ns.take (ns.map V.int).length = ns := List.take_of_length_le (by rw [List.length_map]; exact Nat.le_refl _)
      rw [et] at r1
      exact ⟨by rw [take_flat hns]; exact r1, r2⟩
  · rintro H2 ⟨q1, q2⟩
    rw [List.take_of_length_le (by rw [rows.1]; exact Nat.le_refl _)] at q1
    exact kk D H2 q2 hD q1
theorem rows_range {h w : Nat} (h1 : 1 ≤ h) (w1 : 1 ≤ w) (g : Nat → Nat → Int) : rowsOf ((List.range (h * w)).map fun j => g (j / w) (j % w)) h w = (List.range h).map fun y => (List.range w).map fun x => g y x := by
  unfold rowsOf
  refine List.map_congr_left fun y hy => ?_
  have hy := List.mem_range.mp hy
  have ny : y * w + w ≤ h * w := by
    have : (y + 1) * w ≤ h * w := Nat.mul_le_mul_right w hy
    rw [Nat.succ_mul] at this
    exact this
  refine List.ext_getElem ?_ fun x a b => ?_
  · rw [List.length_take, List.length_drop, List.length_map, List.length_range, List.length_map, List.length_range]
    omega
  · have hx : x < w := by simpa using b
    rw [List.getElem_take, List.getElem_drop, List.getElem_map, List.getElem_map, List.getElem_range, List.getElem_range]
    rw [show (y * w + x) / w = y by rw [Nat.mul_comm, Nat.mul_add_div w1, Nat.div_eq_of_lt hx, Nat.add_zero], show (y * w + x) % w = x by rw [Nat.mul_comm, Nat.mul_add_mod, Nat.mod_eq_of_lt hx]]
/-! the loop of lowest -/
def cellN (h w : Nat) (m g : Nat → Int) (n y x : Nat) : Int := if (areasL h w).idxOf ⟨y, x, 1, 1⟩ < n then cellV h w (up h w m g) y x else 0
structure Lo (H0 : Hp) (h w : Nat) (m g : Nat → Int) (fm rs : Addr) (ds : List Addr) (n : Nat) (H : Hp) : Prop where
  s : Same H0 H
  me : ∃ ms : List Int, H fm = some (.lst (ms.map V.int)) ∧ ms.length = 2 * (h * w) - 1 ∧ ∀ (i : Nat) (x : Int), (upL h w m g n)[i]? = some x → ms[i]? = some x
  r : H rs = some (.lst (ds.map V.ref))
  c : ∀ (y : Nat) (d : Addr), ds[y]? = some d → H d = some (.lst (((List.range w).map fun x => cellN h w m g n y x).map V.int))
theorem upL_succ {h w n : Nat} {m g : Nat → Int} {a : Ar} (e : (areasL h w)[n]? = some a) : upL h w m g (n + 1) = if a.inn = true then upL h w m g n ++ [(upL h w m g n).getD n 0 - g (kth h w (n + 1)) / 2, (upL h w m g n).getD n 0 + m (kth h w (n + 1)) - m (kth h w (n + 1)) / 2] else upL h w m g n := by
  show (match (areasL h w)[n]? with | some a => _ | none => _ : List Int) = _
  rw [e]
theorem cellN_zero {h w : Nat} {m g : Nat → Int} {y x : Nat} : cellN h w m g 0 y x = 0 := by
  unfold cellN
  rw [if_neg (Nat.not_lt_zero _)]
theorem cellN_step {h w n : Nat} (h1 : 1 ≤ h) (w1 : 1 ≤ w) {m g : Nat → Int} {a : Ar} (e : (areasL h w)[n]? = some a) {y x : Nat} (ne : (⟨y, x, 1, 1⟩ : Ar) ≠ a) (hy : y < h) (hx : x < w) : cellN h w m g (n + 1) y x = cellN h w m g n y x := by
  obtain ⟨j, ej⟩ := List.getElem?_of_mem (leaf_at h1 w1 hy hx)
  have ix := idx_at h1 w1 ej
  have nj : j ≠ n := fun z => by
    subst z
    rw [ej] at e
    exact ne (Option.some.inj e)
  unfold cellN
  rw [ix]
  by_cases c : j < n
  · rw [if_pos c, if_pos (by omega)]
  · rw [if_neg c, if_neg (by omega)]
theorem cellN_at {h w n : Nat} (h1 : 1 ≤ h) (w1 : 1 ≤ w) {m g : Nat → Int} {y x : Nat} (e : (areasL h w)[n]? = some ⟨y, x, 1, 1⟩) {v : Int} (hv : (up h w m g)[n]? = some v) : cellN h w m g (n + 1) y x = v := by
  unfold cellN
  rw [idx_at h1 w1 e, if_pos (Nat.lt_succ_self _)]
  unfold cellV
  rw [idx_at h1 w1 e, List.getD_eq_getElem?_getD, hv]
  rfl
theorem cellN_all {h w : Nat} (h1 : 1 ≤ h) (w1 : 1 ≤ w) {m g : Nat → Int} {y x : Nat} (hy : y < h) (hx : x < w) : cellN h w m g (2 * (h * w) - 1) y x = cellV h w (up h w m g) y x := by
  obtain ⟨j, ej⟩ := List.getElem?_of_mem (leaf_at h1 w1 hy hx)
  have := (List.getElem?_eq_some_iff.mp ej).1
  rw [areas_len h1 w1] at this
  unfold cellN
  rw [idx_at h1 w1 ej, if_pos this]
theorem Lo.same {H0 H H' : Hp} {h w : Nat} {m g : Nat → Int} {fm rs : Addr} {ds : List Addr} {n : Nat} (B : Lo H0 h w m g fm rs ds n H) (e : Same H H') : Lo H0 h w m g fm rs ds n H' := by
  obtain ⟨ms, b1, b2⟩ := B.me
  exact ⟨B.s.trans e, ⟨ms, e _ _ b1, b2⟩, e _ _ B.r, fun y d hd => e _ _ (B.c y d hd)⟩
theorem row_set {w l : Nat} {f g : Nat → Int} {v : Int} (hl : l < w) (e1 : g l = v) (e2 : ∀ x, x < w → x ≠ l → g x = f x) : ((List.range w).map f).set l v = (List.range w).map g := by
  refine List.ext_getElem (by simp) fun x a b => ?_
  have hx : x < w := by simpa using b
  rw [List.getElem_set]
  by_cases c : l = x
  · subst c
    simp [e1]
  · simp [c, e2 x hx (Ne.symm c)]
def downG (nss mss : List (List Int)) (w : Nat) : List Int := downL nss.length w (numAt nss.flatten) (numAt mss.flatten)
def spLowest : Sp := fun vs H Q _ => ∃ a b nss mss w, vs = [.ref a, .ref b] ∧ Pn H a nss w ∧ Pn H b mss w ∧ mss.length = nss.length ∧ ∀ p H', Same H H' → Pn H' p (rowsOf (downG nss mss w) nss.length w) w → Q (.ref p) H'
section
variable {P : Program} {w : World} {K : PySem.W.Frag} {mg : Str → Option Value} {base : Heap} (T : Top K mg)
theorem ok_lowest : FnOk P w K mg base (L2.CX P w) 5 T.lowest.a T.lowest.d ["lows", "highs"] spLowest := by
  refine T.lowest.f.okX sc_lowest (fun vs H Q E h => ?_) (fun cdv A outer s H vs Q E hr h => ?_)
  · obtain ⟨a, bb, nss, mss, w, rfl, _⟩ := h
    rfl
  · obtain ⟨a, bb, nss, mss, wn, rfl, pn, pnb, lm, k⟩ := h
    refine ⟨_, pss_cons (ps_asg (pe_tup (pa_cons (pe_callB call_len_seq (by rfl) T.b_len PySem.boot_len (pa_cons (pv 0) pa_nil)) (pa_cons (pe_callB call_len_seq (by rfl) T.b_len PySem.boot_len (pa_cons (pe_ix ix_tup (pv 0) pe_int (fun _ _ => rfl)) pa_nil)) pa_nil))) (pg_tup rfl (pgs_cons (pg_name (i := 2) sc_lowest.nd rfl (by first | exact .inl rfl | exact .inr rfl)) (pgs_cons (pg_name (i := 3) sc_lowest.nd rfl (by first | exact .inl rfl | exact .inr rfl)) pgs_nil))))
      (pss_cut (show PS _ _ (tAsg (tLc2 (iTup K (tVar 0)) (gName 14) tYes (iTup K (tVar 14)) (gName 15) tYes (tVar 15) [14, 15] [15]) (gName 4)) from ps_setLc2 (i := 4) (own := [("row", 14), ("number", 15)]) (vs1 := [15]) (wi1 := iTup K (tVar 14)) (te := tVar 15) (g := gName 14) (g1 := gName 15) (tt := tYes) (tt1 := tYes) rfl sc_lowest.nd rfl rfl (sw_true rfl rfl rfl (by decide +kernel)) (pi_tup (pv 0)) (blkOk_by (own := [("row", 14), ("number", 15)]) (N := ["lows", "highs", "height", "width", "least", "greatest", "all_areas", "means", "rows", "inner", "at", "area", "first", "second", "row", "number", "_"]) (sc := defScope s_lowest) (by decide +kernel)) (by decide)
          (fun _ _ _ _ _ => pg_name (i := 14) sc_lowest.nd rfl (Or.inl rfl)) (fun _ _ _ _ _ => pts_nil) (fun _ _ _ _ _ => pi_tup (pv 14)) (fun _ _ _ _ _ => pg_name (i := 15) sc_lowest.nd rfl (Or.inl rfl)) (fun _ _ _ _ _ => pts_nil) (fun _ _ _ _ _ => pv 15))
      (pss_cut (show PS _ _ (tAsg (tLc2 (iTup K (tVar 1)) (gName 14) tYes (iTup K (tVar 14)) (gName 15) tYes (tVar 15) [14, 15] [15]) (gName 5)) from ps_setLc2 (i := 5) (own := [("row", 14), ("number", 15)]) (vs1 := [15]) (wi1 := iTup K (tVar 14)) (te := tVar 15) (g := gName 14) (g1 := gName 15) (tt := tYes) (tt1 := tYes) rfl sc_lowest.nd rfl rfl (sw_true rfl rfl rfl (by decide +kernel)) (pi_tup (pv 1)) (blkOk_by (own := [("row", 14), ("number", 15)]) (N := ["lows", "highs", "height", "width", "least", "greatest", "all_areas", "means", "rows", "inner", "at", "area", "first", "second", "row", "number", "_"]) (sc := defScope s_lowest) (by decide +kernel)) (by decide)
          (fun _ _ _ _ _ => pg_name (i := 14) sc_lowest.nd rfl (Or.inl rfl)) (fun _ _ _ _ _ => pts_nil) (fun _ _ _ _ _ => pi_tup (pv 14)) (fun _ _ _ _ _ => pg_name (i := 15) sc_lowest.nd rfl (Or.inl rfl)) (fun _ _ _ _ _ => pts_nil) (fun _ _ _ _ _ => pv 15))
      (pss_cons (ps_set (i := 6) sc_lowest.nd rfl (by first | exact .inl rfl | exact .inr rfl) (pe_call (ok_list_areas T) (hr.mono (by decide)) (by rfl) T.list_areas.m T.list_areas.f.kp (bd_list_areas T) .nil passE (pa_cons (pv 2) (pa_cons (pv 3) pa_nil))))
      (pss_cons (ps_set (i := 7) sc_lowest.nd rfl (by first | exact .inl rfl | exact .inr rfl) (pe_op op_rep (pe_lst (pa_cons (pe_ix ix_list (pv 4) pe_int (fun _ _ => rfl)) pa_nil)) (pe_callB call_len_seq (by rfl) T.b_len PySem.boot_len (pa_cons (pv 6) pa_nil))))
      (pss_cut (ps_setLc (i := 8) (own := [("_", 16)]) (g := gName 16) (tt := tYes) rfl sc_lowest.nd rfl rfl (sw_true rfl rfl rfl (by decide +kernel)) (pi_range1 (by rfl) T.b_range (pa_cons (pv 2) pa_nil)) (blkOk_by (own := [("_", 16)]) (N := ["lows", "highs", "height", "width", "least", "greatest", "all_areas", "means", "rows", "inner", "at", "area", "first", "second", "row", "number", "_"]) (sc := defScope s_lowest) (by decide +kernel)) (fun _ _ _ _ _ => pg_name (i := 16) sc_lowest.nd rfl (Or.inl rfl)) (fun _ _ _ _ _ => pts_nil) (fun _ _ _ _ _ => pe_op op_rep (pe_lst (pa_cons pe_int pa_nil)) (pv 3)))
      (pss_cons (ps_set (i := 9) sc_lowest.nd rfl (.inl rfl) pe_int)
      (pss_cut (ps_for (passes_of rfl) rfl (pi_enum (by rfl) T.b_enumerate (pa_cons (pv 6) pa_nil)) (pg_tup rfl (pgs_cons (pg_name (i := 10) sc_lowest.nd rfl (.inl rfl)) (pgs_cons (pg_name (i := 11) sc_lowest.nd rfl (.inl rfl)) pgs_nil)))
        (pss_one (ps_if (pt_val (pe_call (ok_is_inner T) (hr.mono (by decide)) (by rfl) T.is_inner.m T.is_inner.f.kp (bd_is_inner T) .nil passE (pa_cons (pv 11) pa_nil)))
          (pss_cons (ps_aug (i := 9) sc_lowest.nd rfl (.inl rfl) pe_int ip_add)
          (pss_cons (ps_asg (pe_call (ok_halves_at T) (hr.mono (by decide)) (by rfl) T.halves_at.m T.halves_at.f.kp (bd_halves_at T) .nil passE (pa_cons (pv 9) pa_nil)) (pg_tup rfl (pgs_cons (pg_name (i := 12) sc_lowest.nd rfl (.inl rfl)) (pgs_cons (pg_name (i := 13) sc_lowest.nd rfl (.inl rfl)) pgs_nil))))
          (pss_cons (ps_asg (pe_op op_sub (pe_ix ix_list (pv 7) (pv 10) (fun _ _ => rfl)) (pe_op op_fdiv (pe_ix ix_list (pv 5) (pv 9) (fun _ _ => rfl)) pe_int)) (pg_sub (pv 7) (pv 12) set_list))
          (pss_one (ps_asg (pe_op op_sub (pe_op op_add (pe_ix ix_list (pv 7) (pv 10) (fun _ _ => rfl)) (pe_ix ix_list (pv 4) (pv 9) (fun _ _ => rfl))) (pe_op op_fdiv (pe_ix ix_list (pv 4) (pv 9) (fun _ _ => rfl)) pe_int)) (pg_sub (pv 7) (pv 13) set_list))))))
          (pss_one (ps_asg (pe_ix ix_list (pv 7) (pv 10) (fun _ _ => rfl)) (pg_sub (pe_ix ix_list (pv 8) (pe_ix ix_tup (pv 11) pe_int (fun _ _ => rfl)) (fun _ _ => rfl)) (pe_ix ix_tup (pv 11) pe_int (fun _ _ => rfl)) set_list))))))
      (pss_one (ps_ret (pe_callTy (show CallR _ _ (rTupOf K) from call_tuple_of) (by rfl) T.b_tuple (by decide +kernel) (pa_cons (pe_lc (own := [("row", 14)]) (g := gName 14) (tt := tYes) rfl sc_lowest.nd (pi_list (pv 8)) (blkOk_by (own := [("row", 14)]) (N := ["lows", "highs", "height", "width", "least", "greatest", "all_areas", "means", "rows", "inner", "at", "area", "first", "second", "row", "number", "_"]) (sc := defScope s_lowest) (by decide +kernel)) (fun _ _ _ _ _ => pg_name (i := 14) sc_lowest.nd rfl (Or.inl rfl)) (fun _ _ _ _ _ => pts_nil) (fun _ _ _ _ _ => pe_callTy (show CallR _ _ (rTupOf K) from call_tuple_of) (by rfl) T.b_tuple (by decide +kernel) (pa_cons (pv 14) pa_nil))) pa_nil))))))))))), ?_⟩
    obtain ⟨vs, ea, rows⟩ := pn.rows
    have h1 := pn.h1
    have h2 := pn.h2
    have w1 := pn.w1
    have w2 := pn.w2
    have ws := pn.ws
    obtain ⟨v0, hv0⟩ : ∃ v0, vs[0]? = some v0 := ⟨_, List.getElem?_eq_getElem (by rw [rows.1]; omega)⟩
    obtain ⟨b0, n0, rfl, hn0, eb0⟩ := rows.2 0 v0 hv0
    have l0 : (n0.map V.int).length = wn := by rw [List.length_map]; exact ws n0 (List.mem_of_getElem? hn0)
    have lv := rows.1
    have fl := flat_len ws
    have flb : mss.flatten.length = nss.length * wn := by rw [flat_len pnb.ws, lm]
    refine ⟨_, rfl, a, vs, rfl, .inr (SqT.of ea), _, rfl, a, vs, 0, _, rfl, rfl, SqT.of ea, atI_nat (j := 0) hv0, b0, _, rfl, .inr (SqT.of eb0), (by show 2 ≤ sizeLine; decide), fun p hp => ⟨p, _, rfl, SqT.of upd_same, rfl, _, _, rfl, _, _, rfl, rfl, ?_⟩⟩
    rw [lv, l0] at *
    have s1 := Same.new (o := .tup [V.int ((nss.length : Nat) : Int), .int ((wn : Nat) : Int)]) hp
    have pn1 := pn.keep s1
    have pnb1 := pnb.keep s1
    generalize upd H p (.tup [V.int ((nss.length : Nat) : Int), .int ((wn : Nat) : Int)]) = H1 at s1 pn1 pnb1 ⊢
    -- least, greatest
    refine ⟨fun σ' H' => ∃ D, σ' = [some (.ref a), some (.ref bb), some (.int (nss.length : Nat)), some (.int (wn : Nat)), some (.ref D), none, none, none, none, none, none, none, none, none, none, none, none] ∧ Same H1 H' ∧ H' D = some (.lst (nss.flatten.map V.int)), ?_, ?_⟩
    · exact flat_read (i := 0) (j := 14) (k := 15) pn1 rfl (fun x => ⟨_, rfl, rfl, rfl, fun y => ⟨rfl, rfl⟩⟩) fun D H' m f l => ⟨D, rfl, m, l⟩
    rintro σ' H2 ⟨da, rfl, m2, hda⟩
    refine ⟨fun σ' H' => ∃ D, σ' = [some (.ref a), some (.ref bb), some (.int (nss.length : Nat)), some (.int (wn : Nat)), some (.ref da), some (.ref D), none, none, none, none, none, none, none, none, none, none, none] ∧ Same H2 H' ∧ H' D = some (.lst (mss.flatten.map V.int)), ?_, ?_⟩
    · exact flat_read (i := 1) (j := 14) (k := 15) (pnb1.keep m2) rfl (fun x => ⟨_, rfl, rfl, rfl, fun y => ⟨rfl, rfl⟩⟩) fun D H' m f l => ⟨D, rfl, m, l⟩
    rintro σ' H3 ⟨db, rfl, m3, hdb⟩
    refine ⟨_, rfl, _, rfl, nss.length, wn, rfl, h1, h2, w1, w2, fun q us H4 m4 f4 l4 al => ?_⟩
    have sH : Same H H4 := ((s1.trans m2).trans m3).trans m4
    have hda4 := m4 _ _ (m3 _ _ hda)
    have hdb4 := m4 _ _ hdb
    generalize hh : nss.length = h at *
    generalize hns : nss.flatten = ns at *
    generalize hgs : mss.flatten = gs at *
    clear s1 pn1 pnb1 pnb m2 m3 m4 hda hdb H1 H2 H3 f4
    have lenA := areas_len h1 w1
    have lu : us.length = 2 * (h * wn) - 1 := by rw [al.len, lenA]
    have hw1 := Nat.mul_pos h1 w1
    have hw2 : h * wn ≤ 16 * 16 := Nat.mul_le_mul h2 w2
    obtain ⟨x0, hx0⟩ : ∃ x0, ns[0]? = some x0 := ⟨_, List.getElem?_eq_getElem (by omega)⟩
    have num0 : numAt ns 0 = x0 := by
      unfold numAt
      rw [List.getD_eq_getElem?_getD, hx0]
      rfl
    refine ⟨_, rfl, da, _, 0, _, rfl, rfl, SqL.of hda4, atI_nat (j := 0) (by rw [List.getElem?_map, hx0]; rfl), (by show 1 ≤ sizeLine; decide), fun p1 hp1 => ?_⟩
    have t1 := Same.new (o := .lst [V.int x0]) hp1
    refine ⟨_, rfl, q, us, rfl, .inl (SqL.of (t1 _ _ l4)), p1, ((us.length : Nat) : Int), _, rfl, rfl, upd_same, by omega, by omega, ?_, fun fm hfm => ?_⟩
    · rw [Int.toNat_natCast, lu]
      exact Nat.le_trans (show 1 * (2 * (h * wn) - 1) ≤ 511 by omega) (by decide)
    have t2 := Same.new (o := .lst (List.replicate ((us.length : Nat) : Int).toNat [V.int x0]).flatten) hfm
    have fmf : H4 fm = none := t1.free hfm
    have hm0 : (upd (upd H4 p1 (.lst [V.int x0])) fm (.lst (List.replicate ((us.length : Nat) : Int).toNat [V.int x0]).flatten)) fm = some (.lst ((List.replicate (2 * (h * wn) - 1) x0).map V.int)) := by
      rw [upd_same, Int.toNat_natCast, lu]
      congr 2
      generalize 2 * (h * wn) - 1 = N
      induction N with
      | zero => rfl
      | succ n ih => simp [List.replicate_succ]
    have sm5 := t1.trans t2
    generalize upd (upd H4 p1 (.lst [V.int x0])) fm (.lst (List.replicate ((us.length : Nat) : Int).toNat [V.int x0]).flatten) = H5 at sm5 hm0 ⊢
    -- rows
    refine ⟨fun σ' H' => ∃ (rs : Addr) (ds : List Addr), σ' = [some (.ref a), some (.ref bb), some (.int (h : Nat)), some (.int (wn : Nat)), some (.ref da), some (.ref db), some (.ref q), some (.ref fm), some (.ref rs), none, none, none, none, none, none, none, none] ∧ ds.length = h ∧ Same H5 H' ∧ H' rs = some (.lst (ds.map V.ref)) ∧ ds.Nodup ∧ ∀ d ∈ ds, H5 d = none ∧ d ≠ rs ∧ H' d = some (.lst (List.replicate wn (V.int 0))), ?_, ?_⟩
    · refine ⟨_, rfl, _, rfl, by omega, by omega, fun D hD => lc_it walk_range (fun i H' => ∃ ds : List Addr, ds.length = i ∧ Same H5 H' ∧ H' D = some (.lst (ds.map V.ref)) ∧ ds.Nodup ∧ ∀ d ∈ ds, H5 d = none ∧ d ≠ D ∧ H' d = some (.lst (List.replicate wn (V.int 0)))) ⟨[], rfl, Same.new hD, upd_same, List.nodup_nil, fun d hd => nomatch hd⟩ (fun _ _ _ _ => trivial) ?_ ?_⟩
      · rintro i x H6 H7 hi ⟨ds, b1, b2, b3, b4, b5⟩ ⟨rfl, rfl⟩
        refine ⟨rfl, ?_⟩
        dsimp only [tYes]
        rw [if_pos rfl]
        have hi : i < h := by omega
        refine ⟨(by show 1 ≤ sizeLine; decide), fun p2 hp2 => ⟨_, rfl, p2, ((wn : Nat) : Int), _, rfl, rfl, upd_same, by omega, by omega, ?_, fun d hd => ?_⟩⟩
        · rw [Int.toNat_natCast]
          exact Nat.le_trans (show 1 * wn ≤ 16 by omega) (by decide)
        have u1 := Same.new (o := .lst [V.int 0]) hp2
        have u2 := Same.new (o := .lst (List.replicate ((wn : Nat) : Int).toNat [V.int 0]).flatten) hd
        have er : (List.replicate ((wn : Nat) : Int).toNat [V.int 0]).flatten = List.replicate wn (V.int 0) := by
          rw [Int.toNat_natCast]
          clear hp2 hd u1 u2
          generalize wn = n
          induction n with
          | zero => rfl
          | succ n ih => simp [List.replicate_succ]
        have hd6 : H7 d = none := u1.free hd
        have dD : d ≠ D := fun z => by rw [z, b3] at hd6; cases hd6
        refine ⟨_, u2 _ _ (u1 _ _ b3), ?_, ds ++ [d], by simp [b1], ?_, by rw [upd_same, List.map_append]; rfl, ?_, fun c hc => ?_⟩
        · rw [List.length_map, b1]
          exact Nat.lt_of_lt_of_le hi (Nat.le_trans h2 (by decide))
        · exact Same.put ((b2.trans u1).trans u2) hD
        · rw [List.nodup_append]
          refine ⟨b4, by simp, fun c hc e he z => ?_⟩
          rw [List.mem_singleton.mp he] at z
          rw [z] at hc
          rw [(b5 d hc).2.2] at hd6
          cases hd6
        · rcases List.mem_append.mp hc with z | z
          · obtain ⟨c1, c2, c3⟩ := b5 c z
            exact ⟨c1, c2, (upd_ne c2).trans (u2 _ _ (u1 _ _ c3))⟩
          · rw [List.mem_singleton.mp z]
            refine ⟨b2.free hd6, dD, ?_⟩
            rw [upd_ne dD, upd_same, er]
      · rintro H6 ⟨ds, b1, b2, b3, b4, b5⟩
        exact ⟨D, ds, rfl, by omega, b2, b3, b4, b5⟩
    rintro σ' H6 ⟨rs, ds, rfl, ld, sm6, hrs, nds, hds⟩
    have dsf : ∀ d ∈ ds, H4 d = none := fun d hd => sm5.free (hds d hd).1
    have fmn : ∀ d ∈ ds, d ≠ fm := fun d hd z => by
      have := (hds d hd).1
      rw [z, hm0] at this
      cases this
    have rfn : rs ≠ fm := fun z => by
      rw [z, sm6 _ _ hm0] at hrs
      have := Option.some.inj hrs
      have := HO.lst.inj this
      have l := congrArg List.length this
      rw [List.length_map, List.length_map, List.length_replicate, ld] at l
      cases ds with
      | nil => simp at ld; omega
      | cons d ds =>
        have g := congrArg (fun x : List V => x[0]?) this
        rw [List.getElem?_map, List.getElem?_replicate] at g
        split at g
        · cases g
        · omega
    have B0 : Lo H4 h wn (numAt ns) (numAt gs) fm rs ds 0 H6 := by
      refine ⟨sm5.trans sm6, ⟨_, sm6 _ _ hm0, List.length_replicate .., fun i x e => ?_⟩, hrs, fun y d hd => ?_⟩
      · cases i with
        | zero =>
          have : some (numAt ns 0) = some x := e
          rw [num0] at this
          rw [List.getElem?_replicate, if_pos (by omega), this]
        | succ i =>
          have : ([numAt ns 0] : List Int)[i + 1]? = some x := e
          simp at this
      · rw [(hds d (List.mem_of_getElem? hd)).2.2]
        congr 2
        refine List.ext_getElem (by simp) fun x a b => ?_
        simp [cellN_zero]
    have dne : ∀ {y z : Nat} {d e : Addr}, ds[y]? = some d → ds[z]? = some e → y ≠ z → d ≠ e := fun {y z d e} a b n q => by
      subst q
      exact n ((List.getElem?_inj (List.getElem?_eq_some_iff.mp a).1 nds).mp (a.trans b.symm))
    clear hds hrs sm6 hm0 t1 t2 hp1 hfm
    refine ⟨fun σ' H' => (∃ v9 v10 v11 v12 v13, σ' = [some (.ref a), some (.ref bb), some (.int (h : Nat)), some (.int (wn : Nat)), some (.ref da), some (.ref db), some (.ref q), some (.ref fm), some (.ref rs), v9, v10, v11, v12, v13, none, none, none]) ∧ Lo H4 h wn (numAt ns) (numAt gs) fm rs ds (2 * (h * wn) - 1) H', ?_, ?_⟩
    · refine ⟨_, rfl, q, us, rfl, SqL.of (B0.s _ _ l4), for_it walk_enum (fun n σ H => (∃ (c : Int) (v10 v11 v12 v13 : Option V), c = ((kth h wn n : Nat) : Int) ∧ σ = [some (.ref a), some (.ref bb), some (.int (h : Nat)), some (.int (wn : Nat)), some (.ref da), some (.ref db), some (.ref q), some (.ref fm), some (.ref rs), some (.int c), v10, v11, v12, v13, none, none, none]) ∧ Lo H4 h wn (numAt ns) (numAt gs) fm rs ds n H)
        ⟨⟨0, none, none, none, none, rfl, rfl⟩, B0⟩ (fun i σ H _ q' => SqL.of (q'.2.s _ _ l4)) ?_ fun σ H q' => ?_⟩
      · rintro n x σ H7 H8 hn ⟨⟨c, v10, v11, v12, v13, ec, rfl⟩, B⟩ ⟨T, x1, x2, rfl, hT, rfl, ex1, ex2⟩
        cases ex1
        rw [lu] at hn
        obtain ⟨ai, hai⟩ : ∃ ai, (areasL h wn)[n]? = some ai := ⟨_, List.getElem?_eq_getElem (by rw [lenA]; exact hn)⟩
        obtain ⟨qa, hqa, eqa⟩ := al.at_ hai
        have ex2 : us[n]? = some x2 := ex2
        rw [hqa] at ex2
        cases ex2
        have lt := lit_areas h1 h2 w1 w2 (List.mem_of_getElem? hai)
        have B := B.same (Same.new (o := .tup [V.int ((n : Nat) : Int), .ref qa]) hT)
        have hTt : (upd H7 T (.tup [V.int ((n : Nat) : Int), .ref qa])) T = some (.tup [V.int ((n : Nat) : Int), .ref qa]) := upd_same
        generalize upd H7 T (.tup [V.int ((n : Nat) : Int), .ref qa]) = H8 at B hTt ⊢
        have ks := kth_succ hai
        have ul := upL_lt h1 w1 (numAt ns) (numAt gs) hn
        obtain ⟨un, hun⟩ : ∃ un, (upL h wn (numAt ns) (numAt gs) n)[n]? = some un := ⟨_, List.getElem?_eq_getElem ul⟩
        have hU : (up h wn (numAt ns) (numAt gs))[n]? = some un := upL_get (Nat.le_of_lt hn) hun
        have un0 : (upL h wn (numAt ns) (numAt gs) n).getD n 0 = un := by rw [List.getD_eq_getElem?_getD, hun]; rfl
        have us' := upL_succ (m := numAt ns) (g := numAt gs) hai
        obtain ⟨ms, b1, b2, b3⟩ := B.me
        have g0 := b3 n un hun
        refine ⟨T, _, rfl, SqT.of hTt, rfl, _, _, rfl, _, _, rfl, rfl, ?_⟩
        refine ⟨_, rfl, qa, ai, rfl, B.s _ _ eqa, lt, _, rfl, ?_⟩
        cases inn : ai.inn
        · rw [inn] at ks us'
          rw [if_neg Bool.false_ne_true] at ks us'
          obtain ⟨o1, o2⟩ := one_of lt.o inn
          have ia := (areas_ok h1 w1 (List.mem_of_getElem? hai)).2
          unfold In root at ia
          dsimp only at ia
          have yh : ai.t < h := by omega
          have xw : ai.l < wn := by omega
          have eai : ai = ⟨ai.t, ai.l, 1, 1⟩ := by
            cases ai
            simp only at *
            congr 1
          obtain ⟨d, hd⟩ : ∃ d, ds[ai.t]? = some d := ⟨_, List.getElem?_eq_getElem (by omega)⟩
          have dm := List.mem_of_getElem? hd
          refine iteF ⟨_, rfl, _, rfl, fm, _, _, _, rfl, rfl, SqL.of b1, atI_nat (by rw [List.getElem?_map, g0]; rfl), ?_⟩
          refine ⟨_, rfl, _, rfl, qa, _, 0, _, rfl, rfl, SqT.of (B.s _ _ eqa), rfl, rs, _, _, _, rfl, rfl, SqL.of B.r, atI_nat (by rw [List.getElem?_map, hd]; rfl), _, rfl, qa, _, 1, _, rfl, rfl, SqT.of (B.s _ _ eqa), rfl, d, _, _, ai.l, rfl, rfl, B.c _ _ hd, ixN_nat (by rw [List.length_map, List.length_map, List.length_range]; exact xw), ?_⟩
          refine ⟨⟨_, _, _, _, _, by rw [ks, Nat.add_zero]; exact ec, rfl⟩, ?_⟩
          refine ⟨Same.put B.s (dsf d dm), ⟨ms, (upd_ne (Ne.symm (fmn d dm))).trans b1, b2, fun i x e => b3 i x (by rw [us'] at e; exact e)⟩, (upd_ne (fun z => ?_)).trans B.r, fun y e he => ?_⟩
          · have r := B.r
            rw [z, B.c _ _ hd] at r
            have := HO.lst.inj (Option.some.inj r)
            have g := congrArg (fun x : List V => x[0]?) this
            cases ds with
            | nil => cases hd
            | cons e es =>
              rw [List.getElem?_map, List.getElem?_map, List.getElem?_range (by omega)] at g
              cases g
          · by_cases yt : y = ai.t
            · subst yt
              rw [hd] at he
              cases he
              rw [upd_same, ← List.map_set]
              congr 3
              refine row_set xw ?_ fun x hx nx => ?_
              · exact cellN_at h1 w1 (eai ▸ hai) hU
              · exact cellN_step h1 w1 hai (fun z => nx (by rw [← z])) yh hx
            · rw [upd_ne (dne he hd yt), B.c y e he]
              congr 3
              refine List.map_congr_left fun x hx => ?_
              have hy : y < h := by
                have := (List.getElem?_eq_some_iff.mp he).1
                omega
              exact (cellN_step h1 w1 hai (fun z => yt (by rw [← z])) hy (List.mem_range.mp hx)).symm
        · rw [inn] at ks us'
          rw [if_pos rfl] at ks us'
          rw [un0] at us'
          have len := upL_len (h := h) (w := wn) (m := numAt ns) (g := numAt gs) n (by rw [lenA]; omega)
          obtain ⟨k1, k2, k3⟩ := kids_at h1 w1 hai inn
          have kb := (List.getElem?_eq_some_iff.mp k2).1
          rw [lenA] at kb
          generalize hk : kth h wn (n + 1) = kk at *
          have kp : 1 ≤ kk := by omega
          obtain ⟨mv, hmv⟩ : ∃ mv, ns[kk]? = some mv := ⟨_, List.getElem?_eq_getElem (by omega)⟩
          have nmv : numAt ns kk = mv := by
            unfold numAt
            rw [List.getD_eq_getElem?_getD, hmv]
            rfl
          obtain ⟨gv, hgv⟩ : ∃ gv, gs[kk]? = some gv := ⟨_, List.getElem?_eq_getElem (by omega)⟩
          have ngv : numAt gs kk = gv := by
            unfold numAt
            rw [List.getD_eq_getElem?_getD, hgv]
            rfl
          rw [nmv, ngv] at us'
          have hda8 := B.s _ _ hda4
          have hdb8 := B.s _ _ hdb4
          refine iteT ⟨_, rfl, _, _, rfl, rfl, ?_⟩
          dsimp only
          rw [show c + 1 = ((kk : Nat) : Int) by omega]
          refine ⟨_, rfl, kk, rfl, kp, by omega, fun p2 hp2 => ⟨p2, _, rfl, SqT.of upd_same, rfl, _, _, rfl, _, _, rfl, rfl, ?_⟩⟩
          have tp := Same.new (o := .tup [V.int ((2 * kk - 1 : Nat) : Int), .int ((2 * kk : Nat) : Int)]) hp2
          have B := B.same tp
          have b1 := tp _ _ b1
          have hda8 := tp _ _ hda8
          have hdb8 := tp _ _ hdb8
          clear tp hp2
          generalize upd H8 p2 (.tup [V.int ((2 * kk - 1 : Nat) : Int), .int ((2 * kk : Nat) : Int)]) = H9 at B b1 hda8 hdb8 ⊢
          have getg : (gs.map V.int)[kk]? = some (V.int gv) := by rw [List.getElem?_map, hgv]; rfl
          have getm : (ns.map V.int)[kk]? = some (V.int mv) := by rw [List.getElem?_map, hmv]; rfl
          refine ⟨_, rfl, _, rfl, fm, _, _, _, rfl, rfl, SqL.of b1, atI_nat (by rw [List.getElem?_map, g0]; rfl), _, rfl, _, rfl, db, _, _, _, rfl, rfl, SqL.of hdb8, atI_nat getg, _, _, rfl, rfl, ⟨by decide, by decide⟩, _, _, rfl, rfl, ?_⟩
          refine ⟨_, rfl, _, rfl, fm, _, _, 2 * kk - 1, rfl, rfl, b1, ixN_nat (by rw [List.length_map]; omega), ?_⟩
          have nda : da ≠ fm := fun z => by rw [z, fmf] at hda4; cases hda4
          have g1 : (ms.set (2 * kk - 1) (un - gv / 2))[n]? = some un := by rw [List.getElem?_set_ne (by omega)]; exact g0
          have b1' : (upd H9 fm (.lst ((ms.map V.int).set (2 * kk - 1) (.int (un - gv / 2))))) fm = some (.lst ((ms.set (2 * kk - 1) (un - gv / 2)).map V.int)) := by rw [upd_same, List.map_set]
          have hda9 : (upd H9 fm (.lst ((ms.map V.int).set (2 * kk - 1) (.int (un - gv / 2))))) da = some (.lst (ns.map V.int)) := (upd_ne nda).trans hda8
          refine ⟨_, rfl, _, rfl, fm, _, _, _, rfl, rfl, SqL.of b1', atI_nat (by rw [List.getElem?_map, g1]; rfl), _, rfl, _, rfl, da, _, _, _, rfl, rfl, SqL.of hda9, atI_nat getm, _, _, rfl, rfl, _, rfl, _, rfl, da, _, _, _, rfl, rfl, SqL.of hda9, atI_nat getm, _, _, rfl, rfl, ⟨by decide, by decide⟩, _, _, rfl, rfl, ?_⟩
          refine ⟨_, rfl, _, rfl, fm, _, _, 2 * kk, rfl, rfl, b1', ixN_nat (by rw [List.length_map, List.length_set]; omega), ?_⟩
          refine ⟨⟨_, _, _, _, _, rfl, rfl⟩, ?_⟩
          refine ⟨Same.put (Same.put B.s fmf) fmf, ⟨(ms.set (2 * kk - 1) (un - gv / 2)).set (2 * kk) (un + mv - mv / 2), (by rw [upd_same, List.map_set, List.map_set, List.map_set]), by rw [List.length_set, List.length_set]; exact b2, fun i x e => ?_⟩, ?_, fun y d hd => ?_⟩
          · rw [us'] at e
            have i1 : 2 * kk - 1 = (upL h wn (numAt ns) (numAt gs) n).length := by omega
            by_cases c1 : i < (upL h wn (numAt ns) (numAt gs) n).length
            · rw [List.getElem?_append_left c1] at e
              rw [List.getElem?_set_ne (by omega), List.getElem?_set_ne (by omega)]
              exact b3 i x e
            · rw [List.getElem?_append_right (by omega)] at e
              by_cases c2 : i = 2 * kk - 1
              · rw [show i - (upL h wn (numAt ns) (numAt gs) n).length = 0 by omega] at e
                cases (show some (un - gv / 2) = some x from e)
                rw [List.getElem?_set_ne (by omega), c2, List.getElem?_set_self (by omega)]
              · by_cases c3 : i = 2 * kk
                · rw [show i - (upL h wn (numAt ns) (numAt gs) n).length = 1 by omega] at e
                  cases (show some (un + mv - mv / 2) = some x from e)
                  rw [c3, List.getElem?_set_self (by rw [List.length_set]; omega)]
                · rw [List.getElem?_eq_none (by simp; omega)] at e
                  cases e
          · exact (upd_ne rfn).trans ((upd_ne rfn).trans B.r)
          · have nd := fmn d (List.mem_of_getElem? hd)
            rw [upd_ne nd, upd_ne nd, B.c y d hd]
            congr 3
            refine List.map_congr_left fun x hx => ?_
            have hy : y < h := by
              have := (List.getElem?_eq_some_iff.mp hd).1
              omega
            refine (cellN_step h1 w1 hai (fun z => ?_) hy (List.mem_range.mp hx)).symm
            rw [← z] at inn
            cases inn
      · obtain ⟨⟨c, v10, v11, v12, v13, ec, rfl⟩, B⟩ := q'
        rw [lu] at B
        exact ⟨⟨_, _, _, _, _, rfl⟩, B⟩
    · rintro σ' H7 ⟨⟨v9, v10, v11, v12, v13, rfl⟩, B⟩
      have er : rowsOf (downG nss mss wn) h wn = (List.range h).map fun y => (List.range wn).map fun x => cellV h wn (up h wn (numAt ns) (numAt gs)) y x := by
        unfold downG downL
        rw [hh, hns, hgs]
        exact rows_range h1 w1 _
      have dat : ∀ {y : Nat} {d : Addr}, ds[y]? = some d → ∃ ms, (rowsOf (downG nss mss wn) h wn)[y]? = some ms ∧ H7 d = some (.lst (ms.map V.int)) := fun {y d} hd => by
        have hy : y < h := by
          have := (List.getElem?_eq_some_iff.mp hd).1
          omega
        refine ⟨(List.range wn).map fun x => cellV h wn (up h wn (numAt ns) (numAt gs)) y x, ?_, ?_⟩
        · rw [er, List.getElem?_map, List.getElem?_range hy]
          rfl
        · rw [B.c y d hd]
          congr 3
          exact List.map_congr_left fun x hx => cellN_all h1 w1 hy (List.mem_range.mp hx)
      have lr : (rowsOf (downG nss mss wn) h wn).length = h := rowsOf_len
      have wsr : ∀ r ∈ rowsOf (downG nss mss wn) h wn, r.length = wn := rowsOf_ws (by unfold downG downL; rw [hh, List.length_map, List.length_range])
      have s7 := B.s
      have r7 := B.r
      refine ret_tup ?_
      refine ⟨_, rfl, rs, rfl, ⟨_, SqL.of r7⟩, fun D hD => lc_it walk_list (fun i H' => ∃ es, H' D = some (.lst es) ∧ Rows H' es ((rowsOf (downG nss mss wn) h wn).take i) ∧ Same H7 H') ⟨[], upd_same, by simpa using Rows.nil, Same.new hD⟩ (fun _ H' _ q => q.elim fun es q => SqL.of (q.2.2 _ _ r7)) ?_ ?_⟩
      · rintro n x H8 H9 hn ⟨es, a1, a2, a3⟩ ⟨rfl, hx⟩
        rw [List.length_map, ld] at hn
        obtain ⟨d, hd⟩ : ∃ d, ds[n]? = some d := ⟨_, List.getElem?_eq_getElem (by omega)⟩
        rw [List.getElem?_map, hd] at hx
        cases hx
        obtain ⟨ms, e1, e2⟩ := dat hd
        refine ⟨rfl, ?_⟩
        dsimp only [tYes]
        rw [if_pos rfl]
        refine ⟨_, rfl, d, _, rfl, .inl ⟨SqL.of (a3 _ _ e2), fun l hl => ?_⟩⟩
        have t1 := Same.new (o := .tup (ms.map V.int)) hl
        refine ⟨es, t1 _ _ a1, ?_, es ++ [.ref l], upd_same, ?_, Same.put (a3.trans t1) hD⟩
        · rw [a2.1, List.length_take, lr]
          exact Nat.lt_of_le_of_lt (show _ ≤ 16 by omega) (by decide)
        · rw [List.take_add_one, e1]
          exact Rows.put (Rows.snoc (a2.keep t1) upd_same) (t1 _ _ a1)
      · rintro H8 ⟨es, a1, a2, a3⟩
        rw [List.take_of_length_le (by rw [lr, List.length_map, ld]; exact Nat.le_refl _)] at a2
        refine ⟨D, es, rfl, .inl ⟨SqL.of a1, fun p hp => k p _ ((sH.trans (s7.trans a3)).trans (Same.new hp)) ?_⟩⟩
        exact Rows.pn (a2.keep (Same.new hp)) upd_same (by rw [lr]; exact h1) (by rw [lr]; exact h2) w1 w2 wsr
end
end K17
namespace K17
open PySem PySem.Spec PyProof.Rows L2 PySem.W LamX KA KW KU KL KT
open Evl (pss_cut tCut)
/-! ### the law's own areas -/
def halvesL (a : Ar) : List Ar := if a.inn = true then [a.half false, a.half true] else []
def spLHalves : Sp := fun vs H Q _ => ∃ p a, vs = [.ref p] ∧ H p = some (.tup (arV a)) ∧ Lit a ∧ ∀ q us H', Same H H' → H q = none → H' q = some (.lst us) → AL H' us (halvesL a) → Q (.ref q) H'
def spLAreas : Sp := spAreas
def spLines : Sp := fun vs H Q _ => ∃ (q : Addr) (ns : List Int) (h w : Nat), vs = [.ref q, .int w] ∧ H q = some (.lst (ns.map V.int)) ∧ ns.length = h * w ∧ 1 ≤ h ∧ h ≤ 16 ∧ 1 ≤ w ∧ w ≤ 16 ∧ ∀ p H', Same H H' → H p = none → Pn H' p (rowsOf ns h w) w → Q (.ref p) H'
def liesIn (a : Ar) (y x : Nat) : Bool := decide (a.t ≤ y ∧ y < a.t + a.h ∧ a.l ≤ x ∧ x < a.l + a.w)
def spLies : Sp := fun vs H Q _ => ∃ p a d y x, vs = [.ref p, .ref d] ∧ H p = some (.tup (arV a)) ∧ H d = some (.tup [V.int ((y : Nat) : Int), .int ((x : Nat) : Int)]) ∧ Q (.bl (liesIn a y x)) H
section
variable {P : Program} {w : World} {K : PySem.W.Frag} {mg : Str → Option Value} {base : Heap} (T : Top K mg)
theorem ok_lhalves : FnOk P w K mg base (L2.CX P w) 1 T._law_halves.a T._law_halves.d ["area"] spLHalves := by
  refine T._law_halves.f.okX sc__law_halves (fun vs H Q E h => ?_) (fun cdv A outer s H vs Q E hr h => ?_)
  · obtain ⟨p, a, rfl, _⟩ := h
    rfl
  · obtain ⟨p, a, rfl, hp, lt, k⟩ := h
    have b := lt.bd
    refine ⟨_, pss_cons (ps_asg (pv 0) (pg_tup rfl (pgs_cons (pg_name (i := 1) sc__law_halves.nd rfl (.inl rfl)) (pgs_cons (pg_name (i := 2) sc__law_halves.nd rfl (.inl rfl)) (pgs_cons (pg_name (i := 3) sc__law_halves.nd rfl (.inl rfl)) (pgs_cons (pg_name (i := 4) sc__law_halves.nd rfl (.inl rfl)) pgs_nil))))))
      (pss_cons (ps_if (pt_cmpR op_eq (pe_op op_mul (pv 3) (pv 4)) pe_int (nomark _))
        (pss_one (ps_ret (pe_lst pa_nil))) pss_nil)
      (pss_cons (ps_if (pt_cmpR op_ge (pv 3) (pv 4) (nomark _))
        (pss_cons (ps_set (i := 5) sc__law_halves.nd rfl (.inl rfl) (pe_op op_fdiv (pe_op op_add (pv 3) pe_int) pe_int))
        (pss_one (ps_ret (pe_lst (pa_cons (pe_tup (pa_cons (pv 1) (pa_cons (pv 2) (pa_cons (pv 5) (pa_cons (pv 4) pa_nil))))) (pa_cons (pe_tup (pa_cons (pe_op op_add (pv 1) (pv 5)) (pa_cons (pv 2) (pa_cons (pe_op op_sub (pv 3) (pv 5)) (pa_cons (pv 4) pa_nil))))) pa_nil)))))) pss_nil)
      (pss_cons (ps_set (i := 5) sc__law_halves.nd rfl (.inl rfl) (pe_op op_fdiv (pe_op op_add (pv 4) pe_int) pe_int))
      (pss_one (ps_ret (pe_lst (pa_cons (pe_tup (pa_cons (pv 1) (pa_cons (pv 2) (pa_cons (pv 3) (pa_cons (pv 5) pa_nil))))) (pa_cons (pe_tup (pa_cons (pv 1) (pa_cons (pe_op op_add (pv 2) (pv 5)) (pa_cons (pv 3) (pa_cons (pe_op op_sub (pv 4) (pv 5)) pa_nil))))) pa_nil)))))))), ?_⟩
    refine ⟨_, rfl, p, _, rfl, SqT.of hp, rfl, _, _, rfl, _, _, rfl, _, _, rfl, _, _, rfl, rfl, ?_⟩
    refine ⟨_, rfl, _, rfl, _, _, rfl, rfl, .inl ⟨by omega, by omega⟩, rfl, _, rfl, ?_⟩
    have o := lt.o
    cases i : a.inn
    · obtain ⟨o1, o2⟩ := one_of o i
      rw [show decide (V.int (((a.h : Nat) : Int) * ((a.w : Nat) : Int)) = V.int 1) = true from decide_eq_true (congrArg V.int (by rw [o1, o2]; rfl))]
      refine iteT ⟨(by show 0 ≤ sizeLine; decide), fun q hq => ?_⟩
      refine k q _ _ (Same.new hq) hq upd_same ?_
      unfold halvesL
      rw [i, if_neg Bool.false_ne_true]
      exact .nil
    · have ne : ¬ ((a.h : Nat) : Int) * ((a.w : Nat) : Int) = 1 := by
        have := inn_int a
        rw [i] at this
        have := of_decide_eq_true this.symm
        omega
      rw [show decide (V.int (((a.h : Nat) : Int) * ((a.w : Nat) : Int)) = V.int 1) = false from decide_eq_false fun z => ne (V.int.inj z)]
      refine iteF ?_
      have k : ∀ q us H', Same H H' → H q = none → H' q = some (.lst us) → AL H' us [a.half false, a.half true] → Q (.ref q) H' := fun q us H' m f l al => k q us H' m f l (by unfold halvesL; rw [i, if_pos rfl]; exact al)
      refine ⟨_, rfl, _, rfl, _, _, rfl, rfl, _, rfl, ?_⟩
      by_cases c : a.w ≤ a.h
      · obtain ⟨e1, e2⟩ := half_ge c
        rw [decide_eq_true (show ((a.w : Nat) : Int) ≤ ((a.h : Nat) : Int) by omega)]
        refine iteT ⟨_, rfl, _, _, rfl, rfl, _, _, rfl, rfl, ⟨by decide, by decide⟩, ?_⟩
        refine ⟨_, rfl, _, rfl, _, rfl, _, rfl, (by show 4 ≤ sizeLine; decide), fun p1 h1 => ?_⟩
        refine ⟨_, rfl, _, rfl, _, _, rfl, rfl, _, rfl, _, rfl, _, rfl, _, _, rfl, rfl, _, rfl, (by show 4 ≤ sizeLine; decide), fun p2 h2 => ⟨(by show 2 ≤ sizeLine; decide), fun q hq => ?_⟩⟩
        exact two_new (a := a.half false) (b := a.half true) (by rw [e1]; exact arV_eq rfl rfl (by first | rfl | (dsimp; omega)) rfl) (by rw [e2]; exact arV_eq (by first | rfl | (dsimp; omega)) rfl (by first | rfl | (dsimp; omega)) rfl) k h1 h2 hq
      · obtain ⟨e1, e2⟩ := half_lt' c
        rw [decide_eq_false (show ¬ ((a.w : Nat) : Int) ≤ ((a.h : Nat) : Int) by omega)]
        refine iteF ⟨_, rfl, _, _, rfl, rfl, _, _, rfl, rfl, ⟨by decide, by decide⟩, ?_⟩
        refine ⟨_, rfl, _, rfl, _, rfl, _, rfl, (by show 4 ≤ sizeLine; decide), fun p1 h1 => ?_⟩
        refine ⟨_, rfl, _, rfl, _, rfl, _, _, rfl, rfl, _, rfl, _, rfl, _, rfl, _, _, rfl, rfl, (by show 4 ≤ sizeLine; decide), fun p2 h2 => ⟨(by show 2 ≤ sizeLine; decide), fun q hq => ?_⟩⟩
        exact two_new (a := a.half false) (b := a.half true) (by rw [e1]; exact arV_eq rfl rfl rfl (by first | rfl | (dsimp; omega))) (by rw [e2]; exact arV_eq rfl (by first | rfl | (dsimp; omega)) rfl (by first | rfl | (dsimp; omega))) k h1 h2 hq
theorem ok_llines : FnOk P w K mg base (L2.CX P w) 1 T._law_lines_of.a T._law_lines_of.d ["told", "wide"] spLines := by
  refine T._law_lines_of.f.okX sc__law_lines_of (fun vs H Q E h => ?_) (fun cdv A outer s H vs Q E hr h => ?_)
  · obtain ⟨q, ns, h, w, rfl, _⟩ := h
    rfl
  · obtain ⟨q, ns, h, w, rfl, hq, hl, h1, h2, w1, w2, k⟩ := h
    refine ⟨_, pss_one (ps_ret (pe_callTy (show CallR _ _ (rTupOf K) from call_tuple_of) (by rfl) T.b_tuple (by decide +kernel) (pa_cons (pe_lc (own := [("spot", 2)]) (g := gName 2) (tt := tYes) rfl sc__law_lines_of.nd (pi_range3 (by rfl) T.b_range (pa_cons pe_int (pa_cons (pe_callB (show CallR _ _ (rLenQ K) from call_len_seq) (by rfl) T.b_len PySem.boot_len (pa_cons (pv 0) pa_nil)) (pa_cons (pv 1) pa_nil))))
        (blkOk_by (own := [("spot", 2)]) (N := ["told", "wide", "spot"]) (sc := defScope s__law_lines_of) (by decide +kernel)) (fun _ _ _ _ _ => pg_name (i := 2) sc__law_lines_of.nd rfl (Or.inl rfl)) (fun _ _ _ _ _ => pts_nil)
        (fun _ _ _ _ _ => pe_callTy (show CallR _ _ (rTupOf K) from call_tuple_of) (by rfl) T.b_tuple (by decide +kernel) (pa_cons (pe_slice (show SlR _ (rSlL K) from sl_list) (pv 0) (po_some (pv 2)) (po_some (pe_op op_add (pv 2) (pv 1)))) pa_nil))) pa_nil))), ?_⟩
    refine ret_tup (rows_read (σ := [some (.ref q), some (.int w), none]) (i := 0) (j := 1) (k := 2) hq hl h1 h2 w1 w2 (fun _ => rfl) (fun _ => rfl) (fun _ => rfl) (fun _ => rfl) rfl rfl rfl fun D rs H1 m f l r => ?_)
    refine ⟨D, rs, rfl, .inl ⟨SqL.of l, fun p hp => k p _ (m.trans (Same.new hp)) (m.free hp) ?_⟩⟩
    exact Rows.pn (r.keep (Same.new hp)) upd_same (by rw [rowsOf_len]; exact h1) (by rw [rowsOf_len]; exact h2) w1 w2 (rowsOf_ws hl)
theorem ok_lareas : FnOk P w K mg base (L2.CX P w) 2 T._law_areas.a T._law_areas.d ["tall", "wide"] spAreas := by
  refine T._law_areas.f.okX sc__law_areas (fun vs H Q E h => ?_) (fun cdv A outer s H vs Q E hr h => ?_)
  · obtain ⟨h, w, rfl, _⟩ := h
    rfl
  · obtain ⟨h, w, rfl, h1, h2, w1, w2, k⟩ := h
    refine ⟨_, pss_cons (ps_par (i := 2) (j := 3) rfl sc__law_areas.nd rfl rfl (by decide) rfl rfl (pa_cons (pe_lst (pa_cons (pe_tup (pa_cons pe_int (pa_cons pe_int (pa_cons (pv 0) (pa_cons (pv 1) pa_nil))))) pa_nil)) (pa_cons pe_int pa_nil)) (by rfl))
      (pss_cut (ps_while (passes_of rfl) (pt_cmpR op_lt (pv 3) (pe_callB call_len_seq (by rfl) T.b_len PySem.boot_len (pa_cons (pv 2) pa_nil)) (nomark _))
        (pss_cons (ps_set (i := 2) sc__law_areas.nd rfl (.inl rfl) (pe_op op_cat (pv 2) (pe_call (ok_lhalves T) (hr.mono (by decide)) (by rfl) T._law_halves.m T._law_halves.f.kp (bd__law_halves T) .nil passE (pa_cons (pe_ix ix_list (pv 2) (pv 3) (fun _ _ => rfl)) pa_nil))))
        (pss_one (ps_set (i := 3) sc__law_areas.nd rfl (.inl rfl) (pe_op op_add (pv 3) pe_int)))))
      (pss_one (ps_ret (pv 2)))), ?_⟩
    refine ⟨_, rfl, _, rfl, (by show 4 ≤ sizeLine; decide), fun p hp => ⟨(by show 1 ≤ sizeLine; decide), fun fa hfa => ?_⟩⟩
    have s1 := Same.new (o := .tup [V.int 0, .int 0, .int h, .int w]) hp
    have s2 := Same.new (o := .lst [V.ref p]) hfa
    refine ⟨_, _, rfl, ?_⟩
    have ff := s1.free hfa
    have lr := lit_root h1 h2 w1 w2
    have S0 := s1.trans s2
    have l0 : (upd (upd H p (.tup [V.int 0, .int 0, .int h, .int w])) fa (.lst [V.ref p])) fa = some (.lst [V.ref p]) := upd_same
    have g0 : AL (upd (upd H p (.tup [V.int 0, .int 0, .int h, .int w])) fa (.lst [V.ref p])) [.ref p] ((ways (root h w) 0).map (reg (root h w))) := .cons (s2 _ _ upd_same) .nil
    generalize upd (upd H p (.tup [V.int 0, .int 0, .int h, .int w])) fa (.lst [V.ref p]) = H0 at g0 S0 l0 ⊢
    clear s1 s2
    refine ⟨fun σ' H' => ∃ fa us v3, σ' = [some (.int h), some (.int w), some (.ref fa), v3] ∧ H fa = none ∧ H' fa = some (.lst us) ∧ AL H' us (areasL h w) ∧ Same H H', ?_, ?_⟩
    · refine ⟨fun μ σ' H' => ∃ n fa us, μ = many (root h w) - n ∧ n ≤ many (root h w) ∧ σ' = [some (.int h), some (.int w), some (.ref fa), some (.int (n : Nat))] ∧ H fa = none ∧ H' fa = some (.lst us) ∧ AL H' us ((ways (root h w) n).map (reg (root h w))) ∧ Same H H',
        ⟨many (root h w), 0, _, _, rfl, Nat.zero_le _, rfl, ff, l0, g0, S0⟩, ?_⟩
      clear l0 g0 S0 ff hfa
      rintro μ σ' H1 ⟨n, fa, us, rfl, ln, rfl, ff, hl, al, sm⟩
      have gr := Grown.at lr.o n ln
      have lu : us.length = (ways (root h w) n).length := by rw [al.len, List.length_map]
      have lsz : us.length ≤ 511 := by
        have lw := gr.lt_iff lr.o
        have : many (root h w) ≤ 511 := by
          unfold many
          have e : (root h w).size = h * w := rfl
          have := Nat.mul_le_mul h2 w2
          omega
        rw [lu]
        obtain ⟨R, e⟩ := ways_pre lr.o ln
        have := allW_len lr.o
        rw [e, List.length_append] at this
        omega
      refine ⟨_, rfl, _, rfl, fa, us, rfl, .inl (SqL.of hl), _, _, rfl, rfl, _, rfl, ?_⟩
      by_cases c : n < us.length
      · rw [decide_eq_true (show ((n : Nat) : Int) < ((us.length : Nat) : Int) by omega)]
        have c2 : n < many (root h w) := (gr.lt_iff lr.o).mp (by omega)
        obtain ⟨a, ha⟩ : ∃ a, ((ways (root h w) n).map (reg (root h w)))[n]? = some a := ⟨_, List.getElem?_eq_getElem (by rw [← al.len]; exact c)⟩
        obtain ⟨q, hq, eq⟩ := al.at_ ha
        have la : Lit a := by
          obtain ⟨z, hz, rfl⟩ := List.mem_map.mp (List.mem_of_getElem? ha)
          have := way_ok lr.o (gr.way z hz)
          exact ⟨this.1, this.2.1.trans lr.i⟩
        refine iteT ⟨fun σ' H' => ∃ fa us, σ' = [some (.int h), some (.int w), some (.ref fa), some (.int ((n + 1 : Nat) : Int))] ∧ H fa = none ∧ H' fa = some (.lst us) ∧ AL H' us ((ways (root h w) (n + 1)).map (reg (root h w))) ∧ Same H H',
          fun σ' H' ⟨fa, us, r⟩ => ⟨many (root h w) - (n + 1), by omega, n + 1, fa, us, rfl, c2, r⟩, ?_⟩
        refine ⟨_, rfl, _, rfl, _, rfl, fa, us, _, _, rfl, rfl, SqL.of hl, atI_nat hq, q, a, rfl, eq, la, fun b ws H2 m2 f2 l2 al2 => ?_⟩
        have hl2 := m2 _ _ hl
        refine ⟨fa, b, us, ws, rfl, rfl, hl2, l2, ?_, fun g hg => ?_⟩
        · have := al2.len
          have l3 : (halvesL a).length ≤ 2 := by
            unfold halvesL
            split <;> simp
          exact Nat.le_trans (show _ ≤ 600 by omega) (by decide)
        · have t := Same.new (o := .lst (us ++ ws)) hg
          have sm2 := (sm.trans m2).trans t
          refine ⟨_, rfl, _, _, rfl, rfl, _, _, rfl, (sm.trans m2).free hg, upd_same, ?_, sm2⟩
          rw [regs_succ ha]
          exact ((al.same m2).append al2).same t
      · rw [decide_eq_false (show ¬ ((n : Nat) : Int) < ((us.length : Nat) : Int) by omega)]
        have e : n = many (root h w) := by
          have := (gr.lt_iff lr.o)
          have : ¬ n < many (root h w) := fun z => c (by have := this.mpr z; omega)
          omega
        subst e
        exact iteF ⟨fa, us, _, rfl, ff, hl, al, sm⟩
    · rintro σ' H1 ⟨fa, us, v3, rfl, ff, hl, al, sm⟩
      exact ⟨_, rfl, k fa us H1 sm ff hl al⟩
theorem ok_lies : FnOk P w K mg base (L2.CX P w) 1 T._law_lies_in.a T._law_lies_in.d ["area", "dot"] spLies := by
  refine T._law_lies_in.f.okX sc__law_lies_in (fun vs H Q E h => ?_) (fun cdv A outer s H vs Q E hr h => ?_)
  · obtain ⟨p, a, d, y, x, rfl, _⟩ := h
    rfl
  · obtain ⟨p, a, d, y, x, rfl, hp, hd, k⟩ := h
    refine ⟨_, pss_one (ps_ret (pe_and (pe_chain op_le op_lt (pe_ix ix_tup (pv 0) pe_int (fun _ _ => rfl)) (pe_ix ix_tup (pv 1) pe_int (fun _ _ => rfl)) (pe_op op_add (pe_ix ix_tup (pv 0) pe_int (fun _ _ => rfl)) (pe_ix ix_tup (pv 0) pe_int (fun _ _ => rfl))))
      (pe_one (pe_chain op_le op_lt (pe_ix ix_tup (pv 0) pe_int (fun _ _ => rfl)) (pe_ix ix_tup (pv 1) pe_int (fun _ _ => rfl)) (pe_op op_add (pe_ix ix_tup (pv 0) pe_int (fun _ _ => rfl)) (pe_ix ix_tup (pv 0) pe_int (fun _ _ => rfl))))))), ?_⟩
    have tp := SqT.of (K := K) hp
    have td := SqT.of (K := K) hd
    have fin : ∀ b : Bool, b = liesIn a y x → Q (.bl b) H := fun b e => q_bl k e
    unfold liesIn at fin
    refine ⟨_, rfl, p, _, 0, .int a.t, rfl, rfl, tp, rfl, _, rfl, d, _, 0, .int y, rfl, rfl, td, rfl, _, _, rfl, rfl, _, rfl, ?_⟩
    by_cases c1 : a.t ≤ y
    · rw [decide_eq_true (show ((a.t : Nat) : Int) ≤ ((y : Nat) : Int) by omega)]
      refine iteT ⟨_, rfl, p, _, 0, .int a.t, rfl, rfl, tp, rfl, _, rfl, p, _, 2, .int a.h, rfl, rfl, tp, rfl, _, _, rfl, rfl, _, _, rfl, rfl, _, rfl, ?_⟩
      by_cases c2 : y < a.t + a.h
      · rw [decide_eq_true (show ((y : Nat) : Int) < ((a.t : Nat) : Int) + ((a.h : Nat) : Int) by omega)]
        refine iteT ⟨_, rfl, p, _, 1, .int a.l, rfl, rfl, tp, rfl, _, rfl, d, _, 1, .int x, rfl, rfl, td, rfl, _, _, rfl, rfl, _, rfl, ?_⟩
        by_cases c3 : a.l ≤ x
        · rw [decide_eq_true (show ((a.l : Nat) : Int) ≤ ((x : Nat) : Int) by omega)]
          refine iteT ⟨_, rfl, p, _, 1, .int a.l, rfl, rfl, tp, rfl, _, rfl, p, _, 3, .int a.w, rfl, rfl, tp, rfl, _, _, rfl, rfl, _, _, rfl, rfl, ?_⟩
          exact fin _ (decide_eq_decide.mpr ⟨fun z => ⟨c1, c2, c3, by omega⟩, fun z => by omega⟩)
        · rw [decide_eq_false (show ¬ ((a.l : Nat) : Int) ≤ ((x : Nat) : Int) by omega)]
          exact iteF (fin _ (decide_eq_false fun z => c3 z.2.2.1).symm)
      · rw [decide_eq_false (show ¬ ((y : Nat) : Int) < ((a.t : Nat) : Int) + ((a.h : Nat) : Int) by omega)]
        exact iteF (fin _ (decide_eq_false fun z => c2 z.2.1).symm)
    · rw [decide_eq_false (show ¬ ((a.t : Nat) : Int) ≤ ((y : Nat) : Int) by omega)]
      refine iteF ⟨_, rfl, ?_⟩
      exact iteF (fin _ (decide_eq_false fun z => c1 z.1).symm)
end
end K17
namespace K17
open PySem PySem.Spec PyProof.Rows L2 PySem.W LamX KA KW KU KL KT
open Evl (pss_cut tCut)
/-! ### the law's own lift -/
def arD (a : Ar) : PyData := .tuple [.int a.t, .int a.l, .int a.h, .int a.w]
def arK (a : Ar) : List L2.Key := [.inl (a.t : Int), .inl (a.l : Int), .inl (a.h : Int), .inl (a.w : Int)]
theorem arK_v (a : Ar) : (arK a).map kV = arV a := rfl
theorem arK_inj {a b : Ar} (h : arK a = arK b) : a = b := by
  cases a
  cases b
  simp only [arK, List.cons.injEq, Sum.inl.injEq, Int.natCast_inj, and_true] at h
  obtain ⟨rfl, rfl, rfl, rfl⟩ := h
  rfl
theorem dp_al {K : PySem.W.Frag} {H : Hp} {us : List V} {as : List Ar} (al : AL H us as) : DpAll K H us (as.map arD) := by
  induction al with
  | nil => exact .nil
  | cons e _ ih => exact .cons (.tup (SqT.of e) (.cons (.int _) (.cons (.int _) (.cons (.int _) (.cons (.int _) .nil))))) ih
theorem dp_als {K : PySem.W.Frag} {H : Hp} {q : Addr} {us : List V} {as : List Ar} (l : H q = some (.lst us)) (al : AL H us as) : Dp K H (.ref q) (.list (as.map arD)) := .lst (SqL.of l) (dp_al al)
theorem al_lay : ∀ as : List Ar, PyData.canLayAll0 (as.map arD) = true ∧ PyData.depthAll (as.map arD) ≤ 1
  | [] => ⟨rfl, Nat.zero_le _⟩
  | a :: as => by
    obtain ⟨h1, h2⟩ := al_lay as
    refine ⟨by simp [arD, PyData.canLayAll0, PyData.canLay0, h1], ?_⟩
    simp only [List.map_cons, arD, PyData.depthAll, PyData.depth] at h2 ⊢
    omega
theorem shaped_al (as : List Ar) : SeqAt.shaped (.list (as.map arD)) = true := by
  obtain ⟨h1, h2⟩ := al_lay as
  simp [SeqAt.shaped, PyData.canLay0, PyData.depth, h1]
  omega
theorem eqv_al_nil (as : List Ar) : PyData.eqv (.list (as.map arD)) (.list []) = as.isEmpty := by
  cases as <;> rfl
theorem halves_nil {a : Ar} : (halvesL a).isEmpty = !a.inn := by
  unfold halvesL
  cases a.inn <;> rfl
/-- the means that stand in a dict -/
structure MD (H0 : Hp) (f : Nat → Nat → Int) (h w : Nat) (md : Addr) (from_ n : Nat) (H : Hp) : Prop where
  s : Same H0 H
  m : ∃ kvs : List (List L2.Key × V), H md = some (.dT kvs) ∧ kvs.length ≤ n ∧ ∀ (i : Nat) (a : Ar), from_ ≤ i → (areasL h w)[i]? = some a → valV kvs (arK a) = some (.int (mean f a))
theorem MD.same {H0 H H' : Hp} {f : Nat → Nat → Int} {h w : Nat} {md : Addr} {a n : Nat} (B : MD H0 f h w md a n H) (e : Same H H') : MD H0 f h w md a n H' := by
  obtain ⟨kvs, b1, b2⟩ := B.m
  exact ⟨B.s.trans e, kvs, e _ _ b1, b2⟩
/-- one mean more -/
theorem MD.put {H0 H : Hp} {f : Nat → Nat → Int} {h w : Nat} {md : Addr} {i n : Nat} {a : Ar} {kvs : List (List L2.Key × V)} (hs : Same H0 H) (hf : H0 md = none) (hl : kvs.length ≤ n)
    (hm : ∀ (j : Nat) (b : Ar), i + 1 ≤ j → (areasL h w)[j]? = some b → valV kvs (arK b) = some (.int (mean f b))) (ha : (areasL h w)[i]? = some a) :
    MD H0 f h w md i (n + 1) (upd H md (.dT (putK kvs (arK a) (.int (mean f a))))) := by
  refine ⟨Same.put hs hf, _, upd_same, ?_, fun j b hj e => ?_⟩
  · have := length_putK kvs (arK a) (.int (mean f a))
    omega
  · rw [valV_put]
    by_cases c : arK b = arK a
    · rw [if_pos c, arK_inj c]
    · rw [if_neg c]
      refine hm j b ?_ e
      rcases Nat.lt_or_ge i j with z | z
      · exact z
      · have : j = i := by omega
        subst this
        rw [ha] at e
        exact absurd (congrArg arK (Option.some.inj e).symm) c
theorem MD.keep {H0 H : Hp} {f : Nat → Nat → Int} {h w : Nat} {md fa : Addr} {a n : Nat} {o : HO} (B : MD H0 f h w md a n H) (e : md ≠ fa) (hf : H0 fa = none) : MD H0 f h w md a n (upd H fa o) := by
  obtain ⟨kvs, b1, b2⟩ := B.m
  exact ⟨Same.put B.s hf, kvs, (upd_ne e).trans b1, b2⟩
def spLLift : Sp := fun vs H Q _ => ∃ (q : Addr) (ns : List Int) (h w : Nat), vs = [.int h, .int w, .ref q] ∧ H q = some (.lst (ns.map V.int)) ∧ ns.length = h * w ∧ 1 ≤ h ∧ h ≤ 16 ∧ 1 ≤ w ∧ w ≤ 16 ∧
  ∀ p H', Same H H' → H p = none → H' p = some (.lst ((liftL (fOf ns w) h w).map V.int)) → Q (.ref p) H'
section
variable {P : Program} {w : World} {K : PySem.W.Frag} {mg : Str → Option Value} {base : Heap} (T : Top K mg)
theorem ok_llift : FnOk P w K mg base (L2.CX P w) 3 T._law_lift.a T._law_lift.d ["tall", "wide", "numbers_here"] spLLift := by
  refine T._law_lift.f.okX sc__law_lift (fun vs H Q E h => ?_) (fun cdv A outer s H vs Q E hr h => ?_)
  · obtain ⟨q, ns, h, w, rfl, _⟩ := h
    rfl
  · obtain ⟨nq, ns, h, wn, rfl, hnq, hln, h1, h2, w1, w2, k⟩ := h
    have hu := hu_of hr
    refine ⟨_, pss_cons (ps_par (i := 3) (j := 4) rfl sc__law_lift.nd rfl rfl (by decide) rfl rfl (pa_cons (pe_call (ok_lareas T) (hr.mono (by decide)) (by rfl) T._law_areas.m T._law_areas.f.kp (bd__law_areas T) .nil passE (pa_cons (pv 0) (pa_cons (pv 1) pa_nil))) (pa_cons pe_dnewT pa_nil)) (by rfl))
      (pss_cut (ps_for (passes_of rfl) rfl (pi_list (pe_revL (pv 3))) (pg_name (i := 5) sc__law_lift.nd rfl (.inl rfl))
        (pss_cons (ps_set (i := 6) sc__law_lift.nd rfl (.inl rfl) (pe_call (ok_lhalves T) (hr.mono (by decide)) (by rfl) T._law_halves.m T._law_halves.f.kp (bd__law_halves T) .nil passE (pa_cons (pv 5) pa_nil)))
        (pss_one (ps_if (pt_cmpR (op_eqD hr.units) (pv 6) (pe_lst pa_nil) (nomark _))
          (pss_one (ps_dput hu (pv 4) (pv 5) (pe_ix ix_list (pv 2) (pe_op op_add (pe_op op_mul (pe_ix ix_tup (pv 5) pe_int (fun _ _ => rfl)) (pv 1)) (pe_ix ix_tup (pv 5) pe_int (fun _ _ => rfl))) (fun _ _ => rfl)) rfl))
          (pss_one (ps_dput hu (pv 4) (pv 5) (pe_op op_fdiv (pe_op op_add (pe_dget hu (pv 4) (pe_ix ix_list (pv 6) pe_int (fun _ _ => rfl)) (fun _ _ => rfl)) (pe_dget hu (pv 4) (pe_ix ix_list (pv 6) pe_int (fun _ _ => rfl)) (fun _ _ => rfl))) pe_int) rfl))))))
      (pss_cons (ps_set (i := 7) sc__law_lift.nd rfl (.inl rfl) (pe_lst (pa_cons (pe_dget hu (pv 4) (pe_ix ix_list (pv 3) pe_int (fun _ _ => rfl)) (fun _ _ => rfl)) pa_nil)))
      (pss_cut (ps_for (passes_of rfl) rfl (pi_list (pv 3)) (pg_name (i := 5) sc__law_lift.nd rfl (.inl rfl))
        (pss_cons (ps_set (i := 6) sc__law_lift.nd rfl (.inl rfl) (pe_call (ok_lhalves T) (hr.mono (by decide)) (by rfl) T._law_halves.m T._law_halves.f.kp (bd__law_halves T) .nil passE (pa_cons (pv 5) pa_nil)))
        (pss_one (ps_if (pt_cmpR (op_neD hr.units) (pv 6) (pe_lst pa_nil) (nomark _))
          (pss_one (ps_expr (pe_bm PySem.F.plainAttrs_list PySem.F.slot_list_append PySem.F.type_list_append mt_append (pv 7) (pa_cons (pe_op op_sub (pe_dget hu (pv 4) (pe_ix ix_list (pv 6) pe_int (fun _ _ => rfl)) (fun _ _ => rfl)) (pe_dget hu (pv 4) (pe_ix ix_list (pv 6) pe_int (fun _ _ => rfl)) (fun _ _ => rfl))) pa_nil)))) pss_nil))))
      (pss_one (ps_ret (pv 7)))))), ?_⟩
    refine ⟨_, rfl, _, rfl, h, wn, rfl, h1, h2, w1, w2, fun q us H1 m1 f1 l1 al => ?_⟩
    refine fun md hmd => ⟨_, _, rfl, ?_⟩
    have lenA := areas_len h1 w1
    have lu : us.length = 2 * (h * wn) - 1 := by rw [al.len, lenA]
    generalize hN : 2 * (h * wn) - 1 = N at *
    have N1 : 1 ≤ N := by
      have := Nat.mul_pos h1 w1
      omega
    have N2 : N ≤ 511 := by
      have := Nat.mul_le_mul h2 w2
      omega
    have hnq1 := m1 _ _ hnq
    clear hnq
    have k : ∀ p H', Same H1 H' → H1 p = none → H' p = some (.lst ((liftL (fOf ns wn) h wn).map V.int)) → Q (.ref p) H' := fun p H' m f l => k p H' (m1.trans m) (m1.free f) l
    clear m1 f1
    have t1 := Same.new (o := .dT []) hmd
    have B0 : MD H1 (fOf ns wn) h wn md N 0 (upd H1 md (.dT [])) := ⟨t1, [], upd_same, Nat.le_refl _, fun i a hi e => by
      have := (List.getElem?_eq_some_iff.mp e).1
      omega⟩
    generalize upd H1 md (.dT []) = H2 at B0 ⊢
    refine ⟨fun σ' H' => (∃ v5 v6, σ' = [some (.int (h : Nat)), some (.int (wn : Nat)), some (.ref nq), some (.ref q), some (.ref md), v5, v6, none]) ∧ MD H1 (fOf ns wn) h wn md 0 N H', ?_, ?_⟩
    · refine ⟨_, rfl, q, us, rfl, SqL.of (B0.s _ _ l1), fun rq hrq => ⟨rq, rfl, ⟨_, SqL.of upd_same⟩, ?_⟩⟩
      have l2 := B0.s _ _ l1
      have B0 := B0.same (Same.new (o := .lst us.reverse) hrq)
      have hr0 : (upd H2 rq (.lst us.reverse)) rq = some (.lst us.reverse) := upd_same
      generalize upd H2 rq (.lst us.reverse) = H3 at B0 hr0 ⊢
      have rmd : rq ≠ md := fun z => by
        obtain ⟨kvs, b1, _⟩ := B0.m
        rw [← z, hr0] at b1
        cases b1
      clear l2 hrq
      refine for_it walk_list (fun j σ H => (∃ v5 v6, σ = [some (.int (h : Nat)), some (.int (wn : Nat)), some (.ref nq), some (.ref q), some (.ref md), v5, v6, none]) ∧ MD H1 (fOf ns wn) h wn md (N - j) j H ∧ H rq = some (.lst us.reverse))
        ⟨⟨none, none, rfl⟩, by rw [Nat.sub_zero]; exact B0, hr0⟩ (fun j σ H _ q' => SqL.of q'.2.2) ?_ fun σ H q' => ?_
      · rintro j x σ H4 H4' hj ⟨⟨v5, v6, rfl⟩, B, hr4⟩ ⟨rfl, hx⟩
        rw [List.length_reverse, lu] at hj
        obtain ⟨i, hi⟩ : ∃ i, i = N - 1 - j := ⟨_, rfl⟩
        have e1 : N - j = i + 1 := by omega
        have e2 : N - (j + 1) = i := by omega
        rw [e1] at B
        rw [e2]
        obtain ⟨ai, hai⟩ : ∃ ai, (areasL h wn)[i]? = some ai := ⟨_, List.getElem?_eq_getElem (by rw [lenA]; omega)⟩
        obtain ⟨qa, hqa, eqa⟩ := al.at_ hai
        have lt := lit_areas h1 h2 w1 w2 (List.mem_of_getElem? hai)
        have ex : x = .ref qa := by
          rw [List.getElem?_reverse (by rw [lu]; exact hj), lu, ← hi, hqa] at hx
          exact (Option.some.inj hx).symm
        subst ex
        have fm1 : H1 md = none := hmd
        refine ⟨_, rfl, qa, ai, rfl, B.s _ _ eqa, lt, fun hq hs H5 m5 f5 l5 al5 => ?_⟩
        refine ⟨_, rfl, (by show 0 ≤ sizeLine; decide), fun p hp => ?_⟩
        have t2 := Same.new (o := .lst []) hp
        refine ⟨_, _, dp_als (t2 _ _ l5) (al5.same t2), dp_nil upd_same, shaped_al _, shaped_nil, _, rfl, ?_⟩
        rw [eqv_al_nil, halves_nil]
        have B := (B.same m5).same t2
        have hr4 := t2 _ _ (m5 _ _ hr4)
        have l5 := t2 _ _ l5
        have al5 := al5.same t2
        generalize upd H5 p (.lst []) = H6 at B hr4 l5 al5 ⊢
        obtain ⟨kvs, b1, b2, b3⟩ := B.m
        have bz : kvs.length < sizeLine := Nat.lt_of_le_of_lt (show kvs.length ≤ 511 by omega) (by decide)
        have e6 := B.s _ _ eqa
        cases inn : ai.inn
        · obtain ⟨o1, o2⟩ := one_of lt.o inn
          have ia := (areas_ok h1 w1 (List.mem_of_getElem? hai)).2
          unfold In root at ia
          dsimp only at ia
          have xi : ai.t * wn + ai.l < ns.length := by
            rw [hln]
            have : (ai.t + 1) * wn ≤ h * wn := Nat.mul_le_mul_right wn (by omega)
            rw [Nat.succ_mul] at this
            omega
          have gx : (ns.map V.int)[ai.t * wn + ai.l]? = some (.int (mean (fOf ns wn) ai)) := by
            rw [List.getElem?_map, List.getElem?_eq_getElem xi, mean_one lt.o inn]
            unfold fOf
            rw [List.getD_eq_getElem?_getD, List.getElem?_eq_getElem xi]
            rfl
          refine iteT ⟨_, rfl, _, rfl, qa, _, 0, .int ai.t, rfl, rfl, SqT.of e6, rfl, _, rfl, _, _, rfl, rfl, .inl ⟨by omega, by omega⟩, _, rfl, qa, _, 1, .int ai.l, rfl, rfl, SqT.of e6, rfl, _, _, rfl, rfl, nq, _, _, .int (mean (fOf ns wn) ai), rfl, rfl, SqL.of (B.s _ _ hnq1), ?_, ?_⟩
          · rw [show ((ai.t : Nat) : Int) * ((wn : Nat) : Int) + ((ai.l : Nat) : Int) = ((ai.t * wn + ai.l : Nat) : Int) by rw [Int.natCast_add, Int.natCast_mul]]
            exact atI_nat gx
          · refine ⟨_, rfl, _, rfl, md, _, rfl, DPut.t (k := arK ai) b1 (by rw [arK_v]; exact e6) bz, ⟨_, _, rfl⟩, MD.put B.s fm1 b2 b3 hai, (upd_ne rmd).trans hr4⟩
        · obtain ⟨k1, k2, k3⟩ := kids_at h1 w1 hai inn
          have g1 := b3 _ _ (by omega) k1
          have g2 := b3 _ _ (by omega) k2
          unfold halvesL at al5
          rw [inn, if_pos rfl] at al5
          obtain ⟨p1, hp1, ep1⟩ := al5.at_ (i := 0) rfl
          obtain ⟨p2, hp2, ep2⟩ := al5.at_ (i := 1) rfl
          refine iteF ⟨_, rfl, _, rfl, hq, hs, 0, _, rfl, rfl, SqL.of l5, atI_nat (j := 0) hp1, md, .int (mean (fOf ns wn) (ai.half false)), rfl, g1 ▸ DGet.t (k := arK (ai.half false)) b1 (by rw [arK_v]; exact ep1), _, rfl, _, rfl, hq, hs, 1, _, rfl, rfl, SqL.of l5, atI_nat (j := 1) hp2, md, .int (mean (fOf ns wn) (ai.half true)), rfl, g2 ▸ DGet.t (k := arK (ai.half true)) b1 (by rw [arK_v]; exact ep2), _, _, rfl, rfl, _, _, rfl, rfl, ⟨by decide, by decide⟩, ?_⟩
          dsimp only
          rw [← mean_in (f := fOf ns wn) lt.o inn]
          exact ⟨_, rfl, _, rfl, md, _, rfl, DPut.t (k := arK ai) b1 (by rw [arK_v]; exact e6) bz, ⟨_, _, rfl⟩, MD.put B.s fm1 b2 b3 hai, (upd_ne rmd).trans hr4⟩
      · obtain ⟨⟨v5, v6, rfl⟩, B, _⟩ := q'
        rw [List.length_reverse, lu, Nat.sub_self] at B
        exact ⟨⟨_, _, rfl⟩, B⟩
    · rintro σ' H4 ⟨⟨v5, v6, rfl⟩, B⟩
      obtain ⟨kvs, b1, b2, b3⟩ := B.m
      have r0 := root_at h1 w1
      obtain ⟨q0, hq0, eq0⟩ := al.at_ r0
      have g0 := b3 0 _ (Nat.zero_le _) r0
      refine ⟨_, rfl, _, rfl, q, us, 0, _, rfl, rfl, SqL.of (B.s _ _ l1), atI_nat (j := 0) hq0, md, .int (mean (fOf ns wn) (root h wn)), rfl, g0 ▸ DGet.t (k := arK (root h wn)) b1 (by rw [arK_v]; exact B.s _ _ eq0), (by show 1 ≤ sizeLine; decide), fun fa hfa => ?_⟩
      have faf := B.s.free hfa
      have mfa : md ≠ fa := fun z => by rw [← z, b1] at hfa; cases hfa
      have B := B.same (Same.new (o := .lst [V.int (mean (fOf ns wn) (root h wn))]) hfa)
      have hf0 : (upd H4 fa (.lst [V.int (mean (fOf ns wn) (root h wn))])) fa = some (.lst [V.int (mean (fOf ns wn) (root h wn))]) := upd_same
      generalize upd H4 fa (.lst [V.int (mean (fOf ns wn) (root h wn))]) = H5 at B hf0 ⊢
      clear b1 b2 b3 g0 hfa
      refine ⟨fun σ' H' => (∃ v5 v6, σ' = [some (.int (h : Nat)), some (.int (wn : Nat)), some (.ref nq), some (.ref q), some (.ref md), v5, v6, some (.ref fa)]) ∧ Same H1 H' ∧ H' fa = some (.lst ((liftL (fOf ns wn) h wn).map V.int)), ?_, ?_⟩
      · refine ⟨_, rfl, q, rfl, ⟨_, SqL.of (B.s _ _ l1)⟩, for_it walk_list (fun n σ H => (∃ v5 v6, σ = [some (.int (h : Nat)), some (.int (wn : Nat)), some (.ref nq), some (.ref q), some (.ref md), v5, v6, some (.ref fa)]) ∧ MD H1 (fOf ns wn) h wn md 0 N H ∧ H fa = some (.lst ((mean (fOf ns wn) (root h wn) :: (((areasL h wn).take n).filter Ar.inn).map (diff (fOf ns wn))).map V.int)))
          ⟨⟨_, _, rfl⟩, B, by rw [List.take_zero]; exact hf0⟩ (fun j σ H _ q' => SqL.of (q'.2.1.s _ _ l1)) ?_ fun σ H q' => ?_⟩
        · rintro n x σ H6 H7 hn ⟨⟨v5, v6, rfl⟩, B, hf⟩ ⟨rfl, hx⟩
          obtain ⟨qa, ai, rfl, hai, eqa⟩ := al.get hx
          have lt := lit_areas h1 h2 w1 w2 (List.mem_of_getElem? hai)
          refine ⟨_, rfl, qa, ai, rfl, B.s _ _ eqa, lt, fun hq hs H8 m8 f8 l8 al8 => ?_⟩
          refine ⟨_, rfl, (by show 0 ≤ sizeLine; decide), fun p hp => ?_⟩
          have t2 := Same.new (o := .lst []) hp
          refine ⟨_, _, dp_als (t2 _ _ l8) (al8.same t2), dp_nil upd_same, shaped_al _, shaped_nil, _, rfl, ?_⟩
          rw [eqv_al_nil, halves_nil]
          have B := (B.same m8).same t2
          have hf := t2 _ _ (m8 _ _ hf)
          have l8 := t2 _ _ l8
          have al8 := al8.same t2
          generalize upd H8 p (.lst []) = H9 at B hf l8 al8 ⊢
          obtain ⟨kvs, b1, b2, b3⟩ := B.m
          have tk : ((areasL h wn).take (n + 1)).filter Ar.inn = ((areasL h wn).take n).filter Ar.inn ++ (if ai.inn = true then [ai] else []) := by
            rw [List.take_add_one, hai, List.filter_append]
            cases hi : ai.inn <;> simp [hi]
          rw [tk]
          cases inn : ai.inn
          · refine iteF ⟨⟨_, _, rfl⟩, B, ?_⟩
            rw [if_neg Bool.false_ne_true, List.append_nil]
            exact hf
          · obtain ⟨k1, k2, k3⟩ := kids_at h1 w1 hai inn
            have g1 := b3 _ _ (Nat.zero_le _) k1
            have g2 := b3 _ _ (Nat.zero_le _) k2
            unfold halvesL at al8
            rw [inn, if_pos rfl] at al8
            obtain ⟨p1, hp1, ep1⟩ := al8.at_ (i := 0) rfl
            obtain ⟨p2, hp2, ep2⟩ := al8.at_ (i := 1) rfl
            refine iteT ⟨_, rfl, .inl ⟨rfl, _, SqL.of hf⟩, _, rfl, _, rfl, hq, hs, 1, _, rfl, rfl, SqL.of l8, atI_nat (j := 1) hp2, md, .int (mean (fOf ns wn) (ai.half true)), rfl, g2 ▸ DGet.t (k := arK (ai.half true)) b1 (by rw [arK_v]; exact ep2), _, rfl, _, rfl, hq, hs, 0, _, rfl, rfl, SqL.of l8, atI_nat (j := 0) hp1, md, .int (mean (fOf ns wn) (ai.half false)), rfl, g1 ▸ DGet.t (k := arK (ai.half false)) b1 (by rw [arK_v]; exact ep1), _, _, rfl, rfl, ?_⟩
            refine ⟨fa, _, _, rfl, rfl, hf, ?_, ⟨_, _, rfl⟩, B.keep mfa faf, ?_⟩
            · rw [List.length_map, List.length_cons, List.length_map]
              have : (((areasL h wn).take n).filter Ar.inn).length ≤ 511 := by
                refine Nat.le_trans (List.length_filter_le _ _) (Nat.le_trans (List.length_take_le' _ _) ?_)
                rw [lenA]
                exact N2
              exact Nat.lt_of_le_of_lt (show _ ≤ 512 by omega) (by decide)
            · rw [if_pos rfl, upd_same, List.map_append, ← List.cons_append, List.map_append]
              rfl
        · obtain ⟨⟨v5, v6, rfl⟩, B, hf⟩ := q'
          refine ⟨⟨_, _, rfl⟩, B.s, ?_⟩
          rw [List.take_of_length_le (by rw [lenA, lu]; exact Nat.le_refl _)] at hf
          exact hf
      · rintro σ' H6 ⟨⟨v5, v6, rfl⟩, sm, hf⟩
        exact ⟨_, rfl, k fa H6 sm faf hf⟩
end
end K17
namespace KDT
open PySem PySem.Spec PyProof.Rows L2
/-! {(a, ..): v}: a display of one pair, its key a tuple of ints and texts -/
def tDisp1T (tk tv : TE) : TE := fun σ H Q => ∀ p, H p = none → tk σ (upd H p (.dT [])) fun x H1 => tv σ H1 fun y H2 => ∃ (k : List L2.Key) (b : Addr), x = .ref b ∧ H2 b = some (.tup (k.map kV)) ∧ H2 p = some (.dT []) ∧ Q (.ref p) (upd H2 p (.dT [(k, y)]))
theorem pe_disp1T {X : Cx} {pos : Pos} {key value : PySem.Expr} {tk tv : TE} (hu : X.A.units + 1 < cLine) (hk : PE X key tk) (hv : PE X value tv) : PE X (.Dict [some key] [value] pos) (tDisp1T tk tv) := by
  refine ⟨fun pins s σ H Q I q => ?_⟩
  have hn := I.hok.fresh (Nat.le_refl s.heap.objs.size)
  have I1 := I.laid (a := s.heap.objs.size) (o := .dT []) (h' := s.heap.push { cls := .type "dict", data := .dict #[] }) (t' := s.toks) (fun _ _ q => Heap.get?_push_of_some _ q) (Nat.le_refl _) (dt_empty s.heap I.big)
  have q1 := q s.heap.objs.size hn
  rw [arm_eval_Dict, zip_pairTrees [some key] [value] X.env pos rfl rfl, dictDisplay_pairs (pairTrees [some key] [value] X.env pos) (by intro z; cases z) (by show 1 < 17; decide)]
  refine wpAny_bind (wpAny_standAt (wpAny_bind (wpAny_subDictH (knd := tupleKind (mixKind X.prog X.w)) (Q := fun d s' => wpAny (model X.prog X.w) X.A (pure (Value.ref d)) (EP X pins σ Q) X.xe s') ?_ (by show 1 ≤ 15; decide) ?_)))
  · show X.A.units < cLine
    omega
  · refine pairTrees_cons_walk (thn (hk.run pins _ σ _ _ I1 q1) fun u s1 ⟨x, H1, I2, rx, q2⟩ => thn (hv.run pins s1 σ H1 _ I2 q2) fun w2 s2 ⟨y, H2, I3, ry, q3⟩ => pairTrees_nil_walk ?_)
    obtain ⟨k, b, ex, eb, ed, q4⟩ := q3
    subst ex
    cases (show u = Value.ref b from rx)
    obtain ⟨z, hd, xs, rel, dd⟩ := dt_of I3.hok ed
    cases rel
    refine ⟨[(k, b, w2)], ⟨rfl, rfl, key_of I3.hok eb, trivial⟩, dd, fun h' tk dd' hs => wpAny_pure ⟨.ref s.heap.objs.size, _, ?_, rfl, q4⟩⟩
    obtain ⟨o, es, ep, hq, h2, h3, h4, _, h5⟩ := dd'
    refine d_write I3 (by rw [ed]; exact True.intro) hs ⟨o, hq⟩ ⟨(by show 1 ≤ sizeLine; decide), hd, [(k, b, w2)], .cons ⟨rfl, ?_, ry⟩ .nil, o, es, ep, hq, h2, h3, h4, h5⟩
    rw [upd_ne (ne_of eb ed (fun z => nomatch z))]
    exact eb
end KDT
namespace K17
open PySem PySem.Spec PyProof.Rows L2 PySem.W LamX KA KW KU KL KT KDT
open Evl (pss_cut tCut)
/-! ### the law's own unlift -/
structure MU (H0 : Hp) (h w : Nat) (m : Nat → Int) (md fd : Addr) (n : Nat) (H : Hp) : Prop where
  s : Same H0 H
  mm : ∃ kvs : List (List L2.Key × V), H md = some (.dT kvs) ∧ kvs.length ≤ 2 * n + 1 ∧ ∀ (i : Nat) (a : Ar) (u : Int), (areasL h w)[i]? = some a → (upL h w m m n)[i]? = some u → valV kvs (arK a) = some (.int u)
  fk : H fd = some (.lst (((List.range (h * w)).map fun j => cellN h w m m n (j / w) (j % w)).map V.int))
theorem MU.same {H0 H H' : Hp} {h w : Nat} {m : Nat → Int} {md fd : Addr} {n : Nat} (B : MU H0 h w m md fd n H) (e : Same H H') : MU H0 h w m md fd n H' := by
  obtain ⟨kvs, b1, b2⟩ := B.mm
  exact ⟨B.s.trans e, ⟨kvs, e _ _ b1, b2⟩, e _ _ B.fk⟩
theorem AL.putD {H : Hp} {vs : List V} {as : List Ar} {D : Addr} {o : HO} {kvs : List (List L2.Key × V)} (p : AL H vs as) (h : H D = some (.dT kvs)) : AL (upd H D o) vs as := by
  induction p with
  | nil => exact .nil
  | @cons b a vs as e _ ih =>
    refine .cons ?_ ih
    rw [upd_ne (fun z => by rw [z, h] at e; cases e)]
    exact e
/-- the two halves' means put -/
theorem put_two {h w n kk : Nat} (h1 : 1 ≤ h) (w1 : 1 ≤ w) {m : Nat → Int} {a : Ar} {un mv : Int} {kvs : List (List L2.Key × V)} (k1 : (areasL h w)[2 * kk - 1]? = some (a.half false)) (k2 : (areasL h w)[2 * kk]? = some (a.half true))
    (kp : 1 ≤ kk) (len : (upL h w m m n).length = 2 * kk - 1) (us : upL h w m m (n + 1) = upL h w m m n ++ [un - mv / 2, un + mv - mv / 2])
    (b3 : ∀ (i : Nat) (a : Ar) (u : Int), (areasL h w)[i]? = some a → (upL h w m m n)[i]? = some u → valV kvs (arK a) = some (.int u)) :
    ∀ (i : Nat) (b : Ar) (u : Int), (areasL h w)[i]? = some b → (upL h w m m (n + 1))[i]? = some u → valV (putK (putK kvs (arK (a.half false)) (.int (un - mv / 2))) (arK (a.half true)) (.int (un - mv / 2 + mv))) (arK b) = some (.int u) := by
  intro i b u ei eu
  rw [us] at eu
  rw [valV_put, valV_put]
  by_cases c1 : i < (upL h w m m n).length
  · rw [List.getElem?_append_left c1] at eu
    rw [if_neg, if_neg]
    · exact b3 i b u ei eu
    · intro z
      have := areas_inj h1 w1 (arK_inj z ▸ ei) k1
      omega
    · intro z
      have := areas_inj h1 w1 (arK_inj z ▸ ei) k2
      omega
  · rw [List.getElem?_append_right (by omega)] at eu
    by_cases c2 : i = 2 * kk - 1
    · rw [show i - (upL h w m m n).length = 0 by omega] at eu
      cases (show some (un - mv / 2) = some u from eu)
      subst c2
      rw [k1] at ei
      cases ei
      rw [if_neg, if_pos rfl]
      intro z
      have := areas_inj h1 w1 (arK_inj z ▸ k1) k2
      omega
    · by_cases c3 : i = 2 * kk
      · rw [show i - (upL h w m m n).length = 1 by omega] at eu
        cases (show some (un + mv - mv / 2) = some u from eu)
        subst c3
        rw [k2] at ei
        cases ei
        rw [if_pos rfl]
        congr 2
        omega
      · rw [List.getElem?_eq_none (by simp; omega)] at eu
        cases eu
def spLUnlift : Sp := fun vs H Q _ => ∃ (q : Addr) (ns : List Int) (h w : Nat), vs = [.int h, .int w, .ref q] ∧ H q = some (.lst (ns.map V.int)) ∧ ns.length = h * w ∧ 1 ≤ h ∧ h ≤ 16 ∧ 1 ≤ w ∧ w ≤ 16 ∧
  ∀ p H', Same H H' → H p = none → H' p = some (.lst ((downL h w (numAt ns) (numAt ns)).map V.int)) → Q (.ref p) H'
theorem rep_one {v : V} (n : Nat) : (List.replicate n [v]).flatten = List.replicate n v := by
  induction n with
  | zero => rfl
  | succ n ih => simp [List.replicate_succ]
/-- the list of cells, one of them set -/
theorem cells_set {h w n : Nat} (h1 : 1 ≤ h) (w1 : 1 ≤ w) {m : Nat → Int} {a : Ar} (e : (areasL h w)[n]? = some a) (ea : a = ⟨a.t, a.l, 1, 1⟩) (ht : a.t < h) (hl : a.l < w) {v : Int} (hv : (up h w m m)[n]? = some v) :
    ((List.range (h * w)).map fun j => cellN h w m m n (j / w) (j % w)).set (a.t * w + a.l) v = (List.range (h * w)).map fun j => cellN h w m m (n + 1) (j / w) (j % w) := by
  have d1 : (a.t * w + a.l) / w = a.t := by rw [Nat.mul_comm, Nat.mul_add_div w1, Nat.div_eq_of_lt hl, Nat.add_zero]
  have d2 : (a.t * w + a.l) % w = a.l := by rw [Nat.mul_comm, Nat.mul_add_mod, Nat.mod_eq_of_lt hl]
  have lt : a.t * w + a.l < h * w := by
    have : (a.t + 1) * w ≤ h * w := Nat.mul_le_mul_right w ht
    rw [Nat.succ_mul] at this
    omega
  refine row_set lt ?_ fun j hj nj => ?_
  · rw [d1, d2]
    exact cellN_at h1 w1 (ea ▸ e) hv
  · refine cellN_step h1 w1 e (fun z => nj ?_) (Nat.div_lt_of_lt_mul (by rw [Nat.mul_comm]; exact hj)) (Nat.mod_lt _ w1)
    rw [← z]
    show j = j / w * w + j % w
    rw [Nat.mul_comm]
    exact (Nat.div_add_mod j w).symm
theorem cells_same {h w n : Nat} (h1 : 1 ≤ h) (w1 : 1 ≤ w) {m : Nat → Int} {a : Ar} (e : (areasL h w)[n]? = some a) (i : a.inn = true) :
    (List.range (h * w)).map (fun j => cellN h w m m (n + 1) (j / w) (j % w)) = (List.range (h * w)).map fun j => cellN h w m m n (j / w) (j % w) := by
  refine List.map_congr_left fun j hj => ?_
  have hj := List.mem_range.mp hj
  exact cellN_step h1 w1 e (fun z => by rw [← z] at i; cases i) (Nat.div_lt_of_lt_mul (by rw [Nat.mul_comm]; exact hj)) (Nat.mod_lt _ w1)
section
variable {P : Program} {w : World} {K : PySem.W.Frag} {mg : Str → Option Value} {base : Heap} (T : Top K mg)
theorem ok_lunlift : FnOk P w K mg base (L2.CX P w) 3 T._law_unlift.a T._law_unlift.d ["tall", "wide", "numbers_here"] spLUnlift := by
  refine T._law_unlift.f.okX sc__law_unlift (fun vs H Q E h => ?_) (fun cdv A outer s H vs Q E hr h => ?_)
  · obtain ⟨q, ns, h, w, rfl, _⟩ := h
    rfl
  · obtain ⟨nq, ns, h, wn, rfl, hnq, hln, h1, h2, w1, w2, k⟩ := h
    have hu := hu_of hr
    refine ⟨_, pss_cons (ps_par3 (i := 3) (j := 4) (l := 5) rfl sc__law_unlift.nd rfl rfl rfl (by decide) (by decide) (by decide) rfl rfl rfl (pa_cons (pe_disp1T hu (pe_tup (pa_cons pe_int (pa_cons pe_int (pa_cons (pv 0) (pa_cons (pv 1) pa_nil))))) (pe_ix ix_list (pv 2) pe_int (fun _ _ => rfl))) (pa_cons pe_int (pa_cons (pe_op op_rep (pe_lst (pa_cons pe_int pa_nil)) (pe_op op_mul (pv 0) (pv 1))) pa_nil))) (by rfl))
      (pss_cut (ps_for (passes_of rfl) rfl (pi_list (pe_call (ok_lareas T) (hr.mono (by decide)) (by rfl) T._law_areas.m T._law_areas.f.kp (bd__law_areas T) .nil passE (pa_cons (pv 0) (pa_cons (pv 1) pa_nil)))) (pg_name (i := 6) sc__law_unlift.nd rfl (.inl rfl))
        (pss_cons (ps_set (i := 7) sc__law_unlift.nd rfl (.inl rfl) (pe_call (ok_lhalves T) (hr.mono (by decide)) (by rfl) T._law_halves.m T._law_halves.f.kp (bd__law_halves T) .nil passE (pa_cons (pv 6) pa_nil)))
        (pss_one (ps_if (pt_cmpR (op_eqD hr.units) (pv 7) (pe_lst pa_nil) (nomark _))
          (pss_one (ps_asg (pe_dget hu (pv 3) (pv 6) (fun _ _ => rfl)) (pg_sub (pv 5) (pe_op op_add (pe_op op_mul (pe_ix ix_tup (pv 6) pe_int (fun _ _ => rfl)) (pv 1)) (pe_ix ix_tup (pv 6) pe_int (fun _ _ => rfl))) set_list)))
          (pss_cons (ps_set (i := 4) sc__law_unlift.nd rfl (.inl rfl) (pe_op op_add (pv 4) pe_int))
          (pss_cons (ps_set (i := 8) sc__law_unlift.nd rfl (.inl rfl) (pe_op op_sub (pe_dget hu (pv 3) (pv 6) (fun _ _ => rfl)) (pe_op op_fdiv (pe_ix ix_list (pv 2) (pv 4) (fun _ _ => rfl)) pe_int)))
          (pss_one (ps_asg (pe_tup (pa_cons (pv 8) (pa_cons (pe_op op_add (pv 8) (pe_ix ix_list (pv 2) (pv 4) (fun _ _ => rfl))) pa_nil))) (pg_tup rfl (pgs_cons (pg_sub (pv 3) (pe_ix ix_list (pv 7) pe_int (fun _ _ => rfl)) (set_dict hu)) (pgs_cons (pg_sub (pv 3) (pe_ix ix_list (pv 7) pe_int (fun _ _ => rfl)) (set_dict hu)) pgs_nil)))))))))))
      (pss_one (ps_ret (pv 5)))), ?_⟩
    have lenA := areas_len h1 w1
    have hw1 := Nat.mul_pos h1 w1
    have hw2 : h * wn ≤ 16 * 16 := Nat.mul_le_mul h2 w2
    obtain ⟨x0, hx0⟩ : ∃ x0, ns[0]? = some x0 := ⟨_, List.getElem?_eq_getElem (by omega)⟩
    have num0 : numAt ns 0 = x0 := by
      unfold numAt
      rw [List.getD_eq_getElem?_getD, hx0]
      rfl
    refine fun md hmd => ⟨_, rfl, _, rfl, (by show 4 ≤ sizeLine; decide), fun kp hkp => ?_⟩
    have t1 := Same.new (o := .dT []) hmd
    have t2 := Same.new (o := .tup [V.int 0, .int 0, .int h, .int wn]) hkp
    refine ⟨_, rfl, nq, _, 0, _, rfl, rfl, SqL.of (t2 _ _ (t1 _ _ hnq)), atI_nat (j := 0) (by rw [List.getElem?_map, hx0]; rfl), arK (root h wn), kp, rfl, upd_same, t2 _ _ upd_same, ?_⟩
    have b0 : (upd (upd (upd H md (.dT [])) kp (.tup [V.int 0, .int 0, .int h, .int wn])) md (.dT [(arK (root h wn), .int x0)])) md = some (.dT [(arK (root h wn), .int x0)]) := upd_same
    have s0 : Same H (upd (upd (upd H md (.dT [])) kp (.tup [V.int 0, .int 0, .int h, .int wn])) md (.dT [(arK (root h wn), .int x0)])) := Same.put (t1.trans t2) hmd
    generalize upd (upd (upd H md (.dT [])) kp (.tup [V.int 0, .int 0, .int h, .int wn])) md (.dT [(arK (root h wn), .int x0)]) = H1 at b0 s0 ⊢
    clear t1 t2 hkp
    refine ⟨(by show 1 ≤ sizeLine; decide), fun p1 hp1 => ⟨_, rfl, _, rfl, _, _, rfl, rfl, .inl ⟨by omega, by omega⟩, p1, ((h * wn : Nat) : Int), _, rfl, by rw [Int.natCast_mul], upd_same, by omega, by omega, ?_, fun fd hfd => ⟨_, _, _, rfl, ?_⟩⟩⟩
    · rw [Int.toNat_natCast]
      exact Nat.le_trans (show 1 * (h * wn) ≤ 511 by omega) (by decide)
    have s1 := Same.new (o := .lst [V.int 0]) hp1
    have s2 := Same.new (o := .lst (List.replicate ((h * wn : Nat) : Int).toNat [V.int 0]).flatten) hfd
    have mdf : md ≠ fd := fun z => by rw [← z, s1 _ _ b0] at hfd; cases hfd
    have fdf : H fd = none := (s0.trans s1).free hfd
    have B0 : MU H h wn (numAt ns) md fd 0 (upd (upd H1 p1 (.lst [V.int 0])) fd (.lst (List.replicate ((h * wn : Nat) : Int).toNat [V.int 0]).flatten)) := by
      refine ⟨(s0.trans s1).trans s2, ⟨_, s2 _ _ (s1 _ _ b0), Nat.le_refl _, fun i a u ei eu => ?_⟩, ?_⟩
      · cases i with
        | zero =>
          rw [root_at h1 w1] at ei
          cases ei
          have : some (numAt ns 0) = some u := eu
          rw [num0] at this
          cases this
          exact valV_pos rfl
        | succ i =>
          have : ([numAt ns 0] : List Int)[i + 1]? = some u := eu
          simp at this
      · rw [upd_same, rep_one, Int.toNat_natCast]
        congr 2
        refine List.ext_getElem (by simp) fun x a b => ?_
        simp [cellN_zero]
    generalize upd (upd H1 p1 (.lst [V.int 0])) fd (.lst (List.replicate ((h * wn : Nat) : Int).toNat [V.int 0]).flatten) = H2 at B0 ⊢
    clear s0 s1 s2 b0 hp1 hfd
    refine ⟨fun σ' H' => (∃ v4 v6 v7 v8, σ' = [some (.int (h : Nat)), some (.int (wn : Nat)), some (.ref nq), some (.ref md), v4, some (.ref fd), v6, v7, v8]) ∧ MU H h wn (numAt ns) md fd (2 * (h * wn) - 1) H', ?_, ?_⟩
    · refine ⟨_, rfl, _, rfl, h, wn, rfl, h1, h2, w1, w2, fun q us H3 m3 f3 l3 al => ⟨q, rfl, ⟨_, SqL.of l3⟩, ?_⟩⟩
      have lu : us.length = 2 * (h * wn) - 1 := by rw [al.len, lenA]
      have qmd : q ≠ md := fun z => by
        obtain ⟨kvs, b1, _⟩ := B0.mm
        rw [← z, f3] at b1
        cases b1
      have qfd : q ≠ fd := fun z => by
        rw [z, B0.fk] at f3
        cases f3
      have B0 := B0.same m3
      refine for_it walk_list (fun n σ H' => (∃ (c : Int) (v6 v7 v8 : Option V), c = ((kth h wn n : Nat) : Int) ∧ σ = [some (.int (h : Nat)), some (.int (wn : Nat)), some (.ref nq), some (.ref md), some (.int c), some (.ref fd), v6, v7, v8]) ∧ MU H h wn (numAt ns) md fd n H' ∧ H' q = some (.lst us) ∧ AL H' us (areasL h wn))
        ⟨⟨0, none, none, none, rfl, rfl⟩, B0, l3, al⟩ (fun j σ H _ q' => SqL.of q'.2.2.1) ?_ fun σ H q' => ?_
      · rintro n x σ H4 H5 hn ⟨⟨c, v6, v7, v8, rfl, rfl⟩, B, hq, al⟩ ⟨rfl, hx⟩
        rw [lu] at hn
        obtain ⟨qa, ai, rfl, hai, eqa⟩ := al.get hx
        have lt := lit_areas h1 h2 w1 w2 (List.mem_of_getElem? hai)
        have ks := kth_succ hai
        have ul := upL_lt h1 w1 (numAt ns) (numAt ns) hn
        obtain ⟨un, hun⟩ : ∃ un, (upL h wn (numAt ns) (numAt ns) n)[n]? = some un := ⟨_, List.getElem?_eq_getElem ul⟩
        have hU : (up h wn (numAt ns) (numAt ns))[n]? = some un := upL_get (Nat.le_of_lt hn) hun
        have un0 : (upL h wn (numAt ns) (numAt ns) n).getD n 0 = un := by rw [List.getD_eq_getElem?_getD, hun]; rfl
        have us' := upL_succ (m := numAt ns) (g := numAt ns) hai
        refine ⟨_, rfl, qa, ai, rfl, eqa, lt, fun hq' hs H6 m6 f6 l6 al6 => ?_⟩
        refine ⟨_, rfl, (by show 0 ≤ sizeLine; decide), fun p hp => ?_⟩
        have t2 := Same.new (o := .lst []) hp
        refine ⟨_, _, dp_als (t2 _ _ l6) (al6.same t2), dp_nil upd_same, shaped_al _, shaped_nil, _, rfl, ?_⟩
        rw [eqv_al_nil, halves_nil]
        have B := (B.same m6).same t2
        have hq := t2 _ _ (m6 _ _ hq)
        have al := (al.same m6).same t2
        have eqa := t2 _ _ (m6 _ _ eqa)
        have l6 := t2 _ _ l6
        have al6 := al6.same t2
        generalize upd H6 p (.lst []) = H7 at B hq al eqa l6 al6 ⊢
        clear m6 f6 t2 hp
        obtain ⟨kvs, b1, b2, b3⟩ := B.mm
        have g0 := b3 n ai un hai hun
        cases inn : ai.inn
        · rw [inn] at ks us'
          rw [if_neg Bool.false_ne_true] at ks us'
          obtain ⟨o1, o2⟩ := one_of lt.o inn
          have ia := (areas_ok h1 w1 (List.mem_of_getElem? hai)).2
          unfold In root at ia
          dsimp only at ia
          have yh : ai.t < h := by omega
          have xw : ai.l < wn := by omega
          have eai : ai = ⟨ai.t, ai.l, 1, 1⟩ := by
            cases ai
            simp only at *
            congr 1
          have xi : ai.t * wn + ai.l < h * wn := by
            have : (ai.t + 1) * wn ≤ h * wn := Nat.mul_le_mul_right wn yh
            rw [Nat.succ_mul] at this
            omega
          refine iteT ⟨_, rfl, _, rfl, md, .int un, rfl, g0 ▸ DGet.t (k := arK ai) b1 (by rw [arK_v]; exact eqa), ?_⟩
          refine ⟨_, rfl, _, rfl, qa, _, 0, .int ai.t, rfl, rfl, SqT.of eqa, rfl, _, rfl, _, _, rfl, rfl, .inl ⟨by omega, by omega⟩, _, rfl, qa, _, 1, .int ai.l, rfl, rfl, SqT.of eqa, rfl, _, _, rfl, rfl, fd, _, _, ai.t * wn + ai.l, rfl, by rw [Int.natCast_add, Int.natCast_mul], B.fk, ixN_nat (by rw [List.length_map, List.length_map, List.length_range]; exact xi), ?_⟩
          refine ⟨⟨_, _, _, _, by rw [ks, Nat.add_zero], rfl⟩, ?_⟩
          refine ⟨⟨Same.put B.s fdf, ⟨kvs, (upd_ne mdf).trans b1, by omega, fun i a u ei eu => b3 i a u ei (by rw [us'] at eu; exact eu)⟩, ?_⟩, (upd_ne qfd).trans hq, al.put B.fk⟩
          rw [upd_same, ← List.map_set, cells_set h1 w1 hai eai yh xw hU]
        · rw [inn] at ks us'
          rw [if_pos rfl] at ks us'
          rw [un0] at us'
          have len := upL_len (h := h) (w := wn) (m := numAt ns) (g := numAt ns) n (by rw [lenA]; omega)
          obtain ⟨k1, k2, k3⟩ := kids_at h1 w1 hai inn
          have kb := (List.getElem?_eq_some_iff.mp k2).1
          rw [lenA] at kb
          generalize hk : kth h wn (n + 1) = kk at *
          have kp : 1 ≤ kk := by omega
          obtain ⟨mv, hmv⟩ : ∃ mv, ns[kk]? = some mv := ⟨_, List.getElem?_eq_getElem (by omega)⟩
          have nmv : numAt ns kk = mv := by
            unfold numAt
            rw [List.getD_eq_getElem?_getD, hmv]
            rfl
          rw [nmv] at us'
          have getm : (ns.map V.int)[kk]? = some (V.int mv) := by rw [List.getElem?_map, hmv]; rfl
          have hn7 := B.s _ _ hnq
          unfold halvesL at al6
          rw [inn, if_pos rfl] at al6
          refine iteF ⟨_, rfl, _, _, rfl, rfl, ?_⟩
          dsimp only
          rw [show ((kth h wn n : Nat) : Int) + 1 = ((kk : Nat) : Int) by omega]
          refine ⟨_, rfl, _, rfl, md, .int un, rfl, g0 ▸ DGet.t (k := arK ai) b1 (by rw [arK_v]; exact eqa), _, rfl, _, rfl, nq, _, _, .int mv, rfl, rfl, SqL.of hn7, atI_nat getm, _, _, rfl, rfl, ⟨by decide, by decide⟩, _, _, rfl, rfl, ?_⟩
          refine ⟨_, rfl, _, rfl, _, rfl, _, rfl, nq, _, _, .int mv, rfl, rfl, SqL.of hn7, atI_nat getm, _, _, rfl, rfl, (by show 2 ≤ sizeLine; decide), fun p3 hp3 => ⟨p3, _, rfl, SqT.of upd_same, rfl, _, _, rfl, ?_⟩⟩
          dsimp only
          have t3 := Same.new (o := .tup [V.int (un - mv / 2), .int (un - mv / 2 + mv)]) hp3
          have B := B.same t3
          have hq := t3 _ _ hq
          have al := al.same t3
          have l6 := t3 _ _ l6
          have al6 := al6.same t3
          have b1 := t3 _ _ b1
          clear t3 hp3 eqa
          generalize upd H7 p3 (.tup [V.int (un - mv / 2), .int (un - mv / 2 + mv)]) = H8 at B hq al l6 al6 b1 ⊢
          obtain ⟨p1, hp1, ep1⟩ := al6.at_ (i := 0) rfl
          have bz : kvs.length < sizeLine := Nat.lt_of_le_of_lt (show kvs.length ≤ 1100 by omega) (by decide)
          have pz := length_putK kvs (arK (ai.half false)) (.int (un - mv / 2))
          have bz2 : (putK kvs (arK (ai.half false)) (.int (un - mv / 2))).length < sizeLine := Nat.lt_of_le_of_lt (show _ ≤ 1200 by omega) (by decide)
          have hqm : hq' ≠ md := fun z => by rw [z, b1] at l6; cases l6
          have al6' := al6.putD (o := .dT (putK kvs (arK (ai.half false)) (.int (un - mv / 2)))) b1
          obtain ⟨p2, hp2, ep2⟩ := al6'.at_ (i := 1) rfl
          refine ⟨_, rfl, _, rfl, hq', hs, 0, _, rfl, rfl, SqL.of l6, atI_nat (j := 0) hp1, md, _, rfl, DPut.t (k := arK (ai.half false)) b1 (by rw [arK_v]; exact ep1) bz, _, _, rfl, ?_⟩
          refine ⟨_, rfl, _, rfl, hq', hs, 1, _, rfl, rfl, SqL.of ((upd_ne hqm).trans l6), atI_nat (j := 1) hp2, md, _, rfl, DPut.t (k := arK (ai.half true)) upd_same (by rw [arK_v]; exact ep2) bz2, rfl, ?_⟩
          refine ⟨⟨_, _, _, _, rfl, rfl⟩, ⟨Same.put (Same.put B.s hmd) hmd, ⟨_, upd_same, ?_, put_two h1 w1 k1 k2 kp (by omega) us' b3⟩, ?_⟩, (upd_ne qmd).trans ((upd_ne qmd).trans hq), (al.putD b1).putD upd_same⟩
          · have pz2 := length_putK (putK kvs (arK (ai.half false)) (.int (un - mv / 2))) (arK (ai.half true)) (.int (un - mv / 2 + mv))
            omega
          · rw [upd_ne (Ne.symm mdf), upd_ne (Ne.symm mdf), B.fk, cells_same h1 w1 hai inn]
      · obtain ⟨⟨c, v6, v7, v8, _, rfl⟩, B, _⟩ := q'
        rw [lu] at B
        exact ⟨⟨_, _, _, _, rfl⟩, B⟩
    · rintro σ' H3 ⟨⟨v4, v6, v7, v8, rfl⟩, B⟩
      refine ⟨_, rfl, k fd H3 B.s fdf ?_⟩
      rw [B.fk]
      unfold downL
      congr 3
      refine List.map_congr_left fun j hj => ?_
      have hj := List.mem_range.mp hj
      exact cellN_all h1 w1 (Nat.div_lt_of_lt_mul (by rw [Nat.mul_comm]; exact hj)) (Nat.mod_lt _ w1)
end
end K17
namespace K17
open PySem PySem.Spec PyProof.Rows L2 PySem.W LamX KA KW KU KL KT KDT
open Evl (pss_cut tCut)
/-! ### x is True -/
def rIsB : R2 := fun x y H Q => ∃ a b : Bool, x = .bl a ∧ y = .bl b ∧ Q (.bl (a == b)) H
theorem op_isB {X : Cx} : OpR X (compareOp .Is) rIsB := by
  intro pins s σ H x y v u Q I rx ry h
  obtain ⟨a, b, rfl, rfl, q⟩ := h
  cases rx
  cases ry
  show wpAny _ _ ((isSame (Value.bool a) (Value.bool b)) >>= fun z => pure (Value.bool z)) _ _ s
  refine wpAny_bind (wpAny_isSame_plain (by rfl) (wpAny_pure (fin_bl I q ?_)))
  cases a <;> cases b <;> rfl
/-! ### short functions of the law -/
def spRowBy : Sp := fun vs H Q _ => ∃ (a : Addr) (nss : List (List Int)) (w : Nat), vs = [.ref a] ∧ Pn H a nss w ∧ ∀ p H', Same H H' → H p = none → H' p = some (.lst (nss.flatten.map V.int)) → Q (.ref p) H'
def spSays : Sp := fun vs H Q _ => ∃ a b : Bool, vs = [.bl a, .bl b] ∧ Q (.bl (a == b)) H
def spFigure : Sp := fun vs H Q _ => ∃ (st lg cl : Addr) (f m : Nat), vs = [.ref st, .int f] ∧ f < 3 ∧ m ≤ 999999 ∧ StAt H st lg cl m ∧ ∀ (i : Int) (H' : Hp), StAt H' st lg cl (m + 1) → Kp st lg H H' → Q (.int i) H'
def spSizes : Sp := fun vs H Q _ => ∃ (st lg cl : Addr) (c m : Nat), vs = [.ref st, .int c] ∧ 1 ≤ c ∧ m ≤ 999990 ∧ StAt H st lg cl m ∧
  ∀ (h w : Nat) (p : Addr) (H' : Hp), 1 ≤ h → h ≤ 16 → 1 ≤ w → w ≤ 16 → H' p = some (.tup [.int h, .int w]) → StAt H' st lg cl (m + 2) → Kp st lg H H' → Q (.ref p) H'
/-- spots -/
inductive DL (H : Hp) : List V → List (Nat × Nat) → Prop
  | nil : DL H [] []
  | cons {p : Addr} {d : Nat × Nat} {vs : List V} {ds : List (Nat × Nat)} (e : H p = some (.tup [.int d.1, .int d.2])) (r : DL H vs ds) : DL H (.ref p :: vs) (d :: ds)
theorem DL.same {H H' : Hp} {vs : List V} {ds : List (Nat × Nat)} (p : DL H vs ds) (s : Same H H') : DL H' vs ds := by
  induction p with
  | nil => exact .nil
  | cons e _ ih => exact .cons (s _ _ e) ih
theorem DL.put {H : Hp} {vs xs : List V} {ds : List (Nat × Nat)} {D : Addr} {o : HO} (p : DL H vs ds) (h : H D = some (.lst xs)) : DL (upd H D o) vs ds := by
  induction p with
  | nil => exact .nil
  | cons e _ ih => exact .cons (by rw [upd_ne (fun z => by rw [z, h] at e; cases e)]; exact e) ih
theorem DL.append {H : Hp} {vs us : List V} {ds es : List (Nat × Nat)} (p : DL H vs ds) (q : DL H us es) : DL H (vs ++ us) (ds ++ es) := by
  induction p with
  | nil => exact q
  | cons e _ ih => exact .cons e ih
theorem DL.len {H : Hp} {vs : List V} {ds : List (Nat × Nat)} (p : DL H vs ds) : vs.length = ds.length := by
  induction p with
  | nil => rfl
  | cons _ _ ih => simp [ih]
theorem DL.get {H : Hp} {vs : List V} {ds : List (Nat × Nat)} (p : DL H vs ds) : ∀ {i : Nat} {v : V}, vs[i]? = some v → ∃ q d, v = .ref q ∧ ds[i]? = some d ∧ H q = some (.tup [.int d.1, .int d.2]) := by
  induction p with
  | nil => intro i a h; simp at h
  | @cons q b vs as e r ih =>
    intro i v h
    cases i with
    | zero =>
      simp at h
      exact ⟨q, b, h.symm, rfl, e⟩
    | succ i => exact ih (by simpa using h)
def dotsL (h w : Nat) : List (Nat × Nat) := ((List.range h).map fun y => (List.range w).map fun x => (y, x)).flatten
theorem dotsL_succ {h w : Nat} : dotsL (h + 1) w = dotsL h w ++ (List.range w).map fun x => (h, x) := by
  unfold dotsL
  rw [List.range_succ, List.map_append, List.flatten_append]
  simp
theorem dotsL_len {h w : Nat} : (dotsL h w).length = h * w := by
  induction h with
  | zero => simp [dotsL]
  | succ h ih => rw [dotsL_succ, List.length_append, ih, List.length_map, List.length_range, Nat.succ_mul]
def spDots : Sp := fun vs H Q _ => ∃ h w : Nat, vs = [.int h, .int w] ∧ h ≤ 16 ∧ w ≤ 16 ∧ ∀ q us H', Same H H' → H q = none → H' q = some (.lst us) → DL H' us (dotsL h w) → Q (.ref q) H'
section
variable {P : Program} {w : World} {K : PySem.W.Frag} {mg : Str → Option Value} {base : Heap} (T : Top K mg)
theorem ok_row_by : FnOk P w K mg base (L2.CX P w) 1 T._law_row_by_row.a T._law_row_by_row.d ["pane"] spRowBy := by
  refine T._law_row_by_row.f.okX sc__law_row_by_row (fun vs H Q E h => ?_) (fun cdv A outer s H vs Q E hr h => ?_)
  · obtain ⟨a, nss, w, rfl, _⟩ := h
    rfl
  · obtain ⟨a, nss, wn, rfl, pn, k⟩ := h
    refine ⟨_, pss_cons (ps_set (i := 1) sc__law_row_by_row.nd rfl (.inl rfl) (pe_lst pa_nil))
      (pss_cut (ps_for (passes_of rfl) rfl (pi_tup (pv 0)) (pg_name (i := 2) sc__law_row_by_row.nd rfl (.inl rfl))
        (pss_one (ps_set (i := 1) sc__law_row_by_row.nd rfl (.inl rfl) (pe_op op_cat (pv 1) (pe_callTy call_list_of (by rfl) T.b_list (by decide +kernel) (pa_cons (pv 2) pa_nil))))))
      (pss_one (ps_ret (pv 1)))), ?_⟩
    obtain ⟨vs, ea, rows⟩ := pn.rows
    refine ⟨(by show 0 ≤ sizeLine; decide), fun f0 hf0 => ?_⟩
    have t0 := Same.new (o := .lst []) hf0
    refine ⟨fun σ' H' => ∃ fa v2, σ' = [some (.ref a), some (.ref fa), v2] ∧ H fa = none ∧ Same H H' ∧ H' fa = some (.lst (nss.flatten.map V.int)), ?_, ?_⟩
    · refine ⟨_, rfl, a, rfl, ⟨_, SqT.of (t0 _ _ ea)⟩, for_it walk_tup (fun n σ H' => ∃ fa v2, σ = [some (.ref a), some (.ref fa), v2] ∧ H fa = none ∧ Same H H' ∧ H' fa = some (.lst ((nss.take n).flatten.map V.int)))
        ⟨f0, none, rfl, hf0, t0, upd_same⟩ (fun j σ H' _ q' => SqT.of (q'.elim fun fa q => q.elim fun v2 q => q.2.2.1 _ _ ea)) ?_ fun σ H' q' => ?_⟩
      · rintro n x σ H1 H2 hn ⟨fa, v2, rfl, ff, sm, hf⟩ ⟨rfl, hx⟩
        obtain ⟨b, ns, rfl, hns, eb⟩ := rows.2 n x hx
        refine ⟨_, rfl, _, rfl, b, _, rfl, .inr (SqT.of (sm _ _ eb)), fun l hl => ?_⟩
        have t1 := Same.new (o := .lst (ns.map V.int)) hl
        have l1 : (nss.take n).flatten.length ≤ 256 := by
          rw [flat_len (w := wn) fun r hr => pn.ws r (List.mem_of_mem_take hr)]
          exact Nat.mul_le_mul (Nat.le_trans (by rw [List.length_take]; exact Nat.min_le_right _ _) pn.h2) pn.w2
        have l2 : ns.length ≤ 16 := by rw [pn.ws ns (List.mem_of_getElem? hns)]; exact pn.w2
        refine ⟨fa, l, _, _, rfl, rfl, t1 _ _ hf, upd_same, ?_, fun g hg => ?_⟩
        · rw [List.length_map, List.length_map]
          exact Nat.le_trans (show _ ≤ 300 by omega) (by decide)
        · refine ⟨g, _, rfl, (sm.trans t1).free hg, (sm.trans t1).trans (Same.new hg), ?_⟩
          rw [upd_same, take_flat hns, List.map_append]
      · obtain ⟨fa, v2, rfl, ff, sm, hf⟩ := q'
        rw [List.take_of_length_le (by rw [rows.1]; exact Nat.le_refl _)] at hf
        exact ⟨fa, v2, rfl, ff, sm, hf⟩
    · rintro σ' H1 ⟨fa, v2, rfl, ff, sm, hf⟩
      exact ⟨_, rfl, k fa H1 sm ff hf⟩
theorem ok_figure : FnOk P w K mg base (L2.CX P w) 2 T._law_figure.a T._law_figure.d ["state", "fashion"] spFigure := by
  refine T._law_figure.f.okX sc__law_figure (fun vs H Q E h => ?_) (fun cdv A outer s H vs Q E hr h => ?_)
  · obtain ⟨st, lg, cl, f, m, rfl, _⟩ := h
    rfl
  · obtain ⟨st, lg, cl, f, m, rfl, hf, hm, S, k⟩ := h
    refine ⟨_, pss_cons (ps_set (i := 2) sc__law_figure.nd rfl (.inl rfl) (pe_ix ix_list (pe_lst (pa_cons pe_int (pa_cons pe_int (pa_cons (pe_op op_sub (pe_op op_pow pe_int pe_int) pe_int) pa_nil)))) (pv 1) (fun _ _ => rfl)))
      (pss_one (ps_ret (pe_op op_sub (pe_call (ok_draw T) hr (by rfl) T._law_draw.m T._law_draw.f.kp (bd__law_draw T) .nil passE (pa_cons (pv 0) (pa_cons (pe_op op_add (pe_op op_mul pe_int (pv 2)) pe_int) pa_nil))) (pv 2)))), ?_⟩
    refine ⟨_, _, rfl, rfl, ⟨by decide, by decide, by decide⟩, _, _, rfl, rfl, (by show 3 ≤ sizeLine; decide), fun p hp => ?_⟩
    have S1 := S.same (Same.new (o := .lst [V.int 9, .int 1023, .int (10 ^ (11 : Int).toNat - 1)]) hp)
    obtain ⟨z, hz, z0, z1⟩ : ∃ z : Nat, [V.int 9, V.int 1023, V.int ((10 : Int) ^ (11 : Int).toNat - 1)][f]? = some (.int z) ∧ 1 ≤ z ∧ z < 2 ^ 40 := by
      match f, hf with
      | 0, _ => exact ⟨9, rfl, by decide, by decide⟩
      | 1, _ => exact ⟨1023, rfl, by decide, by decide⟩
      | 2, _ => exact ⟨10 ^ 11 - 1, rfl, by decide, by decide⟩
    refine ⟨_, rfl, p, _, _, .int z, rfl, rfl, SqL.of upd_same, atI_nat hz, ?_⟩
    refine ⟨_, rfl, _, rfl, _, _, rfl, rfl, .inl ⟨by decide, by decide⟩, _, _, rfl, rfl, st, lg, cl, 2 * z + 1, m, ?_, by omega, ?_, by omega, S1, fun r H1 hr1 S2 kp => ?_⟩
    · rw [Int.natCast_add, Int.natCast_mul]
      rfl
    · exact Nat.lt_of_le_of_lt (show _ ≤ 2 ^ 42 by omega) (by decide)
    · exact ⟨_, rfl, _, _, rfl, rfl, k _ _ S2 ((Kp.same (Same.new hp)).trans kp)⟩
theorem ok_sizes : FnOk P w K mg base (L2.CX P w) 2 T._law_sizes.a T._law_sizes.d ["state", "cap"] spSizes := by
  refine T._law_sizes.f.okX sc__law_sizes (fun vs H Q E h => ?_) (fun cdv A outer s H vs Q E hr h => ?_)
  · obtain ⟨st, lg, cl, c, m, rfl, _⟩ := h
    rfl
  · obtain ⟨st, lg, cl, c, m, rfl, hc, hm, S, k⟩ := h
    refine ⟨_, pss_cons (ps_set (i := 2) sc__law_sizes.nd rfl (.inl rfl) (pe_op op_add pe_int (pe_call (ok_draw T) hr (by rfl) T._law_draw.m T._law_draw.f.kp (bd__law_draw T) .nil passE (pa_cons (pv 0) (pa_cons pe_int pa_nil)))))
      (pss_cons (ps_set (i := 3) sc__law_sizes.nd rfl (.inl rfl) (pe_op op_add pe_int (pe_call (ok_draw T) hr (by rfl) T._law_draw.m T._law_draw.f.kp (bd__law_draw T) .nil passE (pa_cons (pv 0) (pa_cons pe_int pa_nil)))))
      (pss_cut (ps_while (passes_of rfl) (pt_cmpR op_gt (pe_op op_mul (pv 2) (pv 3)) (pv 1) (nomark _))
        (pss_one (ps_if (pt_cmpR op_ge (pv 2) (pv 3) (nomark _))
          (pss_one (ps_set (i := 2) sc__law_sizes.nd rfl (.inl rfl) (pe_op op_fdiv (pe_op op_add (pv 2) pe_int) pe_int)))
          (pss_one (ps_set (i := 3) sc__law_sizes.nd rfl (.inl rfl) (pe_op op_fdiv (pe_op op_add (pv 3) pe_int) pe_int))))))
      (pss_one (ps_ret (pe_tup (pa_cons (pv 2) (pa_cons (pv 3) pa_nil))))))), ?_⟩
    refine ⟨_, rfl, st, lg, cl, 16, m, rfl, by decide, by decide, by omega, S, fun r1 H1 hr1 S1 kp1 => ⟨_, _, rfl, rfl, _, rfl, st, lg, cl, 16, m + 1, rfl, by decide, by decide, by omega, S1, fun r2 H2 hr2 S2 kp2 => ⟨_, _, rfl, rfl, ?_⟩⟩⟩
    dsimp only
    rw [show (1 : Int) + ((r1 : Nat) : Int) = ((r1 + 1 : Nat) : Int) by omega, show (1 : Int) + ((r2 : Nat) : Int) = ((r2 + 1 : Nat) : Int) by omega]
    obtain ⟨x, hx⟩ : ∃ x, x = r1 + 1 := ⟨_, rfl⟩
    obtain ⟨y, hy⟩ : ∃ y, y = r2 + 1 := ⟨_, rfl⟩
    rw [← hx, ← hy]
    have kk := kp1.trans kp2
    refine ⟨fun σ' H' => ∃ h w : Nat, σ' = [some (.ref st), some (.int c), some (.int h), some (.int w)] ∧ 1 ≤ h ∧ h ≤ 16 ∧ 1 ≤ w ∧ w ≤ 16 ∧ H2 = H', ?_, ?_⟩
    · refine ⟨fun μ σ' H' => ∃ h w : Nat, μ = h + w ∧ σ' = [some (.ref st), some (.int c), some (.int h), some (.int w)] ∧ 1 ≤ h ∧ h ≤ 16 ∧ 1 ≤ w ∧ w ≤ 16 ∧ H2 = H', ⟨x + y, x, y, rfl, rfl, by omega, by omega, by omega, by omega, rfl⟩, ?_⟩
      rintro μ σ' H' ⟨h, w, rfl, rfl, h1, h2, w1, w2, rfl⟩
      refine ⟨_, rfl, _, rfl, _, _, rfl, rfl, .inl ⟨by omega, by omega⟩, _, rfl, _, _, rfl, rfl, _, rfl, ?_⟩
      by_cases g : ((c : Nat) : Int) < ((h : Nat) : Int) * ((w : Nat) : Int)
      · rw [decide_eq_true g]
        refine iteT ⟨fun σ' H' => ∃ h' w' : Nat, h' + w' < h + w ∧ σ' = [some (.ref st), some (.int c), some (.int h'), some (.int w')] ∧ 1 ≤ h' ∧ h' ≤ 16 ∧ 1 ≤ w' ∧ w' ≤ 16 ∧ H2 = H', fun σ' H' ⟨h', w', l, r⟩ => ⟨h' + w', l, h', w', rfl, r⟩, ?_⟩
        refine ⟨_, rfl, _, rfl, _, _, rfl, rfl, _, rfl, ?_⟩
        by_cases c1 : w ≤ h
        · rw [decide_eq_true (show ((w : Nat) : Int) ≤ ((h : Nat) : Int) by omega)]
          have h3 : 2 ≤ h := by
            rcases Nat.lt_or_ge h 2 with z | z
            · have e1 : h = 1 := by omega
              have e2 : w = 1 := by omega
              subst e1 e2
              omega
            · exact z
          refine iteT ⟨_, rfl, _, _, rfl, rfl, _, _, rfl, rfl, ⟨by decide, by decide⟩, ?_⟩
          refine ⟨(h + 1) / 2, w, by omega, ?_, by omega, by omega, w1, w2, rfl⟩
          rfl
        · rw [decide_eq_false (show ¬ ((w : Nat) : Int) ≤ ((h : Nat) : Int) by omega)]
          refine iteF ⟨_, rfl, _, _, rfl, rfl, _, _, rfl, rfl, ⟨by decide, by decide⟩, ?_⟩
          refine ⟨h, (w + 1) / 2, by omega, ?_, h1, h2, by omega, by omega, rfl⟩
          rfl
      · rw [decide_eq_false g]
        exact iteF ⟨h, w, rfl, h1, h2, w1, w2, rfl⟩
    · rintro σ' H' ⟨h, w, rfl, h1, h2, w1, w2, rfl⟩
      refine ⟨_, rfl, _, rfl, (by show 2 ≤ sizeLine; decide), fun p hp => ?_⟩
      have t := Same.new (o := .tup [V.int ((h : Nat) : Int), .int ((w : Nat) : Int)]) hp
      exact k h w p _ h1 h2 w1 w2 upd_same (S2.same t) (kk.trans (Kp.same t))
theorem ok_dots : FnOk P w K mg base (L2.CX P w) 1 T._law_all_dots.a T._law_all_dots.d ["tall", "wide"] spDots := by
  refine T._law_all_dots.f.okX sc__law_all_dots (fun vs H Q E h => ?_) (fun cdv A outer s H vs Q E hr h => ?_)
  · obtain ⟨h, w, rfl, _⟩ := h
    rfl
  · obtain ⟨h, wn, rfl, h2, w2, k⟩ := h
    refine ⟨_, pss_cons (ps_set (i := 2) sc__law_all_dots.nd rfl (.inl rfl) (pe_lst pa_nil))
      (pss_cut (ps_for (passes_of rfl) rfl (pi_range1 (by rfl) T.b_range (pa_cons (pv 0) pa_nil)) (pg_name (i := 3) sc__law_all_dots.nd rfl (by first | exact .inl rfl | exact .inr rfl))
        (pss_one (ps_set (i := 2) sc__law_all_dots.nd rfl (.inl rfl) (pe_op op_cat (pv 2) (pe_lc (own := [("across", 4)]) (g := gName 4) (tt := tYes) rfl sc__law_all_dots.nd (pi_range1 (by rfl) T.b_range (pa_cons (pv 1) pa_nil))
          (blkOk_by (own := [("across", 4)]) (N := ["tall", "wide", "found", "down", "across"]) (sc := defScope s__law_all_dots) (by decide +kernel)) (fun _ _ _ _ _ => pg_name (i := 4) sc__law_all_dots.nd rfl (Or.inl rfl)) (fun _ _ _ _ _ => pts_nil) (fun _ _ _ _ _ => pe_tup (pa_cons (pv 3) (pa_cons (pv 4) pa_nil))))))))
      (pss_one (ps_ret (pv 2)))), ?_⟩
    refine ⟨(by show 0 ≤ sizeLine; decide), fun f0 hf0 => ?_⟩
    have t0 := Same.new (o := .lst []) hf0
    refine ⟨fun σ' H' => ∃ fa us v3, σ' = [some (.int h), some (.int wn), some (.ref fa), v3, none] ∧ H fa = none ∧ Same H H' ∧ H' fa = some (.lst us) ∧ DL H' us (dotsL h wn), ?_, ?_⟩
    · refine ⟨_, rfl, _, rfl, by omega, by omega, for_it walk_range (fun n σ H' => ∃ fa us v3, σ = [some (.int h), some (.int wn), some (.ref fa), v3, none] ∧ H fa = none ∧ Same H H' ∧ H' fa = some (.lst us) ∧ DL H' us (dotsL n wn))
        ⟨f0, [], none, rfl, hf0, t0, upd_same, .nil⟩ (fun _ _ _ _ _ => trivial) ?_ fun σ H' q' => ?_⟩
      · rintro n x σ H1 H2 hn ⟨fa, us, v3, rfl, ff, sm, hf, dl⟩ ⟨rfl, rfl⟩
        have hn : n < h := by omega
        refine ⟨_, rfl, _, rfl, _, rfl, by omega, by omega, fun D hD => lc_it walk_range (fun i H' => ∃ ws, Same H2 H' ∧ H' D = some (.lst ws) ∧ DL H' ws ((List.range i).map fun x => (n, x))) ⟨[], Same.new hD, upd_same, .nil⟩ (fun _ _ _ _ => trivial) ?_ ?_⟩
        · rintro i x H3 H4 hi ⟨ws, a1, a2, a3⟩ ⟨rfl, rfl⟩
          have hi : i < wn := by omega
          refine ⟨rfl, ?_⟩
          dsimp only [tYes]
          rw [if_pos rfl]
          refine ⟨_, rfl, _, rfl, (by show 2 ≤ sizeLine; decide), fun l hl => ?_⟩
          have t1 := Same.new (o := .tup [V.int (0 + ((n : Nat) : Int)), .int (0 + ((i : Nat) : Int))]) hl
          refine ⟨ws, t1 _ _ a2, ?_, ws ++ [.ref l], Same.put (a1.trans t1) hD, upd_same, ?_⟩
          · rw [a3.len, List.length_map, List.length_range]
            exact Nat.lt_of_le_of_lt (show i ≤ 16 by omega) (by decide)
          · rw [List.range_succ, List.map_append]
            refine DL.put ((a3.same t1).append (.cons ?_ .nil)) (t1 _ _ a2)
            rw [upd_same]
            dsimp only
            rw [show (0 : Int) + ((n : Nat) : Int) = ((n : Nat) : Int) by omega, show (0 : Int) + ((i : Nat) : Int) = ((i : Nat) : Int) by omega]
        · rintro H3 ⟨ws, a1, a2, a3⟩
          rw [Int.toNat_natCast] at a3
          refine ⟨fa, D, us, ws, rfl, rfl, a1 _ _ hf, a2, ?_, fun g hg => ?_⟩
          · rw [dl.len, a3.len, dotsL_len, List.length_map, List.length_range]
            have : n * wn ≤ 16 * 16 := Nat.mul_le_mul (by omega) w2
            exact Nat.le_trans (show _ ≤ 300 by omega) (by decide)
          · have t2 := Same.new (o := .lst (us ++ ws)) hg
            refine ⟨g, us ++ ws, _, rfl, (sm.trans a1).free hg, (sm.trans a1).trans t2, upd_same, ?_⟩
            rw [dotsL_succ]
            exact ((dl.same a1).append a3).same t2
      · obtain ⟨fa, us, v3, rfl, ff, sm, hf, dl⟩ := q'
        rw [Int.toNat_natCast] at dl
        exact ⟨fa, us, v3, rfl, ff, sm, hf, dl⟩
    · rintro σ' H1 ⟨fa, us, v3, rfl, ff, sm, hf, dl⟩
      exact ⟨_, rfl, k fa us H1 sm ff hf dl⟩
end
end K17
namespace K17
open PySem PySem.Spec PyProof.Rows L2 PySem.W LamX KA KW KU KL KT KDT
open Evl (pss_cut tCut)
/-! ### the law's own judgement of panes -/
section
variable {P : Program} {w : World} {K : PySem.W.Frag} {mg : Str → Option Value} {base : Heap} (T : Top K mg)
theorem ok_is_pane : FnOk P w K mg base (L2.CX P w) 3 T._law_is_pane.a T._law_is_pane.d ["item"] (spRows K) := by
  refine T._law_is_pane.f.okX sc__law_is_pane (fun vs H Q E h => ?_) (fun cdv A outer s H vs Q E hr h => ?_)
  · obtain ⟨x, o, rfl, _⟩ := h
    rfl
  · obtain ⟨x, o, rfl, hp, k⟩ := h
    refine ⟨_, pss_cons (ps_if (PW.pt (pw_or (pt_not (pt_val (pe_callB call_isi (by rfl) T.b_isinstance PyProof.Rows.boot_isinstance (pa_cons (pv 0) (pa_cons (pe_bltn (v := .ty "tuple") (by rfl) T.b_tuple (by decide +kernel) rfl) pa_nil)))))
        (pw_or1 (pt_not (pt_chain op_le op_le pe_int (pe_callB call_len_seq (by rfl) T.b_len PySem.boot_len (pa_cons (pv 0) pa_nil)) pe_int)))))
        (pss_one (ps_ret pe_bl)) pss_nil)
      (pss_cons (ps_for (passes_of rfl) rfl (pi_tup (pv 0)) (pg_name (i := 1) sc__law_is_pane.nd rfl (.inl rfl))
        (pss_cons (ps_if (PW.pt (pw_or (pt_not (pt_val (pe_callB call_isi (by rfl) T.b_isinstance PyProof.Rows.boot_isinstance (pa_cons (pv 1) (pa_cons (pe_bltn (v := .ty "tuple") (by rfl) T.b_tuple (by decide +kernel) rfl) pa_nil)))))
          (pw_or (pt_cmpR op_ne (pe_callB call_len_seq (by rfl) T.b_len PySem.boot_len (pa_cons (pv 1) pa_nil)) (pe_callB call_len_seq (by rfl) T.b_len PySem.boot_len (pa_cons (pe_ix ix_tup (pv 0) pe_int (fun _ _ => rfl)) pa_nil)) (nomark _))
          (pw_or1 (pt_not (pt_chain op_le op_le pe_int (pe_callB call_len_seq (by rfl) T.b_len PySem.boot_len (pa_cons (pv 1) pa_nil)) pe_int))))))
          (pss_one (ps_ret pe_bl)) pss_nil)
        (pss_one (ps_if (pt_not (pt_val (pe_callB (cr_all rfl) (by rfl) T.b_all (by decide +kernel) (pa_cons (pe_lc (own := [("each", 2)]) (g := gName 2) (tt := tYes) rfl sc__law_is_pane.nd (pi_tup (pv 1)) (blkOk_by (own := [("each", 2)]) (N := ["item", "line", "each"]) (sc := defScope s__law_is_pane) (by decide +kernel))
            (fun _ _ _ _ _ => pg_name (i := 2) sc__law_is_pane.nd rfl (Or.inl rfl)) (fun _ _ _ _ _ => pts_nil) (fun _ _ _ _ _ => pe_call (ok_whole T) (hr.mono (by decide)) (by rfl) T._law_is_whole.m T._law_is_whole.f.kp (bd__law_is_whole T) .nil passE (pa_cons (pv 2) pa_nil))) pa_nil))))
          (pss_one (ps_ret pe_bl)) pss_nil))))
      (pss_one (ps_ret pe_bl))), ?_⟩
    cases hp with
    | no hn =>
      obtain ⟨t, ht, h1⟩ := hn.ty (K := K)
      refine ⟨_, rfl, x, _, _, _, _, rfl, .ty "tuple", ht, kit_ty h1, _, rfl, ?_⟩
      exact iteT (iteT (k H fun _ _ e => e))
    | tup e p l =>
      rename_i a xs os
      refine ⟨_, rfl, _, _, _, _, true, rfl, .ty "tuple", .base (.tup e), kit_ty (by decide +kernel), _, rfl, iteF ⟨_, rfl, a, xs, rfl, .inr (SqT.of e), 1, ((xs.length : Nat) : Int), rfl, rfl, _, rfl, ?_⟩⟩
      have hlen := p.1
      have go : ∀ c1 c2 : Bool, c1 = decide ((1 : Int) ≤ ((xs.length : Nat) : Int)) → c2 = decide (((xs.length : Nat) : Int) ≤ 16) → rowsB (some os) = (c1 && c2 && os.all (okAs (width0 os))) := fun c1 c2 e1 e2 => by
        subst e1 e2
        show (decide (1 ≤ os.length) && decide (os.length ≤ 16) && os.all (okAs (width0 os))) = _
        congr 1
        congr 1 <;> exact decide_eq_decide.mpr (by omega)
      by_cases c1 : (1 : Int) ≤ ((xs.length : Nat) : Int)
      case neg =>
        rw [decide_eq_false c1]
        refine iteF ⟨_, rfl, ?_⟩
        refine iteT ?_
        exact q_bl (k H fun _ _ e => e) (by rw [go false _ (decide_eq_false c1).symm rfl]; rfl)
      rw [decide_eq_true c1]
      refine iteT ⟨((xs.length : Nat) : Int), 16, rfl, rfl, _, rfl, ?_⟩
      by_cases c2 : ((xs.length : Nat) : Int) ≤ 16
      case neg =>
        rw [decide_eq_false c2]
        refine iteT ?_
        exact q_bl (k H fun _ _ e => e) (by rw [go true false (decide_eq_true c1).symm (decide_eq_false c2).symm]; rfl)
      rw [decide_eq_true c2]
      have go' : rowsB (some os) = os.all (okAs (width0 os)) := by rw [go true true (decide_eq_true c1).symm (decide_eq_true c2).symm]; rfl
      clear go
      refine iteF ?_
      refine ⟨_, rfl, a, rfl, ⟨_, SqT.of e⟩, for_tup (K := K) (a := a) (xs := xs) (fun i σ H' => (∃ v1, σ = [some (.ref a), v1, none]) ∧ Same H H' ∧ (os.take i).all (okAs (width0 os)) = true) ⟨⟨none, rfl⟩, fun _ _ e => e, rfl⟩ (fun i σ H' _ h => SqT.of (h.2.1 _ _ e)) ?_ ?_⟩
      · rintro i x σ H' hx ⟨⟨v1, rfl⟩, sm, ht⟩
        obtain ⟨o, ho, hr2⟩ := p.2 i x hx
        have hr3 := hr2.keep sm
        have bad : ∀ H2, Same H' H2 → okAs (width0 os) o = false → Q (.bl false) H2 := fun H2 sm2 z => q_bl (k H2 (sm.trans sm2)) (by rw [go', all_false ho z])
        have id' : Same H' H' := fun _ _ e => e
        cases hr3 with
        | no hn =>
          obtain ⟨t, ht2, h1⟩ := hn.ty (K := K)
          exact ⟨_, rfl, x, _, _, _, _, rfl, .ty "tuple", ht2, kit_ty h1, _, rfl, iteT (iteT (bad H' id' rfl))⟩
        | tup eb pb lb =>
          rename_i b ys
          refine ⟨_, rfl, _, _, _, _, true, rfl, .ty "tuple", .base (.tup eb), kit_ty (by decide +kernel), _, rfl, iteF ?_⟩
          obtain ⟨v0, hv0⟩ : ∃ v0, xs[0]? = some v0 := ⟨_, List.getElem?_eq_getElem (by omega)⟩
          obtain ⟨o0, ho0, hr0⟩ := p.2 0 v0 hv0
          have hs0 : ∃ zs, o0 = some zs := by
            cases i with
            | zero =>
              rw [ho] at ho0
              exact ⟨ys, (Option.some.inj ho0).symm⟩
            | succ i =>
              rw [List.all_eq_true] at ht
              have hm : o0 ∈ os.take (i + 1) := List.mem_of_getElem? (i := 0) (by rw [List.getElem?_take]; simpa using ho0)
              have := ht o0 hm
              simp only [okAs, Bool.and_eq_true] at this
              obtain ⟨zs, h, _⟩ := rowB_some this.1
              exact ⟨zs, h⟩
          obtain ⟨zs, rfl⟩ := hs0
          have hw0 : width0 os = zs.length := by
            cases os with
            | nil => cases ho0
            | cons o1 os =>
              have : o1 = some zs := by simpa using ho0
              subst this
              rfl
          have hr0' := hr0.keep sm
          cases hr0' with
          | tup e0 p0 l0 =>
            refine ⟨_, rfl, _, ys, rfl, .inr (SqT.of eb), _, rfl, a, xs, 0, _, rfl, rfl, SqT.of (sm _ _ e), atI_nat (j := 0) hv0, _, zs, rfl, .inr (SqT.of e0), ?_⟩
            refine ⟨rfl, _, rfl, ?_⟩
            rw [dec_int]
            by_cases c : ys.length = zs.length
            case neg =>
              rw [show (((ys.length : Nat) : Int) == ((zs.length : Nat) : Int)) = false from beq_eq_false_iff_ne.mpr (by omega)]
              refine iteT (iteT (bad H' id' ?_))
              simp [okAs, hw0, c]
            rw [show (((ys.length : Nat) : Int) == ((zs.length : Nat) : Int)) = true by simp [c]]
            have gr : ∀ c1 c2 : Bool, c1 = decide ((1 : Int) ≤ ((ys.length : Nat) : Int)) → c2 = decide (((ys.length : Nat) : Int) ≤ 16) → okAs (width0 os) (some ys) = (c1 && c2 && ys.all isNum) := fun c1 c2 e1 e2 => by
              subst e1 e2
              show ((decide (1 ≤ ys.length) && decide (ys.length ≤ 16) && ys.all isNum) && (ys.length == width0 os)) = _
              rw [hw0, c]
              rw [beq_self_eq_true, Bool.and_true, ← c]
              congr 1
              congr 1 <;> exact decide_eq_decide.mpr (by omega)
            refine iteF ⟨_, rfl, b, ys, rfl, .inr (SqT.of eb), 1, ((ys.length : Nat) : Int), rfl, rfl, _, rfl, ?_⟩
            by_cases d1 : (1 : Int) ≤ ((ys.length : Nat) : Int)
            case neg =>
              rw [decide_eq_false d1]
              exact iteF ⟨_, rfl, iteT (bad H' id' (by rw [gr false _ (decide_eq_false d1).symm rfl]; rfl))⟩
            rw [decide_eq_true d1]
            refine iteT ⟨((ys.length : Nat) : Int), 16, rfl, rfl, _, rfl, ?_⟩
            by_cases d2 : ((ys.length : Nat) : Int) ≤ 16
            case neg =>
              rw [decide_eq_false d2]
              exact iteT (bad H' id' (by rw [gr true false (decide_eq_true d1).symm (decide_eq_false d2).symm]; rfl))
            rw [decide_eq_true d2]
            have gr' : okAs (width0 os) (some ys) = ys.all isNum := by rw [gr true true (decide_eq_true d1).symm (decide_eq_true d2).symm]; rfl
            refine iteF ⟨_, rfl, b, rfl, ⟨_, SqT.of eb⟩, fun D hD => lc_tup (K := K) (a := b) (xs := ys) (fun i H2 => H2 D = some (.lst (((ys.take i).map isNum).map V.bl)) ∧ Same H' H2) ⟨upd_same, Same.new hD⟩ (fun i H2 _ h => SqT.of (h.2 _ _ eb)) ?_ ?_⟩
            · rintro i x H2 hx ⟨h1, h2⟩
              refine ⟨rfl, ?_⟩
              dsimp only [tYes]
              rw [if_pos rfl]
              obtain ⟨bb, hb⟩ := pb x (List.mem_of_getElem? hx)
              refine ⟨_, rfl, x, bb, rfl, hb.keep h2, _, h1, ?_, ?_, ?_⟩
              · rw [List.length_map, List.length_map, List.length_take]
                exact Nat.lt_of_le_of_lt (Nat.min_le_right _ _) (Nat.lt_of_le_of_lt lb (by decide))
              · rw [upd_same, take_map_snoc' _ _ _ _ hx, hb.num]
              · intro b' o e'
                rw [upd_ne (ne_of_none e' hD)]
                exact h2 b' o e'
            · rintro H2 ⟨h1, h2⟩
              rw [List.take_length] at h1
              refine ⟨D, _, rfl, SqL.of h1, _, rfl, ?_⟩
              have ea : (ys.map isNum).any id = (ys.map isNum).any id := rfl
              cases hall : ys.all isNum
              · rw [show (List.map isNum ys).all id = false by rw [List.all_map]; exact hall]
                exact iteT (bad H2 h2 (by rw [gr', hall]))
              · rw [show (List.map isNum ys).all id = true by rw [List.all_map]; exact hall]
                exact iteF ⟨⟨_, rfl⟩, sm.trans h2, all_take_succ ho ht (by rw [gr', hall])⟩
      · rintro σ H' ⟨⟨v1, rfl⟩, sm, ht⟩
        rw [hlen, List.take_length] at ht
        exact q_bl (k H' sm) (by rw [go', ht])
end
end K17
namespace K17
open PySem PySem.Spec PyProof.Rows L2 PySem.W LamX KA KW KU KL KT KDT
open Evl (pss_cut tCut)
/-! ### tuples cut and joined -/
/-- tuples stay -/
def Tp (H H' : Hp) : Prop := ∀ b xs, H b = some (.tup xs) → H' b = some (.tup xs)
theorem Tp.same {H H' : Hp} (s : Same H H') : Tp H H' := fun b xs e => s _ _ e
theorem Tp.trans {H H1 H2 : Hp} (a : Tp H H1) (b : Tp H1 H2) : Tp H H2 := fun c xs e => b _ _ (a _ _ e)
theorem Tp.kp {st lg cl : Addr} {m : Nat} {H H' : Hp} (S : StAt H st lg cl m) (k : Kp st lg H H') : Tp H H' := fun b xs e => by
  obtain ⟨_, _, _, _, s, _⟩ := S
  exact k _ _ e (ne_of e s.d (by intro z; cases z)) (ne_of e s.l (by intro z; cases z))
theorem cat_any {K : PySem.W.Frag} {a b : Addr} {xs ys : List V} {H : Hp} {Q : VK} (ea : H a = some (.tup xs)) (eb : H b = some (.tup ys)) (l : xs.length + ys.length ≤ 4000) (k : ∀ c H', Same H H' → H' c = some (.tup (xs ++ ys)) → Q (.ref c) H') : rCatA K (.ref a) (.ref b) H Q := by
  refine ⟨a, b, xs, ys, rfl, rfl, SqT.of ea, SqT.of eb, Nat.le_trans l (by decide), fun z => ?_, fun _ z => ?_, fun _ _ p hp => k p _ (Same.new hp) upd_same⟩
  · exact k b H (fun _ _ e => e) (by rw [z, List.nil_append]; exact eb)
  · exact k a H (fun _ _ e => e) (by rw [z, List.append_nil]; exact ea)
theorem cut_take {xs : List V} {t : Nat} (h : t ≤ xs.length) : cutV xs none (some (t : Int)) = xs.take t := by
  unfold cutV
  rw [HT.sIx_none, HT.sIx_nat, Nat.min_eq_left h]
  rfl
theorem cut_drop {xs : List V} {t : Nat} (h : t ≤ xs.length) : cutV xs (some (t : Int)) none = xs.drop t := by
  unfold cutV
  rw [HT.sIx_none, HT.sIx_nat, Nat.min_eq_left h]
  rw [List.take_of_length_le]
  rw [List.length_drop]
  exact Nat.le_refl _
theorem take_any {K : PySem.W.Frag} {a : Addr} {xs : List V} {t : Nat} {H : Hp} {Q : VK} (ea : H a = some (.tup xs)) (h : t ≤ xs.length) (k : ∀ c H', Same H H' → H' c = some (.tup (xs.take t)) → Q (.ref c) H') : rSlA K (.ref a) none (some (t : Int)) H Q := by
  refine ⟨a, xs, rfl, SqT.of ea, fun z => ?_, fun _ p hp => k p _ (Same.new hp) (by rw [upd_same, cut_take h])⟩
  refine k a H (fun _ _ e => e) ?_
  have := z.2
  rw [HT.sIx_nat, Nat.min_eq_left h] at this
  rw [this, List.take_length]
  exact ea
theorem drop_any {K : PySem.W.Frag} {a : Addr} {xs : List V} {t : Nat} {H : Hp} {Q : VK} (ea : H a = some (.tup xs)) (h : t ≤ xs.length) (k : ∀ c H', Same H H' → H' c = some (.tup (xs.drop t)) → Q (.ref c) H') : rSlA K (.ref a) (some (t : Int)) none H Q := by
  refine ⟨a, xs, rfl, SqT.of ea, fun z => ?_, fun _ p hp => k p _ (Same.new hp) (by rw [upd_same, cut_drop h])⟩
  refine k a H (fun _ _ e => e) ?_
  have := z.1
  rw [HT.sIx_nat, Nat.min_eq_left h] at this
  rw [this, List.drop_zero]
  exact ea
/-- t[:j] + (v,) + t[j + 1:] -/
theorem bend_read {K : PySem.W.Frag} {σ : L2.St} {i j : Nat} {a : Addr} {vs : List V} {t : Nat} {tm : TE} {H : Hp} {Q : VK} (e0 : σ[i]? = some (some (.ref a))) (e1 : σ[j]? = some (some (.int (t : Nat)))) (ea : H a = some (.tup vs)) (ht : t < vs.length) (hl : vs.length ≤ 1000)
    (h : ∀ H1, Same H H1 → ∀ G : VK, (∀ (v : V) (H2 : Hp), Tp H1 H2 → (∀ p H3, Same H2 H3 → H3 p = some (.tup (vs.take t ++ v :: vs.drop (t + 1))) → Q (.ref p) H3) → G v H2) → tm σ H1 G) :
    tOp (rCatA K) (tOp (rCatA K) (tSl (rSlA K) (tVar i) tNoPart (tPart (tVar j))) (tTup (tCons tm tNil))) (tSl (rSlA K) (tVar i) (tPart (tOp (rI0 fun i j => .int (i + j)) (tVar j) (tC (.int 1)))) tNoPart) σ H Q := by
  refine ⟨_, e0, _, e1, _, rfl, take_any ea (Nat.le_of_lt ht) fun c1 H1 s1 l1 => ?_⟩
  refine h H1 s1 _ fun v H2 tp hq => ?_
  refine ⟨(by show 1 ≤ sizeLine; decide), fun c2 hc2 => ?_⟩
  have s2 := Same.new (o := .tup [v]) hc2
  refine cat_any (s2 _ _ (tp _ _ l1)) upd_same (by rw [List.length_take]; show _ + 1 ≤ _; omega) fun c3 H3 s3 l3 => ?_
  have s23 := s2.trans s3
  refine ⟨_, e0, _, e1, _, _, rfl, rfl, _, rfl, ?_⟩
  dsimp only
  rw [show ((t : Nat) : Int) + 1 = ((t + 1 : Nat) : Int) by omega]
  show rSlA K (V.ref a) (some ((t + 1 : Nat) : Int)) none H3 (fun y H2 => rCatA K (V.ref c3) y H2 Q)
  refine drop_any (s23 _ _ (tp _ _ (s1 _ _ ea))) ht fun c4 H4 s4 l4 => ?_
  refine cat_any (s4 _ _ l3) l4 (by rw [List.length_append, List.length_take, List.length_drop]; show _ + 1 + _ ≤ _; omega) fun c5 H5 s5 l5 => ?_
  refine hq c5 H5 ((s23.trans s4).trans s5) ?_
  rw [l5, List.append_assoc]
  rfl
/-- items that are rows of any kind -/
def LineOk (K : PySem.W.Frag) (H : Hp) (v : V) : Prop := ∃ o, Rw K H v o
theorem LineOk.keep {K : PySem.W.Frag} {H H' : Hp} {v : V} (h : LineOk K H v) (s : Same H H') : LineOk K H' v := h.imp fun o q => q.keep s
theorem rws_of {K : PySem.W.Frag} {H : Hp} : ∀ {vs : List V}, (∀ v ∈ vs, LineOk K H v) → ∃ os, Rws K H vs os
  | [], _ => ⟨[], rfl, fun i v e => by simp at e⟩
  | v :: vs, h => by
    obtain ⟨os, r⟩ := rws_of fun x hx => h x (List.mem_cons_of_mem _ hx)
    obtain ⟨o, q⟩ := h v List.mem_cons_self
    refine ⟨o :: os, by simp [r.1], fun i x e => ?_⟩
    cases i with
    | zero =>
      have : v = x := by simpa using e
      subst this
      exact ⟨o, rfl, q⟩
    | succ i => exact r.2 i x (by simpa using e)
def ThOk (K : PySem.W.Frag) (H : Hp) (v : V) : Prop := ∃ o, Th K H v o
theorem th_of {K : PySem.W.Frag} {H : Hp} {a : Addr} {vs : List V} (e : H a = some (.tup vs)) (l : vs.length ≤ 1000) (h : ∀ v ∈ vs, LineOk K H v) : ThOk K H (.ref a) := by
  obtain ⟨os, r⟩ := rws_of h
  exact ⟨some os, .tup e r l⟩
theorem line_ints {K : PySem.W.Frag} {H : Hp} {b : Addr} {ns : List Int} (e : H b = some (.tup (ns.map V.int))) (l : ns.length ≤ 1000) : LineOk K H (.ref b) := ⟨_, .tup e (fun x hx => by
  obtain ⟨n, _, rfl⟩ := List.mem_map.mp hx
  exact ⟨true, .int n⟩) (by rw [List.length_map]; exact l)⟩
theorem rows_lines {K : PySem.W.Frag} {H : Hp} {rs : List V} {nss : List (List Int)} {w : Nat} (r : Rows H rs nss) (ws : ∀ ns ∈ nss, ns.length = w) (hw : w ≤ 16) : ∀ v ∈ rs, LineOk K H v := fun v hv => by
  obtain ⟨i, hi⟩ := List.getElem?_of_mem hv
  obtain ⟨b, ns, rfl, hns, eb⟩ := r.2 i v hi
  exact line_ints eb (by rw [ws ns (List.mem_of_getElem? hns)]; omega)
theorem LineOk.tp {K : PySem.W.Frag} {H H' : Hp} {b : Addr} {ns : List Int} (e : H b = some (.tup (ns.map V.int))) (t : Tp H H') (l : ns.length ≤ 1000) : LineOk K H' (.ref b) := line_ints (t _ _ e) l
theorem Rows.tp {H H' : Hp} {rs : List V} {nss : List (List Int)} (r : Rows H rs nss) (t : Tp H H') : Rows H' rs nss := ⟨r.1, fun j v e => by
  obtain ⟨b, ns, e1, e2, e3⟩ := r.2 j v e
  exact ⟨b, ns, e1, e2, t _ _ e3⟩⟩
theorem Pn.tp {H H' : Hp} {a : Addr} {nss : List (List Int)} {w : Nat} (p : Pn H a nss w) (t : Tp H H') : Pn H' a nss w := by
  obtain ⟨vs, e, r⟩ := p.rows
  exact Rows.pn (r.tp t) (t _ _ e) p.h1 p.h2 p.w1 p.w2 p.ws
def spOdd (K : PySem.W.Frag) : Sp := fun vs H Q _ => ∃ (st lg cl : Addr) (m : Nat), vs = [.ref st] ∧ m ≤ 999999 ∧ StAt H st lg cl m ∧
  ∀ (x : V) (b : Bool) (H' : Hp), Pl K H' x b → StAt H' st lg cl (m + 1) → Kp st lg H H' → Q x H'
section
variable {P : Program} {w : World} {K : PySem.W.Frag} {mg : Str → Option Value} {base : Heap} (T : Top K mg)
theorem ok_odd : FnOk P w K mg base (L2.CX P w) 3 T._law_odd.a T._law_odd.d ["state"] (spOdd K) := by
  refine T._law_odd.f.okX sc__law_odd (fun vs H Q E h => ?_) (fun cdv A outer s H vs Q E hr h => ?_)
  · obtain ⟨st, lg, cl, m, rfl, _⟩ := h
    rfl
  · obtain ⟨st, lg, cl, m, rfl, hm, S, k⟩ := h
    refine ⟨_, pss_one (ps_ret (pe_call (ok_pick T) hr (by rfl) T._law_pick.m T._law_pick.f.kp (bd__law_pick T) .nil passE (pa_cons (pv 0) (pa_cons (pe_lst
      (pa_cons pe_non (pa_cons pe_bl (pa_cons pe_bl (pa_cons pe_str (pa_cons pe_str (pa_cons (pe_lst pa_nil) (pa_cons pe_dnewK (pa_cons (pe_tup (pa_cons pe_non pa_nil)) (pa_cons (pe_tup (pa_cons pe_str (pa_cons pe_int pa_nil))) (pa_cons (pe_lst (pa_cons (pe_lst (pa_cons pe_int pa_nil)) pa_nil))
        (pa_cons (pe_disp (pps_cons pe_int pe_int pps_nil) (by rfl) (by rfl) (fun z => by cases z) (by decide)) (pa_cons (pe_tup (pa_cons pe_bl pa_nil)) pa_nil))))))))))))) pa_nil)))), ?_⟩
    refine ⟨_, rfl, ⟨(by show 0 ≤ sizeLine; decide), fun p1 h1 => ?_⟩⟩
    intro p2 h2
    refine ⟨(by show 1 ≤ sizeLine; decide), fun p3 h3 => ⟨(by show 2 ≤ sizeLine; decide), fun p4 h4 => ⟨(by show 1 ≤ sizeLine; decide), fun p5 h5 => ⟨(by show 1 ≤ sizeLine; decide), fun p6 h6 => ?_⟩⟩⟩⟩
    intro p7 h7
    refine ⟨upd_same, [(.inl 0, .int 0)], rfl, (by decide), ?_⟩
    have s1 := Same.new (o := .lst []) h1
    have s2 := Same.new (o := .dK []) h2
    have s3 := Same.new (o := .tup [.non]) h3
    have s4 := Same.new (o := .tup [.str "a", .int 1]) h4
    have s5 := Same.new (o := .lst [.int 0]) h5
    have s6 := Same.new (o := .lst [.ref p5]) h6
    rw [upd_upd]
    have s7 := Same.new (o := .dK (mergeK [] [(.inl 0, V.int 0)])) h7
    refine ⟨(by show 1 ≤ sizeLine; decide), fun p8 h8 => ⟨(by show 12 ≤ sizeLine; decide), fun p9 h9 => ?_⟩⟩
    have s8 := Same.new (o := .tup [.bl true]) h8
    have s9 := Same.new (o := .lst [.non, .bl true, .bl false, .str "0", .str "", .ref p1, .ref p2, .ref p3, .ref p4, .ref p6, .ref p7, .ref p8]) h9
    have S1 := S.same s1
    have S2 := S1.same s2
    have S3 := S2.same s3
    have S4 := S3.same s4
    have S5 := S4.same s5
    have S6 := S5.same s6
    have S7 := S6.same s7
    have S8 := S7.same s8
    have S9 := S8.same s9
    refine ⟨st, lg, cl, p9, _, m, rfl, upd_same, (S8.off h9).2, (by show 0 < 12; decide), (by show 12 ≤ 1000; decide), by omega, S9, fun x H2 hx S' kp => ?_⟩
    have t8 := s9
    have t7 := s8.trans t8
    have t6 := s7.trans t7
    have t5 := s6.trans t6
    have t4 := s5.trans t5
    have t3 := s4.trans t4
    have t2 := s3.trans t3
    have t1 := s2.trans t2
    have e1 := kp p1 _ (t1 _ _ upd_same) (S.off h1).1 (S.off h1).2
    have e2 := kp p2 _ (t2 _ _ upd_same) (S1.off h2).1 (S1.off h2).2
    have e3 := kp p3 _ (t3 _ _ upd_same) (S2.off h3).1 (S2.off h3).2
    have e4 := kp p4 _ (t4 _ _ upd_same) (S3.off h4).1 (S3.off h4).2
    have e6 := kp p6 _ (t6 _ _ upd_same) (S5.off h6).1 (S5.off h6).2
    have e7 := kp p7 _ (t7 _ _ upd_same) (S6.off h7).1 (S6.off h7).2
    have e8 := kp p8 _ (t8 _ _ upd_same) (S7.off h8).1 (S7.off h8).2
    have kk : Kp st lg H H2 := (Kp.same (s1.trans t1)).trans kp
    simp only [List.mem_cons, List.not_mem_nil, or_false] at hx
    rcases hx with h | h | h | h | h | h | h | h | h | h | h | h <;> subst h
    · exact k _ _ _ .non S' kk
    · exact k _ _ _ (.bl true) S' kk
    · exact k _ _ _ (.bl false) S' kk
    · exact k _ _ _ (.str "0") S' kk
    · exact k _ _ _ (.str "") S' kk
    · exact k _ _ _ (.lst e1) S' kk
    · exact k _ _ _ (.dK e2) S' kk
    · exact k _ _ _ (.tup e3) S' kk
    · exact k _ _ _ (.tup e4) S' kk
    · exact k _ _ _ (.lst e6) S' kk
    · exact k _ _ _ (.dK e7) S' kk
    · exact k _ _ _ (.tup e8) S' kk
end
end K17
namespace K17
open PySem PySem.Spec PyProof.Rows L2 PySem.W LamX KA KW KU KL KT KDT
open Evl (pss_cut tCut)
/-! ### a rectangle is bent -/
def spBent (K : PySem.W.Frag) : Sp := fun vs H Q _ => ∃ (st lg cl a : Addr) (nss : List (List Int)) (w m : Nat), vs = [.ref st, .ref a] ∧ Pn H a nss w ∧ m ≤ 999000 ∧ StAt H st lg cl m ∧
  ∀ (y : V) (H' : Hp), ThOk K H' y → StAt H' st lg cl (m + 4) → Kp st lg H H' → Q y H'
theorem bent_lines {K : PySem.W.Frag} {H : Hp} {rs : List V} {t : Nat} {v : V} (h : ∀ x ∈ rs, LineOk K H x) (hv : LineOk K H v) : ∀ x ∈ rs.take t ++ v :: rs.drop (t + 1), LineOk K H x := fun x hx => by
  rcases List.mem_append.mp hx with e | e
  · exact h x (List.mem_of_mem_take e)
  · rcases List.mem_cons.mp e with e | e
    · rw [e]
      exact hv
    · exact h x (List.mem_of_mem_drop e)
theorem bent_len {rs : List V} {t : Nat} {v : V} (h : rs.length ≤ 16) : (rs.take t ++ v :: rs.drop (t + 1)).length ≤ 1000 := by
  rw [List.length_append, List.length_take, List.length_cons, List.length_drop]
  omega
theorem ret_any {te : TE} {D : Ends} {σ : L2.St} {H : Hp} (h : te σ H D.rt) : tRet te D σ H := h
theorem Tp.put {H : Hp} {D : Addr} {xs : List V} {o : HO} (h : H D = some (.lst xs)) : Tp H (upd H D o) := fun b ys e => by
  rw [upd_ne (fun z => by rw [z, h] at e; cases e)]
  exact e
def IR (H : Hp) (x : V) : Prop := ∃ (b : Addr) (ns : List Int), x = .ref b ∧ H b = some (.tup (ns.map V.int)) ∧ ns.length ≤ 1000
theorem IR.tp {H H' : Hp} {x : V} (h : IR H x) (t : Tp H H') : IR H' x := by
  obtain ⟨b, ns, e, q, l⟩ := h
  exact ⟨b, ns, e, t _ _ q, l⟩
theorem IR.line {K : PySem.W.Frag} {H : Hp} {x : V} (h : IR H x) : LineOk K H x := by
  obtain ⟨b, ns, rfl, q, l⟩ := h
  exact line_ints q l
theorem rep_mem {xs : List V} {k : Nat} {x : V} (h : x ∈ (List.replicate k xs).flatten) : x ∈ xs := by
  obtain ⟨ys, h1, h2⟩ := List.mem_flatten.mp h
  rw [(List.mem_replicate.mp h1).2] at h2
  exact h2
theorem rep_len {xs : List V} {k : Nat} : (List.replicate k xs).flatten.length = k * xs.length := by
  induction k with
  | zero => simp
  | succ k ih => rw [List.replicate_succ, List.flatten_cons, List.length_append, ih, Nat.succ_mul, Nat.add_comm]
theorem rep_k : ∀ n : Nat, 1 ≤ n → n ≤ 16 → 2 ≤ 17 / n + 1 ∧ (17 / n + 1) * n ≤ 300 := by
  have q : (List.range 17).all (fun n => n == 0 || (decide (2 ≤ 17 / n + 1) && decide ((17 / n + 1) * n ≤ 300))) = true := by decide +kernel
  intro n h1 h2
  have := List.all_eq_true.mp q n (List.mem_range.mpr (by omega))
  have e1 : (n == 0) = false := beq_eq_false_iff_ne.mpr (by omega)
  rw [e1, Bool.false_or, Bool.and_eq_true, decide_eq_true_eq, decide_eq_true_eq] at this
  exact this
section
variable {P : Program} {w : World} {K : PySem.W.Frag} {mg : Str → Option Value} {base : Heap} (T : Top K mg)
theorem ok_bent : FnOk P w K mg base (L2.CX P w) 4 T._law_bent_pane.a T._law_bent_pane.d ["state", "pane"] (spBent K) := by
  refine T._law_bent_pane.f.okX sc__law_bent_pane (fun vs H Q E h => ?_) (fun cdv A outer s H vs Q E hr h => ?_)
  · obtain ⟨st, lg, cl, a, nss, w, m, rfl, _⟩ := h
    rfl
  · obtain ⟨st, lg, cl, a, nss, wn, m, rfl, pn, hm, S, k⟩ := h
    refine ⟨_, pss_cons (ps_par (i := 2) (j := 3) rfl sc__law_bent_pane.nd rfl rfl (by decide) rfl rfl (pa_cons (pe_call (ok_draw T) (hr.mono (by decide)) (by rfl) T._law_draw.m T._law_draw.f.kp (bd__law_draw T) .nil passE (pa_cons (pv 0) (pa_cons pe_int pa_nil))) (pa_cons (pe_call (ok_draw T) (hr.mono (by decide)) (by rfl) T._law_draw.m T._law_draw.f.kp (bd__law_draw T) .nil passE (pa_cons (pv 0) (pa_cons (pe_callB call_len_seq (by rfl) T.b_len PySem.boot_len (pa_cons (pv 1) pa_nil)) pa_nil))) pa_nil)) (by rfl))
      (pss_cons (ps_set (i := 4) sc__law_bent_pane.nd rfl (.inl rfl) (pe_ix ix_tup (pv 1) (pv 3) (fun _ _ => rfl)))
      (pss_cons (ps_if (pt_cmpR op_eq (pv 2) pe_int (nomark _)) (pss_one (ps_ret (pe_op op_catA (pe_op op_catA (pe_slice sl_tupA (pv 1) po_none (po_some (pv 3))) (pe_tup (pa_cons (pe_callTy call_list_of (by rfl) T.b_list (by decide +kernel) (pa_cons (pv 4) pa_nil)) pa_nil))) (pe_slice sl_tupA (pv 1) (po_some (pe_op op_add (pv 3) pe_int)) po_none)))) pss_nil)
      (pss_cons (ps_if (pt_cmpR op_eq (pv 2) pe_int (nomark _)) (pss_one (ps_ret (pe_op op_catA (pe_op op_catA (pe_slice sl_tupA (pv 1) po_none (po_some (pv 3))) (pe_tup (pa_cons (pe_slice sl_tupA (pv 4) (po_some pe_int) po_none) pa_nil))) (pe_slice sl_tupA (pv 1) (po_some (pe_op op_add (pv 3) pe_int)) po_none)))) pss_nil)
      (pss_cons (ps_if (pt_cmpR op_eq (pv 2) pe_int (nomark _)) (pss_one (ps_ret (pe_op op_catA (pe_op op_catA (pe_slice sl_tupA (pv 1) po_none (po_some (pv 3))) (pe_tup (pa_cons (pe_op op_catA (pv 4) (pe_tup (pa_cons pe_int pa_nil))) pa_nil))) (pe_slice sl_tupA (pv 1) (po_some (pe_op op_add (pv 3) pe_int)) po_none)))) pss_nil)
      (pss_cons (ps_if (pt_cmpR op_eq (pv 2) pe_int (nomark _)) (pss_one (ps_ret (pe_callTy call_list_of (by rfl) T.b_list (by decide +kernel) (pa_cons (pv 1) pa_nil)))) pss_nil)
      (pss_cons (ps_if (pt_cmpR op_eq (pv 2) pe_int (nomark _)) (pss_one (ps_ret (pe_op op_repA (pv 1) (pe_op op_add (pe_op op_fdiv pe_int (pe_callB call_len_seq (by rfl) T.b_len PySem.boot_len (pa_cons (pv 1) pa_nil))) pe_int)))) pss_nil)
      (pss_cons (ps_if (pt_cmpR op_eq (pv 2) pe_int (nomark _)) (pss_one (ps_ret (pe_callTy (show CallR _ _ (rTupOf K) from call_tuple_of) (by rfl) T.b_tuple (by decide +kernel) (pa_cons (pe_lc (own := [("each", 6)]) (g := gName 6) (tt := tYes) rfl sc__law_bent_pane.nd (pi_tup (pv 1)) (blkOk_by (own := [("each", 6)]) (N := ["state", "pane", "way", "turn", "line", "spot", "each"]) (sc := defScope s__law_bent_pane) (by decide +kernel)) (fun _ _ _ _ _ => pg_name (i := 6) sc__law_bent_pane.nd rfl (Or.inl rfl)) (fun _ _ _ _ _ => pts_nil) (fun _ _ _ _ _ => pe_op (show OpR _ _ (rRepA K) from op_repA) (pv 6) (pe_op op_add (pe_op op_fdiv pe_int (pe_callB (show CallR _ _ (rLenQ K) from call_len_seq) (by rfl) T.b_len PySem.boot_len (pa_cons (pv 6) pa_nil))) pe_int))) pa_nil)))) pss_nil)
      (pss_cons (ps_if (pt_cmpR op_eq (pv 2) pe_int (nomark _)) (pss_one (ps_ret (pe_call (ok_pick T) (hr.mono (by decide)) (by rfl) T._law_pick.m T._law_pick.f.kp (bd__law_pick T) .nil passE (pa_cons (pv 0) (pa_cons (pe_lst (pa_cons (pe_tup pa_nil) (pa_cons (pe_tup (pa_cons (pe_tup pa_nil) pa_nil)) (pa_cons pe_non (pa_cons pe_int (pa_cons pe_str (pa_cons pe_dnewK (pa_cons (pe_tup (pa_cons pe_int pa_nil)) (pa_cons (pe_tup (pa_cons (pe_tup (pa_cons pe_int pa_nil)) (pa_cons pe_int pa_nil))) (pa_cons pe_bl pa_nil)))))))))) pa_nil))))) pss_nil)
      (pss_cons (ps_set (i := 5) sc__law_bent_pane.nd rfl (.inl rfl) (pe_call (ok_draw T) (hr.mono (by decide)) (by rfl) T._law_draw.m T._law_draw.f.kp (bd__law_draw T) .nil passE (pa_cons (pv 0) (pa_cons (pe_callB call_len_seq (by rfl) T.b_len PySem.boot_len (pa_cons (pv 4) pa_nil)) pa_nil))))
      (pss_one (ps_ret (pe_op op_catA (pe_op op_catA (pe_slice sl_tupA (pv 1) po_none (po_some (pv 3))) (pe_tup (pa_cons (pe_op op_catA (pe_op op_catA (pe_slice sl_tupA (pv 4) po_none (po_some (pv 5))) (pe_tup (pa_cons (pe_call (ok_odd T) (hr.mono (by decide)) (by rfl) T._law_odd.m T._law_odd.f.kp (bd__law_odd T) .nil passE (pa_cons (pv 0) pa_nil)) pa_nil))) (pe_slice sl_tupA (pv 4) (po_some (pe_op op_add (pv 5) pe_int)) po_none)) pa_nil))) (pe_slice sl_tupA (pv 1) (po_some (pe_op op_add (pv 3) pe_int)) po_none))))))))))))), ?_⟩
    obtain ⟨rs, ea, rows⟩ := pn.rows
    have hl : rs.length = nss.length := rows.1
    have wsn := pn.ws
    have n1 := pn.h1
    have n2 := pn.h2
    have w1 := pn.w1
    have w2 := pn.w2
    refine ⟨_, rfl, st, lg, cl, 8, m, rfl, by decide, by decide, by omega, S, fun wy H1 hwy S1 kp1 => ?_⟩
    have tp1 := Tp.kp S kp1
    refine ⟨_, rfl, _, rfl, a, rs, rfl, .inr (SqT.of (tp1 _ _ ea)), st, lg, cl, rs.length, m + 1, rfl, by omega, ?_, by omega, S1, fun t H2 ht S2 kp2 => ⟨_, _, rfl, ?_⟩⟩
    · exact Nat.lt_of_le_of_lt (show _ ≤ 16 by omega) (by decide)
    have tp2 := tp1.trans (Tp.kp S1 kp2)
    have kk := kp1.trans kp2
    have ea2 := tp2 _ _ ea
    have rows2 := rows.tp tp2
    have S2 := S2.mono (show m + 1 + 1 ≤ m + 2 by omega)
    have k : ∀ (y : V) (H' : Hp), ThOk K H' y → StAt H' st lg cl (m + 4) → Kp st lg H2 H' → Q y H' := fun y H' t s q => k y H' t s (kk.trans q)
    clear tp1 tp2 kp1 kp2 kk S S1 pn rows ea
    obtain ⟨v, hv⟩ : ∃ v, rs[t]? = some v := ⟨_, List.getElem?_eq_getElem ht⟩
    obtain ⟨b, ns, rfl, hns, eb⟩ := rows2.2 t v hv
    have ln : ns.length = wn := wsn ns (List.mem_of_getElem? hns)
    have lines := rows_lines (K := K) rows2 wsn w2
    refine ⟨_, rfl, _, rfl, a, rs, _, _, rfl, rfl, SqT.of ea2, atI_nat hv, ?_⟩
    have way : ∀ (n : Nat) (z : Int), z = ((n : Nat) : Int) → decide (V.int ((wy : Nat) : Int) = V.int z) = decide (wy = n) := fun n z e => by
      subst e
      exact decide_eq_decide.mpr ⟨fun z => by have := V.int.inj z; omega, fun z => by rw [z]⟩
    have done : ∀ (y : V) (H' : Hp), Same H2 H' → ThOk K H' y → Q y H' := fun y H' s t => k y H' t ((S2.same s).mono (by omega)) (Kp.same s)
    have rl : rs.length ≤ 16 := by omega
    have pln : ∀ {H' : Hp} {x : V}, x ∈ ns.map V.int → ∃ b, Pl K H' x b := fun {H' x} hx => by
      obtain ⟨n, _, rfl⟩ := List.mem_map.mp hx
      exact ⟨true, .int n⟩
    refine ⟨_, rfl, rfl, _, rfl, ?_⟩
    by_cases c0 : wy = 0
    · rw [way 0 0 rfl, decide_eq_true c0]
      refine iteT (ret_any (bend_read (i := 1) (j := 3) rfl rfl ea2 ht (by omega) fun H3 s3 G hG => ⟨_, rfl, b, _, rfl, .inr (SqT.of (s3 _ _ eb)), fun l hl => hG _ _ (Tp.same (Same.new hl)) fun p H4 s4 e4 => ?_⟩))
      have s34 := (s3.trans (Same.new hl)).trans s4
      exact done _ _ s34 (th_of e4 (bent_len rl) (bent_lines (fun x hx => (lines x hx).keep s34) ⟨none, .no (.lst (s4 _ _ upd_same))⟩))
    rw [way 0 0 rfl, decide_eq_false c0]
    refine iteF ⟨_, rfl, rfl, _, rfl, ?_⟩
    by_cases c1 : wy = 1
    · rw [way 1 1 rfl, decide_eq_true c1]
      refine iteT (ret_any (bend_read (i := 1) (j := 3) rfl rfl ea2 ht (by omega) fun H3 s3 G hG => ⟨_, rfl, _, rfl, drop_any (t := 1) (s3 _ _ eb) (by rw [List.length_map]; omega) fun c H4 s4 l4 => hG _ _ (Tp.same s4) fun p H5 s5 e5 => ?_⟩))
      have s35 := (s3.trans s4).trans s5
      exact done _ _ s35 (th_of e5 (bent_len rl) (bent_lines (fun x hx => (lines x hx).keep s35) ⟨_, .tup (s5 _ _ l4) (fun x hx => pln (List.mem_of_mem_drop hx)) (by rw [List.length_drop, List.length_map]; omega)⟩))
    rw [way 1 1 rfl, decide_eq_false c1]
    refine iteF ⟨_, rfl, rfl, _, rfl, ?_⟩
    by_cases c2 : wy = 2
    · rw [way 2 2 rfl, decide_eq_true c2]
      refine iteT (ret_any (bend_read (i := 1) (j := 3) rfl rfl ea2 ht (by omega) fun H3 s3 G hG => ⟨_, rfl, (by show 1 ≤ sizeLine; decide), fun q hq => cat_any ((Same.new hq) _ _ (s3 _ _ eb)) upd_same (by rw [List.length_map]; show _ + 1 ≤ _; omega) fun c H4 s4 l4 => hG _ _ ((Tp.same (Same.new hq)).trans (Tp.same s4)) fun p H5 s5 e5 => ?_⟩))
      have s35 := ((s3.trans (Same.new hq)).trans s4).trans s5
      refine done _ _ s35 (th_of e5 (bent_len rl) (bent_lines (fun x hx => (lines x hx).keep s35) ⟨_, .tup (s5 _ _ l4) (fun x hx => ?_) (by rw [List.length_append, List.length_map]; show _ + 1 ≤ _; omega)⟩))
      rcases List.mem_append.mp hx with e | e
      · exact pln e
      · simp only [List.mem_cons, List.not_mem_nil, or_false] at e
        rw [e]
        exact ⟨true, .int 0⟩
    rw [way 2 2 rfl, decide_eq_false c2]
    refine iteF ⟨_, rfl, rfl, _, rfl, ?_⟩
    by_cases c3 : wy = 3
    · rw [way 3 3 rfl, decide_eq_true c3]
      exact iteT ⟨_, rfl, a, rs, rfl, .inr (SqT.of ea2), fun l hl => done _ _ (Same.new hl) ⟨none, .no (.lst upd_same)⟩⟩
    rw [way 3 3 rfl, decide_eq_false c3]
    refine iteF ⟨_, rfl, rfl, _, rfl, ?_⟩
    by_cases c4 : wy = 4
    · rw [way 4 4 rfl, decide_eq_true c4]
      obtain ⟨r1, r2⟩ := rep_k rs.length (by omega) rl
      refine iteT ⟨_, rfl, _, rfl, a, rs, rfl, .inr (SqT.of ea2), _, _, rfl, rfl, ⟨by omega, by omega⟩, _, _, rfl, rfl, ?_⟩
      dsimp only
      rw [show (17 : Int) / ((rs.length : Nat) : Int) + 1 = ((17 / rs.length + 1 : Nat) : Int) by rw [Int.natCast_add, Int.natCast_ediv]; rfl]
      have q17 : 17 / rs.length ≤ 17 := Nat.div_le_self _ _
      have rne : rs ≠ [] := fun z => by rw [z] at ht; cases ht
      refine ⟨a, _, rs, rfl, rfl, SqT.of ea2, rne, by omega, by omega, by omega, fun z => absurd z (by omega), fun _ p hp => done _ _ (Same.new hp) (th_of upd_same ?_ fun x hx => (lines x (rep_mem hx)).keep (Same.new hp))⟩
      rw [rep_len, Int.toNat_natCast]
      omega
    rw [way 4 4 rfl, decide_eq_false c4]
    refine iteF ⟨_, rfl, rfl, _, rfl, ?_⟩
    by_cases c5 : wy = 5
    · rw [way 5 5 rfl, decide_eq_true c5]
      refine iteT (ret_tup ?_)
      refine ⟨_, rfl, a, rfl, ⟨_, SqT.of ea2⟩, fun D hD => lc_it walk_tup (fun i H' => ∃ es, H' D = some (.lst es) ∧ es.length = i ∧ (∀ x ∈ es, IR H' x) ∧ Same H2 H') ⟨[], upd_same, rfl, (fun x hx => nomatch hx), Same.new hD⟩ (fun _ H' _ q => SqT.of (q.elim fun es q => q.2.2.2 _ _ ea2)) ?_ ?_⟩
      · rintro i x H3 H4 hi ⟨es, a1, a2, a3, a4⟩ ⟨rfl, hx⟩
        obtain ⟨b', ms, rfl, hms, eb'⟩ := rows2.2 i x hx
        have lm := wsn ms (List.mem_of_getElem? hms)
        refine ⟨rfl, ?_⟩
        dsimp only [tYes]
        rw [if_pos rfl]
        obtain ⟨r1, r2⟩ := rep_k ms.length (by omega) (by omega)
        have q17 : 17 / ms.length ≤ 17 := Nat.div_le_self _ _
        refine ⟨_, rfl, _, rfl, b', _, rfl, .inr (SqT.of (a4 _ _ eb')), _, _, rfl, rfl, ⟨by rw [List.length_map]; omega, by rw [List.length_map]; omega⟩, _, _, rfl, rfl, ?_⟩
        dsimp only
        rw [List.length_map, show (17 : Int) / ((ms.length : Nat) : Int) + 1 = ((17 / ms.length + 1 : Nat) : Int) by rw [Int.natCast_add, Int.natCast_ediv]; rfl]
        have mne : ms.map V.int ≠ [] := fun z => by
          have := congrArg List.length z
          rw [List.length_map] at this
          simp at this
          rw [this] at lm
          simp at lm
          omega
        refine ⟨b', _, _, rfl, rfl, SqT.of (a4 _ _ eb'), mne, by omega, by omega, by rw [List.length_map]; omega, fun z => absurd z (by omega), fun _ p hp => ?_⟩
        have t1 := Same.new (o := .tup (List.replicate (((17 / ms.length + 1 : Nat) : Int)).toNat (ms.map V.int)).flatten) hp
        refine ⟨es, t1 _ _ a1, ?_, es ++ [.ref p], upd_same, by simp [a2], fun y hy => ?_, Same.put (a4.trans t1) hD⟩
        · rw [a2]
          exact Nat.lt_of_lt_of_le (show i < 17 by omega) (by decide)
        · refine IR.tp ?_ (Tp.put (t1 _ _ a1))
          rcases List.mem_append.mp hy with e | e
          · exact (a3 y e).tp (Tp.same t1)
          · simp only [List.mem_cons, List.not_mem_nil, or_false] at e
            subst e
            refine ⟨p, (List.replicate (17 / ms.length + 1) ms).flatten, rfl, ?_, ?_⟩
            · rw [upd_same, Int.toNat_natCast, List.map_flatten, List.map_replicate]
            · have e : ((List.replicate (17 / ms.length + 1) ms).flatten).length = (17 / ms.length + 1) * ms.length := by
                rw [List.length_flatten, List.map_replicate, List.sum_replicate_nat]
              rw [e]
              omega
      · rintro H3 ⟨es, a1, a2, a3, a4⟩
        refine ⟨D, es, rfl, .inl ⟨SqL.of a1, fun p hp => done _ _ (a4.trans (Same.new hp)) (th_of upd_same (by rw [a2]; omega) fun x hx => ((a3 x hx).tp (Tp.same (Same.new hp))).line)⟩⟩
    rw [way 5 5 rfl, decide_eq_false c5]
    refine iteF ⟨_, rfl, rfl, _, rfl, ?_⟩
    by_cases c6 : wy = 6
    · rw [way 6 6 rfl, decide_eq_true c6]
      refine iteT ⟨_, rfl, ⟨(by show 0 ≤ sizeLine; decide), fun p1 h1 => ⟨(by show 0 ≤ sizeLine; decide), fun p2 h2 => ⟨(by show 1 ≤ sizeLine; decide), fun p3 h3 => ?_⟩⟩⟩⟩
      intro p4 h4
      refine ⟨(by show 1 ≤ sizeLine; decide), fun p5 h5 => ⟨(by show 1 ≤ sizeLine; decide), fun p6 h6 => ⟨(by show 2 ≤ sizeLine; decide), fun p7 h7 => ⟨(by show 9 ≤ sizeLine; decide), fun p8 h8 => ?_⟩⟩⟩⟩
      have s1 := Same.new (o := .tup []) h1
      have s2 := Same.new (o := .tup []) h2
      have s3 := Same.new (o := .tup [V.ref p2]) h3
      have s4 := Same.new (o := .dK []) h4
      have s5 := Same.new (o := .tup [V.int 5]) h5
      have s6 := Same.new (o := .tup [V.int 1]) h6
      have s7 := Same.new (o := .tup [V.ref p6, .int 5]) h7
      have s8 := Same.new (o := .lst [V.ref p1, .ref p3, .non, .int 5, .str "rows", .ref p4, .ref p5, .ref p7, .bl true]) h8
      have t7 := s8
      have t6 := s7.trans t7
      have t5 := s6.trans t6
      have t4 := s5.trans t5
      have t3 := s4.trans t4
      have t2 := s3.trans t3
      have t1 := s2.trans t2
      have S4 := (((S2.same s1).same s2).same s3)
      have S8 := ((((S4.same s4).same s5).same s6).same s7).same s8
      refine ⟨st, lg, cl, p8, _, m + 2, rfl, upd_same, ((((S4.same s4).same s5).same s6).same s7).off h8 |>.2, (by show 0 < 9; decide), (by show 9 ≤ 1000; decide), by omega, S8, fun x H3 hx S' kp => ?_⟩
      have tp := Tp.kp S8 kp
      have e1 := tp _ _ (t1 _ _ upd_same)
      have e2 := tp _ _ (t2 _ _ upd_same)
      have e3 := tp _ _ (t3 _ _ upd_same)
      have e4 := kp _ _ (t4 _ _ upd_same) (S4.off h4).1 (S4.off h4).2
      have e5 := tp _ _ (t5 _ _ upd_same)
      have e6 := tp _ _ (t6 _ _ upd_same)
      have e7 := tp _ _ (t7 _ _ upd_same)
      have fin : ThOk K H3 x → Q x H3 := fun z => k x H3 z (S'.mono (by omega)) ((Kp.same (s1.trans t1)).trans kp)
      simp only [List.mem_cons, List.not_mem_nil, or_false] at hx
      rcases hx with h | h | h | h | h | h | h | h | h <;> subst h
      · exact fin (th_of e1 (by show 0 ≤ 1000; decide) fun x hx => nomatch hx)
      · refine fin (th_of e3 (by show 1 ≤ 1000; decide) fun x hx => ?_)
        simp only [List.mem_cons, List.not_mem_nil, or_false] at hx
        subst hx
        exact ⟨_, .tup e2 (fun x hx => nomatch hx) (by decide)⟩
      · exact fin ⟨none, .no .non⟩
      · exact fin ⟨none, .no (.int 5)⟩
      · exact fin ⟨none, .no (.str "rows")⟩
      · exact fin ⟨none, .no (.dK e4)⟩
      · refine fin (th_of e5 (by show 1 ≤ 1000; decide) fun x hx => ?_)
        simp only [List.mem_cons, List.not_mem_nil, or_false] at hx
        subst hx
        exact ⟨none, .no (.int 5)⟩
      · refine fin (th_of e7 (by show 2 ≤ 1000; decide) fun x hx => ?_)
        simp only [List.mem_cons, List.not_mem_nil, or_false] at hx
        rcases hx with h | h <;> subst h
        · refine ⟨_, .tup e6 (fun x hx => ?_) (by decide)⟩
          simp only [List.mem_cons, List.not_mem_nil, or_false] at hx
          subst hx
          exact ⟨true, .int 1⟩
        · exact ⟨none, .no (.int 5)⟩
      · exact fin ⟨none, .no (.bl true)⟩
    rw [way 6 6 rfl, decide_eq_false c6]
    refine iteF ⟨_, rfl, _, rfl, b, _, rfl, .inr (SqT.of eb), st, lg, cl, wn, m + 2, ?_, by omega, ?_, by omega, S2, fun sp H3 hsp S3 kp3 => ?_⟩
    · rw [List.length_map, ln]
      rfl
    · exact Nat.lt_of_le_of_lt w2 (by decide)
    have tp3 := Tp.kp S2 kp3
    refine ret_any (bend_read (i := 1) (j := 3) rfl rfl (tp3 _ _ ea2) ht (by omega) fun H4 s4 G hG => ?_)
    refine bend_read (i := 4) (j := 5) rfl rfl (s4 _ _ (tp3 _ _ eb)) (by rw [List.length_map, ln]; exact hsp) (by rw [List.length_map]; omega) fun H5 s5 G' hG' => ?_
    refine ⟨_, rfl, st, lg, cl, m + 3, rfl, by omega, (S3.same s4).same s5, fun x xb H6 px S6 kp6 => ?_⟩
    have tp6 := Tp.kp ((S3.same s4).same s5) kp6
    refine hG' x H6 tp6 fun p H7 s7 e7 => hG _ H7 (((Tp.same s5).trans tp6).trans (Tp.same s7)) fun p2 H8 s8 e8 => ?_
    have tpA : Tp H2 H8 := ((((tp3.trans (Tp.same s4)).trans (Tp.same s5)).trans tp6).trans (Tp.same s7)).trans (Tp.same s8)
    have kpA : Kp st lg H2 H8 := (((kp3.trans (Kp.same s4)).trans (Kp.same s5)).trans kp6).trans (Kp.same (s7.trans s8))
    refine k _ _ (th_of e8 (bent_len rl) (bent_lines (rows_lines (rows2.tp tpA) wsn w2) ⟨_, .tup (s8 _ _ e7) (fun y hy => ?_) ?_⟩)) ((S6.same s7).same s8) kpA
    · rcases List.mem_append.mp hy with e | e
      · exact pln (List.mem_of_mem_take e)
      · rcases List.mem_cons.mp e with e | e
        · rw [e]
          exact ⟨xb, (px.keep s7).keep s8⟩
        · exact pln (List.mem_of_mem_drop e)
    · rw [List.length_append, List.length_take, List.length_cons, List.length_drop, List.length_map]
      omega
end
end K17
namespace K17
/-! ### lifts: what the law asks of them -/
theorem ext_getD {a b : List Int} (l : a.length = b.length) (h : ∀ j, j < a.length → a.getD j 0 = b.getD j 0) : a = b := by
  refine List.ext_getElem l fun j x y => ?_
  have := h j x
  rw [List.getD_eq_getElem?_getD, List.getD_eq_getElem?_getD, List.getElem?_eq_getElem x, List.getElem?_eq_getElem y] at this
  exact this
theorem split_at {h w j : Nat} (w1 : 1 ≤ w) (hj : j < h * w) : j / w < h ∧ j % w < w ∧ j / w * w + j % w = j := by
  refine ⟨Nat.div_lt_of_lt_mul (by rw [Nat.mul_comm]; exact hj), Nat.mod_lt _ w1, ?_⟩
  rw [Nat.mul_comm]
  exact Nat.div_add_mod j w
theorem rows_at {ns : List Int} {h w y x : Nat} (hy : y < h) (hx : x < w) : ((rowsOf ns h w).getD y []).getD x 0 = ns.getD (y * w + x) 0 := by
  unfold rowsOf
  simp only [List.getD_eq_getElem?_getD]
  rw [List.getElem?_map, List.getElem?_range hy]
  show ((List.take w (List.drop (y * w) ns))[x]?).getD 0 = _
  rw [List.getElem?_take, if_pos hx, List.getElem?_drop]
theorem flat_rows {ns : List Int} {h w : Nat} (w1 : 1 ≤ w) (l : ns.length = h * w) : (rowsOf ns h w).flatten = ns := by
  have ws := rowsOf_ws (h := h) (w := w) l
  have lf : (rowsOf ns h w).flatten.length = h * w := by rw [flat_len ws, rowsOf_len]
  refine ext_getD (by rw [lf, l]) fun j hj => ?_
  rw [lf] at hj
  obtain ⟨a, b, c⟩ := split_at w1 hj
  rw [← c, flat_at ws (by rw [rowsOf_len]; exact a) b, rows_at a b]
theorem cells_fOf {ns : List Int} {h w : Nat} (w1 : 1 ≤ w) (l : ns.length = h * w) : (List.range (h * w)).map (fun j => fOf ns w (j / w) (j % w)) = ns := by
  refine ext_getD (by simp [l]) fun j hj => ?_
  have hj : j < h * w := by simpa using hj
  obtain ⟨a, b, c⟩ := split_at w1 hj
  rw [List.getD_eq_getElem?_getD, List.getElem?_map, List.getElem?_range hj]
  show ns.getD (j / w * w + j % w) 0 = _
  rw [c]
section
variable {h w : Nat} {f g : Nat → Nat → Int}
theorem mean_congr (e : ∀ y x, y < h → x < w → f y x = g y x) : ∀ a : Ar, a.ok → In a (root h w) → mean f a = mean g a := by
  refine area_ind (fun a o i n => ?_) fun a o i p q n => ?_
  · obtain ⟨e1, e2⟩ := one_of o i
    rw [mean_one o i, mean_one o i]
    unfold In root at n
    dsimp only at n
    exact e _ _ (by omega) (by omega)
  · rw [mean_in o i, mean_in o i, p ((half_in false).trans n), q ((half_in true).trans n)]
theorem mean_add {c : Int} : ∀ a : Ar, a.ok → mean (fun y x => f y x + c) a = mean f a + c := by
  refine area_ind (fun a o i => ?_) fun a o i p q => ?_
  · rw [mean_one o i, mean_one o i]
  · rw [mean_in o i, mean_in o i, p, q]
    omega
theorem mean_bd {lo hi : Int} (e : ∀ y x, y < h → x < w → lo ≤ f y x ∧ f y x ≤ hi) : ∀ a : Ar, a.ok → In a (root h w) → lo ≤ mean f a ∧ mean f a ≤ hi := by
  refine area_ind (fun a o i n => ?_) fun a o i p q n => ?_
  · obtain ⟨e1, e2⟩ := one_of o i
    rw [mean_one o i]
    unfold In root at n
    dsimp only at n
    exact e _ _ (by omega) (by omega)
  · have a1 := p ((half_in false).trans n)
    have a2 := q ((half_in true).trans n)
    rw [mean_in o i]
    omega
end
section
variable {h w : Nat} (h1 : 1 ≤ h) (w1 : 1 ≤ w) {f g : Nat → Nat → Int}
include h1 w1
theorem inn_ok {a : Ar} (m : a ∈ innL h w) : a.ok ∧ In a (root h w) ∧ a.inn = true := by
  obtain ⟨m1, m2⟩ := List.mem_filter.mp m
  obtain ⟨o, i⟩ := areas_ok h1 w1 m1
  exact ⟨o, i, m2⟩
theorem lift_congr (e : ∀ y x, y < h → x < w → f y x = g y x) : liftL f h w = liftL g h w := by
  unfold liftL
  congr 1
  · exact mean_congr e _ ⟨h1, w1⟩ In.refl
  · refine List.map_congr_left fun a m => ?_
    obtain ⟨o, n, i⟩ := inn_ok h1 w1 m
    unfold diff
    rw [mean_congr e _ (half_ok o i true) ((half_in true).trans n), mean_congr e _ (half_ok o i false) ((half_in false).trans n)]
theorem lift_add {c : Int} : liftL (fun y x => f y x + c) h w = (mean f (root h w) + c) :: (innL h w).map (diff f) := by
  unfold liftL
  congr 1
  · exact mean_add _ ⟨h1, w1⟩
  · refine List.map_congr_left fun a m => ?_
    obtain ⟨o, n, i⟩ := inn_ok h1 w1 m
    unfold diff
    rw [mean_add _ (half_ok o i true), mean_add _ (half_ok o i false)]
    omega
theorem diff_bd {lo hi : Int} (e : ∀ y x, y < h → x < w → lo ≤ f y x ∧ f y x ≤ hi) : ∀ d ∈ (innL h w).map (diff f), lo - hi ≤ d ∧ d ≤ hi - lo := fun d m => by
  obtain ⟨a, m2, rfl⟩ := List.mem_map.mp m
  obtain ⟨o, n, i⟩ := inn_ok h1 w1 m2
  have a1 := mean_bd e _ (half_ok o i true) ((half_in true).trans n)
  have a2 := mean_bd e _ (half_ok o i false) ((half_in false).trans n)
  unfold diff
  omega
theorem down_lift {ns : List Int} (l : ns.length = h * w) : downL h w (numAt (liftL (fOf ns w) h w)) (numAt (liftL (fOf ns w) h w)) = ns := by
  refine Eq.trans ?_ (cells_fOf w1 l)
  unfold downL
  refine List.map_congr_left fun j hj => ?_
  obtain ⟨a, b, c⟩ := split_at w1 (List.mem_range.mp hj)
  exact cell_lift h1 w1 a b
theorem downL_len {m : Nat → Int} : (downL h w m m).length = h * w := by
  unfold downL
  rw [List.length_map, List.length_range]
theorem inn_at {k : Nat} {a : Ar} (e : (innL h w)[k]? = some a) : ∃ j, (areasL h w)[j]? = some a ∧ a.inn = true ∧ kth h w j = k := by
  obtain ⟨m1, m2⟩ := List.mem_filter.mp (List.mem_of_getElem? e)
  obtain ⟨j, ej⟩ := List.getElem?_of_mem m1
  refine ⟨j, ej, m2, ?_⟩
  have q := kth_inn ej m2
  have nd : (innL h w).Nodup := (areas_nodup h1 w1).filter _
  exact (List.getElem?_inj (List.getElem?_eq_some_iff.mp q).1 nd).mp (q.trans e.symm)
theorem lift_down {ns : List Int} (l : ns.length = h * w) : liftL (fOf (downL h w (numAt ns) (numAt ns)) w) h w = ns := by
  have cg : liftL (fOf (downL h w (numAt ns) (numAt ns)) w) h w = liftL (cellV h w (up h w (numAt ns) (numAt ns))) h w := lift_congr h1 w1 fun y x hy hx => by
    unfold fOf downL
    have lt : y * w + x < h * w := by
      have : (y + 1) * w ≤ h * w := Nat.mul_le_mul_right w hy
      rw [Nat.succ_mul] at this
      omega
    rw [List.getD_eq_getElem?_getD, List.getElem?_map, List.getElem?_range lt]
    have d1 : (y * w + x) / w = y := by rw [Nat.mul_comm, Nat.mul_add_div w1, Nat.div_eq_of_lt hx, Nat.add_zero]
    have d2 : (y * w + x) % w = x := by rw [Nat.mul_comm, Nat.mul_add_mod, Nat.mod_eq_of_lt hx]
    show cellV h w (up h w (numAt ns) (numAt ns)) ((y * w + x) / w) ((y * w + x) % w) = _
    rw [d1, d2]
  rw [cg]
  have ll := liftL_len h1 w1 (f := cellV h w (up h w (numAt ns) (numAt ns)))
  refine ext_getD (by rw [ll, l]) fun j hj => ?_
  cases j with
  | zero =>
    have a := mean_up h1 w1 (m := numAt ns) (root h w) ⟨h1, w1⟩ 0 (root_at h1 w1)
    have b := up_root h1 w1 (numAt ns) (numAt ns)
    exact Option.some.inj (a.symm.trans b)
  | succ k =>
    have hk : k < (innL h w).length := by
      have : ((innL h w).map (diff (cellV h w (up h w (numAt ns) (numAt ns))))).length + 1 = h * w := ll
      rw [List.length_map] at this
      rw [ll] at hj
      omega
    have e := List.getElem?_eq_getElem hk
    obtain ⟨j, ej, i, kj⟩ := inn_at h1 w1 e
    have d := diff_up h1 w1 (m := numAt ns) ej i
    have ks := kth_succ ej
    rw [if_pos i, kj] at ks
    rw [ks] at d
    show ((innL h w).map (diff (cellV h w (up h w (numAt ns) (numAt ns))))).getD k 0 = ns.getD (k + 1) 0
    rw [List.getD_eq_getElem?_getD, List.getElem?_map, e]
    exact d
end
end K17
namespace K17
open PySem PySem.Spec PyProof.Rows L2 PySem.W LamX KA KW KU KL KT KDT
open Evl (pss_cut tCut)
/-! ### lifted, and taken back -/
theorem plD_lay (nss : List (List Int)) : SeqAt.shaped (plD nss) = true := by
  have one : ∀ ns : List Int, (rowD ns).canLay0 = true ∧ (rowD ns).depth ≤ 1 := fun ns => by
    obtain ⟨h1, h2⟩ := lay_is ns
    refine ⟨by simp [rowD, PyData.canLay0, h1], by simp [rowD, PyData.depth, h2]⟩
  have all : ∀ nss : List (List Int), PyData.canLayAll0 (nss.map rowD) = true ∧ PyData.depthAll (nss.map rowD) ≤ 1 := fun nss => by
    induction nss with
    | nil => exact ⟨rfl, Nat.zero_le _⟩
    | cons ns nss ih =>
      obtain ⟨a, b⟩ := one ns
      refine ⟨by simp [PyData.canLayAll0, a, ih.1], ?_⟩
      simp only [List.map_cons, PyData.depthAll]
      omega
  obtain ⟨h1, h2⟩ := all nss
  simp [SeqAt.shaped, plD, PyData.canLay0, PyData.depth, h1]
  omega
theorem eqv_pl (nss : List (List Int)) : PyData.eqv (plD nss) (plD nss) = true := SeqAt.eqv_refl _ (SeqAt.canLay_of_shaped (plD_lay nss))
theorem eqv_is (ns : List Int) : PyData.eqv (.list (ns.map PyData.int)) (.list (ns.map PyData.int)) = true := SeqAt.eqv_refl _ (SeqAt.canLay_of_shaped (shaped_is ns))
theorem ints_inj : ∀ {a b : List Int}, a.map V.int = b.map V.int → a = b
  | [], [], _ => rfl
  | [], _ :: _, h => by simp at h
  | _ :: _, [], h => by simp at h
  | a :: as, b :: bs, h => by
    simp only [List.map_cons, List.cons.injEq, V.int.injEq] at h
    rw [h.1, ints_inj h.2]
/-- a plane is one -/
theorem Pn.uniq {H : Hp} {a : Addr} {nss mss : List (List Int)} {w v : Nat} (p : Pn H a nss w) (q : Pn H a mss v) : mss = nss ∧ v = w := by
  obtain ⟨xs, e1, r1⟩ := p.rows
  obtain ⟨ys, e2, r2⟩ := q.rows
  rw [e1] at e2
  cases (HO.tup.inj (Option.some.inj e2))
  have e : mss = nss := by
    refine List.ext_getElem (by rw [← r1.1, ← r2.1]) fun i a b => ?_
    obtain ⟨b1, n1, x1, y1, z1⟩ := r1.2 i _ (List.getElem?_eq_getElem (by rw [r1.1]; exact b))
    obtain ⟨b2, n2, x2, y2, z2⟩ := r2.2 i _ (List.getElem?_eq_getElem (by rw [r1.1]; exact b))
    rw [x1] at x2
    cases x2
    rw [z1] at z2
    have := ints_inj (HO.tup.inj (Option.some.inj z2))
    rw [List.getElem?_eq_getElem b] at y1
    rw [List.getElem?_eq_getElem a] at y2
    rw [Option.some.inj y1, Option.some.inj y2, this]
  subst e
  refine ⟨rfl, ?_⟩
  obtain ⟨r, hr⟩ : ∃ r, mss[0]? = some r := ⟨_, List.getElem?_eq_getElem (by have := p.h1; omega)⟩
  have m := List.mem_of_getElem? hr
  rw [← p.ws r m, ← q.ws r m]
theorem Pn.th {K : PySem.W.Frag} {H : Hp} {a : Addr} {nss : List (List Int)} {w : Nat} (p : Pn H a nss w) : Th K H (.ref a) (some (nss.map fun ns => some (ns.map V.int))) := by
  obtain ⟨xs, e, r⟩ := p.rows
  refine .tup e ⟨by rw [r.1, List.length_map], fun i v hv => ?_⟩ (by have := p.h2; rw [r.1]; omega)
  obtain ⟨b, ns, rfl, hns, eb⟩ := r.2 i v hv
  refine ⟨some (ns.map V.int), by rw [List.getElem?_map, hns]; rfl, .tup eb (fun x hx => ?_) ?_⟩
  · obtain ⟨n, _, rfl⟩ := List.mem_map.mp hx
    exact ⟨true, .int n⟩
  · have := p.w2
    rw [List.length_map, p.ws ns (List.mem_of_getElem? hns)]
    omega
theorem Pn.ok {H : Hp} {a : Addr} {nss : List (List Int)} {w : Nat} (p : Pn H a nss w) : rowsB (some (nss.map fun ns => some (ns.map V.int))) = true := by
  have h1 := p.h1
  have h2 := p.h2
  have w1 := p.w1
  have w2 := p.w2
  have hw : width0 (nss.map fun ns => some (ns.map V.int)) = w := by
    cases e : nss with
    | nil => rw [e] at h1; simp at h1
    | cons r rs =>
      show (r.map V.int).length = w
      rw [List.length_map, p.ws r (by rw [e]; exact List.mem_cons_self)]
  simp only [rowsB, Bool.and_eq_true, decide_eq_true_eq, List.all_eq_true, List.length_map]
  refine ⟨⟨h1, h2⟩, fun o ho => ?_⟩
  obtain ⟨ns, hns, rfl⟩ := List.mem_map.mp ho
  have l := p.ws ns hns
  simp only [okAs, rowB, Bool.and_eq_true, decide_eq_true_eq, List.all_eq_true, List.length_map, beq_iff_eq]
  refine ⟨⟨⟨by omega, by omega⟩, fun x hx => ?_⟩, by rw [hw, l]⟩
  obtain ⟨n, _, rfl⟩ := List.mem_map.mp hx
  rfl
theorem cut1 {L : List Int} (h : 1 ≤ L.length) : cutV (L.map V.int) (some (1 : Int)) none = (L.drop 1).map V.int := by
  rw [List.map_drop]
  exact cut_drop (t := 1) (by rw [List.length_map]; exact h)
theorem lift_more {ns : List Int} {h w : Nat} (h1 : 1 ≤ h) (w1 : 1 ≤ w) (l : ns.length = h * w) (c : Int) : liftL (fOf (ns.map fun n => n + c) w) h w = (mean (fOf ns w) (root h w) + c) :: (innL h w).map (diff (fOf ns w)) := by
  rw [← lift_add h1 w1]
  refine lift_congr h1 w1 fun y x hy hx => ?_
  unfold fOf
  have lt : y * w + x < ns.length := by
    have : (y + 1) * w ≤ h * w := Nat.mul_le_mul_right w hy
    rw [Nat.succ_mul] at this
    omega
  rw [List.getD_eq_getElem?_getD, List.getElem?_map, List.getElem?_eq_getElem lt, List.getD_eq_getElem?_getD, List.getElem?_eq_getElem lt]
  rfl
theorem fOf_bd {ns : List Int} {h w : Nat} (l : ns.length = h * w) {lo hi : Int} (e : ∀ n ∈ ns, lo ≤ n ∧ n ≤ hi) : ∀ y x, y < h → x < w → lo ≤ fOf ns w y x ∧ fOf ns w y x ≤ hi := fun y x hy hx => by
  unfold fOf
  have lt : y * w + x < ns.length := by
    have : (y + 1) * w ≤ h * w := Nat.mul_le_mul_right w hy
    rw [Nat.succ_mul] at this
    omega
  rw [List.getD_eq_getElem?_getD, List.getElem?_eq_getElem lt]
  exact e _ (List.getElem_mem lt)
def spAreLifted : Sp := fun vs H Q _ => ∃ (st lg cl q : Addr) (ns : List Int) (h w m : Nat), vs = [.ref st, .int h, .int w, .ref q] ∧ H q = some (.lst (ns.map V.int)) ∧ (q ≠ st ∧ q ≠ lg) ∧ ns.length = h * w ∧ 1 ≤ h ∧ h ≤ 16 ∧ 1 ≤ w ∧ w ≤ 16 ∧ m ≤ 999000 ∧ StAt H st lg cl m ∧
  ∀ H', StAt H' st lg cl (m + 1) → Kp st lg H H' → Q (.bl true) H'
theorem lift_rows {ns : List Int} {h w : Nat} (w1 : 1 ≤ w) (l : ns.length = h * w) : rowsOf (liftG (rowsOf ns h w) w) (rowsOf ns h w).length w = rowsOf (liftL (fOf ns w) h w) h w := by
  unfold liftG
  rw [flat_rows w1 l, rowsOf_len]
theorem down_rows {ns : List Int} {h w : Nat} (w1 : 1 ≤ w) (l : ns.length = h * w) : rowsOf (downG (rowsOf ns h w) (rowsOf ns h w) w) (rowsOf ns h w).length w = rowsOf (downL h w (numAt ns) (numAt ns)) h w := by
  unfold downG
  rw [flat_rows w1 l, rowsOf_len]
section
variable {P : Program} {w : World} {K : PySem.W.Frag} {mg : Str → Option Value} {base : Heap} (T : Top K mg)
end
end K17
namespace K17
open PySem PySem.Spec PyProof.Rows L2 PySem.W LamX KA KW KU KL KT
open Evl (pss_cut tCut)
/-! ### spans: what is checked -/
theorem walk_zipT {K : PySem.W.Frag} {a b : Addr} {xs ys : List V} {n : Nat} (hn : n = min xs.length ys.length) : Walk (RZ.ItzT K a b) n (fun H => SqT K H a xs ∧ SqT K H b ys) (YPair (fun i => xs[i]?) (fun i => ys[i]?)) := by
  subst hn
  refine ⟨fun i _ hi q => ?_, fun _ q => ⟨xs, ys, q.1, q.2, by omega⟩, fun i H v H' _ q y => ?_⟩
  · have h1 : i < xs.length := by omega
    have h2 : i < ys.length := by omega
    exact ⟨xs, ys, xs[i], ys[i], q.1, q.2, by simp [h1], by simp [h2]⟩
  · obtain ⟨T, x, z, h1, h2, h3, h4, h5⟩ := y
    exact ⟨T, x, z, h1, h2, h3, h4 xs q.1, h5 ys q.2⟩
section
variable {K : PySem.W.Frag} {H H' : Hp}
/-- what is a plane is judged to be one -/
theorem th_pn {a : Addr} {o : Option (List (Option (List V)))} {nss : List (List Int)} {w : Nat} (h : Th K H (.ref a) o) (p : Pn H a nss w) : rowsB o = true := by
  obtain ⟨xs, e, r⟩ := p.rows
  cases h with
  | no h =>
    cases h with
    | lst q => rw [e] at q; cases q
    | dK q => rw [e] at q; cases q
  | @tup _ vs os q rw' l =>
    rw [e] at q
    cases (HO.tup.inj (Option.some.inj q))
    have eo : os = nss.map fun ns => some (ns.map V.int) := by
      refine List.ext_getElem? fun i => ?_
      by_cases c : i < xs.length
      · obtain ⟨o, h1, h2⟩ := rw'.2 i _ (List.getElem?_eq_getElem c)
        obtain ⟨b, ns, x1, x2, x3⟩ := r.2 i _ (List.getElem?_eq_getElem c)
        rw [x1] at h2
        rw [h1, List.getElem?_map, x2]
        cases h2 with
        | no h =>
          cases h with
          | lst q => rw [x3] at q; cases q
          | dK q => rw [x3] at q; cases q
        | tup q _ _ =>
          rw [x3] at q
          cases (HO.tup.inj (Option.some.inj q))
          rfl
      · rw [List.getElem?_eq_none (by rw [← rw'.1]; omega), List.getElem?_eq_none (by rw [List.length_map, ← r.1]; omega)]
    rw [eo]
    exact p.ok
end
/-- each number is at most the other one -/
def leR (a b : List Int) : Bool := (a.zip b).all fun p => decide (p.1 ≤ p.2)
def leB (nss mss : List (List Int)) : Bool := (nss.zip mss).all fun p => leR p.1 p.2
def spCheckSpans (K : PySem.W.Frag) (C1 C2 : Addr) : Sp := fun vs H Q E => ∃ x y o p, vs = [x, y] ∧ Th K H x o ∧ Th K H y p ∧ (rowsB o = false → ∀ H', Same H H' → E (.ref C1) none H') ∧
  (∀ a nss w, x = .ref a → Pn H a nss w → (¬ ∃ b mss, y = .ref b ∧ Pn H b mss w ∧ mss.length = nss.length ∧ leB nss mss = true) → ∀ H', Same H H' → E (.ref C2) none H') ∧
  (∀ a nss w b mss, x = .ref a → Pn H a nss w → y = .ref b → Pn H b mss w → mss.length = nss.length → leB nss mss = true → ∀ H', Same H H' → Q .non H')
def spLiesP : Sp := fun vs H Q _ => ∃ p a y x, vs = [.ref p, .int ((y : Nat) : Int), .int ((x : Nat) : Int)] ∧ H p = some (.tup (arV a)) ∧ Q (.bl (liesIn a y x)) H
section
variable {P : Program} {w : World} {K : PySem.W.Frag} {mg : Str → Option Value} {base : Heap} (T : Top K mg)
theorem ok_check_spans : FnOk P w K mg base (L2.CX P w) 5 T.check_spans.a T.check_spans.d ["lows", "highs"] (spCheckSpans K T.BadRectangle.C T.BadSpans.C) := by
  refine T.check_spans.f.okX sc_check_spans (fun vs H Q E h => ?_) (fun cdv A outer s H vs Q E hr h => ?_)
  · obtain ⟨x, y, o, p, rfl, _⟩ := h
    rfl
  · obtain ⟨x, y, o, p, rfl, thx, thy, k1, k2, k⟩ := h
    refine ⟨_, pss_cons (ps_expr (pe_call (ok_check_rectangle T) (hr.mono (by decide)) (by rfl) T.check_rectangle.m T.check_rectangle.f.kp (bd_check_rectangle T) .nil (passX rfl rfl rfl rfl) (pa_cons (pv 0) pa_nil)))
      (pss_cons (ps_if (PW.pt (pw_or (pt_not (pt_val (pe_call (ok_is_rows T) (hr.mono (by decide)) (by rfl) T.is_rows.m T.is_rows.f.kp (bd_is_rows T) .nil passE (pa_cons (pv 1) pa_nil))))
        (pw_or (pt_cmpR op_ne (pe_callB call_len_seq (by rfl) T.b_len PySem.boot_len (pa_cons (pv 1) pa_nil)) (pe_callB call_len_seq (by rfl) T.b_len PySem.boot_len (pa_cons (pv 0) pa_nil)) (nomark _))
        (pw_or1 (pt_cmpR op_ne (pe_callB call_len_seq (by rfl) T.b_len PySem.boot_len (pa_cons (pe_ix ix_tup (pv 1) pe_int (fun _ _ => rfl)) pa_nil)) (pe_callB call_len_seq (by rfl) T.b_len PySem.boot_len (pa_cons (pe_ix ix_tup (pv 0) pe_int (fun _ _ => rfl)) pa_nil)) (nomark _))))))
        (pss_one (ps_raiseT rfl rfl T.BadSpans (by rfl) rfl (takes_of rfl rfl rfl rfl))) pss_nil)
      (pss_one (ps_for (passes_of rfl) rfl (RZ.pi_zipA (by rfl) T.b_zip (pa_cons (pv 0) (pa_cons (pv 1) pa_nil))) (pg_tup rfl (pgs_cons (pg_name (i := 2) sc_check_spans.nd rfl (.inl rfl)) (pgs_cons (pg_name (i := 3) sc_check_spans.nd rfl (.inl rfl)) pgs_nil)))
        (pss_one (ps_for (passes_of rfl) rfl (RZ.pi_zipA (by rfl) T.b_zip (pa_cons (pv 2) (pa_cons (pv 3) pa_nil))) (pg_tup rfl (pgs_cons (pg_name (i := 4) sc_check_spans.nd rfl (.inl rfl)) (pgs_cons (pg_name (i := 5) sc_check_spans.nd rfl (.inl rfl)) pgs_nil)))
          (pss_one (ps_if (pt_cmpR op_lt (pv 5) (pv 4) (nomark _)) (pss_one (ps_raiseT rfl rfl T.BadSpans (by rfl) rfl (takes_of rfl rfl rfl rfl))) pss_nil))))))), ?_⟩
    refine ⟨_, rfl, x, o, rfl, thx, fun g H1 s1 => ?_, k1⟩
    obtain ⟨a, nss, wn, rfl, pn, _⟩ := thx.good g
    have k2 := k2 a nss wn rfl pn
    have k := fun b mss (e : y = .ref b) q l z => k a nss wn b mss rfl pn e q l z
    obtain ⟨xs, ea, ra⟩ := pn.rows
    refine ⟨_, rfl, y, p, rfl, thy.keep s1, fun H2 s2 => ⟨_, rfl, ?_⟩⟩
    have s12 := s1.trans s2
    cases hp : rowsB p
    · exact iteT (iteT (k2 (fun ⟨b, mss, e, q, _⟩ => by
        have := th_pn (e ▸ thy) q
        rw [hp] at this
        cases this) H2 s12))
    obtain ⟨b, mss, v, rfl, qn, _⟩ := thy.good hp
    obtain ⟨ys, eb, rb⟩ := qn.rows
    have ea2 := s12 _ _ ea
    have eb2 := s12 _ _ eb
    refine iteF ⟨_, rfl, b, ys, rfl, .inr (SqT.of eb2), _, rfl, a, xs, rfl, .inr (SqT.of ea2), rfl, _, rfl, ?_⟩
    rw [dec_int]
    by_cases c1 : ys.length = xs.length
    case neg =>
      rw [show (((ys.length : Nat) : Int) == ((xs.length : Nat) : Int)) = false from beq_eq_false_iff_ne.mpr (by omega)]
      refine iteT (iteT (k2 (fun ⟨b', mss', e, q, l, _⟩ => ?_) H2 s12))
      cases e
      obtain ⟨e1, _⟩ := qn.uniq q
      rw [e1] at l
      exact c1 (by rw [rb.1, ra.1, l])
    rw [show (((ys.length : Nat) : Int) == ((xs.length : Nat) : Int)) = true by simp [c1]]
    obtain ⟨u0, hu0⟩ : ∃ u0, xs[0]? = some u0 := ⟨_, List.getElem?_eq_getElem (by rw [ra.1]; exact pn.h1)⟩
    obtain ⟨z0, hz0⟩ : ∃ z0, ys[0]? = some z0 := ⟨_, List.getElem?_eq_getElem (by rw [rb.1]; exact qn.h1)⟩
    obtain ⟨a0, n0, rfl, hn0, ea0⟩ := ra.2 0 u0 hu0
    obtain ⟨b0, m0, rfl, hm0, eb0⟩ := rb.2 0 z0 hz0
    have ln0 := pn.ws n0 (List.mem_of_getElem? hn0)
    have lm0 := qn.ws m0 (List.mem_of_getElem? hm0)
    refine iteF ⟨_, rfl, b, ys, 0, _, rfl, rfl, SqT.of eb2, atI_nat (j := 0) hz0, b0, _, rfl, .inr (SqT.of (s12 _ _ eb0)), _, rfl, a, xs, 0, _, rfl, rfl, SqT.of ea2, atI_nat (j := 0) hu0, a0, _, rfl, .inr (SqT.of (s12 _ _ ea0)), rfl, _, rfl, ?_⟩
    rw [dec_int, List.length_map, List.length_map, ln0, lm0]
    by_cases c2 : v = wn
    case neg =>
      rw [show (((v : Nat) : Int) == ((wn : Nat) : Int)) = false from beq_eq_false_iff_ne.mpr (by omega)]
      refine iteT (k2 (fun ⟨b', mss', e, q, l, _⟩ => ?_) H2 s12)
      cases e
      obtain ⟨_, e2⟩ := qn.uniq q
      exact c2 e2.symm
    rw [show (((v : Nat) : Int) == ((wn : Nat) : Int)) = true by simp [c2]]
    subst c2
    have lm : mss.length = nss.length := by rw [← rb.1, ← ra.1, c1]
    have bad : leB nss mss = false → ∀ H', Same H2 H' → E (.ref T.BadSpans.C) none H' := fun z H' s => k2 (fun ⟨b', mss', e, q, l, g⟩ => by
      cases e
      obtain ⟨e1, _⟩ := qn.uniq q
      rw [e1, z] at g
      cases g) H' (s12.trans s)
    have zl : (nss.zip mss).length = nss.length := by rw [List.length_zip, lm, Nat.min_self]
    refine iteF ⟨_, rfl, _, rfl, a, b, xs, ys, rfl, .inr ⟨SqT.of ea2, SqT.of eb2, for_it (walk_zipT rfl) (fun n σ H' => (∃ v2 v3 v4 v5, σ = [some (.ref a), some (.ref b), v2, v3, v4, v5]) ∧ Same H2 H' ∧ ((nss.zip mss).take n).all (fun p => leR p.1 p.2) = true)
      ⟨⟨_, _, _, _, rfl⟩, fun _ _ e => e, rfl⟩ (fun j σ H' _ q' => ⟨SqT.of (q'.2.1 _ _ ea2), SqT.of (q'.2.1 _ _ eb2)⟩) ?_ fun σ H' q' => ?_⟩⟩
    · rintro n x σ H4 H3 hn ⟨⟨v2, v3, v4, v5, rfl⟩, s3, al⟩ ⟨T', x1, x2, rfl, hT, rfl, hx1, hx2⟩
      obtain ⟨a', r1, rfl, hr1, ea'⟩ := ra.2 n x1 hx1
      obtain ⟨b', r2, rfl, hr2, eb'⟩ := rb.2 n x2 hx2
      have t4 := Same.new (o := .tup [V.ref a', .ref b']) hT
      refine ⟨T', _, rfl, SqT.of upd_same, rfl, _, _, rfl, _, _, rfl, rfl, ?_⟩
      have s4 := s3.trans t4
      generalize upd H4 T' (.tup [V.ref a', .ref b']) = H5 at s4 ⊢
      have ea5 := s4 _ _ (s12 _ _ ea')
      have eb5 := s4 _ _ (s12 _ _ eb')
      have l1 := pn.ws r1 (List.mem_of_getElem? hr1)
      have l2 := qn.ws r2 (List.mem_of_getElem? hr2)
      have hz : (nss.zip mss)[n]? = some (r1, r2) := by rw [List.getElem?_zip_eq_some]; exact ⟨hr1, hr2⟩
      have badR : leR r1 r2 = false → leB nss mss = false := fun z => all_false hz z
      refine ⟨_, rfl, _, rfl, a', b', _, _, rfl, .inr ⟨SqT.of ea5, SqT.of eb5, for_it (walk_zipT rfl) (fun j σ H' => (∃ v4 v5, σ = [some (.ref a), some (.ref b), some (.ref a'), some (.ref b'), v4, v5]) ∧ Same H5 H' ∧ ((r1.zip r2).take j).all (fun p => decide (p.1 ≤ p.2)) = true)
        ⟨⟨_, _, rfl⟩, fun _ _ e => e, rfl⟩ (fun j σ H' _ q' => ⟨SqT.of (q'.2.1 _ _ ea5), SqT.of (q'.2.1 _ _ eb5)⟩) ?_ fun σ H' q' => ?_⟩⟩
      · rintro j x σ H7 H6 hj ⟨⟨v4, v5, rfl⟩, s6, al6⟩ ⟨T2, y1, y2, rfl, hT2, rfl, hy1, hy2⟩
        obtain ⟨i1, hi1, rfl⟩ : ∃ i1, r1[j]? = some i1 ∧ y1 = V.int i1 := by
          dsimp only at hy1
          rw [List.getElem?_map] at hy1
          cases e : r1[j]? with
          | none => rw [e] at hy1; cases hy1
          | some n => rw [e] at hy1; exact ⟨n, rfl, (Option.some.inj hy1).symm⟩
        obtain ⟨i2, hi2, rfl⟩ : ∃ i2, r2[j]? = some i2 ∧ y2 = V.int i2 := by
          dsimp only at hy2
          rw [List.getElem?_map] at hy2
          cases e : r2[j]? with
          | none => rw [e] at hy2; cases hy2
          | some n => rw [e] at hy2; exact ⟨n, rfl, (Option.some.inj hy2).symm⟩
        have t7 := Same.new (o := .tup [V.int i1, .int i2]) hT2
        refine ⟨T2, _, rfl, SqT.of upd_same, rfl, _, _, rfl, _, _, rfl, rfl, ?_⟩
        have s7 := s6.trans t7
        generalize upd H7 T2 (.tup [V.int i1, .int i2]) = H8 at s7 ⊢
        have hz2 : (r1.zip r2)[j]? = some (i1, i2) := by rw [List.getElem?_zip_eq_some]; exact ⟨hi1, hi2⟩
        refine ⟨_, rfl, _, rfl, _, _, rfl, rfl, _, rfl, ?_⟩
        by_cases c : i2 < i1
        · rw [decide_eq_true c]
          exact iteT (bad (badR (all_false hz2 (decide_eq_false (by show ¬ i1 ≤ i2; omega)))) _ (s4.trans s7))
        · rw [decide_eq_false c]
          exact iteF ⟨⟨_, _, rfl⟩, s7, all_take_succ hz2 al6 (decide_eq_true (by show i1 ≤ i2; omega))⟩
      · obtain ⟨⟨v4, v5, rfl⟩, s6, al6⟩ := q'
        rw [List.length_map, List.length_map, l1, l2, Nat.min_self, List.take_of_length_le (by rw [List.length_zip, l1, l2, Nat.min_self]; exact Nat.le_refl _)] at al6
        exact ⟨⟨_, _, _, _, rfl⟩, s4.trans s6, all_take_succ hz al al6⟩
    · obtain ⟨_, s3, al⟩ := q'
      rw [c1, Nat.min_self, ra.1, List.take_of_length_le (by rw [zl]; exact Nat.le_refl _)] at al
      exact k b mss rfl qn lm al H' (s12.trans s3)
end
end K17
namespace K17
open PySem PySem.Spec PyProof.Rows L2 PySem.W LamX KA KW KU KL KT
open Evl (pss_cut tCut)
/-! ### spans and spots -/
def spLiftSpans (K : PySem.W.Frag) (C1 C2 : Addr) : Sp := fun vs H Q E => ∃ x y o p, vs = [x, y] ∧ Th K H x o ∧ Th K H y p ∧ (rowsB o = false → ∀ H', Same H H' → E (.ref C1) none H') ∧
  (∀ a nss w, x = .ref a → Pn H a nss w → (¬ ∃ b mss, y = .ref b ∧ Pn H b mss w ∧ mss.length = nss.length ∧ leB nss mss = true) → ∀ H', Same H H' → E (.ref C2) none H') ∧
  (∀ a nss w b mss, x = .ref a → Pn H a nss w → y = .ref b → Pn H b mss w → mss.length = nss.length → leB nss mss = true → ∀ r p1 p2 H', Same H H' → H' r = some (.tup [.ref p1, .ref p2]) → Pn H' p1 (rowsOf (downG nss mss w) nss.length w) w → Pn H' p2 (rowsOf (downG mss nss w) nss.length w) w → Q (.ref r) H')
def spCheckSpot (K : PySem.W.Frag) (C : Addr) : Sp := fun vs H Q E => ∃ (h w : Nat) (y x : V) (by' bx : Bool), vs = [.int h, .int w, y, x] ∧ Pl K H y by' ∧ Pl K H x bx ∧ ((within y 0 ((h : Int) - 1) && within x 0 ((w : Int) - 1)) = true → Q .non H) ∧ ((within y 0 ((h : Int) - 1) && within x 0 ((w : Int) - 1)) = false → E (.ref C) none H)
section
variable {P : Program} {w : World} {K : PySem.W.Frag} {mg : Str → Option Value} {base : Heap} (T : Top K mg)
theorem ok_lift_spans : FnOk P w K mg base (L2.CX P w) 6 T.lift_spans.a T.lift_spans.d ["lows", "highs"] (spLiftSpans K T.BadRectangle.C T.BadSpans.C) := by
  refine T.lift_spans.f.okX sc_lift_spans (fun vs H Q E h => ?_) (fun cdv A outer s H vs Q E hr h => ?_)
  · obtain ⟨x, y, o, p, rfl, _⟩ := h
    rfl
  · obtain ⟨x, y, o, p, rfl, thx, thy, k1, k2, k⟩ := h
    refine ⟨_, pss_cons (ps_expr (pe_call (ok_check_spans T) (hr.mono (by decide)) (by rfl) T.check_spans.m T.check_spans.f.kp (bd_check_spans T) .nil (passX rfl rfl rfl rfl) (pa_cons (pv 0) (pa_cons (pv 1) pa_nil))))
      (pss_one (ps_ret (pe_tup (pa_cons (pe_call (ok_lowest T) (hr.mono (by decide)) (by rfl) T.lowest.m T.lowest.f.kp (bd_lowest T) .nil passE (pa_cons (pv 0) (pa_cons (pv 1) pa_nil))) (pa_cons (pe_call (ok_lowest T) (hr.mono (by decide)) (by rfl) T.lowest.m T.lowest.f.kp (bd_lowest T) .nil passE (pa_cons (pv 1) (pa_cons (pv 0) pa_nil))) pa_nil))))), ?_⟩
    refine ⟨_, rfl, _, rfl, x, y, o, p, rfl, thx, thy, k1, k2, fun a nss wn b mss ex pn ey qn lm le H1 s1 => ?_⟩
    subst ex ey
    have k := k a nss wn b mss rfl pn rfl qn lm le
    refine ⟨_, rfl, _, rfl, a, b, nss, mss, wn, rfl, pn.keep s1, qn.keep s1, lm, fun p1 H2 s2 q1 => ?_⟩
    have s12 := s1.trans s2
    refine ⟨_, rfl, _, rfl, b, a, mss, nss, wn, rfl, qn.keep s12, pn.keep s12, lm.symm, fun p2 H3 s3 q2 => ⟨(by show 2 ≤ sizeLine; decide), fun r hr => ?_⟩⟩
    have t := Same.new (o := .tup [V.ref p1, .ref p2]) hr
    rw [lm] at q2
    exact k r p1 p2 _ ((s12.trans s3).trans t) upd_same ((q1.keep s3).keep t) (q2.keep t)
theorem ok_check_spot : FnOk P w K mg base (L2.CX P w) 3 T.check_spot.a T.check_spot.d ["height", "width", "y", "x"] (spCheckSpot K T.BadSpot.C) := by
  refine T.check_spot.f.okX sc_check_spot (fun vs H Q E h => ?_) (fun cdv A outer s H vs Q E hr h => ?_)
  · obtain ⟨h, w, y, x, _, _, rfl, _⟩ := h
    rfl
  · obtain ⟨h, wn, y, x, b1, b2, rfl, py, px, k1, k2⟩ := h
    refine ⟨_, pss_one (ps_if (PW.pt (pw_or (pt_not (pt_val (pe_call (ok_is_within T) hr (by rfl) T.is_within.m T.is_within.f.kp (bd_is_within T) .nil passE (pa_cons (pv 2) (pa_cons pe_int (pa_cons (pe_op op_sub (pv 0) pe_int) pa_nil))))))
        (pw_or1 (pt_not (pt_val (pe_call (ok_is_within T) hr (by rfl) T.is_within.m T.is_within.f.kp (bd_is_within T) .nil passE (pa_cons (pv 3) (pa_cons pe_int (pa_cons (pe_op op_sub (pv 1) pe_int) pa_nil)))))))))
        (pss_one (ps_raiseT rfl rfl T.BadSpot (by rfl) rfl (takes_of rfl rfl rfl rfl))) pss_nil), ?_⟩
    refine ⟨_, rfl, _, rfl, _, _, rfl, rfl, y, b1, _, _, rfl, py, _, rfl, ?_⟩
    cases e1 : within y 0 ((h : Int) - 1)
    · exact iteT (iteT (k2 (by rw [e1]; rfl)))
    · refine iteF ⟨_, rfl, _, rfl, _, _, rfl, rfl, x, b2, _, _, rfl, px, _, rfl, ?_⟩
      cases e2 : within x 0 ((wn : Int) - 1)
      · exact iteT (k2 (by rw [e1, e2]; rfl))
      · exact iteF (k1 (by rw [e1, e2]; rfl))
theorem ok_lies_in : FnOk P w K mg base (L2.CX P w) 1 T.lies_in.a T.lies_in.d ["area", "y", "x"] spLiesP := by
  refine T.lies_in.f.okX sc_lies_in (fun vs H Q E h => ?_) (fun cdv A outer s H vs Q E hr h => ?_)
  · obtain ⟨p, a, y, x, rfl, _⟩ := h
    rfl
  · obtain ⟨p, a, y, x, rfl, hp, k⟩ := h
    refine ⟨_, pss_cons (ps_asg (pv 0) (pg_tup rfl (pgs_cons (pg_name (i := 3) sc_lies_in.nd rfl (.inl rfl)) (pgs_cons (pg_name (i := 4) sc_lies_in.nd rfl (.inl rfl)) (pgs_cons (pg_name (i := 5) sc_lies_in.nd rfl (.inl rfl)) (pgs_cons (pg_name (i := 6) sc_lies_in.nd rfl (.inl rfl)) pgs_nil))))))
      (pss_one (ps_ret (pe_and (pe_chain op_le op_lt (pv 3) (pv 1) (pe_op op_add (pv 3) (pv 5))) (pe_one (pe_chain op_le op_lt (pv 4) (pv 2) (pe_op op_add (pv 4) (pv 6))))))), ?_⟩
    have fin : ∀ b : Bool, b = liesIn a y x → Q (.bl b) H := fun b e => q_bl k e
    unfold liesIn at fin
    refine ⟨_, rfl, p, _, rfl, SqT.of hp, rfl, _, _, rfl, _, _, rfl, _, _, rfl, _, _, rfl, rfl, ?_⟩
    refine ⟨_, rfl, _, rfl, _, _, rfl, rfl, _, rfl, ?_⟩
    by_cases c1 : a.t ≤ y
    · rw [decide_eq_true (show ((a.t : Nat) : Int) ≤ ((y : Nat) : Int) by omega)]
      refine iteT ⟨_, rfl, _, rfl, _, _, rfl, rfl, _, _, rfl, rfl, _, rfl, ?_⟩
      by_cases c2 : y < a.t + a.h
      · rw [decide_eq_true (show ((y : Nat) : Int) < ((a.t : Nat) : Int) + ((a.h : Nat) : Int) by omega)]
        refine iteT ⟨_, rfl, _, rfl, _, _, rfl, rfl, _, rfl, ?_⟩
        by_cases c3 : a.l ≤ x
        · rw [decide_eq_true (show ((a.l : Nat) : Int) ≤ ((x : Nat) : Int) by omega)]
          refine iteT ⟨_, rfl, _, rfl, _, _, rfl, rfl, _, _, rfl, rfl, ?_⟩
          exact fin _ (decide_eq_decide.mpr ⟨fun z => ⟨c1, c2, c3, by omega⟩, fun z => by omega⟩)
        · rw [decide_eq_false (show ¬ ((a.l : Nat) : Int) ≤ ((x : Nat) : Int) by omega)]
          exact iteF (fin _ (decide_eq_false fun z => c3 z.2.2.1).symm)
      · rw [decide_eq_false (show ¬ ((y : Nat) : Int) < ((a.t : Nat) : Int) + ((a.h : Nat) : Int) by omega)]
        exact iteF (fin _ (decide_eq_false fun z => c2 z.2.1).symm)
    · rw [decide_eq_false (show ¬ ((a.t : Nat) : Int) ≤ ((y : Nat) : Int) by omega)]
      refine iteF ⟨_, rfl, ?_⟩
      exact iteF (fin _ (decide_eq_false fun z => c1 z.1).symm)
end
end K17
namespace K17
open PySem PySem.Spec PyProof.Rows L2 PySem.W LamX KA KW KU KL KT
open Evl (pss_cut tCut)
/-! ### an end at a spot -/
/-- the numbers that are chosen when n areas are done -/
def endN (h w : Nat) (ns gs : List Int) (y x : Nat) : Nat → List Int
  | 0 => ns
  | n + 1 => match (areasL h w)[n]? with
    | some a => if (a.inn && liesIn (a.half false) y x) = true then (endN h w ns gs y x n).set (kth h w (n + 1)) (gs.getD (kth h w (n + 1)) 0) else endN h w ns gs y x n
    | none => endN h w ns gs y x n
theorem endN_len {h w : Nat} {ns gs : List Int} {y x : Nat} : ∀ n, (endN h w ns gs y x n).length = ns.length
  | 0 => rfl
  | n + 1 => by
    unfold endN
    split
    · split
      · rw [List.length_set]
        exact endN_len n
      · exact endN_len n
    · exact endN_len n
theorem endN_succ {h w n : Nat} {ns gs : List Int} {y x : Nat} {a : Ar} (e : (areasL h w)[n]? = some a) : endN h w ns gs y x (n + 1) = if (a.inn && liesIn (a.half false) y x) = true then (endN h w ns gs y x n).set (kth h w (n + 1)) (gs.getD (kth h w (n + 1)) 0) else endN h w ns gs y x n := by
  show (match (areasL h w)[n]? with | some a => _ | none => _ : List Int) = _
  rw [e]
def endL (h w : Nat) (ns gs : List Int) (y x : Nat) : List Int := endN h w ns gs y x (2 * (h * w) - 1)
def endG (nss mss : List (List Int)) (w y x : Nat) : List (List Int) := rowsOf (endL nss.length w nss.flatten mss.flatten y x) nss.length w
def spEndAt : Sp := fun vs H Q _ => ∃ a b nss mss w y x, vs = [.ref a, .ref b, .int ((y : Nat) : Int), .int ((x : Nat) : Int)] ∧ Pn H a nss w ∧ Pn H b mss w ∧ mss.length = nss.length ∧
  ∀ p H', Same H H' → Pn H' p (rowsOf (downG (endG nss mss w y x) (endG nss mss w y x) w) nss.length w) w → Q (.ref p) H'
section
variable {P : Program} {w : World} {K : PySem.W.Frag} {mg : Str → Option Value} {base : Heap} (T : Top K mg)
theorem ok_end_at : FnOk P w K mg base (L2.CX P w) 6 T.end_at.a T.end_at.d ["lows", "highs", "y", "x"] spEndAt := by
  refine T.end_at.f.okX sc_end_at (fun vs H Q E h => ?_) (fun cdv A outer s H vs Q E hr h => ?_)
  · obtain ⟨a, b, nss, mss, w, y, x, rfl, _⟩ := h
    rfl
  · obtain ⟨a, b, nss, mss, wn, y, x, rfl, pn, qn, lm, k⟩ := h
    refine ⟨_, pss_cons (ps_set (i := 4) sc_end_at.nd rfl (by first | exact .inl rfl | exact .inr rfl) (pe_callB call_len_seq (by rfl) T.b_len PySem.boot_len (pa_cons (pe_ix ix_tup (pv 0) pe_int (fun _ _ => rfl)) pa_nil)))
      (pss_cut (show PS _ _ (tAsg (tLc2 (iTup K (tVar 1)) (gName 10) tYes (iTup K (tVar 10)) (gName 11) tYes (tVar 11) [10, 11] [11]) (gName 5)) from ps_setLc2 (i := 5) (own := [("row", 10), ("number", 11)]) (vs1 := [11]) (wi1 := iTup K (tVar 10)) (te := tVar 11) (g := gName 10) (g1 := gName 11) (tt := tYes) (tt1 := tYes) rfl sc_end_at.nd rfl rfl (sw_true rfl rfl rfl (by decide +kernel)) (pi_tup (pv 1)) (blkOk_by (own := [("row", 10), ("number", 11)]) (N := ["lows", "highs", "y", "x", "width", "most", "numbers", "inner", "area", "chosen", "row", "number"]) (sc := defScope s_end_at) (by decide +kernel)) (by decide)
          (fun _ _ _ _ _ => pg_name (i := 10) sc_end_at.nd rfl (Or.inl rfl)) (fun _ _ _ _ _ => pts_nil) (fun _ _ _ _ _ => pi_tup (pv 10)) (fun _ _ _ _ _ => pg_name (i := 11) sc_end_at.nd rfl (Or.inl rfl)) (fun _ _ _ _ _ => pts_nil) (fun _ _ _ _ _ => pv 11))
      (pss_cut (show PS _ _ (tAsg (tLc2 (iTup K (tVar 0)) (gName 10) tYes (iTup K (tVar 10)) (gName 11) tYes (tVar 11) [10, 11] [11]) (gName 6)) from ps_setLc2 (i := 6) (own := [("row", 10), ("number", 11)]) (vs1 := [11]) (wi1 := iTup K (tVar 10)) (te := tVar 11) (g := gName 10) (g1 := gName 11) (tt := tYes) (tt1 := tYes) rfl sc_end_at.nd rfl rfl (sw_true rfl rfl rfl (by decide +kernel)) (pi_tup (pv 0)) (blkOk_by (own := [("row", 10), ("number", 11)]) (N := ["lows", "highs", "y", "x", "width", "most", "numbers", "inner", "area", "chosen", "row", "number"]) (sc := defScope s_end_at) (by decide +kernel)) (by decide)
          (fun _ _ _ _ _ => pg_name (i := 10) sc_end_at.nd rfl (Or.inl rfl)) (fun _ _ _ _ _ => pts_nil) (fun _ _ _ _ _ => pi_tup (pv 10)) (fun _ _ _ _ _ => pg_name (i := 11) sc_end_at.nd rfl (Or.inl rfl)) (fun _ _ _ _ _ => pts_nil) (fun _ _ _ _ _ => pv 11))
      (pss_cons (ps_set (i := 7) sc_end_at.nd rfl (.inl rfl) pe_int)
      (pss_cut (ps_for (passes_of rfl) rfl (pi_list (pe_call (ok_list_areas T) (hr.mono (by decide)) (by rfl) T.list_areas.m T.list_areas.f.kp (bd_list_areas T) .nil passE (pa_cons (pe_callB call_len_seq (by rfl) T.b_len PySem.boot_len (pa_cons (pv 0) pa_nil)) (pa_cons (pv 4) pa_nil)))) (pg_name (i := 8) sc_end_at.nd rfl (.inl rfl))
        (pss_one (ps_if (pt_val (pe_call (ok_is_inner T) (hr.mono (by decide)) (by rfl) T.is_inner.m T.is_inner.f.kp (bd_is_inner T) .nil passE (pa_cons (pv 8) pa_nil)))
          (pss_cons (ps_aug (i := 7) sc_end_at.nd rfl (.inl rfl) pe_int ip_add)
          (pss_one (ps_if (pt_val (pe_call (ok_lies_in T) (hr.mono (by decide)) (by rfl) T.lies_in.m T.lies_in.f.kp (bd_lies_in T) .nil passE (pa_cons (pe_ix ix_list (pe_call (ok_halves T) (hr.mono (by decide)) (by rfl) T.halves.m T.halves.f.kp (bd_halves T) .nil passE (pa_cons (pv 8) pa_nil)) pe_int (fun _ _ => rfl)) (pa_cons (pv 2) (pa_cons (pv 3) pa_nil)))))
            (pss_one (ps_asg (pe_ix ix_list (pv 5) (pv 7) (fun _ _ => rfl)) (pg_sub (pv 6) (pv 7) set_list))) pss_nil))) pss_nil)))
      (pss_cons (ps_set (i := 9) sc_end_at.nd rfl (.inl rfl) (pe_call (ok_in_rows T) (hr.mono (by decide)) (by rfl) T.in_rows.m T.in_rows.f.kp (bd_in_rows T) .nil passE (pa_cons (pv 6) (pa_cons (pv 4) pa_nil))))
      (pss_one (ps_ret (pe_call (ok_lowest T) (hr.mono (by decide)) (by rfl) T.lowest.m T.lowest.f.kp (bd_lowest T) .nil passE (pa_cons (pv 9) (pa_cons (pv 9) pa_nil)))))))))), ?_⟩
    obtain ⟨xs, ea, ra⟩ := pn.rows
    have h1 := pn.h1
    have h2 := pn.h2
    have w1 := pn.w1
    have w2 := pn.w2
    obtain ⟨u0, hu0⟩ : ∃ u0, xs[0]? = some u0 := ⟨_, List.getElem?_eq_getElem (by rw [ra.1]; exact h1)⟩
    obtain ⟨a0, n0, rfl, hn0, ea0⟩ := ra.2 0 u0 hu0
    have ln0 := pn.ws n0 (List.mem_of_getElem? hn0)
    have fl := flat_len pn.ws
    have flb : mss.flatten.length = nss.length * wn := by rw [flat_len qn.ws, lm]
    refine ⟨_, rfl, a, xs, 0, _, rfl, rfl, SqT.of ea, atI_nat (j := 0) hu0, a0, _, rfl, .inr (SqT.of ea0), ?_⟩
    rw [List.length_map, ln0]
    refine ⟨fun σ' H' => ∃ D, σ' = [some (.ref a), some (.ref b), some (.int (y : Nat)), some (.int (x : Nat)), some (.int (wn : Nat)), some (.ref D), none, none, none, none, none, none] ∧ Same H H' ∧ H' D = some (.lst (mss.flatten.map V.int)), ?_, ?_⟩
    · exact flat_read (i := 1) (j := 10) (k := 11) qn rfl (fun x => ⟨_, rfl, rfl, rfl, fun y => ⟨rfl, rfl⟩⟩) fun D H' m f l => ⟨D, rfl, m, l⟩
    rintro σ' H2 ⟨D, rfl, m2, hD⟩
    refine ⟨fun σ' H' => ∃ F, σ' = [some (.ref a), some (.ref b), some (.int (y : Nat)), some (.int (x : Nat)), some (.int (wn : Nat)), some (.ref D), some (.ref F), none, none, none, none, none] ∧ Same H2 H' ∧ H2 F = none ∧ H' F = some (.lst (nss.flatten.map V.int)), ?_, ?_⟩
    · exact flat_read (i := 0) (j := 10) (k := 11) (pn.keep m2) rfl (fun x => ⟨_, rfl, rfl, rfl, fun y => ⟨rfl, rfl⟩⟩) fun D H' m f l => ⟨D, rfl, m, f, l⟩
    rintro σ' H3 ⟨F, rfl, m3, fF, hF⟩
    have s3 := m2.trans m3
    have nF : H F = none := m2.free fF
    have DF : D ≠ F := fun z => by rw [← z, hD] at fF; cases fF
    have hD3 := m3 _ _ hD
    generalize hh : nss.length = h at *
    generalize hns : nss.flatten = ns at *
    generalize hgs : mss.flatten = gs at *
    have lenA := areas_len h1 w1
    refine ⟨fun σ' H' => (∃ v7 v8, σ' = [some (.ref a), some (.ref b), some (.int (y : Nat)), some (.int (x : Nat)), some (.int (wn : Nat)), some (.ref D), some (.ref F), v7, v8, none, none, none]) ∧ Same H H' ∧ H' F = some (.lst ((endL h wn ns gs y x).map V.int)), ?_, ?_⟩
    · refine ⟨_, rfl, a, xs, rfl, .inr (SqT.of (s3 _ _ ea)), _, rfl, h, wn, by (rw [ra.1, hh]; rfl), h1, h2, w1, w2, fun q us H4 m4 f4 l4 al => ⟨q, rfl, ⟨_, SqL.of l4⟩, ?_⟩⟩
      have qF : q ≠ F := fun z => by rw [z, hF] at f4; cases f4
      have lu := al.len
      refine for_it walk_list (fun n σ H' => (∃ (c : Int) (v8 : Option V), c = ((kth h wn n : Nat) : Int) ∧ σ = [some (.ref a), some (.ref b), some (.int (y : Nat)), some (.int (x : Nat)), some (.int (wn : Nat)), some (.ref D), some (.ref F), some (.int c), v8, none, none, none]) ∧ Same H H' ∧ H' D = some (.lst (gs.map V.int)) ∧ H' F = some (.lst ((endN h wn ns gs y x n).map V.int)) ∧ H' q = some (.lst us) ∧ AL H' us (areasL h wn))
        ⟨⟨0, none, rfl, rfl⟩, s3.trans m4, m4 _ _ hD3, m4 _ _ hF, l4, al⟩ (fun j σ H _ q' => SqL.of q'.2.2.2.2.1) ?_ fun σ H q' => ?_
      · rintro n z σ H6 H5 hn ⟨⟨c, v8, rfl, rfl⟩, s5, hD5, hF5, l5, al5⟩ ⟨rfl, hx⟩
        obtain ⟨qa, ai, rfl, hai, eqa⟩ := al5.get hx
        have lt := lit_areas h1 h2 w1 w2 (List.mem_of_getElem? hai)
        have ks := kth_succ hai
        have es := endN_succ (ns := ns) (gs := gs) (y := y) (x := x) hai
        refine ⟨_, rfl, qa, ai, rfl, eqa, lt, _, rfl, ?_⟩
        cases inn : ai.inn
        · rw [inn] at ks es
          rw [if_neg Bool.false_ne_true, Nat.add_zero] at ks
          rw [Bool.false_and, if_neg Bool.false_ne_true] at es
          exact iteF ⟨⟨_, _, congrArg (fun k : Nat => (k : Int)) ks.symm, rfl⟩, s5, hD5, by rw [es]; exact hF5, l5, al5⟩
        · rw [inn] at ks es
          rw [if_pos rfl] at ks
          rw [Bool.true_and] at es
          obtain ⟨k1, k2, k3⟩ := kids_at h1 w1 hai inn
          have kb := (List.getElem?_eq_some_iff.mp k2).1
          rw [lenA] at kb
          refine iteT ⟨_, rfl, _, _, rfl, rfl, ?_⟩
          dsimp only
          rw [show ((kth h wn n : Nat) : Int) + 1 = ((kth h wn (n + 1) : Nat) : Int) by omega]
          refine ⟨_, rfl, qa, ai, rfl, eqa, lt, fun hq hs H7 s7 _ l7 al7 => ?_⟩
          obtain ⟨ph, hph, eph⟩ := al7.at_ (i := 0) rfl
          refine ⟨hq, hs, 0, _, rfl, rfl, SqL.of l7, atI_nat (j := 0) hph, _, rfl, _, rfl, ph, ai.half false, y, x, rfl, eph, _, rfl, ?_⟩
          have s57 := s5.trans s7
          have hD7 := s7 _ _ hD5
          have hF7 := s7 _ _ hF5
          have l57 := s7 _ _ l5
          have al57 := al5.same s7
          cases li : liesIn (ai.half false) y x
          · rw [li, if_neg Bool.false_ne_true] at es
            exact iteF ⟨⟨_, _, rfl, rfl⟩, s57, hD7, by rw [es]; exact hF7, l57, al57⟩
          · rw [li, if_pos rfl] at es
            obtain ⟨gv, hgv⟩ : ∃ gv, gs[kth h wn (n + 1)]? = some gv := ⟨_, List.getElem?_eq_getElem (by omega)⟩
            have gd : gs.getD (kth h wn (n + 1)) 0 = gv := by rw [List.getD_eq_getElem?_getD, hgv]; rfl
            rw [gd] at es
            refine iteT ⟨_, rfl, _, rfl, D, _, _, .int gv, rfl, rfl, SqL.of hD7, atI_nat (by rw [List.getElem?_map, hgv]; rfl), _, rfl, _, rfl, F, _, _, kth h wn (n + 1), rfl, rfl, hF7, ixN_nat (by rw [List.length_map, endN_len]; omega), ?_⟩
            refine ⟨⟨_, _, rfl, rfl⟩, Same.put s57 nF, (upd_ne DF).trans hD7, ?_, (upd_ne qF).trans l57, al57.put hF7⟩
            rw [upd_same, es, List.map_set]
      · obtain ⟨⟨c, v8, _, rfl⟩, s5, _, hF5, _⟩ := q'
        rw [lu, lenA] at hF5
        exact ⟨⟨_, _, rfl⟩, s5, hF5⟩
    rintro σ' H8 ⟨⟨v7, v8, rfl⟩, s8, hF8⟩
    have lE : (endL h wn ns gs y x).length = h * wn := by
      unfold endL
      rw [endN_len, fl]
    refine ⟨_, rfl, _, rfl, F, _, h, wn, rfl, hF8, lE, h1, h2, w1, w2, fun p H9 s9 _ pc => ⟨_, rfl, _, rfl, p, p, _, _, wn, rfl, pc, pc, rfl, fun r H10 s10 q10 => k r H10 ((s8.trans s9).trans s10) ?_⟩⟩
    unfold endG
    rw [hh, hns, hgs]
    rw [rowsOf_len] at q10
    exact q10
end
end K17
namespace K17
open PySem PySem.Spec PyProof.Rows L2 PySem.W LamX KA KW KU KL KT
open Evl (pss_cut tCut)
/-! ### lift_end -/
def isB : V → Bool
  | .bl _ => true
  | _ => false
theorem Pl.bool {K : PySem.W.Frag} {H : Hp} {x : V} {b : Bool} (h : Pl K H x b) : ∃ t : String, TyX K H x (.type t) ∧ kitB t "bool" = some (isB x) := by
  cases h with
  | int i => exact ⟨"int", .base (.int i), (by show kitB "int" "bool" = some false; decide +kernel)⟩
  | bl i => exact ⟨"bool", .base (.bl i), (by show kitB "bool" "bool" = some true; decide +kernel)⟩
  | str i => exact ⟨"str", .base (.str i), (by show kitB "str" "bool" = some false; decide +kernel)⟩
  | non => exact ⟨"NoneType", .base .non, by decide +kernel⟩
  | tup e => exact ⟨"tuple", .base (.tup e), (by show kitB "tuple" "bool" = some false; decide +kernel)⟩
  | lst e => exact ⟨"list", .base (.lst e), (by show kitB "list" "bool" = some false; decide +kernel)⟩
  | dK e => exact ⟨"dict", .base (.dK e), (by show kitB "dict" "bool" = some false; decide +kernel)⟩
def endR (nss mss : List (List Int)) (w y x : Nat) : List (List Int) := rowsOf (downG (endG nss mss w y x) (endG nss mss w y x) w) nss.length w
def spotB (h w : Nat) (y x : V) : Bool := within y 0 ((h : Int) - 1) && within x 0 ((w : Int) - 1)
def spLiftEnd (K : PySem.W.Frag) (C1 C2 C3 C4 : Addr) : Sp := fun vs H Q E => ∃ lx hx y x u o p by' bx bu, vs = [lx, hx, y, x, u] ∧ Th K H lx o ∧ Th K H hx p ∧ Pl K H y by' ∧ Pl K H x bx ∧ Pl K H u bu ∧ (rowsB o = false → ∀ H', Same H H' → E (.ref C1) none H') ∧
  (∀ a nss w, lx = .ref a → Pn H a nss w → (¬ ∃ b mss, hx = .ref b ∧ Pn H b mss w ∧ mss.length = nss.length ∧ leB nss mss = true) → ∀ H', Same H H' → E (.ref C2) none H') ∧
  (∀ a nss w b mss, lx = .ref a → Pn H a nss w → hx = .ref b → Pn H b mss w → mss.length = nss.length → leB nss mss = true → (spotB nss.length w y x = false → ∀ H', Same H H' → E (.ref C3) none H') ∧
    (spotB nss.length w y x = true → isB u = false → ∀ H', Same H H' → E (.ref C4) none H') ∧
    (∀ (yn xn : Nat) (t : Bool), y = .int yn → x = .int xn → yn < nss.length → xn < w → u = .bl t → ∀ r H', Same H H' → Pn H' r (if t = true then endR mss nss w yn xn else endR nss mss w yn xn) w → Q (.ref r) H'))
section
variable {P : Program} {w : World} {K : PySem.W.Frag} {mg : Str → Option Value} {base : Heap} (T : Top K mg)
theorem ok_lift_end : FnOk P w K mg base (L2.CX P w) 7 T.lift_end.a T.lift_end.d ["lows", "highs", "y", "x", "upper"] (spLiftEnd K T.BadRectangle.C T.BadSpans.C T.BadSpot.C T.BadUpper.C) := by
  refine T.lift_end.f.okX sc_lift_end (fun vs H Q E h => ?_) (fun cdv A outer s H vs Q E hr h => ?_)
  · obtain ⟨lx, hx, y, x, u, _, _, _, _, _, rfl, _⟩ := h
    rfl
  · obtain ⟨lx, hx, y, x, u, o, p, b1, b2, b3, rfl, thx, thy, py, px, pu, k1, k2, k⟩ := h
    refine ⟨_, pss_cons (ps_expr (pe_call (ok_check_spans T) (hr.mono (by decide)) (by rfl) T.check_spans.m T.check_spans.f.kp (bd_check_spans T) .nil (passX rfl rfl rfl rfl) (pa_cons (pv 0) (pa_cons (pv 1) pa_nil))))
      (pss_cons (ps_expr (pe_call (ok_check_spot T) (hr.mono (by decide)) (by rfl) T.check_spot.m T.check_spot.f.kp (bd_check_spot T) .nil (passX rfl rfl rfl rfl) (pa_cons (pe_callB call_len_seq (by rfl) T.b_len PySem.boot_len (pa_cons (pv 0) pa_nil)) (pa_cons (pe_callB call_len_seq (by rfl) T.b_len PySem.boot_len (pa_cons (pe_ix ix_tup (pv 0) pe_int (fun _ _ => rfl)) pa_nil)) (pa_cons (pv 2) (pa_cons (pv 3) pa_nil))))))
      (pss_cons (ps_if (pt_not (pt_val (pe_callB call_isi (by rfl) T.b_isinstance PyProof.Rows.boot_isinstance (pa_cons (pv 4) (pa_cons (pe_bltn (v := .ty "bool") (by rfl) T.b_bool (by decide +kernel) rfl) pa_nil))))) (pss_one (ps_raiseT rfl rfl T.BadUpper (by rfl) rfl (takes_of rfl rfl rfl rfl))) pss_nil)
      (pss_cons (ps_if (pt_val (pv 4)) (pss_one (ps_ret (pe_call (ok_end_at T) (hr.mono (by decide)) (by rfl) T.end_at.m T.end_at.f.kp (bd_end_at T) .nil passE (pa_cons (pv 1) (pa_cons (pv 0) (pa_cons (pv 2) (pa_cons (pv 3) pa_nil))))))) pss_nil)
      (pss_one (ps_ret (pe_call (ok_end_at T) (hr.mono (by decide)) (by rfl) T.end_at.m T.end_at.f.kp (bd_end_at T) .nil passE (pa_cons (pv 0) (pa_cons (pv 1) (pa_cons (pv 2) (pa_cons (pv 3) pa_nil)))))))))), ?_⟩
    refine ⟨_, rfl, _, rfl, lx, hx, o, p, rfl, thx, thy, k1, k2, fun a nss wn b mss ex pn ey qn lm le H1 s1 => ?_⟩
    obtain ⟨j1, j2, j3⟩ := k a nss wn b mss ex pn ey qn lm le
    subst ex ey
    obtain ⟨xs, ea, ra⟩ := pn.rows
    obtain ⟨u0, hu0⟩ : ∃ u0, xs[0]? = some u0 := ⟨_, List.getElem?_eq_getElem (by rw [ra.1]; exact pn.h1)⟩
    obtain ⟨a0, n0, rfl, hn0, ea0⟩ := ra.2 0 u0 hu0
    have ln0 := pn.ws n0 (List.mem_of_getElem? hn0)
    refine ⟨_, rfl, a, xs, rfl, .inr (SqT.of (s1 _ _ ea)), _, rfl, a, xs, 0, _, rfl, rfl, SqT.of (s1 _ _ ea), atI_nat (j := 0) hu0, a0, _, rfl, .inr (SqT.of (s1 _ _ ea0)), ?_⟩
    rw [List.length_map, ln0, ra.1]
    refine ⟨_, rfl, _, rfl, nss.length, wn, y, x, b1, b2, rfl, py.keep s1, px.keep s1, fun hB => ?_, fun hB => j1 hB H1 s1⟩
    have hs : spotB nss.length wn y x = true := hB
    simp only [Bool.and_eq_true] at hB
    obtain ⟨i1, rfl, a1, a2⟩ := within_int hB.1
    obtain ⟨i2, rfl, a3, a4⟩ := within_int hB.2
    obtain ⟨yn, rfl⟩ : ∃ n : Nat, i1 = n := ⟨i1.toNat, by omega⟩
    obtain ⟨xn, rfl⟩ : ∃ n : Nat, i2 = n := ⟨i2.toNat, by omega⟩
    obtain ⟨t, ht, e1⟩ := (pu.keep s1).bool
    refine ⟨_, rfl, u, _, _, _, _, rfl, .ty "bool", ht, kit_ty e1, _, rfl, ?_⟩
    cases hu : isB u
    · exact iteT (j2 hs hu H1 s1)
    obtain ⟨t, rfl⟩ : ∃ t, u = .bl t := by
      cases u with
      | bl t => exact ⟨t, rfl⟩
      | _ => cases hu
    have j3 := j3 yn xn t rfl rfl (by omega) (by omega) rfl
    refine iteF ⟨_, rfl, _, rfl, ?_⟩
    cases t
    · exact iteF ⟨_, rfl, _, rfl, _, rfl, _, rfl, a, b, nss, mss, wn, yn, xn, rfl, pn.keep s1, qn.keep s1, lm, fun r H' s q => j3 r H' (s1.trans s) q⟩
    · exact iteT ⟨_, rfl, _, rfl, _, rfl, _, rfl, b, a, mss, nss, wn, yn, xn, rfl, qn.keep s1, pn.keep s1, lm.symm, fun r H' s q => j3 r H' (s1.trans s) q⟩
end
end K17
namespace K17
open PySem PySem.Spec PyProof.Rows L2 PySem.W LamX KA KW KU KL KT
open Evl (pss_cut tCut)
/-! ### the sides of a spot -/
def b01 (b : Bool) : Int := if b = true then 1 else 0
def sideV (y x : Nat) (a : Ar) : Int := 2 * b01 (liesIn (a.half true) y x) + b01 (liesIn (a.half false) y x)
def spSides : Sp := fun vs H Q _ => ∃ (h w : Nat) (d : Addr) (y x : Nat), vs = [.int h, .int w, .ref d] ∧ H d = some (.tup [.int ((y : Nat) : Int), .int ((x : Nat) : Int)]) ∧ 1 ≤ h ∧ h ≤ 16 ∧ 1 ≤ w ∧ w ≤ 16 ∧
  ∀ q H', Same H H' → H q = none → H' q = some (.lst (((innL h w).map (sideV y x)).map V.int)) → Q (.ref q) H'
section
variable {P : Program} {w : World} {K : PySem.W.Frag} {mg : Str → Option Value} {base : Heap} (T : Top K mg)
theorem ok_sides : FnOk P w K mg base (L2.CX P w) 3 T._law_sides_of.a T._law_sides_of.d ["tall", "wide", "dot"] spSides := by
  refine T._law_sides_of.f.okX sc__law_sides_of (fun vs H Q E h => ?_) (fun cdv A outer s H vs Q E hr h => ?_)
  · obtain ⟨h, w, d, y, x, rfl, _⟩ := h
    rfl
  · obtain ⟨h, wn, d, y, x, rfl, hd, h1, h2, w1, w2, k⟩ := h
    refine ⟨_, pss_cons (ps_set (i := 3) sc__law_sides_of.nd rfl (.inl rfl) (pe_lst pa_nil))
      (pss_cut (ps_for (passes_of rfl) rfl (pi_list (pe_call (ok_lareas T) (hr.mono (by decide)) (by rfl) T._law_areas.m T._law_areas.f.kp (bd__law_areas T) .nil passE (pa_cons (pv 0) (pa_cons (pv 1) pa_nil)))) (pg_name (i := 4) sc__law_sides_of.nd rfl (.inl rfl))
        (pss_cons (ps_set (i := 5) sc__law_sides_of.nd rfl (.inl rfl) (pe_call (ok_lhalves T) (hr.mono (by decide)) (by rfl) T._law_halves.m T._law_halves.f.kp (bd__law_halves T) .nil passE (pa_cons (pv 4) pa_nil)))
        (pss_one (ps_if (pt_cmpR (op_neD hr.units) (pv 5) (pe_lst pa_nil) (nomark _))
          (pss_one (ps_expr (pe_bm PySem.F.plainAttrs_list PySem.F.slot_list_append PySem.F.type_list_append mt_append (pv 3) (pa_cons (pe_op op_add
            (pe_op op_mul pe_int (pe_callTy call_int1 (by rfl) T.b_int PyProof.Rows.boot_int (pa_cons (pe_call (ok_lies T) (hr.mono (by decide)) (by rfl) T._law_lies_in.m T._law_lies_in.f.kp (bd__law_lies_in T) .nil passE (pa_cons (pe_ix ix_list (pv 5) pe_int (fun _ _ => rfl)) (pa_cons (pv 2) pa_nil))) pa_nil)))
            (pe_callTy call_int1 (by rfl) T.b_int PyProof.Rows.boot_int (pa_cons (pe_call (ok_lies T) (hr.mono (by decide)) (by rfl) T._law_lies_in.m T._law_lies_in.f.kp (bd__law_lies_in T) .nil passE (pa_cons (pe_ix ix_list (pv 5) pe_int (fun _ _ => rfl)) (pa_cons (pv 2) pa_nil))) pa_nil))) pa_nil)))) pss_nil))))
      (pss_one (ps_ret (pv 3)))), ?_⟩
    refine ⟨(by show 0 ≤ sizeLine; decide), fun fa hfa => ?_⟩
    have t0 := Same.new (o := .lst []) hfa
    have f0 : (upd H fa (.lst [])) fa = some (.lst []) := upd_same
    generalize upd H fa (.lst []) = H1 at t0 f0 ⊢
    refine ⟨fun σ' H' => (∃ v4 v5, σ' = [some (.int (h : Nat)), some (.int (wn : Nat)), some (.ref d), some (.ref fa), v4, v5]) ∧ Same H H' ∧ H' fa = some (.lst (((innL h wn).map (sideV y x)).map V.int)), ?_, ?_⟩
    · refine ⟨_, rfl, _, rfl, h, wn, rfl, h1, h2, w1, w2, fun q us H2 m2 f2 l2 al => ⟨q, rfl, ⟨_, SqL.of l2⟩, ?_⟩⟩
      have qf : q ≠ fa := fun z => by rw [z, f0] at f2; cases f2
      have lu := al.len
      refine for_it walk_list (fun n σ H' => (∃ v4 v5, σ = [some (.int (h : Nat)), some (.int (wn : Nat)), some (.ref d), some (.ref fa), v4, v5]) ∧ Same H H' ∧ H' fa = some (.lst (((((areasL h wn).take n).filter Ar.inn).map (sideV y x)).map V.int)) ∧ H' q = some (.lst us) ∧ AL H' us (areasL h wn))
        ⟨⟨_, _, rfl⟩, t0.trans m2, m2 _ _ f0, l2, al⟩ (fun j σ H _ q' => SqL.of q'.2.2.2.1) ?_ fun σ H q' => ?_
      · rintro n z σ H6 H5 hn ⟨⟨v4, v5, rfl⟩, s5, hf, l5, al5⟩ ⟨rfl, hx⟩
        obtain ⟨qa, ai, rfl, hai, eqa⟩ := al5.get hx
        have lt := lit_areas h1 h2 w1 w2 (List.mem_of_getElem? hai)
        refine ⟨_, rfl, qa, ai, rfl, eqa, lt, fun hq hs H8 m8 f8 l8 al8 => ?_⟩
        refine ⟨_, rfl, (by show 0 ≤ sizeLine; decide), fun p hp => ?_⟩
        have t2 := Same.new (o := .lst []) hp
        refine ⟨_, _, dp_als (t2 _ _ l8) (al8.same t2), dp_nil upd_same, shaped_al _, shaped_nil, _, rfl, ?_⟩
        rw [eqv_al_nil, halves_nil]
        have s8 := m8.trans t2
        have hf := s8 _ _ hf
        have l5 := s8 _ _ l5
        have al5 := al5.same s8
        have s5 := s5.trans s8
        have l8 := t2 _ _ l8
        have al8 := al8.same t2
        generalize upd H8 p (.lst []) = H9 at hf l5 al5 s5 l8 al8 ⊢
        have tk : ((areasL h wn).take (n + 1)).filter Ar.inn = ((areasL h wn).take n).filter Ar.inn ++ (if ai.inn = true then [ai] else []) := by
          rw [List.take_add_one, hai, List.filter_append]
          cases hi : ai.inn <;> simp [hi]
        rw [tk]
        cases inn : ai.inn
        · refine iteF ⟨⟨_, _, rfl⟩, s5, ?_, l5, al5⟩
          rw [if_neg Bool.false_ne_true, List.append_nil]
          exact hf
        · unfold halvesL at al8
          rw [inn, if_pos rfl] at al8
          obtain ⟨p1, hp1, ep1⟩ := al8.at_ (i := 0) rfl
          obtain ⟨p2, hp2, ep2⟩ := al8.at_ (i := 1) rfl
          have hd9 := s5 _ _ hd
          refine iteT ⟨_, rfl, .inl ⟨rfl, _, SqL.of hf⟩, _, rfl, hq, hs, 1, _, rfl, rfl, SqL.of l8, atI_nat (j := 1) hp2, _, rfl, p2, ai.half true, d, y, x, rfl, ep2, hd9, .inr ⟨_, rfl, _, _, rfl, rfl, .inl ⟨by decide, by decide⟩, _, rfl, hq, hs, 0, _, rfl, rfl, SqL.of l8, atI_nat (j := 0) hp1, _, rfl, p1, ai.half false, d, y, x, rfl, ep1, hd9, .inr ⟨_, rfl, _, _, rfl, rfl, ?_⟩⟩⟩
          refine ⟨fa, _, _, rfl, rfl, hf, ?_, ⟨_, _, rfl⟩, Same.put s5 hfa, ?_, (upd_ne qf).trans l5, al5.put hf⟩
          · rw [List.length_map, List.length_map]
            have : (((areasL h wn).take n).filter Ar.inn).length ≤ 511 := by
              refine Nat.le_trans (List.length_filter_le _ _) (Nat.le_trans (List.length_take_le' _ _) ?_)
              rw [areas_len h1 w1]
              have := Nat.mul_le_mul h2 w2
              omega
            exact Nat.lt_of_le_of_lt (show _ ≤ 512 by omega) (by decide)
          · rw [if_pos rfl, upd_same, List.map_append, List.map_append]
            rfl
      · obtain ⟨⟨v4, v5, rfl⟩, s5, hf, _⟩ := q'
        rw [List.take_of_length_le (by rw [lu]; exact Nat.le_refl _)] at hf
        exact ⟨⟨_, _, rfl⟩, s5, hf⟩
    · rintro σ' H3 ⟨⟨v4, v5, rfl⟩, s3, hf⟩
      exact ⟨_, rfl, k fa H3 s3 hfa hf⟩
end
end K17
namespace K17
open PySem PySem.Spec PyProof.Rows L2 PySem.W LamX KA KW KU KL KT
open Evl (pss_cut tCut)
/-! ### the span at a spot, as sums -/
def spanN (m g : Nat → Int) (ss : List Int) : Nat → Int × Int
  | 0 => (m 0, g 0)
  | n + 1 => if ss.getD n 0 = 1 then ((spanN m g ss n).1 - g (n + 1) / 2, (spanN m g ss n).2 - m (n + 1) / 2)
    else if ss.getD n 0 = 2 then ((spanN m g ss n).1 + m (n + 1) - m (n + 1) / 2, (spanN m g ss n).2 + g (n + 1) - g (n + 1) / 2) else spanN m g ss n
def spanAt (ls gs : List Int) (h w y x : Nat) : Int × Int := spanN (numAt ls) (numAt gs) ((innL h w).map (sideV y x)) (innL h w).length
def spSpanAt : Sp := fun vs H Q _ => ∃ (h w : Nat) (l g d : Addr) (ls gs : List Int) (y x : Nat), vs = [.int h, .int w, .ref l, .ref g, .ref d] ∧ H l = some (.lst (ls.map V.int)) ∧ H g = some (.lst (gs.map V.int)) ∧ ls.length = h * w ∧ gs.length = h * w ∧
  H d = some (.tup [.int ((y : Nat) : Int), .int ((x : Nat) : Int)]) ∧ 1 ≤ h ∧ h ≤ 16 ∧ 1 ≤ w ∧ w ≤ 16 ∧
  ∀ q H', Same H H' → H' q = some (.tup [.int (spanAt ls gs h w y x).1, .int (spanAt ls gs h w y x).2]) → Q (.ref q) H'
section
variable {P : Program} {w : World} {K : PySem.W.Frag} {mg : Str → Option Value} {base : Heap} (T : Top K mg)
theorem ok_span_at : FnOk P w K mg base (L2.CX P w) 4 T._law_span_at.a T._law_span_at.d ["tall", "wide", "least", "most", "dot"] spSpanAt := by
  refine T._law_span_at.f.okX sc__law_span_at (fun vs H Q E h => ?_) (fun cdv A outer s H vs Q E hr h => ?_)
  · obtain ⟨h, w, l, g, d, ls, gs, y, x, rfl, _⟩ := h
    rfl
  · obtain ⟨h, wn, l, g, d, ls, gs, y, x, rfl, hl, hg, ll, lg, hd, h1, h2, w1, w2, k⟩ := h
    refine ⟨_, pss_cons (ps_par (i := 5) (j := 6) rfl sc__law_span_at.nd rfl rfl (by decide) rfl rfl (pa_cons (pe_ix ix_list (pv 2) pe_int (fun _ _ => rfl)) (pa_cons (pe_ix ix_list (pv 3) pe_int (fun _ _ => rfl)) pa_nil)) (by rfl))
      (pss_cut (ps_for (passes_of rfl) rfl (pi_enum (by rfl) T.b_enumerate (pa_cons (pe_call (ok_sides T) (hr.mono (by decide)) (by rfl) T._law_sides_of.m T._law_sides_of.f.kp (bd__law_sides_of T) .nil passE (pa_cons (pv 0) (pa_cons (pv 1) (pa_cons (pv 4) pa_nil)))) pa_nil)) (pg_tup rfl (pgs_cons (pg_name (i := 7) sc__law_span_at.nd rfl (.inl rfl)) (pgs_cons (pg_name (i := 8) sc__law_span_at.nd rfl (.inl rfl)) pgs_nil)))
        (pss_cons (ps_par (i := 9) (j := 10) rfl sc__law_span_at.nd rfl rfl (by decide) rfl rfl (pa_cons (pe_ix ix_list (pv 2) (pe_op op_add (pv 7) pe_int) (fun _ _ => rfl)) (pa_cons (pe_ix ix_list (pv 3) (pe_op op_add (pv 7) pe_int) (fun _ _ => rfl)) pa_nil)) (by rfl))
        (pss_one (ps_if (pt_cmpR op_eq (pv 8) pe_int (nomark _))
          (pss_one (ps_par (i := 5) (j := 6) rfl sc__law_span_at.nd rfl rfl (by decide) rfl rfl (pa_cons (pe_op op_sub (pv 5) (pe_op op_fdiv (pv 10) pe_int)) (pa_cons (pe_op op_sub (pv 6) (pe_op op_fdiv (pv 9) pe_int)) pa_nil)) (by rfl)))
          (pss_one (ps_if (pt_cmpR op_eq (pv 8) pe_int (nomark _))
            (pss_one (ps_par (i := 5) (j := 6) rfl sc__law_span_at.nd rfl rfl (by decide) rfl rfl (pa_cons (pe_op op_sub (pe_op op_add (pv 5) (pv 9)) (pe_op op_fdiv (pv 9) pe_int)) (pa_cons (pe_op op_sub (pe_op op_add (pv 6) (pv 10)) (pe_op op_fdiv (pv 10) pe_int)) pa_nil)) (by rfl)))
            pss_nil))))))
      (pss_one (ps_ret (pe_tup (pa_cons (pv 5) (pa_cons (pv 6) pa_nil)))))), ?_⟩
    have hw := Nat.mul_pos h1 w1
    have il := inn_len h1 w1
    have at_ : ∀ {ns : List Int} {i : Nat}, ns.length = h * wn → i < h * wn → (ns.map V.int)[i]? = some (.int (numAt ns i)) := fun {ns i} e li => by
      rw [List.getElem?_map, List.getElem?_eq_getElem (by omega)]
      unfold numAt
      rw [List.getD_eq_getElem?_getD, List.getElem?_eq_getElem (by omega)]
      rfl
    refine ⟨_, rfl, l, _, 0, _, rfl, rfl, SqL.of hl, atI_nat (j := 0) (at_ ll hw), _, rfl, g, _, 0, _, rfl, rfl, SqL.of hg, atI_nat (j := 0) (at_ lg hw), _, _, rfl, ?_⟩
    refine ⟨fun σ' H' => (∃ v7 v8 v9 v10, σ' = [some (.int (h : Nat)), some (.int (wn : Nat)), some (.ref l), some (.ref g), some (.ref d), some (.int (spanAt ls gs h wn y x).1), some (.int (spanAt ls gs h wn y x).2), v7, v8, v9, v10]) ∧ Same H H', ?_, ?_⟩
    · refine ⟨_, rfl, _, rfl, _, rfl, h, wn, d, y, x, rfl, hd, h1, h2, w1, w2, fun q H1 s1 _ lq => ⟨q, _, rfl, SqL.of lq, ?_⟩⟩
      refine for_it walk_enum (fun n σ H' => (∃ v7 v8 v9 v10, σ = [some (.int (h : Nat)), some (.int (wn : Nat)), some (.ref l), some (.ref g), some (.ref d), some (.int (spanN (numAt ls) (numAt gs) ((innL h wn).map (sideV y x)) n).1), some (.int (spanN (numAt ls) (numAt gs) ((innL h wn).map (sideV y x)) n).2), v7, v8, v9, v10]) ∧ Same H H' ∧ H' q = some (.lst (((innL h wn).map (sideV y x)).map V.int)))
        ⟨⟨_, _, _, _, rfl⟩, s1, lq⟩ (fun j σ H _ q' => SqL.of q'.2.2) ?_ fun σ H' q' => ?_
      · rintro n z σ H3 H2 hn ⟨⟨v7, v8, v9, v10, rfl⟩, s2, lq2⟩ ⟨T', x1, x2, rfl, hT, rfl, ex1, ex2⟩
        cases ex1
        rw [List.length_map, List.length_map] at hn
        obtain ⟨sv, hsv, rfl⟩ : ∃ sv, ((innL h wn).map (sideV y x))[n]? = some sv ∧ x2 = V.int sv := by
          dsimp only at ex2
          rw [List.getElem?_map] at ex2
          cases e : ((innL h wn).map (sideV y x))[n]? with
          | none => rw [e] at ex2; cases ex2
          | some v => rw [e] at ex2; exact ⟨v, rfl, (Option.some.inj ex2).symm⟩
        have gd : ((innL h wn).map (sideV y x)).getD n 0 = sv := by rw [List.getD_eq_getElem?_getD, hsv]; rfl
        have t4 := Same.new (o := .tup [V.int ((n : Nat) : Int), .int sv]) hT
        refine ⟨T', _, rfl, SqT.of upd_same, rfl, _, _, rfl, _, _, rfl, rfl, ?_⟩
        have s4 := s2.trans t4
        have lq4 := t4 _ _ lq2
        generalize upd H3 T' (.tup [V.int ((n : Nat) : Int), .int sv]) = H4 at s4 lq4 ⊢
        have li : n + 1 < h * wn := by omega
        have ix : ∀ {ns : List Int}, ns.length = h * wn → atI (ns.map V.int) (((n : Nat) : Int) + 1) = some (.int (numAt ns (n + 1))) := fun {ns} e => by
          rw [show ((n : Nat) : Int) + 1 = ((n + 1 : Nat) : Int) by omega]
          exact atI_nat (at_ e li)
        refine ⟨_, rfl, _, rfl, _, _, rfl, rfl, l, _, _, _, rfl, rfl, SqL.of (s4 _ _ hl), ix ll, _, rfl, _, rfl, _, _, rfl, rfl, g, _, _, _, rfl, rfl, SqL.of (s4 _ _ hg), ix lg, _, _, rfl, ?_⟩
        have sci : ∀ i j : Int, decide (V.int i = V.int j) = decide (i = j) := fun i j => decide_eq_decide.mpr ⟨fun z => V.int.inj z, fun z => by rw [z]⟩
        refine ⟨_, rfl, rfl, _, rfl, ?_⟩
        rw [sci]
        by_cases c1 : sv = 1
        · have es : spanN (numAt ls) (numAt gs) ((innL h wn).map (sideV y x)) (n + 1) = ((spanN (numAt ls) (numAt gs) ((innL h wn).map (sideV y x)) n).1 - numAt gs (n + 1) / 2, (spanN (numAt ls) (numAt gs) ((innL h wn).map (sideV y x)) n).2 - numAt ls (n + 1) / 2) := by
            show (if _ then _ else _) = _
            rw [gd, if_pos c1]
          rw [decide_eq_true c1, es]
          refine iteT ⟨_, rfl, _, rfl, _, _, rfl, rfl, ⟨by decide, by decide⟩, _, _, rfl, rfl, _, rfl, _, rfl, _, _, rfl, rfl, ⟨by decide, by decide⟩, _, _, rfl, rfl, _, _, rfl, ⟨_, _, _, _, rfl⟩, s4, lq4⟩
        rw [decide_eq_false c1]
        refine iteF ⟨_, rfl, rfl, _, rfl, ?_⟩
        rw [sci]
        by_cases c2 : sv = 2
        · have es : spanN (numAt ls) (numAt gs) ((innL h wn).map (sideV y x)) (n + 1) = ((spanN (numAt ls) (numAt gs) ((innL h wn).map (sideV y x)) n).1 + numAt ls (n + 1) - numAt ls (n + 1) / 2, (spanN (numAt ls) (numAt gs) ((innL h wn).map (sideV y x)) n).2 + numAt gs (n + 1) - numAt gs (n + 1) / 2) := by
            show (if _ then _ else _) = _
            rw [gd, if_neg c1, if_pos c2]
          rw [decide_eq_true c2, es]
          refine iteT ⟨_, rfl, _, rfl, _, _, rfl, rfl, _, rfl, _, _, rfl, rfl, ⟨by decide, by decide⟩, _, _, rfl, rfl, _, rfl, _, rfl, _, _, rfl, rfl, _, rfl, _, _, rfl, rfl, ⟨by decide, by decide⟩, _, _, rfl, rfl, _, _, rfl, ⟨_, _, _, _, rfl⟩, s4, lq4⟩
        · have es : spanN (numAt ls) (numAt gs) ((innL h wn).map (sideV y x)) (n + 1) = spanN (numAt ls) (numAt gs) ((innL h wn).map (sideV y x)) n := by
            show (if _ then _ else _) = _
            rw [gd, if_neg c1, if_neg c2]
          rw [decide_eq_false c2, es]
          exact iteF ⟨⟨_, _, _, _, rfl⟩, s4, lq4⟩
      · obtain ⟨⟨v7, v8, v9, v10, rfl⟩, s2, _⟩ := q'
        rw [List.length_map, List.length_map]
        exact ⟨⟨_, _, _, _, rfl⟩, s2⟩
    · rintro σ' H2 ⟨⟨v7, v8, v9, v10, rfl⟩, s2⟩
      refine ⟨_, rfl, _, rfl, (by show 2 ≤ sizeLine; decide), fun p hp => ?_⟩
      exact k p _ (s2.trans (Same.new hp)) upd_same
end
end K17
namespace K17
open PySem PySem.Spec PyProof.Rows L2 PySem.W LamX KA KW KU KL KT
open Evl (pss_cut tCut)
/-! ### all spans -/
inductive IL (H : Hp) : List V → List (Int × Int) → Prop
  | nil : IL H [] []
  | cons {p : Addr} {d : Int × Int} {vs : List V} {ds : List (Int × Int)} (e : H p = some (.tup [.int d.1, .int d.2])) (r : IL H vs ds) : IL H (.ref p :: vs) (d :: ds)
theorem IL.same {H H' : Hp} {vs : List V} {ds : List (Int × Int)} (p : IL H vs ds) (s : Same H H') : IL H' vs ds := by
  induction p with
  | nil => exact .nil
  | cons e _ ih => exact .cons (s _ _ e) ih
theorem IL.put {H : Hp} {vs xs : List V} {ds : List (Int × Int)} {D : Addr} {o : HO} (p : IL H vs ds) (h : H D = some (.lst xs)) : IL (upd H D o) vs ds := by
  induction p with
  | nil => exact .nil
  | cons e _ ih => exact .cons (by rw [upd_ne (fun z => by rw [z, h] at e; cases e)]; exact e) ih
theorem IL.snoc {H : Hp} {vs : List V} {ds : List (Int × Int)} {p : Addr} {d : Int × Int} (r : IL H vs ds) (e : H p = some (.tup [.int d.1, .int d.2])) : IL H (vs ++ [.ref p]) (ds ++ [d]) := by
  induction r with
  | nil => exact .cons e .nil
  | cons e' _ ih => exact .cons e' ih
theorem IL.len {H : Hp} {vs : List V} {ds : List (Int × Int)} (p : IL H vs ds) : vs.length = ds.length := by
  induction p with
  | nil => rfl
  | cons _ _ ih => simp [ih]
theorem IL.get {H : Hp} {vs : List V} {ds : List (Int × Int)} (p : IL H vs ds) : ∀ {i : Nat} {v : V}, vs[i]? = some v → ∃ q d, v = .ref q ∧ ds[i]? = some d ∧ H q = some (.tup [.int d.1, .int d.2]) := by
  induction p with
  | nil => intro i a h; simp at h
  | @cons q b vs as e r ih =>
    intro i v h
    cases i with
    | zero =>
      simp at h
      exact ⟨q, b, h.symm, rfl, e⟩
    | succ i => exact ih (by simpa using h)
theorem fst_read {K : PySem.W.Frag} {H : Hp} {D : Addr} {ws : List V} {ps : List (Int × Int)} {v0 v1 v2 v3 : Option V} {Qd : V → Hp → Prop} (lD : H D = some (.lst ws)) (il : IL H ws ps) (hz : ps.length ≤ 300)
    (k : ∀ (E : Addr) (H' : Hp), Same H H' → H' E = some (.lst ((ps.map (·.1)).map V.int)) → Qd (.ref E) H') :
    tLc (iList K (tVar 4)) (gTup K 2 (gCons (gName 6) (gCons (gName 7) gNil))) tYes (tVar 6) [6, 7] [v0, v1, v2, v3, some (.ref D), none, none, none] H Qd := by
  refine ⟨_, rfl, D, rfl, ⟨_, SqL.of lD⟩, fun E hE => lc_it walk_list (fun i H' => H' E = some (.lst (((ps.take i).map (·.1)).map V.int)) ∧ Same H H') ⟨upd_same, Same.new hE⟩ (fun _ H' _ q' => SqL.of (q'.2 _ _ lD)) ?_ ?_⟩
  · rintro i x H3 H2 hi ⟨a1, a2⟩ ⟨rfl, hx⟩
    obtain ⟨pd, d, rfl, hd, ed⟩ := il.get hx
    refine ⟨pd, _, rfl, SqT.of (a2 _ _ ed), rfl, _, _, rfl, _, _, rfl, rfl, ?_⟩
    refine ⟨rfl, ?_⟩
    dsimp only [tYes]
    rw [if_pos rfl]
    refine ⟨_, rfl, _, a1, ?_, ?_, Same.put a2 hE⟩
    · rw [List.length_map, List.length_map, List.length_take]
      exact Nat.lt_of_le_of_lt (show _ ≤ 300 by omega) (by decide)
    · rw [upd_same, List.take_add_one, hd]
      simp
  · rintro H2 ⟨a1, a2⟩
    rw [List.take_of_length_le (by rw [il.len]; exact Nat.le_refl _)] at a1
    exact k E H2 a2 a1
theorem snd_read {K : PySem.W.Frag} {H : Hp} {D : Addr} {ws : List V} {ps : List (Int × Int)} {v0 v1 v2 v3 : Option V} {Qd : V → Hp → Prop} (lD : H D = some (.lst ws)) (il : IL H ws ps) (hz : ps.length ≤ 300)
    (k : ∀ (E : Addr) (H' : Hp), Same H H' → H' E = some (.lst ((ps.map (·.2)).map V.int)) → Qd (.ref E) H') :
    tLc (iList K (tVar 4)) (gTup K 2 (gCons (gName 6) (gCons (gName 7) gNil))) tYes (tVar 7) [6, 7] [v0, v1, v2, v3, some (.ref D), none, none, none] H Qd := by
  refine ⟨_, rfl, D, rfl, ⟨_, SqL.of lD⟩, fun E hE => lc_it walk_list (fun i H' => H' E = some (.lst (((ps.take i).map (·.2)).map V.int)) ∧ Same H H') ⟨upd_same, Same.new hE⟩ (fun _ H' _ q' => SqL.of (q'.2 _ _ lD)) ?_ ?_⟩
  · rintro i x H3 H2 hi ⟨a1, a2⟩ ⟨rfl, hx⟩
    obtain ⟨pd, d, rfl, hd, ed⟩ := il.get hx
    refine ⟨pd, _, rfl, SqT.of (a2 _ _ ed), rfl, _, _, rfl, _, _, rfl, rfl, ?_⟩
    refine ⟨rfl, ?_⟩
    dsimp only [tYes]
    rw [if_pos rfl]
    refine ⟨_, rfl, _, a1, ?_, ?_, Same.put a2 hE⟩
    · rw [List.length_map, List.length_map, List.length_take]
      exact Nat.lt_of_le_of_lt (show _ ≤ 300 by omega) (by decide)
    · rw [upd_same, List.take_add_one, hd]
      simp
  · rintro H2 ⟨a1, a2⟩
    rw [List.take_of_length_le (by rw [il.len]; exact Nat.le_refl _)] at a1
    exact k E H2 a2 a1
theorem ret_pair {tA tB : TE} {D : Ends} {σ : L2.St} {H : Hp} (h : tA σ H fun x H1 => tB σ H1 fun y H2 => 2 ≤ sizeLine ∧ ∀ p, H2 p = none → D.rt (.ref p) (upd H2 p (.tup [x, y]))) : tRet (tTup (tCons tA (tCons tB tNil))) D σ H := h
theorem call_of {sp : Sp} {ta : TA} {E : XK} {σ : L2.St} {H : Hp} {Q : VK} (h : ta σ H fun vs H1 => sp (vs ++ []) H1 Q E) : tCall sp [] E ta σ H Q := h
theorem cons_read {te : TE} {ta : TA} {σ : L2.St} {H : Hp} {Q : List V → Hp → Prop} (h : te σ H fun x H1 => ta σ H1 fun xs H2 => Q (x :: xs) H2) : tCons te ta σ H Q := h
def spansL (ls gs : List Int) (h w : Nat) : List (Int × Int) := (dotsL h w).map fun d => spanAt ls gs h w d.1 d.2
def spAllSpans : Sp := fun vs H Q _ => ∃ (h w : Nat) (l g : Addr) (ls gs : List Int), vs = [.int h, .int w, .ref l, .ref g] ∧ H l = some (.lst (ls.map V.int)) ∧ H g = some (.lst (gs.map V.int)) ∧ ls.length = h * w ∧ gs.length = h * w ∧ 1 ≤ h ∧ h ≤ 16 ∧ 1 ≤ w ∧ w ≤ 16 ∧
  ∀ r p1 p2 H', Same H H' → H' r = some (.tup [.ref p1, .ref p2]) → Pn H' p1 (rowsOf ((spansL ls gs h w).map (·.1)) h w) w → Pn H' p2 (rowsOf ((spansL ls gs h w).map (·.2)) h w) w → Q (.ref r) H'
section
variable {P : Program} {w : World} {K : PySem.W.Frag} {mg : Str → Option Value} {base : Heap} (T : Top K mg)
theorem ok_all_spans : FnOk P w K mg base (L2.CX P w) 5 T._law_all_spans.a T._law_all_spans.d ["tall", "wide", "least", "most"] spAllSpans := by
  refine T._law_all_spans.f.okX sc__law_all_spans (fun vs H Q E h => ?_) (fun cdv A outer s H vs Q E hr h => ?_)
  · obtain ⟨h, w, l, g, ls, gs, rfl, _⟩ := h
    rfl
  · obtain ⟨h, wn, l, g, ls, gs, rfl, hl, hg, ll, lg, h1, h2, w1, w2, k⟩ := h
    refine ⟨_, pss_cons (ps_setLc (i := 4) (own := [("dot", 5)]) (g := gName 5) (tt := tYes) rfl sc__law_all_spans.nd rfl rfl (sw_true rfl rfl rfl (by decide +kernel)) (pi_list (pe_call (ok_dots T) (hr.mono (by decide)) (by rfl) T._law_all_dots.m T._law_all_dots.f.kp (bd__law_all_dots T) .nil passE (pa_cons (pv 0) (pa_cons (pv 1) pa_nil)))) (blkOk_by (own := [("dot", 5)]) (N := ["tall", "wide", "least", "most", "some", "dot", "one", "two"]) (sc := defScope s__law_all_spans) (by decide +kernel))
        (fun _ _ _ _ _ => pg_name (i := 5) sc__law_all_spans.nd rfl (Or.inl rfl)) (fun _ _ _ _ _ => pts_nil) (fun _ _ _ _ _ => pe_call (ok_span_at T) (hr.mono (by decide)) (by rfl) T._law_span_at.m T._law_span_at.f.kp (bd__law_span_at T) .nil passE (pa_cons (pv 0) (pa_cons (pv 1) (pa_cons (pv 2) (pa_cons (pv 3) (pa_cons (pv 5) pa_nil)))))))
      (pss_one (ps_ret (pe_tup (pa_cons (pe_call (ok_llines T) (hr.mono (by decide)) (by rfl) T._law_lines_of.m T._law_lines_of.f.kp (bd__law_lines_of T) .nil passE (pa_cons (pe_lc (own := [("one", 6), ("two", 7)]) (g := gTup K 2 (gCons (gName 6) (gCons (gName 7) gNil))) (tt := tYes) rfl sc__law_all_spans.nd (pi_list (pv 4)) (blkOk_by (own := [("one", 6), ("two", 7)]) (N := ["tall", "wide", "least", "most", "some", "dot", "one", "two"]) (sc := defScope s__law_all_spans) (by decide +kernel)) (fun _ _ _ _ _ => pg_tup rfl (pgs_cons (pg_name (i := 6) sc__law_all_spans.nd rfl (.inl rfl)) (pgs_cons (pg_name (i := 7) sc__law_all_spans.nd rfl (.inl rfl)) pgs_nil))) (fun _ _ _ _ _ => pts_nil) (fun _ _ _ _ _ => pv 6)) (pa_cons (pv 1) pa_nil)))
        (pa_cons (pe_call (ok_llines T) (hr.mono (by decide)) (by rfl) T._law_lines_of.m T._law_lines_of.f.kp (bd__law_lines_of T) .nil passE (pa_cons (pe_lc (own := [("one", 6), ("two", 7)]) (g := gTup K 2 (gCons (gName 6) (gCons (gName 7) gNil))) (tt := tYes) rfl sc__law_all_spans.nd (pi_list (pv 4)) (blkOk_by (own := [("one", 6), ("two", 7)]) (N := ["tall", "wide", "least", "most", "some", "dot", "one", "two"]) (sc := defScope s__law_all_spans) (by decide +kernel)) (fun _ _ _ _ _ => pg_tup rfl (pgs_cons (pg_name (i := 6) sc__law_all_spans.nd rfl (.inl rfl)) (pgs_cons (pg_name (i := 7) sc__law_all_spans.nd rfl (.inl rfl)) pgs_nil))) (fun _ _ _ _ _ => pts_nil) (fun _ _ _ _ _ => pv 7)) (pa_cons (pv 1) pa_nil))) pa_nil))))), ?_⟩
    refine ⟨_, rfl, _, rfl, h, wn, rfl, h2, w2, fun qd ds H1 s1 _ l1 dl => ⟨qd, rfl, ⟨_, SqL.of l1⟩, fun D hD => lc_it walk_list (fun i H' => ∃ ws, H' D = some (.lst ws) ∧ IL H' ws (((dotsL h wn).take i).map fun d => spanAt ls gs h wn d.1 d.2) ∧ DL H' ds (dotsL h wn) ∧ Same H1 H') ⟨[], upd_same, .nil, dl.same (Same.new hD), Same.new hD⟩ (fun _ H' _ q' => SqL.of (q'.elim fun ws q' => q'.2.2.2 _ _ l1)) ?_ ?_⟩⟩
    · rintro i x H3 H2 hi ⟨ws, a1, a2, a3, a4⟩ ⟨rfl, hx⟩
      obtain ⟨pd, d, rfl, hd, ed⟩ := a3.get hx
      refine ⟨rfl, ?_⟩
      dsimp only [tYes]
      rw [if_pos rfl]
      refine ⟨_, rfl, _, rfl, _, rfl, _, rfl, _, rfl, h, wn, l, g, pd, ls, gs, d.1, d.2, rfl, a4 _ _ (s1 _ _ hl), a4 _ _ (s1 _ _ hg), ll, lg, ed, h1, h2, w1, w2, fun q H4 s4 eq => ?_⟩
      refine ⟨ws, s4 _ _ a1, ?_, ws ++ [.ref q], upd_same, ?_, (a3.same s4).put (s4 _ _ a1), Same.put (a4.trans s4) hD⟩
      · rw [a2.len, List.length_map, List.length_take, dotsL_len]
        have : h * wn ≤ 16 * 16 := Nat.mul_le_mul h2 w2
        exact Nat.lt_of_le_of_lt (show _ ≤ 256 by omega) (by decide)
      · rw [List.take_add_one, hd, List.map_append]
        exact (IL.snoc (a2.same s4) eq).put (s4 _ _ a1)
    rintro H2 ⟨ws, lD, il, dl2, s2⟩
    rw [List.take_of_length_le (by rw [dl.len]; exact Nat.le_refl _)] at il
    have il : IL H2 ws (spansL ls gs h wn) := il
    have len : (spansL ls gs h wn).length = h * wn := by
      unfold spansL
      rw [List.length_map, dotsL_len]
    have hw2 : h * wn ≤ 16 * 16 := Nat.mul_le_mul h2 w2
    show tRet (tTup (tCons (tCall spLines [] E0 (tCons (tLc (iList K (tVar 4)) (gTup K 2 (gCons (gName 6) (gCons (gName 7) gNil))) tYes (tVar 6) [6, 7]) (tCons (tVar 1) tNil))) (tCons (tCall spLines [] E0 (tCons (tLc (iList K (tVar 4)) (gTup K 2 (gCons (gName 6) (gCons (gName 7) gNil))) tYes (tVar 7) [6, 7]) (tCons (tVar 1) tNil))) tNil))) _ [some (.int (h : Nat)), some (.int (wn : Nat)), some (.ref l), some (.ref g), some (.ref D), none, none, none] H2
    refine ret_pair (call_of (cons_read (fst_read lD il (by rw [len]; omega) fun E3 H3 s3 l3 => ?_)))
    refine ⟨_, rfl, E3, _, h, wn, rfl, l3, by rw [List.length_map, len], h1, h2, w1, w2, fun p1 H4 s4 _ q1 => ?_⟩
    have s34 := s3.trans s4
    refine call_of (cons_read (snd_read (s34 _ _ lD) (il.same s34) (by rw [len]; omega) fun E5 H5 s5 l5 => ?_))
    refine ⟨_, rfl, E5, _, h, wn, rfl, l5, by rw [List.length_map, len], h1, h2, w1, w2, fun p2 H6 s6 _ q2 => ⟨(by show 2 ≤ sizeLine; decide), fun r hr => ?_⟩⟩
    have t7 := Same.new (o := .tup [V.ref p1, .ref p2]) hr
    exact k r p1 p2 _ ((((s1.trans s2).trans s34).trans (s5.trans s6)).trans t7) upd_same (((q1.keep s5).keep s6).keep t7) (q2.keep t7)
end
end K17
namespace K17
/-! ### spans: the mathematics -/
theorem lies_iff {a : Ar} {y x : Nat} : liesIn a y x = true ↔ Spot a y x := by
  unfold liesIn Spot
  exact decide_eq_true_iff
theorem lies_not {a : Ar} {y x : Nat} (n : ¬ Spot a y x) : liesIn a y x = false := decide_eq_false n
theorem side_in {a : Ar} (o : a.ok) (i : a.inn = true) {y x : Nat} : (Spot (a.half false) y x ∧ sideV y x a = 1 ∧ ¬ Spot (a.half true) y x) ∨ (Spot (a.half true) y x ∧ sideV y x a = 2 ∧ ¬ Spot (a.half false) y x) ∨ (¬ Spot a y x ∧ sideV y x a = 0 ∧ ¬ Spot (a.half true) y x ∧ ¬ Spot (a.half false) y x) := by
  by_cases c1 : Spot (a.half false) y x
  · have c2 : ¬ Spot (a.half true) y x := fun z => spot_apart o i c1 z
    refine .inl ⟨c1, ?_, c2⟩
    unfold sideV
    rw [lies_iff.mpr c1, lies_not c2]
    rfl
  · by_cases c2 : Spot (a.half true) y x
    · refine .inr (.inl ⟨c2, ?_, c1⟩)
      unfold sideV
      rw [lies_iff.mpr c2, lies_not c1]
      rfl
    · refine .inr (.inr ⟨fun z => ?_, ?_, c2, c1⟩)
      · obtain ⟨b, q⟩ := half_cover z
        cases b
        · exact c1 q
        · exact c2 q
      · unfold sideV
        rw [lies_not c2, lies_not c1]
        rfl
theorem span_swap (m g : Nat → Int) (ss : List Int) : ∀ n, spanN g m ss n = ((spanN m g ss n).2, (spanN m g ss n).1)
  | 0 => rfl
  | n + 1 => by
    show (if _ then _ else _) = _
    rw [span_swap m g ss n]
    show _ = ((if _ then _ else _ : Int × Int).2, (if _ then _ else _ : Int × Int).1)
    by_cases c : ss.getD n 0 = 1
    · rw [if_pos c, if_pos c]
    · rw [if_neg c, if_neg c]
      by_cases d : ss.getD n 0 = 2
      · rw [if_pos d, if_pos d]
      · rw [if_neg d, if_neg d]
section
variable {h w : Nat} (h1 : 1 ≤ h) (w1 : 1 ≤ w) (m g : Nat → Int) {y x : Nat} (hy : y < h) (hx : x < w)
include h1 w1 hy hx
/-- the area that holds the spot and is not yet halved -/
theorem span_up : ∀ n, n ≤ 2 * (h * w) - 1 → ∃ j a, (areasL h w)[j]? = some a ∧ Spot a y x ∧ (n ≤ j ∨ a.inn = false) ∧ j < 1 + 2 * kth h w n ∧ (up h w m g)[j]? = some (spanN m g ((innL h w).map (sideV y x)) (kth h w n)).1 ∧
    ∀ k b, n ≤ k → (areasL h w)[k]? = some b → Spot b y x → k < 1 + 2 * kth h w n → k = j
  | 0, _ => by
    refine ⟨0, root h w, root_at h1 w1, ⟨Nat.zero_le _, by show y < 0 + h; omega, Nat.zero_le _, by show x < 0 + w; omega⟩, .inl (Nat.zero_le _), by omega, up_root h1 w1 _ _, fun k b _ _ _ l => ?_⟩
    rw [kth_zero] at l
    omega
  | n + 1, l => by
    obtain ⟨j, a, ej, sa, fr, lj, uj, un⟩ := span_up n (by omega)
    have la := areas_len h1 w1
    obtain ⟨b, eb⟩ : ∃ b, (areasL h w)[n]? = some b := ⟨_, List.getElem?_eq_getElem (by omega)⟩
    have ks := kth_succ eb
    obtain ⟨ob, _⟩ := areas_ok h1 w1 (List.mem_of_getElem? eb)
    have ln : n < 1 + 2 * kth h w n := by
      have := upL_lt h1 w1 m g (i := n) (by omega)
      rwa [upL_len _ (by omega)] at this
    by_cases sb : Spot b y x
    · have nj := un n b (Nat.le_refl _) eb sb ln
      subst nj
      rw [eb] at ej
      have ea : b = a := Option.some.inj ej
      subst ea
      by_cases i : b.inn = true
      · rw [if_pos i] at ks
        obtain ⟨k1, k2, k3⟩ := kids_at h1 w1 eb i
        obtain ⟨v1, v2⟩ := up_kids h1 w1 m g eb i uj
        have gi : ((innL h w).map (sideV y x)).getD (kth h w n) 0 = sideV y x b := by
          rw [List.getD_eq_getElem?_getD, List.getElem?_map, kth_inn eb i]
          rfl
        have fin : ∀ (c : Bool) (q : Nat), (areasL h w)[q]? = some (b.half c) → q < 1 + 2 * kth h w (n + 1) → n + 1 ≤ q → Spot (b.half c) y x → ∀ k d, n + 1 ≤ k → (areasL h w)[k]? = some d → Spot d y x → k < 1 + 2 * kth h w (n + 1) → k = q := fun c q eq lq nq sq k d lk ek sd lk2 => by
          rcases Nat.lt_or_ge k (1 + 2 * kth h w n) with z | z
          · have := un k d (by omega) ek sd z
            omega
          · have : k = 2 * kth h w (n + 1) - 1 ∨ k = 2 * kth h w (n + 1) := by omega
            rcases this with e | e
            · rw [e, k1] at ek
              cases ek
              cases c
              · rw [e]
                exact areas_inj h1 w1 k1 eq
              · exact (spot_apart ob i sd sq).elim
            · rw [e, k2] at ek
              cases ek
              cases c
              · exact (spot_apart ob i sq sd).elim
              · rw [e]
                exact areas_inj h1 w1 k2 eq
        rcases side_in ob i (y := y) (x := x) with ⟨s1, s2, _⟩ | ⟨s1, s2, _⟩ | ⟨s1, _⟩
        · refine ⟨2 * kth h w (n + 1) - 1, _, k1, s1, .inl (by omega), by omega, ?_, fin false _ k1 (by omega) (by omega) s1⟩
          rw [v1, ks]
          show _ = some (if _ then _ else _ : Int × Int).1
          rw [gi, if_pos s2]
        · refine ⟨2 * kth h w (n + 1), _, k2, s1, .inl (by omega), by omega, ?_, fin true _ k2 (by omega) (by omega) s1⟩
          rw [v2, ks]
          show _ = some (if _ then _ else _ : Int × Int).1
          rw [gi, if_neg (by rw [s2]; decide), if_pos s2]
        · exact (s1 sb).elim
      · rw [if_neg i] at ks
        rw [Nat.add_zero] at ks
        rw [ks]
        refine ⟨n, b, eb, sb, .inr (by simpa using i), ln, uj, fun k d lk ek sd l2 => un k d (by omega) ek sd l2⟩
    · have nj : n ≠ j := fun z => by
        subst z
        rw [eb] at ej
        exact sb (Option.some.inj ej ▸ sa)
      refine ⟨j, a, ej, sa, fr.imp (fun z => by omega) id, ?_, ?_, fun k d lk ek sd l2 => ?_⟩
      · rw [ks]
        omega
      · rw [uj, ks]
        by_cases i : b.inn = true
        · rw [if_pos i]
          have gi : ((innL h w).map (sideV y x)).getD (kth h w n) 0 = sideV y x b := by
            rw [List.getD_eq_getElem?_getD, List.getElem?_map, kth_inn eb i]
            rfl
          rcases side_in ob i (y := y) (x := x) with ⟨s1, _⟩ | ⟨s1, _⟩ | ⟨_, s2, _⟩
          · exact (sb (spot_half s1)).elim
          · exact (sb (spot_half s1)).elim
          · show _ = some (if _ then _ else _ : Int × Int).1
            rw [gi, if_neg (by rw [s2]; decide), if_neg (by rw [s2]; decide)]
        · rw [if_neg i]
          rfl
      · rw [ks] at l2
        by_cases i : b.inn = true
        · rw [if_pos i] at l2 ks
          rcases Nat.lt_or_ge k (1 + 2 * kth h w n) with z | z
          · exact un k d (by omega) ek sd z
          · obtain ⟨k1, k2, k3⟩ := kids_at h1 w1 eb i
            have : k = 2 * kth h w (n + 1) - 1 ∨ k = 2 * kth h w (n + 1) := by omega
            rcases this with e | e
            · rw [e, k1] at ek
              cases ek
              exact (sb (spot_half sd)).elim
            · rw [e, k2] at ek
              cases ek
              exact (sb (spot_half sd)).elim
        · rw [if_neg i, Nat.add_zero] at l2
          exact un k d (by omega) ek sd l2
theorem cell_span : cellV h w (up h w m g) y x = (spanN m g ((innL h w).map (sideV y x)) (innL h w).length).1 := by
  obtain ⟨j, a, ej, sa, fr, lj, uj, _⟩ := span_up h1 w1 m g hy hx _ (Nat.le_refl _)
  have la := areas_len h1 w1
  have jl := (List.getElem?_eq_some_iff.mp ej).1
  have i : a.inn = false := fr.resolve_left (by omega)
  obtain ⟨o, _⟩ := areas_ok h1 w1 (List.mem_of_getElem? ej)
  obtain ⟨e1, e2⟩ := one_of o i
  unfold Spot at sa
  have ea : a = ⟨y, x, 1, 1⟩ := by
    obtain ⟨t, l, hh, ww⟩ := a
    dsimp only at e1 e2 sa
    congr 1 <;> omega
  subst ea
  unfold cellV
  rw [idx_at h1 w1 ej, List.getD_eq_getElem?_getD, uj]
  have k1 := kth_all h1 w1
  have k2 := inn_len h1 w1
  have hp := Nat.mul_pos h1 w1
  rw [show kth h w (2 * (h * w) - 1) = (innL h w).length by omega]
  rfl
end
theorem span_congr {m g m' g' : Nat → Int} {ss : List Int} : ∀ n, (∀ k, k ≤ n → m k = m' k ∧ g k = g' k) → spanN m g ss n = spanN m' g' ss n
  | 0, e => by
    show (m 0, g 0) = (m' 0, g' 0)
    rw [(e 0 (Nat.le_refl _)).1, (e 0 (Nat.le_refl _)).2]
  | n + 1, e => by
    show (if _ then _ else _) = (if _ then _ else _)
    rw [span_congr n fun k hk => e k (by omega), (e (n + 1) (Nat.le_refl _)).1, (e (n + 1) (Nat.le_refl _)).2]
theorem span_mono {m g m' g' : Nat → Int} {ss : List Int} : ∀ n, (∀ k, k ≤ n → m' k ≤ m k ∧ g k ≤ g' k) → (spanN m' g' ss n).1 ≤ (spanN m g ss n).1 ∧ (spanN m g ss n).2 ≤ (spanN m' g' ss n).2
  | 0, e => e 0 (Nat.le_refl _)
  | n + 1, e => by
    have ih := span_mono (ss := ss) n fun k hk => e k (by omega)
    have en := e (n + 1) (Nat.le_refl _)
    show (if _ then _ else _ : Int × Int).1 ≤ (if _ then _ else _ : Int × Int).1 ∧ (if _ then _ else _ : Int × Int).2 ≤ (if _ then _ else _ : Int × Int).2
    by_cases c : ss.getD n 0 = 1
    · rw [if_pos c, if_pos c]
      dsimp only
      omega
    · rw [if_neg c, if_neg c]
      by_cases d : ss.getD n 0 = 2
      · rw [if_pos d, if_pos d]
        dsimp only
        omega
      · rw [if_neg d, if_neg d]
        exact ih
/-- the numbers that reach the lower end -/
def lowR (m g : Nat → Int) (ss : List Int) (k : Nat) : Int := if k = 0 then m 0 else if ss.getD (k - 1) 0 = 1 then g k else m k
theorem low_reach {m g : Nat → Int} {ss : List Int} : ∀ n, (spanN (lowR m g ss) (lowR m g ss) ss n).1 = (spanN m g ss n).1
  | 0 => rfl
  | n + 1 => by
    have ih := low_reach (m := m) (g := g) (ss := ss) n
    show (if _ then _ else _ : Int × Int).1 = (if _ then _ else _ : Int × Int).1
    have v : lowR m g ss (n + 1) = if ss.getD n 0 = 1 then g (n + 1) else m (n + 1) := by
      unfold lowR
      rw [if_neg (Nat.succ_ne_zero n), Nat.add_sub_cancel]
    rw [v]
    by_cases c : ss.getD n 0 = 1
    · rw [if_pos c, if_pos c, if_pos c, ih]
    · rw [if_neg c, if_neg c, if_neg c]
      by_cases d : ss.getD n 0 = 2
      · rw [if_pos d, if_pos d, ih]
      · rw [if_neg d, if_neg d, ih]
theorem low_same {m : Nat → Int} {ss : List Int} (n : Nat) : (spanN m m ss n).1 = (spanN m m ss n).2 := by
  have := span_swap m m ss n
  exact congrArg Prod.fst this
theorem dots_at {h w y x : Nat} (hy : y < h) (hx : x < w) : (dotsL h w)[y * w + x]? = some (y, x) := by
  induction h with
  | zero => cases hy
  | succ h ih =>
    rw [dotsL_succ]
    rcases Nat.lt_or_ge y h with c | c
    · have lt : y * w + x < h * w := by
        have : (y + 1) * w ≤ h * w := Nat.mul_le_mul_right w c
        rw [Nat.succ_mul] at this
        omega
      rw [List.getElem?_append_left (by rw [dotsL_len]; exact lt)]
      exact ih c
    · have : y = h := by omega
      subst this
      rw [List.getElem?_append_right (by rw [dotsL_len]; omega), dotsL_len, Nat.add_sub_cancel_left, List.getElem?_map, List.getElem?_range hx]
      rfl
theorem spans_len {ls gs : List Int} {h w : Nat} : (spansL ls gs h w).length = h * w := by
  unfold spansL
  rw [List.length_map, dotsL_len]
section
variable {h w : Nat} (h1 : 1 ≤ h) (w1 : 1 ≤ w)
include h1 w1
/-- spans are what is unlifted from the ends -/
theorem down_lo {ls gs : List Int} : downL h w (numAt ls) (numAt gs) = (spansL ls gs h w).map (·.1) := by
  refine ext_getD (by rw [List.length_map, spans_len]; unfold downL; rw [List.length_map, List.length_range]) fun j hj => ?_
  have hj : j < h * w := by
    unfold downL at hj
    rwa [List.length_map, List.length_range] at hj
  obtain ⟨a, b, c⟩ := split_at w1 hj
  have d := dots_at a b
  rw [c] at d
  unfold downL spansL
  rw [List.getD_eq_getElem?_getD, List.getD_eq_getElem?_getD, List.getElem?_map, List.getElem?_range hj, List.getElem?_map, List.getElem?_map, d]
  exact cell_span h1 w1 _ _ a b
theorem down_hi {ls gs : List Int} : downL h w (numAt gs) (numAt ls) = (spansL ls gs h w).map (·.2) := by
  rw [down_lo h1 w1]
  unfold spansL
  rw [List.map_map, List.map_map]
  refine List.map_congr_left fun d _ => ?_
  show (spanAt gs ls h w d.1 d.2).1 = (spanAt ls gs h w d.1 d.2).2
  unfold spanAt
  rw [span_swap]
end
/-! rows between two rows -/
def Bt (ls gs : List Int) (r : List Int) (n : Nat) : Prop := r.length = n ∧ ∀ k, k < n → numAt ls k ≤ numAt r k ∧ numAt r k ≤ numAt gs k
def stepR (a b : Int) (rows : List (List Int)) : List (List Int) := rows.flatMap fun r => (List.range (b + 1 - a).toNat).map fun k => r ++ [a + ((k : Nat) : Int)]
def allR (ls gs : List Int) : Nat → List (List Int)
  | 0 => [[]]
  | n + 1 => stepR (numAt ls n) (numAt gs n) (allR ls gs n)
theorem numAt_app {r : List Int} {v : Int} {n k : Nat} (l : r.length = n) : numAt (r ++ [v]) k = if k < n then numAt r k else if k = n then v else 0 := by
  unfold numAt
  rw [List.getD_eq_getElem?_getD, List.getD_eq_getElem?_getD]
  by_cases c : k < n
  · rw [if_pos c, List.getElem?_append_left (by omega)]
  · rw [if_neg c, List.getElem?_append_right (by omega), l]
    by_cases d : k = n
    · rw [if_pos d, d, Nat.sub_self]
      rfl
    · rw [if_neg d, List.getElem?_eq_none (by simp; omega)]
      rfl
theorem allR_mem {ls gs : List Int} : ∀ n r, r ∈ allR ls gs n ↔ Bt ls gs r n
  | 0, r => by
    unfold Bt allR
    rw [List.mem_singleton]
    exact ⟨fun e => ⟨by rw [e]; rfl, fun k hk => absurd hk (Nat.not_lt_zero k)⟩, fun e => List.eq_nil_of_length_eq_zero e.1⟩
  | n + 1, r => by
    show r ∈ stepR _ _ _ ↔ _
    unfold stepR
    rw [List.mem_flatMap]
    constructor
    · rintro ⟨q, hq, hr⟩
      obtain ⟨k, hk, rfl⟩ := List.mem_map.mp hr
      have hk := List.mem_range.mp hk
      obtain ⟨l, b⟩ := (allR_mem n q).mp hq
      refine ⟨by simp [l], fun j hj => ?_⟩
      rw [numAt_app l]
      by_cases c : j < n
      · rw [if_pos c]
        exact b j c
      · have : j = n := by omega
        subst this
        rw [if_neg c, if_pos rfl]
        omega
    · rintro ⟨l, b⟩
      have hn := b n (Nat.lt_succ_self n)
      have e : r = r.take n ++ [numAt ls n + (((numAt r n - numAt ls n).toNat : Nat) : Int)] := by
        have lt : n < r.length := by omega
        have : numAt r n = r[n] := by
          unfold numAt
          rw [List.getD_eq_getElem?_getD, List.getElem?_eq_getElem lt]
          rfl
        rw [show numAt ls n + (((numAt r n - numAt ls n).toNat : Nat) : Int) = r[n] by omega, List.take_append_getElem lt]
        rw [List.take_of_length_le (by omega)]
      refine ⟨r.take n, (allR_mem n _).mpr ⟨by rw [List.length_take]; omega, fun k hk => ?_⟩, List.mem_map.mpr ⟨(numAt r n - numAt ls n).toNat, List.mem_range.mpr (by omega), e.symm⟩⟩
      have := b k (by omega)
      have ek : numAt (r.take n) k = numAt r k := by
        unfold numAt
        rw [List.getD_eq_getElem?_getD, List.getD_eq_getElem?_getD, List.getElem?_take, if_pos hk]
      rw [ek]
      exact this
def prodR (ls gs : List Int) : Nat → Nat
  | 0 => 1
  | n + 1 => prodR ls gs n * (numAt gs n + 1 - numAt ls n).toNat
theorem allR_len {ls gs : List Int} : ∀ n, (allR ls gs n).length = prodR ls gs n
  | 0 => rfl
  | n + 1 => by
    show (stepR _ _ _).length = _ * _
    unfold stepR
    rw [← allR_len n]
    generalize allR ls gs n = L
    induction L with
    | nil => simp
    | cons a L ih =>
      rw [List.flatMap_cons, List.length_append, ih, List.length_map, List.length_range, List.length_cons, Nat.succ_mul, Nat.add_comm]
def waysR (ls gs : List Int) : Nat → Nat
  | 0 => 1
  | n + 1 => if waysR ls gs n * (numAt gs n + 1 - numAt ls n).toNat < 1000 then waysR ls gs n * (numAt gs n + 1 - numAt ls n).toNat else 1000
theorem ways_prod {ls gs : List Int} : ∀ n, (∀ k, k < n → numAt ls k ≤ numAt gs k) → 1 ≤ waysR ls gs n ∧ waysR ls gs n ≤ 1000 ∧ (waysR ls gs n < 1000 → prodR ls gs n = waysR ls gs n)
  | 0, _ => ⟨Nat.le_refl _, (show 1 ≤ 1000 by decide), fun _ => rfl⟩
  | n + 1, b => by
    obtain ⟨i1, i2, i3⟩ := ways_prod n fun k hk => b k (by omega)
    have bn := b n (Nat.lt_succ_self n)
    have f1 : 1 ≤ (numAt gs n + 1 - numAt ls n).toNat := by omega
    have g : waysR ls gs (n + 1) = if waysR ls gs n * (numAt gs n + 1 - numAt ls n).toNat < 1000 then waysR ls gs n * (numAt gs n + 1 - numAt ls n).toNat else 1000 := rfl
    rw [g]
    have hp := Nat.mul_le_mul i1 f1
    have hq := Nat.le_mul_of_pos_right (waysR ls gs n) f1
    split
    · refine ⟨by omega, by omega, fun _ => ?_⟩
      show prodR ls gs n * _ = _
      rw [i3 (by omega)]
    · exact ⟨by decide, Nat.le_refl _, fun z => absurd z (by decide)⟩
theorem prod_mono {ls gs : List Int} : ∀ {m n : Nat}, m ≤ n → (∀ k, k < n → numAt ls k ≤ numAt gs k) → prodR ls gs m ≤ prodR ls gs n
  | m, 0, l, _ => by
    have : m = 0 := by omega
    subst this
    exact Nat.le_refl _
  | m, n + 1, l, b => by
    rcases Nat.lt_or_ge m (n + 1) with c | c
    · have := prod_mono (show m ≤ n by omega) fun k hk => b k (Nat.lt_succ_of_lt hk)
      have bn := b n (Nat.lt_succ_self n)
      refine Nat.le_trans this (Nat.le_mul_of_pos_right _ (by omega))
    · have : m = n + 1 := by omega
      rw [this]
      exact Nat.le_refl _
/-! the least of all that are unlifted -/
section
variable {h w : Nat} (h1 : 1 ≤ h) (w1 : 1 ≤ w) {ls gs : List Int} (b : ∀ k, k < h * w → numAt ls k ≤ numAt gs k) {y x : Nat}
include h1 w1 b
theorem low_all {r : List Int} (m : Bt ls gs r (h * w)) : (spanAt ls gs h w y x).1 ≤ (spanAt r r h w y x).1 ∧ (spanAt r r h w y x).1 ≤ (spanAt ls gs h w y x).2 := by
  unfold spanAt
  have il := inn_len h1 w1
  have hp := Nat.mul_pos h1 w1
  have q := span_mono (m := numAt r) (g := numAt r) (m' := numAt ls) (g' := numAt gs) (ss := (innL h w).map (sideV y x)) (innL h w).length fun k hk => m.2 k (by omega)
  have e := low_same (m := numAt r) (ss := (innL h w).map (sideV y x)) (innL h w).length
  omega
def lowL (ls gs ss : List Int) (n : Nat) : List Int := (List.range n).map (lowR (numAt ls) (numAt gs) ss)
omit h1 w1 b in
theorem low_num {ss : List Int} {n k : Nat} (hk : k < n) : numAt (lowL ls gs ss n) k = lowR (numAt ls) (numAt gs) ss k := by
  unfold numAt lowL
  rw [List.getD_eq_getElem?_getD, List.getElem?_map, List.getElem?_range hk]
  rfl
omit h1 w1 in
theorem low_bt {ss : List Int} : Bt ls gs (lowL ls gs ss (h * w)) (h * w) := by
  refine ⟨by simp [lowL], fun k hk => ?_⟩
  rw [low_num hk]
  have bk := b k hk
  unfold lowR
  split
  · next e => rw [e] at bk ⊢; omega
  · split <;> omega
theorem low_some : ∃ r, Bt ls gs r (h * w) ∧ (spanAt r r h w y x).1 = (spanAt ls gs h w y x).1 := by
  refine ⟨_, low_bt b (ss := (innL h w).map (sideV y x)), ?_⟩
  unfold spanAt
  have il := inn_len h1 w1
  have hp := Nat.mul_pos h1 w1
  rw [span_congr (m' := lowR (numAt ls) (numAt gs) ((innL h w).map (sideV y x))) (g' := lowR (numAt ls) (numAt gs) ((innL h w).map (sideV y x))) _ fun k hk => ⟨low_num (by omega), low_num (by omega)⟩]
  exact low_reach _
end
/-- the other end: the same, turned over -/
def hiR (m g : Nat → Int) (ss : List Int) (k : Nat) : Int := if k = 0 then g 0 else if ss.getD (k - 1) 0 = 1 then m k else g k
theorem hi_reach {m g : Nat → Int} {ss : List Int} : ∀ n, (spanN (hiR m g ss) (hiR m g ss) ss n).1 = (spanN m g ss n).2
  | 0 => rfl
  | n + 1 => by
    have ih := hi_reach (m := m) (g := g) (ss := ss) n
    show (if _ then _ else _ : Int × Int).1 = (if _ then _ else _ : Int × Int).2
    have v : hiR m g ss (n + 1) = if ss.getD n 0 = 1 then m (n + 1) else g (n + 1) := by
      unfold hiR
      rw [if_neg (Nat.succ_ne_zero n), Nat.add_sub_cancel]
    rw [v]
    by_cases c : ss.getD n 0 = 1
    · rw [if_pos c, if_pos c, if_pos c, ih]
    · rw [if_neg c, if_neg c, if_neg c]
      by_cases d : ss.getD n 0 = 2
      · rw [if_pos d, if_pos d, ih]
      · rw [if_neg d, if_neg d, ih]
def hiL (ls gs ss : List Int) (n : Nat) : List Int := (List.range n).map (hiR (numAt ls) (numAt gs) ss)
theorem hi_num {ls gs ss : List Int} {n k : Nat} (hk : k < n) : numAt (hiL ls gs ss n) k = hiR (numAt ls) (numAt gs) ss k := by
  unfold numAt hiL
  rw [List.getD_eq_getElem?_getD, List.getElem?_map, List.getElem?_range hk]
  rfl
theorem hi_bt {h w : Nat} {ls gs ss : List Int} (b : ∀ k, k < h * w → numAt ls k ≤ numAt gs k) : Bt ls gs (hiL ls gs ss (h * w)) (h * w) := by
  refine ⟨by simp [hiL], fun k hk => ?_⟩
  rw [hi_num hk]
  have bk := b k hk
  unfold hiR
  split
  · next e => rw [e] at bk ⊢; omega
  · split <;> omega
theorem hi_some {h w : Nat} (h1 : 1 ≤ h) (w1 : 1 ≤ w) {ls gs : List Int} (b : ∀ k, k < h * w → numAt ls k ≤ numAt gs k) {y x : Nat} : ∃ r, Bt ls gs r (h * w) ∧ (spanAt r r h w y x).1 = (spanAt ls gs h w y x).2 := by
  refine ⟨_, hi_bt b (ss := (innL h w).map (sideV y x)), ?_⟩
  unfold spanAt
  have il := inn_len h1 w1
  have hp := Nat.mul_pos h1 w1
  rw [span_congr (m' := hiR (numAt ls) (numAt gs) ((innL h w).map (sideV y x))) (g' := hiR (numAt ls) (numAt gs) ((innL h w).map (sideV y x))) _ fun k hk => ⟨hi_num (by omega), hi_num (by omega)⟩]
  exact hi_reach _
end K17
namespace K17
/-! ### ends at a spot: the mathematics -/
theorem side_one {a : Ar} (o : a.ok) (i : a.inn = true) {y x : Nat} : liesIn (a.half false) y x = decide (sideV y x a = 1) := by
  rcases side_in o i (y := y) (x := x) with ⟨s1, s2, _⟩ | ⟨s1, s2, s3⟩ | ⟨_, s2, s3, s4⟩
  · rw [lies_iff.mpr s1, s2]
    rfl
  · rw [lies_not s3, s2]
    rfl
  · rw [lies_not s4, s2]
    rfl
theorem numAt_set {ns : List Int} {j k : Nat} {v : Int} (hj : j < ns.length) : numAt (ns.set j v) k = if j = k then v else numAt ns k := by
  unfold numAt
  rw [List.getD_eq_getElem?_getD, List.getD_eq_getElem?_getD, List.getElem?_set]
  by_cases c : j = k
  · rw [if_pos c, if_pos c, if_pos (by omega)]
    rfl
  · rw [if_neg c, if_neg c]
section
variable {h w : Nat} (h1 : 1 ≤ h) (w1 : 1 ≤ w) {ns gs : List Int} (ln : ns.length = h * w) (lg : gs.length = h * w) {y x : Nat}
include h1 w1 ln
theorem end_num : ∀ n, n ≤ 2 * (h * w) - 1 → ∀ k, k < h * w → numAt (endN h w ns gs y x n) k = if k ≤ kth h w n then lowR (numAt ns) (numAt gs) ((innL h w).map (sideV y x)) k else numAt ns k
  | 0, _, k, hk => by
    rw [kth_zero]
    show numAt ns k = _
    split
    · have : k = 0 := by omega
      subst this
      rfl
    · rfl
  | n + 1, l, k, hk => by
    have ih := end_num n (by omega) k hk
    obtain ⟨a, e⟩ : ∃ a, (areasL h w)[n]? = some a := ⟨_, List.getElem?_eq_getElem (by rw [areas_len h1 w1]; omega)⟩
    obtain ⟨oa, _⟩ := areas_ok h1 w1 (List.mem_of_getElem? e)
    have ks := kth_succ e
    rw [endN_succ e]
    by_cases i : a.inn = true
    · rw [if_pos i] at ks
      have ki := kth_inn e i
      have kl : kth h w n < h * w - 1 := by
        have := (List.getElem?_eq_some_iff.mp ki).1
        rwa [inn_len h1 w1] at this
      have gi : ((innL h w).map (sideV y x)).getD (kth h w n) 0 = sideV y x a := by
        rw [List.getD_eq_getElem?_getD, List.getElem?_map, ki]
        rfl
      rw [i, Bool.true_and, side_one oa i, ks]
      by_cases s : sideV y x a = 1
      · rw [decide_eq_true s, if_pos rfl, numAt_set (by rw [endN_len, ln]; omega)]
        by_cases c : kth h w n + 1 = k
        · rw [if_pos c, if_pos (by omega)]
          unfold lowR
          rw [if_neg (by omega), ← c, Nat.add_sub_cancel, gi, if_pos s]
          rfl
        · rw [if_neg c, ih]
          by_cases d : k ≤ kth h w n
          · rw [if_pos d, if_pos (by omega)]
          · rw [if_neg d, if_neg (by omega)]
      · rw [decide_eq_false s, if_neg Bool.false_ne_true, ih]
        by_cases d : k ≤ kth h w n
        · rw [if_pos d, if_pos (by omega)]
        · rw [if_neg d]
          by_cases c : k ≤ kth h w n + 1
          · rw [if_pos c]
            unfold lowR
            rw [if_neg (by omega), show k - 1 = kth h w n by omega, gi, if_neg s]
          · rw [if_neg c]
    · rw [if_neg i] at ks
      rw [show a.inn = false by simpa using i, Bool.false_and, if_neg Bool.false_ne_true, ks]
      exact ih
theorem end_low {k : Nat} (hk : k < h * w) : numAt (endL h w ns gs y x) k = lowR (numAt ns) (numAt gs) ((innL h w).map (sideV y x)) k := by
  unfold endL
  rw [end_num h1 w1 ln _ (Nat.le_refl _) k hk]
  have k1 := kth_all h1 w1
  rw [if_pos (by omega)]
omit h1 w1 in
theorem end_len : (endL h w ns gs y x).length = h * w := by
  unfold endL
  rw [endN_len, ln]
theorem end_span : (spanAt (endL h w ns gs y x) (endL h w ns gs y x) h w y x).1 = (spanAt ns gs h w y x).1 := by
  unfold spanAt
  have il := inn_len h1 w1
  have hp := Nat.mul_pos h1 w1
  rw [span_congr (m' := lowR (numAt ns) (numAt gs) ((innL h w).map (sideV y x))) (g' := lowR (numAt ns) (numAt gs) ((innL h w).map (sideV y x))) _ fun k hk => ⟨end_low h1 w1 ln (by omega), end_low h1 w1 ln (by omega)⟩]
  exact low_reach _
include lg in
theorem endR_is : endR (rowsOf ns h w) (rowsOf gs h w) w y x = rowsOf (downL h w (numAt (endL h w ns gs y x)) (numAt (endL h w ns gs y x))) h w := by
  have el : (endL h w ns gs y x).length = h * w := end_len ln
  unfold endR endG downG
  rw [flat_rows w1 ln, flat_rows w1 lg]
  simp only [rowsOf_len]
  rw [flat_rows w1 el]
/-- what stands at the spot -/
theorem end_cell (hy : y < h) (hx : x < w) : (downL h w (numAt (endL h w ns gs y x)) (numAt (endL h w ns gs y x))).getD (y * w + x) 0 = (spanAt ns gs h w y x).1 := by
  rw [down_lo h1 w1]
  unfold spansL
  rw [List.map_map, List.getD_eq_getElem?_getD, List.getElem?_map, dots_at hy hx]
  exact end_span h1 w1 ln
end
/-- between the bounds, either way -/
theorem low_between {m g : Nat → Int} {ss : List Int} {k : Nat} (h : m k ≤ g k) : m k ≤ lowR m g ss k ∧ lowR m g ss k ≤ g k := by
  unfold lowR
  split
  · next e => rw [e] at h ⊢; omega
  · split <;> omega
theorem low_between' {m g : Nat → Int} {ss : List Int} {k : Nat} (h : m k ≤ g k) : m k ≤ lowR g m ss k ∧ lowR g m ss k ≤ g k := by
  unfold lowR
  split
  · next e => rw [e] at h ⊢; omega
  · split <;> omega
theorem span_snd {ls gs : List Int} {h w y x : Nat} : (spanAt gs ls h w y x).1 = (spanAt ls gs h w y x).2 := by
  unfold spanAt
  rw [span_swap]
/-! what is above what -/
theorem leR_iff {a b : List Int} (l : a.length = b.length) : leR a b = true ↔ ∀ k, k < a.length → numAt a k ≤ numAt b k := by
  unfold leR
  induction a generalizing b with
  | nil => simp
  | cons v a ih =>
    cases b with
    | nil => cases l
    | cons u b =>
      have l : a.length = b.length := by simpa using l
      rw [List.zip_cons_cons, List.all_cons, Bool.and_eq_true, ih l, decide_eq_true_iff]
      constructor
      · rintro ⟨p, q⟩ k hk
        cases k with
        | zero => exact p
        | succ k => exact q k (by simpa using hk)
      · intro q
        exact ⟨q 0 (by simp), fun k hk => q (k + 1) (by simpa using hk)⟩
theorem leB_iff {nss mss : List (List Int)} (l : nss.length = mss.length) : leB nss mss = true ↔ ∀ k, k < nss.length → leR (nss.getD k []) (mss.getD k []) = true := by
  unfold leB
  induction nss generalizing mss with
  | nil => simp
  | cons v a ih =>
    cases mss with
    | nil => cases l
    | cons u b =>
      have l : a.length = b.length := by simpa using l
      rw [List.zip_cons_cons, List.all_cons, Bool.and_eq_true, ih l]
      constructor
      · rintro ⟨p, q⟩ k hk
        cases k with
        | zero => exact p
        | succ k => exact q k (by simpa using hk)
      · intro q
        exact ⟨q 0 (by simp), fun k hk => q (k + 1) (by simpa using hk)⟩
theorem rows_getD {ns : List Int} {h w y : Nat} (hy : y < h) : (rowsOf ns h w).getD y [] = (ns.drop (y * w)).take w := by
  unfold rowsOf
  rw [List.getD_eq_getElem?_getD, List.getElem?_map, List.getElem?_range hy]
  rfl
theorem row_num {ns : List Int} {y w x : Nat} (hx : x < w) : numAt ((ns.drop (y * w)).take w) x = numAt ns (y * w + x) := by
  unfold numAt
  rw [List.getD_eq_getElem?_getD, List.getD_eq_getElem?_getD, List.getElem?_take, if_pos hx, List.getElem?_drop]
theorem row_len {ns : List Int} {h y w : Nat} (l : ns.length = h * w) (hy : y < h) : ((ns.drop (y * w)).take w).length = w := by
  rw [List.length_take, List.length_drop, l]
  have : (y + 1) * w ≤ h * w := Nat.mul_le_mul_right w hy
  rw [Nat.succ_mul] at this
  omega
theorem leB_rows {ls gs : List Int} {h w : Nat} (w1 : 1 ≤ w) (ll : ls.length = h * w) (lg : gs.length = h * w) : leB (rowsOf ls h w) (rowsOf gs h w) = true ↔ ∀ k, k < h * w → numAt ls k ≤ numAt gs k := by
  rw [leB_iff (by rw [rowsOf_len, rowsOf_len]), rowsOf_len]
  constructor
  · intro q k hk
    obtain ⟨a, b, c⟩ := split_at w1 hk
    have := q _ a
    rw [rows_getD a, rows_getD a, leR_iff (by rw [row_len ll a, row_len lg a])] at this
    have := this (k % w) (by rw [row_len ll a]; exact b)
    rw [row_num b, row_num b, c] at this
    exact this
  · intro q y hy
    rw [rows_getD hy, rows_getD hy, leR_iff (by rw [row_len ll hy, row_len lg hy])]
    intro x hx
    rw [row_len ll hy] at hx
    rw [row_num hx, row_num hx]
    refine q _ ?_
    have : (y + 1) * w ≤ h * w := Nat.mul_le_mul_right w hy
    rw [Nat.succ_mul] at this
    omega
end K17
namespace K17
open PySem PySem.Spec PyProof.Rows L2 PySem.W LamX KA KW KU KL KT
open Evl (pss_cut tCut)
/-! ### all rows -/
inductive LL (H : Hp) : List V → List (List Int) → Prop
  | nil : LL H [] []
  | cons {p : Addr} {r : List Int} {vs : List V} {rs : List (List Int)} (e : H p = some (.lst (r.map V.int))) (t : LL H vs rs) : LL H (.ref p :: vs) (r :: rs)
theorem LL.same {H H' : Hp} {vs : List V} {rs : List (List Int)} (p : LL H vs rs) (s : Same H H') : LL H' vs rs := by
  induction p with
  | nil => exact .nil
  | cons e _ ih => exact .cons (s _ _ e) ih
theorem LL.put {H : Hp} {vs : List V} {rs : List (List Int)} {D : Addr} {o : HO} (p : LL H vs rs) (h : V.ref D ∉ vs) : LL (upd H D o) vs rs := by
  induction p with
  | nil => exact .nil
  | @cons q r vs rs e _ ih => exact .cons (by rw [upd_ne (fun z => h (by rw [z]; exact List.mem_cons_self))]; exact e) (ih fun z => h (List.mem_cons_of_mem _ z))
theorem LL.append {H : Hp} {vs us : List V} {rs ss : List (List Int)} (p : LL H vs rs) (q : LL H us ss) : LL H (vs ++ us) (rs ++ ss) := by
  induction p with
  | nil => exact q
  | cons e _ ih => exact .cons e ih
theorem LL.len {H : Hp} {vs : List V} {rs : List (List Int)} (p : LL H vs rs) : vs.length = rs.length := by
  induction p with
  | nil => rfl
  | cons _ _ ih => simp [ih]
theorem LL.get {H : Hp} {vs : List V} {rs : List (List Int)} (p : LL H vs rs) : ∀ {i : Nat} {v : V}, vs[i]? = some v → ∃ q r, v = .ref q ∧ rs[i]? = some r ∧ H q = some (.lst (r.map V.int)) := by
  induction p with
  | nil => intro i a h; simp at h
  | @cons q b vs as e r ih =>
    intro i v h
    cases i with
    | zero =>
      simp at h
      exact ⟨q, b, h.symm, rfl, e⟩
    | succ i => exact ih (by simpa using h)
theorem stepR_snoc {a b : Int} {rows : List (List Int)} {j : Nat} {r : List Int} (e : rows[j]? = some r) : stepR a b (rows.take (j + 1)) = stepR a b (rows.take j) ++ (List.range (b + 1 - a).toNat).map fun k => r ++ [a + ((k : Nat) : Int)] := by
  unfold stepR
  rw [List.take_add_one, e, List.flatMap_append]
  simp
theorem stepR_len {a b : Int} (rows : List (List Int)) : (stepR a b rows).length = rows.length * (b + 1 - a).toNat := by
  unfold stepR
  induction rows with
  | nil => simp
  | cons a L ih => rw [List.flatMap_cons, List.length_append, ih, List.length_map, List.length_range, List.length_cons, Nat.succ_mul, Nat.add_comm]
def spAllRows : Sp := fun vs H Q _ => ∃ (l g : Addr) (ls gs : List Int) (n : Nat), vs = [.ref l, .ref g] ∧ H l = some (.lst (ls.map V.int)) ∧ H g = some (.lst (gs.map V.int)) ∧ ls.length = n ∧ gs.length = n ∧ n ≤ 256 ∧
  (∀ k, k < n → numAt ls k ≤ numAt gs k) ∧ (∀ k, k < n → -(2 ^ 60) ≤ numAt ls k ∧ numAt gs k ≤ 2 ^ 60) ∧ prodR ls gs n ≤ 300 ∧ ∀ q us H', Same H H' → H' q = some (.lst us) → LL H' us (allR ls gs n) → Q (.ref q) H'
theorem int_at {ns : List Int} {n i : Nat} (e : ns.length = n) (li : i < n) : (ns.map V.int)[i]? = some (.int (numAt ns i)) := by
  rw [List.getElem?_map, List.getElem?_eq_getElem (by omega)]
  unfold numAt
  rw [List.getD_eq_getElem?_getD, List.getElem?_eq_getElem (by omega)]
  rfl
section
variable {P : Program} {w : World} {K : PySem.W.Frag} {mg : Str → Option Value} {base : Heap} (T : Top K mg)
theorem ok_all_rows : FnOk P w K mg base (L2.CX P w) 1 T._law_all_rows.a T._law_all_rows.d ["least", "most"] spAllRows := by
  refine T._law_all_rows.f.okX sc__law_all_rows (fun vs H Q E h => ?_) (fun cdv A outer s H vs Q E hr h => ?_)
  · obtain ⟨l, g, ls, gs, n, rfl, _⟩ := h
    rfl
  · obtain ⟨l, g, ls, gs, N, rfl, hl, hg, ll, lg, hN, le, bd, pr, k⟩ := h
    refine ⟨_, pss_cons (ps_set (i := 2) sc__law_all_rows.nd rfl (by first | exact .inl rfl | exact .inr rfl) (pe_lst (pa_cons (pe_lst pa_nil) pa_nil)))
      (pss_cut (ps_for (passes_of rfl) rfl (pi_zip (by rfl) T.b_zip (pa_cons (pv 0) (pa_cons (pv 1) pa_nil))) (pg_tup rfl (pgs_cons (pg_name (i := 3) sc__law_all_rows.nd rfl (by first | exact .inl rfl | exact .inr rfl)) (pgs_cons (pg_name (i := 4) sc__law_all_rows.nd rfl (by first | exact .inl rfl | exact .inr rfl)) pgs_nil)))
        (pss_cons (ps_set (i := 5) sc__law_all_rows.nd rfl (by first | exact .inl rfl | exact .inr rfl) (pe_lst pa_nil))
        (pss_cut (ps_for (passes_of rfl) rfl (pi_list (pv 2)) (pg_name (i := 6) sc__law_all_rows.nd rfl (by first | exact .inl rfl | exact .inr rfl))
          (pss_one (ps_set (i := 5) sc__law_all_rows.nd rfl (by first | exact .inl rfl | exact .inr rfl) (pe_op op_cat (pv 5) (pe_lc (own := [("each", 7)]) (g := gName 7) (tt := tYes) rfl sc__law_all_rows.nd (pi_range2 (by rfl) T.b_range (pa_cons (pv 3) (pa_cons (pe_op op_add (pv 4) pe_int) pa_nil)))
            (blkOk_by (own := [("each", 7)]) (N := ["least", "most", "found", "one", "two", "longer", "row", "each"]) (sc := defScope s__law_all_rows) (by decide +kernel)) (fun _ _ _ _ _ => pg_name (i := 7) sc__law_all_rows.nd rfl (Or.inl rfl)) (fun _ _ _ _ _ => pts_nil) (fun _ _ _ _ _ => pe_op op_cat (pv 6) (pe_lst (pa_cons (pv 7) pa_nil))))))))
        (pss_one (ps_set (i := 2) sc__law_all_rows.nd rfl (by first | exact .inl rfl | exact .inr rfl) (pv 5))))))
      (pss_one (ps_ret (pv 2)))), ?_⟩
    refine ⟨(by show 0 ≤ sizeLine; decide), fun e0 he0 => ⟨(by show 1 ≤ sizeLine; decide), fun f0 hf0 => ?_⟩⟩
    have t0 := Same.new (o := .lst []) he0
    have t1 := Same.new (o := .lst [V.ref e0]) hf0
    have ne0 : e0 ≠ f0 := fun z => by rw [z] at hf0; rw [upd_same] at hf0; cases hf0
    have l0 : LL (upd (upd H e0 (.lst [])) f0 (.lst [V.ref e0])) [V.ref e0] [[]] := .cons (by rw [upd_ne ne0, upd_same]; rfl) .nil
    have hf1 : (upd (upd H e0 (.lst [])) f0 (.lst [V.ref e0])) f0 = some (.lst [V.ref e0]) := upd_same
    have s1 := t0.trans t1
    generalize upd (upd H e0 (.lst [])) f0 (.lst [V.ref e0]) = H1 at l0 hf1 s1 ⊢
    clear t0 t1 he0 hf0 ne0
    have pm : ∀ i, i ≤ N → prodR ls gs i ≤ 300 := fun i hi => Nat.le_trans (prod_mono hi le) pr
    refine ⟨fun σ' H' => ∃ fa us v3 v4 v5 v6, σ' = [some (.ref l), some (.ref g), some (.ref fa), v3, v4, v5, v6, none] ∧ Same H H' ∧ H' fa = some (.lst us) ∧ LL H' us (allR ls gs N), ?_, ?_⟩
    · refine ⟨_, rfl, _, rfl, l, g, _, _, rfl, SqL.of (s1 _ _ hl), SqL.of (s1 _ _ hg), for_it (walk_zip (xs := ls.map V.int) (ys := gs.map V.int) (n := N) (by rw [List.length_map, List.length_map, ll, lg, Nat.min_self])) (fun n σ H' => ∃ fa us v3 v4 v5 v6, σ = [some (.ref l), some (.ref g), some (.ref fa), v3, v4, v5, v6, none] ∧ Same H H' ∧ H' fa = some (.lst us) ∧ LL H' us (allR ls gs n))
        ⟨f0, _, none, none, none, none, rfl, s1, hf1, l0⟩ (fun j σ H' _ q' => by
          obtain ⟨fa, us, v3, v4, v5, v6, _, sm, _, _⟩ := q'
          exact ⟨SqL.of (sm _ _ hl), SqL.of (sm _ _ hg)⟩) ?_ fun σ H' q' => q'⟩
      rintro n z σ H3 H2 hn ⟨fa, us, v3, v4, v5, v6, rfl, sm, hfa, ll3⟩ ⟨Tq, x1, x2, rfl, hT, rfl, ex1, ex2⟩
      dsimp only at ex1 ex2
      rw [int_at ll hn] at ex1
      rw [int_at lg hn] at ex2
      cases ex1
      cases ex2
      have tq := Same.new (o := .tup [V.int (numAt ls n), .int (numAt gs n)]) hT
      refine ⟨Tq, _, rfl, SqT.of upd_same, rfl, _, _, rfl, _, _, rfl, rfl, (by show 0 ≤ sizeLine; decide), fun g0 hg0 => ?_⟩
      have t2 := tq.trans (Same.new (o := .lst []) hg0)
      have hg1 : (upd (upd H3 Tq (.tup [V.int (numAt ls n), .int (numAt gs n)])) g0 (.lst [])) g0 = some (.lst []) := upd_same
      have sm4 := sm.trans t2
      have hfa4 := t2 _ _ hfa
      have ll4 := ll3.same t2
      generalize upd (upd H3 Tq (.tup [V.int (numAt ls n), .int (numAt gs n)])) g0 (.lst []) = H4 at hg1 sm4 hfa4 ll4 ⊢
      clear t2 tq hg0 hT
      have hle := le n hn
      obtain ⟨b1, b2⟩ := bd n hn
      have hb2 := hle
      have p1 : (allR ls gs n).length * (numAt gs n + 1 - numAt ls n).toNat ≤ 300 := by
        rw [allR_len]
        exact pm (n + 1) hn
      have p0 : 1 ≤ (allR ls gs n).length := by
        rw [allR_len]
        exact prod_mono (m := 0) (Nat.zero_le n) fun k hk => le k (by omega)
      have pf : (numAt gs n + 1 - numAt ls n).toNat ≤ 300 := Nat.le_trans (Nat.le_mul_of_pos_left _ p0) p1
      refine ⟨fun σ' H' => ∃ ga ws v6, σ' = [some (.ref l), some (.ref g), some (.ref fa), some (.int (numAt ls n)), some (.int (numAt gs n)), some (.ref ga), v6, none] ∧ Same H H' ∧ H' ga = some (.lst ws) ∧ LL H' ws (allR ls gs (n + 1)), ?_, ?_⟩
      · refine ⟨_, rfl, fa, rfl, ⟨_, SqL.of hfa4⟩, for_it walk_list (fun j σ H' => ∃ ga ws v6, σ = [some (.ref l), some (.ref g), some (.ref fa), some (.int (numAt ls n)), some (.int (numAt gs n)), some (.ref ga), v6, none] ∧ Same H4 H' ∧ H' ga = some (.lst ws) ∧ LL H' ws (stepR (numAt ls n) (numAt gs n) ((allR ls gs n).take j)))
          ⟨g0, [], _, rfl, Same.refl _, hg1, .nil⟩ (fun j σ H' _ q' => by
            obtain ⟨ga, ws, v6, _, s5, _, _⟩ := q'
            exact SqL.of (s5 _ _ hfa4)) ?_ fun σ H' q' => ?_⟩
        · rintro j x σ H6 H5 hj ⟨ga, ws, v6', rfl, s5, hga, ll5⟩ ⟨rfl, hx⟩
          obtain ⟨qr, r, rfl, hr', er⟩ := (ll4.same s5).get hx
          have rl : r.length = n := ((allR_mem n r).mp (List.mem_of_getElem? hr')).1
          have jl : j < (allR ls gs n).length := (List.getElem?_eq_some_iff.mp hr').1
          have tl : (stepR (numAt ls n) (numAt gs n) ((allR ls gs n).take j)).length ≤ 300 := by
            rw [stepR_len, List.length_take]
            exact Nat.le_trans (Nat.mul_le_mul_right _ (Nat.min_le_right _ _)) p1
          refine ⟨_, rfl, _, rfl, _, rfl, _, _, rfl, rfl, _, _, rfl, ⟨by omega, by omega, by omega, by omega⟩, fun D hD => lc_it walk_range (fun i H' => ∃ vs, Same H5 H' ∧ H' D = some (.lst vs) ∧ V.ref D ∉ vs ∧ LL H' vs ((List.range i).map fun k => r ++ [numAt ls n + ((k : Nat) : Int)])) ⟨[], Same.new hD, upd_same, List.not_mem_nil, .nil⟩ (fun _ _ _ _ => trivial) ?_ ?_⟩
          · rintro i x H8 H7 hi ⟨vs, a1, a2, a3, a4⟩ ⟨rfl, rfl⟩
            refine ⟨rfl, ?_⟩
            dsimp only [tYes]
            rw [if_pos rfl]
            refine ⟨_, rfl, _, rfl, (by show 1 ≤ sizeLine; decide), fun y hy => ?_⟩
            have ty := Same.new (o := .lst [V.int (numAt ls n + ((i : Nat) : Int))]) hy
            refine ⟨qr, y, _, _, rfl, rfl, ty _ _ (a1 _ _ er), upd_same, ?_, fun u hu => ?_⟩
            · rw [List.length_map, rl]
              exact Nat.le_trans (show n + 1 ≤ 300 by omega) (by decide)
            have tu := ty.trans (Same.new (o := .lst (r.map V.int ++ [V.int (numAt ls n + ((i : Nat) : Int))])) hu)
            have nu : u ≠ D := fun z => by
              rw [z, ty _ _ a2] at hu
              cases hu
            refine ⟨vs, tu _ _ a2, ?_, vs ++ [.ref u], Same.put (a1.trans tu) hD, upd_same, fun z => ?_, ?_⟩
            · rw [a4.len, List.length_map, List.length_range]
              exact Nat.lt_of_le_of_lt (show i ≤ 300 by omega) (by decide)
            · rcases List.mem_append.mp z with q | q
              · exact a3 q
              · exact nu (V.ref.inj (List.mem_singleton.mp q)).symm
            · rw [List.range_succ, List.map_append]
              refine LL.put ((a4.same tu).append (.cons ?_ .nil)) fun z => ?_
              · rw [upd_same, List.map_append]
                rfl
              · rcases List.mem_append.mp z with q | q
                · exact a3 q
                · exact nu (V.ref.inj (List.mem_singleton.mp q)).symm
          · rintro H7 ⟨vs, a1, a2, a3, a4⟩
            refine ⟨ga, D, ws, vs, rfl, rfl, a1 _ _ hga, a2, ?_, fun u hu => ?_⟩
            · rw [ll5.len, a4.len, List.length_map, List.length_range]
              exact Nat.le_trans (show _ ≤ 600 by omega) (by decide)
            · have tu := Same.new (o := .lst (ws ++ vs)) hu
              refine ⟨u, ws ++ vs, _, rfl, (s5.trans a1).trans tu, upd_same, ?_⟩
              rw [stepR_snoc hr']
              exact ((ll5.same a1).append a4).same tu
        · obtain ⟨ga, ws, v6', rfl, s5, hga, ll5⟩ := q'
          rw [List.take_of_length_le (by rw [ll4.len]; exact Nat.le_refl _)] at ll5
          exact ⟨ga, ws, _, rfl, sm4.trans s5, hga, ll5⟩
      · rintro σ' H5 ⟨ga, ws, v6', rfl, s5, hga, ll5⟩
        exact ⟨_, rfl, ga, ws, _, _, _, _, rfl, s5, hga, ll5⟩
    · rintro σ' H2 ⟨fa, us, v3, v4, v5, v6, rfl, s2, hfa, l2⟩
      exact ⟨_, rfl, k fa us H2 s2 hfa l2⟩
end
end K17
namespace K17
open PySem PySem.Spec PyProof.Rows L2 PySem.W LamX KA KW KU KL KT
open Evl (pss_cut tCut)
/-! ### whether they are the spans -/
theorem atI_eq {α : Type} {xs : List α} {i : Int} {j : Nat} {v : α} (h : i = (j : Int)) (g : xs[j]? = some v) : atI xs i = some v := by
  rw [h]
  exact atI_nat g
theorem plD_lay2 (nss : List (List Int)) : (plD nss).canLay0 = true ∧ (plD nss).depth ≤ 2 := by
  have one : ∀ ns : List Int, (rowD ns).canLay0 = true ∧ (rowD ns).depth ≤ 1 := fun ns => by
    obtain ⟨h1, h2⟩ := lay_is ns
    refine ⟨by simp [rowD, PyData.canLay0, h1], by simp [rowD, PyData.depth, h2]⟩
  have all : ∀ nss : List (List Int), PyData.canLayAll0 (nss.map rowD) = true ∧ PyData.depthAll (nss.map rowD) ≤ 1 := fun nss => by
    induction nss with
    | nil => exact ⟨rfl, Nat.zero_le _⟩
    | cons ns nss ih =>
      obtain ⟨a, b⟩ := one ns
      refine ⟨by simp [PyData.canLayAll0, a, ih.1], ?_⟩
      simp only [List.map_cons, PyData.depthAll]
      omega
  obtain ⟨h1, h2⟩ := all nss
  refine ⟨by simp [plD, PyData.canLay0, h1], ?_⟩
  simp only [plD, PyData.depth]
  omega
def prD (a b : List (List Int)) : PyData := .tuple [plD a, plD b]
theorem prD_lay (a b : List (List Int)) : SeqAt.shaped (prD a b) = true := by
  obtain ⟨a1, a2⟩ := plD_lay2 a
  obtain ⟨b1, b2⟩ := plD_lay2 b
  simp [SeqAt.shaped, prD, PyData.canLay0, PyData.canLayAll0, PyData.depth, PyData.depthAll, a1, b1]
  omega
theorem eqv_pr (a b : List (List Int)) : PyData.eqv (prD a b) (prD a b) = true := SeqAt.eqv_refl _ (SeqAt.canLay_of_shaped (prD_lay a b))
theorem dp_pr {K : PySem.W.Frag} {H : Hp} {r p1 p2 : Addr} {a b : List (List Int)} {w v : Nat} (e : H r = some (.tup [.ref p1, .ref p2])) (p : Pn H p1 a w) (q : Pn H p2 b v) : Dp K H (.ref r) (prD a b) := .tup (SqT.of e) (.cons p.dp (.cons q.dp .nil))
theorem spans_getD {ls gs : List Int} {h w y x : Nat} (hy : y < h) (hx : x < w) : (spansL ls gs h w)[y * w + x]? = some (spanAt ls gs h w y x) := by
  unfold spansL
  rw [List.getElem?_map, dots_at hy hx]
  rfl
theorem numAt_down {r : List Int} {h w y x : Nat} (h1 : 1 ≤ h) (w1 : 1 ≤ w) (hy : y < h) (hx : x < w) : numAt (downL h w (numAt r) (numAt r)) (y * w + x) = (spanAt r r h w y x).1 := by
  rw [down_lo h1 w1]
  unfold numAt
  rw [List.getD_eq_getElem?_getD, List.getElem?_map, spans_getD hy hx]
  rfl
def colL (ls gs : List Int) (h w i : Nat) : List Int := ((allR ls gs (h * w)).map fun r => downL h w (numAt r) (numAt r)).map fun u => numAt u i
section
variable {h w : Nat} (h1 : 1 ≤ h) (w1 : 1 ≤ w) {ls gs : List Int} (b : ∀ k, k < h * w → numAt ls k ≤ numAt gs k) {i : Nat} (hi : i < h * w) {m : Int} (hm : m ∈ colL ls gs h w i)
include h1 w1 b hi hm
theorem min_col (hall : ∀ y, y ∈ colL ls gs h w i → m ≤ y) : ∃ d, (spansL ls gs h w)[i]? = some d ∧ m = d.1 := by
  obtain ⟨c1, c2, c3⟩ := split_at w1 hi
  refine ⟨_, by rw [← c3]; exact spans_getD c1 c2, ?_⟩
  unfold colL at hm hall
  obtain ⟨u, hu, rfl⟩ := List.mem_map.mp hm
  obtain ⟨r, hr, rfl⟩ := List.mem_map.mp hu
  have a1 := (low_all h1 w1 b (y := i / w) (x := i % w) ((allR_mem _ r).mp hr)).1
  obtain ⟨q, hq, eq⟩ := low_some h1 w1 b (y := i / w) (x := i % w)
  have a2 := hall _ (List.mem_map.mpr ⟨_, List.mem_map.mpr ⟨q, (allR_mem _ q).mpr hq, rfl⟩, rfl⟩)
  rw [← c3] at a2 ⊢
  rw [numAt_down h1 w1 c1 c2] at a2 ⊢
  rw [numAt_down h1 w1 c1 c2, eq] at a2
  rw [c3] at *
  omega
theorem max_col (hall : ∀ y, y ∈ colL ls gs h w i → y ≤ m) : ∃ d, (spansL ls gs h w)[i]? = some d ∧ m = d.2 := by
  obtain ⟨c1, c2, c3⟩ := split_at w1 hi
  refine ⟨_, by rw [← c3]; exact spans_getD c1 c2, ?_⟩
  unfold colL at hm hall
  obtain ⟨u, hu, rfl⟩ := List.mem_map.mp hm
  obtain ⟨r, hr, rfl⟩ := List.mem_map.mp hu
  have a1 := (low_all h1 w1 b (y := i / w) (x := i % w) ((allR_mem _ r).mp hr)).2
  obtain ⟨q, hq, eq⟩ := hi_some h1 w1 b (y := i / w) (x := i % w)
  have a2 := hall _ (List.mem_map.mpr ⟨_, List.mem_map.mpr ⟨q, (allR_mem _ q).mpr hq, rfl⟩, rfl⟩)
  rw [← c3] at a2 ⊢
  rw [numAt_down h1 w1 c1 c2] at a2 ⊢
  rw [numAt_down h1 w1 c1 c2, eq] at a2
  rw [c3] at *
  omega
end
end K17
namespace K17
open PySem PySem.Spec PyProof.Rows L2 PySem.W LamX KA KW KU KL KT
open Evl (pss_cut tCut)
/-! ### the law: are spans -/
abbrev stS (v0 v1 v2 v3 v4 v5 v6 v7 v8 v9 v10 v11 v12 : Option V) : L2.St := [v0, v1, v2, v3, v4, v5, v6, v7, v8, v9, v10, v11, v12]
theorem col_read {K : PySem.W.Frag} {H : Hp} {D : Addr} {us : List V} {rs : List (List Int)} {n s : Nat} {v0 v1 v2 v3 v4 v5 v6 v7 v9 v10 : Option V} {Qd : V → Hp → Prop} (lD : H D = some (.lst us)) (il : LL H us rs) (hz : rs.length ≤ 300) (hr : ∀ r ∈ rs, r.length = n) (hs : s < n)
    (k : ∀ (E : Addr) (H' : Hp), Same H H' → H' E = some (.lst ((rs.map fun u => numAt u s).map V.int)) → Qd (.ref E) H') :
    tLc (iList K (tVar 8)) (gName 11) tYes (tOp (rIxL K) (tVar 11) (tVar 12)) [11] (stS v0 v1 v2 v3 v4 v5 v6 v7 (some (.ref D)) v9 v10 none (some (.int (0 + (s : Int))))) H Qd := by
  refine ⟨_, rfl, D, rfl, ⟨_, SqL.of lD⟩, fun E hE => lc_it walk_list (fun i H' => H' E = some (.lst (((rs.take i).map fun u => numAt u s).map V.int)) ∧ Same H H') ⟨upd_same, Same.new hE⟩ (fun _ H' _ q' => SqL.of (q'.2 _ _ lD)) ?_ ?_⟩
  · rintro i x H3 H2 hi ⟨a1, a2⟩ ⟨rfl, hx⟩
    obtain ⟨p, r, rfl, hr', er⟩ := il.get hx
    have rl := hr r (List.mem_of_getElem? hr')
    refine ⟨rfl, ?_⟩
    dsimp only [tYes]
    rw [if_pos rfl]
    refine ⟨_, rfl, _, rfl, p, _, _, _, rfl, rfl, SqL.of (a2 _ _ er), atI_eq (j := s) (by omega) (int_at rl hs), _, a1, ?_, ?_, Same.put a2 hE⟩
    · rw [List.length_map, List.length_map, List.length_take]
      exact Nat.lt_of_le_of_lt (show _ ≤ 300 by omega) (by decide)
    · rw [upd_same, List.take_add_one, hr']
      simp
  · rintro H2 ⟨a1, a2⟩
    rw [List.take_of_length_le (by rw [il.len]; exact Nat.le_refl _)] at a1
    exact k E H2 a2 a1
theorem cb_one {r : List V → Hp → VK → Prop} {te : TE} {σ : L2.St} {H : Hp} {Q : VK} (h : te σ H fun x H1 => r [x] H1 Q) : tCB r (tCons te tNil) σ H Q := h
def spAreSpans : Sp := fun vs H Q _ => ∃ (h w : Nat) (l g : Addr) (ls gs : List Int), vs = [.int h, .int w, .ref l, .ref g] ∧ H l = some (.lst (ls.map V.int)) ∧ H g = some (.lst (gs.map V.int)) ∧ ls.length = h * w ∧ gs.length = h * w ∧ 1 ≤ h ∧ h ≤ 16 ∧ 1 ≤ w ∧ w ≤ 16 ∧
  (∀ k, k < h * w → numAt ls k ≤ numAt gs k) ∧ (∀ k, k < h * w → -(2 ^ 60) ≤ numAt ls k ∧ numAt gs k ≤ 2 ^ 60) ∧ ∀ H', Same H H' → Q (.bl true) H'
/-- lift_spans at two planes of lists -/
theorem call_spans {K : PySem.W.Frag} {C1 C2 : Addr} {H : Hp} {Q : V → Hp → Prop} {E : XK} {pa pb : Addr} {ls gs : List Int} {h w : Nat} (h1 : 1 ≤ h) (w1 : 1 ≤ w) (ll : ls.length = h * w) (lg : gs.length = h * w) (le : ∀ k, k < h * w → numAt ls k ≤ numAt gs k)
    (pA : Pn H pa (rowsOf ls h w) w) (pB : Pn H pb (rowsOf gs h w) w)
    (k : ∀ r p1 p2 H', Same H H' → H' r = some (.tup [.ref p1, .ref p2]) → Pn H' p1 (rowsOf ((spansL ls gs h w).map (·.1)) h w) w → Pn H' p2 (rowsOf ((spansL ls gs h w).map (·.2)) h w) w → Q (.ref r) H') :
    spLiftSpans K C1 C2 [.ref pa, .ref pb] H Q E := by
  have lb : leB (rowsOf ls h w) (rowsOf gs h w) = true := (leB_rows w1 ll lg).mpr le
  refine ⟨.ref pa, .ref pb, _, _, rfl, pA.th, pB.th, fun z => by (rw [pA.ok] at z; cases z), fun a' n' w' ea pn' no => ?_, fun a' n' w' b' m' ea pn' eb qn' lm le' r p1 p2 H' s er q1 q2 => ?_⟩
  · cases ea
    obtain ⟨e1, e2⟩ := pA.uniq pn'
    rw [e1, e2] at no
    exact absurd ⟨pb, _, rfl, pB, by rw [rowsOf_len, rowsOf_len], lb⟩ no
  · cases ea
    cases eb
    obtain ⟨e1, e2⟩ := pA.uniq pn'
    obtain ⟨e3, _⟩ := pB.uniq qn'
    rw [e1, e2, e3, rowsOf_len] at q1 q2
    unfold downG at q1 q2
    rw [rowsOf_len, flat_rows w1 ll, flat_rows w1 lg] at q1 q2
    rw [down_lo h1 w1] at q1
    rw [down_hi h1 w1] at q2
    exact k r p1 p2 H' s er q1 q2
section
variable {P : Program} {w : World} {K : PySem.W.Frag} {mg : Str → Option Value} {base : Heap} (T : Top K mg)
theorem ok_are_spans : FnOk P w K mg base (L2.CX P w) 7 T._law_are_spans.a T._law_are_spans.d ["tall", "wide", "least", "most"] spAreSpans := by
  refine T._law_are_spans.f.okX sc__law_are_spans (fun vs H Q E h => ?_) (fun cdv A outer s H vs Q E hr h => ?_)
  · obtain ⟨h, w, l, g, ls, gs, rfl, _⟩ := h
    rfl
  · obtain ⟨h, wn, l, g, ls, gs, rfl, hl, hg, ll, lg, h1, h2, w1, w2, le, bd, k⟩ := h
    refine ⟨_, pss_cons (ps_set (i := 4) sc__law_are_spans.nd rfl (by first | exact .inl rfl | exact .inr rfl) (pe_call (ok_lift_spans T) (hr.mono (by decide)) (by rfl) T.lift_spans.m T.lift_spans.f.kp (bd_lift_spans T) .nil passE (pa_cons (pe_call (ok_llines T) (hr.mono (by decide)) (by rfl) T._law_lines_of.m T._law_lines_of.f.kp (bd__law_lines_of T) .nil passE (pa_cons (pv 2) (pa_cons (pv 1) pa_nil))) (pa_cons (pe_call (ok_llines T) (hr.mono (by decide)) (by rfl) T._law_lines_of.m T._law_lines_of.f.kp (bd__law_lines_of T) .nil passE (pa_cons (pv 3) (pa_cons (pv 1) pa_nil))) pa_nil))))
      (pss_cons (ps_if (pt_cmpR (op_neD hr.units) (pv 4) (pe_call (ok_all_spans T) (hr.mono (by decide)) (by rfl) T._law_all_spans.m T._law_all_spans.f.kp (bd__law_all_spans T) .nil passE (pa_cons (pv 0) (pa_cons (pv 1) (pa_cons (pv 2) (pa_cons (pv 3) pa_nil))))) (nomark _)) (pss_one (ps_ret pe_bl)) pss_nil)
      (pss_cons (ps_set (i := 5) sc__law_are_spans.nd rfl (by first | exact .inl rfl | exact .inr rfl) pe_int)
      (pss_cut (ps_for (passes_of rfl) rfl (pi_zip (by rfl) T.b_zip (pa_cons (pv 2) (pa_cons (pv 3) pa_nil))) (pg_tup rfl (pgs_cons (pg_name (i := 6) sc__law_are_spans.nd rfl (by first | exact .inl rfl | exact .inr rfl)) (pgs_cons (pg_name (i := 7) sc__law_are_spans.nd rfl (by first | exact .inl rfl | exact .inr rfl)) pgs_nil)))
        (pss_one (ps_set (i := 5) sc__law_are_spans.nd rfl (by first | exact .inl rfl | exact .inr rfl) (pe_callB (call_min2 rfl) (by rfl) T.b_min PyProof.Rows.boot_min (pa_cons pe_int (pa_cons (pe_op op_mul (pv 5) (pe_op op_add (pe_op op_sub (pv 7) (pv 6)) pe_int)) pa_nil))))))
      (pss_cons (ps_if (pt_cmpR op_gt (pv 5) pe_int (nomark _)) (pss_one (ps_ret pe_bl)) pss_nil)
      (pss_cons (ps_set (i := 8) sc__law_are_spans.nd rfl (.inr rfl) (pe_lc (own := [("row", 11)]) (g := gName 11) (tt := tYes) rfl sc__law_are_spans.nd (pi_list (pe_call (ok_all_rows T) (hr.mono (by decide)) (by rfl) T._law_all_rows.m T._law_all_rows.f.kp (bd__law_all_rows T) .nil passE (pa_cons (pv 2) (pa_cons (pv 3) pa_nil)))) (blkOk_by (own := [("row", 11)]) (N := ["tall", "wide", "least", "most", "found", "ways", "one", "two", "some", "down", "up", "row", "spot"]) (sc := defScope s__law_are_spans) (by decide +kernel))
        (fun _ _ _ _ _ => pg_name (i := 11) sc__law_are_spans.nd rfl (Or.inl rfl)) (fun _ _ _ _ _ => pts_nil) (fun _ _ _ _ _ => pe_call (ok_lunlift T) (hr.mono (by decide)) (by rfl) T._law_unlift.m T._law_unlift.f.kp (bd__law_unlift T) .nil passE (pa_cons (pv 0) (pa_cons (pv 1) (pa_cons (pv 11) pa_nil))))))
      (pss_cut (ps_setLc (i := 9) (own := [("spot", 12)]) (g := gName 12) (tt := tYes) rfl sc__law_are_spans.nd rfl rfl (sw_true rfl rfl rfl (by decide +kernel)) (pi_range1 (by rfl) T.b_range (pa_cons (pe_op op_mul (pv 0) (pv 1)) pa_nil)) (blkOk_by (own := [("spot", 12)]) (N := ["tall", "wide", "least", "most", "found", "ways", "one", "two", "some", "down", "up", "row", "spot"]) (sc := defScope s__law_are_spans) (by decide +kernel))
        (fun _ _ _ _ _ => pg_name (i := 12) sc__law_are_spans.nd rfl (Or.inr rfl)) (fun _ _ _ _ _ => pts_nil) (fun _ _ _ _ _ => pe_callB (show CallR _ _ (rMin K) from cr_min rfl) (by rfl) T.b_min PyProof.Rows.boot_min (pa_cons (show PE _ _ (tLc (iList K (tVar 8)) (gName 11) tYes (tOp (rIxL K) (tVar 11) (tVar 12)) [11]) from pe_lc (own := [("row", 11)]) (g := gName 11) (tt := tYes) rfl sc__law_are_spans.nd (pi_list (pv 8)) (blkOk_by (by kernel_rfl))
          (fun _ _ _ _ _ => pg_name (i := 11) sc__law_are_spans.nd rfl (Or.inl rfl)) (fun _ _ _ _ _ => pts_nil) (fun _ _ _ _ _ => show PE _ _ (tOp (rIxL K) (tVar 11) (tVar 12)) from pe_ix ix_list (pv 11) (pv 12) (fun _ _ => rfl))) pa_nil)))
      (pss_cut (ps_setLc (i := 10) (own := [("spot", 12)]) (g := gName 12) (tt := tYes) rfl sc__law_are_spans.nd rfl rfl (sw_true rfl rfl rfl (by decide +kernel)) (pi_range1 (by rfl) T.b_range (pa_cons (pe_op op_mul (pv 0) (pv 1)) pa_nil)) (blkOk_by (own := [("spot", 12)]) (N := ["tall", "wide", "least", "most", "found", "ways", "one", "two", "some", "down", "up", "row", "spot"]) (sc := defScope s__law_are_spans) (by decide +kernel))
        (fun _ _ _ _ _ => pg_name (i := 12) sc__law_are_spans.nd rfl (Or.inr rfl)) (fun _ _ _ _ _ => pts_nil) (fun _ _ _ _ _ => pe_callB (show CallR _ _ (rMax K) from cr_max rfl) (by rfl) T.b_max PyProof.Rows.boot_max (pa_cons (show PE _ _ (tLc (iList K (tVar 8)) (gName 11) tYes (tOp (rIxL K) (tVar 11) (tVar 12)) [11]) from pe_lc (own := [("row", 11)]) (g := gName 11) (tt := tYes) rfl sc__law_are_spans.nd (pi_list (pv 8)) (blkOk_by (by kernel_rfl))
          (fun _ _ _ _ _ => pg_name (i := 11) sc__law_are_spans.nd rfl (Or.inl rfl)) (fun _ _ _ _ _ => pts_nil) (fun _ _ _ _ _ => show PE _ _ (tOp (rIxL K) (tVar 11) (tVar 12)) from pe_ix ix_list (pv 11) (pv 12) (fun _ _ => rfl))) pa_nil)))
      (pss_one (ps_ret (pe_cmpR (op_eqD hr.units) (pv 4) (pe_tup (pa_cons (pe_call (ok_llines T) (hr.mono (by decide)) (by rfl) T._law_lines_of.m T._law_lines_of.f.kp (bd__law_lines_of T) .nil passE (pa_cons (pv 9) (pa_cons (pv 1) pa_nil))) (pa_cons (pe_call (ok_llines T) (hr.mono (by decide)) (by rfl) T._law_lines_of.m T._law_lines_of.f.kp (bd__law_lines_of T) .nil passE (pa_cons (pv 10) (pa_cons (pv 1) pa_nil))) pa_nil))) (nomark _))))))))))), ?_⟩
    have hw2 : h * wn ≤ 16 * 16 := Nat.mul_le_mul h2 w2
    have hp := Nat.mul_pos h1 w1
    refine ⟨_, rfl, _, rfl, l, ls, h, wn, rfl, hl, ll, h1, h2, w1, w2, fun pa H1 s1 _ pA => ⟨_, rfl, _, rfl, g, gs, h, wn, rfl, s1 _ _ hg, lg, h1, h2, w1, w2, fun pb H2 s2 _ pB => ?_⟩⟩
    show tNil _ H2 _
    unfold tNil
    show spLiftSpans K T.BadRectangle.C T.BadSpans.C [.ref pa, .ref pb] H2 _ _
    refine call_spans h1 w1 ll lg le (pA.keep s2) pB fun r p1 p2 H3 s3 er q1 q2 => ?_
    have s13 := (s1.trans s2).trans s3
    refine ⟨_, rfl, _, rfl, _, rfl, _, rfl, _, rfl, h, wn, l, g, ls, gs, rfl, s13 _ _ hl, s13 _ _ hg, ll, lg, h1, h2, w1, w2, fun r2 p3 p4 H4 s4 er2 q3 q4 => ?_⟩
    refine ⟨_, _, dp_pr (s4 _ _ er) (q1.keep s4) (q2.keep s4), dp_pr er2 q3 q4, prD_lay _ _, prD_lay _ _, _, rfl, ?_⟩
    rw [eqv_pr]
    refine iteF ?_
    have s04 := s13.trans s4
    have hl4 := s04 _ _ hl
    have hg4 := s04 _ _ hg
    have er := s4 _ _ er
    have q1 := q1.keep s4
    have q2 := q2.keep s4
    clear q3 q4 er2 s4 s13 s3 s2 s1 pA pB hl hg
    refine ⟨fun σ' H' => (∃ v6 v7, σ' = stS (some (.int (h : Nat))) (some (.int (wn : Nat))) (some (.ref l)) (some (.ref g)) (some (.ref r)) (some (.int ((waysR ls gs (h * wn) : Nat) : Int))) v6 v7 none none none none none) ∧ Same H4 H', ?_, ?_⟩
    · refine ⟨_, rfl, _, rfl, l, g, _, _, rfl, SqL.of hl4, SqL.of hg4, for_it (walk_zip (xs := ls.map V.int) (ys := gs.map V.int) (n := h * wn) (by rw [List.length_map, List.length_map, ll, lg, Nat.min_self])) (fun n σ H' => (∃ v6 v7, σ = stS (some (.int (h : Nat))) (some (.int (wn : Nat))) (some (.ref l)) (some (.ref g)) (some (.ref r)) (some (.int ((waysR ls gs n : Nat) : Int))) v6 v7 none none none none none) ∧ Same H4 H')
        ⟨⟨_, _, rfl⟩, Same.refl _⟩ (fun j σ H' _ q' => ⟨SqL.of (q'.2 _ _ hl4), SqL.of (q'.2 _ _ hg4)⟩) ?_ fun σ H' q' => q'⟩
      rintro n z σ H6 H5 hn ⟨⟨v6, v7, rfl⟩, s5⟩ ⟨Tq, x1, x2, rfl, hT, rfl, ex1, ex2⟩
      dsimp only at ex1 ex2
      rw [int_at ll hn] at ex1
      rw [int_at lg hn] at ex2
      cases ex1
      cases ex2
      have tq := Same.new (o := .tup [V.int (numAt ls n), .int (numAt gs n)]) hT
      obtain ⟨w0, w1', _⟩ := ways_prod (ls := ls) (gs := gs) n fun k hk => le k (by omega)
      have hle := le n hn
      refine ⟨Tq, _, rfl, SqT.of upd_same, rfl, _, _, rfl, _, _, rfl, rfl, ?_⟩
      refine ⟨_, rfl, _, rfl, _, rfl, _, _, rfl, rfl, _, _, rfl, rfl, _, _, rfl, rfl, .inl ⟨by omega, by omega⟩, _, _, rfl, ?_⟩
      have e : (if ((waysR ls gs n : Nat) : Int) * (numAt gs n - numAt ls n + 1) < 1000 then ((waysR ls gs n : Nat) : Int) * (numAt gs n - numAt ls n + 1) else 1000) = ((waysR ls gs (n + 1) : Nat) : Int) := by
        have g : waysR ls gs (n + 1) = if waysR ls gs n * (numAt gs n + 1 - numAt ls n).toNat < 1000 then waysR ls gs n * (numAt gs n + 1 - numAt ls n).toNat else 1000 := rfl
        have f : numAt gs n - numAt ls n + 1 = (((numAt gs n + 1 - numAt ls n).toNat : Nat) : Int) := by omega
        rw [g, f, ← Int.natCast_mul]
        generalize waysR ls gs n * (numAt gs n + 1 - numAt ls n).toNat = X
        by_cases c : X < 1000
        · rw [if_pos (by omega), if_pos c]
        · rw [if_neg (by omega), if_neg c]
          rfl
      exact ⟨⟨_, _, by rw [← e]; rfl⟩, s5.trans tq⟩
    rintro σ' H5 ⟨⟨v6, v7, rfl⟩, s5⟩
    obtain ⟨w0, w1', wp⟩ := ways_prod (ls := ls) (gs := gs) (h * wn) le
    refine ⟨_, rfl, _, _, rfl, rfl, _, rfl, ?_⟩
    by_cases c : 300 < waysR ls gs (h * wn)
    · rw [decide_eq_true (show (300 : Int) < ((waysR ls gs (h * wn) : Nat) : Int) by omega)]
      exact iteT (k H5 (s04.trans s5))
    rw [decide_eq_false (show ¬ (300 : Int) < ((waysR ls gs (h * wn) : Nat) : Int) by omega)]
    have pr : prodR ls gs (h * wn) ≤ 300 := by rw [wp (by omega)]; omega
    have s05 := s04.trans s5
    have al : (allR ls gs (h * wn)).length ≤ 300 := by rw [allR_len]; exact pr
    refine iteF ⟨_, rfl, _, rfl, l, g, ls, gs, h * wn, rfl, s5 _ _ hl4, s5 _ _ hg4, ll, lg, by omega, le, bd, pr, fun q us H6 s6 lq llq => ⟨q, rfl, ⟨_, SqL.of lq⟩, fun D hD => lc_it walk_list (fun i H' => ∃ ws, H' D = some (.lst ws) ∧ V.ref D ∉ ws ∧ LL H' ws (((allR ls gs (h * wn)).take i).map fun r => downL h wn (numAt r) (numAt r)) ∧ Same H6 H') ⟨[], upd_same, List.not_mem_nil, .nil, Same.new hD⟩ (fun _ H' _ q' => SqL.of (q'.elim fun ws q' => q'.2.2.2 _ _ lq)) ?_ ?_⟩⟩
    · rintro i x H8 H7 hi ⟨ws, a1, a2, a3, a4⟩ ⟨rfl, hx⟩
      obtain ⟨qr, rr, rfl, hr', er'⟩ := llq.get hx
      have rl : rr.length = h * wn := ((allR_mem _ rr).mp (List.mem_of_getElem? hr')).1
      refine ⟨rfl, ?_⟩
      dsimp only [tYes]
      rw [if_pos rfl]
      refine ⟨_, rfl, _, rfl, _, rfl, qr, rr, h, wn, rfl, a4 _ _ er', rl, h1, h2, w1, w2, fun u H9 s9 nu eu => ?_⟩
      have ne : u ≠ D := fun z => by
        rw [z, a1] at nu
        cases nu
      have nm : V.ref D ∉ ws ++ [.ref u] := fun z => by
        rcases List.mem_append.mp z with y | y
        · exact a2 y
        · exact ne (V.ref.inj (List.mem_singleton.mp y)).symm
      refine ⟨ws, s9 _ _ a1, ?_, ws ++ [.ref u], upd_same, nm, ?_, Same.put (a4.trans s9) hD⟩
      · rw [a3.len, List.length_map, List.length_take]
        exact Nat.lt_of_le_of_lt (show _ ≤ 300 by omega) (by decide)
      · rw [List.take_add_one, hr', List.map_append]
        exact LL.put ((a3.same s9).append (.cons eu .nil)) nm
    rintro H7 ⟨ws, lD, nD, llD, s7⟩
    rw [List.take_of_length_le (by rw [llq.len]; exact Nat.le_refl _)] at llD
    have s57 := (s5.trans s6).trans s7
    have er7 := s57 _ _ er
    have q1 := q1.keep s57
    have q2 := q2.keep s57
    have s07 := s04.trans s57
    generalize hrs : (allR ls gs (h * wn)).map (fun r => downL h wn (numAt r) (numAt r)) = rs at llD
    have rz : rs.length ≤ 300 := by rw [← hrs, List.length_map]; exact al
    have rw' : ∀ r ∈ rs, r.length = h * wn := fun r hr => by
      rw [← hrs] at hr
      obtain ⟨r', _, rfl⟩ := List.mem_map.mp hr
      exact downL_len h1 w1
    have rp : 0 < rs.length := by
      obtain ⟨r0, h0, _⟩ := low_some h1 w1 le (y := 0) (x := 0)
      rw [← hrs, List.length_map]
      exact List.length_pos_of_mem ((allR_mem _ r0).mpr h0)
    have colE : ∀ i, rs.map (fun u => numAt u i) = colL ls gs h wn i := fun i => by rw [← hrs]; rfl
    clear s04 s5 s6 s7 s57 er llq lq hD w0 w1' wp
    -- down
    refine ⟨fun σ' H' => ∃ E, σ' = stS (some (.int (h : Nat))) (some (.int (wn : Nat))) (some (.ref l)) (some (.ref g)) (some (.ref r)) (some (.int ((waysR ls gs (h * wn) : Nat) : Int))) v6 v7 (some (.ref D)) (some (.ref E)) none none none ∧ Same H7 H' ∧ H' E = some (.lst (((spansL ls gs h wn).map (·.1)).map V.int)), ?_, ?_⟩
    · refine ⟨_, rfl, _, rfl, _, _, rfl, rfl, .inl ⟨by omega, by omega⟩, ?_⟩
      dsimp only
      rw [show ((h : Nat) : Int) * ((wn : Nat) : Int) = ((h * wn : Nat) : Int) by rw [Int.natCast_mul]]
      refine ⟨_, rfl, by omega, by omega, fun E hE => lc_it walk_range (fun i H' => H' E = some (.lst ((((spansL ls gs h wn).take i).map (·.1)).map V.int)) ∧ Same H7 H') ⟨upd_same, Same.new hE⟩ (fun _ _ _ _ => trivial) ?_ ?_⟩
      · rintro i x H9 H8 hi ⟨a1, a2⟩ ⟨rfl, rfl⟩
        rw [Int.toNat_natCast] at hi
        refine ⟨rfl, ?_⟩
        dsimp only [tYes]
        rw [if_pos rfl]
        refine cb_one (col_read (n := h * wn) (s := i) (a2 _ _ lD) (llD.same a2) rz rw' hi fun F H10 s10 lF => ?_)
        refine ⟨F, _, rfl, SqL.of lF, by rw [List.length_map]; exact rp, fun m hm hall => ?_⟩
        rw [colE] at hm hall
        obtain ⟨d, hd, rfl⟩ := min_col h1 w1 le hi hm hall
        refine ⟨_, s10 _ _ a1, ?_, ?_, Same.put (a2.trans s10) hE⟩
        · rw [List.length_map, List.length_map, List.length_take, spans_len]
          exact Nat.lt_of_le_of_lt (show _ ≤ 300 by omega) (by decide)
        · rw [upd_same, List.take_add_one, hd]
          simp
      · rintro H8 ⟨a1, a2⟩
        rw [List.take_of_length_le (by rw [spans_len, Int.toNat_natCast]; exact Nat.le_refl _)] at a1
        exact ⟨E, rfl, a2, a1⟩
    rintro σ' H8 ⟨F1, rfl, s8, lF1⟩
    refine ⟨fun σ' H' => ∃ E, σ' = stS (some (.int (h : Nat))) (some (.int (wn : Nat))) (some (.ref l)) (some (.ref g)) (some (.ref r)) (some (.int ((waysR ls gs (h * wn) : Nat) : Int))) v6 v7 (some (.ref D)) (some (.ref F1)) (some (.ref E)) none none ∧ Same H8 H' ∧ H' E = some (.lst (((spansL ls gs h wn).map (·.2)).map V.int)), ?_, ?_⟩
    · refine ⟨_, rfl, _, rfl, _, _, rfl, rfl, .inl ⟨by omega, by omega⟩, ?_⟩
      dsimp only
      rw [show ((h : Nat) : Int) * ((wn : Nat) : Int) = ((h * wn : Nat) : Int) by rw [Int.natCast_mul]]
      refine ⟨_, rfl, by omega, by omega, fun E hE => lc_it walk_range (fun i H' => H' E = some (.lst ((((spansL ls gs h wn).take i).map (·.2)).map V.int)) ∧ Same H8 H') ⟨upd_same, Same.new hE⟩ (fun _ _ _ _ => trivial) ?_ ?_⟩
      · rintro i x H10 H9 hi ⟨a1, a2⟩ ⟨rfl, rfl⟩
        rw [Int.toNat_natCast] at hi
        refine ⟨rfl, ?_⟩
        dsimp only [tYes]
        rw [if_pos rfl]
        have s79 := s8.trans a2
        refine cb_one (col_read (n := h * wn) (s := i) (s79 _ _ lD) (llD.same s79) rz rw' hi fun F H11 s11 lF => ?_)
        refine ⟨F, _, rfl, SqL.of lF, by rw [List.length_map]; exact rp, fun m hm hall => ?_⟩
        rw [colE] at hm hall
        obtain ⟨d, hd, rfl⟩ := max_col h1 w1 le hi hm hall
        refine ⟨_, s11 _ _ a1, ?_, ?_, Same.put (a2.trans s11) hE⟩
        · rw [List.length_map, List.length_map, List.length_take, spans_len]
          exact Nat.lt_of_le_of_lt (show _ ≤ 300 by omega) (by decide)
        · rw [upd_same, List.take_add_one, hd]
          simp
      · rintro H9 ⟨a1, a2⟩
        rw [List.take_of_length_le (by rw [spans_len, Int.toNat_natCast]; exact Nat.le_refl _)] at a1
        exact ⟨E, rfl, a2, a1⟩
    rintro σ' H9 ⟨F2, rfl, s9, lF2⟩
    refine ⟨_, rfl, _, rfl, _, rfl, F1, _, h, wn, rfl, s9 _ _ lF1, by rw [List.length_map, spans_len], h1, h2, w1, w2, fun t1 H10 s10 _ u1 => ?_⟩
    refine ⟨_, rfl, _, rfl, F2, _, h, wn, rfl, s10 _ _ lF2, by rw [List.length_map, spans_len], h1, h2, w1, w2, fun t2 H11 s11 _ u2 => ⟨(by show 2 ≤ sizeLine; decide), fun z hz => ?_⟩⟩
    have tz := Same.new (o := .tup [V.ref t1, .ref t2]) hz
    have s7z := (((s8.trans s9).trans s10).trans s11).trans tz
    refine ⟨_, _, dp_pr (s7z _ _ er7) (q1.keep s7z) (q2.keep s7z), dp_pr upd_same ((u1.keep s11).keep tz) (u2.keep tz), prD_lay _ _, prD_lay _ _, ?_⟩
    rw [eqv_pr]
    exact k _ (s07.trans s7z)
end
end K17
namespace KZ3
open PySem PySem.Spec PyProof.Rows L2
open Sem (wp)
/-! ### zip of three lists -/
theorem typeCall3 (a b c : Value) : checkTypeCall "zip" ⟨[a, b, c], []⟩ = pure () := by kernel_rfl
theorem newCall3 (a b c : Value) : checkBuiltinCall "zip.__new__" ⟨[.type "zip", a, b, c], []⟩ = pure () := by kernel_rfl
theorem args_init4 (a b c d : Value) : argsOk "object.__init__" ⟨[a, b, c, d], []⟩ := by
  unfold argsOk; rw [signature?_of (id := "object.__init__") (n := ['_', '_', 't', 'i', 'n', 'i', '_', '_']) (o := ['t', 'c', 'e', 'j', 'b', 'o']) (by kernel_rfl) F.owner_object]; kernel_rfl
abbrev IsTrip (h : Heap) (T : Addr) (a b c : Value) : Prop := h.get? T = some { cls := .type "tuple", data := .seq #[a, b, c] }
structure Ap3 (z TI TO i1 i2 i3 l1 l2 l3 : Nat) : Prop where
  o1 : l1 < i1
  o2 : l2 < i1
  o3 : l3 < i1
  o4 : i1 < i2
  o5 : i2 < i3
  o6 : i3 < TI
  o7 : TI < TO
  o8 : TO < z
theorem neA {a b : Nat} (h : ¬ a = b) : (show Addr from a) ≠ (show Addr from b) := h
section
variable {prog : Program} {w : World} {A : Around} {E : Value → Shared → Prop} {s : Shared}
theorem wpAny_updateSeq_trip {T : Addr} {a b c x : Value} {k : Nat} {Q : Unit → Shared → Prop} (hT : IsTrip s.heap T a b c)
    (h : ∀ h', h'.get? T = some { cls := .type "tuple", data := .seq ((#[a, b, c] : Array Value).setIfInBounds k x) } → Heap.SameBut T s.heap h' → Q () { s with heap := h' }) :
    wpAny (model prog w) A (updateSeq T (·.setIfInBounds k x)) Q E s := by
  refine wpAny_updateSeq hT rfl (h _ ?_ (Heap.SameBut.update ..))
  rw [Heap.get?_update_self _ hT rfl]
  simp [Obj.mapSeq]
theorem zip3_next_item {z TI TO i1 i2 i3 l1 l2 l3 : Addr} {k1 k2 k3 : Nat} {xs ys zs : Array Value} {x y u a b c : Value} {Q : Value → Shared → Prop} (D : Ap3 z TI TO i1 i2 i3 l1 l2 l3)
    (hz : IsZip s.heap z TI TO .none) (hTI : IsTrip s.heap TI (.ref i1) (.ref i2) (.ref i3)) (hTO : IsTrip s.heap TO a b c)
    (h1 : s.heap.IsListIter i1 l1 k1) (h2 : s.heap.IsListIter i2 l2 k2) (h3 : s.heap.IsListIter i3 l3 k3) (hl1 : s.heap.IsList l1 xs) (hl2 : s.heap.IsList l2 ys) (hl3 : s.heap.IsList l3 zs) (hx : xs[k1]? = some x) (hy : ys[k2]? = some y) (hu : zs[k3]? = some u)
    (hQ : ∀ h', IsZip h' z TI TO (rawInt s.heap.objs.size) → IsTrip h' TO x y u → h'.IsListIter i1 l1 (k1 + 1) → h'.IsListIter i2 l2 (k2 + 1) → h'.IsListIter i3 l3 (k3 + 1) → IsTrip h' s.heap.objs.size x y u → h'.objs.size = s.heap.objs.size + 1 →
      (∀ c o, c ≠ z → c ≠ TO → c ≠ i1 → c ≠ i2 → c ≠ i3 → s.heap.get? c = some o → h'.get? c = some o) → Q (.ref s.heap.objs.size) { s with heap := h' }) :
    wpAny (model prog w) A (Builtin.«zip.__next__» ⟨[.ref z], []⟩) (fun fin s' => ∃ v, fin = .done (.ret v) ∧ Q v s') E s := by
  obtain ⟨o1, o2, o3, o4, o5, o6, o7, o8⟩ := D
  have n1 : i1 ≠ z := neA (by omega)
  have n2 : i2 ≠ z := neA (by omega)
  have n3 : i3 ≠ z := neA (by omega)
  have n4 : TO ≠ z := neA (by omega)
  have n5 : TO ≠ i1 := neA (by omega)
  have n6 : TO ≠ i2 := neA (by omega)
  have n7 : TO ≠ i3 := neA (by omega)
  have n8 : i1 ≠ i2 := neA (by omega)
  have n9 : i1 ≠ i3 := neA (by omega)
  have n10 : i2 ≠ i3 := neA (by omega)
  have m1 : l1 ≠ z := neA (by omega)
  have m2 : l2 ≠ z := neA (by omega)
  have m3 : l2 ≠ i1 := neA (by omega)
  have m4 : l2 ≠ TO := neA (by omega)
  have m5 : l3 ≠ z := neA (by omega)
  have m6 : l3 ≠ i1 := neA (by omega)
  have m7 : l3 ≠ TO := neA (by omega)
  have m8 : l3 ≠ i2 := neA (by omega)
  show wpAny _ _ (field (.ref z) 2 >>= _) _ _ _
  refine wpAny_bind (wpAny_field hz rfl (x := .bool false) rfl ?_)
  show wpAny _ _ (field (.ref z) 3 >>= _) _ _ _
  refine wpAny_bind (wpAny_field hz rfl (x := .ref TI) rfl ?_)
  refine wpAny_bind (wpAny_seqItems hTI rfl ?_)
  show wpAny _ _ (Builtin.SmallTypes.ownedTupleIsFree (.ref z) >>= _) _ _ _
  refine wpAny_bind ?_
  unfold Builtin.SmallTypes.ownedTupleIsFree
  refine wpAny_bind (wpAny_field hz rfl (x := .none) rfl (wpAny_pure ?_))
  simp only [if_true]
  refine wpAny_bind (wpAny_rule ?_)
  refine wpAny_bind (wpAny_field hz rfl (x := .ref TO) rfl ?_)
  refine wpAny_bind (wpAny_setField_rec hz (by simp) fun h₁ hz₁ hs₁ => ?_)
  replace hz₁ : IsZip h₁ z TI TO .ellipsis := hz₁
  refine wpAny_bind ?_
  simp only [List.zipIdx_cons, List.zipIdx_nil, List.forIn_cons, List.forIn_nil]
  refine wpAny_bind (wpAny_bind (wpAny_onRaise ?_))
  show wpAny _ _ (Builtin.SmallTypes.nextOf (.ref i1) >>= _) _ _ _
  refine wpAny_bind (wpAny_nextOf_list_item (h1.extBut hs₁.extBut n1) (hl1.extBut hs₁.extBut m1) hx fun h₂ h1₂ hs₂ => wpAny_pure ?_)
  have hTO₂ : IsTrip h₂ TO a b c := hs₂.extBut _ _ n5 (hs₁.extBut _ _ n4 hTO)
  refine wpAny_bind (wpAny_seqItems hTO₂ rfl ?_)
  refine wpAny_bind (wpAny_updateSeq_trip hTO₂ fun h₃ hTO₃ hs₃ => ?_)
  replace hTO₃ : IsTrip h₃ TO x b c := hTO₃
  refine wpAny_bind (wpAny_letGo (wpAny_pure ?_))
  refine wpAny_bind (wpAny_bind (wpAny_onRaise ?_))
  show wpAny _ _ (Builtin.SmallTypes.nextOf (.ref i2) >>= _) _ _ _
  refine wpAny_bind (wpAny_nextOf_list_item (((h2.extBut hs₁.extBut n2).extBut hs₂.extBut n8.symm).extBut hs₃.extBut n6.symm)
    (((hl2.extBut hs₁.extBut m2).extBut hs₂.extBut m3).extBut hs₃.extBut m4) hy fun h₄ h2₄ hs₄ => wpAny_pure ?_)
  have hTO₄ : IsTrip h₄ TO x b c := hs₄.extBut _ _ n6 hTO₃
  refine wpAny_bind (wpAny_seqItems hTO₄ rfl ?_)
  refine wpAny_bind (wpAny_updateSeq_trip hTO₄ fun h₅ hTO₅ hs₅ => ?_)
  replace hTO₅ : IsTrip h₅ TO x y c := hTO₅
  refine wpAny_bind (wpAny_letGo (wpAny_pure ?_))
  refine wpAny_bind (wpAny_bind (wpAny_onRaise ?_))
  show wpAny _ _ (Builtin.SmallTypes.nextOf (.ref i3) >>= _) _ _ _
  refine wpAny_bind (wpAny_nextOf_list_item (((((h3.extBut hs₁.extBut n3).extBut hs₂.extBut n9.symm).extBut hs₃.extBut n7.symm).extBut hs₄.extBut n10.symm).extBut hs₅.extBut n7.symm)
    (((((hl3.extBut hs₁.extBut m5).extBut hs₂.extBut m6).extBut hs₃.extBut m7).extBut hs₄.extBut m8).extBut hs₅.extBut m7) hu fun h₆ h3₆ hs₆ => wpAny_pure ?_)
  have hTO₆ : IsTrip h₆ TO x y c := hs₆.extBut _ _ n7 hTO₅
  refine wpAny_bind (wpAny_seqItems hTO₆ rfl ?_)
  refine wpAny_bind (wpAny_updateSeq_trip hTO₆ fun h₇ hTO₇ hs₇ => ?_)
  replace hTO₇ : IsTrip h₇ TO x y u := hTO₇
  refine wpAny_bind (wpAny_letGo (wpAny_pure (wpAny_pure ?_)))
  refine wpAny_bind (wpAny_seqItems hTO₇ rfl ?_)
  refine wpAny_bind (wpAny_newTuple ?_)
  have hsz : h₇.objs.size = s.heap.objs.size := by rw [hs₇.1, hs₆.1, hs₅.1, hs₄.1, hs₃.1, hs₂.1, hs₁.1]
  have hk₇ : ∀ c o, c ≠ z → c ≠ TO → c ≠ i1 → c ≠ i2 → c ≠ i3 → s.heap.get? c = some o → h₇.get? c = some o := fun c o c1 c2 c3 c4 c5 e =>
    hs₇.extBut _ _ c2 (hs₆.extBut _ _ c5 (hs₅.extBut _ _ c2 (hs₄.extBut _ _ c4 (hs₃.extBut _ _ c2 (hs₂.extBut _ _ c3 (hs₁.extBut _ _ c1 e))))))
  have hz₇ : IsZip h₇ z TI TO .ellipsis := hs₇.extBut _ _ n4.symm (hs₆.extBut _ _ n3.symm (hs₅.extBut _ _ n4.symm (hs₄.extBut _ _ n2.symm (hs₃.extBut _ _ n4.symm (hs₂.extBut _ _ n1.symm hz₁)))))
  have h1₇ : h₇.IsListIter i1 l1 (k1 + 1) := ((((h1₂.extBut hs₃.extBut n5.symm).extBut hs₄.extBut n8).extBut hs₅.extBut n5.symm).extBut hs₆.extBut n9).extBut hs₇.extBut n5.symm
  have h2₇ : h₇.IsListIter i2 l2 (k2 + 1) := ((h2₄.extBut hs₅.extBut n6.symm).extBut hs₆.extBut n10).extBut hs₇.extBut n6.symm
  have h3₇ : h₇.IsListIter i3 l3 (k3 + 1) := h3₆.extBut hs₇.extBut n7.symm
  have hzlt : z < h₇.objs.size := Heap.lt_size hz₇
  show wpAny _ _ (Builtin.SmallTypes.ownedTupleHandOut (.ref z) (.ref h₇.objs.size) >>= _) _ _ _
  refine wpAny_bind ?_
  unfold Builtin.SmallTypes.ownedTupleHandOut
  have hz₈ : IsZip (h₇.push { cls := .type "tuple", data := .seq #[x, y, u] }) z TI TO .ellipsis := Heap.get?_push_of_some _ hz₇
  refine wpAny_bind (wpAny_setField_rec hz₈ (by simp) fun h₉ hz₉ hs₉ => ?_)
  replace hz₉ : IsZip h₉ z TI TO (rawInt h₇.objs.size) := hz₉
  refine wpAny_setField_rec hz₉ (by simp) fun h₁₀ hz₁₀ hs₁₀ => ?_
  replace hz₁₀ : IsZip h₁₀ z TI TO (rawInt h₇.objs.size) := hz₁₀
  have up : ∀ c o, c ≠ z → h₇.get? c = some o → h₁₀.get? c = some o := fun c o c1 e => hs₁₀.extBut _ _ c1 (hs₉.extBut _ _ c1 (Heap.get?_push_of_some _ e))
  have hT : IsTrip h₁₀ h₇.objs.size x y u := hs₁₀.extBut _ _ (Nat.ne_of_gt hzlt) (hs₉.extBut _ _ (Nat.ne_of_gt hzlt) (Heap.get?_push_size _ rfl))
  have hz8 : h₁₀.objs.size = h₇.objs.size + 1 := by rw [hs₁₀.1, hs₉.1, Heap.size_push]
  rw [hsz] at hz₁₀ hT hz8
  refine wpAny_pure ⟨_, rfl, ?_⟩
  show Q (.ref h₇.objs.size) _
  rw [hsz]
  exact hQ h₁₀ hz₁₀ (up _ _ n4 hTO₇) (h1₇.at fun o e => up _ o n1 e) (h2₇.at fun o e => up _ o n2 e) (h3₇.at fun o e => up _ o n3 e) hT hz8 fun c o c1 c2 c3 c4 c5 e => up c o c1 (hk₇ c o c1 c2 c3 c4 c5 e)
theorem zip3_next_end {z TI TO i1 i2 i3 l1 l2 l3 : Addr} {k1 k2 k3 : Nat} {xs ys zs : Array Value} {a b c : Value} {Q : Fin → Shared → Prop} (hh : A.handled = none) (D : Ap3 z TI TO i1 i2 i3 l1 l2 l3)
    (hz : IsZip s.heap z TI TO .none) (hTI : IsTrip s.heap TI (.ref i1) (.ref i2) (.ref i3)) (hTO : IsTrip s.heap TO a b c)
    (h1 : s.heap.IsListIter i1 l1 k1) (h2 : s.heap.IsListIter i2 l2 k2) (h3 : s.heap.IsListIter i3 l3 k3) (hl1 : s.heap.IsList l1 xs) (hl2 : s.heap.IsList l2 ys) (hl3 : s.heap.IsList l3 zs) (hx : xs[k1]? = none)
    (hE : ∀ h' e, (∀ c o, c ≠ z → c ≠ TO → c ≠ i1 → c ≠ i2 → c ≠ i3 → s.heap.get? c = some o → h'.get? c = some o) → (∃ o, h'.get? e = some o ∧ o.cls = .type "StopIteration") → E (.ref e) { s with heap := h' }) :
    wpAny (model prog w) A (Builtin.«zip.__next__» ⟨[.ref z], []⟩) Q E s := by
  obtain ⟨o1, o2, o3, o4, o5, o6, o7, o8⟩ := D
  have n1 : i1 ≠ z := neA (by omega)
  have m1 : l1 ≠ z := neA (by omega)
  show wpAny _ _ (field (.ref z) 2 >>= _) _ _ _
  refine wpAny_bind (wpAny_field hz rfl (x := .bool false) rfl ?_)
  show wpAny _ _ (field (.ref z) 3 >>= _) _ _ _
  refine wpAny_bind (wpAny_field hz rfl (x := .ref TI) rfl ?_)
  refine wpAny_bind (wpAny_seqItems hTI rfl ?_)
  show wpAny _ _ (Builtin.SmallTypes.ownedTupleIsFree (.ref z) >>= _) _ _ _
  refine wpAny_bind ?_
  unfold Builtin.SmallTypes.ownedTupleIsFree
  refine wpAny_bind (wpAny_field hz rfl (x := .none) rfl (wpAny_pure ?_))
  simp only [if_true]
  refine wpAny_bind (wpAny_rule ?_)
  refine wpAny_bind (wpAny_field hz rfl (x := .ref TO) rfl ?_)
  refine wpAny_bind (wpAny_setField_rec hz (by simp) fun h₁ hz₁ hs₁ => ?_)
  replace hz₁ : IsZip h₁ z TI TO .ellipsis := hz₁
  refine wpAny_bind ?_
  simp only [List.zipIdx_cons, List.zipIdx_nil, List.forIn_cons, List.forIn_nil]
  refine wpAny_bind (wpAny_bind (wpAny_onRaise ?_))
  show wpAny _ _ (Builtin.SmallTypes.nextOf (.ref i1) >>= _) _ _ _
  refine wpAny_bind (wpAny_nextOf_list_end hh (h1.extBut hs₁.extBut n1) (hl1.extBut hs₁.extBut m1) hx fun h₂ e hs₂ he => ?_)
  obtain ⟨oe, hoe, hce⟩ := he
  have hz₂ : IsZip h₂ z TI TO .ellipsis := hs₂ _ _ n1.symm hz₁
  have hez : e ≠ z := fun x => by subst x; rw [hz₂] at hoe; cases hoe; simp at hce
  refine wpAny_setField_rec hz₂ (by simp) fun h₃ _ hs₃ => hE h₃ e (fun c o c1 _ c3 _ _ x => hs₃.extBut _ _ c1 (hs₂ _ _ c3 (hs₁.extBut _ _ c1 x))) ⟨oe, hs₃.extBut _ _ hez hoe, hce⟩
theorem pyNext_zip3_item {z TI TO i1 i2 i3 l1 l2 l3 : Addr} {k1 k2 k3 : Nat} {xs ys zs : Array Value} {x y u a b c : Value} {Q : Option Value → Shared → Prop} (D : Ap3 z TI TO i1 i2 i3 l1 l2 l3)
    (hz : IsZip s.heap z TI TO .none) (hTI : IsTrip s.heap TI (.ref i1) (.ref i2) (.ref i3)) (hTO : IsTrip s.heap TO a b c)
    (h1 : s.heap.IsListIter i1 l1 k1) (h2 : s.heap.IsListIter i2 l2 k2) (h3 : s.heap.IsListIter i3 l3 k3) (hl1 : s.heap.IsList l1 xs) (hl2 : s.heap.IsList l2 ys) (hl3 : s.heap.IsList l3 zs) (hx : xs[k1]? = some x) (hy : ys[k2]? = some y) (hu : zs[k3]? = some u)
    (hQ : ∀ h', IsZip h' z TI TO (rawInt s.heap.objs.size) → IsTrip h' TO x y u → h'.IsListIter i1 l1 (k1 + 1) → h'.IsListIter i2 l2 (k2 + 1) → h'.IsListIter i3 l3 (k3 + 1) → IsTrip h' s.heap.objs.size x y u → h'.objs.size = s.heap.objs.size + 1 →
      (∀ c o, c ≠ z → c ≠ TO → c ≠ i1 → c ≠ i2 → c ≠ i3 → s.heap.get? c = some o → h'.get? c = some o) → Q (some (.ref s.heap.objs.size)) { s with heap := h' }) :
    wpAny (model prog w) A (pyNext (.ref z)) Q E s := by
  have hT : s.TypeIs (.ref z) "zip" := ⟨_, hz, rfl⟩
  unfold pyNext
  exact wpAny_bind (wpAny_attempt (wpAny_callSpecial?_slot (name := Str.ofString "__next__") hT F.slot_zip_next
    (wpAny_call_entry F.slot_zip_next hT F.entry_zip_next
      (zip3_next_item D hz hTI hTO h1 h2 h3 hl1 hl2 hl3 hx hy hu fun h' a1 a2 a3 a4 a5 a6 a7 a8 => wpAny_pure (hQ h' a1 a2 a3 a4 a5 a6 a7 a8)) (F.args_zip_next_1 _))))
theorem pyNext_zip3_end {z TI TO i1 i2 i3 l1 l2 l3 : Addr} {k1 k2 k3 : Nat} {xs ys zs : Array Value} {a b c : Value} {Q : Option Value → Shared → Prop} (hh : A.handled = none) (D : Ap3 z TI TO i1 i2 i3 l1 l2 l3)
    (hz : IsZip s.heap z TI TO .none) (hTI : IsTrip s.heap TI (.ref i1) (.ref i2) (.ref i3)) (hTO : IsTrip s.heap TO a b c)
    (h1 : s.heap.IsListIter i1 l1 k1) (h2 : s.heap.IsListIter i2 l2 k2) (h3 : s.heap.IsListIter i3 l3 k3) (hl1 : s.heap.IsList l1 xs) (hl2 : s.heap.IsList l2 ys) (hl3 : s.heap.IsList l3 zs) (hx : xs[k1]? = none)
    (hQ : ∀ h', (∀ c o, c ≠ z → c ≠ TO → c ≠ i1 → c ≠ i2 → c ≠ i3 → s.heap.get? c = some o → h'.get? c = some o) → Q none { s with heap := h' }) : wpAny (model prog w) A (pyNext (.ref z)) Q E s := by
  have hT : s.TypeIs (.ref z) "zip" := ⟨_, hz, rfl⟩
  unfold pyNext
  refine wpAny_bind (wpAny_attempt (wpAny_callSpecial?_slot (name := Str.ofString "__next__") hT F.slot_zip_next
    (wpAny_call_entry F.slot_zip_next hT F.entry_zip_next (zip3_next_end hh D hz hTI hTO h1 h2 h3 hl1 hl2 hl3 hx fun h' e hk he => ?_) (F.args_zip_next_1 _))))
  obtain ⟨o, ho, hc⟩ := he
  refine wpAny_bind (wpAny_isInstance (T := "StopIteration") (b := true) ⟨o, ho, hc⟩ isSubtype_stop ?_)
  exact wpAny_pure (hQ _ hk)
end
abbrev zH1 (h : Heap) (l1 : Addr) : Heap := h.push { cls := .type "list_iterator", data := .fields #[.ref l1, .int 0 0] }
abbrev zH2 (h : Heap) (l1 l2 : Addr) : Heap := (zH1 h l1).push { cls := .type "list_iterator", data := .fields #[.ref l2, .int 0 0] }
abbrev zH3 (h : Heap) (l1 l2 l3 : Addr) : Heap := (zH2 h l1 l2).push { cls := .type "list_iterator", data := .fields #[.ref l3, .int 0 0] }
abbrev zH4 (h : Heap) (l1 l2 l3 : Addr) : Heap := (zH3 h l1 l2 l3).push { cls := .type "tuple", data := .seq #[.ref h.objs.size, .ref (zH1 h l1).objs.size, .ref (zH2 h l1 l2).objs.size] }
abbrev zH5 (h : Heap) (l1 l2 l3 : Addr) : Heap := (zH4 h l1 l2 l3).push { cls := .type "tuple", data := .seq #[.none, .none, .none] }
abbrev zH6 (h : Heap) (l1 l2 l3 : Addr) : Heap := (zH5 h l1 l2 l3).push { cls := .type "zip", data := .fields #[.none, .bool false, .bool false, .ref (zH3 h l1 l2 l3).objs.size, .ref (zH4 h l1 l2 l3).objs.size] }
theorem meets_zip3_new (l1 l2 l3 : Addr) (xs ys zs : Array Value) :
    Meets (Builtin.«zip.__new__» ⟨[.type "zip", .ref l1, .ref l2, .ref l3], []⟩) (fun _ R s => s.heap.IsList l1 xs ∧ s.heap.IsList l2 ys ∧ s.heap.IsList l3 zs ∧
      R (.ok (.ret (.ref (zH5 s.heap l1 l2 l3).objs.size))) { s with heap := zH6 s.heap l1 l2 l3 }) :=
  .of_wp fun prog w A R s h => by
    obtain ⟨hp, g, d, tk, os⟩ := s; obtain ⟨hl1, hl2, hl3, h⟩ := h
    have hsub := sub_zip
    have hL1 : Heap.IsList (Shared.heap ⟨hp, g, d, tk, os⟩) l1 xs := hl1
    have hL2 : Heap.IsList (Shared.heap ⟨zH1 hp l1, g, d, tk, os⟩) l2 ys := Heap.IsList.push hl2 _
    have hL3 : Heap.IsList (Shared.heap ⟨zH2 hp l1 l2, g, d, tk, os⟩) l3 zs := Heap.IsList.push (Heap.IsList.push hl3 _) _
    wp_walk using wpAny_pyIter_list hL1, wpAny_pyIter_list hL2, wpAny_pyIter_list hL3
    exact ⟨_, rfl, h⟩
section
variable {prog : Program} {w : World} {A : Around} {E : Value → Shared → Prop} {s : Shared}
theorem call_zip_3 {l1 l2 l3 : Addr} {xs ys zs : Array Value} {Q : Value → Shared → Prop} (hl1 : s.heap.IsList l1 xs) (hl2 : s.heap.IsList l2 ys) (hl3 : s.heap.IsList l3 zs)
    (h : ∀ h', IsZip h' (s.heap.objs.size + 5) (s.heap.objs.size + 3) (s.heap.objs.size + 4) .none → IsTrip h' (s.heap.objs.size + 3) (.ref s.heap.objs.size) (.ref (s.heap.objs.size + 1)) (.ref (s.heap.objs.size + 2)) →
      IsTrip h' (s.heap.objs.size + 4) .none .none .none → h'.IsListIter s.heap.objs.size l1 0 → h'.IsListIter (s.heap.objs.size + 1) l2 0 → h'.IsListIter (s.heap.objs.size + 2) l3 0 →
      (∀ c o, s.heap.get? c = some o → h'.get? c = some o) → Q (.ref (s.heap.objs.size + 5)) { s with heap := h' }) :
    wpAny (model prog w) A (call (.type "zip") [.ref l1, .ref l2, .ref l3]) Q E s := by
  refine callType_new F.called_zip (by decide) (typeCall3 _ _ _) (newCall3 _ _ _) (fun obj => args_init4 obj _ _ _) F.entry_zip_new
    (meets_zip3_new l1 l2 l3 xs ys zs) ⟨hl1, hl2, hl3, ?_⟩
  have z1 : (zH1 s.heap l1).objs.size = s.heap.objs.size + 1 := Heap.size_push ..
  have z2 : (zH2 s.heap l1 l2).objs.size = s.heap.objs.size + 2 := by rw [Heap.size_push, z1]
  have z3 : (zH3 s.heap l1 l2 l3).objs.size = s.heap.objs.size + 3 := by rw [Heap.size_push, z2]
  have z4 : (zH4 s.heap l1 l2 l3).objs.size = s.heap.objs.size + 4 := by rw [Heap.size_push, z3]
  have z5 : (zH5 s.heap l1 l2 l3).objs.size = s.heap.objs.size + 5 := by rw [Heap.size_push, z4]
  have g6 : (zH6 s.heap l1 l2 l3).get? (zH5 s.heap l1 l2 l3).objs.size = some _ := Heap.get?_push_size _ rfl
  have g5 : (zH6 s.heap l1 l2 l3).get? (zH4 s.heap l1 l2 l3).objs.size = some _ := Heap.get?_push_of_some _ (Heap.get?_push_size _ rfl)
  have g4 : (zH6 s.heap l1 l2 l3).get? (zH3 s.heap l1 l2 l3).objs.size = some _ := Heap.get?_push_of_some _ (Heap.get?_push_of_some _ (Heap.get?_push_size _ rfl))
  have g3 : (zH6 s.heap l1 l2 l3).get? (zH2 s.heap l1 l2).objs.size = some _ := Heap.get?_push_of_some _ (Heap.get?_push_of_some _ (Heap.get?_push_of_some _ (Heap.get?_push_size _ rfl)))
  have g2 : (zH6 s.heap l1 l2 l3).get? (zH1 s.heap l1).objs.size = some _ := Heap.get?_push_of_some _ (Heap.get?_push_of_some _ (Heap.get?_push_of_some _ (Heap.get?_push_of_some _ (Heap.get?_push_size _ rfl))))
  have g1 : (zH6 s.heap l1 l2 l3).get? s.heap.objs.size = some _ := Heap.get?_push_of_some _ (Heap.get?_push_of_some _ (Heap.get?_push_of_some _ (Heap.get?_push_of_some _ (Heap.get?_push_of_some _ (Heap.get?_push_size _ rfl)))))
  show _ ∧ _
  rw [z3, z4, z5] at g6
  rw [z1, z2, z3] at g4
  rw [z4] at g5
  rw [z2] at g3
  rw [z1] at g2
  rw [z5]
  exact ⟨⟨_, g6, rfl⟩, h _ g6 g4 g5 ⟨_, g1, rfl, rfl⟩ ⟨_, g2, rfl, rfl⟩ ⟨_, g3, rfl, rfl⟩ fun c o x =>
    Heap.get?_push_of_some _ (Heap.get?_push_of_some _ (Heap.get?_push_of_some _ (Heap.get?_push_of_some _ (Heap.get?_push_of_some _ (Heap.get?_push_of_some _ x)))))⟩
end
/-- the lists at a, b and c as they stand at each turn, the items in new triples -/
def It3 (K : PySem.W.Frag) (a b c : Addr) : It :=
  ⟨fun i H => ∃ (xs ys zs : List V) (x y z : V), SqL K H a xs ∧ SqL K H b ys ∧ SqL K H c zs ∧ xs[i]? = some x ∧ ys[i]? = some y ∧ zs[i]? = some z,
    fun i H v H' => ∃ T x y z, v = .ref T ∧ H T = none ∧ H' = upd H T (.tup [x, y, z]) ∧ (∀ xs, SqL K H a xs → xs[i]? = some x) ∧ (∀ ys, SqL K H b ys → ys[i]? = some y) ∧ ∀ zs, SqL K H c zs → zs[i]? = some z,
    fun i H => ∃ xs ys zs : List V, SqL K H a xs ∧ SqL K H b ys ∧ SqL K H c zs ∧ xs.length ≤ i⟩
theorem turn_zip3 {P : Program} {w : World} {K : PySem.W.Frag} {elts : List Expr} {kk : Nat} {tpos : Pos} {a b c z TI TO i1 i2 i3 : Addr} (D : Ap3 z TI TO i1 i2 i3 a b c) :
    Turn P w K (.Tuple elts kk tpos) (It3 K a b c) [z, TI, TO, i1, i2, i3] z (fun i h => IsZip h z TI TO .none ∧ IsTrip h TI (.ref i1) (.ref i2) (.ref i3) ∧ (∃ x y v, IsTrip h TO x y v) ∧ h.IsListIter i1 a i ∧ h.IsListIter i2 b i ∧ h.IsListIter i3 c i) where
  mem := by simp
  obj := fun i h st d hd => by
    obtain ⟨hz, hTI, ⟨x, y, v, hTO⟩, ⟨o1, e1, _, d1⟩, ⟨o2, e2, _, d2⟩, ⟨o3, e3, _, d3⟩⟩ := st
    have e' : d = z ∨ d = TI ∨ d = TO ∨ d = i1 ∨ d = i2 ∨ d = i3 := by simpa using hd
    rcases e' with q | q | q | q | q | q
    · rw [q]; exact ⟨_, hz, fun v q => nomatch q⟩
    · rw [q]; exact ⟨_, hTI, fun v q => nomatch q⟩
    · rw [q]; exact ⟨_, hTO, fun v q => nomatch q⟩
    · rw [q]; exact ⟨o1, e1, fun v q => by rw [d1] at q; cases q⟩
    · rw [q]; exact ⟨o2, e2, fun v q => by rw [d2] at q; cases q⟩
    · rw [q]; exact ⟨o3, e3, fun v q => by rw [d3] at q; cases q⟩
  keep := fun i h h' st k => by
    obtain ⟨hz, hTI, ⟨x, y, v, hTO⟩, h1, h2, h3⟩ := st
    exact ⟨k z (by simp) _ hz, k TI (by simp) _ hTI, ⟨x, y, v, k TO (by simp) _ hTO⟩, h1.at fun o q => k i1 (by simp) o q, h2.at fun o q => k i2 (by simp) o q, h3.at fun o q => k i3 (by simp) o q⟩
  item := by
    intro X hP hw hK hc i pins s σ H E I hf st hg
    subst hP hw hK
    obtain ⟨hz, hTI, ⟨x0, y0, v0, hTO⟩, h1, h2, h3⟩ := st
    obtain ⟨xs, ys, zs, x, y, v, hqx, hqy, hqz, hx, hy, hv⟩ := hg
    obtain ⟨its, rv, p, _⟩ := I.list hqx
    obtain ⟨its2, rv2, p2, _⟩ := I.list hqy
    obtain ⟨its3, rv3, p3, _⟩ := I.list hqz
    obtain ⟨u, hu, ru⟩ := rv.get hx
    obtain ⟨u2, hu2, ru2⟩ := rv2.get hy
    obtain ⟨u3, hu3, ru3⟩ := rv3.get hv
    have hzl : z < s.heap.objs.size := Heap.lt_size hz
    have nTIz : TI ≠ z := neA (by have := D.o7; have := D.o8; omega)
    have nTOz : TO ≠ z := neA (by have := D.o8; omega)
    have n1 : i1 ≠ z := neA (by have := D.o4; have := D.o5; have := D.o6; have := D.o7; have := D.o8; omega)
    have n2 : i2 ≠ z := neA (by have := D.o5; have := D.o6; have := D.o7; have := D.o8; omega)
    have n3 : i3 ≠ z := neA (by have := D.o6; have := D.o7; have := D.o8; omega)
    have t1 : TI ≠ TO := neA (by have := D.o7; omega)
    have t2 : TI ≠ i1 := neA (by have := D.o4; have := D.o5; have := D.o6; omega)
    have t3 : TI ≠ i2 := neA (by have := D.o5; have := D.o6; omega)
    have t4 : TI ≠ i3 := neA (by have := D.o6; omega)
    refine pyNext_zip3_item D hz hTI hTO h1 h2 h3 p.isList p2.isList p3.isList (x := u) (y := u2) (u := u3) (by simpa using hu) (by simpa using hu2) (by simpa using hu3) fun h' z' TO' h1' h2' h3' hT hsz hk => ?_
    refine ⟨_, rfl, wpAny_letOwnedTupleGo_zip (s := { s with heap := h' }) z' fun h'' z'' sb => ?_⟩
    have hT2 : h''.get? s.heap.objs.size = some { cls := .type "tuple", data := .seq #[u, u2, u3] } := (sb.2 _ (Nat.ne_of_gt hzl)).trans hT
    have new : ObjOk X.prog X.w (upd H s.heap.objs.size (.tup [x, y, v])) h'' s.heap.objs.size (.tup [x, y, v]) :=
      ⟨by show 3 ≤ sizeLine; decide, [u, u2, u3], .cons ru (.cons ru2 (.cons ru3 .nil)), ⟨_, hT2, rfl, _, rfl⟩⟩
    have I1 : Inv X pins σ (upd H s.heap.objs.size (.tup [x, y, v])) { s with heap := h'' } :=
      I.turnedNew (t' := s.toks) (ch := [z, TI, TO, i1, i2, i3]) (fun c o hb q => (sb.2 c (fun q' => hb (by simp [q']))).trans (hk c o (fun q' => hb (by simp [q'])) (fun q' => hb (by simp [q'])) (fun q' => hb (by simp [q'])) (fun q' => hb (by simp [q'])) (fun q' => hb (by simp [q'])) q)) hf (Nat.le_refl _) new
    refine ⟨.ref s.heap.objs.size, _, I1, rfl, ⟨_, x, y, v, rfl, I.hok.fresh (Nat.le_refl _), rfl, fun l hl => by rw [I.list_inj hl hqx]; exact hx, fun l hl => by rw [I.list_inj hl hqy]; exact hy, fun l hl => by rw [I.list_inj hl hqz]; exact hv⟩, ⟨z'', ?_, ⟨u, u2, u3, ?_⟩, ?_, ?_, ?_⟩, fun c hcm => ?_⟩
    · exact (sb.2 _ nTIz).trans (hk _ _ nTIz t1 t2 t3 t4 hTI)
    · exact (sb.2 _ nTOz).trans TO'
    · exact h1'.at fun o q => (sb.2 _ n1).trans q
    · exact h2'.at fun o q => (sb.2 _ n2).trans q
    · exact h3'.at fun o q => (sb.2 _ n3).trans q
    · have hlt : c < s.heap.objs.size := by
        have e' : c = z ∨ c = TI ∨ c = TO ∨ c = i1 ∨ c = i2 ∨ c = i3 := by simpa using hcm
        rcases e' with q | q | q | q | q | q
        · rw [q]; exact hzl
        · rw [q]; exact Heap.lt_size hTI
        · rw [q]; exact Heap.lt_size hTO
        · rw [q]; obtain ⟨_, e1, _⟩ := h1; exact Heap.lt_size e1
        · rw [q]; obtain ⟨_, e2, _⟩ := h2; exact Heap.lt_size e2
        · rw [q]; obtain ⟨_, e3, _⟩ := h3; exact Heap.lt_size e3
      rw [upd_ne (Nat.ne_of_lt hlt)]
      exact (hf c hcm).1
  done := by
    intro X hP hw hK hc i pins s σ H E I hf st hg
    subst hP hw hK
    obtain ⟨hz, hTI, ⟨x0, y0, v0, hTO⟩, h1, h2, h3⟩ := st
    obtain ⟨xs, ys, zs, hqx, hqy, hqz, hend⟩ := hg
    obtain ⟨its, rv, p, _⟩ := I.list hqx
    obtain ⟨its2, rv2, p2, _⟩ := I.list hqy
    obtain ⟨its3, rv3, p3, _⟩ := I.list hqz
    have l1 := rv.length
    have he : its.toArray[i]? = none := by simp; omega
    exact pyNext_zip3_end (I.ok.hd hc) D hz hTI hTO h1 h2 h3 p.isList p2.isList p3.isList he fun h' hk => ⟨rfl, I.turnedL (t' := s.toks) (ch := [z, TI, TO, i1, i2, i3]) (fun c o hb q =>
      hk c o (fun q' => hb (by simp [q'])) (fun q' => hb (by simp [q'])) (fun q' => hb (by simp [q'])) (fun q' => hb (by simp [q'])) (fun q' => hb (by simp [q'])) q) hf⟩
  self := fun A i s Q E st h => wpAny_pyIter_zip st.1 h
def iZip3 (K : PySem.W.Frag) (ta : TA) : TI := fun σ H R => ta σ H fun vs H1 => ∃ a b c xs ys zs, vs = [.ref a, .ref b, .ref c] ∧ SqL K H1 a xs ∧ SqL K H1 b ys ∧ SqL K H1 c zs ∧ R (It3 K a b c) H1
theorem pi_zip3 {X : Cx} {e e2 e3 : Expr} {ta : TA} {p pos tpos : Pos} {elts : List Expr} {kk : Nat} (hg : Gl X "zip") (hm : X.mg "zip" = none) (ha : PA X [e, e2, e3] ta)
    (hs : starEach [e, e2, e3] X.env = (false, eval e X.env) :: starEach [e2, e3] X.env := by rfl) (hpl : (backTo pos (starEach [e2, e3] X.env)).any (·.1) = false := by rfl) :
    PI X (.Tuple elts kk tpos) (.Call (.Name "zip" p) [e, e2, e3] [] pos) (iZip3 X.K ta) := by
  refine ⟨fun pins s σ H R I h => ?_⟩
  refine Call_ (ld_blt I hg hm PyProof.Rows.boot_zip (PyProof.Rows.callWith_type1 (thn (ha.run pos pins s σ H _ I h) fun us s1 ⟨vs, H1, I1, r1, q1⟩ => ?_) hs hpl))
  obtain ⟨a, b, c, xs, ys, zs, ex, hqx, hqy, hqz, q⟩ := q1
  subst ex
  cases r1 with
  | cons r rr =>
    cases rr with
    | cons r' rr =>
      cases rr with
      | cons r'' rr =>
        cases rr
        cases r
        cases r'
        cases r''
        obtain ⟨its, rv, p1, _⟩ := I1.list hqx
        obtain ⟨its2, rv2, p2, _⟩ := I1.list hqy
        obtain ⟨its3, rv3, p3, _⟩ := I1.list hqz
        have la : a < s1.heap.objs.size := p1.lt
        have lb : b < s1.heap.objs.size := p2.lt
        have lc : c < s1.heap.objs.size := p3.lt
        refine call_zip_3 p1.isList p2.isList p3.isList fun h' hz hTI hTO h1 h2 h3 hk => wpAny_pyIter_zip hz ?_
        have I2 : Inv X pins σ H1 { s1 with heap := h' } := I1.kept (t' := s1.toks) hk
        refine ⟨s1.heap.objs.size + 5, [s1.heap.objs.size + 5, s1.heap.objs.size + 3, s1.heap.objs.size + 4, s1.heap.objs.size, s1.heap.objs.size + 1, s1.heap.objs.size + 2], _, _, H1, rfl, I2, turn_zip3 ⟨la, lb, lc, Nat.lt_succ_self _, Nat.lt_succ_self _, Nat.lt_succ_self _, Nat.lt_succ_self _, Nat.lt_succ_self _⟩, ⟨hz, hTI, ⟨_, _, _, hTO⟩, h1, h2, h3⟩, fun d hcm => ?_, q⟩
        have e' : d = s1.heap.objs.size + 5 ∨ d = s1.heap.objs.size + 3 ∨ d = s1.heap.objs.size + 4 ∨ d = s1.heap.objs.size ∨ d = s1.heap.objs.size + 1 ∨ d = s1.heap.objs.size + 2 := by simpa using hcm
        have hle : s1.heap.objs.size ≤ d := by
          rcases e' with z | z | z | z | z | z
          · rw [z]; exact Nat.le_add_right _ _
          · rw [z]; exact Nat.le_add_right _ _
          · rw [z]; exact Nat.le_add_right _ _
          · rw [z]; exact Nat.le_refl _
          · rw [z]; exact Nat.le_add_right _ _
          · rw [z]; exact Nat.le_add_right _ _
        exact I1.fpOk hle (I1.hok.fresh hle)
/-- a new triple of the i-th of each -/
def YTrip (xs ys zs : Nat → Option V) : Nat → Hp → V → Hp → Prop := fun i H v H' => ∃ T x y z, v = .ref T ∧ H T = none ∧ H' = upd H T (.tup [x, y, z]) ∧ xs i = some x ∧ ys i = some y ∧ zs i = some z
/-- the first is the shortest -/
theorem walk_zip3 {K : PySem.W.Frag} {a b c : Addr} {xs ys zs : List V} (h1 : xs.length ≤ ys.length) (h2 : xs.length ≤ zs.length) : Walk (It3 K a b c) xs.length (fun H => SqL K H a xs ∧ SqL K H b ys ∧ SqL K H c zs) (YTrip (fun i => xs[i]?) (fun i => ys[i]?) (fun i => zs[i]?)) := by
  refine ⟨fun i _ hi q => ?_, fun _ q => ⟨xs, ys, zs, q.1, q.2.1, q.2.2, Nat.le_refl _⟩, fun i H v H' _ q y => ?_⟩
  · have l1 : i < ys.length := by omega
    have l2 : i < zs.length := by omega
    exact ⟨xs, ys, zs, xs[i], ys[i], zs[i], q.1, q.2.1, q.2.2, by simp [hi], by simp [l1], by simp [l2]⟩
  · obtain ⟨T, x, z, u, g1, g2, g3, g4, g5, g6⟩ := y
    exact ⟨T, x, z, u, g1, g2, g3, g4 xs q.1, g5 ys q.2.1, g6 zs q.2.2⟩
end KZ3
namespace KA
open PySem PySem.Spec PyProof.Rows L2 PySem.W LamX
/-! ### more calls by names alone -/
section
variable {K : PySem.W.Frag} {x qual : Str} {st : Stmt} {f : Addr} {fd : FuncData} {ps ks : List Str}
/-- two parameters a, b, called as f(a = .., b = ..) -/
theorem Fun.kw2s {a b : Str} (F : Fun K x qual st f fd) (h : ∀ (kV doc pm : Value) (an : Option Addr) (cdv ct u v : Value), bindArgs (PySem.W.fnOf x qual (defArgs st) (defBody st) (defScope st) .none kV doc pm an cdv ct) ⟨[], [(a, u), (b, v)]⟩ = pure [(a, u), (b, v)]) :
    KBn K fd [a, b] 0 [a, b] (fun _ ws => ws) (fun _ zs => zs) := by
  obtain ⟨oc, od, kV, doc, pm, an, cdv, ct, osl, rfl, lk, hcd⟩ := F.ex
  refine ⟨fun s us ws X l1 l2 => ?_, fun _ r => r⟩
  match us, ws, l1, l2 with
  | [], [u, v], _, _ => exact .of_eq (h kV doc pm an cdv ct u v)
def perm5 {α : Type} (zs : List α) : List α := match zs with
  | [x, y, u, g, l] => [l, g, y, x, u]
  | zs => zs
/-- five parameters l, g, y, x, u, called as f(x = .., y = .., u = .., g = .., l = ..) -/
theorem Fun.kw5 {l g y z u : Str} (F : Fun K x qual st f fd) (h : ∀ (kV doc pm : Value) (an : Option Addr) (cdv ct a b c d e : Value), bindArgs (PySem.W.fnOf x qual (defArgs st) (defBody st) (defScope st) .none kV doc pm an cdv ct) ⟨[], [(z, a), (y, b), (u, c), (g, d), (l, e)]⟩ = pure [(l, e), (g, d), (y, b), (z, a), (u, c)]) :
    KBn K fd [l, g, y, z, u] 0 [z, y, u, g, l] (fun _ ws => perm5 ws) (fun _ zs => perm5 zs) := by
  obtain ⟨oc, od, kV, doc, pm, an, cdv, ct, osl, rfl, lk, hcd⟩ := F.ex
  refine ⟨fun s us ws X l1 l2 => ?_, fun {_ _ zs ws} _ r => ?_⟩
  · match us, ws, l1, l2 with
    | [], [a, b, c, d, e], _, _ => exact .of_eq (h kV doc pm an cdv ct a b c d e)
  · clear h
    match zs, ws, r with
    | [a, b, c, d, e], _, .cons ra (.cons rb (.cons rc (.cons rd (.cons re .nil)))) => exact .cons re (.cons rd (.cons rb (.cons ra (.cons rc .nil))))
    | [], _, .nil => exact .nil
    | [_], _, .cons ra .nil => exact .cons ra .nil
    | [_, _], _, .cons ra (.cons rb .nil) => exact .cons ra (.cons rb .nil)
    | [_, _, _], _, .cons ra (.cons rb (.cons rc .nil)) => exact .cons ra (.cons rb (.cons rc .nil))
    | [_, _, _, _], _, .cons ra (.cons rb (.cons rc (.cons rd .nil))) => exact .cons ra (.cons rb (.cons rc (.cons rd .nil)))
    | _ :: _ :: _ :: _ :: _ :: _ :: _, _, .cons ra (.cons rb (.cons rc (.cons rd (.cons re (.cons rf r))))) => exact .cons ra (.cons rb (.cons rc (.cons rd (.cons re (.cons rf r)))))
end
end KA
namespace K17
open PySem PySem.Spec PyProof.Rows L2 PySem.W LamX KA KW KU KL KT KZ3
open Evl (pss_cut tCut)
/-! ### the law: are ends -/
abbrev endT (t : Bool) (ls gs : List Int) (h w y x : Nat) : List Int := if t = true then endL h w gs ls y x else endL h w ls gs y x
abbrev dueT (t : Bool) (ls gs : List Int) (h w y x : Nat) : Int := if t = true then (spanAt ls gs h w y x).2 else (spanAt ls gs h w y x).1
theorem endT_len {t : Bool} {ls gs : List Int} {h w y x : Nat} (ll : ls.length = h * w) (lg : gs.length = h * w) : (endT t ls gs h w y x).length = h * w := by
  unfold endT
  split
  · exact end_len lg
  · exact end_len ll
theorem endT_cell {t : Bool} {ls gs : List Int} {h w y x : Nat} (h1 : 1 ≤ h) (w1 : 1 ≤ w) (ll : ls.length = h * w) (lg : gs.length = h * w) (hy : y < h) (hx : x < w) : numAt (downL h w (numAt (endT t ls gs h w y x)) (numAt (endT t ls gs h w y x))) (y * w + x) = dueT t ls gs h w y x := by
  unfold endT dueT numAt
  cases t
  · exact end_cell h1 w1 ll hy hx
  · rw [if_pos rfl, if_pos rfl, ← span_snd]
    exact end_cell h1 w1 lg hy hx
theorem endT_bt {t : Bool} {ls gs : List Int} {h w y x k : Nat} (h1 : 1 ≤ h) (w1 : 1 ≤ w) (ll : ls.length = h * w) (lg : gs.length = h * w) (le : ∀ k, k < h * w → numAt ls k ≤ numAt gs k) (hk : k < h * w) : numAt ls k ≤ numAt (endT t ls gs h w y x) k ∧ numAt (endT t ls gs h w y x) k ≤ numAt gs k := by
  unfold endT
  cases t
  · rw [if_neg Bool.false_ne_true, end_low h1 w1 ll hk]
    exact low_between (le k hk)
  · rw [if_pos rfl, end_low h1 w1 lg hk]
    exact low_between' (le k hk)
theorem spot_ok {h w y x : Nat} (hy : y < h) (hx : x < w) : spotB h w (.int ((y : Nat) : Int)) (.int ((x : Nat) : Int)) = true := by
  unfold spotB
  rw [within_i, within_i]
  simp only [Bool.and_eq_true, decide_eq_true_eq]
  omega
theorem call_end {K : PySem.W.Frag} {C1 C2 C3 C4 : Addr} {H : Hp} {Q : V → Hp → Prop} {E : XK} {pa pb : Addr} {ls gs : List Int} {h w y x : Nat} (t : Bool) (h1 : 1 ≤ h) (w1 : 1 ≤ w) (ll : ls.length = h * w) (lg : gs.length = h * w) (le : ∀ k, k < h * w → numAt ls k ≤ numAt gs k)
    (pA : Pn H pa (rowsOf ls h w) w) (pB : Pn H pb (rowsOf gs h w) w) (hy : y < h) (hx : x < w)
    (k : ∀ r H', Same H H' → Pn H' r (rowsOf (downL h w (numAt (endT t ls gs h w y x)) (numAt (endT t ls gs h w y x))) h w) w → Q (.ref r) H') :
    spLiftEnd K C1 C2 C3 C4 [.ref pa, .ref pb, .int ((y : Nat) : Int), .int ((x : Nat) : Int), .bl t] H Q E := by
  have lb : leB (rowsOf ls h w) (rowsOf gs h w) = true := (leB_rows w1 ll lg).mpr le
  refine ⟨.ref pa, .ref pb, _, _, _, _, _, _, _, _, rfl, pA.th, pB.th, .int _, .int _, .bl _, fun z => by (rw [pA.ok] at z; cases z), fun a' n' w' ea pn' no => ?_, fun a' n' w' b' m' ea pn' eb qn' lm le' => ?_⟩
  · cases ea
    obtain ⟨e1, e2⟩ := pA.uniq pn'
    rw [e1, e2] at no
    exact absurd ⟨pb, _, rfl, pB, by rw [rowsOf_len, rowsOf_len], lb⟩ no
  · cases ea
    cases eb
    obtain ⟨e1, e2⟩ := pA.uniq pn'
    obtain ⟨e3, _⟩ := pB.uniq qn'
    rw [e1, e2, e3, rowsOf_len]
    have so := spot_ok (h := h) (w := w) hy hx
    refine ⟨fun z => ?_, fun _ z => (by cases z), fun yn xn t' ey ex hy' hx' et r H' s q => ?_⟩
    · rw [so] at z
      cases z
    · have ey : y = yn := by
        have := V.int.inj ey
        omega
      have ex : x = xn := by
        have := V.int.inj ex
        omega
      have et : t = t' := V.bl.inj et
      subst ey ex et
      refine k r H' s ?_
      rw [endR_is h1 w1 ll lg, endR_is h1 w1 lg ll] at q
      unfold endT
      cases t
      · exact q
      · exact q
theorem row_at_ {H : Hp} {p : Addr} {fs : List Int} {h w : Nat} (l : fs.length = h * w) (q : Pn H p (rowsOf fs h w) w) {y : Nat} (hy : y < h) : ∃ vs b, H p = some (.tup vs) ∧ vs.length = h ∧ vs[y]? = some (.ref b) ∧ H b = some (.tup (((fs.drop (y * w)).take w).map V.int)) := by
  obtain ⟨vs, e, lv, r⟩ := q.rows
  rw [rowsOf_len] at lv
  obtain ⟨b, ns, e1, e2, e3⟩ := r y _ (List.getElem?_eq_getElem (by omega))
  refine ⟨vs, b, e, lv, by rw [List.getElem?_eq_getElem (by omega), e1], ?_⟩
  have : (rowsOf fs h w).getD y [] = ns := by rw [List.getD_eq_getElem?_getD, e2]; rfl
  rw [rows_getD hy] at this
  rw [this]
  exact e3
def spAreEnds : Sp := fun vs H Q _ => ∃ (h w : Nat) (l g d : Addr) (ls gs : List Int) (y x : Nat), vs = [.int h, .int w, .ref l, .ref g, .ref d] ∧ H l = some (.lst (ls.map V.int)) ∧ H g = some (.lst (gs.map V.int)) ∧ ls.length = h * w ∧ gs.length = h * w ∧ 1 ≤ h ∧ h ≤ 16 ∧ 1 ≤ w ∧ w ≤ 16 ∧
  (∀ k, k < h * w → numAt ls k ≤ numAt gs k) ∧ H d = some (.tup [.int ((y : Nat) : Int), .int ((x : Nat) : Int)]) ∧ y < h ∧ x < w ∧ ∀ H', Same H H' → Q (.bl true) H'
section
variable {P : Program} {w : World} {K : PySem.W.Frag} {mg : Str → Option Value} {base : Heap} (T : Top K mg)
theorem ok_are_ends : FnOk P w K mg base (L2.CX P w) 8 T._law_are_ends.a T._law_are_ends.d ["tall", "wide", "least", "most", "dot"] spAreEnds := by
  refine T._law_are_ends.f.okX sc__law_are_ends (fun vs H Q E h => ?_) (fun cdv A outer s H vs Q E hr h => ?_)
  · obtain ⟨h, w, l, g, d, ls, gs, y, x, rfl, _⟩ := h
    rfl
  · obtain ⟨h, wn, l, g, d, ls, gs, y, x, rfl, hl, hg, ll, lg, h1, h2, w1, w2, le, hd, hy, hx, k⟩ := h
    refine ⟨_, pss_cons (ps_set (i := 5) sc__law_are_ends.nd rfl (.inl rfl) (pe_call (ok_span_at T) (hr.mono (by decide)) (by rfl) T._law_span_at.m T._law_span_at.f.kp (bd__law_span_at T) .nil passE (pa_cons (pv 0) (pa_cons (pv 1) (pa_cons (pv 2) (pa_cons (pv 3) (pa_cons (pv 4) pa_nil)))))))
      (pss_cons (ps_for (passes_of rfl) rfl (pi_range1 (by rfl) T.b_range (pa_cons pe_int pa_nil)) (pg_name (i := 6) sc__law_are_ends.nd rfl (.inl rfl))
        (pss_cons (ps_par (i := 7) (j := 8) rfl sc__law_are_ends.nd rfl rfl (by decide) rfl rfl (pa_cons (pe_call (ok_llines T) (hr.mono (by decide)) (by rfl) T._law_lines_of.m T._law_lines_of.f.kp (bd__law_lines_of T) .nil passE (pa_cons (pv 2) (pa_cons (pv 1) pa_nil))) (pa_cons (pe_call (ok_llines T) (hr.mono (by decide)) (by rfl) T._law_lines_of.m T._law_lines_of.f.kp (bd__law_lines_of T) .nil passE (pa_cons (pv 3) (pa_cons (pv 1) pa_nil))) pa_nil)) (by rfl))
        (pss_cons (ps_set (i := 9) sc__law_are_ends.nd rfl (.inl rfl) (pe_kw (ok_lift_end T) (hr.mono (by decide)) (by rfl) T.lift_end.m T.lift_end.f.kp (KA.Fun.kw5 T.lift_end.f fun _ _ _ _ _ _ _ _ _ _ _ => rfl) passE (pk_cons (pe_ix ix_tup (pv 4) pe_int (fun _ _ => rfl)) (pk_cons (pe_ix ix_tup (pv 4) pe_int (fun _ _ => rfl)) (pk_cons (pe_cmpR op_eq (pv 6) pe_int (nomark _)) (pk_cons (pv 8) (pk_cons (pv 7) pk_nil)))))))
        (pss_cons (ps_if (PW.pt (pw_or (pt_not (pt_val (pe_call (ok_is_pane T) (hr.mono (by decide)) (by rfl) T._law_is_pane.m T._law_is_pane.f.kp (bd__law_is_pane T) .nil passE (pa_cons (pv 9) pa_nil))))
          (pw_or (pt_cmpR op_ne (pe_callB call_len_seq (by rfl) T.b_len PySem.boot_len (pa_cons (pv 9) pa_nil)) (pv 0) (nomark _))
          (pw_or (pt_cmpR op_ne (pe_callB call_len_seq (by rfl) T.b_len PySem.boot_len (pa_cons (pe_ix ix_tup (pv 9) pe_int (fun _ _ => rfl)) pa_nil)) (pv 1) (nomark _))
          (pw_or1 (pt_cmpR op_ne (pe_ix ix_tup (pe_ix ix_tup (pv 9) (pe_ix ix_tup (pv 4) pe_int (fun _ _ => rfl)) (fun _ _ => rfl)) (pe_ix ix_tup (pv 4) pe_int (fun _ _ => rfl)) (fun _ _ => rfl)) (pe_ix ix_tup (pv 5) (pv 6) (fun _ _ => rfl)) (nomark _)))))))
          (pss_one (ps_ret pe_bl)) pss_nil)
        (pss_one (ps_for (passes_of rfl) rfl (pi_zip3 (by rfl) T.b_zip (pa_cons (pe_call (ok_llift T) (hr.mono (by decide)) (by rfl) T._law_lift.m T._law_lift.f.kp (bd__law_lift T) .nil passE (pa_cons (pv 0) (pa_cons (pv 1) (pa_cons (pe_call (ok_row_by T) (hr.mono (by decide)) (by rfl) T._law_row_by_row.m T._law_row_by_row.f.kp (bd__law_row_by_row T) .nil passE (pa_cons (pv 9) pa_nil)) pa_nil)))) (pa_cons (pv 2) (pa_cons (pv 3) pa_nil))))
          (pg_tup rfl (pgs_cons (pg_name (i := 10) sc__law_are_ends.nd rfl (.inl rfl)) (pgs_cons (pg_name (i := 11) sc__law_are_ends.nd rfl (.inl rfl)) (pgs_cons (pg_name (i := 12) sc__law_are_ends.nd rfl (.inl rfl)) pgs_nil))))
          (pss_one (ps_if (pt_not (pt_chain op_le op_le (pv 11) (pv 10) (pv 12))) (pss_one (ps_ret pe_bl)) pss_nil))))))))
      (pss_one (ps_ret pe_bl))), ?_⟩
    have hw2 : h * wn ≤ 16 * 16 := Nat.mul_le_mul h2 w2
    refine ⟨_, rfl, _, rfl, _, rfl, _, rfl, _, rfl, h, wn, l, g, d, ls, gs, y, x, rfl, hl, hg, ll, lg, hd, h1, h2, w1, w2, fun q H1 s1 eq => ?_⟩
    have hl1 := s1 _ _ hl
    have hg1 := s1 _ _ hg
    have hd1 := s1 _ _ hd
    refine ⟨2, rfl, by decide, by decide, for_it walk_range (fun n σ H' => (∃ v6 v7 v8 v9 v10 v11 v12, σ = [some (.int (h : Nat)), some (.int (wn : Nat)), some (.ref l), some (.ref g), some (.ref d), some (.ref q), v6, v7, v8, v9, v10, v11, v12]) ∧ Same H1 H')
        ⟨⟨_, _, _, _, _, _, _, rfl⟩, Same.refl _⟩ (fun _ _ _ _ _ => trivial) ?_ fun σ H' q' => ?_⟩
    · rintro n z σ H3 H2 hn ⟨⟨v6, v7, v8, v9, v10, v11, v12, rfl⟩, s2⟩ ⟨rfl, rfl⟩
      have hn : n < 2 := hn
      obtain ⟨t, ht, hdu⟩ : ∃ t : Bool, decide (V.int (0 + ((n : Nat) : Int)) = V.int 1) = t ∧ [V.int (spanAt ls gs h wn y x).1, V.int (spanAt ls gs h wn y x).2][n]? = some (.int (dueT t ls gs h wn y x)) := by
        match n, hn with
        | 0, _ => exact ⟨false, decide_eq_false (fun z => by have := V.int.inj z; omega), rfl⟩
        | 1, _ => exact ⟨true, decide_eq_true rfl, rfl⟩
      refine ⟨_, rfl, _, rfl, l, ls, h, wn, rfl, s2 _ _ hl1, ll, h1, h2, w1, w2, fun pa H4 s4 _ pA => ⟨_, rfl, _, rfl, g, gs, h, wn, rfl, (s2.trans s4) _ _ hg1, lg, h1, h2, w1, w2, fun pb H5 s5 _ pB => ⟨_, _, rfl, ?_⟩⟩⟩
      have s25 := (s2.trans s4).trans s5
      refine ⟨_, rfl, d, _, _, _, rfl, rfl, SqT.of (s25 _ _ hd1), atI_nat (j := 1) rfl, _, rfl, d, _, _, _, rfl, rfl, SqT.of (s25 _ _ hd1), atI_nat (j := 0) rfl, _, rfl, rfl, ?_⟩
      refine ⟨_, rfl, _, rfl, rfl, ?_⟩
      rw [ht]
      show spLiftEnd K T.BadRectangle.C T.BadSpans.C T.BadSpot.C T.BadUpper.C [.ref pa, .ref pb, .int ((y : Nat) : Int), .int ((x : Nat) : Int), .bl t] H5 _ _
      refine call_end t h1 w1 ll lg le (pA.keep s5) pB hy hx fun r H6 s6 pR => ?_
      have s26 := s25.trans s6
      have fl : (downL h wn (numAt (endT t ls gs h wn y x)) (numAt (endT t ls gs h wn y x))).length = h * wn := downL_len h1 w1
      have el : (endT t ls gs h wn y x).length = h * wn := endT_len ll lg
      have cl := endT_cell (t := t) h1 w1 ll lg hy hx
      have ld := lift_down h1 w1 el
      have bt : ∀ k, k < h * wn → numAt ls k ≤ numAt (endT t ls gs h wn y x) k ∧ numAt (endT t ls gs h wn y x) k ≤ numAt gs k := fun k hk => endT_bt h1 w1 ll lg le hk
      generalize endT t ls gs h wn y x = EL at fl el cl ld bt pR
      generalize downL h wn (numAt EL) (numAt EL) = FL at fl cl ld pR
      refine ⟨_, rfl, .ref r, _, rfl, pR.th, fun H7 s7 => ?_⟩
      rw [pR.ok]
      refine ⟨_, rfl, ?_⟩
      have pR := pR.keep s7
      have s27 := s26.trans s7
      obtain ⟨vs, b0, e1, e2, e3, e4⟩ := row_at_ fl pR (y := 0) h1
      obtain ⟨vs', by', e1', _, e3', e4'⟩ := row_at_ fl pR hy
      have : vs' = vs := by
        rw [e1] at e1'
        exact (HO.tup.inj (Option.some.inj e1')).symm
      subst this
      have r0 := row_len fl (y := 0) h1
      have ry := row_len fl hy
      refine iteF ⟨_, rfl, r, vs', rfl, .inr (SqT.of e1), _, rfl, rfl, _, rfl, ?_⟩
      rw [e2, decide_eq_true (show V.int ((h : Nat) : Int) = V.int ((h : Nat) : Int) from rfl)]
      refine iteF ⟨_, rfl, r, vs', 0, _, rfl, rfl, SqT.of e1, atI_nat (j := 0) e3, b0, _, rfl, .inr (SqT.of e4), _, rfl, rfl, _, rfl, ?_⟩
      rw [List.length_map, r0, decide_eq_true (show V.int ((wn : Nat) : Int) = V.int ((wn : Nat) : Int) from rfl)]
      have hdx := s27 _ _ hd1
      refine iteF ⟨_, rfl, _, rfl, d, _, _, _, rfl, rfl, SqT.of hdx, atI_nat (j := 0) rfl, r, vs', _, _, rfl, rfl, SqT.of e1, atI_nat e3', _, rfl, d, _, _, _, rfl, rfl, SqT.of hdx, atI_nat (j := 1) rfl, by', _, _, .int (numAt FL (y * wn + x)), rfl, rfl, SqT.of e4', atI_nat (by rw [int_at ry hx, row_num hx]), _, rfl, _, rfl, q, _, _, _, rfl, rfl, SqT.of (s27 _ _ eq), atI_eq (j := n) (by omega) hdu, rfl, _, rfl, ?_⟩
      rw [cl, decide_eq_true rfl]
      refine iteF ?_
      refine ⟨_, rfl, _, rfl, _, rfl, r, _, wn, rfl, pR, fun f1 H8 s8 _ l8 => ?_⟩
      rw [flat_rows w1 fl] at l8
      refine ⟨f1, FL, h, wn, rfl, l8, fl, h1, h2, w1, w2, fun f2 H9 s9 _ l9 => ?_⟩
      rw [ld] at l9
      have s29 := (s27.trans s8).trans s9
      have hl9 := s29 _ _ hl1
      have hg9 := s29 _ _ hg1
      refine ⟨_, rfl, _, rfl, f2, l, g, _, _, _, rfl, SqL.of l9, SqL.of hl9, SqL.of hg9, for_it (walk_zip3 (xs := EL.map V.int) (ys := ls.map V.int) (zs := gs.map V.int) (by rw [List.length_map, List.length_map, el, ll]; exact Nat.le_refl _) (by rw [List.length_map, List.length_map, el, lg]; exact Nat.le_refl _)) (fun m σ H' => (∃ v10 v11 v12, σ = [some (.int (h : Nat)), some (.int (wn : Nat)), some (.ref l), some (.ref g), some (.ref d), some (.ref q), some (.int (0 + ((n : Nat) : Int))), some (.ref pa), some (.ref pb), some (.ref r), v10, v11, v12]) ∧ Same H9 H')
        ⟨⟨_, _, _, rfl⟩, Same.refl _⟩ (fun j σ H' _ q' => ⟨SqL.of (q'.2 _ _ l9), SqL.of (q'.2 _ _ hl9), SqL.of (q'.2 _ _ hg9)⟩) ?_ fun σ H' q' => ?_⟩
      · rintro m z σ H11 H10 hm ⟨⟨v10, v11, v12, rfl⟩, s10⟩ ⟨Tq, x1, x2, x3, rfl, hT, rfl, ex1, ex2, ex3⟩
        rw [List.length_map, el] at hm
        dsimp only at ex1 ex2 ex3
        rw [int_at el hm] at ex1
        rw [int_at ll hm] at ex2
        rw [int_at lg hm] at ex3
        cases ex1
        cases ex2
        cases ex3
        obtain ⟨b1, b2⟩ := bt m hm
        have tq := Same.new (o := .tup [V.int (numAt EL m), .int (numAt ls m), .int (numAt gs m)]) hT
        refine ⟨Tq, _, rfl, SqT.of upd_same, rfl, _, _, rfl, _, _, rfl, _, _, rfl, rfl, _, rfl, _, rfl, _, _, rfl, rfl, _, rfl, ?_⟩
        rw [decide_eq_true b1]
        refine iteT ⟨_, rfl, _, _, rfl, rfl, _, rfl, ?_⟩
        rw [decide_eq_true b2]
        exact iteF ⟨⟨_, _, _, rfl⟩, s10.trans tq⟩
      · obtain ⟨⟨v10, v11, v12, rfl⟩, s10⟩ := q'
        exact ⟨⟨_, _, _, _, _, _, _, rfl⟩, s29.trans s10⟩
    · obtain ⟨_, s2⟩ := q'
      exact k _ (s1.trans s2)
end
end K17
namespace K17
open PySem PySem.Spec PyProof.Rows L2 PySem.W LamX KA KW KU
open Evl (pss_cut tCut)
/-- the code object of a def that makes lambdas, and its table -/
structure LamT (K : PySem.W.Frag) (x : Str) (st : Stmt) (a : Addr) (d : FuncData) (c P : Addr) : Prop where
  ex : ∃ (oc : Value) (od : Option Addr) (kV doc pm : Value) (an : Option Addr) (ct : Value) (osl : Array (Option Value)),
    d = PySem.W.fnOf x x (defArgs st) (defBody st) (defScope st) .none kV doc pm an (.ref c) ct ∧ K.lookup a = some ⟨oc, od, .func d, osl⟩ ∧ PySem.W.codeIn K (.ref c) x = true
theorem pe_caught {X : Cx} (T : Top X.K X.mg) {c Pt : Addr} {k : Nat} {params : Arguments} {body : Expr} {scope : Scope} {t : XK → TE} {p lpos pos : Pos} (TB : TabB X.base X.mg c Pt) (hcode : X.env.code = .ref c) (hr : Room (k + 2) X.A) (hg : Gl X "_law_caught") (L : LamS X.env.scope scope)
    (hdef : defaultsOf params X.env = ([], [])) (hbind : ∀ (q : Str) (cl : List (Str × Addr)) (pm cv ctv : Value), bindArgs (PySem.W.kla_fn "<lambda>" q params body scope cl pm cv ctv) ⟨[], []⟩ = pure [])
    (hbody : ∀ (A : Around) (outer : List Env) (s : Shared) (H : Hp) (E : XK) (f c' : Addr), Room k (A.deeper (lamEnv X scope s.heap.objs.size f c')) → PE (lamCx X A outer s H E scope f c') body (t E)) :
    PE X (.Call (.Name "_law_caught" p) [.Lambda params body scope lpos] [] pos) (tLam [(Pt, X.env.qual ++ "<lambda>")] (TCaught X.K T.reel.C) t) := by
  obtain ⟨oc, od, kV, doc, pm, an, cdv, ct, osl, ed, lk, hcd⟩ := T._law_caught.f.ex
  have hb := bd__law_caught T
  rw [ed] at lk hb
  exact pe_lamcall (T := [(Pt, X.env.qual ++ "<lambda>")]) hg T._law_caught.m T._law_caught.f.kp lk hcd hb sc__law_caught rfl (.inl rfl)
    (caught_gives sc__law_caught rfl rfl rfl rfl T.reel.g (by decide) (by decide) (by decide) (by decide) (by decide)) TB hcode List.mem_cons_self (fun p hp e => by
      rcases List.mem_singleton.mp hp with rfl
      rfl) hr L hdef hbind hbody
/-- all but the state and the tables stands as it stood -/
def KpN (st lg : Addr) (H H' : Hp) : Prop := ∀ b o, H b = some o → b ≠ st → b ≠ lg → (∀ ps, o ≠ .tbl ps) → H' b = some o
theorem KpN.refl {st lg : Addr} {H : Hp} : KpN st lg H H := fun _ _ h _ _ _ => h
theorem KpN.trans {st lg : Addr} {H H1 H2 : Hp} (a : KpN st lg H H1) (b : KpN st lg H1 H2) : KpN st lg H H2 := fun c o h n1 n2 n3 => b c o (a c o h n1 n2 n3) n1 n2 n3
theorem KpN.kp {st lg : Addr} {H H1 : Hp} (a : Kp st lg H H1) : KpN st lg H H1 := fun c o h n1 n2 _ => a c o h n1 n2
theorem KpN.ext {st lg : Addr} {H H1 : Hp} (a : ExtN H H1) : KpN st lg H H1 := fun c o h _ _ n => a c o h n
theorem KpN.new {st lg p : Addr} {H : Hp} {o : HO} (h : H p = none) : KpN st lg H (upd H p o) := .kp (.same (Same.new h))
abbrev lamQ : Str := (envOfC "_law_are_refused" (defScope s__law_are_refused) 0 0 .none).qual ++ "<lambda>"
abbrev tabs (Pt : Addr) : List (Addr × Str) := [(Pt, lamQ)]
theorem tabs_kp {st lg cl : Addr} {n : Nat} {L : List (Addr × Str)} {H H' : Hp} (t : Tabs L H) (S : StAt H st lg cl n) (e : Kp st lg H H') : Tabs L H' := by
  obtain ⟨_, _, _, _, S', _⟩ := S
  intro p hp
  obtain ⟨ps, h1, h2, h3⟩ := t p hp
  refine ⟨ps, e _ _ h1 (ne_of h1 S'.d (by intro z; cases z)) (ne_of h1 S'.l (by intro z; cases z)), h2, fun pos cv hc => ?_⟩
  obtain ⟨c, e1, e2⟩ := h3 pos cv hc
  exact ⟨c, e1, e _ _ e2 (ne_of e2 S'.d (by intro z; unfold CodeO at z; cases z)) (ne_of e2 S'.l (by intro z; unfold CodeO at z; cases z))⟩
theorem stAt_ext {H H' : Hp} {st lg cl : Addr} {n : Nat} (S : StAt H st lg cl n) (e : ExtN H H') : StAt H' st lg cl n := by
  obtain ⟨a, b, c, d, s, h⟩ := S
  exact ⟨a, b, c, d, { s with d := e _ _ s.d (fun _ z => by cases z), l := e _ _ s.l (fun _ z => by cases z), c := e _ _ s.c (fun _ z => by cases z) }, h⟩
theorem Pl.kpN {K : PySem.W.Frag} {H H' : Hp} {st lg : Addr} {x : V} {b : Bool} (h : Pl K H x b) (n : ∀ a, x = .ref a → a ≠ st ∧ a ≠ lg) (e : KpN st lg H H') : Pl K H' x b := by
  cases h with
  | int i => exact .int i
  | bl i => exact .bl i
  | str i => exact .str i
  | non => exact .non
  | tup q => exact .tup (e _ _ q (n _ rfl).1 (n _ rfl).2 (fun _ z => by cases z))
  | lst q => exact .lst (e _ _ q (n _ rfl).1 (n _ rfl).2 (fun _ z => by cases z))
  | dK q => exact .dK (e _ _ q (n _ rfl).1 (n _ rfl).2 (fun _ z => by cases z))
/-- a value that stands whatever is drawn -/
structure Std (K : PySem.W.Frag) (H : Hp) (st lg : Addr) (x : V) : Prop where
  pl : ∃ b, Pl K H x b
  off : ∀ a, x = .ref a → a ≠ st ∧ a ≠ lg
theorem Std.kpN {K : PySem.W.Frag} {H H' : Hp} {st lg : Addr} {x : V} (h : Std K H st lg x) (e : KpN st lg H H') : Std K H' st lg x := by
  obtain ⟨⟨b, p⟩, n⟩ := h
  exact ⟨⟨b, p.kpN n e⟩, n⟩
theorem Std.flat {K : PySem.W.Frag} {H : Hp} {st lg : Addr} {x : V} {b : Bool} (p : Pl K H x b) (r : ∀ a, x ≠ .ref a) : Std K H st lg x := ⟨⟨b, p⟩, fun a e => absurd e (r a)⟩
theorem Std.updL {K : PySem.W.Frag} {H : Hp} {st lg er : Addr} {x : V} {xs ys : List V} (h : Std K H st lg x) (hl : H er = some (.lst xs)) : Std K (upd H er (.lst ys)) st lg x := by
  obtain ⟨⟨b, p⟩, n⟩ := h
  refine ⟨⟨b, ?_⟩, n⟩
  cases p with
  | int i => exact .int i
  | bl i => exact .bl i
  | str i => exact .str i
  | non => exact .non
  | tup q => exact .tup ((upd_ne (ne_of q hl (by intro z; cases z))).trans q)
  | @lst a zs q =>
    by_cases e : a = er
    · subst e
      exact .lst upd_same
    · exact .lst ((upd_ne e).trans q)
  | dK q => exact .dK ((upd_ne (ne_of q hl (by intro z; cases z))).trans q)
theorem Std.same {K : PySem.W.Frag} {H H' : Hp} {st lg : Addr} {x : V} (h : Std K H st lg x) (e : Same H H') : Std K H' st lg x := h.kpN (.kp (.same e))
/-- the list of the errors that were caught, all of the class at C -/
structure Errs (H : Hp) (st lg er C : Addr) (as : List Addr) : Prop where
  l : H er = some (.lst (as.map V.ref))
  n1 : er ≠ st
  n2 : er ≠ lg
  e : ∀ a ∈ as, H a = some (ExV (.ref C) none a) ∧ a ≠ st ∧ a ≠ lg
theorem exV_tbl {c : Value} {d : Option Addr} {a : Addr} (ps : Array Value) : ExV c d a ≠ .tbl ps := fun z => by
  unfold ExV at z
  cases z
theorem exV_lst {c : Value} {d : Option Addr} {a : Addr} (xs : List V) : ExV c d a ≠ .lst xs := fun z => by
  unfold ExV at z
  cases z
theorem Errs.kpN {H H' : Hp} {st lg er C : Addr} {as : List Addr} (h : Errs H st lg er C as) (k : KpN st lg H H') : Errs H' st lg er C as :=
  ⟨k _ _ h.l h.n1 h.n2 (fun _ z => by cases z), h.n1, h.n2, fun a ha => ⟨k _ _ (h.e a ha).1 (h.e a ha).2.1 (h.e a ha).2.2 exV_tbl, (h.e a ha).2⟩⟩
theorem Errs.app {H : Hp} {st lg er C a : Addr} {as : List Addr} (h : Errs H st lg er C as) (ha : H a = some (ExV (.ref C) none a)) (h1 : a ≠ st) (h2 : a ≠ lg) : Errs (upd H er (.lst (as.map V.ref ++ [.ref a]))) st lg er C (as ++ [a]) := by
  have ne : ∀ b, H b = some (ExV (.ref C) none b) → b ≠ er := fun b hb => ne_of hb h.l (exV_lst _)
  refine ⟨by rw [upd_same]; simp, h.n1, h.n2, fun b hb => ?_⟩
  rcases List.mem_append.mp hb with hb | hb
  · exact ⟨(upd_ne (ne b (h.e b hb).1)).trans (h.e b hb).1, (h.e b hb).2⟩
  · rcases List.mem_singleton.mp hb with rfl
    exact ⟨(upd_ne (ne b ha)).trans ha, h1, h2⟩
theorem stAt_upd {H : Hp} {st lg cl er : Addr} {n : Nat} {xs ys : List V} (S : StAt H st lg cl n) (h : H er = some (.lst xs)) (h1 : er ≠ st) (h2 : er ≠ lg) (h3 : er ≠ cl) : StAt (upd H er (.lst ys)) st lg cl n := by
  obtain ⟨a, b, c, d, s, h'⟩ := S
  exact ⟨a, b, c, d, { s with d := (upd_ne h1.symm).trans s.d, l := (upd_ne h2.symm).trans s.l, c := (upd_ne h3.symm).trans s.c }, h'⟩
theorem tabs_upd {L : List (Addr × Str)} {H : Hp} {er : Addr} {xs ys : List V} (t : Tabs L H) (h : H er = some (.lst xs)) : Tabs L (upd H er (.lst ys)) := by
  intro p hp
  obtain ⟨ps, h1, h2, h3⟩ := t p hp
  refine ⟨ps, (upd_ne (ne_of h1 h (by intro z; cases z))).trans h1, h2, fun pos cv hc => ?_⟩
  obtain ⟨c, e1, e2⟩ := h3 pos cv hc
  exact ⟨c, e1, (upd_ne (ne_of e2 h (by intro z; unfold CodeO at z; cases z))).trans e2⟩
theorem KpN.upd {H X : Hp} {st lg er : Addr} {o : HO} (k : KpN st lg H X) (h : ∀ u, H er = some u → ∃ ps, u = .tbl ps) : KpN st lg H (upd X er o) := fun b u e n1 n2 n3 => by
  have : b ≠ er := fun z => by
    subst z
    obtain ⟨ps, q⟩ := h u e
    exact n3 ps q
  rw [upd_ne this]
  exact k b u e n1 n2 n3
theorem KpN.free {H X : Hp} {st lg er : Addr} (k : KpN st lg H X) (h : X er = none) (n1 : er ≠ st) (n2 : er ≠ lg) : ∀ u, H er = some u → ∃ ps, u = .tbl ps := fun u e => by
  by_cases c : ∃ ps, u = .tbl ps
  · exact c
  · have z := k er u e n1 n2 (fun ps q => c ⟨ps, q⟩)
    rw [h] at z
    cases z
theorem kit_self {K : PySem.W.Frag} {C : Addr} : PySem.W.kitOne K (.ref C) (.ref C) = some true := by
  unfold PySem.W.kitOne
  rw [if_pos (by simp)]
theorem caught_err {K : PySem.W.Frag} {mg : Str → Option Value} (T : Top K mg) {n : Str} (X : ExcT K mg n T.reel.C) {Pt st lg cl : Addr} {m m' : Nat} {t : XK → TE} {σ : L2.St} {H : Hp} {Q : VK} (hT : Tabs (tabs Pt) H) (S : StAt H st lg cl m)
    (A : ∀ (H1 : Hp) (E : XK) (Q1 : VK), ExtN H H1 → StAt H1 st lg cl m → (∀ H2, Kp st lg H1 H2 → StAt H2 st lg cl m' → E (.ref X.C) none H2) → t E σ H1 Q1)
    (k : ∀ a H', StAt H' st lg cl m' → Tabs (tabs Pt) H' → KpN st lg H H' → H' a = some (ExV (.ref X.C) none a) → a ≠ st → a ≠ lg → Q (.ref a) H') : tLam (tabs Pt) (TCaught K T.reel.C) t σ H Q := by
  refine ⟨hT, fun H1 e1 t1 Q1 hQ1 => A H1 _ Q1 e1 (stAt_ext S e1) fun H2 kp S2 => ⟨X.exm T.reel, fun a ha => ?_⟩⟩
  have t2 := tabs_kp t1 (stAt_ext S e1) kp
  exact k a _ (S2.same (Same.new ha)) (t2.ext (Same.new ha)) (((KpN.ext e1).trans (.kp kp)).trans (.new ha)) upd_same (S2.off ha).1 (S2.off ha).2
theorem ite_same {x : V} {A B : Prop} {d : Decidable (x = x)} (h : B) : if (!@decide (x = x) d) = true then A else B := by
  rw [if_neg (by simp)]
  exact h
theorem pair_fits {i j : Int} (h1 : -65535 ≤ i) (h2 : i ≤ 65535) (h3 : -65535 ≤ j) (h4 : j ≤ 65535) : (PyData.tuple [.int i, .int j]).showable = true ∧ (PyData.tuple [.int i, .int j]).hasDict = false ∧ (PyData.tuple [.int i, .int j]).depth ≤ 60 ∧ (PyData.tuple [.int i, .int j]).shown.length ≤ sizeLine := by
  obtain ⟨a, b, c⟩ := int_small h1 h2
  obtain ⟨a', b', c'⟩ := int_small h3 h4
  refine ⟨by simp [PyData.showable, PyData.showableAll] at c c' ⊢; exact ⟨c, c'⟩, by simp [PyData.hasDict, PyData.hasDictAll], by simp [PyData.depth, PyData.depthAll], small_fits (by simp [PyData.leavesShort, PyData.leavesShortAll] at a a' ⊢; exact ⟨a, a'⟩) ?_⟩
  simp only [PyData.weight, PyData.weightAll] at b b' ⊢
  have : (2 : Nat) ^ 20 = 1048576 := by decide
  omega
/-- the law's code object, and its table: FnG of a def that makes lambdas -/
theorem fnG_ofC {CX : CXT} {P : Program} {w : World} {K : PySem.W.Frag} {mg : Str → Option Value} {base : Heap} {k : Nat} {f c Pt : Addr} {x : Str} {st : Stmt} {fd : FuncData} {N ps : List Str} {sp : Sp} (LT : LamT K x st f fd c Pt) (S : FnScope N ps (defScope st))
    (len : ∀ vs H Q E, sp vs H Q E → vs.length = ps.length)
    (hbody : ∀ (A : Around) (outer : List Env) (s : Shared) (H : Hp) (vs : List V) (Q : VK) (E : XK), Room k (A.deeper (envOfC x (defScope st) s.heap.objs.size f (.ref c))) → A.guards = some [] → sp vs H Q E →
      ∃ t, PSs (cxOf CX P w K mg base N x (defScope st) f (.ref c) A outer s H E) (defBody st) t ∧ t { nx := fun _ H' => Q .non H', rt := Q } (L2.start N vs) H) : FnG P w K mg base CX (k + 1) f fd ps sp := by
  obtain ⟨oc, od, kV, doc, pm, an, ct, osl, rfl, lk, hcd⟩ := LT.ex
  exact ⟨len, fun A outer s H args us vs Q E hr hg e0 hb r h => run_ofS lk hcd S hr e0 hb r (len _ _ _ _ h) fun hr' => hbody A outer s H vs Q E hr' hg h⟩
/-! ### calls by names -/
section
variable {K : PySem.W.Frag} {x qual : Str} {st : Stmt} {f : Addr} {fd : FuncData}
theorem Fun.kw3 {a b c : Str} (F : Fun K x qual st f fd) (h : ∀ (kV doc pm : Value) (an : Option Addr) (cdv ct u v z : Value), bindArgs (PySem.W.fnOf x qual (defArgs st) (defBody st) (defScope st) .none kV doc pm an cdv ct) ⟨[], [(c, u), (b, v), (a, z)]⟩ = pure [(a, z), (b, v), (c, u)]) :
    KBn K fd [a, b, c] 0 [c, b, a] (fun _ ws => ws.reverse) (fun _ zs => zs.reverse) := by
  obtain ⟨oc, od, kV, doc, pm, an, cdv, ct, osl, rfl, lk, hcd⟩ := F.ex
  refine ⟨fun s us ws X l1 l2 => ?_, fun {_ _ zs ws} _ r => ?_⟩
  · match us, ws, l1, l2 with
    | [], [u, v, z], _, _ => exact .of_eq (h kV doc pm an cdv ct u v z)
  · clear h
    have rev : ∀ {zs : List V} {ws : List Value}, Vals zs ws → Vals zs.reverse ws.reverse := fun {zs ws} r => by
      induction r with
      | nil => exact .nil
      | cons h _ ih =>
        rw [List.reverse_cons, List.reverse_cons]
        exact ih.append (.cons h .nil)
    exact rev r
def swap3 {α : Type} : List α → List α
  | [x, y, z] => [x, z, y]
  | l => l
theorem Fun.kw3m {a b c : Str} (F : Fun K x qual st f fd) (h : ∀ (kV doc pm : Value) (an : Option Addr) (cdv ct u v z : Value), bindArgs (PySem.W.fnOf x qual (defArgs st) (defBody st) (defScope st) .none kV doc pm an cdv ct) ⟨[], [(a, u), (c, v), (b, z)]⟩ = pure [(a, u), (b, z), (c, v)]) :
    KBn K fd [a, b, c] 0 [a, c, b] (fun _ ws => swap3 ws) (fun _ zs => swap3 zs) := by
  obtain ⟨oc, od, kV, doc, pm, an, cdv, ct, osl, rfl, lk, hcd⟩ := F.ex
  refine ⟨fun s us ws X l1 l2 => ?_, fun {_ _ zs ws} _ r => ?_⟩
  · match us, ws, l1, l2 with
    | [], [u, v, z], _, _ => exact .of_eq (h kV doc pm an cdv ct u v z)
  · clear h
    match zs, ws, r with
    | [], [], _ => exact .nil
    | [_], [_], r => exact r
    | [_, _], [_, _], r => exact r
    | [_, _, _], [_, _, _], .cons h1 (.cons h2 (.cons h3 .nil)) => exact .cons h1 (.cons h3 (.cons h2 .nil))
    | _ :: _ :: _ :: _ :: _, _ :: _ :: _ :: _ :: _, r => exact r
end
/-! ### what a reading promises at the law's own values -/
end K17
namespace K17
open PySem PySem.Spec PyProof.Rows L2 PySem.W LamX KA KW KU KL KT
open Evl (pss_cut tCut)
/-! ### what is refused: the words -/
section
variable {K : PySem.W.Frag} {H H' : Hp} {st lg cl : Addr} {m m' : Nat}
theorem ExtN.of (s : Same H H') : ExtN H H' := fun b o e _ => s b o e
theorem Tp.kpN (S : StAt H st lg cl m) (k : KpN st lg H H') : Tp H H' := fun b xs e => by
  obtain ⟨_, _, _, _, s, _⟩ := S
  exact k _ _ e (ne_of e s.d (by intro z; cases z)) (ne_of e s.l (by intro z; cases z)) (fun _ z => by cases z)
/-- the state stands in both, all else is kept -/
structure Kn (st lg cl : Addr) (H H' : Hp) : Prop where
  a : ∃ m, StAt H st lg cl m
  b : ∃ m, StAt H' st lg cl m
  k : KpN st lg H H'
theorem Kn.tp (n : Kn st lg cl H H') : Tp H H' := Tp.kpN n.a.choose_spec n.k
theorem Kn.trans {H'' : Hp} (p : Kn st lg cl H H') (q : Kn st lg cl H' H'') : Kn st lg cl H H'' := ⟨p.a, q.b, p.k.trans q.k⟩
theorem Nt.kn {x : V} (h : Nt H x) (n : Kn st lg cl H H') : Nt H' x := by
  obtain ⟨⟨_, _, _, _, _, s, _⟩, ⟨_, _, _, _, _, s', _⟩, k⟩ := n
  cases h with
  | int i => exact .int i
  | bl i => exact .bl i
  | str i => exact .str i
  | non => exact .non
  | @lst a xs e =>
    by_cases c : a = lg
    · subst c
      exact .lst s'.l
    · exact .lst (k _ _ e (ne_of e s.d (by intro z; cases z)) c (fun _ z => by cases z))
  | @dK a kvs e =>
    by_cases c : a = st
    · subst c
      exact .dK s'.d
    · exact .dK (k _ _ e c (ne_of e s.l (by intro z; cases z)) (fun _ z => by cases z))
theorem Pl.kn {x : V} {b : Bool} (h : Pl K H x b) (n : Kn st lg cl H H') : Pl K H' x b := by
  have t := n.tp
  obtain ⟨⟨_, _, _, _, _, s, _⟩, ⟨_, _, _, _, _, s', _⟩, k⟩ := n
  cases h with
  | int i => exact .int i
  | bl i => exact .bl i
  | str i => exact .str i
  | non => exact .non
  | tup e => exact .tup (t _ _ e)
  | @lst a xs e =>
    by_cases c : a = lg
    · subst c
      exact .lst s'.l
    · exact .lst (k _ _ e (ne_of e s.d (by intro z; cases z)) c (fun _ z => by cases z))
  | @dK a kvs e =>
    by_cases c : a = st
    · subst c
      exact .dK s'.d
    · exact .dK (k _ _ e c (ne_of e s.l (by intro z; cases z)) (fun _ z => by cases z))
theorem Rw.kn {x : V} {o : Option (List V)} (h : Rw K H x o) (n : Kn st lg cl H H') : Rw K H' x o := by
  cases h with
  | no h => exact .no (h.kn n)
  | tup q p l => exact .tup (n.tp _ _ q) (fun x hx => (p x hx).imp fun b h => h.kn n) l
theorem Th.kn {x : V} {o : Option (List (Option (List V)))} (h : Th K H x o) (n : Kn st lg cl H H') : Th K H' x o := by
  cases h with
  | no h => exact .no (h.kn n)
  | tup q p l => exact .tup (n.tp _ _ q) ⟨p.1, fun i v hv => by
      obtain ⟨o, a, b⟩ := p.2 i v hv
      exact ⟨o, a, b.kn n⟩⟩ l
theorem Kn.kp (S : StAt H st lg cl m) (S' : StAt H' st lg cl m') (k : Kp st lg H H') : Kn st lg cl H H' := ⟨⟨_, S⟩, ⟨_, S'⟩, .kp k⟩
theorem Kn.same (S : StAt H st lg cl m) (k : Same H H') : Kn st lg cl H H' := ⟨⟨_, S⟩, ⟨_, S.same k⟩, .kp (.same k)⟩
theorem Kn.ext (S : StAt H st lg cl m) (k : ExtN H H') : Kn st lg cl H H' := ⟨⟨_, S⟩, ⟨_, stAt_ext S k⟩, .ext k⟩
theorem th_is {a : Addr} {o : Option (List (Option (List V)))} {nss : List (List Int)} {w : Nat} (h : Th K H (.ref a) o) (p : Pn H a nss w) : o = some (nss.map fun ns => some (ns.map V.int)) := by
  obtain ⟨xs, e, r⟩ := p.rows
  cases h with
  | no h =>
    cases h with
    | lst q => rw [e] at q; cases q
    | dK q => rw [e] at q; cases q
  | @tup _ vs os q rw' l =>
    rw [e] at q
    cases (HO.tup.inj (Option.some.inj q))
    congr 1
    refine List.ext_getElem? fun i => ?_
    by_cases c : i < xs.length
    · obtain ⟨o, h1, h2⟩ := rw'.2 i _ (List.getElem?_eq_getElem c)
      obtain ⟨b, ns, x1, x2, x3⟩ := r.2 i _ (List.getElem?_eq_getElem c)
      rw [x1] at h2
      rw [h1, List.getElem?_map, x2]
      cases h2 with
      | no h =>
        cases h with
        | lst q => rw [x3] at q; cases q
        | dK q => rw [x3] at q; cases q
      | tup q _ _ =>
        rw [x3] at q
        cases (HO.tup.inj (Option.some.inj q))
        rfl
    · rw [List.getElem?_eq_none (by rw [← rw'.1]; omega), List.getElem?_eq_none (by rw [List.length_map, ← r.1]; omega)]
end
/-- no bounds above these -/
def NoB (ls : List Int) (h w : Nat) (p : Option (List (Option (List V)))) : Prop := ∀ mss : List (List Int), p = some (mss.map fun ns => some (ns.map V.int)) → mss.length = h → (∀ r ∈ mss, r.length = w) → leB (rowsOf ls h w) mss = false
theorem map_rows {f : List Int → Option (List V)} (hf : ∀ a b, f a = f b → a = b) {a b : List (List Int)} (e : a.map f = b.map f) : a = b := by
  induction a generalizing b with
  | nil =>
    cases b with
    | nil => rfl
    | cons x b => cases e
  | cons y a ih =>
    cases b with
    | nil => cases e
    | cons x b =>
      rw [List.map_cons, List.map_cons] at e
      have e1 := (List.cons.inj e).1
      have e2 := (List.cons.inj e).2
      rw [hf _ _ e1, ih e2]
theorem some_ints (a b : List Int) (e : (some (a.map V.int) : Option (List V)) = some (b.map V.int)) : a = b := ints_inj (Option.some.inj e)
theorem noB_none {ls : List Int} {h w : Nat} : NoB ls h w none := fun _ e => by cases e
theorem noB_nil {ls : List Int} {h w : Nat} (h1 : 1 ≤ h) : NoB ls h w (some []) := fun mss e l => by
  have : mss = [] := by
    cases mss with
    | nil => rfl
    | cons a b => cases e
  subst this
  exact absurd l (by show ¬ 0 = h; omega)
theorem noB_non {ls : List Int} {h w : Nat} : NoB ls h w (some [some [V.non]]) := fun mss e => by
  match mss, e with
  | [ns], e =>
    have e : some [V.non] = (some (ns.map V.int) : Option (List V)) := (List.cons.inj (Option.some.inj e)).1
    match ns, e with
    | [], e => cases e
    | a :: b, e => cases e
  | [], e => exact absurd (congrArg List.length (Option.some.inj e)) (by simp)
  | _ :: _ :: _, e => exact absurd (congrArg List.length (Option.some.inj e)) (by simp)
theorem noB_sunk {ls ss : List Int} {h w k : Nat} (w1 : 1 ≤ w) (ll : ls.length = h * w) (lg : ss.length = h * w) (hk : k < h * w) (e : numAt ss k < numAt ls k) : NoB ls h w (some ((rowsOf ss h w).map fun ns => some (ns.map V.int))) := fun mss e' _ _ => by
  have : mss = rowsOf ss h w := (map_rows some_ints (Option.some.inj e')).symm
  subst this
  cases c : leB (rowsOf ls h w) (rowsOf ss h w)
  · rfl
  · have := (leB_rows w1 ll lg).mp c k hk
    omega
theorem noB_wide {ls : List Int} {h w : Nat} {nss : List (List Int)} (h1 : 1 ≤ nss.length) (l : ∀ r ∈ nss, r.length = w + 1) : NoB ls h w (some (nss.map fun ns => some (ns.map V.int))) := fun mss e' _ ws => by
  have : mss = nss := (map_rows some_ints (Option.some.inj e')).symm
  subst this
  obtain ⟨r, hr⟩ := List.exists_mem_of_length_pos (l := mss) h1
  have := l r hr
  have := ws r hr
  omega
section
variable {K : PySem.W.Frag} {C1 C2 C3 C4 : Addr} {H : Hp} {Q : V → Hp → Prop} {E : XK} {ls gs : List Int} {h w : Nat} {pa pb : Addr} {x y z a b u : V} {o p : Option (List (Option (List V)))} {b1 b2 b3 : Bool}
theorem spans_bad (tx : Th K H x o) (ty : Th K H y p) (e : rowsB o = false) (k : ∀ H', Same H H' → E (.ref C1) none H') : spLiftSpans K C1 C2 [x, y] H Q E := by
  refine ⟨x, y, o, p, rfl, tx, ty, fun _ => k, fun a' n' w' ea pn' => ?_, fun a' n' w' _ _ ea pn' => ?_⟩
  · subst ea
    rw [th_pn tx pn'] at e
    cases e
  · subst ea
    rw [th_pn tx pn'] at e
    cases e
theorem end_bad (tx : Th K H x o) (ty : Th K H y p) (pa' : Pl K H a b1) (pb' : Pl K H b b2) (pu : Pl K H u b3) (e : rowsB o = false) (k : ∀ H', Same H H' → E (.ref C1) none H') : spLiftEnd K C1 C2 C3 C4 [x, y, a, b, u] H Q E := by
  refine ⟨x, y, a, b, u, o, p, _, _, _, rfl, tx, ty, pa', pb', pu, fun _ => k, fun a' n' w' ea pn' => ?_, fun a' n' w' _ _ ea pn' => ?_⟩
  · subst ea
    rw [th_pn tx pn'] at e
    cases e
  · subst ea
    rw [th_pn tx pn'] at e
    cases e
theorem spans_no (pA : Pn H pa (rowsOf ls h w) w) (ty : Th K H y p) (no : NoB ls h w p) (k : ∀ H', Same H H' → E (.ref C2) none H') : spLiftSpans K C1 C2 [.ref pa, y] H Q E := by
  refine ⟨.ref pa, y, _, p, rfl, pA.th, ty, fun z => by (rw [pA.ok] at z; cases z), fun a' n' w' ea pn' _ => k, fun a' n' w' b' m' ea pn' eb qn' lm le' => ?_⟩
  cases ea
  subst eb
  obtain ⟨e1, e2⟩ := pA.uniq pn'
  rw [e1, rowsOf_len] at lm
  rw [e2] at qn'
  have := no m' (th_is ty qn') lm qn'.ws
  rw [e1, this] at le'
  cases le'
theorem end_no (pA : Pn H pa (rowsOf ls h w) w) (ty : Th K H y p) (no : NoB ls h w p) (pa' : Pl K H a b1) (pb' : Pl K H b b2) (pu : Pl K H u b3) (k : ∀ H', Same H H' → E (.ref C2) none H') : spLiftEnd K C1 C2 C3 C4 [.ref pa, y, a, b, u] H Q E := by
  refine ⟨.ref pa, y, a, b, u, _, p, _, _, _, rfl, pA.th, ty, pa', pb', pu, fun z => by (rw [pA.ok] at z; cases z), fun a' n' w' ea pn' _ => k, fun a' n' w' b' m' ea pn' eb qn' lm le' => ?_⟩
  cases ea
  subst eb
  obtain ⟨e1, e2⟩ := pA.uniq pn'
  rw [e1, rowsOf_len] at lm
  rw [e2] at qn'
  have := no m' (th_is ty qn') lm qn'.ws
  rw [e1, this] at le'
  cases le'
theorem end_spot (w1 : 1 ≤ w) (ll : ls.length = h * w) (lg : gs.length = h * w) (le : ∀ k, k < h * w → numAt ls k ≤ numAt gs k) (pA : Pn H pa (rowsOf ls h w) w) (pB : Pn H pb (rowsOf gs h w) w) (pa' : Pl K H a b1) (pb' : Pl K H b b2) (pu : Pl K H u b3) (no : spotB h w a b = false)
    (k : ∀ H', Same H H' → E (.ref C3) none H') : spLiftEnd K C1 C2 C3 C4 [.ref pa, .ref pb, a, b, u] H Q E := by
  have lb : leB (rowsOf ls h w) (rowsOf gs h w) = true := (leB_rows w1 ll lg).mpr le
  refine ⟨.ref pa, .ref pb, a, b, u, _, _, _, _, _, rfl, pA.th, pB.th, pa', pb', pu, fun z => by (rw [pA.ok] at z; cases z), fun a' n' w' ea pn' no' => ?_, fun a' n' w' b' m' ea pn' eb qn' lm le' => ?_⟩
  · cases ea
    obtain ⟨e1, e2⟩ := pA.uniq pn'
    rw [e1, e2] at no'
    exact absurd ⟨pb, _, rfl, pB, by rw [rowsOf_len, rowsOf_len], lb⟩ no'
  · cases ea
    obtain ⟨e1, e2⟩ := pA.uniq pn'
    rw [e1, e2, rowsOf_len]
    refine ⟨fun _ => k, fun z => ?_, fun yn xn t ey ex hy hx => ?_⟩
    · rw [no] at z
      cases z
    · subst ey ex
      rw [spot_ok hy hx] at no
      cases no
theorem end_upper (h1 : 1 ≤ h) (w1 : 1 ≤ w) (ll : ls.length = h * w) (lg : gs.length = h * w) (le : ∀ k, k < h * w → numAt ls k ≤ numAt gs k) (pA : Pn H pa (rowsOf ls h w) w) (pB : Pn H pb (rowsOf gs h w) w) (pu : Pl K H u b3) (nu : isB u = false)
    (k : ∀ H', Same H H' → E (.ref C4) none H') : spLiftEnd K C1 C2 C3 C4 [.ref pa, .ref pb, .int 0, .int 0, u] H Q E := by
  have lb : leB (rowsOf ls h w) (rowsOf gs h w) = true := (leB_rows w1 ll lg).mpr le
  refine ⟨.ref pa, .ref pb, _, _, u, _, _, _, _, _, rfl, pA.th, pB.th, .int _, .int _, pu, fun z => by (rw [pA.ok] at z; cases z), fun a' n' w' ea pn' no' => ?_, fun a' n' w' b' m' ea pn' eb qn' lm le' => ?_⟩
  · cases ea
    obtain ⟨e1, e2⟩ := pA.uniq pn'
    rw [e1, e2] at no'
    exact absurd ⟨pb, _, rfl, pB, by rw [rowsOf_len, rowsOf_len], lb⟩ no'
  · cases ea
    obtain ⟨e1, e2⟩ := pA.uniq pn'
    rw [e1, e2, rowsOf_len]
    refine ⟨fun z => ?_, fun _ _ => k, fun yn xn t ey ex hy hx et => ?_⟩
    · have so : spotB h w (.int 0) (.int 0) = true := spot_ok (y := 0) (x := 0) h1 w1
      rw [so] at z
      cases z
    · subst et
      cases nu
end
/-- new tuples of ints -/
inductive TL (H : Hp) : List V → List (List Int) → Prop
  | nil : TL H [] []
  | cons {p : Addr} {r : List Int} {vs : List V} {rs : List (List Int)} (e : H p = some (.tup (r.map V.int))) (t : TL H vs rs) : TL H (.ref p :: vs) (r :: rs)
theorem TL.tp {H H' : Hp} {vs : List V} {rs : List (List Int)} (p : TL H vs rs) (s : Tp H H') : TL H' vs rs := by
  induction p with
  | nil => exact .nil
  | cons e _ ih => exact .cons (s _ _ e) ih
theorem TL.append {H : Hp} {vs us : List V} {rs ss : List (List Int)} (p : TL H vs rs) (q : TL H us ss) : TL H (vs ++ us) (rs ++ ss) := by
  induction p with
  | nil => exact q
  | cons e _ ih => exact .cons e ih
theorem TL.len {H : Hp} {vs : List V} {rs : List (List Int)} (p : TL H vs rs) : vs.length = rs.length := by
  induction p with
  | nil => rfl
  | cons _ _ ih => simp [ih]
theorem TL.rws {K : PySem.W.Frag} {H : Hp} {vs : List V} {rs : List (List Int)} (p : TL H vs rs) (l : ∀ r ∈ rs, r.length ≤ 1000) : Rws K H vs (rs.map fun ns => some (ns.map V.int)) := by
  refine ⟨by rw [p.len, List.length_map], ?_⟩
  induction p with
  | nil => intro i v hv; cases hv
  | @cons q r vs rs e t ih =>
    intro i v hv
    cases i with
    | zero =>
      refine ⟨_, rfl, ?_⟩
      have : v = .ref q := (Option.some.inj hv).symm
      subst this
      refine .tup e (fun x hx => ?_) (by rw [List.length_map]; exact l r List.mem_cons_self)
      obtain ⟨i, _, rfl⟩ := List.mem_map.mp hx
      exact ⟨_, .int i⟩
    | succ i => exact ih (fun r hr => l r (List.mem_cons_of_mem _ hr)) i v hv
end K17
namespace K17
open PySem PySem.Spec PyProof.Rows L2 PySem.W LamX KA KW KU KL KT
open Evl (pss_cut tCut)
/-! ### what is refused -/
section
variable {P : Program} {w : World} {K : PySem.W.Frag} {mg : Str → Option Value} {base : Heap} (T : Top K mg)
def spAreRefused (Pt : Addr) : Sp := fun vs H Q _ => ∃ (st lg cl l g : Addr) (ls gs : List Int) (h w m : Nat), vs = [.ref st, .int h, .int w, .ref l, .ref g] ∧ H l = some (.lst (ls.map V.int)) ∧ H g = some (.lst (gs.map V.int)) ∧ (l ≠ st ∧ l ≠ lg) ∧ (g ≠ st ∧ g ≠ lg) ∧ ls.length = h * w ∧ gs.length = h * w ∧ 1 ≤ h ∧ h ≤ 16 ∧ 1 ≤ w ∧ w ≤ 16 ∧
  (∀ k, k < h * w → numAt ls k ≤ numAt gs k) ∧ m ≤ 900000 ∧ StAt H st lg cl m ∧ Tabs (tabs Pt) H ∧
  ∀ H', StAt H' st lg cl (m + 8) → Tabs (tabs Pt) H' → KpN st lg H H' → Q (.bl true) H'
theorem ok_are_refused {c Pt : Addr} (LT : LamT K "_law_are_refused" s__law_are_refused T._law_are_refused.a T._law_are_refused.d c Pt) (TB : TabB base mg c Pt) : FnG P w K mg base (L2.CX P w) 12 T._law_are_refused.a T._law_are_refused.d ["state", "tall", "wide", "least", "most"] (spAreRefused Pt) := by
  refine fnG_ofC LT sc__law_are_refused (fun vs H Q E h => ?_) (fun A outer s0 H vs Q E hr hg' h => ?_)
  · obtain ⟨st, lg, cl, l, g, ls, gs, h, w, m, rfl, _⟩ := h
    rfl
  · obtain ⟨st, lg, cl, l, g, ls, gs, h, wn, m, rfl, hl, hg, nl, ng, ll, lg', h1, h2, w1, w2, le, hm, S, Tb, k⟩ := h
    have hr9 : Room (9 + 2) (A.deeper (envOfC "_law_are_refused" (defScope s__law_are_refused) s0.heap.objs.size T._law_are_refused.a (.ref c))) := hr
    refine ⟨_, pss_cons (ps_asg (pe_tup (pa_cons (pe_call (ok_llines T) (hr.mono (by decide)) (by rfl) T._law_lines_of.m T._law_lines_of.f.kp (bd__law_lines_of T) .nil passE (pa_cons (pv 3) (pa_cons (pv 2) pa_nil))) (pa_cons (pe_call (ok_llines T) (hr.mono (by decide)) (by rfl) T._law_lines_of.m T._law_lines_of.f.kp (bd__law_lines_of T) .nil passE (pa_cons (pv 4) (pa_cons (pv 2) pa_nil))) pa_nil))) (pg_tup rfl (pgs_cons (pg_name (i := 11) sc__law_are_refused.nd rfl (.inr rfl)) (pgs_cons (pg_name (i := 10) sc__law_are_refused.nd rfl (.inr rfl)) pgs_nil))))
      (pss_cons (ps_set (i := 8) sc__law_are_refused.nd rfl (.inr rfl) (pe_call (ok_bent T) (hr.mono (by decide)) (by rfl) T._law_bent_pane.m T._law_bent_pane.f.kp (bd__law_bent_pane T) .nil passE (pa_cons (pv 0) (pa_cons (pv 11) pa_nil))))
      (pss_cons (ps_set (i := 12) sc__law_are_refused.nd rfl (.inr rfl) (pe_call (ok_pick T) (hr.mono (by decide)) (by rfl) T._law_pick.m T._law_pick.f.kp (bd__law_pick T) .nil passE (pa_cons (pv 0) (pa_cons (pe_lst (pa_cons pe_non (pa_cons (pe_tup pa_nil) (pa_cons pe_str (pa_cons pe_int (pa_cons (pe_tup (pa_cons (pe_tup (pa_cons pe_non pa_nil)) pa_nil)) pa_nil)))))) pa_nil))))
      (pss_cons (ps_set (i := 5) sc__law_are_refused.nd rfl (.inl rfl) (pe_call (ok_draw T) (hr.mono (by decide)) (by rfl) T._law_draw.m T._law_draw.f.kp (bd__law_draw T) .nil passE (pa_cons (pv 0) (pa_cons (pe_op op_mul (pv 1) (pv 2)) pa_nil))))
      (pss_cons (ps_set (i := 6) sc__law_are_refused.nd rfl (.inl rfl) (pe_call (ok_llines T) (hr.mono (by decide)) (by rfl) T._law_lines_of.m T._law_lines_of.f.kp (bd__law_lines_of T) .nil passE (pa_cons (pe_op op_cat (pe_op op_cat (pe_slice sl_list (pv 4) po_none (po_some (pv 5))) (pe_lst (pa_cons (pe_op op_sub (pe_ix ix_list (pv 3) (pv 5) (fun _ _ => rfl)) pe_int) pa_nil))) (pe_slice sl_list (pv 4) (po_some (pe_op op_add (pv 5) pe_int)) po_none)) (pa_cons (pv 2) pa_nil))))
      (pss_cons (ps_set (i := 7) sc__law_are_refused.nd rfl (.inl rfl) (pe_callTy (show CallR _ _ (rTupOf K) from call_tuple_of) (by rfl) T.b_tuple (by decide +kernel) (pa_cons (pe_lc (own := [("line", 15)]) (g := gName 15) (tt := tYes) rfl sc__law_are_refused.nd (pi_tup (pv 10)) (blkOk_by (own := [("line", 15)]) (N := ["state", "tall", "wide", "least", "most", "spot", "sunk", "wider", "bent", "far", "high", "low", "odd", "upset", "wrong", "line"]) (sc := defScope s__law_are_refused) (by decide +kernel))
        (fun _ _ _ _ _ => pg_name (i := 15) sc__law_are_refused.nd rfl (Or.inl rfl)) (fun _ _ _ _ _ => pts_nil) (fun _ _ _ _ _ => pe_op (show OpR _ _ (rCatA K) from op_catA) (pv 15) (pe_tup (pa_cons (pe_ix (show IxR _ (rIxT K) from ix_tup) (pv 15) pe_int (fun _ _ => rfl)) pa_nil)))) pa_nil)))
      (pss_cons (ps_set (i := 9) sc__law_are_refused.nd rfl (.inr rfl) (pe_call (ok_pick T) (hr.mono (by decide)) (by rfl) T._law_pick.m T._law_pick.f.kp (bd__law_pick T) .nil passE (pa_cons (pv 0) (pa_cons (pe_lst (pa_cons (pe_tup (pa_cons (pv 1) (pa_cons pe_int pa_nil))) (pa_cons (pe_tup (pa_cons pe_int (pa_cons (pv 2) pa_nil))) (pa_cons (pe_tup (pa_cons (pe_un un_neg pe_int) (pa_cons pe_int pa_nil))) (pa_cons (pe_tup (pa_cons pe_int (pa_cons (pe_un un_neg pe_int) pa_nil))) (pa_cons (pe_tup (pa_cons pe_non (pa_cons pe_int pa_nil))) (pa_cons (pe_tup (pa_cons pe_int (pa_cons pe_bl pa_nil))) (pa_cons (pe_tup (pa_cons pe_str (pa_cons pe_int pa_nil))) (pa_cons (pe_tup (pa_cons pe_int (pa_cons (pe_lst pa_nil) pa_nil))) pa_nil))))))))) pa_nil))))
      (pss_cut (ps_if (PW.pt (pw_and (pt_not (pt_val (pe_call (ok_is_pane T) (hr.mono (by decide)) (by rfl) T._law_is_pane.m T._law_is_pane.f.kp (bd__law_is_pane T) .nil passE (pa_cons (pv 8) pa_nil)))) (pw_and1 (pt_not (pt_val (pe_callB (show CallR _ _ (rIs2 K) from call_is2) (by rfl) T.b_isinstance PyProof.Rows.boot_isinstance (pa_cons (pe_caught T TB rfl hr9 (by rfl) (lamS_by (sc := defScope s__law_are_refused) (by decide +kernel)) rfl (fun _ _ _ _ _ => rfl) (fun A outer s H E f c' h => (pe_call (ok_lift_spans T) (h.mono (by decide)) (by rfl) T.lift_spans.m T.lift_spans.f.kp (bd_lift_spans T) .nil (passX rfl rfl rfl rfl) (pa_cons (pv 8) (pa_cons (pv 12) pa_nil))))) (pa_cons (pe_glob (v := .ref T.BadRectangle.C) (by rfl) T.BadRectangle.g rfl) pa_nil))))))))
        (pss_one (ps_ret pe_bl)) pss_nil)
      (pss_cut (ps_if (PW.pt (pw_and (pt_not (pt_val (pe_call (ok_is_pane T) (hr.mono (by decide)) (by rfl) T._law_is_pane.m T._law_is_pane.f.kp (bd__law_is_pane T) .nil passE (pa_cons (pv 8) pa_nil)))) (pw_and1 (pt_not (pt_val (pe_callB (show CallR _ _ (rIs2 K) from call_is2) (by rfl) T.b_isinstance PyProof.Rows.boot_isinstance (pa_cons (pe_caught T TB rfl hr9 (by rfl) (lamS_by (sc := defScope s__law_are_refused) (by decide +kernel)) rfl (fun _ _ _ _ _ => rfl) (fun A outer s H E f c' h => (pe_call (ok_lift_end T) (h.mono (by decide)) (by rfl) T.lift_end.m T.lift_end.f.kp (bd_lift_end T) .nil (passX rfl rfl rfl rfl) (pa_cons (pv 8) (pa_cons (pv 12) (pa_cons pe_non (pa_cons pe_non (pa_cons pe_non pa_nil)))))))) (pa_cons (pe_glob (v := .ref T.BadRectangle.C) (by rfl) T.BadRectangle.g rfl) pa_nil))))))))
        (pss_one (ps_ret pe_bl)) pss_nil)
      (pss_cut (ps_for (passes_of rfl) rfl (pi_tup (pe_tup (pa_cons (pv 12) (pa_cons (pv 6) (pa_cons (pv 7) pa_nil))))) (pg_name (i := 14) sc__law_are_refused.nd rfl (.inr rfl))
        (pss_cons (ps_if (pt_not (pt_val (pe_callB (show CallR _ _ (rIs2 K) from call_is2) (by rfl) T.b_isinstance PyProof.Rows.boot_isinstance (pa_cons (pe_caught T TB rfl hr9 (by rfl) (lamS_by (sc := defScope s__law_are_refused) (by decide +kernel)) rfl (fun _ _ _ _ _ => rfl) (fun A outer s H E f c' h => (pe_call (ok_lift_spans T) (h.mono (by decide)) (by rfl) T.lift_spans.m T.lift_spans.f.kp (bd_lift_spans T) .nil (passX rfl rfl rfl rfl) (pa_cons (pv 11) (pa_cons (pv 14) pa_nil))))) (pa_cons (pe_glob (v := .ref T.BadSpans.C) (by rfl) T.BadSpans.g rfl) pa_nil))))) (pss_one (ps_ret pe_bl)) pss_nil)
        (pss_one (ps_if (pt_not (pt_val (pe_callB (show CallR _ _ (rIs2 K) from call_is2) (by rfl) T.b_isinstance PyProof.Rows.boot_isinstance (pa_cons (pe_caught T TB rfl hr9 (by rfl) (lamS_by (sc := defScope s__law_are_refused) (by decide +kernel)) rfl (fun _ _ _ _ _ => rfl) (fun A outer s H E f c' h => (pe_call (ok_lift_end T) (h.mono (by decide)) (by rfl) T.lift_end.m T.lift_end.f.kp (bd_lift_end T) .nil (passX rfl rfl rfl rfl) (pa_cons (pv 11) (pa_cons (pv 14) (pa_cons (pe_ix (show IxR _ (rIxT K) from ix_tup) (pv 9) pe_int (fun _ _ => rfl)) (pa_cons (pe_ix (show IxR _ (rIxT K) from ix_tup) (pv 9) pe_int (fun _ _ => rfl)) (pa_cons pe_non pa_nil)))))))) (pa_cons (pe_glob (v := .ref T.BadSpans.C) (by rfl) T.BadSpans.g rfl) pa_nil))))) (pss_one (ps_ret pe_bl)) pss_nil))))
      (pss_cons (ps_if (pt_not (pt_val (pe_callB (show CallR _ _ (rIs2 K) from call_is2) (by rfl) T.b_isinstance PyProof.Rows.boot_isinstance (pa_cons (pe_caught T TB rfl hr9 (by rfl) (lamS_by (sc := defScope s__law_are_refused) (by decide +kernel)) rfl (fun _ _ _ _ _ => rfl) (fun A outer s H E f c' h => (pe_call (ok_lift_end T) (h.mono (by decide)) (by rfl) T.lift_end.m T.lift_end.f.kp (bd_lift_end T) .nil (passX rfl rfl rfl rfl) (pa_cons (pv 11) (pa_cons (pv 10) (pa_cons (pe_ix (show IxR _ (rIxT K) from ix_tup) (pv 9) pe_int (fun _ _ => rfl)) (pa_cons (pe_ix (show IxR _ (rIxT K) from ix_tup) (pv 9) pe_int (fun _ _ => rfl)) (pa_cons pe_non pa_nil)))))))) (pa_cons (pe_glob (v := .ref T.BadSpot.C) (by rfl) T.BadSpot.g rfl) pa_nil))))) (pss_one (ps_ret pe_bl)) pss_nil)
      (pss_cons (ps_set (i := 13) sc__law_are_refused.nd rfl (.inr rfl) (pe_call (ok_pick T) (hr.mono (by decide)) (by rfl) T._law_pick.m T._law_pick.f.kp (bd__law_pick T) .nil passE (pa_cons (pv 0) (pa_cons (pe_lst (pa_cons pe_non (pa_cons pe_int (pa_cons pe_int (pa_cons pe_str (pa_cons (pe_lst pa_nil) (pa_cons (pe_tup (pa_cons pe_bl pa_nil)) pa_nil))))))) pa_nil))))
      (pss_one (ps_ret (pe_callB (show CallR _ _ (rIs2 K) from call_is2) (by rfl) T.b_isinstance PyProof.Rows.boot_isinstance (pa_cons (pe_caught T TB rfl hr9 (by rfl) (lamS_by (sc := defScope s__law_are_refused) (by decide +kernel)) rfl (fun _ _ _ _ _ => rfl) (fun A outer s H E f c' h => (pe_call (ok_lift_end T) (h.mono (by decide)) (by rfl) T.lift_end.m T.lift_end.f.kp (bd_lift_end T) .nil (passX rfl rfl rfl rfl) (pa_cons (pv 11) (pa_cons (pv 10) (pa_cons pe_int (pa_cons pe_int (pa_cons (pv 13) pa_nil)))))))) (pa_cons (pe_glob (v := .ref T.BadUpper.C) (by rfl) T.BadUpper.g rfl) pa_nil)))))))))))))))), ?_⟩
    have hw2 : h * wn ≤ 16 * 16 := Nat.mul_le_mul h2 w2
    have hp := Nat.mul_pos h1 w1
    refine ⟨_, rfl, _, rfl, l, ls, h, wn, rfl, hl, ll, h1, h2, w1, w2, fun pa H1 s1 _ pA => ⟨_, rfl, _, rfl, g, gs, h, wn, rfl, s1 _ _ hg, lg', h1, h2, w1, w2, fun pb H2 s2 _ pB => ⟨(by show 2 ≤ sizeLine; decide), fun q0 hq0 => ⟨q0, _, rfl, SqT.of upd_same, rfl, _, _, rfl, _, _, rfl, rfl, ?_⟩⟩⟩⟩
    have tq := Same.new (o := .tup [V.ref pa, .ref pb]) hq0
    have s03 := (s1.trans s2).trans tq
    have pA := (pA.keep s2).keep tq
    have pB := pB.keep tq
    generalize upd H2 q0 (.tup [V.ref pa, .ref pb]) = H3 at s03 pA pB ⊢
    have S3 := S.same s03
    have Tb3 := Tb.ext s03
    have hl3 := s03 _ _ hl
    have hg3 := s03 _ _ hg
    have k : ∀ H', StAt H' st lg cl (m + 8) → Tabs (tabs Pt) H' → KpN st lg H3 H' → Q (.bl true) H' := fun H' a b c => k H' a b ((KpN.kp (.same s03)).trans c)
    clear s1 s2 tq s03 hq0 S Tb hl hg
    -- bent
    refine ⟨_, rfl, _, rfl, st, lg, cl, pa, _, wn, m, rfl, pA, by omega, S3, fun y H4 th S4 kp4 => ?_⟩
    obtain ⟨ob, thb⟩ := th
    have n4 := Kn.kp S3 S4 kp4
    have Tb4 := tabs_kp Tb3 S3 kp4
    -- odd
    refine ⟨_, rfl, (by show 0 ≤ sizeLine; decide), fun z1 hz1 => ⟨(by show 1 ≤ sizeLine; decide), fun z2 hz2 => ⟨(by show 1 ≤ sizeLine; decide), fun z3 hz3 => ⟨(by show 5 ≤ sizeLine; decide), fun z4 hz4 => ?_⟩⟩⟩⟩
    have u1 := Same.new (o := .tup []) hz1
    have u2 := Same.new (o := .tup [V.non]) hz2
    have u3 := Same.new (o := .tup [V.ref z2]) hz3
    have u4 := Same.new (o := .lst [V.non, .ref z1, .str "ab", .int 7, .ref z3]) hz4
    have Sz := ((S4.same u1).same u2).same u3
    refine ⟨st, lg, cl, z4, _, m + 4, rfl, upd_same, (Sz.off hz4).2, (by show 0 < 5; decide), (by show 5 ≤ 1000; decide), by omega, Sz.same u4, fun xo H5 hx S5 kp5 => ?_⟩
    have t5 := Tp.kp (Sz.same u4) kp5
    have f1 := t5 z1 _ (((u2.trans u3).trans u4) _ _ upd_same)
    have f2 := t5 z2 _ ((u3.trans u4) _ _ upd_same)
    have f3 := t5 z3 _ (u4 _ _ upd_same)
    obtain ⟨po, tho, noo⟩ : ∃ p, Th K H5 xo p ∧ NoB ls h wn p := by
      simp only [List.mem_cons, List.not_mem_nil, or_false] at hx
      rcases hx with e | e | e | e | e <;> subst e
      · exact ⟨_, .no .non, noB_none⟩
      · exact ⟨_, .tup f1 (os := []) ⟨rfl, fun i v hv => by cases hv⟩ (Nat.zero_le _), noB_nil h1⟩
      · exact ⟨_, .no (.str _), noB_none⟩
      · exact ⟨_, .no (.int _), noB_none⟩
      · refine ⟨_, .tup f3 (os := [some [V.non]]) ⟨rfl, fun i v hv => ?_⟩ (by show 1 ≤ 1000; decide), noB_non⟩
        match i, hv with
        | 0, hv =>
          have : v = .ref z2 := (Option.some.inj hv).symm
          subst this
          exact ⟨_, rfl, .tup f2 (fun x hx => ⟨false, by rw [List.mem_singleton.mp hx]; exact .non⟩) (by show 1 ≤ 1000; decide)⟩
    have n5 := n4.trans ((Kn.same S4 (((u1.trans u2).trans u3).trans u4)).trans (Kn.kp (Sz.same u4) S5 kp5))
    have thb := thb.kn ((Kn.same S4 (((u1.trans u2).trans u3).trans u4)).trans (Kn.kp (Sz.same u4) S5 kp5))
    have Tb5 := tabs_kp (Tb4.ext (((u1.trans u2).trans u3).trans u4)) (Sz.same u4) kp5
    clear hx t5 f1 f2 f3 u1 u2 u3 u4 Sz hz1 hz2 hz3 hz4 n4 Tb4 kp4 kp5 S4
    -- spot
    refine ⟨_, rfl, _, rfl, _, rfl, _, _, rfl, rfl, .inl ⟨by omega, by omega⟩, st, lg, cl, h * wn, m + 4 + 1, (by rw [Int.natCast_mul]; rfl), hp, Nat.lt_of_le_of_lt (show h * wn ≤ 256 by omega) (by decide), by omega, S5, fun r H6 hr6 S6 kp6 => ?_⟩
    have n56 := Kn.kp S5 S6 kp6
    have n6 := n5.trans n56
    have thb := thb.kn n56
    have tho := tho.kn n56
    have Tb6 := tabs_kp Tb5 S5 kp6
    have hl6 := n6.k _ _ hl3 nl.1 nl.2 (fun _ z => by cases z)
    have hg6 := n6.k _ _ hg3 ng.1 ng.2 (fun _ z => by cases z)
    have pA := pA.tp n6.tp
    have pB := pB.tp n6.tp
    have k : ∀ H', StAt H' st lg cl (m + 8) → Tabs (tabs Pt) H' → KpN st lg H6 H' → Q (.bl true) H' := fun H' a b c => k H' a b (n6.k.trans c)
    clear n5 n56 n6 hl3 hg3 S3 Tb3 S5 Tb5 kp6
    -- sunk
    have lr : r < gs.length := by omega
    refine ⟨_, rfl, _, rfl, _, rfl, g, _, rfl, SqL.of hg6, fun c1 hc1 => ?_⟩
    have u1 := Same.new (o := .lst (cutV (gs.map V.int) none (some ((r : Nat) : Int)))) hc1
    refine ⟨_, rfl, _, rfl, l, _, _, _, rfl, rfl, SqL.of (u1 _ _ hl6), atI_nat (int_at ll hr6), _, _, rfl, rfl, (by show 1 ≤ sizeLine; decide), fun c2 hc2 => ?_⟩
    have u2 := Same.new (o := .lst [V.int (numAt ls r - 1)]) hc2
    refine ⟨c1, c2, _, _, rfl, rfl, u2 _ _ upd_same, upd_same, ?_, fun c3 hc3 => ?_⟩
    · rw [cut_take (by rw [List.length_map]; omega), List.length_take, List.length_map]
      exact Nat.le_trans (show _ ≤ 300 by show min r gs.length + 1 ≤ 300; omega) (by decide)
    have u3 := Same.new (o := .lst (cutV (gs.map V.int) none (some ((r : Nat) : Int)) ++ [V.int (numAt ls r - 1)])) hc3
    have u13 := (u1.trans u2).trans u3
    refine ⟨_, rfl, _, rfl, _, _, rfl, rfl, _, rfl, g, _, rfl, SqL.of (u13 _ _ hg6), fun c4 hc4 => ?_⟩
    dsimp only at hc4 ⊢
    have u4 := Same.new (o := .lst (cutV (gs.map V.int) (some (((r : Nat) : Int) + 1)) none)) hc4
    have len3 : (cutV (gs.map V.int) none (some ((r : Nat) : Int)) ++ [V.int (numAt ls r - 1)]).length = r + 1 := by
      rw [cut_take (by rw [List.length_map]; omega), List.length_append, List.length_take, List.length_map]
      show min r gs.length + 1 = r + 1
      omega
    have cut4 : cutV (gs.map V.int) (some (((r : Nat) : Int) + 1)) none = (gs.map V.int).drop (r + 1) := by
      rw [show ((r : Nat) : Int) + 1 = ((r + 1 : Nat) : Int) by omega, cut_drop (by rw [List.length_map]; omega)]
    refine ⟨c3, c4, _, _, rfl, rfl, u4 _ _ upd_same, upd_same, ?_, fun c5 hc5 => ?_⟩
    · rw [len3, cut4, List.length_drop, List.length_map]
      exact Nat.le_trans (show _ ≤ 300 by omega) (by decide)
    have es : cutV (gs.map V.int) none (some ((r : Nat) : Int)) ++ [V.int (numAt ls r - 1)] ++ cutV (gs.map V.int) (some (((r : Nat) : Int) + 1)) none = (gs.set r (numAt ls r - 1)).map V.int := by
      rw [cut4, cut_take (by rw [List.length_map]; omega), List.set_eq_take_append_cons_drop, if_pos lr, List.map_append, List.map_cons, List.map_take, List.map_drop, List.append_assoc]
      rfl
    rw [es]
    have u5 := Same.new (o := .lst ((gs.set r (numAt ls r - 1)).map V.int)) hc5
    have lset : (gs.set r (numAt ls r - 1)).length = h * wn := by rw [List.length_set, lg']
    refine ⟨_, rfl, c5, _, h, wn, rfl, upd_same, lset, h1, h2, w1, w2, fun ps H7 s7 _ pS => ?_⟩
    have s67 := ((u13.trans u4).trans u5).trans s7
    have noS : NoB ls h wn (some ((rowsOf (gs.set r (numAt ls r - 1)) h wn).map fun ns => some (ns.map V.int))) := noB_sunk w1 ll lset hr6 (by rw [numAt_set lr, if_pos rfl]; omega)
    generalize rowsOf (gs.set r (numAt ls r - 1)) h wn = sss at pS noS
    have S7 := S6.same s67
    have Tb7 := Tb6.ext s67
    have n7 := Kn.same S6 s67
    have thb := thb.kn n7
    have tho := tho.kn n7
    have pA := pA.keep s67
    have pB := pB.keep s67
    have k : ∀ H', StAt H' st lg cl (m + 8) → Tabs (tabs Pt) H' → KpN st lg H7 H' → Q (.bl true) H' := fun H' a b c => k H' a b (n7.k.trans c)
    clear u1 u2 u3 u4 u5 u13 hc1 hc2 hc3 hc4 hc5 es cut4 len3 s7 s67 lset n7 S6 Tb6 hl6 hg6 nl ng
    -- wider
    obtain ⟨vb, eb, rb⟩ := pB.rows
    have lvb : vb.length = h := by rw [rb.1, rowsOf_len]
    refine ⟨_, rfl, pb, rfl, ⟨_, SqT.of eb⟩, fun D hD => lc_it walk_tup (fun i H' => ∃ ws, H' D = some (.lst ws) ∧ TL H' ws (((rowsOf gs h wn).take i).map fun r => r ++ [numAt r 0]) ∧ Same H7 H') ⟨[], upd_same, .nil, Same.new hD⟩ (fun _ H' _ q' => SqT.of (q'.elim fun ws q' => q'.2.2 _ _ eb)) ?_ ?_⟩
    · rintro i x H9 H8 hi ⟨ws, a1, a2, a3⟩ ⟨rfl, hx⟩
      obtain ⟨b, ns, rfl, hns, en⟩ := rb.2 i x hx
      have ln := pB.ws ns (List.mem_of_getElem? hns)
      refine ⟨rfl, ?_⟩
      dsimp only [tYes]
      rw [if_pos rfl]
      refine ⟨_, rfl, _, rfl, b, _, 0, _, rfl, rfl, SqT.of (a3 _ _ en), atI_nat (j := 0) (int_at ln w1), (by show 1 ≤ sizeLine; decide), fun z hz => ?_⟩
      have uz := Same.new (o := .tup [V.int (numAt ns 0)]) hz
      refine cat_any (uz _ _ (a3 _ _ en)) upd_same (by rw [List.length_map, ln]; show wn + 1 ≤ 4000; omega) fun c H10 s10 e10 => ?_
      have u10 := uz.trans s10
      refine ⟨ws, u10 _ _ a1, ?_, ws ++ [.ref c], upd_same, ?_, Same.put (a3.trans u10) hD⟩
      · rw [a2.len, List.length_map, List.length_take]
        exact Nat.lt_of_le_of_lt (show _ ≤ 16 by rw [rowsOf_len]; omega) (by decide)
      · rw [List.take_add_one, hns, List.map_append]
        refine TL.tp ((a2.tp (Tp.same u10)).append (.cons ?_ .nil)) (Tp.put (u10 _ _ a1))
        rw [e10]
        simp
    rintro H8 ⟨ws, lD, tl, s8⟩
    rw [List.take_of_length_le (by rw [lvb, rowsOf_len]; exact Nat.le_refl _)] at tl
    refine ⟨D, ws, rfl, .inl ⟨SqL.of lD, fun pw hpw => ?_⟩⟩
    have uw := Same.new (o := .tup ws) hpw
    have ew : (upd H8 pw (.tup ws)) pw = some (.tup ws) := upd_same
    have s78 := s8.trans uw
    have tl := tl.tp (Tp.same uw)
    generalize upd H8 pw (.tup ws) = H9 at ew s78 tl ⊢
    have wsl : ∀ r ∈ (rowsOf gs h wn).map (fun r => r ++ [numAt r 0]), r.length = wn + 1 := fun r hr => by
      obtain ⟨r', hr', rfl⟩ := List.mem_map.mp hr
      rw [List.length_append, pB.ws r' hr']
      rfl
    have thw : Th K H9 (.ref pw) (some (((rowsOf gs h wn).map fun r => r ++ [numAt r 0]).map fun ns => some (ns.map V.int))) := .tup ew (tl.rws fun r hr => by rw [wsl r hr]; omega) (by rw [tl.len, List.length_map, rowsOf_len]; omega)
    have noW : NoB ls h wn (some (((rowsOf gs h wn).map fun r => r ++ [numAt r 0]).map fun ns => some (ns.map V.int))) := noB_wide (by rw [List.length_map, rowsOf_len]; exact h1) wsl
    generalize ((rowsOf gs h wn).map fun r => r ++ [numAt r 0]) = wws at thw noW
    have S9 := S7.same s78
    have Tb9 := Tb7.ext s78
    have n9 := Kn.same S7 s78
    have thb := thb.kn n9
    have tho := tho.kn n9
    have pA := pA.keep s78
    have pB := pB.keep s78
    have pS := pS.keep s78
    have k : ∀ H', StAt H' st lg cl (m + 8) → Tabs (tabs Pt) H' → KpN st lg H9 H' → Q (.bl true) H' := fun H' a b c => k H' a b (n9.k.trans c)
    clear uw ew s78 tl wsl lD s8 hpw hD eb rb lvb n9 S7 Tb7
    -- far
    refine ⟨_, rfl, _, rfl, (by show 2 ≤ sizeLine; decide), fun y1 v1 => ⟨_, rfl, (by show 2 ≤ sizeLine; decide), fun y2 v2 => ⟨_, rfl, (by show 2 ≤ sizeLine; decide), fun y3 v3 => ⟨_, rfl, (by show 2 ≤ sizeLine; decide), fun y4 v4 => ⟨(by show 2 ≤ sizeLine; decide), fun y5 v5 => ⟨(by show 2 ≤ sizeLine; decide), fun y6 v6 => ⟨(by show 2 ≤ sizeLine; decide), fun y7 v7 => ⟨(by show 0 ≤ sizeLine; decide), fun ye ve => ⟨(by show 2 ≤ sizeLine; decide), fun y8 v8 => ⟨(by show 8 ≤ sizeLine; decide), fun y9 v9 => ?_⟩⟩⟩⟩⟩⟩⟩⟩⟩⟩
    have u1 := Same.new (o := .tup [V.int (h : Nat), .int 0]) v1
    have u2 := Same.new (o := .tup [V.int 0, .int (wn : Nat)]) v2
    have u3 := Same.new (o := .tup [V.int (-1), .int 0]) v3
    have u4 := Same.new (o := .tup [V.int 0, .int (-1)]) v4
    have u5 := Same.new (o := .tup [V.non, .int 0]) v5
    have u6 := Same.new (o := .tup [V.int 0, .bl true]) v6
    have u7 := Same.new (o := .tup [V.str "0", .int 0]) v7
    have ue := Same.new (o := .lst []) ve
    have u8 := Same.new (o := .tup [V.int 0, .ref ye]) v8
    have u9 := Same.new (o := .lst [V.ref y1, .ref y2, .ref y3, .ref y4, .ref y5, .ref y6, .ref y7, .ref y8]) v9
    have w89 := u8.trans u9
    have we9 := ue.trans w89
    have w79 := u7.trans we9
    have w69 := u6.trans w79
    have w59 := u5.trans w69
    have w49 := u4.trans w59
    have w39 := u3.trans w49
    have w29 := u2.trans w39
    have w19 := u1.trans w29
    have offs := (S9.same (((((((((u1.trans u2).trans u3).trans u4).trans u5).trans u6).trans u7).trans ue).trans u8))).off v9
    have Sx := S9.same w19
    have d1 := w29 y1 _ upd_same
    have d2 := w39 y2 _ upd_same
    have d3 := w49 y3 _ upd_same
    have d4 := w59 y4 _ upd_same
    have d5 := w69 y5 _ upd_same
    have d6 := w79 y6 _ upd_same
    have d7 := we9 y7 _ upd_same
    have de := w89 ye _ upd_same
    have d8 := u9 y8 _ upd_same
    refine ⟨st, lg, cl, y9, _, m + 6, rfl, upd_same, offs.2, (by show 0 < 8; decide), (by show 8 ≤ 1000; decide), by omega, Sx, fun xf H10 hxf S10 kp10 => ?_⟩
    have n10 := (Kn.same S9 w19).trans (Kn.kp Sx S10 kp10)
    have nk := Kn.kp Sx S10 kp10
    have t10 := nk.tp
    obtain ⟨fq, fa, fb, b1, b2, rfl, ef, pfa, pfb, nsp⟩ : ∃ (fq : Addr) (fa fb : V) (b1 b2 : Bool), xf = .ref fq ∧ H10 fq = some (.tup [fa, fb]) ∧ Pl K H10 fa b1 ∧ Pl K H10 fb b2 ∧ spotB h wn fa fb = false := by
      have so : ∀ a b : Int, ¬ (0 ≤ a ∧ a ≤ (h : Int) - 1 ∧ 0 ≤ b ∧ b ≤ (wn : Int) - 1) → spotB h wn (.int a) (.int b) = false := fun a b q => by
        unfold spotB
        rw [within_i, within_i]
        cases e : (decide (0 ≤ a) && decide (a ≤ (h : Int) - 1) && (decide (0 ≤ b) && decide (b ≤ (wn : Int) - 1)))
        · rfl
        · simp only [Bool.and_eq_true, decide_eq_true_eq] at e
          exact absurd ⟨e.1.1, e.1.2, e.2.1, e.2.2⟩ q
      simp only [List.mem_cons, List.not_mem_nil, or_false] at hxf
      rcases hxf with e | e | e | e | e | e | e | e <;> subst e
      · exact ⟨y1, _, _, _, _, rfl, t10 _ _ d1, .int _, .int _, so _ _ (by omega)⟩
      · exact ⟨y2, _, _, _, _, rfl, t10 _ _ d2, .int _, .int _, so _ _ (by omega)⟩
      · exact ⟨y3, _, _, _, _, rfl, t10 _ _ d3, .int _, .int _, so _ _ (by omega)⟩
      · exact ⟨y4, _, _, _, _, rfl, t10 _ _ d4, .int _, .int _, so _ _ (by omega)⟩
      · exact ⟨y5, _, _, _, _, rfl, t10 _ _ d5, .non, .int _, rfl⟩
      · exact ⟨y6, _, _, _, _, rfl, t10 _ _ d6, .int _, .bl _, by unfold spotB; rw [Bool.and_comm]; rfl⟩
      · exact ⟨y7, _, _, _, _, rfl, t10 _ _ d7, .str _, .int _, rfl⟩
      · exact ⟨y8, _, _, _, _, rfl, t10 _ _ d8, .int _, (Pl.lst de).kn nk, by unfold spotB; rw [Bool.and_comm]; rfl⟩
    have Tb10 := tabs_kp (Tb9.ext w19) Sx kp10
    have thb := thb.kn n10
    have tho := tho.kn n10
    have thw := thw.kn n10
    have pA := pA.tp n10.tp
    have pB := pB.tp n10.tp
    have pS := pS.tp n10.tp
    have k : ∀ H', StAt H' st lg cl (m + 8) → Tabs (tabs Pt) H' → KpN st lg H10 H' → Q (.bl true) H' := fun H' a b c => k H' a b (n10.k.trans c)
    clear u1 u2 u3 u4 u5 u6 u7 ue u8 u9 w89 we9 w79 w69 w59 w49 w39 w29 w19 d1 d2 d3 d4 d5 d6 d7 de d8 offs Sx v1 v2 v3 v4 v5 v6 v7 ve v8 v9 hxf t10 nk n10 kp10 S9 Tb9
    have thS : Th K H10 (.ref ps) (some (sss.map fun ns => some (ns.map V.int))) := pS.th
    have S10 : StAt H10 st lg cl (m + 7) := S10
    -- a rectangle that is none
    refine ⟨fun σ' H' => σ' = [some (.ref st), some (.int (h : Nat)), some (.int (wn : Nat)), some (.ref l), some (.ref g), some (.int (r : Nat)), some (.ref ps), some (.ref pw), some y, some (.ref fq), some (.ref pb), some (.ref pa), some xo, none, none, none] ∧ StAt H' st lg cl (m + 7) ∧ Tabs (tabs Pt) H' ∧ Kn st lg cl H10 H', ?_, ?_⟩
    · refine ⟨_, rfl, y, ob, rfl, thb, fun H11 s11 => ⟨_, rfl, ?_⟩⟩
      have n11 := Kn.same S10 s11
      have S11 := S10.same s11
      cases hR : rowsB ob
      · refine iteT ?_
        refine caught_err (m' := m + 7) T T.BadRectangle (Tb10.ext s11) S11 (fun H12 E12 Q12 e12 S12 k12 => ?_) (fun a H13 S13 Tb13 kN ha na nb => ?_)
        · have n12 := n11.trans (Kn.ext S11 e12)
          exact ⟨_, rfl, _, rfl, spans_bad (thb.kn n12) (tho.kn n12) hR fun H' s => k12 H' (.same s) (S12.same s)⟩
        · refine .inr ⟨a, T.BadRectangle.C, _, _, true, rfl, ha, T.BadRectangle.e, .own _, kit_self, _, rfl, ?_⟩
          exact iteF ⟨rfl, S13, Tb13, n11.trans ⟨⟨_, S11⟩, ⟨_, S13⟩, kN⟩⟩
      · refine iteF ?_
        exact iteF ⟨rfl, S11, Tb10.ext s11, n11⟩
    rintro σ' H11 ⟨rfl, S11, Tb11, n11⟩
    refine ⟨fun σ' H' => σ' = [some (.ref st), some (.int (h : Nat)), some (.int (wn : Nat)), some (.ref l), some (.ref g), some (.int (r : Nat)), some (.ref ps), some (.ref pw), some y, some (.ref fq), some (.ref pb), some (.ref pa), some xo, none, none, none] ∧ StAt H' st lg cl (m + 7) ∧ Tabs (tabs Pt) H' ∧ Kn st lg cl H10 H', ?_, ?_⟩
    · refine ⟨_, rfl, y, ob, rfl, thb.kn n11, fun H12 s12 => ⟨_, rfl, ?_⟩⟩
      have n12 := n11.trans (Kn.same S11 s12)
      have S12 := S11.same s12
      cases hR : rowsB ob
      · refine iteT ?_
        refine caught_err (m' := m + 7) T T.BadRectangle (Tb11.ext s12) S12 (fun H13 E13 Q13 e13 S13 k13 => ?_) (fun a H14 S14 Tb14 kN ha na nb => ?_)
        · have n13 := n12.trans (Kn.ext S12 e13)
          exact ⟨_, rfl, _, rfl, end_bad (thb.kn n13) (tho.kn n13) .non .non .non hR fun H' s => k13 H' (.same s) (S13.same s)⟩
        · refine .inr ⟨a, T.BadRectangle.C, _, _, true, rfl, ha, T.BadRectangle.e, .own _, kit_self, _, rfl, ?_⟩
          exact iteF ⟨rfl, S14, Tb14, n12.trans ⟨⟨_, S12⟩, ⟨_, S14⟩, kN⟩⟩
      · refine iteF ?_
        exact iteF ⟨rfl, S12, Tb11.ext s12, n12⟩
    clear S11 Tb11 n11 H11
    rintro σ' H11 ⟨rfl, S11, Tb11, n11⟩
    -- what is wrong above
    refine ⟨fun σ' H' => (∃ v14, σ' = [some (.ref st), some (.int (h : Nat)), some (.int (wn : Nat)), some (.ref l), some (.ref g), some (.int (r : Nat)), some (.ref ps), some (.ref pw), some y, some (.ref fq), some (.ref pb), some (.ref pa), some xo, none, v14, none]) ∧ StAt H' st lg cl (m + 7) ∧ Tabs (tabs Pt) H' ∧ Kn st lg cl H10 H', ?_, ?_⟩
    · refine ⟨_, rfl, _, rfl, _, rfl, (by show 3 ≤ sizeLine; decide), fun z hz => ?_⟩
      have uz := Same.new (o := .tup [xo, V.ref ps, V.ref pw]) hz
      refine ⟨z, rfl, ⟨_, SqT.of upd_same⟩, for_it walk_tup (fun j σ H' => (∃ v14, σ = [some (.ref st), some (.int (h : Nat)), some (.int (wn : Nat)), some (.ref l), some (.ref g), some (.int (r : Nat)), some (.ref ps), some (.ref pw), some y, some (.ref fq), some (.ref pb), some (.ref pa), some xo, none, v14, none]) ∧ StAt H' st lg cl (m + 7) ∧ Tabs (tabs Pt) H' ∧ Kn st lg cl H10 H' ∧ H' z = some (.tup [xo, V.ref ps, V.ref pw]))
        ⟨⟨_, rfl⟩, S11.same uz, Tb11.ext uz, n11.trans (Kn.same S11 uz), upd_same⟩ (fun j σ H' _ q' => SqT.of q'.2.2.2.2) ?_ fun σ H' q' => ⟨q'.1, q'.2.1, q'.2.2.1, q'.2.2.2.1⟩⟩
      rintro j x σ H13 H12 hj ⟨⟨v14, rfl⟩, S12, Tb12, n12, ez⟩ ⟨rfl, hx⟩
      obtain ⟨px, thx, nox⟩ : ∃ p, Th K H10 x p ∧ NoB ls h wn p := by
        match j, hj with
        | 0, _ => exact (Option.some.inj hx) ▸ ⟨_, tho, noo⟩
        | 1, _ => exact (Option.some.inj hx) ▸ ⟨_, thS, noS⟩
        | 2, _ => exact (Option.some.inj hx) ▸ ⟨_, thw, noW⟩
      refine caught_err (m' := m + 7) T T.BadSpans Tb12 S12 (fun H13 E13 Q13 e13 S13 k13 => ?_) (fun a H14 S14 Tb14 kN ha na nb => ?_)
      · have n13 := n12.trans (Kn.ext S12 e13)
        exact ⟨_, rfl, _, rfl, spans_no (pA.tp n13.tp) (thx.kn n13) nox fun H' s => k13 H' (.same s) (S13.same s)⟩
      refine .inr ⟨a, T.BadSpans.C, _, _, true, rfl, ha, T.BadSpans.e, .own _, kit_self, _, rfl, ?_⟩
      have n1 : Kn st lg cl _ H14 := ⟨⟨_, S12⟩, ⟨_, S14⟩, kN⟩
      have n14 := n12.trans n1
      have ez := n1.tp _ _ ez
      refine iteF ?_
      refine caught_err (m' := m + 7) T T.BadSpans Tb14 S14 (fun H15 E15 Q15 e15 S15 k15 => ?_) (fun a' H16 S16 Tb16 kN' ha' na' nb' => ?_)
      · have n15 := n14.trans (Kn.ext S14 e15)
        exact ⟨_, rfl, _, rfl, _, rfl, fq, _, 0, _, rfl, rfl, SqT.of (n15.tp _ _ ef), atI_nat (j := 0) rfl, _, rfl, fq, _, 1, _, rfl, rfl, SqT.of (n15.tp _ _ ef), atI_nat (j := 1) rfl, end_no (pA.tp n15.tp) (thx.kn n15) nox (pfa.kn n15) (pfb.kn n15) .non fun H' s => k15 H' (.same s) (S15.same s)⟩
      refine .inr ⟨a', T.BadSpans.C, _, _, true, rfl, ha', T.BadSpans.e, .own _, kit_self, _, rfl, ?_⟩
      have n2 : Kn st lg cl H14 H16 := ⟨⟨_, S14⟩, ⟨_, S16⟩, kN'⟩
      exact iteF ⟨⟨_, rfl⟩, S16, Tb16, n14.trans n2, n2.tp _ _ ez⟩
    rintro σ' H12 ⟨⟨v14, rfl⟩, S12, Tb12, n12⟩
    -- a spot that is none
    refine caught_err (m' := m + 7) T T.BadSpot Tb12 S12 (fun H15 E15 Q15 e15 S15 k15 => ?_) (fun a H13 S13 Tb13 kN ha na nb => ?_)
    · have n15 := n12.trans (Kn.ext S12 e15)
      exact ⟨_, rfl, _, rfl, _, rfl, fq, _, 0, _, rfl, rfl, SqT.of (n15.tp _ _ ef), atI_nat (j := 0) rfl, _, rfl, fq, _, 1, _, rfl, rfl, SqT.of (n15.tp _ _ ef), atI_nat (j := 1) rfl, end_spot w1 ll lg' le (pA.tp n15.tp) (pB.tp n15.tp) (pfa.kn n15) (pfb.kn n15) .non nsp fun H' s => k15 H' (.same s) (S15.same s)⟩
    refine .inr ⟨a, T.BadSpot.C, _, _, true, rfl, ha, T.BadSpot.e, .own _, kit_self, _, rfl, ?_⟩
    have n13 := n12.trans ⟨⟨_, S12⟩, ⟨_, S13⟩, kN⟩
    refine iteF ?_
    clear ha na nb kN n12 Tb12 S12 S11 Tb11 n11
    -- upset
    refine ⟨_, rfl, (by show 0 ≤ sizeLine; decide), fun z1 hz1 => ⟨(by show 1 ≤ sizeLine; decide), fun z2 hz2 => ⟨(by show 6 ≤ sizeLine; decide), fun z3 hz3 => ?_⟩⟩⟩
    have u1 := Same.new (o := .lst []) hz1
    have u2 := Same.new (o := .tup [V.bl true]) hz2
    have u3 := Same.new (o := .lst [V.non, .int 0, .int 1, .str "True", .ref z1, .ref z2]) hz3
    have u13 := (u1.trans u2).trans u3
    have Sx := S13.same u13
    have offs := ((S13.same u1).same u2).off hz3
    have e1 := (u2.trans u3) z1 _ upd_same
    have e2 := u3 z2 _ upd_same
    refine ⟨st, lg, cl, z3, _, m + 7, rfl, upd_same, offs.2, (by show 0 < 6; decide), (by show 6 ≤ 1000; decide), by omega, Sx, fun xu H14 hxu S14 kp14 => ?_⟩
    have nk := Kn.kp Sx S14 kp14
    have n14 := n13.trans ((Kn.same S13 u13).trans nk)
    obtain ⟨bu, pu, nu⟩ : ∃ b, Pl K H14 xu b ∧ isB xu = false := by
      simp only [List.mem_cons, List.not_mem_nil, or_false] at hxu
      rcases hxu with e | e | e | e | e | e <;> subst e
      · exact ⟨_, .non, rfl⟩
      · exact ⟨_, .int _, rfl⟩
      · exact ⟨_, .int _, rfl⟩
      · exact ⟨_, .str _, rfl⟩
      · exact ⟨_, (Pl.lst e1).kn nk, rfl⟩
      · exact ⟨_, (Pl.tup e2).kn nk, rfl⟩
    have Tb14 := tabs_kp (Tb13.ext u13) Sx kp14
    have S14 : StAt H14 st lg cl (m + 8) := S14
    refine caught_err (m' := m + 8) T T.BadUpper Tb14 S14 (fun H15 E15 Q15 e15 S15 k15 => ?_) (fun a H16 S16 Tb16 kN ha na nb => ?_)
    · have n15 := n14.trans (Kn.ext S14 e15)
      exact ⟨_, rfl, _, rfl, _, rfl, end_upper h1 w1 ll lg' le (pA.tp n15.tp) (pB.tp n15.tp) (pu.kn (Kn.ext S14 e15)) nu fun H' s => k15 H' (.same s) (S15.same s)⟩
    refine .inr ⟨a, T.BadUpper.C, _, _, true, rfl, ha, T.BadUpper.e, .own _, kit_self, ?_⟩
    exact k H16 S16 Tb16 (n14.k.trans kN)
end
end K17
namespace K17
open PySem PySem.Spec PyProof.Rows L2 PySem.W LamX KA KW KU KL KT
open Evl (pss_cut tCut)
/-! ### the law -/
theorem FnG.w {P : Program} {w : World} {K : PySem.W.Frag} {mg : Str → Option Value} {base : Heap} {CX : CXT} {k : Nat} {f : Addr} {fd : FuncData} {ps : List Str} {sp : Sp} {fs : List Addr} {H0 : Hp} {h0 : Heap} (F : FnG P w K mg base CX k f fd ps sp) : FnW P w K mg base fs H0 h0 CX k f fd ps sp :=
  ⟨F.len, fun A outer s H args us vs Q E hr hg e0 _ _ b r h => F.run A outer s H args us vs Q E hr hg e0 b r h⟩
theorem since_self {Z : Cx} (h : Z.ex = []) : Since Z Z.fs Z.H_0 Z.s_0.heap := ⟨Un.kept fun _ _ z => z, fun _ hb => .inl hb, h⟩
def spFigureB : Sp := fun vs H Q _ => ∃ (st lg cl : Addr) (f m : Nat), vs = [.ref st, .int f] ∧ f < 3 ∧ m ≤ 999999 ∧ StAt H st lg cl m ∧ ∀ (i : Int) (H' : Hp), -(2 ^ 40) ≤ i → i ≤ 2 ^ 40 → StAt H' st lg cl (m + 1) → Kp st lg H H' → Q (.int i) H'
def spLaw (K : PySem.W.Frag) (Pt : Addr) : Sp := fun vs H Q _ => ∃ (a : Addr) (ns : List Int), vs = [.ref a] ∧ SqL K H a (ns.map V.int) ∧ ns.length ≤ 63 ∧ Tabs (tabs Pt) H ∧ ∀ H', Q (.bl true) H'
theorem numAt_mem {ns : List Int} {k : Nat} (hk : k < ns.length) : numAt ns k ∈ ns := by
  unfold numAt
  rw [List.getD_eq_getElem?_getD, List.getElem?_eq_getElem hk]
  exact List.getElem_mem hk
theorem numAt_snoc {ns : List Int} {v : Int} {n k : Nat} (l : ns.length = n) : numAt (ns ++ [v]) k = if k < n then numAt ns k else if k = n then v else 0 := numAt_app l
theorem dots_mem {h w : Nat} {d : Nat × Nat} (m : d ∈ dotsL h w) : d.1 < h ∧ d.2 < w := by
  induction h with
  | zero => simp [dotsL] at m
  | succ h ih =>
    rw [dotsL_succ] at m
    rcases List.mem_append.mp m with e | e
    · have := ih e
      omega
    · obtain ⟨x, hx, rfl⟩ := List.mem_map.mp e
      have := List.mem_range.mp hx
      exact ⟨Nat.lt_succ_self _, this⟩
theorem DL.tp {H H' : Hp} {vs : List V} {ds : List (Nat × Nat)} (p : DL H vs ds) (t : Tp H H') : DL H' vs ds := by
  induction p with
  | nil => exact .nil
  | cons e _ ih => exact .cons (t _ _ e) ih
section
variable {P : Program} {w : World} {K : PySem.W.Frag} {mg : Str → Option Value} {base : Heap} (T : Top K mg)
theorem ok_figureB : FnOk P w K mg base (L2.CX P w) 2 T._law_figure.a T._law_figure.d ["state", "fashion"] spFigureB := by
  refine T._law_figure.f.okX sc__law_figure (fun vs H Q E h => ?_) (fun cdv A outer s H vs Q E hr h => ?_)
  · obtain ⟨st, lg, cl, f, m, rfl, _⟩ := h
    rfl
  · obtain ⟨st, lg, cl, f, m, rfl, hf, hm, S, k⟩ := h
    refine ⟨_, pss_cons (ps_set (i := 2) sc__law_figure.nd rfl (.inl rfl) (pe_ix ix_list (pe_lst (pa_cons pe_int (pa_cons pe_int (pa_cons (pe_op op_sub (pe_op op_pow pe_int pe_int) pe_int) pa_nil)))) (pv 1) (fun _ _ => rfl)))
      (pss_one (ps_ret (pe_op op_sub (pe_call (ok_draw T) hr (by rfl) T._law_draw.m T._law_draw.f.kp (bd__law_draw T) .nil passE (pa_cons (pv 0) (pa_cons (pe_op op_add (pe_op op_mul pe_int (pv 2)) pe_int) pa_nil))) (pv 2)))), ?_⟩
    refine ⟨_, _, rfl, rfl, ⟨by decide, by decide, by decide⟩, _, _, rfl, rfl, (by show 3 ≤ sizeLine; decide), fun p hp => ?_⟩
    have S1 := S.same (Same.new (o := .lst [V.int 9, .int 1023, .int (10 ^ (11 : Int).toNat - 1)]) hp)
    obtain ⟨z, hz, z0, z1⟩ : ∃ z : Nat, [V.int 9, V.int 1023, V.int ((10 : Int) ^ (11 : Int).toNat - 1)][f]? = some (.int z) ∧ 1 ≤ z ∧ z < 2 ^ 40 := by
      match f, hf with
      | 0, _ => exact ⟨9, rfl, by decide, by decide⟩
      | 1, _ => exact ⟨1023, rfl, by decide, by decide⟩
      | 2, _ => exact ⟨10 ^ 11 - 1, rfl, by decide, by decide⟩
    refine ⟨_, rfl, p, _, _, .int z, rfl, rfl, SqL.of upd_same, atI_nat hz, ?_⟩
    refine ⟨_, rfl, _, rfl, _, _, rfl, rfl, .inl ⟨by decide, by decide⟩, _, _, rfl, rfl, st, lg, cl, 2 * z + 1, m, ?_, by omega, ?_, by omega, S1, fun r H1 hr1 S2 kp => ?_⟩
    · rw [Int.natCast_add, Int.natCast_mul]
      rfl
    · exact Nat.lt_of_le_of_lt (show _ ≤ 2 ^ 42 by omega) (by decide)
    · exact ⟨_, rfl, _, _, rfl, rfl, k _ _ (by omega) (by omega) S2 ((Kp.same (Same.new hp)).trans kp)⟩
theorem ok_law {c Pt : Addr} (LT : LamT K "_law_are_refused" s__law_are_refused T._law_are_refused.a T._law_are_refused.d c Pt) (TB : TabB base mg c Pt) : FnG P w K mg base (L2.CX P w) 14 T.law.a T.law.d ["script"] (spLaw K Pt) := by
  refine fnG_of T.law.f sc_law (fun vs H Q E h => ?_) (fun cdv A outer s H vs Q E hr hg h => ?_)
  · obtain ⟨a, ns, rfl, _⟩ := h
    rfl
  · obtain ⟨a, ns, rfl, hS, hl, Tb, k⟩ := h
    refine ⟨_, pss_cons (ps_set (i := 1) sc_law.nd rfl (.inr rfl) (pe_call (ok_begun T) (hr.mono (by decide)) (by rfl) T._law_begun.m T._law_begun.f.kp (bd__law_begun T) .nil passE (pa_cons (pv 0) pa_nil)))
      (pss_cons (ps_for (passes_of rfl) rfl (pi_range1 (by rfl) T.b_range (pa_cons (pe_op op_add pe_int (pe_callB (call_min2 rfl) (by rfl) T.b_min PyProof.Rows.boot_min (pa_cons (pe_callB call_len_seq (by rfl) T.b_len PySem.boot_len (pa_cons (pv 0) pa_nil)) (pa_cons pe_int pa_nil)))) pa_nil)) (pg_name (i := 2) sc_law.nd rfl (.inl rfl))
        (pss_cons (ps_asg (pe_call (ok_sizes T) (hr.mono (by decide)) (by rfl) T._law_sizes.m T._law_sizes.f.kp (bd__law_sizes T) .nil passE (pa_cons (pv 1) (pa_cons (pe_call (ok_pick T) (hr.mono (by decide)) (by rfl) T._law_pick.m T._law_pick.f.kp (bd__law_pick T) .nil passE (pa_cons (pv 1) (pa_cons (pe_lst (pa_cons pe_int (pa_cons pe_int (pa_cons pe_int (pa_cons pe_int (pa_cons pe_int pa_nil)))))) pa_nil))) pa_nil))) (pg_tup rfl (pgs_cons (pg_name (i := 3) sc_law.nd rfl (.inl rfl)) (pgs_cons (pg_name (i := 4) sc_law.nd rfl (.inl rfl)) pgs_nil))))
        (pss_cons (ps_asg (pe_tup (pa_cons (pe_call (ok_draw T) (hr.mono (by decide)) (by rfl) T._law_draw.m T._law_draw.f.kp (bd__law_draw T) .nil passE (pa_cons (pv 1) (pa_cons pe_int pa_nil))) (pa_cons (pe_call (ok_pick T) (hr.mono (by decide)) (by rfl) T._law_pick.m T._law_pick.f.kp (bd__law_pick T) .nil passE (pa_cons (pv 1) (pa_cons (pe_lst (pa_cons pe_int (pa_cons pe_int (pa_cons pe_int (pa_cons pe_int (pa_cons pe_int (pa_cons pe_int pa_nil))))))) pa_nil))) pa_nil))) (pg_tup rfl (pgs_cons (pg_name (i := 5) sc_law.nd rfl (.inr rfl)) (pgs_cons (pg_name (i := 6) sc_law.nd rfl (.inr rfl)) pgs_nil))))
        (pss_cut (ps_setLc (i := 7) (own := [("spot", 15)]) (g := gName 15) (tt := tYes) rfl sc_law.nd rfl rfl (sw_true rfl rfl rfl (by decide +kernel)) (pi_range1 (by rfl) T.b_range (pa_cons (pe_op op_mul (pv 3) (pv 4)) pa_nil)) (blkOk_by (own := [("spot", 15)]) (N := ["script", "state", "turn", "tall", "wide", "fashion", "span", "least", "most", "dots", "wide_low", "wide_high", "inner", "outer", "dot", "spot", "each"]) (sc := defScope s_law) (by decide +kernel))
          (fun _ _ _ _ _ => pg_name (i := 15) sc_law.nd rfl (Or.inl rfl)) (fun _ _ _ _ _ => pts_nil) (fun _ _ _ _ _ => (pe_call (ok_figureB T) (hr.mono (by decide)) (by rfl) T._law_figure.m T._law_figure.f.kp (bd__law_figure T) .nil passE (pa_cons (pv 1) (pa_cons (pv 5) pa_nil)))))
        (pss_cut (ps_setLc (i := 8) (own := [("each", 16)]) (g := gName 16) (tt := tYes) rfl sc_law.nd rfl rfl (sw_true rfl rfl rfl (by decide +kernel)) (pi_list (pv 7)) (blkOk_by (own := [("each", 16)]) (N := ["script", "state", "turn", "tall", "wide", "fashion", "span", "least", "most", "dots", "wide_low", "wide_high", "inner", "outer", "dot", "spot", "each"]) (sc := defScope s_law) (by decide +kernel))
          (fun _ _ _ _ _ => pg_name (i := 16) sc_law.nd rfl (Or.inl rfl)) (fun _ _ _ _ _ => pts_nil) (fun _ _ _ _ _ => (pe_op (show OpR _ _ (rI0 fun i j => V.int (i + j)) from op_add) (pv 16) (pe_call (ok_draw T) (hr.mono (by decide)) (by rfl) T._law_draw.m T._law_draw.f.kp (bd__law_draw T) .nil passE (pa_cons (pv 1) (pa_cons (pv 6) pa_nil))))))
        (pss_cons (ps_if (PW.pt (pw_or (pt_not (pt_val (pe_call (ok_are_spans T) (hr.mono (by decide)) (by rfl) T._law_are_spans.m T._law_are_spans.f.kp (bd__law_are_spans T) .nil passE (pa_cons (pv 3) (pa_cons (pv 4) (pa_cons (pv 7) (pa_cons (pv 8) pa_nil))))))) (pw_or1 (pt_not (pt_val (pe_call (ok_are_spans T) (hr.mono (by decide)) (by rfl) T._law_are_spans.m T._law_are_spans.f.kp (bd__law_are_spans T) .nil passE (pa_cons (pv 3) (pa_cons (pv 4) (pa_cons (pv 7) (pa_cons (pv 7) pa_nil)))))))))) (pss_one (ps_ret pe_bl)) pss_nil)
        (pss_cons (ps_set (i := 9) sc_law.nd rfl (.inl rfl) (pe_call (ok_dots T) (hr.mono (by decide)) (by rfl) T._law_all_dots.m T._law_all_dots.f.kp (bd__law_all_dots T) .nil passE (pa_cons (pv 3) (pa_cons (pv 4) pa_nil))))
        (pss_cons (ps_if (pt_not (pt_val (pe_call (ok_are_ends T) (hr.mono (by decide)) (by rfl) T._law_are_ends.m T._law_are_ends.f.kp (bd__law_are_ends T) .nil passE (pa_cons (pv 3) (pa_cons (pv 4) (pa_cons (pv 7) (pa_cons (pv 8) (pa_cons (pe_call (ok_pick T) (hr.mono (by decide)) (by rfl) T._law_pick.m T._law_pick.f.kp (bd__law_pick T) .nil passE (pa_cons (pv 1) (pa_cons (pv 9) pa_nil))) pa_nil)))))))) (pss_one (ps_ret pe_bl)) pss_nil)
        (pss_cons (ps_if (pt_not (pt_val (pe_wcall (FnG.w (ok_are_refused T LT TB)) (since_self rfl) (hr.mono (by decide)) hg (by rfl) T._law_are_refused.m T._law_are_refused.f.kp (bd__law_are_refused T) passE (pa_cons (pv 1) (pa_cons (pv 3) (pa_cons (pv 4) (pa_cons (pv 7) (pa_cons (pv 8) pa_nil)))))))) (pss_one (ps_ret pe_bl)) pss_nil)
        (pss_cut (ps_setLc (i := 10) (own := [("each", 16)]) (g := gName 16) (tt := tYes) rfl sc_law.nd rfl rfl (sw_true rfl rfl rfl (by decide +kernel)) (pi_list (pv 7)) (blkOk_by (own := [("each", 16)]) (N := ["script", "state", "turn", "tall", "wide", "fashion", "span", "least", "most", "dots", "wide_low", "wide_high", "inner", "outer", "dot", "spot", "each"]) (sc := defScope s_law) (by decide +kernel))
          (fun _ _ _ _ _ => pg_name (i := 16) sc_law.nd rfl (Or.inl rfl)) (fun _ _ _ _ _ => pts_nil) (fun _ _ _ _ _ => (pe_op (show OpR _ _ (rI0 fun i j => V.int (i - j)) from op_sub) (pv 16) (pe_call (ok_draw T) (hr.mono (by decide)) (by rfl) T._law_draw.m T._law_draw.f.kp (bd__law_draw T) .nil passE (pa_cons (pv 1) (pa_cons pe_int pa_nil))))))
        (pss_cut (ps_setLc (i := 11) (own := [("each", 16)]) (g := gName 16) (tt := tYes) rfl sc_law.nd rfl rfl (sw_true rfl rfl rfl (by decide +kernel)) (pi_list (pv 8)) (blkOk_by (own := [("each", 16)]) (N := ["script", "state", "turn", "tall", "wide", "fashion", "span", "least", "most", "dots", "wide_low", "wide_high", "inner", "outer", "dot", "spot", "each"]) (sc := defScope s_law) (by decide +kernel))
          (fun _ _ _ _ _ => pg_name (i := 16) sc_law.nd rfl (Or.inl rfl)) (fun _ _ _ _ _ => pts_nil) (fun _ _ _ _ _ => (pe_op (show OpR _ _ (rI0 fun i j => V.int (i + j)) from op_add) (pv 16) (pe_call (ok_draw T) (hr.mono (by decide)) (by rfl) T._law_draw.m T._law_draw.f.kp (bd__law_draw T) .nil passE (pa_cons (pv 1) (pa_cons pe_int pa_nil))))))
        (pss_cons (ps_set (i := 12) sc_law.nd rfl (.inl rfl) (pe_call (ok_lift_spans T) (hr.mono (by decide)) (by rfl) T.lift_spans.m T.lift_spans.f.kp (bd_lift_spans T) .nil passE (pa_cons (pe_call (ok_llines T) (hr.mono (by decide)) (by rfl) T._law_lines_of.m T._law_lines_of.f.kp (bd__law_lines_of T) .nil passE (pa_cons (pv 7) (pa_cons (pv 4) pa_nil))) (pa_cons (pe_call (ok_llines T) (hr.mono (by decide)) (by rfl) T._law_lines_of.m T._law_lines_of.f.kp (bd__law_lines_of T) .nil passE (pa_cons (pv 8) (pa_cons (pv 4) pa_nil))) pa_nil))))
        (pss_cons (ps_set (i := 13) sc_law.nd rfl (.inl rfl) (pe_kw (ok_lift_spans T) (hr.mono (by decide)) (by rfl) T.lift_spans.m T.lift_spans.f.kp (KA.Fun.kw2s T.lift_spans.f fun _ _ _ _ _ _ _ _ => rfl) passE (pk_cons (pe_call (ok_llines T) (hr.mono (by decide)) (by rfl) T._law_lines_of.m T._law_lines_of.f.kp (bd__law_lines_of T) .nil passE (pa_cons (pv 10) (pa_cons (pv 4) pa_nil))) (pk_cons (pe_call (ok_llines T) (hr.mono (by decide)) (by rfl) T._law_lines_of.m T._law_lines_of.f.kp (bd__law_lines_of T) .nil passE (pa_cons (pv 11) (pa_cons (pv 4) pa_nil))) pk_nil))))
        (pss_one (ps_for (passes_of rfl) rfl (pi_list (pv 9)) (pg_name (i := 14) sc_law.nd rfl (.inl rfl))
          (pss_one (ps_if (PW.pt (pw_or (pt_cmpR op_gt (pe_ix ix_tup (pe_ix ix_tup (pe_ix ix_tup (pv 13) pe_int (fun _ _ => rfl)) (pe_ix ix_tup (pv 14) pe_int (fun _ _ => rfl)) (fun _ _ => rfl)) (pe_ix ix_tup (pv 14) pe_int (fun _ _ => rfl)) (fun _ _ => rfl)) (pe_ix ix_tup (pe_ix ix_tup (pe_ix ix_tup (pv 12) pe_int (fun _ _ => rfl)) (pe_ix ix_tup (pv 14) pe_int (fun _ _ => rfl)) (fun _ _ => rfl)) (pe_ix ix_tup (pv 14) pe_int (fun _ _ => rfl)) (fun _ _ => rfl)) (nomark _)) (pw_or1 (pt_cmpR op_lt (pe_ix ix_tup (pe_ix ix_tup (pe_ix ix_tup (pv 13) pe_int (fun _ _ => rfl)) (pe_ix ix_tup (pv 14) pe_int (fun _ _ => rfl)) (fun _ _ => rfl)) (pe_ix ix_tup (pv 14) pe_int (fun _ _ => rfl)) (fun _ _ => rfl)) (pe_ix ix_tup (pe_ix ix_tup (pe_ix ix_tup (pv 12) pe_int (fun _ _ => rfl)) (pe_ix ix_tup (pv 14) pe_int (fun _ _ => rfl)) (fun _ _ => rfl)) (pe_ix ix_tup (pv 14) pe_int (fun _ _ => rfl)) (fun _ _ => rfl)) (nomark _))))) (pss_one (ps_ret pe_bl)) pss_nil)))))))))))))))))
      (pss_one (ps_ret pe_bl))), ?_⟩
    refine ⟨_, rfl, a, ns, rfl, hS, hl, fun st lg cl H1 S1 s1 _ _ => ?_⟩
    have Tb1 := Tb.ext s1
    have hS1 := s1.seq hS
    refine ⟨_, rfl, a, _, rfl, .inl hS1, _, _, rfl, _, _, rfl, rfl, _, rfl, by split <;> omega, by split <;> omega, for_range (n := _) (fun j σ H => StAt H st lg cl (1200 * j) ∧ Tabs (tabs Pt) H ∧ ∃ v2 v3 v4 v5 v6 v7 v8 v9 v10 v11 v12 v13 v14, σ = [some (.ref a), some (.ref st), v2, v3, v4, v5, v6, v7, v8, v9, v10, v11, v12, v13, v14, none, none]) ⟨S1, Tb1, _, _, _, _, _, _, _, _, _, _, _, _, _, rfl⟩ ?_ fun σ H _ => k H⟩
    clear S1 Tb1 hS1 s1 hS H1 Tb
    rintro j σ H1 hj ⟨S, Tb, v2, v3, v4, v5, v6, v7, v8, v9, v10, v11, v12, v13, v14, rfl⟩
    have hj : j < 4 := by
      refine Nat.lt_of_lt_of_le hj ?_
      split <;> omega
    refine ⟨_, rfl, _, rfl, (by show 5 ≤ sizeLine; decide), fun p hp => ?_⟩
    have tp := Same.new (o := .lst [V.int 4, .int 4, .int 6, .int 16, .int 64]) hp
    refine ⟨st, lg, cl, p, _, 1200 * j, rfl, upd_same, (S.off hp).2, (by show 0 < 5; decide), (by show 5 ≤ 1000; decide), by omega, S.same tp, fun x H2 hx S2 kp2 => ?_⟩
    have Tb2 := tabs_kp (Tb.ext tp) (S.same tp) kp2
    obtain ⟨c0, rfl, hc0⟩ : ∃ c : Nat, x = .int c ∧ 1 ≤ c := by
      simp only [List.mem_cons, List.not_mem_nil, or_false] at hx
      rcases hx with h | h | h | h | h
      · exact ⟨4, h, by decide⟩
      · exact ⟨4, h, by decide⟩
      · exact ⟨6, h, by decide⟩
      · exact ⟨16, h, by decide⟩
      · exact ⟨64, h, by decide⟩
    clear hx tp hp S Tb kp2
    refine ⟨st, lg, cl, c0, 1200 * j + 1, rfl, hc0, by omega, S2, fun h wn q H3 h1 h2 w1 w2 hq S3 kp3 => ⟨q, _, rfl, SqT.of hq, rfl, _, _, rfl, _, _, rfl, rfl, ?_⟩⟩
    have Tb3 := tabs_kp Tb2 S2 kp3
    have hw2 : h * wn ≤ 16 * 16 := Nat.mul_le_mul h2 w2
    have hpos := Nat.mul_pos h1 w1
    refine ⟨_, rfl, st, lg, cl, 3, 1200 * j + 3, rfl, by decide, by decide, by omega, S3, fun f H4 hf S4 kp4 => ⟨_, rfl, (by show 6 ≤ sizeLine; decide), fun p hp => ?_⟩⟩
    have Tb4 := tabs_kp Tb3 S3 kp4
    have tp := Same.new (o := .lst [V.int 1, .int 2, .int 2, .int 3, .int 40, .int 1024]) hp
    refine ⟨st, lg, cl, p, _, 1200 * j + 4, rfl, upd_same, (S4.off hp).2, (by show 0 < 6; decide), (by show 6 ≤ 1000; decide), by omega, S4.same tp, fun x H5 hx S5 kp5 => ⟨(by show 2 ≤ sizeLine; decide), fun q0 hq0 => ⟨q0, _, rfl, SqT.of upd_same, rfl, _, _, rfl, _, _, rfl, rfl, ?_⟩⟩⟩
    have Tb5 := tabs_kp (Tb4.ext tp) (S4.same tp) kp5
    obtain ⟨sp, rfl, hsp, hsp2⟩ : ∃ c : Nat, x = .int c ∧ 1 ≤ c ∧ c ≤ 1024 := by
      simp only [List.mem_cons, List.not_mem_nil, or_false] at hx
      rcases hx with h | h | h | h | h | h
      · exact ⟨1, h, by decide, by decide⟩
      · exact ⟨2, h, by decide, by decide⟩
      · exact ⟨2, h, by decide, by decide⟩
      · exact ⟨3, h, by decide, by decide⟩
      · exact ⟨40, h, by decide, by decide⟩
      · exact ⟨1024, h, by decide, by decide⟩
    have tq := Same.new (o := .tup [V.int (f : Nat), .int (sp : Nat)]) hq0
    have S6 := S5.same tq
    have Tb6 := Tb5.ext tq
    generalize upd H5 q0 (.tup [V.int (f : Nat), .int (sp : Nat)]) = H6 at S6 Tb6 ⊢
    clear hx tp hp tq hq0 S2 Tb2 S3 Tb3 S4 Tb4 S5 Tb5 kp3 kp4 kp5 hq
    -- least
    refine ⟨fun σ' H' => ∃ (D : Addr) (ls : List Int), σ' = [some (.ref a), some (.ref st), some (.int (0 + (j : Nat))), some (.int (h : Nat)), some (.int (wn : Nat)), some (.int (f : Nat)), some (.int (sp : Nat)), some (.ref D), v8, v9, v10, v11, v12, v13, v14, none, none] ∧ ls.length = h * wn ∧ (∀ n ∈ ls, -(2 ^ 40) ≤ n ∧ n ≤ 2 ^ 40) ∧ H' D = some (.lst (ls.map V.int)) ∧ (D ≠ st ∧ D ≠ lg) ∧ D ≠ cl ∧ StAt H' st lg cl (1200 * j + 5 + 256) ∧ Tabs (tabs Pt) H', ?_, ?_⟩
    · refine ⟨_, rfl, _, rfl, _, _, rfl, rfl, .inl ⟨by omega, by omega⟩, ?_⟩
      dsimp only
      rw [show ((h : Nat) : Int) * ((wn : Nat) : Int) = ((h * wn : Nat) : Int) by rw [Int.natCast_mul]]
      refine ⟨_, rfl, by omega, by omega, fun D hD => ?_⟩
      have nD := S6.off hD
      have nC : D ≠ cl := by
        obtain ⟨_, _, _, _, S', _⟩ := S6
        exact (ne_of_none S'.c hD).symm
      refine lc_it walk_range (fun i H' => ∃ ns : List Int, ns.length = i ∧ (∀ n ∈ ns, -(2 ^ 40) ≤ n ∧ n ≤ 2 ^ 40) ∧ H' D = some (.lst (ns.map V.int)) ∧ StAt H' st lg cl (1200 * j + 5 + i) ∧ Tabs (tabs Pt) H') ⟨[], rfl, (fun n hn => by cases hn), upd_same, S6.same (Same.new hD), Tb6.ext (Same.new hD)⟩ (fun _ _ _ _ => trivial) ?_ ?_
      · rintro i x H8 H7 hi ⟨ns, b1, b0, b2, b3, b4⟩ ⟨rfl, rfl⟩
        rw [Int.toNat_natCast] at hi
        refine ⟨rfl, ?_⟩
        dsimp only [tYes]
        rw [if_pos rfl]
        refine ⟨_, rfl, _, rfl, st, lg, cl, f, 1200 * j + 5 + i, rfl, hf, by omega, b3, fun v H9 l1 l2 S9 kp9 => ?_⟩
        have b2' := kp9 _ _ b2 nD.1 nD.2
        refine ⟨_, b2', ?_, ns ++ [v], by simp [b1], fun n hn => ?_, by rw [upd_same, List.map_append]; rfl, stAt_upd S9 b2' nD.1 nD.2 nC, tabs_upd (tabs_kp b4 b3 kp9) b2'⟩
        · rw [List.length_map, b1]
          exact Nat.lt_of_lt_of_le (show i < 300 by omega) (by decide)
        · rcases List.mem_append.mp hn with e | e
          · exact b0 n e
          · rw [List.mem_singleton.mp e]
            exact ⟨l1, l2⟩
      · rintro H7 ⟨ns, b1, b0, b2, b3, b4⟩
        rw [Int.toNat_natCast] at b1 b3
        exact ⟨D, ns, rfl, b1, b0, b2, nD, nC, b3.mono (by omega), b4⟩
    clear S6 Tb6 H6
    rintro σ' H6 ⟨D, ls, rfl, ll, lb, hD, nD, nC, S6, Tb6⟩
    -- most
    refine ⟨fun σ' H' => ∃ (E : Addr) (ms : List Int), σ' = [some (.ref a), some (.ref st), some (.int (0 + (j : Nat))), some (.int (h : Nat)), some (.int (wn : Nat)), some (.int (f : Nat)), some (.int (sp : Nat)), some (.ref D), some (.ref E), v9, v10, v11, v12, v13, v14, none, none] ∧ ms.length = h * wn ∧ (∀ k, k < h * wn → numAt ls k ≤ numAt ms k ∧ numAt ms k ≤ numAt ls k + 1024) ∧ H' E = some (.lst (ms.map V.int)) ∧ (E ≠ st ∧ E ≠ lg) ∧ E ≠ cl ∧ StAt H' st lg cl (1200 * j + 261 + 256) ∧ Tabs (tabs Pt) H' ∧ KpN st lg H6 H' ∧ H' D = some (.lst (ls.map V.int)), ?_, ?_⟩
    · refine ⟨_, rfl, D, rfl, ⟨_, SqL.of hD⟩, fun E hE => ?_⟩
      have nE := S6.off hE
      have nEC : E ≠ cl := by
        obtain ⟨_, _, _, _, S', _⟩ := S6
        exact (ne_of_none S'.c hE).symm
      refine lc_it walk_list (fun i H' => ∃ ms : List Int, ms.length = i ∧ (∀ k, k < i → numAt ls k ≤ numAt ms k ∧ numAt ms k ≤ numAt ls k + 1024) ∧ H' E = some (.lst (ms.map V.int)) ∧ StAt H' st lg cl (1200 * j + 261 + i) ∧ Tabs (tabs Pt) H' ∧ KpN st lg H6 H' ∧ H' D = some (.lst (ls.map V.int))) ⟨[], rfl, (fun k hk => absurd hk (Nat.not_lt_zero k)), upd_same, S6.same (Same.new hE), Tb6.ext (Same.new hE), .new hE, (Same.new hE) _ _ hD⟩ (fun _ H' _ q' => by
        obtain ⟨_, _, _, _, _, _, _, c0⟩ := q'
        exact SqL.of c0) ?_ ?_
      · rintro i x H8 H7 hi ⟨ms, b1, b0, b2, b3, b4, b5, c0⟩ ⟨rfl, hx⟩
        have hi : i < h * wn := by rw [List.length_map, ll] at hi; exact hi
        rw [int_at ll hi] at hx
        cases hx
        refine ⟨rfl, ?_⟩
        dsimp only [tYes]
        rw [if_pos rfl]
        refine ⟨_, rfl, _, rfl, _, rfl, st, lg, cl, sp, 1200 * j + 261 + i, rfl, hsp, Nat.lt_of_le_of_lt hsp2 (by decide), by omega, b3, fun v H9 hv S9 kp9 => ⟨_, _, rfl, rfl, ?_⟩⟩
        have b2' := kp9 _ _ b2 nE.1 nE.2
        refine ⟨_, b2', ?_, ms ++ [numAt ls i + ((v : Nat) : Int)], by simp [b1], fun k hk => ?_, by rw [upd_same, List.map_append]; rfl, stAt_upd S9 b2' nE.1 nE.2 nEC, tabs_upd (tabs_kp b4 b3 kp9) b2', ?_, ?_⟩
        · rw [List.length_map, b1]
          exact Nat.lt_of_lt_of_le (show i < 300 by omega) (by decide)
        · rw [numAt_snoc b1]
          by_cases e : k < i
          · rw [if_pos e]
            exact b0 k e
          · have : k = i := by omega
            subst this
            rw [if_neg e, if_pos rfl]
            omega
        · refine KpN.upd (b5.trans (.kp kp9)) fun u e => ?_
          rw [hE] at e
          cases e
        · rw [upd_ne (ne_of_none hD hE)]
          exact kp9 _ _ c0 nD.1 nD.2
      · rintro H7 ⟨ms, b1, b0, b2, b3, b4, b5, c0⟩
        rw [List.length_map, ll] at b1 b0 b3
        exact ⟨E, ms, rfl, b1, b0, b2, nE, nEC, b3.mono (by omega), b4, b5, c0⟩
    have S6' := S6
    clear hD
    rintro σ' H7 ⟨D2, ms, rfl, lm, mb, hD2, nD2, nC2, S7, Tb7, _, hD⟩
    clear S6 S6' Tb6
    have le : ∀ k, k < h * wn → numAt ls k ≤ numAt ms k := fun k hk => (mb k hk).1
    have lbk : ∀ k, k < h * wn → -(2 ^ 40) ≤ numAt ls k ∧ numAt ls k ≤ 2 ^ 40 := fun k hk => lb _ (numAt_mem (by omega))
    refine ⟨_, rfl, _, rfl, _, rfl, _, rfl, h, wn, D, D2, ls, ms, rfl, hD, hD2, ll, lm, h1, h2, w1, w2, le, fun k hk => ?_, fun H8 s8 => ⟨_, rfl, ?_⟩⟩
    · have := lbk k hk
      have := mb k hk
      omega
    refine iteF ⟨_, rfl, _, rfl, _, rfl, _, rfl, h, wn, D, D, ls, ls, rfl, s8 _ _ hD, s8 _ _ hD, ll, ll, h1, h2, w1, w2, fun k _ => Int.le_refl _, fun k hk => ?_, fun H9 s9 => ⟨_, rfl, ?_⟩⟩
    · have := lbk k hk
      omega
    have s79 := s8.trans s9
    have hD9 := s79 _ _ hD
    have hD29 := s79 _ _ hD2
    have S9 := S7.same s79
    have Tb9 := Tb7.ext s79
    refine iteF ⟨_, rfl, _, rfl, h, wn, rfl, h2, w2, fun qd us H10 s10 nd ld dl => ?_⟩
    have offd := S9.off nd
    have S10 := S9.same s10
    have Tb10 := Tb9.ext s10
    have ul : us.length = h * wn := by rw [dl.len, dotsL_len]
    clear s8 s9 s79 hD hD2 S7 Tb7
    -- ends
    refine ⟨_, rfl, _, rfl, _, rfl, _, rfl, _, rfl, _, rfl, st, lg, cl, qd, us, 1200 * j + 517, rfl, ld, offd.2, by omega, by omega, by omega, S10, fun x H11 hx S11 kp11 => ?_⟩
    obtain ⟨i, hi⟩ := List.mem_iff_getElem?.mp hx
    obtain ⟨pd, d, rfl, hdd, ed⟩ := dl.get hi
    have dm := dots_mem (List.mem_of_getElem? hdd)
    have tp11 := Tp.kp S10 kp11
    have hD11 := kp11 _ _ (s10 _ _ hD9) nD.1 nD.2
    have hD211 := kp11 _ _ (s10 _ _ hD29) nD2.1 nD2.2
    have ld11 := kp11 _ _ ld offd.1 offd.2
    have dl11 := dl.tp tp11
    have Tb11 := tabs_kp Tb10 S10 kp11
    refine ⟨h, wn, D, D2, pd, ls, ms, d.1, d.2, rfl, hD11, hD211, ll, lm, h1, h2, w1, w2, le, tp11 _ _ ed, dm.1, dm.2, fun H12 s12 => ⟨_, rfl, ?_⟩⟩
    have S12 := S11.same s12
    have Tb12 := Tb11.ext s12
    have hD12 := s12 _ _ hD11
    have hD212 := s12 _ _ hD211
    have ld12 := s12 _ _ ld11
    have dl12 := dl11.same s12
    clear hx hi hdd ed dm tp11 kp11 hD11 hD211 ld11 dl11 dl ld S11 Tb11 S10 Tb10 s10 hD9 hD29 S9 Tb9 nd s12
    -- refused
    refine iteF ⟨_, rfl, _, rfl, _, rfl, _, rfl, _, rfl, st, lg, cl, D, D2, ls, ms, h, wn, 1200 * j + 518, rfl, hD12, hD212, nD, nD2, ll, lm, h1, h2, w1, w2, le, by omega, S12, Tb12, fun H13 S13 Tb13 kN => ⟨_, rfl, ?_⟩⟩
    have hD13 := kN _ _ hD12 nD.1 nD.2 (fun _ z => by cases z)
    have hD213 := kN _ _ hD212 nD2.1 nD2.2 (fun _ z => by cases z)
    have ld13 := kN _ _ ld12 offd.1 offd.2 (fun _ z => by cases z)
    have dl13 := dl12.tp (Tp.kpN S12 kN)
    have S13 : StAt H13 st lg cl (1200 * j + 526) := S13
    clear hD12 hD212 ld12 dl12 S12 Tb12 kN
    refine iteF ?_
    -- wide_low
    refine ⟨fun σ' H' => ∃ (E : Addr) (wl : List Int), σ' = [some (.ref a), some (.ref st), some (.int (0 + (j : Nat))), some (.int (h : Nat)), some (.int (wn : Nat)), some (.int (f : Nat)), some (.int (sp : Nat)), some (.ref D), some (.ref D2), some (.ref qd), some (.ref E), v11, v12, v13, v14, none, none] ∧ wl.length = h * wn ∧ (∀ k, k < h * wn → numAt wl k ≤ numAt ls k) ∧ H' E = some (.lst (wl.map V.int)) ∧ (E ≠ st ∧ E ≠ lg) ∧ E ≠ cl ∧ StAt H' st lg cl (1200 * j + 526 + 256) ∧ Tabs (tabs Pt) H' ∧ KpN st lg H13 H' ∧ H' D = some (.lst (ls.map V.int)) ∧ H' D2 = some (.lst (ms.map V.int)), ?_, ?_⟩
    · refine ⟨_, rfl, D, rfl, ⟨_, SqL.of hD13⟩, fun E hE => ?_⟩
      have nE := S13.off hE
      have nEC : E ≠ cl := by
        obtain ⟨_, _, _, _, S', _⟩ := S13
        exact (ne_of_none S'.c hE).symm
      refine lc_it walk_list (fun i H' => ∃ wl : List Int, wl.length = i ∧ (∀ k, k < i → numAt wl k ≤ numAt ls k) ∧ H' E = some (.lst (wl.map V.int)) ∧ StAt H' st lg cl (1200 * j + 526 + i) ∧ Tabs (tabs Pt) H' ∧ KpN st lg H13 H' ∧ H' D = some (.lst (ls.map V.int)) ∧ H' D2 = some (.lst (ms.map V.int))) ⟨[], rfl, (fun k hk => absurd hk (Nat.not_lt_zero k)), upd_same, S13.same (Same.new hE), Tb13.ext (Same.new hE), .new hE, (Same.new hE) _ _ hD13, (Same.new hE) _ _ hD213⟩ (fun _ H' _ q' => by
        obtain ⟨_, _, _, _, _, _, _, c0, c1⟩ := q'
        exact SqL.of c0) ?_ ?_
      · rintro i x H8 H7 hi ⟨wl, b1, b0, b2, b3, b4, b5, c0, c1⟩ ⟨rfl, hx⟩
        have hi : i < h * wn := by rw [List.length_map, ll] at hi; exact hi
        rw [int_at ll hi] at hx
        cases hx
        refine ⟨rfl, ?_⟩
        dsimp only [tYes]
        rw [if_pos rfl]
        refine ⟨_, rfl, _, rfl, st, lg, cl, 3, 1200 * j + 526 + i, rfl, by decide, by decide, by omega, b3, fun v H9 hv S9 kp9 => ⟨_, _, rfl, rfl, ?_⟩⟩
        have b2' := kp9 _ _ b2 nE.1 nE.2
        refine ⟨_, b2', ?_, wl ++ [numAt ls i - ((v : Nat) : Int)], by simp [b1], fun k hk => ?_, by rw [upd_same, List.map_append]; rfl, stAt_upd S9 b2' nE.1 nE.2 nEC, tabs_upd (tabs_kp b4 b3 kp9) b2', ?_, ?_, ?_⟩
        · rw [List.length_map, b1]
          exact Nat.lt_of_lt_of_le (show i < 300 by omega) (by decide)
        · rw [numAt_snoc b1]
          by_cases e : k < i
          · rw [if_pos e]
            exact b0 k e
          · have : k = i := by omega
            subst this
            rw [if_neg e, if_pos rfl]
            omega
        · refine KpN.upd (b5.trans (.kp kp9)) fun u e => ?_
          rw [hE] at e
          cases e
        · rw [upd_ne (ne_of_none hD13 hE)]
          exact kp9 _ _ c0 nD.1 nD.2
        · rw [upd_ne (ne_of_none hD213 hE)]
          exact kp9 _ _ c1 nD2.1 nD2.2
      · rintro H7 ⟨wl, b1, b0, b2, b3, b4, b5, c0, c1⟩
        rw [List.length_map, ll] at b1 b0 b3
        exact ⟨E, wl, rfl, b1, b0, b2, nE, nEC, b3.mono (by omega), b4, b5, c0, c1⟩
    rintro σ' H14 ⟨D3, wl, rfl, lw, wb, hD3, nD3, nC3, S14, Tb14, kN14, hD14, hD214⟩
    have ld14 := kN14 _ _ ld13 offd.1 offd.2 (fun _ z => by cases z)
    have dl14 := dl13.tp (Tp.kpN S13 kN14)
    clear hD13 hD213 ld13 dl13 S13 Tb13 kN14
    -- wide_high
    refine ⟨fun σ' H' => ∃ (E : Addr) (wh : List Int), σ' = [some (.ref a), some (.ref st), some (.int (0 + (j : Nat))), some (.int (h : Nat)), some (.int (wn : Nat)), some (.int (f : Nat)), some (.int (sp : Nat)), some (.ref D), some (.ref D2), some (.ref qd), some (.ref D3), some (.ref E), v12, v13, v14, none, none] ∧ wh.length = h * wn ∧ (∀ k, k < h * wn → numAt ms k ≤ numAt wh k) ∧ H' E = some (.lst (wh.map V.int)) ∧ (E ≠ st ∧ E ≠ lg) ∧ E ≠ cl ∧ StAt H' st lg cl (1200 * j + 782 + 256) ∧ Tabs (tabs Pt) H' ∧ KpN st lg H14 H' ∧ H' D = some (.lst (ls.map V.int)) ∧ H' D2 = some (.lst (ms.map V.int)) ∧ H' D3 = some (.lst (wl.map V.int)), ?_, ?_⟩
    · refine ⟨_, rfl, D2, rfl, ⟨_, SqL.of hD214⟩, fun E hE => ?_⟩
      have nE := S14.off hE
      have nEC : E ≠ cl := by
        obtain ⟨_, _, _, _, S', _⟩ := S14
        exact (ne_of_none S'.c hE).symm
      refine lc_it walk_list (fun i H' => ∃ wh : List Int, wh.length = i ∧ (∀ k, k < i → numAt ms k ≤ numAt wh k) ∧ H' E = some (.lst (wh.map V.int)) ∧ StAt H' st lg cl (1200 * j + 782 + i) ∧ Tabs (tabs Pt) H' ∧ KpN st lg H14 H' ∧ H' D = some (.lst (ls.map V.int)) ∧ H' D2 = some (.lst (ms.map V.int)) ∧ H' D3 = some (.lst (wl.map V.int))) ⟨[], rfl, (fun k hk => absurd hk (Nat.not_lt_zero k)), upd_same, S14.same (Same.new hE), Tb14.ext (Same.new hE), .new hE, (Same.new hE) _ _ hD14, (Same.new hE) _ _ hD214, (Same.new hE) _ _ hD3⟩ (fun _ H' _ q' => by
        obtain ⟨_, _, _, _, _, _, _, c0, c1, c2⟩ := q'
        exact SqL.of c1) ?_ ?_
      · rintro i x H8 H7 hi ⟨wh, b1, b0, b2, b3, b4, b5, c0, c1, c2⟩ ⟨rfl, hx⟩
        have hi : i < h * wn := by rw [List.length_map, lm] at hi; exact hi
        rw [int_at lm hi] at hx
        cases hx
        refine ⟨rfl, ?_⟩
        dsimp only [tYes]
        rw [if_pos rfl]
        refine ⟨_, rfl, _, rfl, st, lg, cl, 3, 1200 * j + 782 + i, rfl, by decide, by decide, by omega, b3, fun v H9 hv S9 kp9 => ⟨_, _, rfl, rfl, ?_⟩⟩
        have b2' := kp9 _ _ b2 nE.1 nE.2
        refine ⟨_, b2', ?_, wh ++ [numAt ms i + ((v : Nat) : Int)], by simp [b1], fun k hk => ?_, by rw [upd_same, List.map_append]; rfl, stAt_upd S9 b2' nE.1 nE.2 nEC, tabs_upd (tabs_kp b4 b3 kp9) b2', ?_, ?_, ?_, ?_⟩
        · rw [List.length_map, b1]
          exact Nat.lt_of_lt_of_le (show i < 300 by omega) (by decide)
        · rw [numAt_snoc b1]
          by_cases e : k < i
          · rw [if_pos e]
            exact b0 k e
          · have : k = i := by omega
            subst this
            rw [if_neg e, if_pos rfl]
            omega
        · refine KpN.upd (b5.trans (.kp kp9)) fun u e => ?_
          rw [hE] at e
          cases e
        · rw [upd_ne (ne_of_none hD14 hE)]
          exact kp9 _ _ c0 nD.1 nD.2
        · rw [upd_ne (ne_of_none hD214 hE)]
          exact kp9 _ _ c1 nD2.1 nD2.2
        · rw [upd_ne (ne_of_none hD3 hE)]
          exact kp9 _ _ c2 nD3.1 nD3.2
      · rintro H7 ⟨wh, b1, b0, b2, b3, b4, b5, c0, c1, c2⟩
        rw [List.length_map, lm] at b1 b0 b3
        exact ⟨E, wh, rfl, b1, b0, b2, nE, nEC, b3.mono (by omega), b4, b5, c0, c1, c2⟩
    rintro σ' H15 ⟨D4, wh, rfl, lh, hb, hD4, nD4, nC4, S15, Tb15, kN15, hD15, hD215, hD315⟩
    have ld15 := kN15 _ _ ld14 offd.1 offd.2 (fun _ z => by cases z)
    have dl15 := dl14.tp (Tp.kpN S14 kN15)
    clear hD14 hD214 ld14 dl14 S14 Tb14 kN15 hD3
    -- inner
    refine ⟨_, rfl, _, rfl, D, ls, h, wn, rfl, hD15, ll, h1, h2, w1, w2, fun pa Ha sa _ pA => ⟨_, rfl, _, rfl, D2, ms, h, wn, rfl, sa _ _ hD215, lm, h1, h2, w1, w2, fun pb Hb sb _ pB => ?_⟩⟩
    show tNil _ Hb _
    unfold tNil
    show spLiftSpans K T.BadRectangle.C T.BadSpans.C [.ref pa, .ref pb] Hb _ _
    refine call_spans h1 w1 ll lm le (pA.keep sb) pB fun r1 p1 p2 Hc sc er1 q1 q2 => ?_
    have sbc := (sa.trans sb).trans sc
    -- outer
    refine ⟨_, rfl, _, rfl, D3, wl, h, wn, rfl, sbc _ _ hD315, lw, h1, h2, w1, w2, fun pl Hd sd _ pL => ⟨_, rfl, _, rfl, D4, wh, h, wn, rfl, (sbc.trans sd) _ _ hD4, lh, h1, h2, w1, w2, fun ph He se _ pH => ⟨rfl, ?_⟩⟩⟩
    show spLiftSpans K T.BadRectangle.C T.BadSpans.C [.ref pl, .ref ph] He _ _
    have le2 : ∀ k, k < h * wn → numAt wl k ≤ numAt wh k := fun k hk => Int.le_trans (wb k hk) (Int.le_trans (le k hk) (hb k hk))
    refine call_spans h1 w1 lw lh le2 (pL.keep se) pH fun r2 p3 p4 Hf sf er2 q3 q4 => ?_
    have scf := (sd.trans se).trans sf
    have er1 := scf _ _ er1
    have q1 := q1.keep scf
    have q2 := q2.keep scf
    have s15f := sbc.trans scf
    have S16 := S15.same s15f
    have Tb16 := Tb15.ext s15f
    have ldf := s15f _ _ ld15
    have dlf := dl15.same s15f
    clear sa sb sc sd se sf sbc scf s15f S15 Tb15 ld15 dl15 hD4 hD15 hD215 hD315 pA pB pL pH
    refine ⟨_, rfl, qd, rfl, ⟨_, SqL.of ldf⟩, for_it walk_list (fun i σ H' => (∃ v14, σ = [some (.ref a), some (.ref st), some (.int (0 + (j : Nat))), some (.int (h : Nat)), some (.int (wn : Nat)), some (.int (f : Nat)), some (.int (sp : Nat)), some (.ref D), some (.ref D2), some (.ref qd), some (.ref D3), some (.ref D4), some (.ref r1), some (.ref r2), v14, none, none]) ∧ Same Hf H') ⟨⟨_, rfl⟩, Same.refl _⟩ (fun i σ H' _ q' => SqL.of (q'.2 _ _ ldf)) ?_ fun σ H' q' => ?_⟩
    · rintro i x σ Hh Hg hi ⟨⟨v14', rfl⟩, sg⟩ ⟨rfl, hx⟩
      obtain ⟨pd, d, rfl, hdd, ed⟩ := (dlf.same sg).get hx
      obtain ⟨hy, hx'⟩ := dots_mem (List.mem_of_getElem? hdd)
      have il := inn_len h1 w1
      have mono := span_mono (m := numAt ls) (g := numAt ms) (m' := numAt wl) (g' := numAt wh) (ss := (innL h wn).map (sideV d.1 d.2)) (innL h wn).length fun k hk => ⟨wb k (by omega), hb k (by omega)⟩
      have mono : (spanAt wl wh h wn d.1 d.2).1 ≤ (spanAt ls ms h wn d.1 d.2).1 ∧ (spanAt ls ms h wn d.1 d.2).2 ≤ (spanAt wl wh h wn d.1 d.2).2 := mono
      have one : ∀ {p : Addr} {ps : List (Int × Int)} {f : Int × Int → Int} {v : Int × Int}, ps.length = h * wn → ps[d.1 * wn + d.2]? = some v → Pn Hf p (rowsOf (ps.map f) h wn) wn → ∃ vs b fs, Hg p = some (.tup vs) ∧ vs[d.1]? = some (.ref b) ∧ Hg b = some (.tup fs) ∧ fs[d.2]? = some (.int (f v)) := fun {p ps f v} lp ev pn => by
        have lp' : (ps.map f).length = h * wn := by rw [List.length_map, lp]
        obtain ⟨vs, b, e1, _, e3, e4⟩ := row_at_ lp' (pn.keep sg) hy
        refine ⟨vs, b, _, e1, e3, e4, ?_⟩
        rw [int_at (row_len lp' hy) hx', row_num hx']
        unfold numAt
        rw [List.getD_eq_getElem?_getD, List.getElem?_map, ev]
        rfl
      obtain ⟨a1, a2, a3, a4, a5, a6, a7⟩ := one spans_len (spans_getD hy hx') q1
      obtain ⟨b1, b2, b3, b4, b5, b6, b7⟩ := one spans_len (spans_getD hy hx') q2
      obtain ⟨c1, c2, c3, c4, c5, c6, c7⟩ := one spans_len (spans_getD hy hx') q3
      obtain ⟨d1, d2, d3, d4, d5, d6, d7⟩ := one spans_len (spans_getD hy hx') q4
      have r1g := sg _ _ er1
      have r2g := sg _ _ er2
      refine ⟨_, rfl, r2, _, 0, _, rfl, rfl, SqT.of r2g, atI_nat (j := 0) rfl, _, rfl, pd, _, 0, _, rfl, rfl, SqT.of ed, atI_nat (j := 0) rfl, p3, _, _, _, rfl, rfl, SqT.of c4, atI_nat c5, _, rfl, pd, _, 1, _, rfl, rfl, SqT.of ed, atI_nat (j := 1) rfl, c2, _, _, _, rfl, rfl, SqT.of c6, atI_nat c7, ?_⟩
      refine ⟨_, rfl, r1, _, 0, _, rfl, rfl, SqT.of r1g, atI_nat (j := 0) rfl, _, rfl, pd, _, 0, _, rfl, rfl, SqT.of ed, atI_nat (j := 0) rfl, p1, _, _, _, rfl, rfl, SqT.of a4, atI_nat a5, _, rfl, pd, _, 1, _, rfl, rfl, SqT.of ed, atI_nat (j := 1) rfl, a2, _, _, _, rfl, rfl, SqT.of a6, atI_nat a7, _, _, rfl, rfl, _, rfl, ?_⟩
      rw [decide_eq_false (show ¬ (spanAt ls ms h wn d.1 d.2).1 < (spanAt wl wh h wn d.1 d.2).1 by omega)]
      refine iteF ?_
      refine ⟨_, rfl, r2, _, 1, _, rfl, rfl, SqT.of r2g, atI_nat (j := 1) rfl, _, rfl, pd, _, 0, _, rfl, rfl, SqT.of ed, atI_nat (j := 0) rfl, p4, _, _, _, rfl, rfl, SqT.of d4, atI_nat d5, _, rfl, pd, _, 1, _, rfl, rfl, SqT.of ed, atI_nat (j := 1) rfl, d2, _, _, _, rfl, rfl, SqT.of d6, atI_nat d7, ?_⟩
      refine ⟨_, rfl, r1, _, 1, _, rfl, rfl, SqT.of r1g, atI_nat (j := 1) rfl, _, rfl, pd, _, 0, _, rfl, rfl, SqT.of ed, atI_nat (j := 0) rfl, p2, _, _, _, rfl, rfl, SqT.of b4, atI_nat b5, _, rfl, pd, _, 1, _, rfl, rfl, SqT.of ed, atI_nat (j := 1) rfl, b2, _, _, _, rfl, rfl, SqT.of b6, atI_nat b7, _, _, rfl, rfl, _, rfl, ?_⟩
      rw [decide_eq_false (show ¬ (spanAt wl wh h wn d.1 d.2).2 < (spanAt ls ms h wn d.1 d.2).2 by omega)]
      exact iteF ⟨⟨_, rfl⟩, sg⟩
    · obtain ⟨⟨v14', rfl⟩, sg⟩ := q'
      exact ⟨(S16.same sg).mono (by omega), Tb16.ext sg, _, _, _, _, _, _, _, _, _, _, _, _, _, rfl⟩
end
end K17
namespace K17
open PySem PySem.Spec PyProof.Rows L2 PySem.W LamX KA KW KU KL KT
/-! ### what the head's heap says, put together -/
section
variable {K : PySem.W.Frag} {mg : Str → Option Value} {h : Heap}
theorem defT_of {x : Str} {st : Stmt} {f : Addr} {od an : Option Addr} {sl : Array (Option Value)} {oc kV dc pm cd ct : Value} (X : K.In h) (G : h.Ns mainGlobals mg)
    (a : PySem.W.nsIn K mainGlobals x = some (some (.ref f))) (l : K.lookup f = some ⟨oc, od, .func (PySem.W.fnOf x x (defArgs st) (defBody st) (defScope st) .none kV dc pm an cd ct), sl⟩) (c : PySem.W.codeIn K cd x = true) (k : PySem.W.keepIn K (.ref f) = true) :
    Nonempty (DefT K mg x st) := ⟨⟨f, _, fun_mk l c k, PySem.W.mg_of X G a⟩⟩
theorem lamT_of {x : Str} {st : Stmt} {f c Pt : Addr} {od an : Option Addr} {sl : Array (Option Value)} {oc kV dc pm ct : Value} (X : K.In h) (G : h.Ns mainGlobals mg) (T : DefT K mg x st)
    (a : PySem.W.nsIn K mainGlobals x = some (some (.ref f))) (l : K.lookup f = some ⟨oc, od, .func (PySem.W.fnOf x x (defArgs st) (defBody st) (defScope st) .none kV dc pm an (.ref c) ct), sl⟩) (cc : PySem.W.codeIn K (.ref c) x = true) :
    LamT K x st T.a T.d c Pt := by
  have e := (PySem.W.mg_of X G a).symm.trans T.m
  have e : f = T.a := Value.ref.inj (Option.some.inj e)
  obtain ⟨oc', od', kV', dc', pm', an', cd', ct', sl', ed, lk, hcd⟩ := T.f.ex
  rw [e] at l
  have e2 := l.symm.trans lk
  have e3 := congrArg Obj.data (Option.some.inj e2)
  have e4 := Data.func.inj e3
  exact ⟨oc, od, kV, dc, pm, an, ct, sl, e4.symm, by rw [← e4]; exact l, cc⟩
theorem reelT_of {C : Addr} (X : K.In h) (G : h.Ns mainGlobals mg) (a : PySem.W.nsIn K mainGlobals "ReelError" = some (some (.ref C))) (b : PySem.W.subIn K (.ref C) (.type "BaseException") = some true)
    (t : PySem.W.typeIn K (.ref C) = some (.type "type")) (d : PySem.W.hasDictIn K C = true) : ∃ R : ReelT K mg, R.C = C := ⟨⟨C, PySem.W.mg_of X G a, b, t, d⟩, rfl⟩
theorem excT_of {x : Str} {C R : Addr} (X : K.In h) (G : h.Ns mainGlobals mg) (a : PySem.W.nsIn K mainGlobals x = some (some (.ref C))) (q : PySem.W.excIn K C veB "ValueError.__new__" = true) (k : PySem.W.keepIn K (.ref C) = true)
    (b : PySem.W.subIn K (.ref C) (.type "BaseException") = some true) (t : PySem.W.typeIn K (.ref C) = some (.type "type")) (r : PySem.W.subIn K (.ref C) (.ref R) = some true)
    (e1 : PySem.W.findIn K (.ref C) "__getattribute__" = some (some (.builtin "BaseException.__getattribute__"))) (e2 : PySem.W.findIn K (.ref C) "__getattr__" = some none) (e3 : PySem.W.hasDictIn K C = true)
    (e4 : PySem.W.findIn K (.ref C) "__class__" = some (some (.builtin "object.__class__"))) (e5 : PySem.W.specialIn K (.builtin "object.__class__") "__get__" = some (some (.builtin "getset_descriptor.__get__")))
    (e6 : PySem.W.takesIn K (.builtin "object.__class__") = some true) (e7 : PySem.W.mroIn K C (.type "object") = some true) : Nonempty (ExcT K mg x R) :=
  ⟨⟨C, PySem.W.mg_of X G a, q, k, b, t, r, ⟨e1, e2, b, e3, e4, e5, e6, e7⟩⟩⟩
theorem cstT_of {x : Str} {n : Int} {t : Tok} (X : K.In h) (G : h.Ns mainGlobals mg) (a : PySem.W.nsIn K mainGlobals x = some (some (.int n t))) : CstT mg x n := ⟨t, PySem.W.mg_of X G a⟩
/-- the law, at the head's heap -/
theorem law_at {l : PySem.W.OpenLaw} {w : World} {fa c Pt : Addr} (T : Top K mg) (name : mg "law" = some (.ref fa)) (LT : LamT K "_law_are_refused" s__law_are_refused T._law_are_refused.a T._law_are_refused.d c Pt)
    (ht : h.get? Pt = some { cls := .none, data := .fields #[] }) (hk : K.lookup Pt = none) (hc : PySem.W.CodeHd h c Pt) : LawAtG l w K (L2.CX l.prog w) 14 63 "script" mg fa h := by
  have e : fa = T.law.a := Value.ref.inj (Option.some.inj (name.symm.trans T.law.m))
  subst e
  have one : ∀ {A : Addr × Addr → Prop}, A (c, Pt) → ∀ p ∈ [(c, Pt)], A p := fun q p hp => by
    rw [List.mem_singleton.mp hp]
    exact q
  refine ⟨T.law.d, [(c, Pt)], spLaw K Pt, ⟨one ht, one hk, one hc⟩, fun s u => ?_, fun H a ns short t S => ?_, fun base _ _ tb => ok_law T LT (tb (c, Pt) (List.mem_singleton.mpr rfl))⟩
  · obtain ⟨oc, od, kV, doc, pm, an, cdv, ct, osl, ed, lk, hcd⟩ := T.law.f.ex
    rw [ed]
    exact .of_eq rfl
  · refine ⟨a, ns, rfl, S, short, fun p hp => ?_, fun _ => rfl⟩
    rw [List.mem_singleton.mp hp]
    exact TabS.nil (t (c, Pt) (List.mem_singleton.mpr rfl))
theorem calm_cx {P : Program} {w : World} {H : Hp} {s : Shared} {e : Value} {s' : Shared} (z : L2.CX P w [] H s (fun _ _ _ => False) e s') : False := by
  obtain ⟨_, _, _, _, _, _, _, _, _, _, _, _, f⟩ := z
  exact f
end
end K17
namespace K17
open PySem PySem.Spec PyProof.Rows L2 PySem.W LamX KA KW KU KL KT
section
variable {K : PySem.W.Frag} {mg : Str → Option Value} {h : Heap} {A : Prop}
theorem reel_use {C : Addr} (X : K.In h) (G : h.Ns mainGlobals mg) (a : PySem.W.nsIn K mainGlobals "ReelError" = some (some (.ref C))) (b : PySem.W.subIn K (.ref C) (.type "BaseException") = some true)
    (t : PySem.W.typeIn K (.ref C) = some (.type "type")) (d : PySem.W.hasDictIn K C = true) (n : ∀ R : ReelT K mg, R.C = C → A) : A := by
  obtain ⟨R, e⟩ := reelT_of X G a b t d
  exact n R e
theorem exc_use {x : Str} {C B : Addr} (X : K.In h) (G : h.Ns mainGlobals mg) (R : ReelT K mg) (eR : R.C = B) (a : PySem.W.nsIn K mainGlobals x = some (some (.ref C))) (q : PySem.W.excIn K C veB "ValueError.__new__" = true) (k : PySem.W.keepIn K (.ref C) = true)
    (b : PySem.W.subIn K (.ref C) (.type "BaseException") = some true) (t : PySem.W.typeIn K (.ref C) = some (.type "type")) (r : PySem.W.subIn K (.ref C) (.ref B) = some true)
    (e1 : PySem.W.findIn K (.ref C) "__getattribute__" = some (some (.builtin "BaseException.__getattribute__"))) (e2 : PySem.W.findIn K (.ref C) "__getattr__" = some none) (e3 : PySem.W.hasDictIn K C = true)
    (e4 : PySem.W.findIn K (.ref C) "__class__" = some (some (.builtin "object.__class__"))) (e5 : PySem.W.specialIn K (.builtin "object.__class__") "__get__" = some (some (.builtin "getset_descriptor.__get__")))
    (e6 : PySem.W.takesIn K (.builtin "object.__class__") = some true) (e7 : PySem.W.mroIn K C (.type "object") = some true) (n : ExcT K mg x R.C → A) : A := by
  rw [← eR] at r
  obtain ⟨D⟩ := excT_of X G a q k b t r e1 e2 e3 e4 e5 e6 e7
  exact n D
theorem def_use {x : Str} {st : Stmt} {f : Addr} {od an : Option Addr} {sl : Array (Option Value)} {oc kV dc pm cd ct : Value} (X : K.In h) (G : h.Ns mainGlobals mg)
    (a : PySem.W.nsIn K mainGlobals x = some (some (.ref f))) (l : K.lookup f = some ⟨oc, od, .func (PySem.W.fnOf x x (defArgs st) (defBody st) (defScope st) .none kV dc pm an cd ct), sl⟩) (c : PySem.W.codeIn K cd x = true) (k : PySem.W.keepIn K (.ref f) = true)
    (n : DefT K mg x st → A) : A := by
  obtain ⟨D⟩ := defT_of X G a l c k
  exact n D
theorem lam_use {x : Str} {st : Stmt} {f c Pt : Addr} {od an : Option Addr} {sl : Array (Option Value)} {oc kV dc pm ct : Value} (X : K.In h) (G : h.Ns mainGlobals mg) (T : DefT K mg x st) (t : h.get? Pt = some { cls := .none, data := .fields #[] })
    (a : PySem.W.nsIn K mainGlobals x = some (some (.ref f))) (l : K.lookup f = some ⟨oc, od, .func (PySem.W.fnOf x x (defArgs st) (defBody st) (defScope st) .none kV dc pm an (.ref c) ct), sl⟩) (cc : PySem.W.codeIn K (.ref c) x = true)
    (hk : K.lookup Pt = none) (hc : PySem.W.codeHdIn K c Pt = true) (n : LamT K x st T.a T.d c Pt → K.lookup Pt = none → PySem.W.CodeHd h c Pt → A) : A := n (lamT_of X G T a l cc) hk (PySem.W.codeHd_of_K X hc)
end
end K17
open PySem PySem.W PyProof.Rows
set_option maxRecDepth 100000 in
set_option maxHeartbeats 0 in
theorem PySem.Challenge.cw_pricedreels_k17_spans_of_lifted_numbers_holds : PySem.Challenge.rw_pricedreels_k17_spans_of_lifted_numbers.Holds := by
  w_on; o_law; k_head; (case hw => w_witness2)
  k_fill
  refine KA.walk_ofG (l := PySem.Challenge.rw_pricedreels_k17_spans_of_lifted_numbers) (k := 14) (n := 63) (x := "script") (CX := fun w => L2.CX PySem.Challenge.rw_pricedreels_k17_spans_of_lifted_numbers.prog w) rfl (by decide) rfl ⟨rfl, by decide, by decide⟩ (fun w h Y => km_in_of Y) ?F (fun _ _ _ _ _ z => K17.calm_cx z)
  case F =>
    intro w mg fa h Y KX G hmg
    have tabs := km_tabs_of Y
    have one := tabs _ List.mem_cons_self
    refine' K17.reel_use KX G ?ya ?yb ?yt ?yd ?_
    (case ya => k_is); (case yb => k_is); (case yt => k_is); (case yd => k_is)
    intro R eR
    refine' K17.exc_use (x := "BadRectangle") KX G R eR ?ya ?yq ?yk ?yb ?yt ?yr ?ye1 ?ye2 ?ye3 ?ye4 ?ye5 ?ye6 ?ye7 ?_
    (case ya => k_is); (case yq => k_exc); (case yk => k_is); (case yb => k_is); (case yt => k_is); (case yr => k_is); (case ye1 => k_is); (case ye2 => k_is); (case ye3 => k_is); (case ye4 => k_is); (case ye5 => k_is); (case ye6 => k_is); (case ye7 => k_is)
    intro BadRectangle
    refine' K17.exc_use (x := "BadSpans") KX G R eR ?ya ?yq ?yk ?yb ?yt ?yr ?ye1 ?ye2 ?ye3 ?ye4 ?ye5 ?ye6 ?ye7 ?_
    (case ya => k_is); (case yq => k_exc); (case yk => k_is); (case yb => k_is); (case yt => k_is); (case yr => k_is); (case ye1 => k_is); (case ye2 => k_is); (case ye3 => k_is); (case ye4 => k_is); (case ye5 => k_is); (case ye6 => k_is); (case ye7 => k_is)
    intro BadSpans
    refine' K17.exc_use (x := "BadSpot") KX G R eR ?ya ?yq ?yk ?yb ?yt ?yr ?ye1 ?ye2 ?ye3 ?ye4 ?ye5 ?ye6 ?ye7 ?_
    (case ya => k_is); (case yq => k_exc); (case yk => k_is); (case yb => k_is); (case yt => k_is); (case yr => k_is); (case ye1 => k_is); (case ye2 => k_is); (case ye3 => k_is); (case ye4 => k_is); (case ye5 => k_is); (case ye6 => k_is); (case ye7 => k_is)
    intro BadSpot
    refine' K17.exc_use (x := "BadUpper") KX G R eR ?ya ?yq ?yk ?yb ?yt ?yr ?ye1 ?ye2 ?ye3 ?ye4 ?ye5 ?ye6 ?ye7 ?_
    (case ya => k_is); (case yq => k_exc); (case yk => k_is); (case yb => k_is); (case yt => k_is); (case yr => k_is); (case ye1 => k_is); (case ye2 => k_is); (case ye3 => k_is); (case ye4 => k_is); (case ye5 => k_is); (case ye6 => k_is); (case ye7 => k_is)
    intro BadUpper
    refine' K17.def_use (x := "is_number") (st := K17.s_is_number) KX G ?ya ?yl ?yc ?yk ?_
    (case ya => k_is); (case yl => k_is); (case yc => k_is); (case yk => k_is)
    intro f_is_number
    refine' K17.def_use (x := "is_within") (st := K17.s_is_within) KX G ?ya ?yl ?yc ?yk ?_
    (case ya => k_is); (case yl => k_is); (case yc => k_is); (case yk => k_is)
    intro f_is_within
    refine' K17.def_use (x := "is_row") (st := K17.s_is_row) KX G ?ya ?yl ?yc ?yk ?_
    (case ya => k_is); (case yl => k_is); (case yc => k_is); (case yk => k_is)
    intro f_is_row
    refine' K17.def_use (x := "is_rows") (st := K17.s_is_rows) KX G ?ya ?yl ?yc ?yk ?_
    (case ya => k_is); (case yl => k_is); (case yc => k_is); (case yk => k_is)
    intro f_is_rows
    refine' K17.def_use (x := "lift_spans") (st := K17.s_lift_spans) KX G ?ya ?yl ?yc ?yk ?_
    (case ya => k_is); (case yl => k_is); (case yc => k_is); (case yk => k_is)
    intro f_lift_spans
    refine' K17.def_use (x := "lift_end") (st := K17.s_lift_end) KX G ?ya ?yl ?yc ?yk ?_
    (case ya => k_is); (case yl => k_is); (case yc => k_is); (case yk => k_is)
    intro f_lift_end
    refine' K17.def_use (x := "check_rectangle") (st := K17.s_check_rectangle) KX G ?ya ?yl ?yc ?yk ?_
    (case ya => k_is); (case yl => k_is); (case yc => k_is); (case yk => k_is)
    intro f_check_rectangle
    refine' K17.def_use (x := "check_spans") (st := K17.s_check_spans) KX G ?ya ?yl ?yc ?yk ?_
    (case ya => k_is); (case yl => k_is); (case yc => k_is); (case yk => k_is)
    intro f_check_spans
    refine' K17.def_use (x := "check_spot") (st := K17.s_check_spot) KX G ?ya ?yl ?yc ?yk ?_
    (case ya => k_is); (case yl => k_is); (case yc => k_is); (case yk => k_is)
    intro f_check_spot
    refine' K17.def_use (x := "is_inner") (st := K17.s_is_inner) KX G ?ya ?yl ?yc ?yk ?_
    (case ya => k_is); (case yl => k_is); (case yc => k_is); (case yk => k_is)
    intro f_is_inner
    refine' K17.def_use (x := "halves") (st := K17.s_halves) KX G ?ya ?yl ?yc ?yk ?_
    (case ya => k_is); (case yl => k_is); (case yc => k_is); (case yk => k_is)
    intro f_halves
    refine' K17.def_use (x := "halves_at") (st := K17.s_halves_at) KX G ?ya ?yl ?yc ?yk ?_
    (case ya => k_is); (case yl => k_is); (case yc => k_is); (case yk => k_is)
    intro f_halves_at
    refine' K17.def_use (x := "list_areas") (st := K17.s_list_areas) KX G ?ya ?yl ?yc ?yk ?_
    (case ya => k_is); (case yl => k_is); (case yc => k_is); (case yk => k_is)
    intro f_list_areas
    refine' K17.def_use (x := "lies_in") (st := K17.s_lies_in) KX G ?ya ?yl ?yc ?yk ?_
    (case ya => k_is); (case yl => k_is); (case yc => k_is); (case yk => k_is)
    intro f_lies_in
    refine' K17.def_use (x := "in_rows") (st := K17.s_in_rows) KX G ?ya ?yl ?yc ?yk ?_
    (case ya => k_is); (case yl => k_is); (case yc => k_is); (case yk => k_is)
    intro f_in_rows
    refine' K17.def_use (x := "lowest") (st := K17.s_lowest) KX G ?ya ?yl ?yc ?yk ?_
    (case ya => k_is); (case yl => k_is); (case yc => k_is); (case yk => k_is)
    intro f_lowest
    refine' K17.def_use (x := "end_at") (st := K17.s_end_at) KX G ?ya ?yl ?yc ?yk ?_
    (case ya => k_is); (case yl => k_is); (case yc => k_is); (case yk => k_is)
    intro f_end_at
    refine' K17.def_use (x := "_law_begun") (st := K17.s__law_begun) KX G ?ya ?yl ?yc ?yk ?_
    (case ya => k_is); (case yl => k_is); (case yc => k_is); (case yk => k_is)
    intro f__law_begun
    refine' K17.def_use (x := "_law_draw") (st := K17.s__law_draw) KX G ?ya ?yl ?yc ?yk ?_
    (case ya => k_is); (case yl => k_is); (case yc => k_is); (case yk => k_is)
    intro f__law_draw
    refine' K17.def_use (x := "_law_pick") (st := K17.s__law_pick) KX G ?ya ?yl ?yc ?yk ?_
    (case ya => k_is); (case yl => k_is); (case yc => k_is); (case yk => k_is)
    intro f__law_pick
    refine' K17.def_use (x := "_law_caught") (st := K17.s__law_caught) KX G ?ya ?yl ?yc ?yk ?_
    (case ya => k_is); (case yl => k_is); (case yc => k_is); (case yk => k_is)
    intro f__law_caught
    refine' K17.def_use (x := "_law_is_whole") (st := K17.s__law_is_whole) KX G ?ya ?yl ?yc ?yk ?_
    (case ya => k_is); (case yl => k_is); (case yc => k_is); (case yk => k_is)
    intro f__law_is_whole
    refine' K17.def_use (x := "_law_odd") (st := K17.s__law_odd) KX G ?ya ?yl ?yc ?yk ?_
    (case ya => k_is); (case yl => k_is); (case yc => k_is); (case yk => k_is)
    intro f__law_odd
    refine' K17.def_use (x := "_law_areas") (st := K17.s__law_areas) KX G ?ya ?yl ?yc ?yk ?_
    (case ya => k_is); (case yl => k_is); (case yc => k_is); (case yk => k_is)
    intro f__law_areas
    refine' K17.def_use (x := "_law_halves") (st := K17.s__law_halves) KX G ?ya ?yl ?yc ?yk ?_
    (case ya => k_is); (case yl => k_is); (case yc => k_is); (case yk => k_is)
    intro f__law_halves
    refine' K17.def_use (x := "_law_lift") (st := K17.s__law_lift) KX G ?ya ?yl ?yc ?yk ?_
    (case ya => k_is); (case yl => k_is); (case yc => k_is); (case yk => k_is)
    intro f__law_lift
    refine' K17.def_use (x := "_law_unlift") (st := K17.s__law_unlift) KX G ?ya ?yl ?yc ?yk ?_
    (case ya => k_is); (case yl => k_is); (case yc => k_is); (case yk => k_is)
    intro f__law_unlift
    refine' K17.def_use (x := "_law_lines_of") (st := K17.s__law_lines_of) KX G ?ya ?yl ?yc ?yk ?_
    (case ya => k_is); (case yl => k_is); (case yc => k_is); (case yk => k_is)
    intro f__law_lines_of
    refine' K17.def_use (x := "_law_row_by_row") (st := K17.s__law_row_by_row) KX G ?ya ?yl ?yc ?yk ?_
    (case ya => k_is); (case yl => k_is); (case yc => k_is); (case yk => k_is)
    intro f__law_row_by_row
    refine' K17.def_use (x := "_law_sizes") (st := K17.s__law_sizes) KX G ?ya ?yl ?yc ?yk ?_
    (case ya => k_is); (case yl => k_is); (case yc => k_is); (case yk => k_is)
    intro f__law_sizes
    refine' K17.def_use (x := "_law_figure") (st := K17.s__law_figure) KX G ?ya ?yl ?yc ?yk ?_
    (case ya => k_is); (case yl => k_is); (case yc => k_is); (case yk => k_is)
    intro f__law_figure
    refine' K17.def_use (x := "_law_is_pane") (st := K17.s__law_is_pane) KX G ?ya ?yl ?yc ?yk ?_
    (case ya => k_is); (case yl => k_is); (case yc => k_is); (case yk => k_is)
    intro f__law_is_pane
    refine' K17.def_use (x := "_law_bent_pane") (st := K17.s__law_bent_pane) KX G ?ya ?yl ?yc ?yk ?_
    (case ya => k_is); (case yl => k_is); (case yc => k_is); (case yk => k_is)
    intro f__law_bent_pane
    refine' K17.def_use (x := "_law_sides_of") (st := K17.s__law_sides_of) KX G ?ya ?yl ?yc ?yk ?_
    (case ya => k_is); (case yl => k_is); (case yc => k_is); (case yk => k_is)
    intro f__law_sides_of
    refine' K17.def_use (x := "_law_lies_in") (st := K17.s__law_lies_in) KX G ?ya ?yl ?yc ?yk ?_
    (case ya => k_is); (case yl => k_is); (case yc => k_is); (case yk => k_is)
    intro f__law_lies_in
    refine' K17.def_use (x := "_law_span_at") (st := K17.s__law_span_at) KX G ?ya ?yl ?yc ?yk ?_
    (case ya => k_is); (case yl => k_is); (case yc => k_is); (case yk => k_is)
    intro f__law_span_at
    refine' K17.def_use (x := "_law_all_rows") (st := K17.s__law_all_rows) KX G ?ya ?yl ?yc ?yk ?_
    (case ya => k_is); (case yl => k_is); (case yc => k_is); (case yk => k_is)
    intro f__law_all_rows
    refine' K17.def_use (x := "_law_all_dots") (st := K17.s__law_all_dots) KX G ?ya ?yl ?yc ?yk ?_
    (case ya => k_is); (case yl => k_is); (case yc => k_is); (case yk => k_is)
    intro f__law_all_dots
    refine' K17.def_use (x := "_law_all_spans") (st := K17.s__law_all_spans) KX G ?ya ?yl ?yc ?yk ?_
    (case ya => k_is); (case yl => k_is); (case yc => k_is); (case yk => k_is)
    intro f__law_all_spans
    refine' K17.def_use (x := "_law_are_spans") (st := K17.s__law_are_spans) KX G ?ya ?yl ?yc ?yk ?_
    (case ya => k_is); (case yl => k_is); (case yc => k_is); (case yk => k_is)
    intro f__law_are_spans
    refine' K17.def_use (x := "_law_are_ends") (st := K17.s__law_are_ends) KX G ?ya ?yl ?yc ?yk ?_
    (case ya => k_is); (case yl => k_is); (case yc => k_is); (case yk => k_is)
    intro f__law_are_ends
    refine' K17.def_use (x := "_law_are_refused") (st := K17.s__law_are_refused) KX G ?ya ?yl ?yc ?yk ?_
    (case ya => k_is); (case yl => k_is); (case yc => k_is); (case yk => k_is)
    intro f__law_are_refused
    refine' K17.def_use (x := "law") (st := K17.s_law) KX G ?ya ?yl ?yc ?yk ?_
    (case ya => k_is); (case yl => k_is); (case yc => k_is); (case yk => k_is)
    intro f_law
    refine' K17.lam_use KX G f__law_are_refused one ?ya ?yl ?yc ?yh ?yj ?_
    (case ya => k_is); (case yl => k_is); (case yc => k_is); (case yh => kernel_rfl); (case yj => kernel_rfl)
    intro LT noT hd
    have b_isinstance := PySem.W.mg_none_of (n := "isinstance") KX G (by k_is)
    have b_int := PySem.W.mg_none_of (n := "int") KX G (by k_is)
    have b_bool := PySem.W.mg_none_of (n := "bool") KX G (by k_is)
    have b_len := PySem.W.mg_none_of (n := "len") KX G (by k_is)
    have b_abs := PySem.W.mg_none_of (n := "abs") KX G (by k_is)
    have b_range := PySem.W.mg_none_of (n := "range") KX G (by k_is)
    have b_min := PySem.W.mg_none_of (n := "min") KX G (by k_is)
    have b_max := PySem.W.mg_none_of (n := "max") KX G (by k_is)
    have b_list := PySem.W.mg_none_of (n := "list") KX G (by k_is)
    have b_tuple := PySem.W.mg_none_of (n := "tuple") KX G (by k_is)
    have b_all := PySem.W.mg_none_of (n := "all") KX G (by k_is)
    have b_enumerate := PySem.W.mg_none_of (n := "enumerate") KX G (by k_is)
    have b_zip := PySem.W.mg_none_of (n := "zip") KX G (by k_is)
    have b_ValueError := PySem.W.mg_none_of (n := "ValueError") KX G (by k_is)
    exact K17.law_at (Pt := _) { reel := R, BadRectangle := BadRectangle, BadSpans := BadSpans, BadSpot := BadSpot, BadUpper := BadUpper, is_number := f_is_number, is_within := f_is_within, is_row := f_is_row, is_rows := f_is_rows, lift_spans := f_lift_spans, lift_end := f_lift_end, check_rectangle := f_check_rectangle, check_spans := f_check_spans, check_spot := f_check_spot, is_inner := f_is_inner, halves := f_halves, halves_at := f_halves_at, list_areas := f_list_areas, lies_in := f_lies_in, in_rows := f_in_rows, lowest := f_lowest, end_at := f_end_at, _law_begun := f__law_begun, _law_draw := f__law_draw, _law_pick := f__law_pick, _law_caught := f__law_caught, _law_is_whole := f__law_is_whole, _law_odd := f__law_odd, _law_areas := f__law_areas, _law_halves := f__law_halves, _law_lift := f__law_lift, _law_unlift := f__law_unlift, _law_lines_of := f__law_lines_of, _law_row_by_row := f__law_row_by_row, _law_sizes := f__law_sizes, _law_figure := f__law_figure, _law_is_pane := f__law_is_pane, _law_bent_pane := f__law_bent_pane, _law_sides_of := f__law_sides_of, _law_lies_in := f__law_lies_in, _law_span_at := f__law_span_at, _law_all_rows := f__law_all_rows, _law_all_dots := f__law_all_dots, _law_all_spans := f__law_all_spans, _law_are_spans := f__law_are_spans, _law_are_ends := f__law_are_ends, _law_are_refused := f__law_are_refused, law := f_law, b_isinstance := b_isinstance, b_int := b_int, b_bool := b_bool, b_len := b_len, b_abs := b_abs, b_range := b_range, b_min := b_min, b_max := b_max, b_list := b_list, b_tuple := b_tuple, b_all := b_all, b_enumerate := b_enumerate, b_zip := b_zip, b_ValueError := b_ValueError } hmg LT one noT hd
