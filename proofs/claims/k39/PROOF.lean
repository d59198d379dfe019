import PyProof.Rows.All
import Wide.All
import OpenK.AllK
import Wide.FinOn
import PyProof.FString3
import PyProof.StrBlock2
import PyProof.ReprRoads
import KE.KxField
import HandS.ForMost
import HandS.EndTab
import HandS.WordsExc
import HandS.ExcOwn
import HandS.ExcValue
import HandS.ExcIs
import HandS.IsInst
import HandS.StrMore
import HandS.FStr
import HandS.Style
import HandS.Wide
import HandS.WideBits
import HandS.RaiseMore
import HandS.Small
import HandS.Evl
import HandS.Defaults
import KE.KExcSuper
import KE.KExcIs
import PySem.Challenge.RW_pricedreels_k39_frames_over_a_line
import KE.DataMinMax
import HandS.TupMul
import HandS.TupAny
import PyProof.InstEq
import HandS.OwnEq
import HandS.Zip
import HandS.Walk
import PyProof.Draws
import HandS.TupSets
import KE.SortData
import HandS.Sort
import HandS.List
import HandS.Strs
import HandS.SetFor
import PyProof.Rows.SetFrom
import HandS.SortRule
import HandS.NamedTupSort
import PyProof.Rows.SumAny
import PyProof.WalksMore
import PyProof.ZipIter
import KE.KTurns
import HandS.CallLocal
set_option Elab.async false
set_option linter.all false
set_option maxRecDepth 100000
set_option maxHeartbeats 4000000
namespace KA
open PySem PySem.Spec PyProof.Rows L2
section
variable {X : Cx}
/-- text * int -/
def rMulS : R2 := fun x y H Q => ∃ (a : Str) (n : Int), x = .str a ∧ y = .int n ∧ 0 ≤ n ∧ n ≤ 1000 ∧ a.length ≤ 1000 ∧ Q (.str (Txt.mul a n)) H
theorem op_mulS : OpR X (binaryOp .Mult) rMulS := by
  intro pins s σ H x y v u Q I rx ry h
  obtain ⟨a, n, rfl, rfl, h0, h1, h2, q⟩ := h
  obtain ⟨t, rfl⟩ := rx
  obtain ⟨t', rfl⟩ := ry
  refine SB.mul ⟨?_, fun hn hz => ?_, fun hn hz => ?_⟩ fun t' k => ⟨.str (Txt.mul a n), H, I.tok _, ⟨_, rfl⟩, q⟩
  · simp
    omega
  · have h3 : (1000 : Int) ≤ (2 ^ 63 - 1) / n := by
      refine Int.le_ediv_of_mul_le (by omega) ?_
      omega
    omega
  · have : a.length * n.toNat ≤ 1000 * 1000 := Nat.mul_le_mul h2 (by omega)
    unfold Builtin.Str.tooLong
    simp
    have e : sizeLine = 16777216 := by rfl
    omega
end
end KA
namespace KA
open PySem PySem.Spec PyProof.Rows L2 PySem.W
/-- the binary digits of a number from 0 on, as a text -/
def binText (n : Nat) : Str := ⟨((Nat.toDigits 2 n).map Char.toNat).toArray⟩
def specB : Str := ⟨#[98]⟩
theorem digits_some (n : Nat) : ∃ d ds, (Nat.toDigits 2 n).map Char.toNat = d :: ds := by
  cases e : (Nat.toDigits 2 n).map Char.toNat with
  | nil =>
    have h := congrArg List.length e
    simp at h
  | cons d ds => exact ⟨d, ds, rfl⟩
theorem meets_b {a : Int} {t : Tok} (h0 : 0 ≤ a) (hl : (binText a.natAbs).length ≤ sizeLine) (u : Tok) :
    Meets (Builtin.«int.__format__» ⟨[.int a t, .str specB u], []⟩) (fun _ R s => ∀ t' k, R (.ok (.ret (.str (binText a.natAbs) t'))) { s with toks := k }) := by
  apply KPc.meets_of
  intro _ _ _ _ _ _ _
  unfold Builtin.«int.__format__»
  refine wpAny_bind (wpAny_of_eq (a := (_, _)) rfl ?_)
  refine wpAny_bind (wpAny_of_eq (a := _) rfl ?_)
  kxf_if
  refine wpAny_bind (wpAny_typeNameOf (T := "str") (typeIs_str _ _ _) (by decide) fun _ => ?_)
  refine wpAny_bind (wpAny_of_eq (a := some _) rfl ?_)
  kxf_if
  kxf_if
  refine wpAny_bind (wpAny_typeNameOfCut_int ?_)
  have hneg : decide (a < 0) = false := decide_eq_false (by omega)
  (repeat kxf_if)
  refine KXf.ret_text (T := binText a.natAbs) ?_ ?_ ?_
  · rw [hneg]
    obtain ⟨d, ds, e⟩ := digits_some a.natAbs
    unfold binText
    rw [e]
    generalize hL : List.map _ _ = L
    have eL : L = d :: ds := hL.symm.trans e
    subst eL
    show ((⟨(List.replicate (((-1 : Int) - ((([] : List Nat).length : Nat) + (([] : List Nat).length : Nat) + (([] : List Nat).length : Nat)) - ((List.replicate ((0 : Int).toNat - (d :: ds).length) 48 ++ (d :: ds)).length : Nat)).toNat) 32 ++ ([] : List Nat) ++ [] ++ List.replicate 0 32 ++ (List.replicate ((0 : Int).toNat - (d :: ds).length) 48 ++ (d :: ds)) ++ [] ++ List.replicate 0 32).toArray⟩ : Str)) = _
    have z1 : (0 : Int).toNat - (d :: ds).length = 0 := by simp
    rw [z1]
    have z2 : ((-1 : Int) - ((([] : List Nat).length : Nat) + (([] : List Nat).length : Nat) + (([] : List Nat).length : Nat)) - ((List.replicate 0 48 ++ (d :: ds)).length : Nat)).toNat = 0 := by
      simp
      omega
    rw [z2]
    simp
  · rw [hneg]
    obtain ⟨d, ds, e⟩ := digits_some a.natAbs
    unfold binText at hl
    rw [e] at hl
    generalize hL : List.map _ _ = L
    have eL : L = d :: ds := hL.symm.trans e
    subst eL
    show (⟨(List.replicate (((-1 : Int) - ((([] : List Nat).length : Nat) + (([] : List Nat).length : Nat) + (([] : List Nat).length : Nat)) - ((List.replicate ((0 : Int).toNat - (d :: ds).length) 48 ++ (d :: ds)).length : Nat)).toNat) 32 ++ ([] : List Nat) ++ [] ++ List.replicate 0 32 ++ (List.replicate ((0 : Int).toNat - (d :: ds).length) 48 ++ (d :: ds)) ++ [] ++ List.replicate 0 32).toArray⟩ : Str).length ≤ _
    have z1 : (0 : Int).toNat - (d :: ds).length = 0 := by simp
    rw [z1]
    have z2 : ((-1 : Int) - ((([] : List Nat).length : Nat) + (([] : List Nat).length : Nat) + (([] : List Nat).length : Nat)) - ((List.replicate 0 48 ++ (d :: ds)).length : Nat)).toNat = 0 := by
      simp
      omega
    rw [z2]
    simpa using hl
  · assumption
end KA
namespace KA
open PySem PySem.Spec PyProof.Rows L2 PySem.W
section
variable {X : Cx}
/-- f'{e:b}', a number from 0 on -/
theorem pe_fmtB {e : Expr} {te : TE} {pos p1 p2 : Pos} {k : Nat} (he : PE X e te) :
    PE X (.FormattedValue e (-1) (some (.JoinedStr [.Constant (.str "b") k p1] p2)) pos) (fun σ H Q => te σ H fun x H1 => ∃ i : Int, x = .int i ∧ 0 ≤ i ∧ (binText i.natAbs).length ≤ sizeLine ∧ Q (.str (binText i.natAbs)) H1) := by
  refine ⟨fun pins s σ H Q I h => ?_⟩
  refine wpAny_FormattedValue_spec (thn (he.run pins s σ H _ I h) fun v s1 hv => ?_)
  obtain ⟨x, H1, I1, r1, i, rfl, h0, hz, q⟩ := hv
  obtain ⟨t, rfl⟩ := r1
  refine wpAny_JoinedStr_one ?_
  refine Calls.Constant_str ⟨("b" : Str), _, rfl, ?_⟩
  exact KXf.field_int (spec' := specB) (by decide +kernel) (by decide) (by decide) (fun u => meets_b h0 hz u) fun t' k => ⟨.str (binText i.natAbs), H1, (I1.tok _).tok _, ⟨_, rfl⟩, q⟩
end
end KA
namespace KA
open PySem PySem.Spec PyProof.Rows L2 PySem.W
/-! ### an exception that was caught, kept as a value -/
/-- an exception of the class cls with the own dict d stands at a -/
def ExV (cls : Value) (d : Option Addr) (a : Addr) : HO := .ext fun h => ∃ oe : Obj, h.get? a = some oe ∧ Zc cls d oe ∧ ∃ vs, oe.data = .fields vs
theorem exV_ok {P : Program} {w : World} {H : Hp} {h : Heap} {a : Addr} {cls : Value} {d : Option Addr} {oe : Obj} {vs : Array Value} (e : h.get? a = some oe) (z : Zc cls d oe) (f : oe.data = .fields vs) :
    ObjOk P w H h a (ExV cls d a) := ⟨⟨oe, e, z, vs, f⟩, ⟨oe, e⟩, fun _ _ ⟨o, q, r⟩ k => ⟨o, k o q, r⟩⟩
section
variable {X : Cx} {pins : List (Addr × Obj)} {σ : L2.St} {H : Hp} {s : Shared}
/-- what was pinned, and did not stand at the entry, is tracked from here on -/
theorem track {a : Addr} {oe : Obj} {φ : Heap → Prop} (J : Inv X ((a, oe) :: pins) σ H s) (ok : X.Ok) (n0 : X.s_0.heap.get? a = none) (np : ∀ p ∈ X.pn ++ pins, p.1 ≠ a)
    (new : ObjOk X.prog X.w (upd H a (.ext φ)) s.heap a (.ext φ)) : Inv X pins σ (upd H a (.ext φ)) s := by
  obtain ⟨ea, na, nL, notF, nc⟩ := J.pin (a, oe) (List.mem_append_right _ List.mem_cons_self)
  have nz : ∀ b u, H b = some u → b ≠ a := fun b u q => ne_of_none q na
  have cut : ∀ p, p ∈ X.pn ++ pins → p ∈ X.pn ++ (a, oe) :: pins := fun p hp => by
    rcases List.mem_append.mp hp with h | h
    · exact List.mem_append_left _ h
    · exact List.mem_append_right _ (List.mem_cons_of_mem _ h)
  have old : ∀ b o, X.s_0.heap.get? b = some o → b ≠ a := fun b o q z => by
    rw [z, n0] at q
    cases q
  have base : Un X.fs X.ex X.H_0 (upd H a (.ext φ)) X.s_0.heap s.heap :=
    { keep := J.base.keep, slot := J.base.slot, there := J.base.there
      free := fun b o q n hx => (upd_ne (old b o q)).trans (J.base.free b o q n hx)
      tups := fun b xs q => (upd_ne (nz b _ (J.base.tups b xs q))).trans (J.base.tups b xs q)
      frzs := fun b o u q => (upd_ne (nz b _ (J.base.frzs b o u q))).trans (J.base.frzs b o u q)
      tbls := fun b ps q => by
        obtain ⟨more, z⟩ := J.base.tbls b ps q
        exact ⟨more, (upd_ne (nz b _ z)).trans z⟩ }
  have apart : ∀ b, b ≠ a → H b = none → upd H a (.ext φ) b = none := fun b hb hn => (upd_ne hb).trans hn
  have ce : ∀ x c, X.env.cells.lookup x = some c → c ≠ a := fun x c q z => by
    obtain ⟨v, o, ho, hd⟩ := J.cell x c q
    rw [z, ea] at ho
    cases ho
    exact nc v hd
  have hk : HOk X.prog X.w (upd H a (.ext φ)) s.heap := fun b o q => by
    by_cases hb : b = a
    · subst hb
      rw [upd_same] at q
      cases q
      exact new
    · rw [upd_ne hb] at q
      exact (J.hok b o q).stay (fun c v _ r => r) (fun c r => (upd_ne (nz c _ r)).trans r) (fun c xs r => (upd_ne (nz c _ r)).trans r)
  have pk : ∀ p ∈ X.pn ++ pins, s.heap.get? p.1 = some p.2 ∧ upd H a (.ext φ) p.1 = none ∧ p.1 ≠ X.env.locals ∧ p.1 ∉ X.fs ∧ ∀ v, p.2.data ≠ .cell v := fun p hp => by
    obtain ⟨e1, e2, e3⟩ := J.pin p (cut p hp)
    exact ⟨e1, apart _ (np p hp) e2, e3⟩
  exact { ok := ok, os := J.os, bare := J.bare, base := base, loc := J.loc, cell := J.cell, free := apart _ (Ne.symm nL) J.free
          freeC := fun x c q => apart _ (ce x c q) (J.freeC x c q), pin := pk, hok := hk, len := J.len }
end
/-- what 'except x as n: m = n' wishes of an exception of the body: it is of the clause's class, and m holds it behind the try (slots: n in i, m in j) -/
def wKeep (K : PySem.W.Frag) (c : Value) (i j len : Nat) (D : Ends) : WX := fun cls d σ H =>
  PySem.W.exmOne K cls c = some true ∧ ∀ a, H a = none → σ.length = len → D.nx ((((σ.set i (some (.ref a))).set j (some (.ref a)))).set i none) (upd H a (ExV cls d a))
section
variable {X : Cx} {x n m : Str} {c : Value} {i j : Nat} {body : List Stmt} {np pm pr pa ph pt : Pos} {tb : WX → TS}
theorem ps_try_keep (hx : X.ex = []) (hs : X.stack = X.env :: X.outer) (hf : X.env.frame = some X.env.locals) (hN : X.N.Nodup) (hi : X.N[i]? = some n) (hj : X.N[j]? = some m) (hln : X.env.kindOf n = some .local) (hlm : X.env.kindOf m = some .local) (hc : Names X x c)
    (hd : (n == ("__debug__" : Str)) = false) (hcd : (n == ("__classdict__" : Str)) = false)
    (hb : ∀ (W : WX) (pn : List (Addr × Obj)) (xe : Value → Shared → Prop), Takes (X.tr pn xe) W → PassesOwn (model X.prog X.w) X.A X.env xe → PSs (X.tr pn xe) body (tb W)) :
    PS X (.Try body [.ExceptHandler (some (.Name x np)) (some n) [.Assign [.Name m pm] (.Name n pr) pa] ph] [] [] pt) (fun D σ H => tb (wKeep X.K c i j X.N.length D) D σ H) := by
  refine ⟨fun pins s σ H D I h => wpAny_Try_except ?_⟩
  have ok := I.ok
  have fr : X.A.frames = some (X.env :: X.outer) := ok.frames.trans (congrArg some hs)
  have ways : ∀ u s', XE (X.tr (X.pn ++ pins) (fun e s₁ => wpAny (model X.prog X.w) X.A (noteFrame e X.env)
      (fun _ s₂ => wpAny (model X.prog X.w) X.A (setFlight e none)
        (fun _ s₃ => wpAny (model X.prog X.w) X.A (handleBy e X.env [.ExceptHandler (some (.Name x np)) (some n) [.Assign [.Name m pm] (.Name n pr) pa] ph]) (SP X pins D) X.xe s₃) X.xe s₂) X.xe s₁)) (wKeep X.K c i j X.N.length D) u s' →
      wpAny (model X.prog X.w) X.A (noteFrame u X.env)
        (fun _ s₂ => wpAny (model X.prog X.w) X.A (setFlight u none)
          (fun _ s₃ => wpAny (model X.prog X.w) X.A (handleBy u X.env [.ExceptHandler (some (.Name x np)) (some n) [.Assign [.Name m pm] (.Name n pr) pa] ph]) (SP X pins D) X.xe s₃) X.xe s₂) X.xe s' := by
    rintro u s' ⟨a, B, sI, pins', σ', H', cls, d, rfl, Jt, nb, up, sky, na, os, ag, hyes, hgo⟩
    have J : Inv X pins σ' H' sI := Jt.ofTry ok
    have nb : ∀ b o, sI.heap.get? b = some o → b ∉ frs X.stack → B.get? b = some o := nb
    have sky : Sky B (X.env :: X.outer) a (Zc cls d) X.env.locals s'.heap := hs ▸ sky
    refine Sky.land Zc.steady fr hf sky fun h3 air3 grow3 => ?_
    have J3 : Inv X pins σ' H' { s' with heap := h3 } := J.landed nb air3.1 (up.trans grow3) os ag
    obtain ⟨o3, v3, e3, z3, f3⟩ := air3.there
    have away : a ∉ frs (X.env :: X.outer) := fun hm => by
      obtain ⟨_, o', e', hnf⟩ := air3.2.2.1.mem hm
      cases e3.symm.trans e'
      exact hnf _ f3
    have nL : a ≠ X.env.locals := fun z => away (List.mem_filterMap.mpr ⟨X.env, List.mem_cons_self, hf.trans (congrArg some z.symm)⟩)
    have notF : a ∉ X.fs := fun hm => by
      obtain ⟨e, inX, q⟩ := List.mem_filterMap.mp hm
      exact away (List.mem_filterMap.mpr ⟨e, List.mem_cons_of_mem _ inX, q⟩)
    have gone : sI.heap.get? a = none := by
      cases q : sI.heap.get? a with
      | none => rfl
      | some o =>
        have z := nb a o q (by rw [hs]; exact away)
        rw [air3.2.1] at z
        cases z
    have n0 : X.s_0.heap.get? a = none := by
      cases q : X.s_0.heap.get? a with
      | none => rfl
      | some o =>
        obtain ⟨o', z⟩ := J.base.there a o q (by rw [hx]; exact fun z => nomatch z)
        rw [gone] at z
        cases z
    have np' : ∀ p ∈ X.pn ++ pins, p.1 ≠ a := fun p hp z => by
      have q := (J.pin p hp).1
      rw [z, gone] at q
      cases q
    have S3 := J3.suite e3 f3 na nL notF
    refine wpAny_handleBy_cons (codeAny_handlers_test ?_) (by intro q; cases q)
    have LT : PySem.W.Looks (model X.prog X.w) h3 (typeOf (.ref a)) cls := fun A Q E s k q => wpAny_typeOf_ref (k _ _ e3) (z3.1.symm ▸ q)
    have LM := PySem.W.exm_one (M := model X.prog X.w) J3.kIn LT hyes
    have named : ∀ {Q E : Value → Shared → Prop}, Q c { s' with heap := h3 } →
        wpAny (model X.prog X.w) (X.A.mark (some (.ref a))) (eval (.Name x np) X.env) Q E { s' with heap := h3 } := fun {Q E} q => by
      obtain ⟨g, gd, gm | ⟨gm, gv, gn⟩⟩ := hc
      · exact ld_glob (X := X.suite a _) S3 g gm q gd
      · exact ld_blt (X := X.suite a _) S3 g gm gv q gn gd
    refine named (LM.here (codeAny_handlers_suite_as ?_))
    refine HandSPX.lands_againZ air3 fun h4 air4 grow4 => ?_
    have J4 : Inv X pins σ' H' { s' with heap := h4 } := J.landed nb air4.1 ((up.trans grow3).trans grow4) os ag
    obtain ⟨o4, v4, e4, z4, f4⟩ := air4.there
    refine store_ok (X := X.suite a ((a, o4) :: (X.pn ++ pins))) (v := .ref a) (J4.suite e4 f4 na nL notF) hN hi (.inl hln) rfl (fun s5 S5 => ?_) (.inr hln)
    have assign : PSs (X.suite a ((a, o4) :: (X.pn ++ pins))) [.Assign [.Name m pm] (.Name n pr) pa] (tAsg (tVar i) (gName j)) :=
      pss_one (ps_set (i := j) hN hj (.inl hlm) (pe_var hi (.inl hln) hd hcd) (hf := .inr hlm))
    have hlt : i < (σ'.set i (some (V.ref a))).length := by
      rw [List.length_set, J.len]
      exact (List.getElem?_eq_some_iff.mp hi).1
    refine wpAny_mono (assign.run [] s5 _ H' { D with nx := fun σ6 H6 => σ6 = (σ'.set i (some (.ref a))).set j (some (.ref a)) ∧ H6 = H', rt := fun _ _ => False, bk := fun _ _ => False, ct := fun _ _ => False } S5
      ⟨.ref a, by rw [List.getElem?_set_self (by simpa using hlt)], rfl, rfl⟩) (fun f s6 q6 => ?_) (fun _ _ z => z.elim)
    cases f with
    | next =>
      obtain ⟨σ6, H6, S6, eσ, eH⟩ := q6
      subst eσ
      subst eH
      have U : Inv X pins _ H6 s6 := S6.unsuite ok
      have P6 := S6.pin (a, o4) (List.mem_append_left _ List.mem_cons_self)
      have pin2 : ∀ p ∈ X.pn ++ (a, o4) :: pins, s6.heap.get? p.1 = some p.2 ∧ H6 p.1 = none ∧ p.1 ≠ X.env.locals ∧ p.1 ∉ X.fs ∧ ∀ v, p.2.data ≠ .cell v := fun p hp => by
        rcases List.mem_append.mp hp with h | h
        · exact U.pin p (List.mem_append_left _ h)
        · rcases List.mem_cons.mp h with e | h
          · rw [e]
            exact P6
          · exact U.pin p (List.mem_append_right _ h)
      have U2 : Inv X ((a, o4) :: pins) _ H6 s6 := { U with pin := pin2 }
      refine gone_ok U2 hN hi hln fun s7 J7 => ?_
      have P7 := (J7.pin (a, o4) (List.mem_append_right _ List.mem_cons_self)).1
      exact ⟨_, _, track J7 ok n0 np' (exV_ok P7 z4 f4), hgo a na J.len⟩
    | brk =>
      obtain ⟨_, _, _, z⟩ := q6
      exact z.elim
    | cont =>
      obtain ⟨_, _, _, z⟩ := q6
      exact z.elim
    | ret u =>
      obtain ⟨_, _, _, _, _, z⟩ := q6
      exact z.elim
  refine wpAny_mono ((hb (wKeep X.K c i j X.N.length D) (X.pn ++ pins) _ ways PassesOwn.looking).run [] s σ H D (I.toTry _) h) (fun f s1 q => ?_) fun _ _ z => z
  cases f with
  | next =>
    obtain ⟨σ1, H1, J1, q1⟩ := q
    exact wpAny_execs_nil ⟨σ1, H1, J1.ofTry ok, q1⟩
  | brk =>
    obtain ⟨σ1, H1, J1, q1⟩ := q
    exact ⟨σ1, H1, J1.ofTry ok, q1⟩
  | cont =>
    obtain ⟨σ1, H1, J1, q1⟩ := q
    exact ⟨σ1, H1, J1.ofTry ok, q1⟩
  | ret u =>
    obtain ⟨v, σ1, H1, J1, r, q1⟩ := q
    exact ⟨v, σ1, H1, J1.ofTry ok, r, q1⟩
end
end KA
namespace KA
open PySem PySem.Spec PyProof.Rows L2 PySem.W
/-- isinstance of an exception that is kept as a value, its class without fields of its own -/
def rIsV (K : PySem.W.Frag) : List V → Hp → VK → Prop := fun xs H Q => ∃ (a D : Addr) (c : V) (cv : Value) (b : Bool), xs = [.ref a, c] ∧ H a = some (ExV (.ref D) none a) ∧ ExcC K D ∧ ClsV c cv ∧ PySem.W.kitOne K (.ref D) cv = some b ∧ Q (.bl b) H
def rIs2 (K : PySem.W.Frag) : List V → Hp → VK → Prop := fun xs H Q => rIsi K xs H Q ∨ rIsV K xs H Q
section
variable {X : Cx}
theorem call_isV : CallR X (.builtin "isinstance") (rIsV X.K) := by
  intro pins s σ H xs us Q I r h
  obtain ⟨a, D, c, cv, b, rfl, ha, C, k, e, q⟩ := h
  obtain ⟨u1, u2, rfl, r1, r2⟩ := vals2 r
  cases k.eq r2
  cases (show u1 = Value.ref a from r1)
  obtain ⟨⟨oe, h1, ⟨z1, z2⟩, vs, z3⟩, _⟩ := I.hok a _ ha
  obtain ⟨oc, od, dt, sl⟩ := oe
  dsimp only at z1 z2 z3
  subst z1 z2 z3
  have J : PySem.W.InstAt s.heap a ⟨.ref D, none, .fields vs, sl⟩ D none := ⟨h1, rfl, rfl, trivial⟩
  exact PySem.W.kia_one (PySem.W.handS_kitx_exc C.hg C.hk C.hs C.hd C.ha C.hn C.ht C.hm) I.kIn J e (fun z => nomatch z) fun tk => ⟨.bl b, H, I.tok tk, rfl, q⟩
theorem call_is2 : CallR X (.builtin "isinstance") (rIs2 X.K) := by
  intro pins s σ H xs us Q I r h
  rcases h with h | h
  · exact call_isi pins s σ H xs us Q I r h
  · exact call_isV pins s σ H xs us Q I r h
/-- repr of data -/
def rRepr (K : PySem.W.Frag) : List V → Hp → VK → Prop := fun xs H Q => ∃ (x : Addr) (d : PyData), xs = [.ref x] ∧ Dp K H (.ref x) d ∧ d.showable = true ∧ d.hasDict = false ∧ d.depth ≤ 60 ∧ d.shown.length ≤ sizeLine ∧ Q (.str d.shown) H
theorem call_repr {k : Nat} (hg : X.A.guards = some []) (hr : Room k X.A) : CallR X (.builtin "repr") (rRepr X.K) := by
  intro pins s σ H xs us Q I r h
  obtain ⟨x, d, rfl, hd, hs, hn, hz, hl, q⟩ := h
  obtain ⟨u1, rfl, r1⟩ := vals1 r
  cases (show u1 = Value.ref x from r1)
  obtain ⟨as, rd⟩ := Dp.reads I d (.ref x) (.ref x) hd rfl
  have hu := hr.un
  refine repr_of_reads' rd hs (fun z => by rw [hn] at z; cases z) hg (by omega) (fun _ _ e => e) (fun h' u tk hk => ?_) hl
  exact ⟨.str d.shown, H, I.kept (t' := tk) hk, ⟨_, rfl⟩, q⟩
end
end KA
namespace KA
open PySem PySem.Spec PyProof.Rows L2 PySem.W LamX
section
variable {X : Cx}
/-- caught: what the lambda raises is kept and handed back, None if it raises nothing -/
def TCaught (K : PySem.W.Frag) (CS : Addr) : (XK → Hp → VK → Prop) → Hp → VK → Prop := fun tl H Q => ∀ Q1 : VK, (∀ v H', Q .non H' → Q1 v H') →
  tl (fun cls d H' => PySem.W.exmOne K cls (.ref CS) = some true ∧ ∀ a, H' a = none → Q (.ref a) (upd H' a (ExV cls d a))) H Q1
theorem caught_gives {a e n m q x : Str} {sg : Scope} {g CS : Addr} {cdg : Value} {j1 : Nat} {p1 p2 p3 p4 p5 p6 p7 p8 p9 pa pb pc pd pe : Pos} (S : FnScope [a, m, n] [a] sg)
    (la : sg.names.lookup a = some .local) (lm : sg.names.lookup m = some .local) (ln : sg.names.lookup n = some .local) (he : sg.names.lookup e = some .globalImplicit) (hme : X.mg e = some (.ref CS)) (hde : (e == ("__debug__" : Str)) = false)
    (d1 : (n == ("__debug__" : Str)) = false) (d2 : (n == ("__classdict__" : Str)) = false) (d3 : (m == ("__debug__" : Str)) = false) (d4 : (m == ("__classdict__" : Str)) = false) :
    GivesTo X [a, m, n] x sg g cdg
      [.Assign [.Name m p1] (.Constant .none j1 p2) p3,
       .Try [.Expr (.Call (.Name a p4) [] [] p5) p6] [.ExceptHandler (some (.Name e p7)) (some n) [.Assign [.Name m p8] (.Name n p9) pa] pb] [] [] pc,
       .Return (some (.Name m pd)) pe] a q (TCaught X.K CS) := by
  intro f c' s H Q tl act hc h
  have hgl : Gl (cxOf C8.CX0 X.prog X.w X.K X.mg X.base [a, m, n] x sg g cdg X.A X.stack s H C8.E0).nox e := he
  refine ⟨_, pss_cons (ps_set (i := 1) S.nd rfl (.inl lm) pe_non) (pss_cons (ps_try_keep (X := (cxOf C8.CX0 X.prog X.w X.K X.mg X.base [a, m, n] x sg g cdg X.A X.stack s H C8.E0).nox) (c := .ref CS) (i := 2) (j := 1)
      (tb := fun W D σ H => ∃ Eb : XK, (∀ cls d σ' H', Eb cls d H' → W cls d σ' H') ∧ σ[0]? = some (some (.ref f)) ∧ H c' = some (CodeO c' q) ∧ tl Eb H (fun _ H' => D.nx σ H'))
      rfl rfl rfl S.nd rfl rfl ln lm ⟨hgl, hde, .inl hme⟩ d1 d2 (fun W pn xe tk _ => ?_))
    (pss_one (ps_ret (pe_var (i := 1) rfl (.inl lm) d3 d4)))), ?_⟩
  · refine ⟨fun pins s' σ H' D I h' => ?_⟩
    obtain ⟨Eb, wish, h1, h2, h3⟩ := h'
    exact (pss_one (ps_expr (act W pn xe Eb p4 p5 tk wish))).run pins s' σ H' D I ⟨h1, h2, h3⟩
  · refine ⟨fun cls d H' => PySem.W.exmOne X.K cls (.ref CS) = some true ∧ ∀ a, H' a = none → Q (.ref a) (upd H' a (ExV cls d a)), fun cls d σ' H' ⟨e1, e2⟩ => ⟨e1, fun b hb hl => ?_⟩, rfl, hc, ?_⟩
    · match σ', hl with
      | [u, v, w], _ => exact ⟨_, rfl, e2 b hb⟩
    · exact h _ fun v H' z => ⟨_, rfl, z⟩
end
end KA
namespace KA
open PySem PySem.Spec PyProof.Rows L2 PySem.W LamX
/-! ### what the top has written, by name -/
/-- a def of the top -/
structure DefT (K : PySem.W.Frag) (mg : Str → Option Value) (x : Str) (st : Stmt) where
  a : Addr
  d : FuncData
  f : Fun K x x st a d
  m : mg x = some (.ref a)
abbrev veB : List Value := [.type "ValueError", .type "Exception", .type "BaseException", .type "object"]
/-- an exception class of the top over ReelError at R, without an __init__ of its own -/
structure ExcT (K : PySem.W.Frag) (mg : Str → Option Value) (x : Str) (R : Addr) where
  C : Addr
  g : mg x = some (.ref C)
  q : PySem.W.excIn K C veB "ValueError.__new__" = true
  k : PySem.W.keepIn K (.ref C) = true
  b : PySem.W.subIn K (.ref C) (.type "BaseException") = some true
  t : PySem.W.typeIn K (.ref C) = some (.type "type")
  r : PySem.W.subIn K (.ref C) (.ref R) = some true
  e : ExcC K C
/-- ReelError -/
structure ReelT (K : PySem.W.Frag) (mg : Str → Option Value) where
  C : Addr
  g : mg "ReelError" = some (.ref C)
  b : PySem.W.subIn K (.ref C) (.type "BaseException") = some true
  t : PySem.W.typeIn K (.ref C) = some (.type "type")
  d : PySem.W.hasDictIn K C = true
theorem ExcT.exm {K : PySem.W.Frag} {mg : Str → Option Value} {x : Str} (R : ReelT K mg) (T : ExcT K mg x R.C) : PySem.W.exmOne K (.ref T.C) (.ref R.C) = some true := PySem.W.exm_ref R.b R.d R.t T.r
/-- an int constant of the top -/
def CstT (mg : Str → Option Value) (x : Str) (n : Int) : Prop := ∃ t, mg x = some (.int n t)
abbrev C1 := L2.CX
theorem passE {X : Cx} : Passes (L2.CX X.prog X.w) X E0 := passL
section
variable {X : Cx} {E : XK}
/-- raise C('..') in a def that lets it out -/
theorem ps_raiseT {K : PySem.W.Frag} {mg : Str → Option Value} {x : Str} {R : Addr} {pos p1 p2 pc : Pos} {j : Nat} {m : Str} (hK : X.K = K) (hM : X.mg = mg) (T : ExcT K mg x R) (hg : Gl X x) (hc : X.calm = true) {W : WX} (tk : Takes X W)
    (hdb : (x == ("__debug__" : Str)) = false := by decide) :
    PS X (.Raise (some (.Call (.Name x p1) [.Constant (.str m) j pc] [] p2)) none pos) (fun _ σ H => W (.ref T.C) none σ H) := by
  subst hK
  subst hM
  exact ps_raise hc tk (pmk_own PySem.F.excBase_ValueError T.q T.g T.k (raises_own T.b T.t) hg hdb)
end
end KA
namespace KA
open PySem PySem.Spec PyProof.Rows L2 PySem.W LamX
/-! ### the law's own draws: their state -/
abbrev kLarge : Key := Sum.inr "large"
abbrev kCells : Key := Sum.inr "cells"
abbrev kLeft : Key := Sum.inr "left"
abbrev kTurn : Key := Sum.inr "turn"
def stKv (lg cl : Addr) (left turn : Int) : List (Key × V) := [(kLarge, .ref lg), (kCells, .ref cl), (kLeft, .int left), (kTurn, .int turn)]
section
variable {lg cl : Addr} {left turn : Int}
theorem k12 : ¬ kLarge = kCells := by decide +kernel
theorem k13 : ¬ kLarge = kLeft := by decide +kernel
theorem k14 : ¬ kLarge = kTurn := by decide +kernel
theorem k23 : ¬ kCells = kLeft := by decide +kernel
theorem k24 : ¬ kCells = kTurn := by decide +kernel
theorem k34 : ¬ kLeft = kTurn := by decide +kernel
theorem st_large : valV (stKv lg cl left turn) kLarge = some (.ref lg) := valV_pos rfl
theorem st_cells : valV (stKv lg cl left turn) kCells = some (.ref cl) := (valV_neg k12).trans (valV_pos rfl)
theorem st_left : valV (stKv lg cl left turn) kLeft = some (.int left) := (valV_neg k13).trans ((valV_neg k23).trans (valV_pos rfl))
theorem st_turn : valV (stKv lg cl left turn) kTurn = some (.int turn) := (valV_neg k14).trans ((valV_neg k24).trans ((valV_neg k34).trans (valV_pos rfl)))
theorem st_put_left (l : Int) : putK (stKv lg cl left turn) kLeft (.int l) = stKv lg cl l turn := by
  unfold putK
  rw [valV_any, st_left, Option.isSome_some, if_pos rfl]
  simp only [stKv, List.map_cons, List.map_nil, if_neg k13, if_neg k23, if_neg (Ne.symm k34), if_true]
theorem st_put_turn (t : Int) : putK (stKv lg cl left turn) kTurn (.int t) = stKv lg cl left t := by
  unfold putK
  rw [valV_any, st_turn, Option.isSome_some, if_pos rfl]
  simp only [stKv, List.map_cons, List.map_nil, if_neg k14, if_neg k24, if_neg k34, if_true]
end
/-- the state stands at st: the numbers that are left to draw from at lg, the script's at cl -/
structure StD (H : Hp) (st lg cl : Addr) (large cells : List Int) (left : Int) (turn : Nat) : Prop where
  d : H st = some (.dK (stKv lg cl left turn))
  l : H lg = some (.lst (large.map V.int))
  c : H cl = some (.lst (cells.map V.int))
  ne : lg ≠ cl
  pl : ∀ x ∈ large, 0 ≤ x
  p0 : 0 ≤ left
def StAt (H : Hp) (st lg cl : Addr) (n : Nat) : Prop := ∃ large cells left turn, StD H st lg cl large cells left turn ∧ turn ≤ n
/-- all but the state stands as it stood -/
def Kp (st lg : Addr) (H H' : Hp) : Prop := ∀ b o, H b = some o → b ≠ st → b ≠ lg → H' b = some o
theorem Kp.refl {st lg : Addr} {H : Hp} : Kp st lg H H := fun _ _ h _ _ => h
theorem Kp.trans {st lg : Addr} {H H1 H2 : Hp} (a : Kp st lg H H1) (b : Kp st lg H1 H2) : Kp st lg H H2 := fun c o h n1 n2 => b c o (a c o h n1 n2) n1 n2
theorem Kp.same {st lg : Addr} {H H1 : Hp} (a : Same H H1) : Kp st lg H H1 := fun c o h _ _ => a c o h
theorem Same.new {H : Hp} {p : Addr} {o : HO} (h : H p = none) : Same H (upd H p o) := fun b u e => by
  rw [upd_ne (ne_of_none e h)]
  exact e
theorem StD.same {H H' : Hp} {st lg cl : Addr} {large cells : List Int} {left : Int} {turn : Nat} (S : StD H st lg cl large cells left turn) (e : Same H H') : StD H' st lg cl large cells left turn :=
  { S with d := e _ _ S.d, l := e _ _ S.l, c := e _ _ S.c }
theorem StAt.same {H H' : Hp} {st lg cl : Addr} {n : Nat} (S : StAt H st lg cl n) (e : Same H H') : StAt H' st lg cl n := by
  obtain ⟨a, b, c, d, s, h⟩ := S
  exact ⟨a, b, c, d, s.same e, h⟩
theorem StAt.mono {H : Hp} {st lg cl : Addr} {n m : Nat} (S : StAt H st lg cl n) (h : n ≤ m) : StAt H st lg cl m := by
  obtain ⟨a, b, c, d, s, h'⟩ := S
  exact ⟨a, b, c, d, s, Nat.le_trans h' h⟩
theorem StD.st_lg {H : Hp} {st lg cl : Addr} {large cells : List Int} {left : Int} {turn : Nat} (S : StD H st lg cl large cells left turn) : st ≠ lg := ne_of S.d S.l (by intro z; cases z)
theorem StD.st_cl {H : Hp} {st lg cl : Addr} {large cells : List Int} {left : Int} {turn : Nat} (S : StD H st lg cl large cells left turn) : st ≠ cl := ne_of S.d S.c (by intro z; cases z)
/-- the state's dict is written -/
theorem StD.put {H : Hp} {st lg cl : Addr} {large cells : List Int} {left l : Int} {turn t : Nat} (S : StD H st lg cl large cells left turn) (h : 0 ≤ l) : StD (upd H st (.dK (stKv lg cl l t))) st lg cl large cells l t :=
  { d := upd_same, l := (upd_ne S.st_lg.symm).trans S.l, c := (upd_ne S.st_cl.symm).trans S.c, ne := S.ne, pl := S.pl, p0 := h }
theorem Kp.put {st lg : Addr} {H : Hp} {o : HO} : Kp st lg H (upd H st o) := fun b u e n _ => (upd_ne n).trans e
theorem Kp.put2 {st lg : Addr} {H : Hp} {o : HO} : Kp st lg H (upd H lg o) := fun b u e _ n => (upd_ne n).trans e
theorem dp_ints {K : PySem.W.Frag} {H : Hp} : ∀ ns : List Int, DpAll K H (ns.map V.int) (ns.map PyData.int)
  | [] => .nil
  | n :: r => .cons (.int n) (dp_ints r)
theorem dp_int_list {K : PySem.W.Frag} {H : Hp} {a : Addr} {ns : List Int} (h : H a = some (.lst (ns.map V.int))) : Dp K H (.ref a) (.list (ns.map PyData.int)) := .lst (SqL.of h) (dp_ints ns)
theorem dp_nil {K : PySem.W.Frag} {H : Hp} {a : Addr} (h : H a = some (.lst [])) : Dp K H (.ref a) (.list []) := .lst (SqL.of h) .nil
theorem lay_is : ∀ ns : List Int, PyData.canLayAll0 (ns.map PyData.int) = true ∧ PyData.depthAll (ns.map PyData.int) = 0
  | [] => ⟨rfl, rfl⟩
  | n :: r => by
    obtain ⟨h1, h2⟩ := lay_is r
    exact ⟨by simp [PyData.canLayAll0, PyData.canLay0, h1], by simp [PyData.depthAll, PyData.depth, h2]⟩
theorem shaped_is (ns : List Int) : SeqAt.shaped (.list (ns.map PyData.int)) = true := by
  obtain ⟨h1, h2⟩ := lay_is ns
  simp [SeqAt.shaped, PyData.canLay0, PyData.depth, h1, h2]
theorem shaped_nil : SeqAt.shaped (.list []) = true := shaped_is []
theorem eqv_ints_nil (ns : List Int) : PyData.eqv (.list (ns.map PyData.int)) (.list []) = ns.isEmpty := by
  cases ns <;> rfl
theorem st_merge (lg cl : Addr) (left turn : Int) : mergeK [] (stKv lg cl left turn) = stKv lg cl left turn := by
  unfold stKv mergeK
  simp only [List.foldl_cons, List.foldl_nil]
  rw [putK_new (kvs := []) _ valV_nil, List.nil_append]
  rw [putK_new (k := kCells) _ ((valV_neg (show ¬ kLarge = kCells from k12)).trans valV_nil), List.cons_append, List.nil_append]
  rw [putK_new (k := kLeft) _ ((valV_neg (show ¬ kLarge = kLeft from k13)).trans ((valV_neg (show ¬ kCells = kLeft from k23)).trans valV_nil)), List.cons_append, List.cons_append, List.nil_append]
  rw [putK_new (k := kTurn) _ ((valV_neg (show ¬ kLarge = kTurn from k14)).trans ((valV_neg (show ¬ kCells = kTurn from k24)).trans ((valV_neg (show ¬ kLeft = kTurn from k34)).trans valV_nil)))]
  rfl
theorem take_map_snoc {α β : Type} (f : α → β) (l : List α) (i : Nat) (x : α) (h : l[i]? = some x) : (l.take (i + 1)).map f = (l.take i).map f ++ [f x] := by
  rw [List.take_add_one, h]
  simp
theorem StAt.off {H : Hp} {st lg cl p : Addr} {n : Nat} (S : StAt H st lg cl n) (hp : H p = none) : p ≠ st ∧ p ≠ lg := by
  obtain ⟨_, _, _, _, S', _⟩ := S
  exact ⟨(ne_of_none S'.d hp).symm, (ne_of_none S'.l hp).symm⟩
end KA
namespace KA
open PySem PySem.Spec PyProof.Rows L2 PySem.W LamX
/-! ### calls by names alone; defs whose frame must know that no repr is running -/
section
variable {X : Cx} {CX : CXT} {k : Nat} {f : Addr} {fd : FuncData} {ps ks : List Str} {sp : Sp} {E : XK} {x : Str} {p pos : Pos} {kws : List Keyword} {tk : TA} {g : List Value → List Value → List Value} {gV : List V → List V → List V}
def tKw (m : Nat) (sp : Sp) (gV : List V → List V → List V) (E : XK) (tk : TA) : TE := fun σ H Q => tk σ H fun zs H2 => zs.length = m ∧ sp (gV [] zs) H2 Q E
/-- f(k = v, ..) -/
theorem pe_kw (F : FnOk X.prog X.w X.K X.mg X.base CX k f fd ps sp) (hr : Room k X.A) (hg : Gl X x) (hm : X.mg x = some (.ref f)) (hk : PySem.W.keepIn X.K (.ref f) = true) (hb : KBn X.K fd ps 0 ks g gV) (hx : Passes CX X E) (hkw : PK X kws tk)
    (named : (backToKw pos (keywordEach kws X.env)).all (·.1.isSome) = true := by rfl) (theirs : (backToKw pos (keywordEach kws X.env)).filterMap (·.1) = ks := by rfl) (hdb : (x == ("__debug__" : Str)) = false := by decide)
    (noStars : ((backTo pos (starEach [] X.env)).any (·.1) || (backToKw pos (keywordEach kws X.env)).any (·.1.isNone)) = false := by rfl) :
    PE X (.Call (.Name x p) [] kws pos) (tKw ks.length sp gV E tk) :=
  ⟨fun pins s σ H Q I h => wpAny_Call_Name_kw (ld_glob I hg hm (PySem.W.callWith_KW0 (h₀ := X.base) I.ok.mod.kin hk named (thn (hkw.run pos pins s σ H _ I h) fun ws s2 hw => by
    obtain ⟨zs, H2, I2, rz, l2, q2⟩ := hw
    refine ⟨I2.kIn, ?_⟩
    rw [theirs]
    exact run_fnN F hr hb hx I2 .nil rz rfl l2 q2) noStars) hdb)⟩
end
section
variable {K : PySem.W.Frag} {x qual : Str} {st : Stmt} {f : Addr} {fd : FuncData} {ps ks : List Str}
/-- one parameter, by its name -/
theorem Fun.kw1 {a : Str} (F : Fun K x qual st f fd) (h : ∀ (kV doc pm : Value) (an : Option Addr) (cdv ct u : Value), bindArgs (PySem.W.fnOf x qual (defArgs st) (defBody st) (defScope st) .none kV doc pm an cdv ct) ⟨[], [(a, u)]⟩ = pure [(a, u)]) :
    KBn K fd [a] 0 [a] (fun _ ws => ws) (fun _ zs => zs) := by
  obtain ⟨oc, od, kV, doc, pm, an, cdv, ct, osl, rfl, lk, hcd⟩ := F.ex
  refine ⟨fun s us ws X l1 l2 => ?_, fun _ r => r⟩
  match us, ws, l1, l2 with
  | [], [u], _, _ => exact .of_eq (h kV doc pm an cdv ct u)
/-- two parameters a, b, called as f(b = .., a = ..) -/
theorem Fun.kw2 {a b : Str} (F : Fun K x qual st f fd) (h : ∀ (kV doc pm : Value) (an : Option Addr) (cdv ct u v : Value), bindArgs (PySem.W.fnOf x qual (defArgs st) (defBody st) (defScope st) .none kV doc pm an cdv ct) ⟨[], [(b, u), (a, v)]⟩ = pure [(a, v), (b, u)]) :
    KBn K fd [a, b] 0 [b, a] (fun _ ws => ws.reverse) (fun _ zs => zs.reverse) := by
  obtain ⟨oc, od, kV, doc, pm, an, cdv, ct, osl, rfl, lk, hcd⟩ := F.ex
  refine ⟨fun s us ws X l1 l2 => ?_, fun {_ _ zs ws} _ r => ?_⟩
  · match us, ws, l1, l2 with
    | [], [u, v], _, _ => exact .of_eq (h kV doc pm an cdv ct u v)
  · clear h
    have rev : ∀ {zs : List V} {ws : List Value}, Vals zs ws → Vals zs.reverse ws.reverse := fun {zs ws} r => by
      induction r with
      | nil => exact .nil
      | cons h _ ih =>
        rw [List.reverse_cons, List.reverse_cons]
        exact ih.append (.cons h .nil)
    exact rev r
end
end KA
namespace KA
open PySem PySem.Spec PyProof.Rows L2 PySem.W LamX
/-- as FnOk, where no repr is running around the call -/
structure FnG (P : Program) (w : World) (K : PySem.W.Frag) (mg : Str → Option Value) (base : Heap) (CX : CXT) (k : Nat) (f : Addr) (fd : FuncData) (ps : List Str) (sp : Sp) : Prop where
  len : ∀ vs H Q E, sp vs H Q E → vs.length = ps.length
  run : ∀ (A : Around) (outer : List Env) (s : Shared) (H : Hp) (args : Args) (us : List Value) (vs : List V) (Q : VK) (E : XK), Room k A → A.guards = some [] →
    Env0 P w K mg base A outer s H → BindsTo s fd args (ps.zip us) → Vals vs us → sp vs H Q E → codeAny (model P w) A (.call (.ref f) args) (CR CX outer P w H s Q E) s
theorem fnG_of {CX : CXT} {P : Program} {w : World} {K : PySem.W.Frag} {mg : Str → Option Value} {base : Heap} {k : Nat} {f : Addr} {x qual : Str} {st : Stmt} {fd : FuncData} {N ps : List Str} {sp : Sp} (F : Fun K x qual st f fd) (S : FnScope N ps (defScope st))
    (len : ∀ vs H Q E, sp vs H Q E → vs.length = ps.length)
    (hbody : ∀ (cdv : Value) (A : Around) (outer : List Env) (s : Shared) (H : Hp) (vs : List V) (Q : VK) (E : XK), Room k (A.deeper (envOfC qual (defScope st) s.heap.objs.size f cdv)) → A.guards = some [] → sp vs H Q E →
      ∃ t, PSs (cxOf CX P w K mg base N qual (defScope st) f cdv A outer s H E) (defBody st) t ∧ t { nx := fun _ H' => Q .non H', rt := Q } (L2.start N vs) H) : FnG P w K mg base CX (k + 1) f fd ps sp := by
  obtain ⟨oc, od, kV, doc, pm, an, cdv, ct, osl, rfl, lk, hcd⟩ := F.ex
  exact ⟨len, fun A outer s H args us vs Q E hr hg e0 hb r h => run_ofS lk hcd S hr e0 hb r (len _ _ _ _ h) fun hr' => hbody cdv A outer s H vs Q E hr' hg h⟩
/-- what stands around the law's call: the script at a, the tables of cs (each a code object and its table) empty -/
structure Law (h : Heap) (mg mb : Str → Option Value) (K : PySem.W.Frag) (cs : List (Addr × Addr)) (a : Addr) (vs : List Value) (ns : List Int) : Prop where
  kx : K.In h
  nsM : h.Ns mainGlobals mg
  bn : h.Ns builtinsNs mb
  bb : ∀ x : Str, x ≠ "__name__" → mb x = bootBuiltins x
  lim : h.NoLimit
  tab : ∀ p ∈ cs, h.get? p.2 = some { cls := .none, data := .fields #[] }
  notab : ∀ p ∈ cs, K.lookup p.2 = none
  code : ∀ p ∈ cs, PySem.W.CodeHd h p.1 p.2
  bm : ∃ (bm : Addr) (ob : Obj), mg "__builtins__" = some (.ref bm) ∧ bm ≠ builtinsNs ∧ h.get? bm = some ob ∧ ob.cls = .type "module" ∧ ob.dict = some builtinsNs ∧ ob.data = .plain
  at_ : h.get? a = some { cls := .type "list", data := .seq vs.toArray }
  isI : IntsAre vs ns
  len : ns.length ≤ sizeLine
/-- the abstract heap at the law's call -/
def lawH (K : PySem.W.Frag) (cs : List (Addr × Addr)) (a : Addr) (vs : List Value) (ns : List Int) : Hp := fun b =>
  if b = a ∧ K.lookup a = none then some (.frz { cls := .type "list", data := .seq vs.toArray } (.lst (ns.map V.int)))
  else if b ∈ cs.map (·.2) then some (.tbl #[]) else none
section
variable {P : Program} {w : World} {K : PySem.W.Frag} {mg mb : Str → Option Value} {h : Heap} {cs : List (Addr × Addr)} {a : Addr} {vs : List Value} {ns : List Int}
theorem Law.tabAt (L : Law h mg mb K cs a vs ns) {b : Addr} (hb : b ∈ cs.map (·.2)) : h.get? b = some { cls := .none, data := .fields #[] } ∧ K.lookup b = none := by
  obtain ⟨p, hp, rfl⟩ := List.mem_map.mp hb
  exact ⟨L.tab p hp, L.notab p hp⟩
theorem Law.ne (L : Law h mg mb K cs a vs ns) {b : Addr} (hb : b ∈ cs.map (·.2)) : b ≠ a := fun z => by
  have q := (L.tabAt hb).1
  rw [z, L.at_] at q
  cases q
/-- what is tracked: the script, or a table -/
theorem Law.cases (L : Law h mg mb K cs a vs ns) {b : Addr} {u : HO} (e : lawH K cs a vs ns b = some u) :
    (b = a ∧ K.lookup a = none ∧ u = .frz { cls := .type "list", data := .seq vs.toArray } (.lst (ns.map V.int))) ∨ (b ∈ cs.map (·.2) ∧ u = .tbl #[]) := by
  unfold lawH at e
  split at e
  · rename_i c
    exact .inl ⟨c.1, c.2, (Option.some.inj e).symm⟩
  · split at e
    · rename_i c
      exact .inr ⟨c, (Option.some.inj e).symm⟩
    · cases e
theorem Law.tbl (L : Law h mg mb K cs a vs ns) {b : Addr} (hb : b ∈ cs.map (·.2)) : lawH K cs a vs ns b = some (.tbl #[]) := by
  unfold lawH
  rw [if_neg (fun z => L.ne hb z.1), if_pos hb]
theorem Law.seq (L : Law h mg mb K cs a vs ns) : SqL K (lawH K cs a vs ns) a (ns.map V.int) := by
  cases q : K.lookup a with
  | none => exact .inl (.inr ⟨_, by unfold lawH; rw [if_pos ⟨rfl, q⟩]⟩)
  | some o =>
    have e := L.kx a o q
    rw [L.at_] at e
    cases e
    exact .inr ⟨_, vs.toArray, _, q, rfl, rfl, rfl, by rw [List.size_toArray, L.isI.length]; exact L.len, by simpa using vals_ints L.isI⟩
theorem Law.hok (L : Law h mg mb K cs a vs ns) : HOk P w (lawH K cs a vs ns) h := fun b u e => by
  rcases L.cases e with ⟨rfl, _, rfl⟩ | ⟨hb, rfl⟩
  · exact ⟨L.at_, by rw [List.length_map]; exact L.len, vs, _, vals_ints L.isI, L.at_⟩
  · exact (L.tabAt hb).1
/-- an object that is neither a list nor an empty record is not tracked -/
theorem Law.free (L : Law h mg mb K cs a vs ns) {b : Addr} {o : Obj} (e : h.get? b = some o) (h1 : ∀ vs n, o.data ≠ .seq vs n) (h2 : o.data ≠ .fields #[]) : lawH K cs a vs ns b = none := by
  cases q : lawH K cs a vs ns b with
  | none => rfl
  | some u =>
    rcases L.cases q with ⟨rfl, _⟩ | ⟨hb, _⟩
    · rw [L.at_] at e
      cases e
      exact absurd rfl (h1 _ _)
    · rw [(L.tabAt hb).1] at e
      cases e
      exact absurd rfl h2
theorem Law.nsK (L : Law h mg mb K cs a vs ns) {b : Addr} {m : Str → Option Value} (x : h.Ns b m) : (hidT h (lawH K cs a vs ns)).Ns b m := by
  obtain ⟨o, es, ep, e, d, r⟩ := x
  refine ⟨o, es, ep, hidT_get e (L.free e (fun _ _ z => ?_) fun z => ?_), d, r⟩ <;> (rw [d] at z; cases z)
theorem Law.kin (L : Law h mg mb K cs a vs ns) : K.In (hidT h (lawH K cs a vs ns)) := fun b o e => hidT_get (L.kx b o e) (by
  cases q : lawH K cs a vs ns b with
  | none => rfl
  | some u =>
    rcases L.cases q with ⟨rfl, z, _⟩ | ⟨hb, _⟩
    · rw [z] at e
      cases e
    · rw [(L.tabAt hb).2] at e
      cases e)
theorem Law.mod (L : Law h mg mb K cs a vs ns) : L2.Mod K mg (hidT h (lawH K cs a vs ns)) := by
  obtain ⟨mc, h1, h2⟩ := L.lim
  exact ⟨L.kin, L.nsK L.nsM, ⟨mb, L.nsK L.bn, L.bb⟩, mc, L.nsK h1, h2⟩
theorem Law.main (L : Law h mg mb K cs a vs ns) {b : Addr} {o : Obj} (e : h.get? b = some o) (n : ∀ es ep, o.data ≠ .dict es ep) : b ≠ mainGlobals := fun z => by
  obtain ⟨o', es, ep, e', d, _⟩ := L.nsM
  rw [z, e'] at e
  cases e
  exact n _ _ d
theorem Law.tabs (L : Law h mg mb K cs a vs ns) : ∀ p ∈ cs, TabB (hidT h (lawH K cs a vs ns)) mg p.1 p.2 := fun p hp => by
  have hm : p.2 ∈ cs.map (·.2) := List.mem_map.mpr ⟨p, hp, rfl⟩
  have ht := (L.tabAt hm).1
  refine ⟨?_, ?_, fun z => L.main ht (fun _ _ q => by cases q) z.symm⟩
  · obtain ⟨o, us, file, tf, flags, tg, inF, text, tt, e1, r1, r2, r3, rest⟩ := L.code p hp
    refine ⟨o, us, file, tf, flags, tg, inF, text, tt, hidT_get e1 (L.free e1 (fun _ _ z => ?_) fun z => ?_), r1, r2, r3, rest⟩
    · rw [r2] at z
      cases z
    · rw [r2] at z
      cases z
      simp at r3
  · obtain ⟨bm, ob, b1, b2, b3, b4, b5, b6⟩ := L.bm
    refine ⟨bm, ob, b1, b2, L.main b3 (fun _ _ q => by rw [b6] at q; cases q), fun q => ?_, hidT_get b3 (L.free b3 (fun _ _ z => ?_) fun z => ?_), b4, b5, b6⟩
    · rw [q, ht] at b3
      cases b3
      cases b6
    · rw [b6] at z
      cases z
    · rw [b6] at z
      cases z
/-- an address of the heap at the call stands as it stood, or it is a table that has grown -/
theorem Law.stay (L : Law h mg mb K cs a vs ns) {s' : Shared} {H' : Hp} {b : Addr} {o : Obj} (un : Un [] [] (lawH K cs a vs ns) H' h s'.heap) (ok : HOk P w H' s'.heap) (e : h.get? b = some o) (nb : b ∉ cs.map (·.2)) : s'.heap.get? b = some o := by
  cases q : lawH K cs a vs ns b with
  | none => exact un.keep b o e q (by simp) (by simp)
  | some u =>
    rcases L.cases q with ⟨rfl, _, rfl⟩ | ⟨z, _⟩
    · have e2 := (ok b _ (un.frzs b _ _ q)).1
      rw [L.at_] at e
      rw [← e]
      exact e2
    · exact absurd z nb
theorem Law.grown (L : Law h mg mb K cs a vs ns) {s' : Shared} {H' : Hp} {b : Addr} (un : Un [] [] (lawH K cs a vs ns) H' h s'.heap) (ok : HOk P w H' s'.heap) (hb : b ∈ cs.map (·.2)) : ∃ more : Array Value, s'.heap.get? b = some { cls := .none, data := .fields more } := by
  obtain ⟨more, z⟩ := un.tbls b #[] (L.tbl hb)
  exact ⟨_, ok b _ z⟩
theorem Law.old (L : Law h mg mb K cs a vs ns) {s' : Shared} {H' : Hp} (un : Un [] [] (lawH K cs a vs ns) H' h s'.heap) (ok : HOk P w H' s'.heap) : OldK h s'.heap := by
  constructor
  · intro b o e
    by_cases hb : b ∈ cs.map (·.2)
    · obtain ⟨p, hp, rfl⟩ := List.mem_map.mp hb
      obtain ⟨more, hm⟩ := L.grown un ok hb
      have ht := L.tab p hp
      rw [ht] at e
      cases e
      refine .inr (.inl ⟨((L.code p hp).tab ht).isCodeTable, rfl, #[], more, rfl, ?_⟩)
      rw [Array.empty_append]
      exact hm
    · exact .inl (L.stay un ok e hb)
  · intro b o e
    by_cases hb : b ∈ cs.map (·.2)
    · obtain ⟨more, hm⟩ := L.grown un ok hb
      exact ⟨_, hm⟩
    · exact ⟨o, L.stay un ok e hb⟩
end
/-- the law, called with the script at a -/
theorem law_callG {P : Program} {w : World} {K : PySem.W.Frag} {mg mb : Str → Option Value} {CX : CXT} {k : Nat} {fa a : Addr} {cs : List (Addr × Addr)} {fd : FuncData} {x : Str} {sp : Sp} {s : Shared} {vs : List Value} {ns : List Int}
    (L : Law s.heap mg mb K cs a vs ns) (hg : s.gens = #[]) (hr : Room k callerA) (F : ∀ base : Heap, K.In base → base.Ns mainGlobals mg → (∀ p ∈ cs, TabB base mg p.1 p.2) → FnG P w K mg base CX k fa fd [x] sp)
    (hbind : ∀ (s : Shared) (u : Value), BindsTo s fd ⟨[u], []⟩ [(x, u)]) (hsp : ∀ H : Hp, (∀ p ∈ cs, H p.2 = some (.tbl #[])) → SqL K H a (ns.map V.int) → sp [.ref a] H (fun v _ => v = .bl true) fun _ _ _ => False)
    (hCX : ∀ H e s', CX [] H s (fun _ _ _ => False) e s' → False) :
    codeAny (model P w) callerA (.call (.ref fa) ⟨[.ref a], []⟩) (fun r s' => r = .ok (.ret (.bool true)) ∧ OldK s.heap s'.heap ∧ s'.os = s.os ∧ AllBare s'.gens) s := by
  have env : Env0 P w K mg (hidT s.heap (lawH K cs a vs ns)) callerA [] s (lawH K cs a vs ns) :=
    ⟨rfl, L.mod, fun _ _ => of_hidT, Nat.le_of_eq (hidT_size _ _), trivial, fun b hb => absurd (show b ∈ ([] : List Addr) from hb) List.not_mem_nil, L.hok, .of_eq hg⟩
  have pre := hsp (lawH K cs a vs ns) (fun p hp => L.tbl (List.mem_map.mpr ⟨p, hp, rfl⟩)) L.seq
  have run := (F _ L.kin (L.nsK L.nsM) L.tabs).run callerA [] s _ ⟨[.ref a], []⟩ [.ref a] [.ref a] _ _ hr rfl env (hbind s _) (.cons rfl .nil) pre
  refine codeAny_mono run fun r s' q => ?_
  match r, q with
  | .error e, q => exact (hCX _ e s' q).elim
  | .ok .next, q => exact False.elim q
  | .ok .brk, q => exact False.elim q
  | .ok .cont, q => exact False.elim q
  | .ok (.ret u), q =>
    obtain ⟨v, H', os, bare, un, ok, rv, e⟩ := q
    cases (show v = .bl true from e)
    cases (show u = Value.bool true from rv)
    exact ⟨rfl, L.old un ok, os, bare⟩
/-- what is known of the law at the head's heap h -/
def LawAtG (l : PySem.W.OpenLaw) (w : World) (K : PySem.W.Frag) (CX : CXT) (k n : Nat) (x : Str) (mg : Str → Option Value) (fa : Addr) (h : Heap) : Prop :=
  ∃ (fd : FuncData) (cs : List (Addr × Addr)) (sp : Sp), ((∀ p ∈ cs, h.get? p.2 = some { cls := .none, data := .fields #[] }) ∧ (∀ p ∈ cs, K.lookup p.2 = none) ∧ ∀ p ∈ cs, PySem.W.CodeHd h p.1 p.2) ∧
    (∀ (s : Shared) (u : Value), BindsTo s fd ⟨[u], []⟩ [(x, u)]) ∧
    (∀ (H : Hp) (a : Addr) (ns : List Int), ns.length ≤ n → (∀ p ∈ cs, H p.2 = some (.tbl #[])) → SqL K H a (ns.map V.int) → sp [.ref a] H (fun v _ => v = .bl true) fun _ _ _ => False) ∧
    ∀ base : Heap, K.In base → base.Ns mainGlobals mg → (∀ p ∈ cs, TabB base mg p.1 p.2) → FnG l.prog w K mg base CX k fa fd [x] sp
theorem walk_ofG {l : PySem.W.OpenLaw} {n k : Nat} {q : Program} {loose : List Str} {XP : (Str → Option Value) → Heap → Prop} {YP : World → Heap → Prop} {d : DefRec} {K : Params → PySem.W.Frag} {CX : World → CXT} {x : Str}
    (most : l.most = some n) (line : n ≤ sizeLine) (plain : d.params.defaults = []) (room : Room k callerA) (known : ∀ (w : World) (h : Heap), YP w h → (K w.params).In h)
    (at_ : ∀ (w : World) (mg : Str → Option Value) (fa : Addr) (h : Heap), YP w h → (K w.params).In h → h.Ns mainGlobals mg → mg d.name = some (.ref fa) → LawAtG l w (K w.params) (CX w) k n x mg fa h)
    (calm : ∀ (w : World) (H : Hp) (s : Shared) (e : Value) (s' : Shared), CX w [] H s (fun _ _ _ => False) e s' → False) : PySem.W.WalkO q loose XP YP l.row.toRowW d [] (fun f vs => PySem.call f vs) := by
  refine Att.attach_callB most plain fun w _ s mg mb fa _ _ _ _ a vs ns G Y _ _ _ name here isI short _ bare => ?_
  obtain ⟨fd, cs, sp, ⟨t1, t2, t3⟩, bind, pre, F⟩ := at_ w mg fa _ Y (known w _ Y) G.T.g name
  exact law_callG ⟨known w _ Y, G.T.g, G.T.b, G.T.builtins, G.T.nolimit, t1, t2, t3, G.T.bmain, here, isI, Nat.le_trans short line⟩ bare room F bind (fun H t S => pre H a ns short t S) fun H e s' => calm w H s e s'
end KA
namespace KU
open PySem PySem.W PySem.Calls PyProof.Rows PySem.HandSPX
/-! ### an own error whose __init__(self, f) says super().__init__(e) and self.f = f -/
abbrev upBody (f : Str) (e : Expr) (p0 p1 p2 p3 pe q1 q2 q3 q4 : Pos) : List Stmt :=
  [.Expr (.Call (.Attribute (.Call (.Name "super" p0) [] [] p1) "__init__" p2) [e] [] p3) pe, .Assign [.Attribute (.Name "self" q1) f q2] (.Name f q3) q4]
abbrev upArgs (f : Str) (r1 r2 : Pos) : Arguments := { posonlyargs := [], args := [{ arg := "self", annotation := none, pos := r1 }, { arg := f, annotation := none, pos := r2 }], vararg := none, kwonlyargs := [], kw_defaults := [], kwarg := none, defaults := [] }
abbrev upScope (f : Str) : Scope := { kind := .function, names := [(PySem.Str.ofString "self", .local), (f, .local), (PySem.Str.ofString "__class__", .free), (PySem.Str.ofString "super", .globalImplicit)], isGenerator := false, isCoroutine := false, more := [] }
/-- what the written part says of the class at C, of its __init__ at fI -/
structure UpTxt (P : Program) (K : Frag) (C fI cda cc : Addr) (qual f : Str) (e : Expr) : Prop where
  fn : ∃ (oc : Value) (od : Option Addr) (doc pm : Value) (an : Option Addr) (ct : Value) (osl : Array (Option Value)) (r1 r2 p0 p1 p2 p3 pe q1 q2 q3 q4 : Pos),
    K.lookup fI = some ⟨oc, od, .func (ksFn "__init__" qual (upArgs f r1 r2) (upBody f e p0 p1 p2 p3 pe q1 q2 q3 q4) (upScope f) .none .none doc pm an (.ref cda) ct cc), osl⟩ ∧
      (∀ a b : Value, bindArgs (ksFn "__init__" qual (upArgs f r1 r2) (upBody f e p0 p1 p2 p3 pe q1 q2 q3 q4) (upScope f) .none .none doc pm an (.ref cda) ct cc) ⟨[a, b], []⟩ = pure [(PySem.Str.ofString "self", a), (f, b)]) ∧
      (∀ L : Addr, swapsWith (.Name f q3) (some (.Attribute (.Name "self" q1) f q2)) q4.line (ksEnv qual (upScope f) L fI (.ref cda) cc) = pure false) ∧
      ∃ pl : Sem Bool, ∀ L : Addr, eval (.Call (.Attribute (.Call (.Name "super" p0) [] [] p1) "__init__" p2) [e] [] p3) (ksEnv qual (upScope f) L fI (.ref cda) cc) = (do
        let o ← attributeBase (.Call (.Name "super" p0) [] [] p1) "__init__" (ksEnv qual (upScope f) L fI (.ref cda) cc) (eval (.Call (.Name "super" p0) [] [] p1) (ksEnv qual (upScope f) L fI (.ref cda) cc))
        standAt p2.atName
        let (g, first) ← holding [o] (getMethod o "__init__" pl)
        callWith p3 g first (backTo p3 (starEach [e] (ksEnv qual (upScope f) L fI (.ref cda) cc))) [])
  star : ∀ env : Env, starEach [e] env = [(false, eval e env)]
  code : codeIn K (.ref cda) qual = true
  file : ∃ (cl : Value) (cdd : Option Addr) (vs : Array Value) (ccs : Array (Option Value)) (fl : Str) (tf : Tok), K.lookup cda = some ⟨cl, cdd, .fields vs, ccs⟩ ∧ vs[2]? = some (.str fl tf) ∧ ((P.main.file : Str) == fl) = true
  cell : ∃ (cl : Value) (cld : Option Addr) (csl : Array (Option Value)), K.lookup cc = some ⟨cl, cld, .cell (some (.ref C)), csl⟩
  cls : ∃ cd, clsIn K C = some cd ∧ refsVE cd.mro = true ∧ cd.hasDict = true
  self : mroIn K C (.ref C) = some true
  noSuper : nsIn K mainGlobals "super" = some none
  top : (P.main.scope.names.lookup ("super" : Str)).isSome = false
  third : nsIn K cStatics "thirdparty.any" = some none
  up : ks_superIn K C C "__init__" = some (some (.builtin "ValueError.__init__"))
  val : subIn K (.ref C) (.type "ValueError") = some true
  own : excInitIn K C [.type "ValueError", .type "Exception", .type "BaseException", .type "object"] "ValueError.__new__" = true
  set : findIn K (.ref C) "__setattr__" = some (some (.builtin "object.__setattr__"))
  noF : findIn K (.ref C) f = some none
  obj : ∃ (nm q : Str) (N : Addr) (bs bm : List Value) (sn : List Str) (sub : List Value) (ab : Bool) (col : Option Bool) (dd : Option Addr) (k0 k1 k2 k3 k5 : Option Value),
    K.lookup C = some (excClassObj nm q C N bs bm true sn sub ab col dd k0 k1 k2 k3 k5 "ValueError.__new__") ∧ refsVE bm = true
  iC : findIn K (.ref C) "__init__" = some (some (.ref fI))
  tC : typeIn K (.ref fI) = some (.type "function")
  ga : findIn K (.ref C) "__getattribute__" = some (some (.builtin "BaseException.__getattribute__"))
  gg : findIn K (.ref C) "__getattr__" = some none
  kC : keepIn K (.ref C) = true
  exC : subIn K (.ref C) (.type "BaseException") = some true
  tyC : typeIn K (.ref C) = some (.type "type")
  hdC : hasDictIn K C = true
  nf : f ≠ "self" ∧ f ≠ "__class__" ∧ f ≠ "super" ∧ f ≠ "__debug__"
/-- what it leaves of a fresh exception at x -/
structure UpEnd (h h' : Heap) (x C dx t1 : Addr) (f : Str) (v : Value) : Prop where
  keep : ∀ b o, b ≠ x → h.get? b = some o → h'.get? b = some o
  obj : h'.get? x = some { cls := .ref C, dict := some dx, data := .fields #[.ref t1, .none, .none, .none, .bool false, .none] }
  big : h.objs.size ≤ dx
  ne : dx ≠ x
  ns : h'.Ns1 dx (fun y => if y = f then some v else none)
section
variable {prog : Program} {w : World} {A : Around} {R : Result → Shared → Prop} {s : Shared} {K : Frag} {mg mb : Str → Option Value} {C fI cda cc : Addr} {qual f : Str} {e : Expr}
theorem up_init (T : UpTxt prog K C fI cda cc qual f e) {x t0 : Addr} {v : Value} (X : K.In s.heap) (hlim : s.heap.NoLimit) (hg : s.heap.Ns mainGlobals mg) (hb : s.heap.Ns builtinsNs mb) (hbb : ∀ y : Str, y ≠ "__name__" → mb y = bootBuiltins y)
    (hx : s.heap.get? x = some (excO C t0)) (hnx : K.lookup x = none) (hroom : A.depth < recursionLimit)
    (text : ∀ (A' : Around) (E : Value → Shared → Prop) (s' : Shared) (L : Addr) (m : Str → Option Value) (Q : Value → Shared → Prop), A'.units ≤ A.units + 4 → (∀ b o, s.heap.get? b = some o → s'.heap.get? b = some o) → s'.heap.Ns L m → m f = some v → (∀ (z : Str) (t : Tok) (h' : Heap) (t' : Tok), (∀ b o, s'.heap.get? b = some o → h'.get? b = some o) → Q (.str z t) { s' with heap := h', toks := t' }) → wpAny (model prog w) A' (eval e (ksEnv qual (upScope f) L fI (.ref cda) cc)) Q E s')
    (hq : ∀ h' tk dx t1, UpEnd s.heap h' x C dx t1 f v → R (.ok (.ret .none)) { s with heap := h', toks := tk }) :
    codeAny (model prog w) A (.call (.ref fI) ⟨[.ref x, v], []⟩) R s := by
  obtain ⟨hp, g, dr, tk, os⟩ := s
  dsimp only at X hlim hg hb hx
  obtain ⟨oc, od, doc, pm, an, ct, osl, r1, r2, p0, p1, p2, p3, pe, q1, q2, q3, q4, ho, hbd, hswap, pl, hcall⟩ := T.fn
  obtain ⟨n1, n2, n3, n4⟩ := T.nf
  have lf : (upScope f).names.lookup f = some .local := by
    show List.lookup f ((PySem.Str.ofString "self", NameKind.local) :: _) = _
    rw [List.lookup_cons]
    cases f == PySem.Str.ofString "self" with
    | true => rfl
    | false =>
      show List.lookup f ((f, NameKind.local) :: _) = _
      rw [List.lookup_cons, beq_self_eq_true]
  refine ks_codeAny_call_defAt (binds := [(PySem.Str.ofString "self", .ref x), (f, v)]) (body := upBody f e p0 p1 p2 p3 pe q1 q2 q3 q4) hroom (X _ _ ho) rfl hlim (codeRec_of X T.code) rfl ?bind ?cells ?locs (fun h₁ hns keep => ?_) rfl rfl rfl
  case bind => exact .of_eq (hbd _ _)
  case cells =>
    intro y hy
    simp only [List.mem_cons, List.not_mem_nil, or_false] at hy
    rcases hy with z | z | z | z <;> (subst z; exact fun q => by cases q)
  case locs =>
    intro y hy
    simp only [List.mem_cons, List.not_mem_nil, or_false] at hy
    rcases hy with z | z <;> subst z
    · rfl
    · exact lf
  have X1 : K.In h₁ := X.keeps keep
  have ms : (List.lookup (PySem.Str.ofString "self") [(PySem.Str.ofString "self", Value.ref x), (f, v)].reverse) = some (.ref x) := by
    show List.lookup (PySem.Str.ofString "self") [(f, v), (PySem.Str.ofString "self", Value.ref x)] = _
    rw [List.lookup_cons, beq_false_of_ne (Ne.symm n1)]
    rfl
  have mf : (List.lookup f [(PySem.Str.ofString "self", Value.ref x), (f, v)].reverse) = some v := by
    show List.lookup f [(f, v), (PySem.Str.ofString "self", Value.ref x)] = _
    rw [List.lookup_cons, beq_self_eq_true]
  obtain ⟨cd, hcd, hmro, hdict⟩ := T.cls
  obtain ⟨cl, cdd, vs, ccs, fl, tf, hcode, hvs, hfile⟩ := T.file
  obtain ⟨ccl, cld, csl, hcell⟩ := T.cell
  have hx1 := keep _ _ hx
  generalize hm : (fun y => List.lookup y [(PySem.Str.ofString "self", Value.ref x), (f, v)].reverse) = m at hns
  have ms' : m "self" = some (.ref x) := by rw [← hm]; exact ms
  have mf' : m f = some v := by rw [← hm]; exact mf
  clear ms mf hm
  show PySem.wpAt _ _ _ (execs (upBody f e p0 p1 p2 p3 pe q1 q2 q3 q4) (ksEnv qual (upScope f) hp.objs.size fI (.ref cda) cc)) _ _ _
  refine ks_wpAt_execs_cons (ks_wpAt_Expr_any (ks_wpAt_MethodCall (pl := pl) ?_ (hcall _)))
  obtain ⟨oC, hC1, hC2⟩ : ∃ oC, h₁.get? C = some oC ∧ oC.data = .cls cd := by
    unfold clsIn at hcd
    split at hcd
    · rename_i c d cd' sl z
      cases hcd
      exact ⟨_, X1 _ _ z, rfl⟩
    · cases hcd
  have k1 : (upScope f).names.lookup ("super" : Str) = some .globalImplicit := by
    show List.lookup (PySem.Str.ofString "super") ((f, NameKind.local) :: _) = _
    rw [List.lookup_cons, beq_false_of_ne (Ne.symm n3)]
    rfl
  have k2 : (upScope f).names.lookup ("__class__" : Str) = some .free := by
    show List.lookup (PySem.Str.ofString "__class__") ((f, NameKind.local) :: _) = _
    rw [List.lookup_cons, beq_false_of_ne (Ne.symm n2)]
    rfl
  refine ks_wpAt_super_base (env := ksEnv qual (upScope f) hp.objs.size fI (.ref cda) cc) k1 k2 rfl rfl (X1 _ _ ho) rfl rfl rfl (X1 _ _ hcode) rfl hvs hfile T.top ?_
  refine ks_loadName_global rfl k1 (loadGlobal_builtin (env := ksEnv qual (upScope f) hp.objs.size fI (.ref cda) cc) (hg.keeps keep) (mg_none_of X hg T.noSuper) (hb.keeps keep) ((hbb _ (by decide +kernel)).trans (show bootBuiltins "super" = some (.type "super") by kernel_rfl)) ⟨rfl, ?_⟩)
  refine wpAny_loadName_free rfl k2 rfl ⟨_, X1 _ _ hcell, rfl⟩ ?_
  refine wpAny_loadName_local rfl rfl hns ms' ?_
  refine ks_wpAny_isType_cls hC1 hC2 ⟨rfl, ?_⟩
  refine ks_wpAny_call_super hC1 hC2 hx1 rfl (fun c z => by cases z) (looks_mroIn X1 T.self) (fun h2 so keep2 => ?_)
  have X2 : K.In h2 := X1.keeps keep2
  have hx2 := keep2 _ _ hx1
  have I2 : InstAt h2 x (excO C t0) C none := ⟨hx2, rfl, rfl, trivial⟩
  have along : alongIn K "__init__" ((cd.mro.dropWhile (· != .ref C)).drop 1) = some (some (.builtin "ValueError.__init__")) := by
    have z := T.up
    unfold ks_superIn at z
    rw [hcd] at z
    exact z
  refine kxs_getMethod kxs_ValueError so (looks_opaque X2 T.third) (l₀ := cd.mro) (fun A Q E s k q => wpAny_bind ((looks_clsIn X2 hcd) A _ E s k (wpAny_pure q))) rfl X2 along (I2.type.andThen (looks_subIn X2 T.val)) (ks_ne X2 I2 hcd) rfl ?_
  have push3 : ∀ b o, h2.get? b = some o → (h2.push (kxs_mw "ValueError.__init__" x)).get? b = some o := fun b o z => Heap.get?_push_of_some _ z
  generalize hh3 : h2.push (kxs_mw "ValueError.__init__" x) = h3 at push3
  have hu : h3.get? h2.objs.size = some (kxs_mw "ValueError.__init__" x) := by
    rw [← hh3]
    exact Heap.get?_push_at rfl rfl
  generalize h2.objs.size = u at hu
  have X3 : K.In h3 := X2.keeps push3
  have hx3 := push3 _ _ hx2
  have hns3 : h3.Ns hp.objs.size m := (hns.keeps keep2).keeps push3
  rw [T.star]
  refine kxs_callWith (i := "ValueError.__init__") (x := x) (u := u) rfl (evalArgs_plain (spliced_cons ?_))
  refine text _ _ _ _ _ _ (by show A.units + 3 ≤ A.units + 4; omega) (fun b o z => push3 b o (keep2 b o (keep b o z))) hns3 mf' fun z zt h3' t' g3 => spliced_nil ⟨g3 _ _ hu, ?_⟩
  replace X3 := X3.keeps g3
  replace hx3 := g3 _ _ hx3
  replace hns3 := hns3.keeps g3
  replace hu := g3 _ _ hu
  replace push3 : ∀ b o, h2.get? b = some o → h3'.get? b = some o := fun b o z => g3 b o (push3 b o z)
  obtain ⟨nm, N', qn, bs, bm, hdct, sn, sub, ab, col, dd, kk0, kk1, kk2, kk3, kk5, hC, hT⟩ := excInit_of X3 T.own
  refine wpAny_call (codeAny_of_tree ?_)
  show wpAny _ (Around.in1 _) (callAny (.ref u) ⟨[.str z zt], []⟩) _ _ _
  simp only [callAny]
  refine wpAny_bind (wpAny_load hu ?_)
  simp only [kxs_mw, show (Value.type "method-wrapper" == Value.type "method" || Value.type "method-wrapper" == Value.type "builtin_function_or_method" || Value.type "method-wrapper" == Value.type "method-wrapper") = true by decide, if_true]
  have FB := F.excBase_ValueError
  refine KFB.if_so (by decide) (wpAny_bind (check_bound_init FB.toExcCallFacts hC hx3 rfl (wpAny_bind (wpAny_pure (wpAny_pure ⟨plainId_quiet FB.init.plain _, codeAny_builtin FB.initEntry ?_⟩)))))
  refine exc_init_tree (cls := .ref C) (t0 := t0) (dv := none) (c2 := .none) (c3 := .none) (b4 := .bool false) hx3 (by show 1 ≤ sizeLine; decide) fun h4 keep4 hx4 _ => ?_
  have X4 : K.In h4 := fun b o z => keep4 b o (fun q => by rw [q, hnx] at z; cases z) (X3 b o z)
  have hns4 : h4.Ns hp.objs.size m := by
    obtain ⟨oL, es, ep, hL, rest⟩ := hns3
    exact ⟨oL, es, ep, keep4 _ _ (Nat.ne_of_gt (Heap.lt_size hx)) hL, rest⟩
  refine wpAt_of_wpAny (wpAny_execs_cons (plainObj_wpAny_Assign_Attribute ?_ (hswap _)))
  have kf : (ksEnv qual (upScope f) hp.objs.size fI (.ref cda) cc).kindOf f = some .local := lf
  have ndb : (f == ("__debug__" : Str)) = false := beq_false_of_ne n4
  refine wpAny_Name (wpAny_loadName_local rfl kf hns4 mf' ?_) ndb
  refine wpAny_Name (wpAny_loadName_local rfl rfl hns4 ms' ?_) rfl
  refine set_plain X4 (ox := excO C h3'.objs.size) (od := none) ⟨hx4, rfl, rfl, trivial⟩ T.set ?_
  refine exc_osa X4 hx4 hcd hmro hdict T.noF fun h5 tk5 dx keep5 big ne5 hx5 hn5 => ?_
  refine wpAny_execs_nil (hq h5 tk5 dx h3'.objs.size ⟨fun b o hb z => keep5 b o hb (keep4 b o hb (push3 b o (keep2 b o (keep b o z)))), hx5, ?_, ne5, hn5⟩)
  exact Nat.le_of_lt (Nat.lt_of_lt_of_le hns4.lt big)
/-- a made one -/
structure UpMade (h h' : Heap) (e C d : Addr) (f : Str) (v : Value) : Prop where
  keep : ∀ b o, h.get? b = some o → h'.get? b = some o
  new : h.objs.size ≤ e
  obj : ∃ oe vs, h'.get? e = some oe ∧ oe.cls = .ref C ∧ oe.dict = some d ∧ oe.data = .fields vs ∧ vs[1]? = some .none
  big : h.objs.size ≤ d
  ne : d ≠ e
  ns : h'.Ns1 d (fun y => if y = f then some v else none)
theorem up_made (T : UpTxt prog K C fI cda cc qual f e) {v : Value} (X : K.In s.heap) (hlim : s.heap.NoLimit) (hg : s.heap.Ns mainGlobals mg) (hb : s.heap.Ns builtinsNs mb) (hbb : ∀ y : Str, y ≠ "__name__" → mb y = bootBuiltins y) (hroom : A.depth + 1 < recursionLimit)
    (text : ∀ (A' : Around) (E : Value → Shared → Prop) (s' : Shared) (L : Addr) (m : Str → Option Value) (Q : Value → Shared → Prop), A'.units ≤ A.units + 12 → (∀ b o, s.heap.get? b = some o → s'.heap.get? b = some o) → s'.heap.Ns L m → m f = some v → (∀ (z : Str) (t : Tok) (h' : Heap) (t' : Tok), (∀ b o, s'.heap.get? b = some o → h'.get? b = some o) → Q (.str z t) { s' with heap := h', toks := t' }) → wpAny (model prog w) A' (eval e (ksEnv qual (upScope f) L fI (.ref cda) cc)) Q E s')
    (hq : ∀ h' tk a d, UpMade s.heap h' a C d f v → R (.ok (.ret (.ref a))) { s with heap := h', toks := tk }) : codeAny (model prog w) A (.call (.ref C) ⟨[v], []⟩) R s := by
  obtain ⟨nm, q, N, bs, bm, sn, sub, ab, col, dd, k0, k1, k2, k3, k5, hC, hbm⟩ := T.obj
  obtain ⟨hp, g, dr, tk, os⟩ := s
  dsimp only at X hlim hg hb
  generalize hh : (hp.push (kdv_tup [v])).push (excO C hp.objs.size) = h1
  have k : ∀ b o, hp.get? b = some o → h1.get? b = some o := fun b o z => by
    rw [← hh]
    exact Heap.get?_push_of_some _ (Heap.get?_push_of_some _ z)
  have got : h1.get? (hp.objs.size + 1) = some (excO C hp.objs.size) := by
    rw [← hh]
    heap_get
  have fresh : K.lookup (hp.objs.size + 1) = none := by
    cases z : K.lookup (hp.objs.size + 1) with
    | none => rfl
    | some o => exact absurd (show hp.objs.size + 1 < hp.objs.size from Heap.lt_size (X _ _ z)) (Nat.not_lt.mpr (Nat.le_succ _))
  refine call_own F.excBase_ValueError (fun Y => refsVE_contains Y bm hbm) (X _ _ hC) (looks_findIn X T.iC) (fun self => bind_fn X self T.tC) (by show 1 ≤ sizeLine; decide) ?_
  rw [hh]
  refine up_init (s := ⟨h1, g, dr, tk, os⟩) T (X.keeps k) (hlim.keeps k) (hg.keeps k) (hb.keeps k) hbb got fresh hroom (fun A' E s' L m Q un kp => text A' E s' L m Q (Nat.le_trans un (by show A.units + 1 + 4 ≤ A.units + 12; omega)) fun b o z => kp b o (k b o z)) fun h' tk' dx t1 Z => ?_
  have size1 : hp.objs.size ≤ h1.objs.size := Nat.le_of_lt (Nat.lt_of_succ_lt (Heap.lt_size got))
  exact ⟨rfl, hq h' tk' (hp.objs.size + 1) dx ⟨fun b o z => Z.keep b o (Nat.ne_of_lt (Nat.lt_succ_of_lt (Heap.lt_size z))) (k b o z), Nat.le_succ _, ⟨_, _, Z.obj, rfl, rfl, rfl, rfl⟩, Nat.le_trans size1 Z.big, Z.ne, Z.ns⟩⟩
end
end KU
namespace KU
open PySem PySem.W PySem.Calls PyProof.Rows PySem.HandSPX
/-- what the error says of v can be told -/
abbrev Text (P : Program) (w : World) (fI cda cc : Addr) (qual f : Str) (e : Expr) (v : Value) : Prop :=
  ∀ (A' : Around) (E : Value → Shared → Prop) (s' : Shared) (L : Addr) (m : Str → Option Value) (Q : Value → Shared → Prop), s'.heap.Ns L m → m f = some v → (∀ (z : Str) (t t' : Tok), Q (.str z t) { s' with toks := t' }) →
    wpAny (model P w) A' (eval e (ksEnv qual (upScope f) L fI (.ref cda) cc)) Q E s'
theorem kind_f {f : Str} : (upScope f).names.lookup f = some .local := by
  show List.lookup f ((PySem.Str.ofString "self", NameKind.local) :: _) = _
  rw [List.lookup_cons]
  cases f == PySem.Str.ofString "self" with
  | true => rfl
  | false =>
    show List.lookup f ((f, NameKind.local) :: _) = _
    rw [List.lookup_cons, beq_self_eq_true]
/-- f'z{f}' of an int, of a text -/
theorem text_of {P : Program} {w : World} {fI cda cc : Addr} {qual f z : Str} {j : Nat} {pc pn pf pj : Pos} {v : Value} {y : Str} (hd : f ≠ "__debug__")
    (fld : ∀ (A' : Around) (E : Value → Shared → Prop) (s' : Shared) (Q : Value → Shared → Prop), (∀ (t t' : Tok), Q (.str y t) { s' with toks := t' }) → wpAny (model P w) A' (formatField v Str.empty) Q E s')
    (h1 : z.length ≤ sizeLine) (h2 : (z ++ y).length ≤ sizeLine) : Text P w fI cda cc qual f (.JoinedStr [.Constant (.str z) j pc, .FormattedValue (.Name f pn) (-1) none pf] pj) v := by
  intro A' E s' L m Q hn hm k
  refine wpAny_JoinedStr ?_
  have e0 : ∀ env : Env, evalEach [.Constant (.str z) j pc, .FormattedValue (.Name f pn) (-1) none pf] env = [eval (.Constant (.str z) j pc) env, eval (.FormattedValue (.Name f pn) (-1) none pf) env] := fun _ => by first | rfl | simp [evalEach]
  rw [e0]
  have e1 : Str.empty ++ z = z := by
    show (⟨#[] ++ z.cps⟩ : Str) = z
    rw [Array.empty_append]
  refine Calls.Constant_str ⟨z, _, rfl, by rw [e1]; exact h1, ?_⟩
  rw [e1]
  refine wpAny_FormattedValue_plain (wpAny_Name (wpAny_loadName_local rfl (show (ksEnv qual (upScope f) L fI (.ref cda) cc).kindOf f = some .local from kind_f) hn hm ?_) (beq_false_of_ne hd))
  exact fld _ _ _ _ fun t t' => ⟨y, t, rfl, h2, h2, k _ _ _⟩
theorem text_int {P : Program} {w : World} {fI cda cc : Addr} {qual f z : Str} {j : Nat} {pc pn pf pj : Pos} {i : Int} {t : Tok} (hd : f ≠ "__debug__") (hi : i.natAbs.log2 < 1920) (h1 : z.length ≤ sizeLine) (h2 : (z ++ (toString i : String)).length ≤ sizeLine) :
    Text P w fI cda cc qual f (.JoinedStr [.Constant (.str z) j pc, .FormattedValue (.Name f pn) (-1) none pf] pj) (.int i t) :=
  text_of hd (fun _ _ _ _ k => wpAny_formatField_int hi (k _ _)) h1 h2
theorem text_str {P : Program} {w : World} {fI cda cc : Addr} {qual f z y : Str} {j : Nat} {pc pn pf pj : Pos} {t : Tok} (hd : f ≠ "__debug__") (h1 : z.length ≤ sizeLine) (h2 : (z ++ y).length ≤ sizeLine) (h3 : y.length ≤ sizeLine) :
    Text P w fI cda cc qual f (.JoinedStr [.Constant (.str z) j pc, .FormattedValue (.Name f pn) (-1) none pf] pj) (.str y t) :=
  text_of hd (fun _ _ _ _ k => wpAny_formatField_str (k _ _) (k _ _) h3) h1 h2
end KU
namespace KU
open PySem PySem.Spec PyProof.Rows L2
theorem relO_up {v : V} {v' : Value} {n : Str} (r : RelV v v') (f : Str) : RelO (List.lookup f [(n, v)]) (if f = n then some v' else none) := by
  by_cases c : f = n
  · subst c
    rw [if_pos rfl, List.lookup_cons, beq_self_eq_true]
    exact r
  · rw [if_neg c, List.lookup_cons, beq_false_of_ne c]
    trivial
section
variable {X : Cx} {C fI cda cc : Addr} {qual f x : Str} {e : Expr}
/-- x(a), x the class's name -/
def tMkUp (T : Value → Prop) (C : Addr) (f : Str) (ta : TA) : L2.St → Hp → XK → Prop := fun σ H Q => ta σ H fun vs H1 => ∃ v, vs = [v] ∧ (∀ v', RelV v v' → T v') ∧ ∀ d, H1 d = none → Q (.ref C) (some d) (upd H1 d (.xd [(f, v)]))
theorem pmk_up {a : Expr} {ta : TA} {p pos : Pos} {k : Nat} (T : UpTxt X.prog X.K C fI cda cc qual f e) (gC : X.mg x = some (.ref C)) (hr : Room k X.A) (ha : PA X [a] ta) (hg : Gl X x) (hdb : (x == ("__debug__" : Str)) = false := by decide)
    (he : starEach (a :: []) X.env = (false, eval a X.env) :: starEach [] X.env := by rfl) (hpl : (backTo pos (starEach [] X.env)).any (·.1) = false := by rfl) :
    PMk X (.Call (.Name x p) [a] [] pos) (tMkUp (Text X.prog X.w fI cda cc qual f e) C f ta) := by
  intro pins s σ H Q I h
  refine wpAny_Call_Name_kw (ld_glob I hg gC ?_ hdb)
  refine PySem.W.callWith_K (h₀ := X.base) I.ok.mod.kin T.kC (thn (ha.run pos pins s σ H _ I h) fun us s1 hh => ?_) he hpl
  obtain ⟨vs, H1, I1, r1, v, rfl, ht, q1⟩ := hh
  refine ⟨I1.kIn, ?_⟩
  cases r1 with
  | cons rv rn =>
    rename_i v' us'
    cases rn
    show wpAny _ _ (call (.ref C) [v']) _ _ _
    obtain ⟨mb, b1, b2⟩ := I1.mod.blt
    have lim := I1.nolimit
    have glob := I1.mod.glob.keeps I1.bk
    have blt := b1.keeps I1.bk
    have dp := hr.dp
    obtain ⟨hp, g, dr, tk, os⟩ := s1
    refine wpAny_call (up_made T I1.kIn lim glob blt b2 (by omega) (fun A' E s' L m Q _ _ hn hm k => ht v' rv A' E s' L m Q hn hm fun z t t' => k z t s'.heap t' fun _ _ e => e) fun h' tk' a' d M => ?_)
    show MkP X pins σ Q (.ref a') ⟨h', g, dr, tk', os⟩
    obtain ⟨oe, fv, hoe, hc, hd, hdat, one⟩ := M.obj
    obtain ⟨G, in_, out⟩ := restrict h' fun b => decide (b ≠ a')
    have same : ∀ b, b ≠ a' → G.get? b = h'.get? b := fun b hb => in_ b (decide_eq_true hb)
    have gone : G.get? a' = none := out a' (by simp)
    have stay : ∀ b o, hp.get? b = some o → G.get? b = some o := fun b o z => (same b (Nat.ne_of_lt (Nat.lt_of_lt_of_le (Heap.lt_size z) M.new))).trans (M.keep b o z)
    have own : ObjOk X.prog X.w (upd H1 d (.xd [(f, v)])) G d (.xd [(f, v)]) := ⟨_, M.ns.at (fun o z => (same d M.ne).trans z), fun y => relO_up rv y⟩
    have J : Inv X pins σ (upd H1 d (.xd [(f, v)])) ⟨G, g, dr, tk', os⟩ := I1.laid (t' := tk') stay M.big own
    refine ⟨a', oe, fv, ⟨G, g, dr, tk', os⟩, _, .ref C, some d, rfl, J, fun b o z => ?_, gone, hoe, ⟨hc, hd⟩, hdat, one, ?_, rfl, I1.bare, raises_own T.exC T.tyC, q1 d (I1.hok.fresh M.big)⟩
    · have hb : b ≠ a' := fun y => by
        rw [y] at z
        exact absurd (gone.symm.trans z) (by simp)
      exact (same b hb).symm.trans z
    · rw [upd_ne (Ne.symm M.ne)]
      exact I1.hok.fresh M.new
/-- raise x(a) -/
theorem ps_raiseUp {a : Expr} {ta : TA} {W : WX} {p pos pos2 : Pos} {k : Nat} (hc : X.calm = true) (T : UpTxt X.prog X.K C fI cda cc qual f e) (gC : X.mg x = some (.ref C)) (hr : Room k X.A) (tk : Takes X W) (ha : PA X [a] ta) (hg : Gl X x) (hdb : (x == ("__debug__" : Str)) = false := by decide)
    (he : starEach (a :: []) X.env = (false, eval a X.env) :: starEach [] X.env := by rfl) (hpl : (backTo pos (starEach [] X.env)).any (·.1) = false := by rfl) :
    PS X (.Raise (some (.Call (.Name x p) [a] [] pos)) none pos2) (fun _ σ H => tMkUp (Text X.prog X.w fI cda cc qual f e) C f ta σ H fun cls d H' => W cls d σ H') := ps_raise hc tk (pmk_up T gC hr ha hg hdb he hpl)
/-- err.f, err an exception that is kept as a value -/
def tUpGet (C : Addr) (f : Str) (te : TE) : TE := fun σ H Q => te σ H fun x H1 => ∃ (a d : Addr) (v : V), x = .ref a ∧ H1 a = some (KA.ExV (.ref C) (some d) a) ∧ H1 d = some (.xd [(f, v)]) ∧ Q v H1
theorem pe_upGet {o : Expr} {te : TE} {pos : Pos} (T : UpTxt X.prog X.K C fI cda cc qual f e) (he : PE X o te) (hb : attributeBase o f X.env (eval o X.env) = eval o X.env := by rfl) :
    PE X (.Attribute o f pos) (tUpGet C f te) := by
  refine ⟨fun pins s σ H Q I h => ?_⟩
  refine attr_of hb (thn (he.run pins s σ H _ I h) fun u s1 hh => ?_)
  obtain ⟨x, H1, I1, rx, a, d, v, rfl, ha, hd, q⟩ := hh
  obtain rfl : u = Value.ref a := rx
  obtain ⟨⟨oe, got, z, vs, dat⟩, _⟩ := I1.hok a _ ha
  obtain ⟨mA, ns, rel⟩ := I1.hok d _ hd
  obtain ⟨od, at_, look⟩ := lookIn_ns ns
  have l : List.lookup f [(f, v)] = some v := by rw [List.lookup_cons, beq_self_eq_true]
  obtain ⟨u, hu, ru⟩ := RelO.some_of (v := v) (o := mA f) (by rw [← l]; exact rel f)
  have J : PySem.W.InstAt s1.heap a oe C (some od) := ⟨got, z.1, by unfold PySem.W.notCls; rw [dat] <;> rfl, by rw [z.2]; exact at_⟩
  exact HandSPX.exc_get I1.kIn J T.ga T.gg T.exC (PySem.W.findObj_own T.hdC T.noF rfl (by rw [look, hu])) (handed_of ru) ⟨v, H1, I1.tok _, ru, q⟩
end
end KU
namespace KW
open PySem PySem.Spec PyProof.Rows L2 PySem.W LamX
/-! ### a lambda without parameters that is handed on from def to def: it stands as it was made, whoever calls it -/
theorem un_comp {fs gs : List Addr} {H H1 H2 : Hp} {h h1 h2 : Heap} (a : Un fs [] H H1 h h1) (b : Un gs [] H1 H2 h1 h2) (sub : ∀ x ∈ gs, x ∈ fs ∨ h.get? x = none) : Un fs [] H H2 h h2 := by
  have no : ∀ {x : Addr} {o : Obj}, h.get? x = some o → x ∉ fs → x ∉ gs := fun e n z => by
    rcases sub _ z with q | q
    · exact n q
    · rw [q] at e
      cases e
  refine ⟨fun x o e n hx _ => ?_, fun x o e n hx _ => ?_, fun x o e n _ => ?_, fun x o e _ => ?_, fun x xs e => b.tups _ _ (a.tups _ _ e), fun x o u e => b.frzs _ _ _ (a.frzs _ _ _ e), fun x ps e => ?_⟩
  · exact b.keep x o (a.keep x o e n hx (by simp)) (a.free x o e n (by simp)) (no e hx) (by simp)
  · obtain ⟨sl, e1⟩ := a.slot x o e n hx (by simp)
    have n1 := a.free x o e n (by simp)
    by_cases hg : x ∈ gs
    · obtain ⟨sl2, e2⟩ := b.slot x _ e1 n1 hg (by simp)
      exact ⟨sl2, e2⟩
    · exact ⟨sl, b.keep x _ e1 n1 hg (by simp)⟩
  · obtain ⟨o1, e1⟩ := a.there x o e (by simp)
    exact b.free x o1 e1 (a.free x o e n (by simp)) (by simp)
  · obtain ⟨o1, e1⟩ := a.there x o e (by simp)
    exact b.there x o1 e1 (by simp)
  · obtain ⟨m1, e1⟩ := a.tbls x ps e
    obtain ⟨m2, e2⟩ := b.tbls x _ e1
    exact ⟨m1 ++ m2, by rw [e2, Array.append_assoc]⟩
/-- the lambda at f, its code object at c' of the name q, made where the heaps were H0, h0; fs: the frames that ran then; t: what it promises -/
structure Work (P : Program) (w : World) (K : PySem.W.Frag) (mg : Str → Option Value) (base : Heap) (k : Nat) (fs : List Addr) (H0 : Hp) (h0 : Heap) (f c' : Addr) (q : Str) (t : XK → Hp → VK → Prop) : Prop where
  obj : ∃ (params : Arguments) (body : Expr) (scope : Scope) (cl : List (Str × Addr)) (pm ctv : Value), h0.get? f = some (PySem.W.kla_obj "<lambda>" q params body scope cl pm c' ctv)
  free : H0 f = none
  out : f ∉ fs
  run : ∀ (A : Around) (outer : List Env) (s1 : Shared) (HZ : Hp) (Q : VK) (E : XK), Room (k + 1) A → Env0 P w K mg base A outer s1 HZ → Un fs [] H0 HZ h0 s1.heap → HZ c' = some (CodeO c' q) → t E HZ Q →
    codeAny (model P w) A (.call (.ref f) ⟨[], []⟩) (CR (L2.CX P w) outer P w HZ s1 Q E) s1
section
variable {X : Cx} {pins : List (Addr × Obj)} {σ : L2.St} {H : Hp} {s : Shared}
theorem work_of {k : Nat} {f c' : Addr} {pm ctv : Value} {params : Arguments} {body : Expr} {scope : Scope} {tb : XK → TE} (I : Inv X pins σ H s) (L : LamS X.env.scope scope)
    (hf : s.heap.get? f = some (PySem.W.kla_obj "<lambda>" (X.env.qual ++ "<lambda>") params body scope (cloFrom X.env.cells scope.names []) pm c' ctv)) (hfn : H f = none) (hfr : f ∉ frs X.stack)
    (hbind : bindArgs (PySem.W.kla_fn "<lambda>" (X.env.qual ++ "<lambda>") params body scope (cloFrom X.env.cells scope.names []) pm (.ref c') ctv) ⟨[], []⟩ = pure [])
    (hbody : ∀ (A : Around) (outer : List Env) (s1 : Shared) (HZ : Hp) (E : XK), Room k (A.deeper (lamEnv X scope s1.heap.objs.size f c')) → PE (lamCx X A outer s1 HZ E scope f c') body (tb E)) :
    Work X.prog X.w X.K X.mg X.base k (frs X.stack) H s.heap f c' (X.env.qual ++ "<lambda>") (fun E HZ Q => tb E σ HZ Q) := by
  refine ⟨⟨_, _, _, _, _, _, hf⟩, hfn, hfr, fun A outer s1 HZ Q E hr e0 un hc ht => ?_⟩
  have of1 := un.keep f _ hf hfn hfr (by simp)
  obtain ⟨⟨oc, vs, t, hoc, hdc, hvc⟩, _, _⟩ := e0.hok c' _ hc
  have lim : s1.heap.NoLimit := e0.mod.nolimit.keeps fun b o e => (e0.bs b o e).1
  refine PySem.W.kla_callFunE hr.depth of1 rfl L.co L.gen rfl ⟨c', oc, vs, t, rfl, hoc, hdc, hvc⟩ ?_
  rw [hbind]
  refine wpAny_pure (wpAny_newFunctionEnv (fun y hy => (L.own y hy).2) (fun y hy => absurd hy (by simp)) (fun h₁ hns hsb => ⟨lim.fresh _ hsb, ?_⟩) L.kind)
  show codeAny _ _ (.expr body (lamEnv X scope s1.heap.objs.size f c')) _ _
  have kp : ∀ b o, s1.heap.get? b = some o → h₁.get? b = some o := fun b o e => hsb.extBut b o (Nat.ne_of_lt (Heap.lt_size e)) (Heap.get?_push_of_some _ e)
  have J : Inv (lamCx X A outer s1 HZ E scope f c') [] σ HZ { s1 with heap := h₁, toks := s1.toks + ([] : List (Str × Value)).length } := lam_start2 I L e0 hr.hd un hns kp
  refine PySem.W.kla_codeExpr (wpAny_mono ((hbody A outer s1 HZ E (hr.deeper _)).run [] _ _ HZ Q J ht) (fun v s' hq => ?_) fun e s' hq => hq)
  obtain ⟨w', H', J', rv, q⟩ := hq
  exact ⟨w', H', J'.os, J'.bare, J'.base, J'.hok, rv, q⟩
end
section
variable {Z : Cx} {k : Nat} {fs : List Addr} {H0 : Hp} {h0 : Heap} {f c' : Addr} {q : Str} {t : XK → Hp → VK → Prop}
/-- where Z stands to the making -/
structure Since (Z : Cx) (fs : List Addr) (H0 : Hp) (h0 : Heap) : Prop where
  un : Un fs [] H0 Z.H_0 h0 Z.s_0.heap
  sub : ∀ b ∈ Z.fs, b ∈ fs ∨ h0.get? b = none
  ex : Z.ex = []
theorem Since.now {pins : List (Addr × Obj)} {σ : L2.St} {H : Hp} {s : Shared} (S : Since Z fs H0 h0) (I : Inv Z pins σ H s) : Un fs [] H0 H h0 s.heap := by
  have b := I.base
  rw [S.ex] at b
  exact un_comp S.un b S.sub
theorem Since.stk {pins : List (Addr × Obj)} {σ : L2.St} {H : Hp} {s : Shared} (S : Since Z fs H0 h0) (I : Inv Z pins σ H s) : ∀ b ∈ frs Z.stack, b ∈ fs ∨ h0.get? b = none := fun b hb => by
  rcases List.mem_cons.mp (I.stkSub b hb) with e | e
  · refine .inr ?_
    cases z : h0.get? b with
    | none => rfl
    | some o =>
      obtain ⟨o', z'⟩ := S.un.there b o z (by simp)
      have l := Heap.lt_size z'
      have a := I.ok.above
      rw [e] at l
      exact absurd l (Nat.not_lt.mpr a)
  · exact S.sub b e
/-- the slot's name is called: a work stands in it -/
theorem pe_work {i : Nat} {a : Str} {E : XK} {p1 p2 : Pos} (Wk : Work Z.prog Z.w Z.K Z.mg Z.base k fs H0 h0 f c' q t) (S : Since Z fs H0 h0) (hx : Passes (L2.CX Z.prog Z.w) Z E) (hr : Room (k + 1) Z.A) (hN : Z.N[i]? = some a) (hv : Vis Z.env.scope a)
    (hd : (a == ("__debug__" : Str)) = false := by decide) (hcd : (a == ("__classdict__" : Str)) = false := by decide) :
    PE Z (.Call (.Name a p1) [] [] p2) (fun σ H Q => σ[i]? = some (some (.ref f)) ∧ H c' = some (CodeO c' q) ∧ t E H Q) := by
  refine ⟨fun pins s σ H Q I h => ?_⟩
  obtain ⟨hs, hc, ht⟩ := h
  refine wpAny_Call_Name_kw (thn ((pe_var (pos := p1) (i := i) hN hv hd hcd).run pins s σ H (fun v H1 => v = .ref f ∧ H1 = H) I ⟨.ref f, hs, rfl, rfl⟩) fun u s1 ⟨v, H1, I1, r1, q1⟩ => ?_)
  obtain ⟨ev, eH⟩ := q1
  subst ev
  rw [eH] at I1
  obtain rfl : u = Value.ref f := r1
  obtain ⟨_, _, _, _, _, _, ob⟩ := Wk.obj
  have un := S.now I1
  have of1 := un.keep f _ ob Wk.free Wk.out (by simp)
  refine PySem.W.callWith_F0 ⟨_, _, _, _, of1⟩ ?_
  refine wpAny_call (codeAny_mono (Wk.run Z.A Z.stack s1 H Q E hr I1.env0 un hc ht) fun r s' hq => ?_)
  match r, hq with
  | .error e, hq => exact hx pins σ H s1 e s' I1 hq
  | .ok (.ret u), hq => exact I1.after hq
  | .ok .next, hq => exact False.elim hq
  | .ok .brk, hq => exact False.elim hq
  | .ok .cont, hq => exact False.elim hq
end
/-- the promise of a def that a work is handed to -/
structure FnW (P : Program) (w : World) (K : PySem.W.Frag) (mg : Str → Option Value) (base : Heap) (fs : List Addr) (H0 : Hp) (h0 : Heap) (CX : CXT) (k : Nat) (g : Addr) (fd : FuncData) (ps : List Str) (sp : Sp) : Prop where
  len : ∀ vs H Q E, sp vs H Q E → vs.length = ps.length
  run : ∀ (A : Around) (outer : List Env) (s : Shared) (H : Hp) (args : Args) (us : List Value) (vs : List V) (Q : VK) (E : XK), Room k A → A.guards = some [] → Env0 P w K mg base A outer s H → Un fs [] H0 H h0 s.heap → (∀ b ∈ frs outer, b ∈ fs ∨ h0.get? b = none) →
    BindsTo s fd args (ps.zip us) → Vals vs us → sp vs H Q E → codeAny (model P w) A (.call (.ref g) args) (CR CX outer P w H s Q E) s
theorem fnW_of {CX : CXT} {P : Program} {w : World} {K : PySem.W.Frag} {mg : Str → Option Value} {base : Heap} {fs : List Addr} {H0 : Hp} {h0 : Heap} {k : Nat} {f : Addr} {x qual : Str} {st : Stmt} {fd : FuncData} {N ps : List Str} {sp : Sp} (F : Fun K x qual st f fd) (S : FnScope N ps (defScope st))
    (len : ∀ vs H Q E, sp vs H Q E → vs.length = ps.length)
    (hbody : ∀ (cdv : Value) (A : Around) (outer : List Env) (s : Shared) (H : Hp) (vs : List V) (Q : VK) (E : XK), Room k (A.deeper (envOfC qual (defScope st) s.heap.objs.size f cdv)) → A.guards = some [] → Since (cxOf CX P w K mg base N qual (defScope st) f cdv A outer s H E) fs H0 h0 → sp vs H Q E →
      ∃ t, PSs (cxOf CX P w K mg base N qual (defScope st) f cdv A outer s H E) (defBody st) t ∧ t { nx := fun _ H' => Q .non H', rt := Q } (L2.start N vs) H) : FnW P w K mg base fs H0 h0 CX (k + 1) f fd ps sp := by
  obtain ⟨oc, od, kV, doc, pm, an, cdv, ct, osl, rfl, lk, hcd⟩ := F.ex
  exact ⟨len, fun A outer s H args us vs Q E hr hgd e0 un sub hb r h => run_ofS lk hcd S hr e0 hb r (len _ _ _ _ h) fun hr' => hbody cdv A outer s H vs Q E hr' hgd ⟨un, sub, rfl⟩ h⟩
section
variable {Z : Cx} {CX : CXT} {k : Nat} {fs : List Addr} {H0 : Hp} {h0 : Heap} {g : Addr} {fd : FuncData} {ps : List Str} {sp : Sp} {E : XK} {x : Str} {p pos : Pos} {e : Expr} {es : List Expr} {t : TA}
/-- x(a, ..) in a def that the work has been handed to, handed on -/
theorem pe_wcall (F : FnW Z.prog Z.w Z.K Z.mg Z.base fs H0 h0 CX k g fd ps sp) (S : Since Z fs H0 h0) (hr : Room k Z.A) (hgd : Z.A.guards = some []) (hg : Gl Z x) (hm : Z.mg x = some (.ref g)) (hk : PySem.W.keepIn Z.K (.ref g) = true) (hb : Binds Z.K fd ps []) (hx : Passes CX Z E) (ha : PA Z (e :: es) t)
    (hdb : (x == ("__debug__" : Str)) = false := by decide) (he : starEach (e :: es) Z.env = (false, eval e Z.env) :: starEach es Z.env := by rfl) (hpl : (backTo pos (starEach es Z.env)).any (·.1) = false := by rfl) :
    PE Z (.Call (.Name x p) (e :: es) [] pos) (tCall sp [] E t) := by
  refine ⟨fun pins s σ H Q I h => ?_⟩
  refine wpAny_Call_Name_kw (ld_glob I hg hm ?_ hdb)
  refine PySem.W.callWith_K (h₀ := Z.base) I.ok.mod.kin hk (thn (ha.run pos pins s σ H _ I h) fun us s1 ⟨vs, H1, I1, r, q⟩ => ⟨I1.kIn, ?_⟩) he hpl
  have q : sp (vs ++ []) H1 Q E := q
  rw [List.append_nil] at q
  have hl : us.length = ps.length := by rw [← r.length]; exact F.len _ _ _ _ q
  have bt := hb s1 us I1.kIn (by simpa using hl)
  rw [List.append_nil] at bt
  refine wpAny_call (codeAny_mono (F.run Z.A Z.stack s1 H1 ⟨us, []⟩ us vs Q E hr hgd I1.env0 (S.now I1) (S.stk I1) bt r q) fun rr s' hq => ?_)
  match rr, hq with
  | .error e, hq => exact hx pins σ H1 s1 e s' I1 hq
  | .ok (.ret u), hq => exact I1.after hq
  | .ok .next, hq => exact False.elim hq
  | .ok .brk, hq => exact False.elim hq
  | .ok .cont, hq => exact False.elim hq
end
section
variable {X : Cx} {T : List (Addr × Str)} {CX : CXT} {kb k : Nat} {g c P : Addr} {fd : FuncData} {ps : List Str} {E : XK} {x : Str} {params : Arguments} {body : Expr} {scope : Scope} {t : XK → TE} {p lpos pos : Pos} {es : List Expr} {ta : TA} {sp : Addr → Addr → (XK → Hp → VK → Prop) → Sp}
/-- x(lambda: body, ..), x a def that hands it on -/
theorem pe_lamW (FW : ∀ (H0 : Hp) (h0 : Heap) (f c' : Addr) (t' : XK → Hp → VK → Prop), Work X.prog X.w X.K X.mg X.base kb (frs X.stack) H0 h0 f c' (X.env.qual ++ "<lambda>") t' → FnW X.prog X.w X.K X.mg X.base (frs X.stack) H0 h0 CX k g fd ps (sp f c' t'))
    (hg : Gl X x) (hm : X.mg x = some (.ref g)) (hk : PySem.W.keepIn X.K (.ref g) = true) (hb : Binds X.K fd ps []) (hx : Passes CX X E) (hr : Room k X.A) (hgd : X.A.guards = some []) (TB : TabB X.base X.mg c P) (hcode : X.env.code = .ref c) (hmT : (P, X.env.qual ++ "<lambda>") ∈ T) (hu : ∀ p ∈ T, p.1 = P → p.2 = X.env.qual ++ "<lambda>")
    (L : LamS X.env.scope scope) (hdef : defaultsOf params X.env = ([], [])) (hbind : ∀ (q : Str) (cl : List (Str × Addr)) (pm cv ctv : Value), bindArgs (PySem.W.kla_fn "<lambda>" q params body scope cl pm cv ctv) ⟨[], []⟩ = pure [])
    (hbody : ∀ (A : Around) (outer : List Env) (s : Shared) (H : Hp) (E : XK) (f c' : Addr), Room kb (A.deeper (lamEnv X scope s.heap.objs.size f c')) → PE (lamCx X A outer s H E scope f c') body (t E)) (ha : PA X es ta)
    (hdb : (x == ("__debug__" : Str)) = false := by decide) (he : starEach (.Lambda params body scope lpos :: es) X.env = (false, eval (.Lambda params body scope lpos) X.env) :: starEach es X.env := by rfl) (hpl : (backTo pos (starEach es X.env)).any (·.1) = false := by rfl) :
    PE X (.Call (.Name x p) (.Lambda params body scope lpos :: es) [] pos) (fun σ H Q => Tabs T H ∧ ∀ H1, ExtN H H1 → Tabs T H1 → ∀ f c' : Addr, H1 c' = some (CodeO c' (X.env.qual ++ "<lambda>")) →
      ta σ H1 fun vs H2 => sp f c' (fun E H Q => t E σ H Q) (.ref f :: vs) H2 Q E) := by
  refine ⟨fun pins s σ H Q I h => ?_⟩
  obtain ⟨hT, h⟩ := h
  refine wpAny_Call_Name_kw (ld_glob I hg hm ?_ hdb)
  refine PySem.W.callWith_K (h₀ := X.base) I.ok.mod.kin hk ?_ he hpl
  rw [he]
  show wpAny _ _ (spliced ((false, eval (.Lambda params body scope lpos) X.env) :: backTo pos (starEach es X.env))) _ _ s
  refine Calls.spliced_cons (lam_make2 I TB hcode hmT hu hT hdef (L.has I.ok) fun f c' pm' ctv H1 s' I1 eN T1 hf hfn hfr hco => ?_)
  have fl : f ≠ X.env.locals := fun z => by
    obtain ⟨m, ⟨o, es', ep, e1, e2, _⟩, _⟩ := I1.loc
    rw [← z, hf] at e1
    cases e1
    cases e2
  have ff : f ∉ X.fs := fun z => hfr (by
    rcases I1.ok.stk with q | ⟨q, _⟩
    · rw [q]
      exact z
    · rw [q]
      obtain ⟨e, he', q'⟩ := List.mem_filterMap.mp z
      exact List.mem_filterMap.mpr ⟨e, List.mem_cons_of_mem _ he', q'⟩)
  have J1 : Inv X ((f, PySem.W.kla_obj "<lambda>" (X.env.qual ++ "<lambda>") params body scope (cloFrom X.env.cells scope.names []) pm' c' ctv) :: pins) σ H1 s' := I1.pins_of fun q hq => by
    rcases List.mem_cons.mp hq with z | z
    · rw [z]
      exact ⟨hf, hfn, fl, ff, fun v y => by cases y⟩
    · exact I1.pin q (List.mem_append_right _ z)
  refine thn (ha.run pos _ s' σ H1 _ J1 (h H1 eN T1 f c' hco)) fun us s2 ⟨vs, H2, J2, r, q⟩ => ⟨J2.kIn, ?_⟩
  have at2 := J2.pin (f, _) (List.mem_append_right _ List.mem_cons_self)
  have I2 : Inv X pins σ H2 s2 := J2.pins_of fun q hq => J2.pin q (List.mem_append_right _ (List.mem_cons_of_mem _ hq))
  have Wk := work_of (tb := t) I2 L at2.1 at2.2.1 hfr (hbind _ _ _ _ _) (fun A outer s1 HZ E hr2 => hbody A outer s1 HZ E f c' hr2)
  have F := FW H2 s2.heap f c' _ Wk
  have r2 : Vals (.ref f :: vs) (.ref f :: us) := .cons rfl r
  have hl : (Value.ref f :: us).length = ps.length := by rw [← r2.length]; exact F.len _ _ _ _ q
  have bt := hb s2 (.ref f :: us) I2.kIn (by simpa using hl)
  rw [List.append_nil] at bt
  refine wpAny_call (codeAny_mono (F.run X.A X.stack s2 H2 ⟨.ref f :: us, []⟩ (.ref f :: us) (.ref f :: vs) Q E hr hgd I2.env0 (Un.kept fun _ _ z => z) (fun b hb => .inl hb) bt r2 q) fun rr s3 hq => ?_)
  match rr, hq with
  | .error e, hq => exact hx pins σ H2 s2 e s3 I2 hq
  | .ok (.ret u), hq => exact I2.after hq
  | .ok .next, hq => exact False.elim hq
  | .ok .brk, hq => exact False.elim hq
  | .ok .cont, hq => exact False.elim hq
end
end KW
namespace KA
open PySem PySem.Spec PyProof.Rows L2 PySem.W LamX KW
/-- isinstance of an exception that is kept as a value, with fields of its own -/
def rIsD (K : PySem.W.Frag) : List V → Hp → VK → Prop := fun xs H Q => ∃ (a D d : Addr) (fs : List (Str × V)) (c : V) (cv : Value) (b : Bool), xs = [.ref a, c] ∧ H a = some (ExV (.ref D) (some d) a) ∧ H d = some (.xd fs) ∧ ExcC K D ∧ ClsV c cv ∧ PySem.W.kitOne K (.ref D) cv = some b ∧ Q (.bl b) H
def rIs3 (K : PySem.W.Frag) : List V → Hp → VK → Prop := fun xs H Q => rIs2 K xs H Q ∨ rIsD K xs H Q
section
variable {X : Cx}
theorem call_isD : CallR X (.builtin "isinstance") (rIsD X.K) := by
  intro pins s σ H xs us Q I r h
  obtain ⟨a, D, d, fs, c, cv, b, rfl, ha, hd, C, k, e, q⟩ := h
  obtain ⟨u1, u2, rfl, r1, r2⟩ := vals2 r
  cases k.eq r2
  obtain rfl : u1 = Value.ref a := r1
  obtain ⟨⟨oe, at1, z, vs, dat⟩, _⟩ := I.hok a _ ha
  obtain ⟨mA, ns, _⟩ := I.hok d _ hd
  obtain ⟨od, at2, _⟩ := lookIn_ns ns
  have J : PySem.W.InstAt s.heap a oe D (some od) := ⟨at1, z.1, by unfold PySem.W.notCls; rw [dat] <;> rfl, by rw [z.2]; exact at2⟩
  obtain ⟨cd, hc, _⟩ := any_some C.hd
  exact PySem.W.kia_one (kitx_exc (by rw [hc]; rfl) C.hg C.hk C.hs C.ha C.hn C.ht C.hm) I.kIn J e (fun z => nomatch z) fun tk => ⟨.bl b, H, I.tok tk, rfl, q⟩
theorem call_is3 : CallR X (.builtin "isinstance") (rIs3 X.K) := by
  intro pins s σ H xs us Q I r h
  rcases h with h | h
  · exact call_is2 pins s σ H xs us Q I r h
  · exact call_isD pins s σ H xs us Q I r h
end
/-- caught, of a work that was handed on: at f, its code object at c' -/
def spCaughtW (K : PySem.W.Frag) (CS : Addr) (f c' : Addr) (q : Str) (t : XK → Hp → VK → Prop) : Sp := fun vs H Q _ => vs = [.ref f] ∧ H c' = some (CodeO c' q) ∧ TCaught K CS t H Q
theorem caught_work {P : Program} {w : World} {K : PySem.W.Frag} {mg : Str → Option Value} {base : Heap} {fs : List Addr} {H0 : Hp} {h0 : Heap} {k : Nat} {f c' : Addr} {q : Str} {t : XK → Hp → VK → Prop} {g : Addr} {fd : FuncData} {x a e n m : Str} {st : Stmt} {CS : Addr} {j1 : Nat} {p1 p2 p3 p4 p5 p6 p7 p8 p9 pa pb pc pd pe : Pos}
    (Wk : Work P w K mg base k fs H0 h0 f c' q t) (F : Fun K x x st g fd) (S : FnScope [a, m, n] [a] (defScope st))
    (hb : defBody st = [.Assign [.Name m p1] (.Constant .none j1 p2) p3,
       .Try [.Expr (.Call (.Name a p4) [] [] p5) p6] [.ExceptHandler (some (.Name e p7)) (some n) [.Assign [.Name m p8] (.Name n p9) pa] pb] [] [] pc,
       .Return (some (.Name m pd)) pe])
    (la : (defScope st).names.lookup a = some .local) (lm : (defScope st).names.lookup m = some .local) (ln : (defScope st).names.lookup n = some .local) (he : (defScope st).names.lookup e = some .globalImplicit) (hme : mg e = some (.ref CS)) (hde : (e == ("__debug__" : Str)) = false)
    (d0 : (a == ("__debug__" : Str)) = false) (d00 : (a == ("__classdict__" : Str)) = false) (d1 : (n == ("__debug__" : Str)) = false) (d2 : (n == ("__classdict__" : Str)) = false) (d3 : (m == ("__debug__" : Str)) = false) (d4 : (m == ("__classdict__" : Str)) = false) :
    FnW P w K mg base fs H0 h0 (L2.CX P w) (k + 2) g fd [a] (spCaughtW K CS f c' q t) := by
  refine fnW_of F S (fun vs H Q E h => by rw [h.1]; rfl) (fun cdv A outer s H vs Q E hr _ Sn h => ?_)
  obtain ⟨rfl, hc, hT⟩ := h
  rw [hb]
  refine ⟨_, pss_cons (ps_set (i := 1) S.nd rfl (.inl lm) pe_non) (pss_cons (ps_try_keep (c := .ref CS) (i := 2) (j := 1)
      (tb := fun W D σ H => ∃ Eb : XK, (∀ cls d σ' H', Eb cls d H' → W cls d σ' H') ∧ σ[0]? = some (some (.ref f)) ∧ H c' = some (CodeO c' q) ∧ t Eb H (fun _ H' => D.nx σ H'))
      rfl rfl rfl S.nd rfl rfl ln lm ⟨he, hde, .inl hme⟩ d1 d2 (fun W pn xe tk _ => ?_))
    (pss_one (ps_ret (pe_var (i := 1) rfl (.inl lm) d3 d4)))), ?_⟩
  · refine ⟨fun pins s' σ H' D I h' => ?_⟩
    obtain ⟨Eb, wish, h1, h2, h3⟩ := h'
    exact (pss_one (ps_expr (pe_work (Z := (cxOf (L2.CX P w) P w K mg base [a, m, n] x (defScope st) g cdv A outer s H E).tr pn xe) (i := 0) Wk ⟨Sn.un, Sn.sub, Sn.ex⟩ (passes_call tk wish) hr rfl (.inl la) d0 d00))).run pins s' σ H' D I ⟨h1, h2, h3⟩
  · refine ⟨fun cls d H' => PySem.W.exmOne K cls (.ref CS) = some true ∧ ∀ b, H' b = none → Q (.ref b) (upd H' b (ExV cls d b)), fun cls d σ' H' ⟨e1, e2⟩ => ⟨e1, fun b hb hl => ?_⟩, rfl, hc, ?_⟩
    · match σ', hl with
      | [u, v, z], _ => exact ⟨_, rfl, e2 b hb⟩
    · exact hT _ fun v H' z => ⟨_, rfl, z⟩
end KA
namespace KL
open PySem PySem.Spec PyProof.Rows L2 PySem.W LamX KA KW
/-! ### a lambda without parameters as a value: kept in a list, a local name, and called later by a def it is handed to -/
/-- the lambda at f, its code object at c', as the def with the frame env made it -/
def LamO (env : Env) (params : Arguments) (body : Expr) (scope : Scope) (f c' : Addr) : HO :=
  .ext fun h => ∃ pm ctv : Value, h.get? f = some (PySem.W.kla_obj "<lambda>" (env.qual ++ "<lambda>") params body scope (cloFrom env.cells scope.names []) pm c' ctv)
theorem lamO_tbl {env : Env} {params : Arguments} {body : Expr} {scope : Scope} {f c' : Addr} (ps : Array Value) : LamO env params body scope f c' ≠ .tbl ps := fun z => by
  unfold LamO at z
  cases z
theorem lamO_lst {env : Env} {params : Arguments} {body : Expr} {scope : Scope} {f c' : Addr} (xs : List V) : LamO env params body scope f c' ≠ .lst xs := fun z => by
  unfold LamO at z
  cases z
section
variable {X : Cx} {pins : List (Addr × Obj)} {σ : L2.St} {H : Hp} {s : Shared}
theorem laidLam {env : Env} {params : Arguments} {body : Expr} {scope : Scope} {c' : Addr} {pm ctv : Value} {h' : Heap} {tk : Nat} (I : Inv X pins σ H { s with heap := h', toks := tk }) :
    Inv X pins σ (upd H h'.objs.size (LamO env params body scope h'.objs.size c')) { s with heap := h'.push (PySem.W.kla_obj "<lambda>" (env.qual ++ "<lambda>") params body scope (cloFrom env.cells scope.names []) pm c' ctv), toks := tk } :=
  I.laid (t' := tk) (fun b o e => Heap.get?_push_of_some _ e) (Nat.le_refl _) ⟨⟨pm, ctv, Heap.get?_push_size _ rfl⟩, ⟨_, Heap.get?_push_size _ rfl⟩, fun h1 h2 ⟨a, b, e⟩ st => ⟨a, b, st _ e⟩⟩
/-- it is made: a value of the heap -/
theorem lam_valF {T : List (Addr × Str)} {c P : Addr} {params : Arguments} {body : Expr} {scope : Scope} {pos : Pos} {E Q : Value → Shared → Prop} (I : Inv X pins σ H s) (TB : TabB X.base X.mg c P) (hcode : X.env.code = .ref c)
    (mem : (P, X.env.qual ++ "<lambda>") ∈ T) (one : ∀ p ∈ T, p.1 = P → p.2 = X.env.qual ++ "<lambda>") (hT : Tabs T H) (hdef : defaultsOf params X.env = ([], [])) (hfree : ∀ y ∈ scope.names, y.2 = .free → ∃ c, X.env.cells.lookup y.1 = some c)
    (k : ∀ (f c' : Addr) (H1 : Hp) (s' : Shared), ExtN H H1 → Tabs T H1 → H1 f = none → H1 c' = some (CodeO c' (X.env.qual ++ "<lambda>")) → Inv X pins σ (upd H1 f (LamO X.env params body scope f c')) s' → Q (.ref f) s') :
    wpAny (model X.prog X.w) X.A (eval (.Lambda params body scope pos) X.env) Q E s := by
  obtain ⟨tb, atP, tri, amg⟩ := hT _ mem
  have clo := closure_ok hfree
  have glob := I.mod.glob.keeps I.bk
  have code := TB.code.keeps I.bk
  have raw : s.heap.get? P = some { cls := .none, data := .fields tb } := I.hok P _ atP
  have bm := TB.bm.keeps I.bk
  refine PySem.W.kla_eval hdef ?_
  cases found : codeAmong pos tb.toList with
  | some cv =>
    obtain ⟨c', rfl, hco⟩ := amg pos cv found
    refine PySem.W.kla_makeFunctionHit clo I.ok.glob glob hcode code raw tri found bm ?_
    intro ctv h' tk hx hsz
    have J : Inv X pins σ H { s with heap := h', toks := tk } := I.kept fun b o e => hx b o e
    exact k _ c' H _ (ExtN.refl H) hT (I.hok.fresh hsz) hco (laidLam J)
  | none =>
    refine PySem.W.kla_makeFunction clo I.ok.glob glob hcode code raw tri found TB.gP bm ?_
    intro c' ctv h' tk hx hge hlt rec tbl
    obtain ⟨c2, oc, vs, t, ec, hoc, hd, hv⟩ := rec
    cases ec
    have free : H c' = none := I.hok.fresh hge
    have ne : P ≠ c' := ne_of_none atP free
    have J := inv_table (t' := tk) (more := #[rawInt pos.line, rawInt pos.col, .ref c']) (h' := h') I atP hx tbl hge ⟨oc, vs, t, hoc, hd, hv⟩
    generalize hH : upd (upd H P (.tbl (tb ++ #[rawInt pos.line, rawInt pos.col, .ref c']))) c' (CodeO c' (X.env.qual ++ "<lambda>")) = H1 at J
    have at1 : H1 c' = some (CodeO c' (X.env.qual ++ "<lambda>")) := by rw [← hH, upd_same]
    have at2 : H1 P = some (.tbl (tb ++ #[rawInt pos.line, rawInt pos.col, .ref c'])) := by rw [← hH, upd_ne ne, upd_same]
    have at3 : ∀ b, b ≠ P → b ≠ c' → H1 b = H b := fun b h1 h2 => by rw [← hH, upd_ne h2, upd_ne h1]
    have ext : ExtN H H1 := fun b o e n => by
      rw [at3 b (fun z => n tb (Option.some.inj (e.symm.trans (z ▸ atP)))) (ne_of_none e free)]
      exact e
    have eL : (tb ++ #[rawInt pos.line, rawInt pos.col, .ref c']).toList = tb.toList ++ [rawInt pos.line, rawInt pos.col, .ref c'] := by simp
    refine k _ c' H1 _ ext (fun p hp => ?_) (J.hok.fresh (Nat.le_refl _)) at1 (laidLam J)
    by_cases hb : p.1 = P
    · rw [one p hp hb, hb]
      refine ⟨_, at2, eL ▸ PySem.TriplesOk_snoc _ _ _ _ tri, fun p' cv hcv => ?_⟩
      rw [eL] at hcv
      cases among_app _ tri hcv with
      | inl z =>
        obtain ⟨c0, e1, e2⟩ := amg p' cv z
        exact ⟨c0, e1, ext _ _ e2 codeO_ne⟩
      | inr z => exact ⟨c', z, at1⟩
    · obtain ⟨ps', a1, a2, a3⟩ := hT p hp
      refine ⟨ps', (at3 p.1 hb (ne_of_none a1 free)).trans a1, a2, fun p' cv hcv => ?_⟩
      obtain ⟨c0, e1, e2⟩ := a3 p' cv hcv
      exact ⟨c0, e1, ext _ _ e2 codeO_ne⟩
end
def tLamV (T : List (Addr × Str)) (env : Env) (params : Arguments) (body : Expr) (scope : Scope) : TE := fun _ H Q => Tabs T H ∧ ∀ H1, ExtN H H1 → Tabs T H1 → ∀ f c' : Addr, H1 f = none → H1 c' = some (CodeO c' (env.qual ++ "<lambda>")) → Q (.ref f) (upd H1 f (LamO env params body scope f c'))
theorem pe_lamV {X : Cx} {T : List (Addr × Str)} {c P : Addr} {params : Arguments} {body : Expr} {scope : Scope} {pos : Pos} (TB : TabB X.base X.mg c P) (hcode : X.env.code = .ref c) (mem : (P, X.env.qual ++ "<lambda>") ∈ T) (one : ∀ p ∈ T, p.1 = P → p.2 = X.env.qual ++ "<lambda>")
    (L : LamS X.env.scope scope) (hdef : defaultsOf params X.env = ([], [])) : PE X (.Lambda params body scope pos) (tLamV T X.env params body scope) := by
  refine ⟨fun pins s σ H Q I h => ?_⟩
  obtain ⟨hT, h⟩ := h
  exact lam_valF I TB hcode mem one hT hdef (L.has I.ok) fun f c' H1 s' ext T1 fr co J => ⟨.ref f, _, J, rfl, h H1 ext T1 f c' fr co⟩
/-- the same, of a lambda with names of its own, which uses none of the def's -/
theorem pe_lamVF {X : Cx} {T : List (Addr × Str)} {c P : Addr} {params : Arguments} {body : Expr} {scope : Scope} {pos : Pos} (TB : TabB X.base X.mg c P) (hcode : X.env.code = .ref c) (mem : (P, X.env.qual ++ "<lambda>") ∈ T) (one : ∀ p ∈ T, p.1 = P → p.2 = X.env.qual ++ "<lambda>")
    (hn : ∀ y ∈ scope.names, y.2 ≠ .free) (hdef : defaultsOf params X.env = ([], [])) : PE X (.Lambda params body scope pos) (tLamV T X.env params body scope) := by
  refine ⟨fun pins s σ H Q I h => ?_⟩
  obtain ⟨hT, h⟩ := h
  exact lam_valF I TB hcode mem one hT hdef (fun y hy e => absurd e (hn y hy)) fun f c' H1 s' ext T1 fr co J => ⟨.ref f, _, J, rfl, h H1 ext T1 f c' fr co⟩
/-- what is known of a lambda that was handed on: pre tells that it stands, t what its call promises -/
structure WorkL (P : Program) (w : World) (K : PySem.W.Frag) (mg : Str → Option Value) (base : Heap) (k : Nat) (fs : List Addr) (H0 : Hp) (h0 : Heap) (f : Addr) (pre : Hp → Prop) (t : XK → Hp → VK → Prop) : Prop where
  fn : ∀ (HZ : Hp) (h1 : Heap), HOk P w HZ h1 → pre HZ → ∃ (qual : Str) (params : Arguments) (body : Expr) (scope : Scope) (cl : List (Str × Addr)) (pm : Value) (c' : Addr) (ctv : Value), h1.get? f = some (PySem.W.kla_obj "<lambda>" qual params body scope cl pm c' ctv)
  run : ∀ (A : Around) (outer : List Env) (s1 : Shared) (HZ : Hp) (Q : VK) (E : XK), Room (k + 1) A → Env0 P w K mg base A outer s1 HZ → Un fs [] H0 HZ h0 s1.heap → pre HZ → t E HZ Q →
    codeAny (model P w) A (.call (.ref f) ⟨[], []⟩) (CR (L2.CX P w) outer P w HZ s1 Q E) s1
section
variable {X : Cx} {pins : List (Addr × Obj)} {σ : L2.St} {H : Hp} {s : Shared}
theorem work_ofL {k : Nat} {f c' : Addr} {params : Arguments} {body : Expr} {scope : Scope} {tb : XK → TE} (I : Inv X pins σ H s) (L : LamS X.env.scope scope)
    (hbind : ∀ (q : Str) (cl : List (Str × Addr)) (pm cv ctv : Value), bindArgs (PySem.W.kla_fn "<lambda>" q params body scope cl pm cv ctv) ⟨[], []⟩ = pure [])
    (hbody : ∀ (A : Around) (outer : List Env) (s1 : Shared) (HZ : Hp) (E : XK), Room k (A.deeper (lamEnv X scope s1.heap.objs.size f c')) → PE (lamCx X A outer s1 HZ E scope f c') body (tb E)) :
    WorkL X.prog X.w X.K X.mg X.base k (frs X.stack) H s.heap f (fun HZ => HZ f = some (LamO X.env params body scope f c') ∧ HZ c' = some (CodeO c' (X.env.qual ++ "<lambda>"))) (fun E HZ Q => tb E σ HZ Q) := by
  refine ⟨fun HZ h1 ok pre => ?_, fun A outer s1 HZ Q E hr e0 un pre ht => ?_⟩
  · obtain ⟨⟨pm, ctv, e⟩, _⟩ := ok f _ pre.1
    exact ⟨_, _, _, _, _, _, _, _, e⟩
  · obtain ⟨pf, pc⟩ := pre
    obtain ⟨⟨pm, ctv, of1⟩, _⟩ := e0.hok f _ pf
    obtain ⟨⟨oc, vs, t, hoc, hdc, hvc⟩, _⟩ := e0.hok c' _ pc
    have lim : s1.heap.NoLimit := e0.mod.nolimit.keeps fun b o e => (e0.bs b o e).1
    refine PySem.W.kla_callFunE hr.depth of1 rfl L.co L.gen rfl ⟨c', oc, vs, t, rfl, hoc, hdc, hvc⟩ ?_
    rw [hbind]
    refine wpAny_pure (wpAny_newFunctionEnv (fun y hy => (L.own y hy).2) (fun y hy => absurd hy (by simp)) (fun h₁ hns hsb => ⟨lim.fresh _ hsb, ?_⟩) L.kind)
    show codeAny _ _ (.expr body (lamEnv X scope s1.heap.objs.size f c')) _ _
    have keep : ∀ b o, s1.heap.get? b = some o → h₁.get? b = some o := fun b o e => hsb.extBut b o (Nat.ne_of_lt (Heap.lt_size e)) (Heap.get?_push_of_some _ e)
    have J : Inv (lamCx X A outer s1 HZ E scope f c') [] σ HZ { s1 with heap := h₁, toks := s1.toks + ([] : List (Str × Value)).length } := lam_start2 I L e0 hr.hd un hns keep
    refine PySem.W.kla_codeExpr (wpAny_mono ((hbody A outer s1 HZ E (hr.deeper _)).run [] _ _ HZ Q J ht) (fun v s' hq => ?_) fun e s' hq => hq)
    obtain ⟨w', H', J', rv, q⟩ := hq
    exact ⟨w', H', J'.os, J'.bare, J'.base, J'.hok, rv, q⟩
end
section
variable {Z : Cx} {k : Nat} {fs : List Addr} {H0 : Hp} {h0 : Heap} {f : Addr} {pre : Hp → Prop} {t : XK → Hp → VK → Prop}
theorem pe_workL {i : Nat} {a : Str} {E : XK} {p1 p2 : Pos} (Wk : WorkL Z.prog Z.w Z.K Z.mg Z.base k fs H0 h0 f pre t) (S : Since Z fs H0 h0) (hx : Passes (L2.CX Z.prog Z.w) Z E) (hr : Room (k + 1) Z.A) (hN : Z.N[i]? = some a) (hv : Vis Z.env.scope a)
    (hd : (a == ("__debug__" : Str)) = false := by decide) (hcd : (a == ("__classdict__" : Str)) = false := by decide) :
    PE Z (.Call (.Name a p1) [] [] p2) (fun σ H Q => σ[i]? = some (some (.ref f)) ∧ pre H ∧ t E H Q) := by
  refine ⟨fun pins s σ H Q I h => ?_⟩
  obtain ⟨hs, hp, ht⟩ := h
  refine wpAny_Call_Name_kw (thn ((pe_var (pos := p1) (i := i) hN hv hd hcd).run pins s σ H (fun v H1 => v = .ref f ∧ H1 = H) I ⟨.ref f, hs, rfl, rfl⟩) fun u s1 ⟨v, H1, I1, r1, q1⟩ => ?_)
  obtain ⟨rfl, rfl⟩ := q1
  obtain rfl : u = Value.ref f := r1
  obtain ⟨_, _, _, _, _, _, _, _, ob⟩ := Wk.fn H1 s1.heap I1.hok hp
  refine PySem.W.callWith_F0 ⟨_, _, _, _, ob⟩ ?_
  refine wpAny_call (codeAny_mono (Wk.run Z.A Z.stack s1 H1 Q E hr I1.env0 (S.now I1) hp ht) fun r s' hq => ?_)
  match r, hq with
  | .error e, hq => exact hx pins σ H1 s1 e s' I1 hq
  | .ok (.ret u), hq => exact I1.after hq
  | .ok .next, hq => exact False.elim hq
  | .ok .brk, hq => exact False.elim hq
  | .ok .cont, hq => exact False.elim hq
end
/-- caught, of such a lambda -/
def spCaughtL (K : PySem.W.Frag) (CS : Addr) (f : Addr) (pre : Hp → Prop) (t : XK → Hp → VK → Prop) : Sp := fun vs H Q _ => vs = [.ref f] ∧ pre H ∧ TCaught K CS t H Q
theorem caught_workL {P : Program} {w : World} {K : PySem.W.Frag} {mg : Str → Option Value} {base : Heap} {fs : List Addr} {H0 : Hp} {h0 : Heap} {k : Nat} {f : Addr} {pre : Hp → Prop} {t : XK → Hp → VK → Prop} {g : Addr} {fd : FuncData} {x a e n m : Str} {st : Stmt} {CS : Addr} {j1 : Nat} {p1 p2 p3 p4 p5 p6 p7 p8 p9 pa pb pc pd pe : Pos}
    (Wk : WorkL P w K mg base k fs H0 h0 f pre t) (F : Fun K x x st g fd) (S : FnScope [a, m, n] [a] (defScope st))
    (hb : defBody st = [.Assign [.Name m p1] (.Constant .none j1 p2) p3,
       .Try [.Expr (.Call (.Name a p4) [] [] p5) p6] [.ExceptHandler (some (.Name e p7)) (some n) [.Assign [.Name m p8] (.Name n p9) pa] pb] [] [] pc,
       .Return (some (.Name m pd)) pe])
    (la : (defScope st).names.lookup a = some .local) (lm : (defScope st).names.lookup m = some .local) (ln : (defScope st).names.lookup n = some .local) (he : (defScope st).names.lookup e = some .globalImplicit) (hme : mg e = some (.ref CS)) (hde : (e == ("__debug__" : Str)) = false)
    (d0 : (a == ("__debug__" : Str)) = false) (d00 : (a == ("__classdict__" : Str)) = false) (d1 : (n == ("__debug__" : Str)) = false) (d2 : (n == ("__classdict__" : Str)) = false) (d3 : (m == ("__debug__" : Str)) = false) (d4 : (m == ("__classdict__" : Str)) = false) :
    FnW P w K mg base fs H0 h0 (L2.CX P w) (k + 2) g fd [a] (spCaughtL K CS f pre t) := by
  refine fnW_of F S (fun vs H Q E h => by rw [h.1]; rfl) (fun cdv A outer s H vs Q E hr _ Sn h => ?_)
  obtain ⟨rfl, hp, hT⟩ := h
  rw [hb]
  refine ⟨_, pss_cons (ps_set (i := 1) S.nd rfl (.inl lm) pe_non) (pss_cons (ps_try_keep (c := .ref CS) (i := 2) (j := 1)
      (tb := fun W D σ H => ∃ Eb : XK, (∀ cls d σ' H', Eb cls d H' → W cls d σ' H') ∧ σ[0]? = some (some (.ref f)) ∧ pre H ∧ t Eb H (fun _ H' => D.nx σ H'))
      rfl rfl rfl S.nd rfl rfl ln lm ⟨he, hde, .inl hme⟩ d1 d2 (fun W pn xe tk _ => ?_))
    (pss_one (ps_ret (pe_var (i := 1) rfl (.inl lm) d3 d4)))), ?_⟩
  · refine ⟨fun pins s' σ H' D I h' => ?_⟩
    obtain ⟨Eb, wish, h1, h2, h3⟩ := h'
    exact (pss_one (ps_expr (pe_workL (Z := (cxOf (L2.CX P w) P w K mg base [a, m, n] x (defScope st) g cdv A outer s H E).tr pn xe) (i := 0) Wk ⟨Sn.un, Sn.sub, Sn.ex⟩ (passes_call tk wish) hr rfl (.inl la) d0 d00))).run pins s' σ H' D I ⟨h1, h2, h3⟩
  · refine ⟨fun cls d H' => PySem.W.exmOne K cls (.ref CS) = some true ∧ ∀ b, H' b = none → Q (.ref b) (upd H' b (ExV cls d b)), fun cls d σ' H' ⟨e1, e2⟩ => ⟨e1, fun b hb hl => ?_⟩, rfl, hp, ?_⟩
    · match σ', hl with
      | [u, v, z], _ => exact ⟨_, rfl, e2 b hb⟩
    · exact hT _ fun v H' z => ⟨_, rfl, z⟩
/-- a lambda of a def, and what its body promises -/
structure LamD where
  params : Arguments
  body : Expr
  scope : Scope
  t : XK → TE
structure LamOk (X : Cx) (kb : Nat) (l : LamD) : Prop where
  L : LamS X.env.scope l.scope
  bind : ∀ (q : Str) (cl : List (Str × Addr)) (pm cv ctv : Value), bindArgs (PySem.W.kla_fn "<lambda>" q l.params l.body l.scope cl pm cv ctv) ⟨[], []⟩ = pure []
  run : ∀ (A : Around) (outer : List Env) (s : Shared) (H : Hp) (E : XK) (f c' : Addr), Room kb (A.deeper (lamEnv X l.scope s.heap.objs.size f c')) → PE (lamCx X A outer s H E l.scope f c') l.body (l.t E)
/-- x(work): work, a name of this def, stands for one of its lambdas -/
theorem pe_callL {X : Cx} {CX : CXT} {kb k i : Nat} {g : Addr} {fd : FuncData} {ps : List Str} {E : XK} {x a : Str} {p p' pos : Pos} {sp : Addr → (Hp → Prop) → (XK → Hp → VK → Prop) → Sp} (lams : List LamD) (ok : ∀ l ∈ lams, LamOk X kb l)
    (FW : ∀ (H0 : Hp) (h0 : Heap) (f : Addr) (pre : Hp → Prop) (t' : XK → Hp → VK → Prop), WorkL X.prog X.w X.K X.mg X.base kb (frs X.stack) H0 h0 f pre t' → FnW X.prog X.w X.K X.mg X.base (frs X.stack) H0 h0 CX k g fd ps (sp f pre t'))
    (hg : Gl X x) (hm : X.mg x = some (.ref g)) (hk : PySem.W.keepIn X.K (.ref g) = true) (hb : Binds X.K fd ps []) (hx : Passes CX X E) (hr : Room k X.A) (hgd : X.A.guards = some []) (hN : X.N[i]? = some a) (hv : Vis X.env.scope a)
    (hdb : (x == ("__debug__" : Str)) = false := by decide) (hd : (a == ("__debug__" : Str)) = false := by decide) (hcd : (a == ("__classdict__" : Str)) = false := by decide)
    (he : starEach [.Name a p'] X.env = (false, eval (.Name a p') X.env) :: starEach [] X.env := by rfl) (hpl : (backTo pos (starEach [] X.env)).any (·.1) = false := by rfl) :
    PE X (.Call (.Name x p) [.Name a p'] [] pos) (fun σ H Q => ∃ l ∈ lams, ∃ f c' : Addr, σ[i]? = some (some (.ref f)) ∧ H f = some (LamO X.env l.params l.body l.scope f c') ∧ H c' = some (CodeO c' (X.env.qual ++ "<lambda>")) ∧
      sp f (fun HZ => HZ f = some (LamO X.env l.params l.body l.scope f c') ∧ HZ c' = some (CodeO c' (X.env.qual ++ "<lambda>"))) (fun E H Q => l.t E σ H Q) [.ref f] H Q E) := by
  refine ⟨fun pins s σ H Q I h => ?_⟩
  obtain ⟨l, hl, f, c', hs, hf, hc, q⟩ := h
  have O := ok l hl
  refine wpAny_Call_Name_kw (ld_glob I hg hm ?_ hdb)
  refine PySem.W.callWith_K (h₀ := X.base) I.ok.mod.kin hk ?_ he hpl
  rw [he]
  refine Calls.spliced_cons (thn ((pe_var (pos := p') (i := i) hN hv hd hcd).run pins s σ H (fun v H1 => v = .ref f ∧ H1 = H) I ⟨.ref f, hs, rfl, rfl⟩) fun u s1 ⟨v, H1, I1, r1, q1⟩ => ?_)
  obtain ⟨rfl, rfl⟩ := q1
  obtain rfl : u = Value.ref f := r1
  refine Calls.spliced_nil ⟨I1.kIn, ?_⟩
  have Wk := work_ofL (tb := l.t) (f := f) (c' := c') I1 O.L O.bind (fun A outer s2 HZ E hr2 => O.run A outer s2 HZ E f c' hr2)
  have F := FW H1 s1.heap f _ _ Wk
  have hlen : [Value.ref f].length = ps.length := by
    have := F.len _ _ _ _ q
    exact this
  have bt := hb s1 [.ref f] I1.kIn (by simpa using hlen)
  rw [List.append_nil] at bt
  refine wpAny_call (codeAny_mono (F.run X.A X.stack s1 H1 ⟨[.ref f], []⟩ [.ref f] [.ref f] Q E hr hgd I1.env0 (Un.kept fun _ _ z => z) (fun b hb => .inl hb) bt (.cons rfl .nil) q) fun rr s3 hq => ?_)
  match rr, hq with
  | .error e, hq => exact hx pins σ H1 s1 e s3 I1 hq
  | .ok (.ret u), hq => exact I1.after hq
  | .ok .next, hq => exact False.elim hq
  | .ok .brk, hq => exact False.elim hq
  | .ok .cont, hq => exact False.elim hq
end KL
namespace K39
open PySem PySem.Spec PyProof.Rows L2 PySem.W LamX KA
def top (i : Nat) : Stmt := PySem.Challenge.pw_pricedreels_k39_frames_over_a_line.main.body.getD i (.Pass ⟨0, 0, 0, 0⟩)
abbrev s_is_number : Stmt := top 1
theorem sc_is_number : FnScope ["thing"] ["thing"] (defScope s_is_number) := ⟨rfl, rfl, rfl, by decide +kernel, rfl, by decide +kernel, by decide +kernel⟩
abbrev s_is_within : Stmt := top 2
theorem sc_is_within : FnScope ["thing", "low", "high"] ["thing", "low", "high"] (defScope s_is_within) := ⟨rfl, rfl, rfl, by decide +kernel, rfl, by decide +kernel, by decide +kernel⟩
abbrev s_is_tuple_of : Stmt := top 3
theorem sc_is_tuple_of : FnScope ["thing", "many"] ["thing", "many"] (defScope s_is_tuple_of) := ⟨rfl, rfl, rfl, by decide +kernel, rfl, by decide +kernel, by decide +kernel⟩
abbrev s_is_sending : Stmt := top 17
theorem sc_is_sending : FnScope ["sizes", "rate", "delay", "hold", "room", "thing", "last", "brought", "tick", "many", "least", "most"] ["sizes", "rate", "delay", "hold", "room", "thing"] (defScope s_is_sending) := ⟨rfl, rfl, rfl, by decide +kernel, rfl, by decide +kernel, by decide +kernel⟩
abbrev s_sending : Stmt := top 18
theorem sc_sending : FnScope ["sizes", "rate", "delay", "hold", "room"] ["sizes", "rate", "delay", "hold", "room"] (defScope s_sending) := ⟨rfl, rfl, rfl, by decide +kernel, rfl, by decide +kernel, by decide +kernel⟩
abbrev s_strait : Stmt := top 19
theorem sc_strait : FnScope ["sizes", "rate", "delay", "hold", "room", "last", "least", "most", "start", "end"] ["sizes", "rate", "delay", "hold", "room"] (defScope s_strait) := ⟨rfl, rfl, rfl, by decide +kernel, rfl, by decide +kernel, by decide +kernel⟩
abbrev s_is_strait : Stmt := top 20
theorem sc_is_strait : FnScope ["sizes", "rate", "delay", "hold", "room", "thing", "last", "start", "end", "least"] ["sizes", "rate", "delay", "hold", "room", "thing"] (defScope s_is_strait) := ⟨rfl, rfl, rfl, by decide +kernel, rfl, by decide +kernel, by decide +kernel⟩
abbrev s_check_sizes : Stmt := top 21
theorem sc_check_sizes : FnScope ["sizes"] ["sizes"] (defScope s_check_sizes) := ⟨rfl, rfl, rfl, by decide +kernel, rfl, by decide +kernel, by decide +kernel⟩
abbrev s_check_rate : Stmt := top 22
theorem sc_check_rate : FnScope ["rate"] ["rate"] (defScope s_check_rate) := ⟨rfl, rfl, rfl, by decide +kernel, rfl, by decide +kernel, by decide +kernel⟩
abbrev s_check_delay : Stmt := top 23
theorem sc_check_delay : FnScope ["delay", "most"] ["delay", "most"] (defScope s_check_delay) := ⟨rfl, rfl, rfl, by decide +kernel, rfl, by decide +kernel, by decide +kernel⟩
abbrev s_check_line : Stmt := top 24
theorem sc_check_line : FnScope ["sizes", "rate", "delay"] ["sizes", "rate", "delay"] (defScope s_check_line) := ⟨rfl, rfl, rfl, by decide +kernel, rfl, by decide +kernel, by decide +kernel⟩
abbrev s_check_hold : Stmt := top 25
theorem sc_check_hold : FnScope ["hold"] ["hold"] (defScope s_check_hold) := ⟨rfl, rfl, rfl, by decide +kernel, rfl, by decide +kernel, by decide +kernel⟩
abbrev s_check_room : Stmt := top 26
theorem sc_check_room : FnScope ["room"] ["room"] (defScope s_check_room) := ⟨rfl, rfl, rfl, by decide +kernel, rfl, by decide +kernel, by decide +kernel⟩
abbrev s_check_held : Stmt := top 27
theorem sc_check_held : FnScope ["hold", "room"] ["hold", "room"] (defScope s_check_held) := ⟨rfl, rfl, rfl, by decide +kernel, rfl, by decide +kernel, by decide +kernel⟩
abbrev s_are_sizes : Stmt := top 28
theorem sc_are_sizes : FnScope ["thing", "many", "size"] ["thing", "many"] (defScope s_are_sizes) := ⟨rfl, rfl, rfl, by decide +kernel, rfl, by decide +kernel, by decide +kernel⟩
abbrev s_are_ticks : Stmt := top 29
theorem sc_are_ticks : FnScope ["thing", "last"] ["thing", "last"] (defScope s_are_ticks) := ⟨rfl, rfl, rfl, by decide +kernel, rfl, by decide +kernel, by decide +kernel⟩
abbrev s_last_tick : Stmt := top 30
theorem sc_last_tick : FnScope ["sizes", "delay", "hold", "taken"] ["sizes", "delay", "hold"] (defScope s_last_tick) := ⟨rfl, rfl, rfl, by decide +kernel, rfl, by decide +kernel, by decide +kernel⟩
abbrev s_taken_by : Stmt := top 31
theorem sc_taken_by : FnScope ["sizes", "delay", "tick"] ["sizes", "delay", "tick"] (defScope s_taken_by) := ⟨rfl, rfl, rfl, by decide +kernel, rfl, by decide +kernel, by decide +kernel⟩
abbrev s_least_brought : Stmt := top 32
theorem sc_least_brought : FnScope ["sizes", "delay", "hold", "last", "found", "tick", "taken"] ["sizes", "delay", "hold", "last"] (defScope s_least_brought) := ⟨rfl, rfl, rfl, by decide +kernel, rfl, by decide +kernel, by decide +kernel⟩
abbrev s_most_brought : Stmt := top 33
theorem sc_most_brought : FnScope ["sizes", "delay", "hold", "room", "last", "found", "tick", "many"] ["sizes", "delay", "hold", "room", "last"] (defScope s_most_brought) := ⟨rfl, rfl, rfl, by decide +kernel, rfl, by decide +kernel, by decide +kernel⟩
abbrev s_sending_of : Stmt := top 34
theorem sc_sending_of : FnScope ["sizes", "rate", "delay", "hold", "room", "last", "brought", "most", "ahead", "many", "least"] ["sizes", "rate", "delay", "hold", "room"] (defScope s_sending_of) := ⟨rfl, rfl, rfl, by decide +kernel, rfl, by decide +kernel, by decide +kernel⟩
abbrev s_first_pair : Stmt := top 35
theorem sc_first_pair : FnScope ["last", "table", "start", "end"] ["last", "table"] (defScope s_first_pair) := ⟨rfl, rfl, rfl, by decide +kernel, rfl, by decide +kernel, by decide +kernel⟩
abbrev s__law_begun : Stmt := top 37
theorem sc__law_begun : FnScope ["_law_script", "_law_cells_here", "_law_large", "_law_cell"] ["_law_script"] (defScope s__law_begun) := ⟨rfl, rfl, rfl, by decide +kernel, rfl, by decide +kernel, by decide +kernel⟩
abbrev s__law_draw : Stmt := top 38
theorem sc__law_draw : FnScope ["_law_state", "_law_size_here", "_law_found", "_law_turn", "_law_cell", "_law_mixed"] ["_law_state", "_law_size_here"] (defScope s__law_draw) := ⟨rfl, rfl, rfl, by decide +kernel, rfl, by decide +kernel, by decide +kernel⟩
abbrev s__law_pick : Stmt := top 39
theorem sc__law_pick : FnScope ["_law_state", "_law_several"] ["_law_state", "_law_several"] (defScope s__law_pick) := ⟨rfl, rfl, rfl, by decide +kernel, rfl, by decide +kernel, by decide +kernel⟩
abbrev s__law_caught : Stmt := top 40
theorem sc__law_caught : FnScope ["_law_work", "_law_caught_here", "_law_error"] ["_law_work"] (defScope s__law_caught) := ⟨rfl, rfl, rfl, by decide +kernel, rfl, by decide +kernel, by decide +kernel⟩
abbrev s__law_is_whole : Stmt := top 41
theorem sc__law_is_whole : FnScope ["_law_item"] ["_law_item"] (defScope s__law_is_whole) := ⟨rfl, rfl, rfl, by decide +kernel, rfl, by decide +kernel, by decide +kernel⟩
abbrev s__law_sizes : Stmt := top 42
theorem sc__law_sizes : FnScope ["_law_state", "_law_most", "_law_wide", "_law_found", "_law_turn"] ["_law_state", "_law_most"] (defScope s__law_sizes) := ⟨rfl, rfl, rfl, by decide +kernel, rfl, by decide +kernel, by decide +kernel⟩
abbrev s__law_line : Stmt := top 43
theorem sc__law_line : FnScope ["_law_lots", "_law_wait_here", "_law_stock", "_law_space", "_law_last", "_law_found", "_law_tick", "_law_taken", "_law_ahead", "_law_come", "_law_must", "_law_can", "_law_spot", "_law_lot"] ["_law_lots", "_law_wait_here", "_law_stock", "_law_space"] (defScope s__law_line) := ⟨rfl, rfl, rfl, by decide +kernel, rfl, by decide +kernel, by decide +kernel⟩
abbrev s__law_first_strait : Stmt := top 44
theorem sc__law_first_strait : FnScope ["_law_line_here", "_law_pace", "_law_early", "_law_late"] ["_law_line_here", "_law_pace"] (defScope s__law_first_strait) := ⟨rfl, rfl, rfl, by decide +kernel, rfl, by decide +kernel, by decide +kernel⟩
abbrev s__law_greedy : Stmt := top 45
theorem sc__law_greedy : FnScope ["_law_line_here", "_law_pace", "_law_found", "_law_brought", "_law_tick", "_law_more"] ["_law_line_here", "_law_pace"] (defScope s__law_greedy) := ⟨rfl, rfl, rfl, by decide +kernel, rfl, by decide +kernel, by decide +kernel⟩
abbrev s__law_is_due : Stmt := top 46
theorem sc__law_is_due : FnScope ["_law_line_here", "_law_pace", "_law_item", "_law_brought", "_law_tick", "_law_pair", "_law_more"] ["_law_line_here", "_law_pace", "_law_item"] (defScope s__law_is_due) := ⟨rfl, rfl, rfl, by decide +kernel, rfl, by decide +kernel, by decide +kernel⟩
abbrev s__law_bent : Stmt := top 47
theorem sc__law_bent : FnScope ["_law_state", "_law_some", "_law_pace", "_law_found", "_law_spot", "_law_way", "_law_more"] ["_law_state", "_law_some", "_law_pace"] (defScope s__law_bent) := ⟨rfl, rfl, rfl, by decide +kernel, rfl, by decide +kernel, by decide +kernel⟩
abbrev s__law_sort : Stmt := top 48
theorem sc__law_sort : FnScope ["_law_error"] ["_law_error"] (defScope s__law_sort) := ⟨rfl, rfl, rfl, by decide +kernel, rfl, by decide +kernel, by decide +kernel⟩
abbrev s__law_refused : Stmt := top 49
theorem sc__law_refused : FnScope ["_law_state", "_law_five", "_law_bad", "_law_spot", "_law_due", "_law_some", "_law_work", "_law_turn"] ["_law_state", "_law_five"] (defScope s__law_refused) := ⟨rfl, rfl, rfl, by decide +kernel, rfl, by decide +kernel, by decide +kernel⟩
abbrev s_law : Stmt := top 50
theorem sc_law : FnScope ["_law_script", "_law_state", "_law_turn", "_law_lots", "_law_pace", "_law_wait_here", "_law_stock", "_law_space", "_law_five", "_law_line_here", "_law_due", "_law_gap", "_law_told", "_law_own", "_law_lap", "_law_item", "_law_found", "_law_drawn", "_law_some", "_law_pair", "_law_is_two", "_law_is_in", "_law_tick", "_law_one"] ["_law_script"] (defScope s_law) := ⟨rfl, rfl, rfl, by decide +kernel, rfl, by decide +kernel, by decide +kernel⟩
/-- what the top has written -/
structure Top (K : PySem.W.Frag) (mg : Str → Option Value) where
  reel : ReelT K mg
  BadDelay : ExcT K mg "BadDelay" reel.C
  BadHold : ExcT K mg "BadHold" reel.C
  BadRate : ExcT K mg "BadRate" reel.C
  BadRoom : ExcT K mg "BadRoom" reel.C
  BadSizes : ExcT K mg "BadSizes" reel.C
  is_number : DefT K mg "is_number" s_is_number
  is_within : DefT K mg "is_within" s_is_within
  is_tuple_of : DefT K mg "is_tuple_of" s_is_tuple_of
  is_sending : DefT K mg "is_sending" s_is_sending
  sending : DefT K mg "sending" s_sending
  strait : DefT K mg "strait" s_strait
  is_strait : DefT K mg "is_strait" s_is_strait
  check_sizes : DefT K mg "check_sizes" s_check_sizes
  check_rate : DefT K mg "check_rate" s_check_rate
  check_delay : DefT K mg "check_delay" s_check_delay
  check_line : DefT K mg "check_line" s_check_line
  check_hold : DefT K mg "check_hold" s_check_hold
  check_room : DefT K mg "check_room" s_check_room
  check_held : DefT K mg "check_held" s_check_held
  are_sizes : DefT K mg "are_sizes" s_are_sizes
  are_ticks : DefT K mg "are_ticks" s_are_ticks
  last_tick : DefT K mg "last_tick" s_last_tick
  taken_by : DefT K mg "taken_by" s_taken_by
  least_brought : DefT K mg "least_brought" s_least_brought
  most_brought : DefT K mg "most_brought" s_most_brought
  sending_of : DefT K mg "sending_of" s_sending_of
  first_pair : DefT K mg "first_pair" s_first_pair
  _law_begun : DefT K mg "_law_begun" s__law_begun
  _law_draw : DefT K mg "_law_draw" s__law_draw
  _law_pick : DefT K mg "_law_pick" s__law_pick
  _law_caught : DefT K mg "_law_caught" s__law_caught
  _law_is_whole : DefT K mg "_law_is_whole" s__law_is_whole
  _law_sizes : DefT K mg "_law_sizes" s__law_sizes
  _law_line : DefT K mg "_law_line" s__law_line
  _law_first_strait : DefT K mg "_law_first_strait" s__law_first_strait
  _law_greedy : DefT K mg "_law_greedy" s__law_greedy
  _law_is_due : DefT K mg "_law_is_due" s__law_is_due
  _law_bent : DefT K mg "_law_bent" s__law_bent
  _law_sort : DefT K mg "_law_sort" s__law_sort
  _law_refused : DefT K mg "_law_refused" s__law_refused
  law : DefT K mg "law" s_law
  cMOST_FRAMES : CstT mg "MOST_FRAMES" (12)
  cMOST_SIZE : CstT mg "MOST_SIZE" (9999)
  cMOST_RATE : CstT mg "MOST_RATE" (9999)
  cMOST_DELAY : CstT mg "MOST_DELAY" (40)
  cMOST_HELD : CstT mg "MOST_HELD" (99999)
  b_isinstance : mg "isinstance" = none
  b_int : mg "int" = none
  b_bool : mg "bool" = none
  b_len : mg "len" = none
  b_abs : mg "abs" = none
  b_range : mg "range" = none
  b_min : mg "min" = none
  b_max : mg "max" = none
  b_repr : mg "repr" = none
  b_list : mg "list" = none
  b_tuple : mg "tuple" = none
  b_sum : mg "sum" = none
  b_zip : mg "zip" = none
  b_all : mg "all" = none
  b_any : mg "any" = none
  b_enumerate : mg "enumerate" = none
  b_ValueError : mg "ValueError" = none
section
variable {K : PySem.W.Frag} {mg : Str → Option Value}
theorem bd_is_number (T : Top K mg) : Binds K T.is_number.d ["thing"] [] := T.is_number.f.binds fun _ _ _ _ _ _ us hl => match us, hl with | [_], _ => rfl
theorem bd_is_within (T : Top K mg) : Binds K T.is_within.d ["thing", "low", "high"] [] := T.is_within.f.binds fun _ _ _ _ _ _ us hl => match us, hl with | [_, _, _], _ => rfl
theorem bd_is_tuple_of (T : Top K mg) : Binds K T.is_tuple_of.d ["thing", "many"] [] := T.is_tuple_of.f.binds fun _ _ _ _ _ _ us hl => match us, hl with | [_, _], _ => rfl
theorem bd_is_sending (T : Top K mg) : Binds K T.is_sending.d ["sizes", "rate", "delay", "hold", "room", "thing"] [] := T.is_sending.f.binds fun _ _ _ _ _ _ us hl => match us, hl with | [_, _, _, _, _, _], _ => rfl
theorem bd_sending (T : Top K mg) : Binds K T.sending.d ["sizes", "rate", "delay", "hold", "room"] [] := T.sending.f.binds fun _ _ _ _ _ _ us hl => match us, hl with | [_, _, _, _, _], _ => rfl
theorem bd_strait (T : Top K mg) : Binds K T.strait.d ["sizes", "rate", "delay", "hold", "room"] [] := T.strait.f.binds fun _ _ _ _ _ _ us hl => match us, hl with | [_, _, _, _, _], _ => rfl
theorem bd_is_strait (T : Top K mg) : Binds K T.is_strait.d ["sizes", "rate", "delay", "hold", "room", "thing"] [] := T.is_strait.f.binds fun _ _ _ _ _ _ us hl => match us, hl with | [_, _, _, _, _, _], _ => rfl
theorem bd_check_sizes (T : Top K mg) : Binds K T.check_sizes.d ["sizes"] [] := T.check_sizes.f.binds fun _ _ _ _ _ _ us hl => match us, hl with | [_], _ => rfl
theorem bd_check_rate (T : Top K mg) : Binds K T.check_rate.d ["rate"] [] := T.check_rate.f.binds fun _ _ _ _ _ _ us hl => match us, hl with | [_], _ => rfl
theorem bd_check_delay (T : Top K mg) : Binds K T.check_delay.d ["delay", "most"] [] := T.check_delay.f.binds fun _ _ _ _ _ _ us hl => match us, hl with | [_, _], _ => rfl
theorem bd_check_line (T : Top K mg) : Binds K T.check_line.d ["sizes", "rate", "delay"] [] := T.check_line.f.binds fun _ _ _ _ _ _ us hl => match us, hl with | [_, _, _], _ => rfl
theorem bd_check_hold (T : Top K mg) : Binds K T.check_hold.d ["hold"] [] := T.check_hold.f.binds fun _ _ _ _ _ _ us hl => match us, hl with | [_], _ => rfl
theorem bd_check_room (T : Top K mg) : Binds K T.check_room.d ["room"] [] := T.check_room.f.binds fun _ _ _ _ _ _ us hl => match us, hl with | [_], _ => rfl
theorem bd_check_held (T : Top K mg) : Binds K T.check_held.d ["hold", "room"] [] := T.check_held.f.binds fun _ _ _ _ _ _ us hl => match us, hl with | [_, _], _ => rfl
theorem bd_are_sizes (T : Top K mg) : Binds K T.are_sizes.d ["thing", "many"] [] := T.are_sizes.f.binds fun _ _ _ _ _ _ us hl => match us, hl with | [_, _], _ => rfl
theorem bd_are_ticks (T : Top K mg) : Binds K T.are_ticks.d ["thing", "last"] [] := T.are_ticks.f.binds fun _ _ _ _ _ _ us hl => match us, hl with | [_, _], _ => rfl
theorem bd_last_tick (T : Top K mg) : Binds K T.last_tick.d ["sizes", "delay", "hold"] [] := T.last_tick.f.binds fun _ _ _ _ _ _ us hl => match us, hl with | [_, _, _], _ => rfl
theorem bd_taken_by (T : Top K mg) : Binds K T.taken_by.d ["sizes", "delay", "tick"] [] := T.taken_by.f.binds fun _ _ _ _ _ _ us hl => match us, hl with | [_, _, _], _ => rfl
theorem bd_least_brought (T : Top K mg) : Binds K T.least_brought.d ["sizes", "delay", "hold", "last"] [] := T.least_brought.f.binds fun _ _ _ _ _ _ us hl => match us, hl with | [_, _, _, _], _ => rfl
theorem bd_most_brought (T : Top K mg) : Binds K T.most_brought.d ["sizes", "delay", "hold", "room", "last"] [] := T.most_brought.f.binds fun _ _ _ _ _ _ us hl => match us, hl with | [_, _, _, _, _], _ => rfl
theorem bd_sending_of (T : Top K mg) : Binds K T.sending_of.d ["sizes", "rate", "delay", "hold", "room"] [] := T.sending_of.f.binds fun _ _ _ _ _ _ us hl => match us, hl with | [_, _, _, _, _], _ => rfl
theorem bd_first_pair (T : Top K mg) : Binds K T.first_pair.d ["last", "table"] [] := T.first_pair.f.binds fun _ _ _ _ _ _ us hl => match us, hl with | [_, _], _ => rfl
theorem bd__law_begun (T : Top K mg) : Binds K T._law_begun.d ["_law_script"] [] := T._law_begun.f.binds fun _ _ _ _ _ _ us hl => match us, hl with | [_], _ => rfl
theorem bd__law_draw (T : Top K mg) : Binds K T._law_draw.d ["_law_state", "_law_size_here"] [] := T._law_draw.f.binds fun _ _ _ _ _ _ us hl => match us, hl with | [_, _], _ => rfl
theorem bd__law_pick (T : Top K mg) : Binds K T._law_pick.d ["_law_state", "_law_several"] [] := T._law_pick.f.binds fun _ _ _ _ _ _ us hl => match us, hl with | [_, _], _ => rfl
theorem bd__law_caught (T : Top K mg) : Binds K T._law_caught.d ["_law_work"] [] := T._law_caught.f.binds fun _ _ _ _ _ _ us hl => match us, hl with | [_], _ => rfl
theorem bd__law_is_whole (T : Top K mg) : Binds K T._law_is_whole.d ["_law_item"] [] := T._law_is_whole.f.binds fun _ _ _ _ _ _ us hl => match us, hl with | [_], _ => rfl
theorem bd__law_sizes (T : Top K mg) : Binds K T._law_sizes.d ["_law_state", "_law_most"] [] := T._law_sizes.f.binds fun _ _ _ _ _ _ us hl => match us, hl with | [_, _], _ => rfl
theorem bd__law_line (T : Top K mg) : Binds K T._law_line.d ["_law_lots", "_law_wait_here", "_law_stock", "_law_space"] [] := T._law_line.f.binds fun _ _ _ _ _ _ us hl => match us, hl with | [_, _, _, _], _ => rfl
theorem bd__law_first_strait (T : Top K mg) : Binds K T._law_first_strait.d ["_law_line_here", "_law_pace"] [] := T._law_first_strait.f.binds fun _ _ _ _ _ _ us hl => match us, hl with | [_, _], _ => rfl
theorem bd__law_greedy (T : Top K mg) : Binds K T._law_greedy.d ["_law_line_here", "_law_pace"] [] := T._law_greedy.f.binds fun _ _ _ _ _ _ us hl => match us, hl with | [_, _], _ => rfl
theorem bd__law_is_due (T : Top K mg) : Binds K T._law_is_due.d ["_law_line_here", "_law_pace", "_law_item"] [] := T._law_is_due.f.binds fun _ _ _ _ _ _ us hl => match us, hl with | [_, _, _], _ => rfl
theorem bd__law_bent (T : Top K mg) : Binds K T._law_bent.d ["_law_state", "_law_some", "_law_pace"] [] := T._law_bent.f.binds fun _ _ _ _ _ _ us hl => match us, hl with | [_, _, _], _ => rfl
theorem bd__law_sort (T : Top K mg) : Binds K T._law_sort.d ["_law_error"] [] := T._law_sort.f.binds fun _ _ _ _ _ _ us hl => match us, hl with | [_], _ => rfl
theorem bd__law_refused (T : Top K mg) : Binds K T._law_refused.d ["_law_state", "_law_five"] [] := T._law_refused.f.binds fun _ _ _ _ _ _ us hl => match us, hl with | [_, _], _ => rfl
theorem bd_law (T : Top K mg) : Binds K T.law.d ["_law_script"] [] := T.law.f.binds fun _ _ _ _ _ _ us hl => match us, hl with | [_], _ => rfl
end
end K39
namespace KA
open PySem
/-! ### numbers in bits: the mathematics -/
/-- n in k bits, as codes -/
def bitsL : Nat → Nat → List Nat
  | 0, _ => []
  | k + 1, n => bitsL k (n / 2) ++ [48 + n % 2]
theorem bitsL_len : ∀ k n, (bitsL k n).length = k
  | 0, _ => rfl
  | k + 1, n => by simp [bitsL, bitsL_len k]
def binL (n : Nat) : List Nat := (Nat.toDigits 2 n).map Char.toNat
theorem binL_lt {n : Nat} (h : n < 2) : binL n = [48 + n] := by
  unfold binL
  rw [Nat.toDigits_of_lt_base h]
  have : n = 0 ∨ n = 1 := by omega
  rcases this with rfl | rfl <;> rfl
theorem binL_ge {n : Nat} (h : 2 ≤ n) : binL n = binL (n / 2) ++ [48 + n % 2] := by
  unfold binL
  rw [Nat.toDigits_of_base_le (by decide) h, List.map_append]
  have : n % 2 = 0 ∨ n % 2 = 1 := by omega
  rcases this with e | e <;> rw [e] <;> rfl
/-- the digits behind the first one -/
def tailL (n : Nat) : List Nat := (binL n).drop 1
theorem binL_ne (n : Nat) : binL n ≠ [] := by
  unfold binL
  intro h
  exact Nat.toDigits_ne_nil (List.map_eq_nil_iff.mp h)
theorem tailL_lt {n : Nat} (h : n < 2) : tailL n = [] := by
  unfold tailL
  rw [binL_lt h]
  rfl
theorem tailL_ge {n : Nat} (h : 2 ≤ n) : tailL n = tailL (n / 2) ++ [48 + n % 2] := by
  unfold tailL
  rw [binL_ge h, List.drop_append_of_le_length]
  have := List.length_pos_iff.mpr (binL_ne (n / 2))
  omega
theorem binL_head : ∀ (n : Nat), 1 ≤ n → binL n = 49 :: tailL n := by
  intro n
  induction n using Nat.strongRecOn with
  | _ n ih =>
    intro h
    by_cases h2 : n < 2
    · have : n = 1 := by omega
      subst this
      rfl
    · rw [tailL_ge (by omega), binL_ge (by omega), ih (n / 2) (by omega) (by omega)]
      rfl
theorem binL_le : ∀ (k n : Nat), 0 < k → n < 2 ^ k → (binL n).length ≤ k
  | 0, _, h, _ => by omega
  | k + 1, n, _, h => by
    by_cases h2 : n < 2
    · rw [binL_lt h2]
      simp
    · rw [binL_ge (by omega), List.length_append]
      have hk : 0 < k := by
        rcases Nat.eq_zero_or_pos k with e | e
        · subst e
          simp at h
          omega
        · exact e
      have := binL_le k (n / 2) hk (by rw [Nat.pow_succ] at h; omega)
      simp
      omega
theorem bitsL_bin : ∀ (k n : Nat), 0 < k → n < 2 ^ k → List.replicate (k - (binL n).length) 48 ++ binL n = bitsL k n
  | 0, _, h, _ => by omega
  | k + 1, n, _, h => by
    rw [bitsL]
    by_cases h2 : n < 2
    · rw [binL_lt h2]
      have e : n / 2 = 0 := by omega
      have e2 : n % 2 = n := by omega
      rw [e, e2]
      have z : ∀ j, bitsL j 0 = List.replicate j 48 := fun j => by
        induction j with
        | zero => rfl
        | succ j ih => rw [bitsL, Nat.zero_div, ih, List.replicate_succ']
      rw [z]
      simp
    · have hk : 0 < k := by
        rcases Nat.eq_zero_or_pos k with e | e
        · subst e
          simp at h
          omega
        · exact e
      have hd : n / 2 < 2 ^ k := by
        rw [Nat.pow_succ] at h
        omega
      rw [← bitsL_bin k (n / 2) hk hd, binL_ge (by omega), List.length_append]
      have e : k + 1 - ((binL (n / 2)).length + [48 + n % 2].length) = k - (binL (n / 2)).length := by simp
      rw [e, List.append_assoc]
theorem binText_eq (n : Nat) : binText n = ⟨(binL n).toArray⟩ := rfl
theorem binText_len (n : Nat) : (binText n).length = (binL n).length := by simp [binText, binL, Str.length]
/-- n in m bits, as a text -/
def twosT (m n : Nat) : Str := ⟨(bitsL m n).toArray⟩
theorem zfill_bin {m n : Nat} (hm : 0 < m) (h : n < 2 ^ m) : Txt.zfill (binText n) (m : Int) = twosT m n := by
  have hl := binL_le m n hm h
  have hb := bitsL_bin m n hm h
  unfold Txt.zfill
  rw [binText_len]
  by_cases e : (m : Int) ≤ ((binL n).length : Nat)
  · rw [if_pos e]
    have : m - (binL n).length = 0 := by omega
    rw [this] at hb
    simp only [List.replicate_zero, List.nil_append] at hb
    rw [binText_eq, hb]
    rfl
  · rw [if_neg e]
    have h0 : (binText n).cps[0]? = some 48 ∨ (binText n).cps[0]? = some 49 := by
      rw [binText_eq]
      rcases Nat.eq_zero_or_pos n with z | z
      · subst z
        exact .inl rfl
      · rw [binL_head n z]
        exact .inr rfl
    have e2 : zfilled (binText n) ((m : Int).toNat - (binL n).length) = Builtin.Str.padded (binText n) ((m : Int).toNat - (binL n).length) 0 48 := by
      unfold zfilled
      rcases h0 with z | z
      · rw [z]
        rfl
      · rw [z]
        rfl
    rw [e2]
    unfold Builtin.Str.padded twosT
    rw [← hb, binText_eq]
    congr 1
    apply Array.toList_inj.mp
    simp
/-- n ones -/
def onesT (n : Nat) : Str := ⟨(List.replicate n 49).toArray⟩
theorem onesT_len (n : Nat) : (onesT n).length = n := by simp [onesT, Str.length]
theorem fold_ones (n : Nat) : ∀ acc : Array Nat, (List.replicate n (#[49] : Array Nat)).foldl (· ++ ·) acc = acc ++ (List.replicate n 49).toArray := by
  induction n with
  | zero => intro acc; simp
  | succ n ih =>
    intro acc
    rw [List.replicate_succ, List.foldl_cons, ih, List.replicate_succ]
    apply Array.toList_inj.mp
    simp
theorem mul_ones (n : Nat) : Txt.mul "1" (n : Int) = onesT n := by
  unfold Txt.mul
  by_cases h : (n : Int) < 1
  · rw [if_pos h]
    have : n = 0 := by omega
    subst this
    rfl
  · rw [if_neg h]
    by_cases h1 : n = 1
    · subst h1
      rfl
    · rw [if_neg (by
        have e : ((n : Int) == 1) = false := by
          rw [beq_eq_false_iff_ne]
          omega
        rw [e]
        decide)]
      show (⟨(List.replicate (n : Int).toNat (#[49] : Array Nat)).foldl (· ++ ·) #[]⟩ : Str) = _
      rw [Int.toNat_natCast, fold_ones]
      unfold onesT
      congr 1
      apply Array.toList_inj.mp
      simp
end KA
namespace K39
open PySem PySem.Spec PyProof.Rows L2 PySem.W LamX KA
/-! ### the promises -/
/-- a value whose type isinstance can tell; whether it is a number -/
inductive Pl (K : PySem.W.Frag) (H : Hp) : V → Bool → Prop where
  | int (i : Int) : Pl K H (.int i) true
  | bl (b : Bool) : Pl K H (.bl b) false
  | str (s : Str) : Pl K H (.str s) false
  | non : Pl K H .non false
  | tup {a : Addr} {xs : List V} (e : H a = some (.tup xs)) : Pl K H (.ref a) false
  | lst {a : Addr} {xs : List V} (e : H a = some (.lst xs)) : Pl K H (.ref a) false
  | dK {a : Addr} {kvs : List (Key × V)} (e : H a = some (.dK kvs)) : Pl K H (.ref a) false
theorem Pl.ty {K : PySem.W.Frag} {H : Hp} {x : V} {b : Bool} (h : Pl K H x b) : ∃ t : String, TyX K H x (.type t) ∧ kitB t "int" = some (b || (t == "bool")) ∧ kitB t "bool" = some (t == "bool") ∧ ((b || (t == "bool")) && !(t == "bool")) = b := by
  cases h with
  | int i => exact ⟨"int", .base (.int i), by decide +kernel, by decide +kernel, by decide⟩
  | bl i => exact ⟨"bool", .base (.bl i), by decide +kernel, by decide +kernel, by decide⟩
  | str i => exact ⟨"str", .base (.str i), by decide +kernel, by decide +kernel, by decide⟩
  | non => exact ⟨"NoneType", .base .non, by decide +kernel, by decide +kernel, by decide⟩
  | tup e => exact ⟨"tuple", .base (.tup e), by decide +kernel, by decide +kernel, by decide⟩
  | lst e => exact ⟨"list", .base (.lst e), by decide +kernel, by decide +kernel, by decide⟩
  | dK e => exact ⟨"dict", .base (.dK e), by decide +kernel, by decide +kernel, by decide⟩
def within (x : V) (lo hi : Int) : Bool := match x with
  | .int i => decide (lo ≤ i) && decide (i ≤ hi)
  | _ => false
def spNumber (K : PySem.W.Frag) : Sp := fun vs H Q _ => ∃ x b, vs = [x] ∧ Pl K H x b ∧ Q (.bl b) H
def spWithin (K : PySem.W.Frag) : Sp := fun vs H Q _ => ∃ x b lo hi, vs = [x, .int lo, .int hi] ∧ Pl K H x b ∧ Q (.bl (within x lo hi)) H
section
variable {P : Program} {w : World} {K : PySem.W.Frag} {mg : Str → Option Value} {base : Heap} (T : Top K mg)
abbrev pInt {X : Cx} {pos : Pos} (hg : Gl X "int") (hm : X.mg "int" = none) : PE X (.Name "int" pos) (tC (.ty "int")) := pe_bltn hg hm PyProof.Rows.boot_int rfl
theorem q_bl {Q : VK} {H : Hp} {a b : Bool} (k : Q (.bl b) H) (e : a = b) : Q (.bl a) H := e ▸ k
theorem q_int {Q : VK} {H : Hp} {a b : Int} (k : Q (.int b) H) (e : a = b) : Q (.int a) H := e ▸ k
theorem q_str {Q : VK} {H : Hp} {a b : Str} (k : Q (.str b) H) (e : a = b) : Q (.str a) H := e ▸ k
theorem ok_is_number : FnOk P w K mg base (L2.CX P w) 1 T.is_number.a T.is_number.d ["thing"] (spNumber K) := by
  refine T.is_number.f.okX sc_is_number (fun vs H Q E h => ?_) (fun cdv A outer s H vs Q E hr h => ?_)
  · obtain ⟨x, b, rfl, _⟩ := h
    rfl
  · obtain ⟨x, b, rfl, hp, k⟩ := h
    refine ⟨_, pss_one (ps_ret (pe_and
      (pe_callB call_isi (by rfl) T.b_isinstance PyProof.Rows.boot_isinstance (pa_cons (pv 0) (pa_cons (pe_bltn (v := .ty "int") (by rfl) T.b_int PyProof.Rows.boot_int rfl) pa_nil)))
      (pe_one (pe_not (pe_callB call_isi (by rfl) T.b_isinstance PyProof.Rows.boot_isinstance (pa_cons (pv 0) (pa_cons (pe_bltn (v := .ty "bool") (by rfl) T.b_bool (by decide +kernel) rfl) pa_nil))))))), ?_⟩
    obtain ⟨t, ht, h1, h2, h3⟩ := hp.ty
    refine ⟨_, rfl, x, _, _, _, _, rfl, .ty "int", ht, kit_ty h1, _, rfl, ?_⟩
    cases e : (b || (t == "bool"))
    · rw [e] at h3
      refine iteF ?_
      exact q_bl k h3
    · rw [e] at h3
      refine iteT ?_
      refine ⟨_, rfl, x, _, _, _, _, rfl, .ty "bool", ht, kit_ty h2, _, rfl, ?_⟩
      exact q_bl k (by simpa using h3)
theorem ok_is_within : FnOk P w K mg base (L2.CX P w) 2 T.is_within.a T.is_within.d ["thing", "low", "high"] (spWithin K) := by
  refine T.is_within.f.okX sc_is_within (fun vs H Q E h => ?_) (fun cdv A outer s H vs Q E hr h => ?_)
  · obtain ⟨x, b, lo, hi, rfl, _⟩ := h
    rfl
  · obtain ⟨x, b, lo, hi, rfl, hp, k⟩ := h
    refine ⟨_, pss_one (ps_ret (pe_and (pe_call (ok_is_number T) hr (by rfl) T.is_number.m T.is_number.f.kp (bd_is_number T) .nil passE (pa_cons (pv 0) pa_nil))
      (pe_one (pe_chain op_le op_le (pv 1) (pv 0) (pv 2))))), ?_⟩
    refine ⟨_, rfl, x, b, rfl, hp, b, rfl, ?_⟩
    cases hp with
    | int i =>
      refine iteT ⟨_, rfl, _, rfl, lo, i, rfl, rfl, _, rfl, ?_⟩
      by_cases h1 : lo ≤ i
      · rw [decide_eq_true h1]
        refine iteT ⟨_, rfl, i, hi, rfl, rfl, ?_⟩
        exact q_bl k (by simp [within, h1])
      · rw [decide_eq_false h1]
        refine iteF ?_
        exact q_bl k (by simp [within, h1])
    | _ => exact iteF k
def foldI (i : Int) : Int := if i > 0 then 2 * i - 1 else -2 * i
def spFold : Sp := fun vs H Q _ => ∃ i : Int, vs = [.int i] ∧ Q (.int (foldI i)) H
def unfoldI (n : Int) : Int := if Builtin.bitAnd n 1 != 0 then (n + 1) / 2 else -(n / 2)
def spUnfold : Sp := fun vs H Q _ => ∃ i : Int, vs = [.int i] ∧ Q (.int (unfoldI i)) H
/-- n in m bits, as the program writes it -/
theorem padOk {m : Int} (h0 : 0 ≤ m) (h1 : m ≤ 100) : PadOk m = true := by
  unfold PadOk fitsSsize Builtin.Str.tooLong
  have e : sizeLine = 16777216 := rfl
  rw [e]
  simp
  omega
def inBits (n m : Int) : Str := if m = 0 then "" else Txt.zfill (binText n.natAbs) m
def spInBits : Sp := fun vs H Q _ => ∃ n m : Int, vs = [.int n, .int m] ∧ 0 ≤ n ∧ (binText n.natAbs).length ≤ 100 ∧ 0 ≤ m ∧ m ≤ 100 ∧ Q (.str (inBits n m)) H
def spIsTold (K : PySem.W.Frag) : Sp := fun vs H Q _ => ∃ x b, vs = [x] ∧ Pl K H x b ∧ Q (.bl (within x (-32767) 32767)) H
/-- a check: nothing, or an error of the class at C -/
def spCheck (K : PySem.W.Frag) (lo hi : Int) (C : Addr) : Sp := fun vs H Q E => ∃ x b, vs = [x] ∧ Pl K H x b ∧ (within x lo hi = true → Q .non H) ∧ (within x lo hi = false → E (.ref C) none H)
theorem iteNot {A B : Prop} {b : Bool} (h1 : b = false → A) (h2 : b = true → B) : if (!b) = true then A else B := by
  cases b
  · exact h1 rfl
  · exact h2 rfl
theorem passX {X : Cx} {E : XK} (hs : X.stack = X.env :: X.outer) (hf : X.env.frame = some X.env.locals) (hex : X.ex = []) (hx : X.xe = fun e s' => wpAny (model X.prog X.w) X.A (leaving X.env e) (fun _ s'' => L2.CX X.prog X.w X.outer X.H_0 X.s_0 E e s'') (fun e' s'' => L2.CX X.prog X.w X.outer X.H_0 X.s_0 E e' s'') s') :
    Passes (L2.CX X.prog X.w) X E := passes_call (takes_of hs hf hex hx) fun _ _ _ _ h => h
theorem within_int {x : V} {lo hi : Int} (h : within x lo hi = true) : ∃ i, x = .int i ∧ lo ≤ i ∧ i ≤ hi := by
  cases x with
  | int i =>
    simp only [within, Bool.and_eq_true, decide_eq_true_eq] at h
    exact ⟨i, rfl, h⟩
  | _ => cases h
def spFolded (K : PySem.W.Frag) (C : Addr) : Sp := fun vs H Q E => ∃ x b, vs = [x] ∧ Pl K H x b ∧ (∀ i, x = .int i → -32767 ≤ i → i ≤ 32767 → Q (.int (foldI i)) H) ∧ (within x (-32767) 32767 = false → E (.ref C) none H)
def spUnfolded (K : PySem.W.Frag) (C : Addr) : Sp := fun vs H Q E => ∃ x b, vs = [x] ∧ Pl K H x b ∧ (∀ i, x = .int i → 0 ≤ i → i ≤ 65534 → Q (.int (unfoldI i)) H) ∧ (within x 0 65534 = false → E (.ref C) none H)
end
end K39
namespace K39
open PySem PySem.Spec PyProof.Rows L2 PySem.W LamX KA
open Evl (pss_cut tCut)
def spDraw : Sp := fun vs H Q _ => ∃ (st lg cl : Addr) (n m : Nat), vs = [.ref st, .int n] ∧ 0 < n ∧ n < 2 ^ 100 ∧ m ≤ 1000000 ∧ StAt H st lg cl m ∧
  ∀ (r : Nat) (H' : Hp), r < n → StAt H' st lg cl (m + 1) → Kp st lg H H' → Q (.int r) H'
section
variable {P : Program} {w : World} {K : PySem.W.Frag} {mg : Str → Option Value} {base : Heap} (T : Top K mg)
theorem draw_div {n : Nat} (h0 : 0 < n) (h : n < 2 ^ 100) {i : Int} : CDivW i (n : Int) := wide_div (b := 100) (by omega) (by simpa using h) (by decide) (by decide)
theorem ok_draw : FnOk P w K mg base (L2.CX P w) 1 T._law_draw.a T._law_draw.d ["_law_state", "_law_size_here"] spDraw := by
  refine T._law_draw.f.okX sc__law_draw (fun vs H Q E h => ?_) (fun cdv A outer s H vs Q E hr h => ?_)
  · obtain ⟨st, lg, cl, n, m, rfl, _⟩ := h
    rfl
  · obtain ⟨st, lg, cl, n, m, rfl, hn, hn2, hm, ⟨large, cells, left, turn, S, ht⟩, k⟩ := h
    have hu := hu_of hr
    refine ⟨_, pss_cut (ps_while (passes_of rfl) (PW.pt (pw_and (pt_cmpR op_eq (pe_dget hu (pv 0) pe_str (fun _ _ => rfl)) pe_int (nomark _)) (pw_and1 (pt_cmpR (op_neD hr.units) (pe_dget hu (pv 0) pe_str (fun _ _ => rfl)) (pe_lst pa_nil) (nomark _)))))
        (pss_one (ps_dput hu (pv 0) pe_str (pe_bm PySem.F.plainAttrs_list PySem.F.slot_list_pop PySem.F.type_list_pop mt_popAt (pe_dget hu (pv 0) pe_str (fun _ _ => rfl)) (pa_cons pe_int pa_nil)) rfl)))
      (pss_cons (ps_if (pt_cmpR op_gt (pe_dget hu (pv 0) pe_str (fun _ _ => rfl)) pe_int (nomark _))
        (pss_cons (ps_set (i := 2) sc__law_draw.nd rfl (.inl rfl) (pe_op op_mod (pe_callTy call_int1 (by rfl) T.b_int PyProof.Rows.boot_int (pa_cons (pe_dget hu (pv 0) pe_str (fun _ _ => rfl)) pa_nil)) (pv 1)))
        (pss_cons (ps_dput hu (pv 0) pe_str (pe_op op_fdivW (pe_dget hu (pv 0) pe_str (fun _ _ => rfl)) (pv 1)) rfl)
        (pss_one (ps_ret (pv 2))))) pss_nil)
      (pss_cons (ps_set (i := 3) sc__law_draw.nd rfl (.inl rfl) (pe_op op_add (pe_dget hu (pv 0) pe_str (fun _ _ => rfl)) pe_int))
      (pss_cons (ps_dput hu (pv 0) pe_str (pv 3) rfl)
      (pss_cut (ps_set (i := 4) sc__law_draw.nd rfl (.inl rfl) (pe_ifExp (pt_cmpR (op_neD hr.units) (pe_dget hu (pv 0) pe_str (fun _ _ => rfl)) (pe_lst pa_nil) (nomark _))
        (pe_ix ix_list (pe_dget hu (pv 0) pe_str (fun _ _ => rfl)) (pe_op op_mod (pe_callTy call_int1 (by rfl) T.b_int PyProof.Rows.boot_int (pa_cons (pv 3) pa_nil)) (pe_callB call_len_seq (by rfl) T.b_len PySem.boot_len (pa_cons (pe_dget hu (pv 0) pe_str (fun _ _ => rfl)) pa_nil))) (fun _ _ => rfl))
        pe_int))
      (pss_cons (ps_set (i := 5) sc__law_draw.nd rfl (.inl rfl) (pe_op op_mod (pe_callTy call_int1 (by rfl) T.b_int PyProof.Rows.boot_int (pa_cons (pe_op op_pow (pe_op op_add (pe_op op_add (pe_op op_mod (pe_callTy call_int1 (by rfl) T.b_int PyProof.Rows.boot_int (pa_cons (pv 4) pa_nil)) pe_int) (pe_op op_mul pe_int (pv 3))) pe_int) pe_int) pa_nil)) pe_int))
      (pss_one (ps_ret (pe_op op_mod (pe_callTy call_int1 (by rfl) T.b_int PyProof.Rows.boot_int (pa_cons (pe_op op_fdiv (pe_op op_mod (pe_callTy call_int1 (by rfl) T.b_int PyProof.Rows.boot_int (pa_cons (pe_op op_pow (pe_op op_add (pv 5) (pe_op op_mul pe_int (pv 3))) pe_int) pa_nil)) pe_int) pe_int) pa_nil)) (pv 1))))))))), ?_⟩
    -- the while
    refine ⟨fun σ' H' => σ' = [some (.ref st), some (.int n), none, none, none, none] ∧ ∃ large' left', StD H' st lg cl large' cells left' turn ∧ Kp st lg H H', ?_, ?_⟩
    · refine ⟨fun μ σ' H' => σ' = [some (.ref st), some (.int n), none, none, none, none] ∧ ∃ large' left', large'.length = μ ∧ StD H' st lg cl large' cells left' turn ∧ Kp st lg H H',
        ⟨large.length, rfl, large, left, rfl, S, Kp.refl⟩, ?_⟩
      rintro μ σ' H1 ⟨rfl, large', left', hμ, S1, kp1⟩
      refine ⟨_, rfl, st, _, rfl, (show DGet H1 st (kV kLeft) _ from st_left ▸ DGet.k S1.d), rfl, _, rfl, ?_⟩
      by_cases c1 : left' = 0
      · subst c1
        refine iteT ⟨_, rfl, st, _, rfl, (show DGet H1 st (kV kLarge) _ from st_large ▸ DGet.k S1.d), by decide, fun p hp => ?_⟩
        have S2 := S1.same (Same.new (o := .lst []) hp)
        have kp2 := kp1.trans (Kp.same (Same.new (o := .lst []) hp))
        refine ⟨_, _, dp_int_list S2.l, dp_nil upd_same, shaped_is _, shaped_nil, _, rfl, ?_⟩
        rw [eqv_ints_nil]
        cases large' with
        | nil => exact iteF ⟨rfl, [], 0, S2, kp2⟩
        | cons x rest =>
          refine iteT ⟨fun σ' H' => σ' = [some (.ref st), some (.int n), none, none, none, none] ∧ ∃ large' left', large'.length = rest.length ∧ StD H' st lg cl large' cells left' turn ∧ Kp st lg H H',
            fun σ' H' ⟨e, l', lf, e2, r⟩ => ⟨rest.length, by rw [← hμ]; exact Nat.lt_succ_self _, e, l', lf, e2, r⟩, ?_⟩
          refine ⟨_, rfl, st, .ref lg, rfl, (show DGet _ st (kV kLarge) _ from st_large ▸ DGet.k S2.d), .inl ⟨rfl, _, SqL.of S2.l⟩, lg, _, 0, 0, .int x, rfl, rfl, S2.l, by decide, by decide, by simp [seqIndex?], rfl, ?_⟩
          have S3 : StD (upd (upd H1 p (.lst [])) lg (.lst (rest.map V.int))) st lg cl rest cells 0 turn :=
            { d := (upd_ne S2.st_lg).trans S2.d, l := upd_same, c := (upd_ne S2.ne.symm).trans S2.c, ne := S2.ne, pl := fun y hy => S2.pl y (List.mem_cons_of_mem _ hy), p0 := S2.p0 }
          have hx : 0 ≤ x := S2.pl x List.mem_cons_self
          refine ⟨_, rfl, st, _, rfl, (show DPut _ st (kV kLeft) _ _ from DPut.k S3.d (by show 4 < sizeLine; decide)), ?_⟩
          rw [st_put_left]
          exact ⟨rfl, rest, x, rfl, S3.put hx, (kp2.trans Kp.put2).trans Kp.put⟩
      · rw [show decide (V.int left' = V.int 0) = false from decide_eq_false fun z => c1 (V.int.inj z)]
        exact iteF ⟨rfl, large', left', S1, kp1⟩
    · rintro σ' H1 ⟨rfl, large', left', S1, kp1⟩
      refine ⟨_, rfl, st, _, rfl, (show DGet H1 st (kV kLeft) _ from st_left ▸ DGet.k S1.d), _, _, rfl, rfl, _, rfl, ?_⟩
      by_cases c1 : 0 < left'
      · rw [show decide ((0 : Int) < left') = true from decide_eq_true c1]
        refine iteT ⟨_, rfl, st, _, rfl, (show DGet H1 st (kV kLeft) _ from st_left ▸ DGet.k S1.d), .inl ⟨_, rfl, _, rfl, _, _, rfl, rfl, (by show (0 : Int) < (n : Int); omega), ?_⟩⟩
        refine ⟨_, rfl, st, _, rfl, (show DGet H1 st (kV kLeft) _ from st_left ▸ DGet.k S1.d), _, rfl, _, _, rfl, rfl, draw_div hn hn2, _, rfl, st, _, rfl, (show DPut _ st (kV kLeft) _ _ from DPut.k S1.d (by show 4 < sizeLine; decide)), ?_⟩
        rw [st_put_left]
        have hr0 := Int.emod_nonneg left' (show (n : Int) ≠ 0 by omega)
        have hr1 := Int.emod_lt_of_pos left' (show (0 : Int) < n by omega)
        have S3 := S1.put (t := turn) (l := left' / (n : Int)) (Int.ediv_nonneg (by omega) (by omega))
        exact ⟨_, rfl, q_int (k (left' % (n : Int)).toNat _ (by omega) ⟨_, _, _, _, S3, by omega⟩ (kp1.trans Kp.put)) (by omega)⟩
      · rw [show decide ((0 : Int) < left') = false from decide_eq_false c1]
        refine iteF ⟨_, rfl, st, _, rfl, (show DGet H1 st (kV kTurn) _ from st_turn ▸ DGet.k S1.d), _, _, rfl, rfl, _, rfl, _, rfl, st, _, rfl, (show DPut _ st (kV kTurn) _ _ from DPut.k S1.d (by show 4 < sizeLine; decide)), ?_⟩
        rw [st_put_turn]
        have S2 : StD (upd H1 st (.dK (stKv lg cl left' ((turn + 1 : Nat) : Int)))) st lg cl large' cells left' (turn + 1) := S1.put S1.p0
        have kp2 : Kp st lg H (upd H1 st (.dK (stKv lg cl left' ((turn + 1 : Nat) : Int)))) := kp1.trans Kp.put
        have e1 : ((turn : Int) + 1) = ((turn + 1 : Nat) : Int) := by omega
        rw [e1]
        generalize upd H1 st (.dK (stKv lg cl left' ((turn + 1 : Nat) : Int))) = H2 at S2 kp2 ⊢
        refine ⟨fun σ' H' => ∃ c : Int, σ' = [some (.ref st), some (.int n), none, some (.int ((turn + 1 : Nat) : Int)), some (.int c), none] ∧ StD H' st lg cl large' cells left' (turn + 1) ∧ Kp st lg H H', ?_, ?_⟩
        · refine ⟨_, rfl, st, .ref cl, rfl, (show DGet H2 st (kV kCells) _ from st_cells ▸ DGet.k S2.d), by decide, fun p hp => ?_⟩
          have S3 := S2.same (Same.new (o := .lst []) hp)
          have kp3 := kp2.trans (Kp.same (Same.new (o := .lst []) hp))
          refine ⟨_, _, dp_int_list S3.c, dp_nil upd_same, shaped_is _, shaped_nil, _, rfl, ?_⟩
          rw [eqv_ints_nil]
          generalize upd H2 p (.lst []) = H3 at S3 kp3 ⊢
          cases cells with
          | nil => exact iteF ⟨0, rfl, S3, kp3⟩
          | cons y ys =>
            refine iteT ⟨_, rfl, st, .ref cl, rfl, (show DGet H3 st (kV kCells) _ from st_cells ▸ DGet.k S3.d), _, rfl, .inl ⟨_, rfl, _, rfl, st, .ref cl, rfl, (show DGet H3 st (kV kCells) _ from st_cells ▸ DGet.k S3.d), cl, _, rfl, .inl (SqL.of S3.c), _, _, rfl, rfl, ?_, ?_⟩⟩
            · show (0 : Int) < ((((y :: ys).map V.int).length : Nat) : Int)
              simp
            · have hlen : ((y :: ys).map V.int).length = (y :: ys).length := List.length_map _
              have hz : (turn + 1) % (y :: ys).length < (y :: ys).length := Nat.mod_lt _ (by simp)
              obtain ⟨c, hc⟩ : ∃ c, (y :: ys)[(turn + 1) % (y :: ys).length]? = some c := ⟨_, List.getElem?_eq_getElem hz⟩
              refine ⟨cl, _, _, .int c, rfl, rfl, SqL.of S3.c, ?_, c, rfl, S3, kp3⟩
              rw [hlen, show (((turn : Int) + 1) % (((y :: ys).length : Nat) : Int)) = (((turn + 1) % (y :: ys).length : Nat) : Int) from rfl]
              exact atI_nat (by rw [List.getElem?_map, hc]; rfl)
        · rintro σ' H3 ⟨c, rfl, S3, kp3⟩
          have h1 := Int.emod_nonneg c (show (2147483563 : Int) ≠ 0 by decide)
          have h2 := Int.emod_lt_of_pos c (show (0 : Int) < 2147483563 by decide)
          refine ⟨_, rfl, .inl ⟨_, rfl, _, _, rfl, rfl, (by show (0 : Int) < 2147483563; decide), _, rfl, _, _, rfl, rfl, .inl ⟨by decide, by decide⟩, _, _, rfl, rfl, _, _, rfl, rfl, _, _, rfl, rfl, ⟨by decide, by decide, ?_⟩, .inl ⟨_, rfl, _, _, rfl, rfl, (by show (0 : Int) < 2147483629; decide), ?_⟩⟩⟩
          · generalize c % 2147483563 = c' at h1 h2 ⊢
            omega
          generalize (c % 2147483563 + 40692 * ((turn + 1 : Nat) : Int) + 24681) ^ (3 : Int).toNat = z
          have h3 := Int.emod_nonneg z (show (2147483629 : Int) ≠ 0 by decide)
          have h4 := Int.emod_lt_of_pos z (show (0 : Int) < 2147483629 by decide)
          dsimp only
          generalize z % 2147483629 = y at h3 h4 ⊢
          refine ⟨_, rfl, _, rfl, _, _, rfl, rfl, .inl ⟨by decide, by decide⟩, _, _, rfl, rfl, _, _, rfl, rfl, ⟨by decide, by decide, by omega⟩, .inl ⟨_, rfl, _, _, rfl, rfl, (by show (0 : Int) < 2147483579; decide), _, _, rfl, rfl, ⟨by decide, by decide⟩, .inl ⟨_, rfl, _, rfl, _, _, rfl, rfl, (by show (0 : Int) < (n : Int); omega), ?_⟩⟩⟩
          generalize (y + 104917 * ((turn + 1 : Nat) : Int)) ^ (5 : Int).toNat % 2147483579 / 29 = x
          have h5 := Int.emod_nonneg x (show (n : Int) ≠ 0 by omega)
          have h6 := Int.emod_lt_of_pos x (show (0 : Int) < n by omega)
          exact q_int (k (x % (n : Int)).toNat _ (by omega) ⟨_, _, _, _, S3, by omega⟩ kp3) (by omega)
end
end K39
namespace K39
open PySem PySem.Spec PyProof.Rows L2 PySem.W LamX KA
open Evl (pss_cut tCut)
def spPick : Sp := fun vs H Q _ => ∃ (st lg cl a : Addr) (xs : List V) (m : Nat), vs = [.ref st, .ref a] ∧ H a = some (.lst xs) ∧ a ≠ lg ∧ 0 < xs.length ∧ xs.length ≤ 1000 ∧ m ≤ 1000000 ∧ StAt H st lg cl m ∧
  ∀ (x : V) (H' : Hp), x ∈ xs → StAt H' st lg cl (m + 1) → Kp st lg H H' → Q x H'
section
variable {P : Program} {w : World} {K : PySem.W.Frag} {mg : Str → Option Value} {base : Heap} (T : Top K mg)
theorem ok_pick : FnOk P w K mg base (L2.CX P w) 2 T._law_pick.a T._law_pick.d ["_law_state", "_law_several"] spPick := by
  refine T._law_pick.f.okX sc__law_pick (fun vs H Q E h => ?_) (fun cdv A outer s H vs Q E hr h => ?_)
  · obtain ⟨st, lg, cl, a, xs, m, rfl, _⟩ := h
    rfl
  · obtain ⟨st, lg, cl, a, xs, m, rfl, ha, hal, h0, h1, hm, S, k⟩ := h
    have has : a ≠ st := by
      obtain ⟨_, _, _, _, S', _⟩ := S
      exact ne_of ha S'.d (by intro z; cases z)
    refine ⟨_, pss_one (ps_ret (pe_ix ix_list (pv 1) (pe_call (ok_draw T) hr (by rfl) T._law_draw.m T._law_draw.f.kp (bd__law_draw T) .nil passE (pa_cons (pv 0) (pa_cons (pe_callB call_len_seq (by rfl) T.b_len PySem.boot_len (pa_cons (pv 1) pa_nil)) pa_nil))) (fun _ _ => rfl))), ?_⟩
    refine ⟨_, rfl, _, rfl, _, rfl, a, xs, rfl, .inl (SqL.of ha), st, lg, cl, xs.length, m, rfl, h0, ?_, hm, S, fun r H' hr' S' kp => ?_⟩
    · exact Nat.lt_of_le_of_lt h1 (by decide)
    · obtain ⟨x, hx⟩ : ∃ x, xs[r]? = some x := ⟨_, List.getElem?_eq_getElem hr'⟩
      exact ⟨a, xs, _, x, rfl, rfl, SqL.of (kp a _ ha has hal), atI_nat hx, k x H' (List.mem_of_getElem? hx) S' kp⟩
def spBegun (K : PySem.W.Frag) : Sp := fun vs H Q _ => ∃ (a : Addr) (ns : List Int), vs = [.ref a] ∧ SqL K H a (ns.map V.int) ∧ ns.length ≤ 63 ∧
  ∀ (st lg cl : Addr) (H' : Hp), StAt H' st lg cl 0 → Same H H' → H st = none → H lg = none → Q (.ref st) H'
theorem ok_begun : FnOk P w K mg base (L2.CX P w) 1 T._law_begun.a T._law_begun.d ["_law_script"] (spBegun K) := by
  refine T._law_begun.f.okX sc__law_begun (fun vs H Q E h => ?_) (fun cdv A outer s H vs Q E hr h => ?_)
  · obtain ⟨a, ns, rfl, _⟩ := h
    rfl
  · obtain ⟨a, ns, rfl, hS, hl, k⟩ := h
    refine ⟨_, pss_cons (ps_setLc (i := 1) (own := [("_law_cell", 3)]) (g := gName 3) (tt := tYes) rfl sc__law_begun.nd rfl rfl (sw_true rfl rfl rfl (by decide +kernel)) (pi_list (pv 0)) (blkOk_by (own := [("_law_cell", 3)]) (N := ["_law_script", "_law_cells_here", "_law_large", "_law_cell"]) (sc := defScope s__law_begun) (by decide +kernel))
        (fun _ _ _ _ _ => pg_name (i := 3) sc__law_begun.nd rfl (Or.inl rfl)) (fun _ _ _ _ _ => pts_nil) (fun _ _ _ _ _ => pe_callB call_abs (by rfl) T.b_abs (by decide +kernel) (pa_cons (pv 3) pa_nil)))
      (pss_cons (ps_setLc (i := 2) (own := [("_law_cell", 3)]) (g := gName 3) rfl sc__law_begun.nd rfl rfl (sw_true rfl rfl rfl (by decide +kernel)) (pi_list (pv 1)) (blkOk_by (own := [("_law_cell", 3)]) (N := ["_law_script", "_law_cells_here", "_law_large", "_law_cell"]) (sc := defScope s__law_begun) (by decide +kernel))
        (fun _ _ _ _ _ => pg_name (i := 3) sc__law_begun.nd rfl (Or.inl rfl)) (fun _ _ _ _ _ => pts_one (pt_cmpR op_ge (pv 3) (pe_op op_pow pe_int pe_int) (nomark _))) (fun _ _ _ _ _ => pe_op op_sub (pv 3) (pe_op op_pow pe_int pe_int)))
      (pss_one (ps_ret (pe_disp (pps_cons pe_str (pv 2) (pps_cons pe_str (pv 1) (pps_cons pe_str pe_int (pps_cons pe_str pe_int pps_nil)))) (by rfl) (by rfl) (fun z => by cases z) (by decide))))), ?_⟩
    refine ⟨_, rfl, a, rfl, ⟨_, hS⟩, fun cl hcl => lc_list (K := K) (a := a) (xs := ns.map V.int) (fun i H' => H' cl = some (.lst ((ns.take i).map fun n => V.int (if n < 0 then -n else n))) ∧ Same H H') ⟨upd_same, Same.new hcl⟩ (fun i H' _ h => h.2.seq hS) ?_ ?_⟩
    · rintro i x H' hx ⟨h1, h2⟩
      obtain ⟨n, hn, rfl⟩ : ∃ n, ns[i]? = some n ∧ x = V.int n := by
        rw [List.getElem?_map] at hx
        cases e : ns[i]? with
        | none => rw [e] at hx; cases hx
        | some n => rw [e] at hx; exact ⟨n, rfl, (Option.some.inj hx).symm⟩
      refine ⟨rfl, ?_⟩
      dsimp only [tYes]
      rw [if_pos rfl]
      refine ⟨_, rfl, n, rfl, _, h1, ?_, ?_, ?_⟩
      · rw [List.length_map, List.length_take]
        exact Nat.lt_of_le_of_lt (Nat.min_le_right _ _) (Nat.lt_of_le_of_lt hl (by decide))
      · rw [upd_same, take_map_snoc _ _ _ _ hn]
      · intro b o e
        rw [upd_ne (ne_of_none e hcl)]
        exact h2 b o e
    rintro H1 ⟨h1, h2⟩
    rw [List.length_map, List.take_length] at h1
    have h1 : H1 cl = some (.lst ((ns.map fun n => if n < 0 then -n else n).map V.int)) := by rw [h1, List.map_map]; rfl
    have hlc : (ns.map fun n => if n < 0 then -n else n).length ≤ 63 := by rw [List.length_map]; exact hl
    generalize (ns.map fun n => if n < 0 then -n else n) = cells at h1 hlc
    refine ⟨_, rfl, cl, rfl, ⟨_, SqL.of h1⟩, fun lg hlg => lc_list (K := K) (a := cl) (xs := cells.map V.int) (fun i H' => H' lg = some (.lst ((((cells.take i).filter fun c => decide ((1000000000000000000 : Int) ≤ c)).map fun c => c - 1000000000000000000).map V.int)) ∧ Same H1 H') ⟨upd_same, Same.new hlg⟩ (fun i H' _ h => h.2.seq (SqL.of h1)) ?_ ?_⟩
    · rintro i x H' hx ⟨h3, h4⟩
      obtain ⟨n, hn, rfl⟩ : ∃ n, cells[i]? = some n ∧ x = V.int n := by
        rw [List.getElem?_map] at hx
        cases e : cells[i]? with
        | none => rw [e] at hx; cases hx
        | some n => rw [e] at hx; exact ⟨n, rfl, (Option.some.inj hx).symm⟩
      have et : cells.take (i + 1) = cells.take i ++ [n] := by rw [List.take_add_one, hn]; rfl
      refine ⟨rfl, _, rfl, _, _, rfl, rfl, ⟨by decide, by decide, by decide⟩, _, _, rfl, rfl, _, rfl, ?_⟩
      rw [show ((10 : Int) ^ (18 : Int).toNat) = 1000000000000000000 by decide, et, List.filter_append]
      by_cases c : (1000000000000000000 : Int) ≤ n
      · rw [show decide ((1000000000000000000 : Int) ≤ n) = true from decide_eq_true c]
        dsimp only
        rw [if_pos rfl]
        refine ⟨_, rfl, _, _, rfl, rfl, ⟨by decide, by decide, by decide⟩, _, _, rfl, rfl, _, h3, ?_, ?_, ?_⟩
        · rw [List.length_map, List.length_map]
          refine Nat.lt_of_le_of_lt (Nat.le_trans (List.length_filter_le _ _) ?_) (show 63 < sizeLine by decide)
          rw [List.length_take]
          omega
        · rw [upd_same]
          simp [c]
        · intro b o e
          rw [upd_ne (ne_of_none e hlg)]
          exact h4 b o e
      · rw [show decide ((1000000000000000000 : Int) ≤ n) = false from decide_eq_false c]
        dsimp only
        rw [if_neg Bool.false_ne_true]
        refine ⟨?_, h4⟩
        simpa [c] using h3
    rintro H2 ⟨h3, h4⟩
    intro st hst
    refine ⟨_, rfl, _, rfl, upd_same, stKv lg cl 0 0, rfl, (by show 4 ≤ 15; decide), ?_⟩
    rw [st_merge]
    have hne : cl ≠ lg := ne_of_none h1 hlg
    have h5 := h4 cl _ h1
    rw [List.length_map, List.take_length] at h3
    have hp : ∀ x ∈ (cells.filter fun c => decide ((1000000000000000000 : Int) ≤ c)).map (fun c => c - 1000000000000000000), 0 ≤ x := by
      intro x hx
      obtain ⟨c, hc, rfl⟩ := List.mem_map.mp hx
      have := (List.mem_filter.mp hc).2
      simp at this
      omega
    generalize (cells.filter fun c => decide ((1000000000000000000 : Int) ≤ c)).map (fun c => c - 1000000000000000000) = large at h3 hp
    have n1 : lg ≠ st := ne_of_none h3 hst
    have n2 : cl ≠ st := ne_of_none h5 hst
    have same : Same H (upd (upd H2 st (.dK [])) st (.dK (stKv lg cl 0 0))) := fun b o e => by
      have e2 := h4 b o (h2 b o e)
      rw [upd_upd, upd_ne (ne_of_none e2 hst)]
      exact e2
    refine k st lg cl _ ⟨large, cells, 0, 0, ⟨upd_same, ?_, ?_, hne.symm, hp, Int.le_refl _⟩, Nat.le_refl _⟩ same ((h2.trans h4).free hst) (h2.free hlg)
    · rw [upd_upd, upd_ne n1]
      exact h3
    · rw [upd_upd, upd_ne n2]
      exact h5
end
end K39
namespace KT
open PySem PySem.Spec PyProof.Rows L2 PySem.W LamX KA KW
/-! ### min(t), max(t) of a tuple of ints; t[::-1]; t * n, n from 1 on -/
theorem alike_ints (ns : List Int) : AlikeAll (ns.map PyData.int) := by
  refine ⟨fun x hx y hy => ?_, fun x hx => ?_⟩
  · obtain ⟨i, _, rfl⟩ := List.mem_map.mp hx
    obtain ⟨j, _, rfl⟩ := List.mem_map.mp hy
    simp [alike]
  · obtain ⟨i, _, rfl⟩ := List.mem_map.mp hx
    exact fun z => by cases z
theorem dp_ints {K : PySem.W.Frag} {H : Hp} : ∀ ns : List Int, DpAll K H (ns.map V.int) (ns.map PyData.int)
  | [] => .nil
  | i :: ns => .cons (.int i) (dp_ints ns)
theorem depth_ints : ∀ ns : List Int, PyData.depthAll (ns.map PyData.int) ≤ 1
  | [] => by simp [PyData.depthAll]
  | i :: ns => by
    have := depth_ints ns
    simp only [List.map_cons, PyData.depthAll, PyData.depth]
    omega
theorem reads_int {h : Heap} {v : Value} {i : Int} {as : List Addr} (r : Reads h v (.int i) as) : ∃ t, v = .int i t := by
  cases r
  exact ⟨_, rfl⟩
theorem foldl_min_mem (n : Int) : ∀ ns : List Int, ns.foldl min n ∈ n :: ns := by
  intro ns
  induction ns generalizing n with
  | nil => simp
  | cons k r ih =>
    rw [List.foldl_cons]
    rcases List.mem_cons.mp (ih (min n k)) with e | e
    · rw [e]
      rcases Int.le_total n k with h | h
      · rw [Int.min_eq_left h]; exact List.mem_cons_self
      · rw [Int.min_eq_right h]; exact List.mem_cons_of_mem _ List.mem_cons_self
    · exact List.mem_cons_of_mem _ (List.mem_cons_of_mem _ e)
theorem foldl_min_le (n : Int) : ∀ (ns : List Int) (y : Int), y ∈ n :: ns → ns.foldl min n ≤ y := by
  intro ns
  induction ns generalizing n with
  | nil => intro y hy; simp at hy; subst hy; exact Int.le_refl _
  | cons k r ih =>
    intro y hy
    rw [List.foldl_cons]
    have h0 := ih (min n k) (min n k) List.mem_cons_self
    rcases List.mem_cons.mp hy with e | e
    · subst e; omega
    · rcases List.mem_cons.mp e with e | e
      · subst e; omega
      · exact ih (min n k) y (List.mem_cons_of_mem _ e)
theorem foldl_max_mem (n : Int) : ∀ ns : List Int, ns.foldl max n ∈ n :: ns := by
  intro ns
  induction ns generalizing n with
  | nil => simp
  | cons k r ih =>
    rw [List.foldl_cons]
    rcases List.mem_cons.mp (ih (max n k)) with e | e
    · rw [e]
      rcases Int.le_total n k with h | h
      · rw [Int.max_eq_right h]; exact List.mem_cons_of_mem _ List.mem_cons_self
      · rw [Int.max_eq_left h]; exact List.mem_cons_self
    · exact List.mem_cons_of_mem _ (List.mem_cons_of_mem _ e)
theorem foldl_max_ge (n : Int) : ∀ (ns : List Int) (y : Int), y ∈ n :: ns → y ≤ ns.foldl max n := by
  intro ns
  induction ns generalizing n with
  | nil => intro y hy; simp at hy; subst hy; exact Int.le_refl _
  | cons k r ih =>
    intro y hy
    rw [List.foldl_cons]
    have h0 := ih (max n k) (max n k) List.mem_cons_self
    rcases List.mem_cons.mp hy with e | e
    · subst e; omega
    · rcases List.mem_cons.mp e with e | e
      · subst e; omega
      · exact ih (max n k) y (List.mem_cons_of_mem _ e)
def rMinT (K : PySem.W.Frag) : List V → Hp → VK → Prop := fun vs H Q => ∃ (a : Addr) (ns : List Int), vs = [V.ref a] ∧ SqT K H a (ns.map V.int) ∧ 0 < ns.length ∧ ∀ m, m ∈ ns → (∀ y, y ∈ ns → m ≤ y) → Q (.int m) H
def rMaxT (K : PySem.W.Frag) : List V → Hp → VK → Prop := fun vs H Q => ∃ (a : Addr) (ns : List Int), vs = [V.ref a] ∧ SqT K H a (ns.map V.int) ∧ 0 < ns.length ∧ ∀ m, m ∈ ns → (∀ y, y ∈ ns → y ≤ m) → Q (.int m) H
section
variable {X : Cx}
theorem cr_minT (hc : X.calm = true) (hu : X.A.units + 2 < cLine) : CallR X (.builtin "min") (rMinT X.K) := by
  intro pins s σ H vs us Q I r h
  obtain ⟨a, ns, rfl, hs, hne, q⟩ := h
  obtain ⟨its, rv, hl, _⟩ := I.tuple hs
  rw [Vals.ref1 r]
  cases ns with
  | nil => cases hne
  | cons n ns =>
    obtain ⟨as, hr⟩ := Dp.readsAll I _ _ its (dp_ints (n :: ns)) rv
    refine min_tuple_data (x := .int n) (xs := ns.map .int) (I.ok.hd hc) hl hr (alike_ints (n :: ns)) ?_ fun i v h' tk bs _ rd hk => ?_
    · have := depth_ints (n :: ns)
      rw [List.map_cons] at this
      omega
    · rw [minD_ints] at rd
      obtain ⟨t, rfl⟩ := reads_int rd
      exact ⟨.int _, H, I.kept hk, ⟨_, rfl⟩, q _ (foldl_min_mem n ns) (foldl_min_le n ns)⟩
theorem cr_maxT (hc : X.calm = true) (hu : X.A.units + 2 < cLine) : CallR X (.builtin "max") (rMaxT X.K) := by
  intro pins s σ H vs us Q I r h
  obtain ⟨a, ns, rfl, hs, hne, q⟩ := h
  obtain ⟨its, rv, hl, _⟩ := I.tuple hs
  rw [Vals.ref1 r]
  cases ns with
  | nil => cases hne
  | cons n ns =>
    obtain ⟨as, hr⟩ := Dp.readsAll I _ _ its (dp_ints (n :: ns)) rv
    refine max_tuple_data (x := .int n) (xs := ns.map .int) (I.ok.hd hc) hl hr (alike_ints (n :: ns)) ?_ fun i v h' tk bs _ rd hk => ?_
    · have := depth_ints (n :: ns)
      rw [List.map_cons] at this
      omega
    · rw [maxD_ints] at rd
      obtain ⟨t, rfl⟩ := reads_int rd
      exact ⟨.int _, H, I.kept hk, ⟨_, rfl⟩, q _ (foldl_max_mem n ns) (foldl_max_ge n ns)⟩
/-- one call name, either a list or a tuple -/
def rOrC (r r' : List V → Hp → VK → Prop) : List V → Hp → VK → Prop := fun vs H Q => r vs H Q ∨ r' vs H Q
theorem cr_or {f : Value} {r r' : List V → Hp → VK → Prop} (h : CallR X f r) (h' : CallR X f r') : CallR X f (rOrC r r') := fun pins s σ H vs us Q I rv q => q.elim (h pins s σ H vs us Q I rv) (h' pins s σ H vs us Q I rv)
end
section
variable {prog : Program} {w : World} {A : Around} {E : Value → Shared → Prop} {s : Shared}
theorem adjust_rev (n : Nat) : Builtin.Slice.sliceAdjust none none (-1) (n : Int) = ((n : Int) - 1, -1) := rfl
theorem places_rev (n : Nat) : Builtin.Slice.slicePlaces ((n : Int) - 1) (-1) (-1) = n := by
  unfold Builtin.Slice.slicePlaces
  have h1 : ¬ ((-1 : Int) > 0) := by omega
  have h2 : (- -1 : Int) = 1 := by decide
  simp only [h1, if_false, h2, Int.ediv_one]
  split <;> omega
theorem sliceApplied_rev {sl : Addr} {vl vu vs : Value} {n : Nat} {Q : Int × Int × Nat → Shared → Prop} (hs : s.heap.IsSliceOf sl vl vu vs) (pl : IsPart vl none) (pu : IsPart vu none) (ps : IsPart vs (some (-1)))
    (h : Q ((n : Int) - 1, -1, n) s) : wpAny (model prog w) A (Builtin.Slice.sliceApplied (.ref sl) (pure (n : Int))) Q E s := by
  obtain ⟨os, hos, hcs, hds⟩ := id hs
  unfold Builtin.Slice.sliceApplied Builtin.Slice.sliceFields
  refine wpAny_bind (wpAny_bind (wpAny_field hos hds (x := vl) rfl (wpAny_bind (wpAny_field hos hds (x := vu) rfl (wpAny_bind (wpAny_field hos hds (x := vs) rfl (wpAny_pure ?_)))))))
  refine wpAny_bind (HT.slicePart_ ps ?_)
  show wpAny _ _ (if ((-1 : Int) == 0) = true then _ else _) _ _ s
  rw [if_neg (by decide)]
  refine wpAny_bind (HT.slicePart_ pl (wpAny_bind (HT.slicePart_ pu (wpAny_bind (wpAny_pure ?_)))))
  show wpAny _ _ (match Builtin.Slice.sliceAdjust none none (-1) (n : Int) with | (lo, hi) => pure (lo, (-1 : Int), Builtin.Slice.slicePlaces lo hi (-1))) _ _ s
  rw [adjust_rev n]
  show wpAny _ _ (pure ((n : Int) - 1, (-1 : Int), Builtin.Slice.slicePlaces ((n : Int) - 1) (-1) (-1))) _ _ s
  rw [places_rev]
  exact wpAny_pure h
theorem fm_congr {α β : Type} {f g : α → Option β} : ∀ {l : List α}, (∀ x, x ∈ l → f x = g x) → l.filterMap f = l.filterMap g
  | [], _ => rfl
  | x :: l, h => by
    have ih := fm_congr (l := l) fun y hy => h y (List.mem_cons_of_mem _ hy)
    rw [List.filterMap_cons, List.filterMap_cons, h x List.mem_cons_self, ih]
theorem pick_rev (xs : Array Value) : ((List.range xs.size).filterMap fun (m : Nat) => xs[(((xs.size : Int) - 1) + (m : Int) * (-1)).toNat]?).toArray = xs.toList.reverse.toArray := by
  have h := krv_pick xs
  unfold slicePick at h
  rw [krv_bounds] at h
  rw [← h]
  show _ = ((sliceRange ((xs.size : Int) - 1) (-1) (-1)).filterMap (xs[·]?)).toArray
  rw [krv_sliceRange, List.filterMap_map]
  congr 1
  apply fm_congr
  intro m hm
  have := List.mem_range.mp hm
  have e : (((xs.size : Int) - 1) + (m : Int) * (-1)).toNat = xs.size - 1 - m := by omega
  show xs[(((xs.size : Int) - 1) + (m : Int) * (-1)).toNat]? = xs[xs.size - 1 - m]?
  rw [e]
theorem getItem_tuple_rev {t sl : Addr} {items : Array Value} {vl vu vs : Value} {Q : Value → Shared → Prop} (ht : IsTup s.heap t items) (hs : s.heap.IsSliceOf sl vl vu vs) (pl : IsPart vl none) (pu : IsPart vu none) (ps : IsPart vs (some (-1)))
    (h : Q (.ref s.heap.objs.size) { s with heap := s.heap.push { cls := .type "tuple", data := .seq items.toList.reverse.toArray } })
    (hsz : items.size ≤ sizeLine) : wpAny (model prog w) A (getItem (.ref t) (.ref sl)) Q E s := by
  have htake : sizeOk (.seq items.toList.reverse.toArray) := by
    show items.toList.reverse.toArray.size ≤ sizeLine
    rw [List.size_toArray, List.length_reverse, Array.length_toList]
    exact hsz
  obtain ⟨os, hos, hcs, hds⟩ := id hs
  have hTs : s.TypeIs (.ref sl) "slice" := ⟨os, hos, hcs⟩
  unfold getItem
  try with_reducible refine wpAny_holding ?_
  first | refine wpAny_bind (wpAny_pure ?_) | skip
  refine wpAny_bind (wpAny_sequenceKey ht.typeIs (by decide) ?_)
  refine wpAny_bind (wpAny_callSpecial?_slot (name := Str.ofString "__getitem__") ht.typeIs PyProof.Rows.slot_tuple_getitem
    (wpAny_call_entry PyProof.Rows.slot_tuple_getitem ht.typeIs entry_tuple_getitem ?_ (args_tuple_getitem _ _)))
  show wpAny _ _ (Builtin.Tuple.tupleItemsOf (.ref t) >>= _) _ _ s
  refine wpAny_bind (tupleItemsOf_ ht ?_)
  refine wpAny_bind (wpAny_typeOf hTs ?_)
  rw [if_pos (by decide)]
  refine wpAny_bind (sliceApplied_rev hs pl pu ps ?_)
  have hno : ¬ ((((items.size : Int) - 1) == 0 && (-1 : Int) == 1 && items.size == items.size) = true) := by
    intro q
    rw [Bool.and_eq_true, Bool.and_eq_true] at q
    exact absurd q.1.2 (by decide)
  show wpAny _ _ (if (((items.size : Int) - 1) == 0 && (-1 : Int) == 1 && items.size == items.size) = true then _ else _) _ _ s
  rw [if_neg hno, pick_rev]
  first
    | exact wpAny_bind (m := Builtin.Tuple.tupleExact _) (wpAny_newObj_type (wpAny_pure ⟨_, rfl, wpAny_pure h⟩) htake)
    | exact wpAny_bind (m := Builtin.Tuple.tupleExact _) (wpAny_newObj_type (wpAny_bind (wpAny_pure (wpAny_pure ⟨_, rfl, wpAny_pure h⟩))) htake)
    | exact wpAny_bind (wpAny_bind (m := Builtin.Tuple.tupleExact _) (wpAny_newObj_type (wpAny_pure (wpAny_pure ⟨_, rfl, wpAny_pure h⟩)) htake))
    | exact wpAny_bind (wpAny_bind (m := Builtin.Tuple.tupleExact _) (wpAny_newObj_type (wpAny_pure ⟨_, rfl, wpAny_pure h⟩) htake))
end
section
variable {X : Cx}
def tRevT (K : PySem.W.Frag) (te : TE) : TE := fun σ H Q => te σ H fun x H1 => ∃ a xs, x = .ref a ∧ SqT K H1 a xs ∧ ∀ p, H1 p = none → Q (.ref p) (upd H1 p (.tup xs.reverse))
theorem pe_revT {e : Expr} {te : TE} {k : Nat} {p1 p2 p3 pos : Pos} (he : PE X e te) : PE X (.Subscript e (.Slice none none (some (.UnaryOp .USub (.Constant (.int 1) k p1) p2)) p3) pos) (tRevT X.K te) := by
  refine ⟨fun pins s σ H Q I h => ?_⟩
  refine Subscript_ (thn (he.run pins s σ H _ I h) fun v s1 ⟨x, H1, I1, r1, q1⟩ => ?_)
  obtain ⟨a, xs, ex, hx, q⟩ := q1
  subst ex
  cases r1
  have hst : PO X (some (.UnaryOp .USub (.Constant (.int 1) k p1) p2)) (tPart (tUn (rU fun i => .int (-i)) (tC (.int 1)))) := po_some (pe_un un_neg pe_int)
  refine wpAny_Slice (thn (po_none.run pins s1 σ H1 (fun o H2 => o = none ∧ H2 = H1) I1 ⟨rfl, rfl⟩) fun vl s2 ⟨l, H2, I2, pl, el, e2⟩ => ?_)
  subst el e2
  refine thn (po_none.run pins s2 σ H2 (fun o H3 => o = none ∧ H3 = H2) I2 ⟨rfl, rfl⟩) fun vu s3 ⟨u, H3, I3, pu, eu, e3⟩ => ?_
  subst eu e3
  refine thn (hst.run pins s3 σ H3 (fun o H4 => o = some (-1) ∧ H4 = H3) I3 ⟨1, rfl, -1, rfl, rfl, rfl⟩) fun vs s4 ⟨o, H4, I4, ps, eo, e4⟩ => ?_
  subst eo e4
  have I5 : Inv X pins σ H4 { s4 with heap := s4.heap.push { cls := .type "slice", data := .fields #[vl, vu, vs] } } := I4.kept (t' := s4.toks) fun b ob q => Heap.get?_push_of_some _ q
  obtain ⟨its, r, ht, hz⟩ := I5.tuple hx
  have hlen := r.length
  show wpAny (model X.prog X.w) X.A (subscriptTail e (.Slice none none (some (.UnaryOp .USub (.Constant (.int 1) k p1) p2)) p3) (.ref a) (.ref s4.heap.objs.size)) (EP X pins σ Q) X.xe { s4 with heap := s4.heap.push { cls := .type "slice", data := .fields #[vl, vu, vs] } }
  refine tail_any (ops := [.ref a, .ref s4.heap.objs.size]) ht.typeIs (PyProof.Rows.slot_tuple_getitem.lookup) ?_ (by with_unfolding_all rfl)
  refine getItem_tuple_rev ht (Heap.IsSliceOf.new _ vl vu vs) pl pu ps ?_ (by rw [List.size_toArray]; omega)
  refine ⟨.ref _, _, I5.laid (t' := s4.toks) (o := .tup xs.reverse) (fun b ob q => Heap.get?_push_of_some _ q) (Nat.le_refl _) ?_, rfl, q _ (I5.hok.fresh (Nat.le_refl _))⟩
  exact ⟨by rw [List.length_reverse]; exact hz, _, r.reverse, IsTup.new _ _⟩
end
section
theorem tuple_mul_one (l : Addr) (items : Array Value) (n : Nat) (dd : Option Addr) (sl : Array (Option Value)) (u : Tok) :
    Meets (Builtin.«tuple.__mul__» ⟨[.ref l, .int 1 u], []⟩) (fun _ R s => s.heap.get? l = some { cls := .type "tuple", dict := dd, data := .seq items n, slots := sl } ∧ R (.ok (.ret (Value.ref l))) s) :=
  .of_wp fun prog w A R s h => by
    obtain ⟨hp, g, d, tk, os⟩ := s
    obtain ⟨hl, h⟩ := h
    have f1 := AutoSeq1.idx_int
    have c0 : (decide ((1 : Int) < -(2 ^ 63)) || decide ((1 : Int) ≥ 2 ^ 63)) = false := by decide
    have c1 : (items.isEmpty || (1 : Int) == 1) = true := by
      cases items.isEmpty <;> rfl
    wp_walk using wpAny_loadPart' hl
    repeat (first
      | (refine wpAny_ite_false (decide_eq_false (by rw [c0]; exact Bool.false_ne_true)) ?_; wp_walk using wpAny_loadPart' hl)
      | (refine wpAny_ite_true (decide_eq_true c1) ?_; wp_walk using wpAny_loadPart' hl))
    exact ⟨_, rfl, h⟩
/-- t * k, k from 1 on: of 1 it is t itself -/
def rRepA (K : PySem.W.Frag) : R2 := fun x y H Q => ∃ l k xs, x = .ref l ∧ y = .int k ∧ SqT K H l xs ∧ xs ≠ [] ∧ 1 ≤ k ∧ k ≤ 1000 ∧ xs.length ≤ 1000 ∧ (k = 1 → Q (.ref l) H) ∧ (2 ≤ k → ∀ p, H p = none → Q (.ref p) (upd H p (.tup (List.replicate k.toNat xs).flatten)))
variable {X : Cx}
theorem op_repA : OpR X (binaryOp .Mult) (rRepA X.K) := by
  intro pins s σ H x y v u Q I rx ry h
  obtain ⟨l, k, xs, rfl, rfl, hT, hne, h1, h2, hz, q1, q2⟩ := h
  by_cases hk : k = 1
  · subst hk
    cases rx
    obtain ⟨t, rfl⟩ := ry
    obtain ⟨its, r, ⟨⟨cls, dd, data, sl⟩, ho, hc, n, hd⟩, hs⟩ := I.tuple hT
    simp only at hc hd
    subst hc hd
    refine wpAny_binaryOp_repeat_ref (T := "tuple") (U := "int") (by decide) ⟨_, ho, rfl⟩ (fun s' => typeIs_int s' 1 t) noFill_tuple_mul F.fills_int_mul F.slot_int_rmul repeat_tuple F.slot_int_index.lookup
      (call_meets F.slot_int_rmul (typeIs_int s 1 t) F.entry_int_rmul (F.args_int_rmul_2 _ _) (int_rmul_tuple 1 t l its.toArray n dd sl)
        ⟨ho, rfl, ⟨_, ho, rfl⟩, call_meets F.slot_tuple_mul ⟨_, ho, rfl⟩ F.entry_tuple_mul (F.args_tuple_mul_2 _ _) (tuple_mul_one l its.toArray n dd sl t) ⟨ho, ?_⟩⟩)
    exact ⟨.ref l, H, I, rfl, q1 rfl⟩
  · exact op_repT pins s σ H _ _ v u Q I rx ry ⟨l, k, xs, rfl, rfl, hT, hne, by omega, h2, hz, q2 (by omega)⟩
end
end KT
namespace KY
open PySem PySem.Spec PyProof.Rows L2 PySem.W LamX KA KW
/-! ### x == y, x != y, where x is an instance whose class writes __eq__ and no __ne__ -/
section
variable {X : Cx} {CX : CXT} {n : Nat} {C f : Addr} {fd : FuncData} {ps : List Str} {sp : Sp} {E : XK}
theorem own_call {A : Around} {pins : List (Addr × Obj)} {σ : L2.St} {H : Hp} {s : Shared} {x y : V} {v u : Value} {R : Bool → Hp → Prop} (sb : L2.Sub X n A) (F : FnOk X.prog X.w X.K X.mg X.base CX n f fd ps sp) (hb : Binds X.K fd ps []) (hx : Passes CX X E)
    (I : Inv X pins σ H s) (rx : RelV x v) (ry : RelV y u) (hsp : sp [x, y] H (fun v H' => ∃ b, v = .bl b ∧ R b H') E) :
    wpAny (model X.prog X.w) A (call (.ref f) [v, u]) (fun r s' => ∃ b, r = .bool b ∧ ∃ H', Inv X pins σ H' s' ∧ R b H') X.xe s := by
  have e0 : Env0 X.prog X.w X.K X.mg X.base A X.stack s H := by
    have e := I.env0
    exact ⟨by rw [sb.fr]; exact e.frames, e.mod, e.bs, e.bsz, e.funs, e.frf, e.hok, e.bare⟩
  have hl := F.len _ _ _ _ hsp
  have r2 : L2.Vals [x, y] [v, u] := .cons rx (.cons ry .nil)
  refine wpAny_call (codeAny_mono (F.run A X.stack s H ⟨[v, u], []⟩ [v, u] [x, y] _ E sb.room e0 (by
    have := hb s [v, u] I.kIn (by simpa using hl)
    simpa using this) r2 hsp) fun r s' hq => ?_)
  cases r with
  | error e => exact hx pins σ H s e s' I hq
  | ok fl =>
    cases fl with
    | ret w =>
      obtain ⟨z, H', I', rz, b, ez, ex⟩ := I.after hq
      subst ez
      cases rz
      exact ⟨b, rfl, H', I', ex⟩
    | next => exact False.elim hq
    | brk => exact False.elim hq
    | cont => exact False.elim hq
def rEqI (K : PySem.W.Frag) (C : Addr) (sp : Sp) (E : XK) (g : Bool → Bool) : R2 := fun x y H Q => ∃ a dx fs tb, x = .ref a ∧ H a = some (.ins C dx fs) ∧ TyX K H y tb ∧ PySem.W.notFirst K C tb = true ∧ sp [x, y] H (fun v H' => ∃ b, v = .bl b ∧ Q (.bl (g b)) H') E
theorem op_eqI (F : FnOk X.prog X.w X.K X.mg X.base CX n f fd ps sp) (hr : Room n X.A) (hs : PySem.W.findIn X.K (.ref C) "__eq__" = some (some (.ref f))) (hf : PySem.W.isFn X.K (.ref f) = true) (hb : Binds X.K fd ps []) (hx : Passes CX X E) :
    OpR X (compareOp .Eq) (rEqI X.K C sp E fun b => b) := by
  intro pins s σ H x y v u Q I rx ry h
  obtain ⟨a, dx, fs, tb, rfl, ha, ty, nf, hsp⟩ := h
  cases rx
  obtain ⟨mA, J, _⟩ := ins_get I.hok ha
  obtain ⟨od, J, _⟩ := J.look
  obtain ⟨Pk, Z, pk, _⟩ := kit_of I ry ty
  obtain ⟨m, hF⟩ := I.fr
  show wpAny (model X.prog X.w) X.A (richCompare .Eq (.ref a) u) (EP X pins σ Q) X.xe s
  refine PySem.W.cmp_K (op := .Eq) hr.units0 hF I.ok.mod.kin J (Z.ty _ _ I.kIn pk) nf hs hf ?_
  refine wpAny_mono (own_call ⟨hr, rfl⟩ F hb hx I (x := .ref a) (show L2.RelV (.ref a) (.ref a) from rfl) ry hsp) (fun r s' hq => ?_) fun _ _ e => e
  obtain ⟨b, rfl, H', I', q⟩ := hq
  exact ⟨.bl b, H', I', rfl, q⟩
section
variable {M : Model} {prog : Program} {w : World} {A : Around} {E' : Value → Shared → Prop} {s : Shared} {K : PySem.W.Frag} {x : Addr} {ox : Obj} {od : Option Obj}
theorem ifBound_objNe {args : List Value} {Q : Option Value → Shared → Prop} (X : K.In s.heap) (I : PySem.W.InstAt s.heap x ox C od) (hs : PySem.W.findIn K (.ref C) "__ne__" = some (some (.builtin "object.__ne__")))
    (h : wpAny M A (call (.builtin "object.__ne__") (.ref x :: args)) (fun v => Q (some v)) E' s) : wpAny M A (callSpecialIfBound? (.ref x) "__ne__" args) Q E' s := by
  simp only [callSpecialIfBound?, bindSpecialIfBound?]
  refine wpAny_holding (wpAny_bind (wpAny_bind (wpAny_bind (I.type.here ((PySem.W.looks_findIn X hs).here ?_)))))
  refine wpAny_bind (wpAny_askSetting (wpAny_ite ?_))
  have fin : wpAny M A (call (.builtin "object.__ne__") ([.ref x] ++ args) >>= fun v => pure (some v)) Q E' s := wpAny_bind (wpAny_mono h (fun v s' h' => wpAny_pure h') fun _ _ h' => h')
  split
  · exact wpAny_bind (wpAny_of_eq (F.cmp_object.ne.bind _) (wpAny_pure (by exact fin)))
  · exact wpAny_tryCatch (wpAny_bind (wpAny_of_eq (F.cmp_object.ne.bind _) (wpAny_pure (by exact fin))))
theorem entry_ne {y : Value} {Q : Fin → Shared → Prop} (hu : A.units < cLine) (X : K.In s.heap) (I : PySem.W.InstAt s.heap x ox C od) (hs : PySem.W.findIn K (.ref C) "__eq__" = some (some (.ref f))) (hf : PySem.W.isFn K (.ref f) = true)
    (hcall : wpAny (model prog w) A (call (.ref f) [.ref x, y]) (fun v s' => ∃ b, v = .bool b ∧ Q (.done (.ret (.bool (!b)))) s') E' s) :
    wpAny (model prog w) A (Builtin.«object.__ne__» ⟨[.ref x, y], []⟩) Q E' s := by
  unfold Builtin.«object.__ne__»
  repeat (first
    | with_reducible refine wpAny_cRoomFor hu ?_
    | (refine wpAny_bind (m := callSpecialIfBound? (.ref x) (Str.ofString "__eq__") [y])
        (PySem.W.ifBound_K X I hs hf (wpAny_mono hcall (fun r s' hr => by
          obtain ⟨b, rfl, hq⟩ := hr
          repeat (first | exact hq | exact wpAny_pure hq | exact wpAny_truthy_bool hq | (refine wpAny_bind (m := truthy (.bool _)) (wpAny_truthy_bool ?_)) | wp_step)) fun _ _ e => e)))
    | wp_step)
theorem ne_K {L : Addr} {h₀ : Heap} {m : Str → Option Value} {b tb : Value} {Q : Value → Shared → Prop} (hu : A.units + 1 < cLine) (hF : Fr h₀ L s.heap m) (X₀ : K.In h₀) (I : PySem.W.InstAt s.heap x ox C od) (hb : PySem.W.Looks (model prog w) s.heap (typeOf b) tb) (hn : PySem.W.notFirst K C tb = true)
    (hne : PySem.W.findIn K (.ref C) "__ne__" = some (some (.builtin "object.__ne__"))) (hm : PySem.W.mroIn K C (.type "object") = some true) (hs : PySem.W.findIn K (.ref C) "__eq__" = some (some (.ref f))) (hf : PySem.W.isFn K (.ref f) = true)
    (h : wpAny (model prog w) A.in1 (call (.ref f) [.ref x, b]) (fun v s' => ∃ c, v = .bool c ∧ Q (.bool (!c)) s') E' s) : wpAny (model prog w) A (richCompare .NotEq (.ref x) b) Q E' s := by
  have X := X₀.keeps hF.keep
  have one : wpAny (model prog w) A (tryCompare (.ref x) "__ne__" b) (fun r s' => ∃ v, r = some v ∧ Q v s') E' s := by
    unfold tryCompare
    refine wpAny_bind (ifBound_objNe X I hne ?_)
    refine wpAny_call (codeAny_call_builtin F.cmp_object.ne.plain F.cmpEntry_ne (PySem.W.check_slot F.cmpKind_ne F.cmpSplit_ne (I.type.andThen (PySem.W.looks_mroIn X hm)) (F.cmpArgs_ne _ _) (entry_ne (A := A.in1) (by show A.units + 1 < cLine; exact hu) X I hs hf (wpAny_mono h (fun r s' hr => ?_) fun _ _ e => e))))
    obtain ⟨c, rfl, q⟩ := hr
    refine ⟨c, rfl, ?_⟩
    first
      | exact wpAny_pure ⟨_, rfl, q⟩
      | exact ⟨_, rfl, q⟩
  unfold richCompare
  simp only [oneThing_ref]
  refine wpAny_holding (wpAny_bind (wpAny_cRoomFor (by omega) ?_))
  refine wpAny_bind (I.type.here (wpAny_bind (hb.here ?_)))
  split
  · rename_i q
    have e : subIn K tb (.ref C) = some false := by
      rcases Bool.or_eq_true_iff.mp hn with e | e
      · rw [beq_iff_eq.mp e] at q; simp at q
      · exact beq_iff_eq.mp e
    refine wpAny_bind ((looks_subIn X e).here ?_)
    simp only [Bool.false_eq_true, if_false]
    refine wpAny_bind (wpAny_mono one (fun r s' z => ?_) fun _ _ e => e)
    obtain ⟨v, rfl, hq⟩ := z
    exact wpAny_pure hq
  · refine wpAny_bind (wpAny_pure ?_)
    simp only [Bool.false_eq_true, if_false]
    refine wpAny_bind (wpAny_mono one (fun r s' z => ?_) fun _ _ e => e)
    obtain ⟨v, rfl, hq⟩ := z
    exact wpAny_pure hq
end
theorem op_neI (F : FnOk X.prog X.w X.K X.mg X.base CX n f fd ps sp) (hr : Room (n + 1) X.A) (hs : PySem.W.findIn X.K (.ref C) "__eq__" = some (some (.ref f))) (hne : PySem.W.findIn X.K (.ref C) "__ne__" = some (some (.builtin "object.__ne__"))) (hm : PySem.W.mroIn X.K C (.type "object") = some true)
    (hf : PySem.W.isFn X.K (.ref f) = true) (hb : Binds X.K fd ps []) (hx : Passes CX X E) :
    OpR X (compareOp .NotEq) (rEqI X.K C sp E fun b => !b) := by
  intro pins s σ H x y v u Q I rx ry h
  obtain ⟨a, dx, fs, tb, rfl, ha, ty, nf, hsp⟩ := h
  cases rx
  obtain ⟨mA, J, _⟩ := ins_get I.hok ha
  obtain ⟨od, J, _⟩ := J.look
  obtain ⟨Pk, Z, pk, _⟩ := kit_of I ry ty
  obtain ⟨m, hF⟩ := I.fr
  show wpAny (model X.prog X.w) X.A (richCompare .NotEq (.ref a) u) (EP X pins σ Q) X.xe s
  have hu : X.A.units + 1 < cLine := by
    have := hr.units
    omega
  refine ne_K hu hF I.ok.mod.kin J (Z.ty _ _ I.kIn pk) nf hne hm hs hf ?_
  refine wpAny_mono (own_call (L2.Sub.in1 ⟨hr, rfl⟩) F hb hx I (x := .ref a) (show L2.RelV (.ref a) (.ref a) from rfl) ry hsp) (fun r s' hq => ?_) fun _ _ e => e
  obtain ⟨b, rfl, H', I', q⟩ := hq
  exact ⟨b, rfl, .bl (!b), H', I', rfl, q⟩
end
end KY
namespace KEN
open PySem PySem.Spec PyProof.Rows L2 PySem.W PySem.AutoSeq1 RZ
/-! ### enumerate(t), t a tuple: the iterator's two cells, a turn of it -/
abbrev enO (it : Addr) : Obj := { cls := .type "enumerate", data := .fields #[.none, .bool false, .ref it, rawInt 0, .none, .none] }
abbrev tiO (l : Addr) : Obj := { cls := .type "tuple_iterator", data := .fields #[.ref l, .int 0 0] }
/-- what enumerate makes of a tuple: its iterator, and the counter behind it -/
theorem made_enum (l : Addr) (its : Array Value) : Meets (Builtin.«enumerate.__new__» ⟨[.type "enumerate", .ref l], []⟩)
    fun _ R s => s.heap.IsTuple l its ∧ R (.ok (.ret (.ref (s.heap.push (tiO l)).objs.size))) { s with heap := (s.heap.push (tiO l)).push (enO s.heap.objs.size) } :=
  .of_wp fun P w A R ⟨hp, g, d, tk, os⟩ ⟨tl, fin⟩ => by
    have up := sub_enumerate
    have it {A' : Around} {E Q : Value → Shared → Prop} (q : Q (.ref hp.objs.size) ⟨hp.push (tiO l), g, d, tk, os⟩) : wpAny (model P w) A' (pyIter (.ref l)) Q E ⟨hp, g, d, tk, os⟩ := wpAny_pyIter_tuple (s := ⟨hp, g, d, tk, os⟩) tl q
    wp_walk using it
    refine wpAny_stack_any fun _ => wpAny_pure ?_
    split
    all_goals first
      | (rename_i cl _ _ _ _ _; cases (cl == Value.type "enumerate") <;> (wp_walk using it; exact ⟨_, rfl, fin⟩))
      | (wp_walk using it; exact ⟨_, rfl, fin⟩)
/-- the state of such an iterator ahead of item i -/
structure EnSt (a e it : Addr) (i : Nat) (h : Heap) : Prop where
  en : ∃ old, IsEnum h e it (i : Int) old
  ti : h.IsTupleIter it a i
  ne : e ≠ it
section
variable {a e it : Addr} {i : Nat} {h h' : Heap}
theorem two {b x y : Addr} (m : b ∈ [x, y]) : b = x ∨ b = y := by simpa using m
theorem EnSt.keep (s : EnSt a e it i h) (k : ∀ b ∈ [e, it], ∀ o, h.get? b = some o → h'.get? b = some o) : EnSt a e it i h' :=
  ⟨s.en.imp fun _ q => k e List.mem_cons_self _ q, s.ti.at fun o q => k it (List.mem_cons_of_mem _ List.mem_cons_self) o q, s.ne⟩
theorem EnSt.cell (s : EnSt a e it i h) {b : Addr} (m : b ∈ [e, it]) : b < h.objs.size ∧ ∃ o, h.get? b = some o ∧ ∀ v, o.data ≠ .cell v := by
  rcases two m with rfl | rfl
  · obtain ⟨_, q⟩ := s.en
    exact ⟨Heap.lt_size q, _, q, fun _ z => nomatch z⟩
  · obtain ⟨o, q, _, dq⟩ := s.ti
    exact ⟨Heap.lt_size q, o, q, fun _ z => by rw [dq] at z; cases z⟩
theorem EnSt.off (s : EnSt a e it i h) {its : Array Value} (t : h.IsTuple a its) : a ≠ it ∧ a ≠ e := by
  obtain ⟨o, q, cq, _⟩ := t
  constructor <;> rintro rfl
  · obtain ⟨o2, q2, cq2, _⟩ := s.ti
    rw [q] at q2
    cases q2
    exact absurd (Value.type.inj (cq.symm.trans cq2)) (by decide)
  · obtain ⟨_, q2⟩ := s.en
    have same := q.symm.trans q2
    cases same
    exact absurd (Value.type.inj cq.symm) (by decide)
end
theorem seqT {K : PySem.W.Frag} {H H' : Hp} {a : Addr} {xs : List V} (e : Same H H') (h : SqT K H a xs) : SqT K H' a xs := h.imp (fun q => q.imp (e _ _) fun ⟨o, z⟩ => ⟨o, e _ _ z⟩) id
/-- the tuple's items in draws -/
theorem drawn {P : Program} {w : World} {A : Around} {it l : Addr} {its : Array Value} (calm : A.handled = none) (ne : l ≠ it) : Draws P w A it [it, l] its.size (fun j v => its[j]? = some v) fun j h => h.IsTupleIter it l j ∧ h.IsTuple l its := by
  constructor
  · exact fun _ _ st => st.1.imp fun _ q => q.1
  · rintro j h h' ⟨st, o, q, r⟩ k
    exact ⟨st.at fun _ z => k it List.mem_cons_self _ z, o, k l (List.mem_cons_of_mem _ List.mem_cons_self) _ q, r⟩
  · intro j s Q E lt st k
    have here : its[j]? = some its[j] := Array.getElem?_eq_getElem lt
    exact nextOf_tuple_item st.1 st.2 here fun h' st' sb => k _ h' s.toks here ⟨st', st.2.extBut sb.extBut ne⟩ sb
  · exact fun s Q E st k => nextOf_tuple_end calm st.1 st.2 (Array.getElem?_eq_none (Nat.le_refl _)) k
/-- each item of the tuple at a in a new pair behind its place -/
def ItE (K : PySem.W.Frag) (a : Addr) : It where
  go i H := ∃ xs x, SqT K H a xs ∧ xs[i]? = some x
  yld i H v H' := ∃ t x, v = .ref t ∧ H t = none ∧ H' = upd H t (.tup [.int (i : Nat), x]) ∧ ∀ xs, SqT K H a xs → xs[i]? = some x
  stop i H := ∃ xs : List V, SqT K H a xs ∧ xs.length = i
theorem turn_en {P : Program} {w : World} {K : PySem.W.Frag} {elts : List Expr} {kk : Nat} {tpos : Pos} (a e it : Addr) : Turn P w K (.Tuple elts kk tpos) (ItE K a) [e, it] e (EnSt a e it) := by
  constructor
  · exact List.mem_cons_self
  · exact fun i h st b m => (st.cell m).2
  · exact fun i h h' st k => st.keep k
  · intro X eP ew eK calm i pins s σ H E I free st ⟨xs, x, sq, at_⟩
    subst eP ew eK
    obtain ⟨vs, vals, tup, _⟩ := I.tuple sq
    have tup : s.heap.IsTuple a vs.toArray := tup
    obtain ⟨u, uat, urel⟩ := vals.get at_
    obtain ⟨o1, o2⟩ := st.off tup
    obtain ⟨old, en⟩ := st.en
    have lt : i < vs.toArray.size := by simpa using (List.getElem?_eq_some_iff.mp uat).1
    refine wpAny_pyNext_enum_itemD (drawn (its := vs.toArray) (A := X.A.in1) (I.ok.hd calm) o1) en ⟨st.ti, tup⟩ lt st.ne (fun m => (two m).elim st.ne o2.symm) fun y h1 tk yat out ti1 pair size keep => ?_
    have same : y = u := Option.some.inj (yat.symm.trans (by simpa using uat))
    subst same
    refine ⟨_, rfl, wpAny_letOwnedTupleGo_enum (s := { s with heap := h1, toks := tk + 1 }) out fun h2 en2 sb => ?_⟩
    have le := (st.cell (b := e) List.mem_cons_self).1
    have pair2 : h2.get? s.heap.objs.size = some { cls := .type "tuple", data := .seq #[.int i tk, y] } := (sb.2 _ (Nat.ne_of_gt le)).trans pair
    have obj : ObjOk X.prog X.w (upd H s.heap.objs.size (.tup [.int (i : Nat), x])) h2 s.heap.objs.size (.tup [.int (i : Nat), x]) :=
      ⟨by show 2 ≤ sizeLine; decide, _, .cons ⟨tk, rfl⟩ (.cons urel .nil), ⟨_, pair2, rfl, _, rfl⟩⟩
    refine ⟨.ref s.heap.objs.size, _, I.turnedNew (t' := tk + 1) (fun b o off q => ?_) free (Nat.le_refl _) obj, rfl, ⟨_, x, rfl, I.hok.fresh (Nat.le_refl _), rfl, fun ys sy => ?_⟩, ⟨⟨y, ?_⟩, ti1.1.at fun o q => (sb.2 it st.ne.symm).trans q, st.ne⟩, fun b m => ?_⟩
    · have ne1 : b ≠ e := fun z => off (z ▸ List.mem_cons_self)
      exact (sb.2 b ne1).trans (keep b o ne1 (fun z => off (z ▸ List.mem_cons_of_mem _ List.mem_cons_self)) q)
    · rw [I.tuple_inj sy sq]
      exact at_
    · rw [Int.natCast_succ]
      exact en2
    · rw [upd_ne (Nat.ne_of_lt (st.cell m).1)]
      exact (free b m).1
  · intro X eP ew eK calm i pins s σ H E I free st ⟨xs, sq, all⟩
    subst eP ew eK all
    obtain ⟨vs, vals, tup, _⟩ := I.tuple sq
    obtain ⟨old, en⟩ := st.en
    have tup : s.heap.IsTuple a vs.toArray := tup
    have size : vs.toArray.size = xs.length := by rw [List.size_toArray, vals.length]
    have own := free it (List.mem_cons_of_mem _ List.mem_cons_self)
    refine wpAny_pyNext_enum_endD (drawn (its := vs.toArray) (A := X.A.in1) (I.ok.hd calm) (st.off tup).1) en (by rw [size]; exact ⟨st.ti, tup⟩) fun h1 but => ⟨rfl, ?_⟩
    exact I.turned (t' := s.toks) (fun b o off q => but b o off q) own.1 own.2.1 own.2.2.2.1 own.2.2.2.2.1 own.2.2.2.2.2
  · exact fun A i s Q E st k => st.en.elim fun _ q => wpAny_pyIter_enum q k
theorem walk_en {K : PySem.W.Frag} {a : Addr} {xs : List V} : Walk (ItE K a) xs.length (fun H => SqT K H a xs) (YPair (fun i => some (.int (i : Nat))) fun i => xs[i]?) := by
  refine ⟨fun i H lt sq => ⟨xs, _, sq, List.getElem?_eq_getElem lt⟩, fun H sq => ⟨xs, sq, rfl⟩, ?_⟩
  rintro i H v H' lt sq ⟨t, x, ev, ft, eH, k⟩
  exact ⟨t, _, x, ev, ft, eH, rfl, k xs sq⟩
section
variable {X : Cx}
theorem fresh_fp {pins : List (Addr × Obj)} {σ : L2.St} {H : Hp} {s : Shared} (I : Inv X pins σ H s) {bs : List Addr} (h : ∀ b ∈ bs, s.heap.objs.size ≤ b) : ∀ b ∈ bs, FpOk X pins H b := fun b m => I.fpOk (h b m) (I.hok.fresh (h b m))
/-- for i, x in enumerate(l), l a list or a tuple -/
def iEnumS (K : PySem.W.Frag) (ta : TA) : TI := fun σ H R => ta σ H fun vs H1 => ∃ a xs, vs = [.ref a] ∧ (SqL K H1 a xs ∨ SqT K H1 a xs) ∧ ∀ (J : It) (G : Hp → Prop), Walk J xs.length G (YPair (fun i => some (.int (i : Nat))) (fun i => xs[i]?)) → (∀ H', Same H1 H' → G H') → R J H1
theorem pi_enumS {e : Expr} {ta : TA} {p pos tpos : Pos} {elts : List Expr} {kk : Nat} (hg : Gl X "enumerate") (hm : X.mg "enumerate" = none) (ha : PA X [e] ta) (hs : starEach [e] X.env = [(false, eval e X.env)] := by rfl) :
    PI X (.Tuple elts kk tpos) (.Call (.Name "enumerate" p) [e] [] pos) (iEnumS X.K ta) := by
  constructor
  intro pins s σ H R I h
  have args := thn (ha.run pos pins s σ H _ I h) (Q' := fun us s1 => wpAny (model X.prog X.w) X.A (call (.type "enumerate") us) (fun v s2 => wpAny (model X.prog X.w) X.A (pyIter v) (PIE X pins σ (.Tuple elts kk tpos) R) X.xe s2) X.xe s1) ?_
  · exact Call_ (ld_blt I hg hm boot_enumerate (PyProof.Rows.callWith_type1 args hs rfl))
  rintro us s1 ⟨vs, H1, J1, rel, a, xs, rfl, sq, k⟩
  obtain ⟨u, rfl, ru⟩ := vals1 rel
  cases ru
  have fp := fresh_fp J1 (bs := [s1.heap.objs.size + 1, s1.heap.objs.size]) fun b m => (two m).elim (fun z => Nat.le_of_lt (Nat.lt_of_lt_of_eq (Nat.lt_succ_self _) z.symm)) fun z => Nat.le_of_eq z.symm
  rcases sq with sq | sq
  · obtain ⟨vs, vals, lst, _⟩ := J1.list sq
    refine call_enumerate_list lst.isList fun h' en li size keep => wpAny_pyIter_enum en ?_
    exact ⟨_, _, _, _, H1, rfl, J1.kept (t' := s1.toks) keep, turn_enum a _ _, ⟨⟨_, en⟩, li, Nat.succ_ne_self _⟩, fp, k _ _ walk_enum fun H' s' => s'.seq sq⟩
  · obtain ⟨vs, vals, tup, _⟩ := J1.tuple sq
    refine callType_new F.called_enumerate (by decide) (F.typeCall_enumerate_1 _) (F.newCall_enumerate_1 _) (fun o => F.args_object_init_2 o _) F.entry_enumerate_new (made_enum a vs.toArray) ⟨tup, ?_⟩
    have size : (s1.heap.push (tiO a)).objs.size = s1.heap.objs.size + 1 := Heap.size_push _ _
    have en : IsEnum ((s1.heap.push (tiO a)).push (enO s1.heap.objs.size)) (s1.heap.objs.size + 1) s1.heap.objs.size 0 .none := size ▸ Heap.get?_push_size (s1.heap.push (tiO a)) (o := enO s1.heap.objs.size) rfl
    rw [size]
    refine ⟨⟨_, en, rfl⟩, wpAny_pyIter_enum en ?_⟩
    have keep : ∀ b o, s1.heap.get? b = some o → ((s1.heap.push (tiO a)).push (enO s1.heap.objs.size)).get? b = some o := fun b o q => Heap.get?_push_of_some _ (Heap.get?_push_of_some _ q)
    exact ⟨_, _, _, _, H1, rfl, J1.kept (t' := s1.toks) keep, turn_en a _ _, ⟨⟨_, en⟩, ⟨_, Heap.get?_push_of_some _ (Heap.get?_push_size _ rfl), rfl, rfl⟩, Nat.succ_ne_self _⟩, fp, k _ _ walk_en fun H' s' => seqT s' sq⟩
/-! ### for x in l, l a list or a tuple -/
def iSeqS (K : PySem.W.Frag) (tl : TE) : TI := fun σ H R => tl σ H fun x H1 => ∃ a xs, x = .ref a ∧ (SqL K H1 a xs ∨ SqT K H1 a xs) ∧ ∀ (J : It) (G : Hp → Prop), Walk J xs.length G (YAt xs) → (∀ H', Same H1 H' → G H') → R J H1
theorem pi_seqS {tg l : Expr} {tl : TE} (hl : PE X l tl) : PI X tg l (iSeqS X.K tl) := by
  constructor
  intro pins s σ H R I h
  refine thn (hl.run pins s σ H _ I h) ?_
  rintro v s1 ⟨x, H1, J1, rel, a, xs, rfl, sq, k⟩
  cases rel
  have fp := fresh_fp J1 (bs := [s1.heap.objs.size]) fun b m => Nat.le_of_eq (List.mem_singleton.mp m).symm
  have keep (o : Obj) := J1.kept (t' := s1.toks) fun b u (q : s1.heap.get? b = some u) => Heap.get?_push_of_some o q
  rcases sq with sq | sq
  · obtain ⟨vs, vals, lst, _⟩ := J1.list sq
    exact wpAny_pyIter_list lst.isList ⟨_, _, _, _, H1, rfl, keep _, turn_list a _, ⟨_, Heap.get?_push_size _ rfl, rfl, rfl⟩, fp, k _ _ walk_list fun H' s' => s'.seq sq⟩
  · obtain ⟨vs, vals, tup, _⟩ := J1.tuple sq
    have tup : s1.heap.IsTuple a vs.toArray := tup
    exact wpAny_pyIter_tuple tup ⟨_, _, _, _, H1, rfl, keep _, turn_tuple a _, ⟨_, Heap.get?_push_size _ rfl, rfl, rfl⟩, fp, k _ _ walk_tup fun H' s' => seqT s' sq⟩
end
end KEN
namespace K39
/-! ### frames that lean on others: the mathematics -/
def subs : Nat → List (List Nat)
  | 0 => [[]]
  | n + 1 => subs n ++ (subs n).map (· ++ [n])
theorem mem_subs : ∀ (n : Nat) (s : List Nat), s ∈ subs n ↔ s.Pairwise (· < ·) ∧ ∀ x ∈ s, x < n
  | 0, s => by
    constructor
    · intro h
      rw [List.mem_singleton.mp h]
      exact ⟨.nil, fun x hx => nomatch hx⟩
    · rintro ⟨_, h⟩
      cases s with
      | nil => exact List.mem_singleton.mpr rfl
      | cons x s => exact absurd (h x List.mem_cons_self) (Nat.not_lt_zero _)
  | n + 1, s => by
    have ih := mem_subs n
    show s ∈ subs n ++ (subs n).map (· ++ [n]) ↔ _
    rw [List.mem_append, List.mem_map]
    constructor
    · rintro (h | ⟨t, ht, rfl⟩)
      · obtain ⟨a, b⟩ := (ih s).mp h
        exact ⟨a, fun x hx => Nat.lt_succ_of_lt (b x hx)⟩
      · obtain ⟨a, b⟩ := (ih t).mp ht
        refine ⟨List.pairwise_append.mpr ⟨a, List.pairwise_singleton _ _, fun x hx y hy => ?_⟩, fun x hx => ?_⟩
        · rw [List.mem_singleton.mp hy]
          exact b x hx
        · rcases List.mem_append.mp hx with h | h
          · exact Nat.lt_succ_of_lt (b x h)
          · rw [List.mem_singleton.mp h]
            exact Nat.lt_succ_self _
    · rintro ⟨a, b⟩
      rcases List.eq_nil_or_concat s with rfl | ⟨t, y, rfl⟩
      · exact .inl ((ih []).mpr ⟨.nil, fun x hx => nomatch hx⟩)
      · simp only [List.concat_eq_append] at a b ⊢
        obtain ⟨a1, _, a3⟩ := List.pairwise_append.mp a
        have lt : ∀ x ∈ t, x < y := fun x hx => a3 x hx y (List.mem_singleton.mpr rfl)
        have hy := b y (List.mem_append_right _ (List.mem_singleton.mpr rfl))
        by_cases e : y = n
        · subst e
          exact .inr ⟨t, (ih t).mpr ⟨a1, lt⟩, rfl⟩
        · refine .inl ((ih _).mpr ⟨a, fun x hx => ?_⟩)
          rcases List.mem_append.mp hx with h | h
          · have := lt x h
            omega
          · rw [List.mem_singleton.mp h]
            omega
/-- ascending lists of the same items are one -/
theorem asc_ext : ∀ (a b : List Nat), a.Pairwise (· < ·) → b.Pairwise (· < ·) → (∀ x, x ∈ a ↔ x ∈ b) → a = b
  | [], [], _, _, _ => rfl
  | [], y :: b, _, _, h => by have := (h y).mpr List.mem_cons_self; cases this
  | x :: a, [], _, _, h => by have := (h x).mp List.mem_cons_self; cases this
  | x :: a, y :: b, ha, hb, h => by
    obtain ⟨a1, a2⟩ := List.pairwise_cons.mp ha
    obtain ⟨b1, b2⟩ := List.pairwise_cons.mp hb
    have e : x = y := by
      rcases List.mem_cons.mp ((h x).mp List.mem_cons_self) with z | z
      · exact z
      · rcases List.mem_cons.mp ((h y).mpr List.mem_cons_self) with z2 | z2
        · exact z2.symm
        · have := a1 y z2
          have := b1 x z
          omega
    subst e
    rw [asc_ext a b a2 b2 fun z => ?_]
    constructor
    · intro hz
      rcases List.mem_cons.mp ((h z).mp (List.mem_cons_of_mem _ hz)) with e | e
      · subst e
        exact absurd (a1 z hz) (Nat.lt_irrefl _)
      · exact e
    · intro hz
      rcases List.mem_cons.mp ((h z).mpr (List.mem_cons_of_mem _ hz)) with e | e
      · subst e
        exact absurd (b1 z hz) (Nat.lt_irrefl _)
      · exact e
theorem range_asc : ∀ n : Nat, (List.range n).Pairwise (· < ·) := fun n => List.pairwise_lt_range
theorem filter_asc (n : Nat) (p : Nat → Bool) : ((List.range n).filter p).Pairwise (· < ·) := (range_asc n).filter _
theorem filter_subs (n : Nat) (p : Nat → Bool) : (List.range n).filter p ∈ subs n :=
  (mem_subs n _).mpr ⟨filter_asc n p, fun x hx => List.mem_range.mp (List.mem_filter.mp hx).1⟩
theorem asc_filter {n : Nat} {s : List Nat} (h : s ∈ subs n) : s = (List.range n).filter fun x => decide (x ∈ s) := by
  obtain ⟨a, b⟩ := (mem_subs n s).mp h
  refine asc_ext _ _ a (filter_asc _ _) fun x => ?_
  rw [List.mem_filter, List.mem_range, decide_eq_true_eq]
  exact ⟨fun hx => ⟨b x hx, hx⟩, fun h => h.2⟩
/-! ### gains -/
def gat (g : List Int) (i : Nat) : Int := g.getD i 0
def gain (g : List Int) (s : List Nat) : Int := (s.map (gat g)).sum
def wsum (g : List Int) (p : Nat → Bool) : Nat → Int
  | 0 => 0
  | n + 1 => wsum g p n + if p n then gat g n else 0
theorem gain_filter (g : List Int) (p : Nat → Bool) : ∀ n, gain g ((List.range n).filter p) = wsum g p n
  | 0 => rfl
  | n + 1 => by
    have ih := gain_filter g p n
    unfold gain at ih ⊢
    rw [List.range_succ, List.filter_append, List.map_append, List.sum_append, ih]
    show _ = wsum g p n + _
    cases h : p n
    · simp [h]
    · simp [h]
theorem wsum_mod (g : List Int) (p q : Nat → Bool) : ∀ n, wsum g (fun x => p x && q x) n + wsum g (fun x => p x || q x) n = wsum g p n + wsum g q n
  | 0 => rfl
  | n + 1 => by
    have ih := wsum_mod g p q n
    simp only [wsum]
    generalize wsum g (fun x => p x && q x) n = z1 at ih ⊢
    generalize wsum g (fun x => p x || q x) n = z2 at ih ⊢
    generalize wsum g p n = z3 at ih ⊢
    generalize wsum g q n = z4 at ih ⊢
    have h : ∀ (x y : Bool) (v : Int), (if (x && y) = true then v else 0) + (if (x || y) = true then v else 0) = (if x = true then v else 0) + (if y = true then v else 0) := fun x y v => by
      cases x <;> cases y <;> simp
    have := h (p n) (q n) (gat g n)
    omega
theorem wsum_congr (g g' : List Int) (p q : Nat → Bool) : ∀ n, (∀ i, i < n → gat g i = gat g' i) → (∀ i, i < n → p i = q i) → wsum g p n = wsum g' q n
  | 0, _, _ => rfl
  | n + 1, h1, h2 => by
    simp only [wsum]
    rw [wsum_congr g g' p q n (fun i hi => h1 i (Nat.lt_succ_of_lt hi)) (fun i hi => h2 i (Nat.lt_succ_of_lt hi)), h1 n (Nat.lt_succ_self _), h2 n (Nat.lt_succ_self _)]
def row (rows : List (List Nat)) (f : Nat) : List Nat := rows.getD f []
def inB (s : List Nat) (x : Nat) : Bool := decide (x ∈ s)
def wholeB (rows : List (List Nat)) (s : List Nat) : Bool := s.all fun f => (row rows f).all (inB s)
theorem wholeB_iff {rows : List (List Nat)} {s : List Nat} : wholeB rows s = true ↔ ∀ f ∈ s, ∀ x ∈ row rows f, x ∈ s := by
  unfold wholeB inB
  simp only [List.all_eq_true, decide_eq_true_eq]
def wholes (rows : List (List Nat)) : List (List Nat) := (subs rows.length).filter (wholeB rows)
theorem mem_wholes {rows : List (List Nat)} {s : List Nat} : s ∈ wholes rows ↔ (s.Pairwise (· < ·) ∧ ∀ x ∈ s, x < rows.length) ∧ ∀ f ∈ s, ∀ x ∈ row rows f, x ∈ s := by
  unfold wholes
  rw [List.mem_filter, mem_subs, wholeB_iff]
def cap (n : Nat) (a b : List Nat) : List Nat := (List.range n).filter fun x => inB a x && inB b x
def cup (n : Nat) (a b : List Nat) : List Nat := (List.range n).filter fun x => inB a x || inB b x
theorem mem_cap {n : Nat} {a b : List Nat} {x : Nat} : x ∈ cap n a b ↔ x < n ∧ x ∈ a ∧ x ∈ b := by
  unfold cap inB
  simp [List.mem_filter]
theorem mem_cup {n : Nat} {a b : List Nat} {x : Nat} : x ∈ cup n a b ↔ x < n ∧ (x ∈ a ∨ x ∈ b) := by
  unfold cup inB
  simp [List.mem_filter]
section
variable {rows : List (List Nat)} {a b : List Nat}
theorem cap_wholes (ha : a ∈ wholes rows) (hb : b ∈ wholes rows) : cap rows.length a b ∈ wholes rows := by
  obtain ⟨⟨a1, a2⟩, a3⟩ := mem_wholes.mp ha
  obtain ⟨⟨b1, b2⟩, b3⟩ := mem_wholes.mp hb
  refine mem_wholes.mpr ⟨⟨filter_asc _ _, fun x hx => (mem_cap.mp hx).1⟩, fun f hf x hx => ?_⟩
  obtain ⟨h1, h2, h3⟩ := mem_cap.mp hf
  have q := a3 f h2 x hx
  exact mem_cap.mpr ⟨a2 x q, q, b3 f h3 x hx⟩
theorem cup_wholes (ha : a ∈ wholes rows) (hb : b ∈ wholes rows) : cup rows.length a b ∈ wholes rows := by
  obtain ⟨⟨a1, a2⟩, a3⟩ := mem_wholes.mp ha
  obtain ⟨⟨b1, b2⟩, b3⟩ := mem_wholes.mp hb
  refine mem_wholes.mpr ⟨⟨filter_asc _ _, fun x hx => (mem_cup.mp hx).1⟩, fun f hf x hx => ?_⟩
  obtain ⟨h1, h2⟩ := mem_cup.mp hf
  rcases h2 with h2 | h2
  · have q := a3 f h2 x hx
    exact mem_cup.mpr ⟨a2 x q, .inl q⟩
  · have q := b3 f h2 x hx
    exact mem_cup.mpr ⟨b2 x q, .inr q⟩
theorem gain_wsum (g : List Int) {n : Nat} {s : List Nat} (h : s ∈ subs n) : gain g s = wsum g (inB s) n := by
  have e := asc_filter h
  have q : gain g s = gain g ((List.range n).filter fun x => decide (x ∈ s)) := by rw [← e]
  rw [q, gain_filter]
  rfl
theorem wholes_subs (ha : a ∈ wholes rows) : a ∈ subs rows.length := (List.mem_filter.mp ha).1
theorem gain_mod (g : List Int) (ha : a ∈ wholes rows) (hb : b ∈ wholes rows) : gain g (cap rows.length a b) + gain g (cup rows.length a b) = gain g a + gain g b := by
  rw [gain_wsum g (wholes_subs ha), gain_wsum g (wholes_subs hb)]
  unfold cap cup
  rw [gain_filter, gain_filter]
  exact wsum_mod _ _ _ _
end
/-! ### the greatest, and the sets that reach it -/
def maxI : List Int → Int
  | [] => 0
  | [x] => x
  | x :: y :: l => max x (maxI (y :: l))
theorem maxI_spec : ∀ (l : List Int), l ≠ [] → maxI l ∈ l ∧ ∀ y ∈ l, y ≤ maxI l
  | [], h => absurd rfl h
  | [x], _ => ⟨List.mem_singleton.mpr rfl, fun y hy => by rw [List.mem_singleton.mp hy]; exact Int.le_refl _⟩
  | x :: y :: l, _ => by
    obtain ⟨a, b⟩ := maxI_spec (y :: l) (by simp)
    show max x (maxI (y :: l)) ∈ _ ∧ ∀ z ∈ _, z ≤ max x (maxI (y :: l))
    refine ⟨?_, fun z hz => ?_⟩
    · by_cases c : x ≤ maxI (y :: l)
      · rw [Int.max_eq_right c]
        exact List.mem_cons_of_mem _ a
      · rw [Int.max_eq_left (by omega)]
        exact List.mem_cons_self
    · rcases List.mem_cons.mp hz with rfl | hz
      · exact Int.le_max_left _ _
      · have := b z hz
        omega
theorem maxI_eq {l : List Int} {m : Int} (h1 : m ∈ l) (h2 : ∀ y ∈ l, y ≤ m) : m = maxI l := by
  obtain ⟨a, b⟩ := maxI_spec l (fun e => by rw [e] at h1; cases h1)
  have := b m h1
  have := h2 _ a
  omega
def topG (rows : List (List Nat)) (g : List Int) : Int := maxI ((wholes rows).map (gain g))
theorem nil_wholes (rows : List (List Nat)) : [] ∈ wholes rows := mem_wholes.mpr ⟨⟨.nil, fun x hx => nomatch hx⟩, fun x hx => nomatch hx⟩
theorem topG_spec (rows : List (List Nat)) (g : List Int) : (∃ s ∈ wholes rows, gain g s = topG rows g) ∧ ∀ s ∈ wholes rows, gain g s ≤ topG rows g := by
  obtain ⟨a, b⟩ := maxI_spec ((wholes rows).map (gain g)) (fun e => by
    have := List.mem_map_of_mem (f := gain g) (nil_wholes rows)
    rw [e] at this
    cases this)
  obtain ⟨s, hs, e⟩ := List.mem_map.mp a
  exact ⟨⟨s, hs, e⟩, fun s hs => b _ (List.mem_map_of_mem hs)⟩
def bests (rows : List (List Nat)) (g : List Int) : List (List Nat) := (wholes rows).filter fun s => decide (gain g s = topG rows g)
theorem mem_bests {rows : List (List Nat)} {g : List Int} {s : List Nat} : s ∈ bests rows g ↔ s ∈ wholes rows ∧ gain g s = topG rows g := by
  unfold bests
  rw [List.mem_filter, decide_eq_true_eq]
theorem bests_ne (rows : List (List Nat)) (g : List Int) : ∃ s, s ∈ bests rows g := by
  obtain ⟨⟨s, h1, h2⟩, _⟩ := topG_spec rows g
  exact ⟨s, mem_bests.mpr ⟨h1, h2⟩⟩
def leastL (rows : List (List Nat)) (g : List Int) : List Nat := (List.range rows.length).filter fun x => (bests rows g).all fun s => inB s x
def mostL (rows : List (List Nat)) (g : List Int) : List Nat := (List.range rows.length).filter fun x => (bests rows g).any fun s => inB s x
theorem mem_leastL {rows : List (List Nat)} {g : List Int} {x : Nat} : x ∈ leastL rows g ↔ x < rows.length ∧ ∀ s ∈ bests rows g, x ∈ s := by
  unfold leastL inB
  rw [List.mem_filter, List.mem_range, List.all_eq_true]
  simp only [decide_eq_true_eq]
theorem mem_mostL {rows : List (List Nat)} {g : List Int} {x : Nat} : x ∈ mostL rows g ↔ x < rows.length ∧ ∃ s ∈ bests rows g, x ∈ s := by
  unfold mostL inB
  rw [List.mem_filter, List.mem_range, List.any_eq_true]
  simp only [decide_eq_true_eq]
section
variable {rows : List (List Nat)} {g : List Int} {a b : List Nat}
theorem bests_cap (ha : a ∈ bests rows g) (hb : b ∈ bests rows g) : cap rows.length a b ∈ bests rows g ∧ cup rows.length a b ∈ bests rows g := by
  obtain ⟨a1, a2⟩ := mem_bests.mp ha
  obtain ⟨b1, b2⟩ := mem_bests.mp hb
  have c1 := cap_wholes a1 b1
  have c2 := cup_wholes a1 b1
  have m := gain_mod g a1 b1
  have t1 := (topG_spec rows g).2 _ c1
  have t2 := (topG_spec rows g).2 _ c2
  exact ⟨mem_bests.mpr ⟨c1, by omega⟩, mem_bests.mpr ⟨c2, by omega⟩⟩
theorem bests_asc (ha : a ∈ bests rows g) : a.Pairwise (· < ·) ∧ ∀ x ∈ a, x < rows.length := (mem_wholes.mp (mem_bests.mp ha).1).1
theorem least_of (ha : a ∈ bests rows g) (h : ∀ s ∈ bests rows g, a.length ≤ s.length) : a = leastL rows g := by
  refine asc_ext _ _ (bests_asc ha).1 (filter_asc _ _) fun x => ?_
  rw [mem_leastL]
  refine ⟨fun hx => ⟨(bests_asc ha).2 x hx, fun s hs => ?_⟩, fun hx => hx.2 a ha⟩
  have c := (bests_cap ha hs).1
  have e : cap rows.length a s = a.filter (inB s) := by
    refine asc_ext _ _ (bests_asc c).1 ((bests_asc ha).1.filter _) fun y => ?_
    rw [mem_cap, List.mem_filter]
    unfold inB
    rw [decide_eq_true_eq]
    exact ⟨fun h => h.2, fun h => ⟨(bests_asc ha).2 y h.1, h⟩⟩
  have l := h _ c
  rw [e] at l
  have := List.length_filter_eq_length_iff.mp (Nat.le_antisymm (List.length_filter_le _ _) l) x hx
  exact of_decide_eq_true this
theorem most_of (ha : a ∈ bests rows g) (h : ∀ s ∈ bests rows g, s.length ≤ a.length) : a = mostL rows g := by
  refine asc_ext _ _ (bests_asc ha).1 (filter_asc _ _) fun x => ?_
  rw [mem_mostL]
  refine ⟨fun hx => ⟨(bests_asc ha).2 x hx, a, ha, hx⟩, fun ⟨hx, s, hs, hxs⟩ => ?_⟩
  have c := (bests_cap ha hs).2
  have e : a = (cup rows.length a s).filter (inB a) := by
    refine asc_ext _ _ (bests_asc ha).1 ((bests_asc c).1.filter _) fun y => ?_
    rw [List.mem_filter, mem_cup]
    unfold inB
    rw [decide_eq_true_eq]
    exact ⟨fun h => ⟨⟨(bests_asc ha).2 y h, .inl h⟩, h⟩, fun h => h.2⟩
  have l := h _ c
  have l2 : ((cup rows.length a s).filter (inB a)).length = a.length := by rw [← e]
  have := List.length_filter_eq_length_iff.mp (Nat.le_antisymm (List.length_filter_le _ _) (l2 ▸ l)) x (mem_cup.mpr ⟨hx, .inr hxs⟩)
  exact of_decide_eq_true this
theorem least_best : leastL rows g ∈ bests rows g := by
  obtain ⟨a, ha, hm⟩ : ∃ a ∈ bests rows g, ∀ s ∈ bests rows g, a.length ≤ s.length := by
    have go : ∀ (k : Nat) (a : List Nat), a ∈ bests rows g → a.length ≤ k → ∃ a ∈ bests rows g, ∀ s ∈ bests rows g, a.length ≤ s.length := by
      intro k
      induction k with
      | zero => exact fun a ha hl => ⟨a, ha, fun s _ => by omega⟩
      | succ k ih =>
        intro a ha hl
        by_cases c : ∃ s ∈ bests rows g, s.length < a.length
        · obtain ⟨s, hs, hl2⟩ := c
          exact ih s hs (by omega)
        · exact ⟨a, ha, fun s hs => Nat.le_of_not_lt fun q => c ⟨s, hs, q⟩⟩
    obtain ⟨a, ha⟩ := bests_ne rows g
    exact go a.length a ha (Nat.le_refl _)
  rw [← least_of ha hm]
  exact ha
theorem most_best : mostL rows g ∈ bests rows g := by
  have bd : ∀ s ∈ bests rows g, s.length ≤ rows.length := fun s hs => by
    have e := asc_filter (wholes_subs (mem_bests.mp hs).1)
    rw [e]
    exact Nat.le_trans (List.length_filter_le _ _) (by rw [List.length_range]; exact Nat.le_refl _)
  obtain ⟨a, ha, hm⟩ : ∃ a ∈ bests rows g, ∀ s ∈ bests rows g, s.length ≤ a.length := by
    have go : ∀ (k : Nat) (a : List Nat), a ∈ bests rows g → rows.length ≤ a.length + k → ∃ a ∈ bests rows g, ∀ s ∈ bests rows g, s.length ≤ a.length := by
      intro k
      induction k with
      | zero => exact fun a ha hl => ⟨a, ha, fun s hs => by have := bd s hs; omega⟩
      | succ k ih =>
        intro a ha hl
        by_cases c : ∃ s ∈ bests rows g, a.length < s.length
        · obtain ⟨s, hs, hl2⟩ := c
          exact ih s hs (by omega)
        · exact ⟨a, ha, fun s hs => Nat.le_of_not_lt fun q => c ⟨s, hs, q⟩⟩
    obtain ⟨a, ha⟩ := bests_ne rows g
    exact go rows.length a ha (by omega)
  rw [← most_of ha hm]
  exact ha
end
end K39
namespace K39
/-! ### webs: checked, in an order, made longer -/
def ascB : List Nat → Bool
  | x :: y :: l => decide (x < y) && ascB (y :: l)
  | _ => true
theorem ascB_iff : ∀ l : List Nat, ascB l = true ↔ l.Pairwise (· < ·)
  | [] => by simp [ascB]
  | [x] => by simp [ascB]
  | x :: y :: l => by
    have ih := ascB_iff (y :: l)
    show (decide (x < y) && ascB (y :: l)) = true ↔ _
    rw [Bool.and_eq_true, decide_eq_true_eq, ih]
    constructor
    · rintro ⟨a, b⟩
      refine List.pairwise_cons.mpr ⟨fun z hz => ?_, b⟩
      rcases List.mem_cons.mp hz with rfl | hz
      · exact a
      · exact Nat.lt_trans a ((List.pairwise_cons.mp b).1 z hz)
    · intro h
      obtain ⟨a, b⟩ := List.pairwise_cons.mp h
      exact ⟨a y List.mem_cons_self, b⟩
def lotB (n : Nat) (s : List Nat) : Bool := s.all (fun x => decide (x < n)) && ascB s
theorem lotB_iff {n : Nat} {s : List Nat} : lotB n s = true ↔ s.Pairwise (· < ·) ∧ ∀ x ∈ s, x < n := by
  unfold lotB
  rw [Bool.and_eq_true, List.all_eq_true, ascB_iff]
  simp only [decide_eq_true_eq]
  exact ⟨fun ⟨a, b⟩ => ⟨b, a⟩, fun ⟨a, b⟩ => ⟨b, a⟩⟩
def badAt (rows : List (List Nat)) (i : Nat) : Bool := !(lotB rows.length (row rows i)) || inB (row rows i) i
def readyL (rows : List (List Nat)) (told : List Nat) : List Nat := (List.range rows.length).filter fun f => !(inB told f) && (row rows f).all (inB told)
def runs (rows : List (List Nat)) : Nat → List Nat → Bool
  | 0, _ => true
  | k + 1, told => if rows.length ≤ told.length then true else if readyL rows told = [] then false else runs rows k (told ++ readyL rows told)
theorem runs_done {rows : List (List Nat)} {told : List Nat} (h : rows.length ≤ told.length) : ∀ k, runs rows k told = true
  | 0 => rfl
  | k + 1 => by rw [runs, if_pos h]
/-- what a web is told: nothing, or the place -/
inductive At where
  | good
  | whole
  | frame (i : Nat)
  deriving DecidableEq
def webAns : Option (List (List Nat)) → At
  | none => .whole
  | some rows => if ¬ (1 ≤ rows.length ∧ rows.length ≤ 10) then .whole else match (List.range rows.length).find? (badAt rows) with
    | some i => .frame i
    | none => if runs rows rows.length [] = true then .good else .whole
/-- in the line's order each frame leans on those ahead alone -/
structure Ord (rows : List (List Nat)) (line : List Nat) : Prop where
  nd : line.Nodup
  len : line.length = rows.length
  lt : ∀ x ∈ line, x < rows.length
  asc : ∀ i, i < rows.length → (row rows i).Pairwise (· < ·)
  lean : ∀ t f, line[t]? = some f → ∀ x ∈ row rows f, x ∈ line.take t
theorem nodup_le : ∀ (a b : List Nat), a.Nodup → (∀ x ∈ a, x ∈ b) → a.length ≤ b.length
  | [], _, _, _ => Nat.zero_le _
  | x :: a, b, h, s => by
    obtain ⟨h1, h2⟩ := List.nodup_cons.mp h
    have hx := s x List.mem_cons_self
    have := nodup_le a (b.erase x) h2 fun y hy => (List.mem_erase_of_ne (fun e : y = x => h1 (by rw [← e]; exact hy))).mpr (s y (List.mem_cons_of_mem _ hy))
    rw [List.length_erase_of_mem hx] at this
    have : 0 < b.length := List.length_pos_of_mem hx
    rw [List.length_cons]
    omega
theorem range_nodup (n : Nat) : (List.range n).Nodup := List.nodup_range
section
variable {rows : List (List Nat)} {line : List Nat}
theorem Ord.all (o : Ord rows line) {x : Nat} (h : x < rows.length) : x ∈ line := by
  refine Decidable.byContradiction fun q => ?_
  have := nodup_le (x :: line) (List.range rows.length) (List.nodup_cons.mpr ⟨q, o.nd⟩) fun y hy => by
    rcases List.mem_cons.mp hy with rfl | hy
    · exact List.mem_range.mpr h
    · exact List.mem_range.mpr (o.lt y hy)
  rw [List.length_cons, List.length_range, o.len] at this
  omega
theorem Ord.lt' (o : Ord rows line) {f : Nat} (hf : f < rows.length) {x : Nat} (hx : x ∈ row rows f) : x < rows.length := by
  obtain ⟨t, ht⟩ := List.getElem?_of_mem (o.all hf)
  exact o.lt x (List.mem_of_mem_take (o.lean t f ht x hx))
theorem Ord.own (o : Ord rows line) {f : Nat} (hf : f < rows.length) : f ∉ row rows f := by
  intro h
  obtain ⟨t, ht⟩ := List.getElem?_of_mem (o.all hf)
  have m := o.lean t f ht f h
  obtain ⟨t2, h2⟩ := List.getElem?_of_mem m
  rw [List.getElem?_take] at h2
  by_cases c : t2 < t
  · rw [if_pos c] at h2
    obtain ⟨l1, e1⟩ := List.getElem?_eq_some_iff.mp ht
    obtain ⟨l2, e2⟩ := List.getElem?_eq_some_iff.mp h2
    have := (List.nodup_iff_pairwise_ne.mp o.nd)
    have := (List.pairwise_iff_getElem.mp this) t2 t l2 l1 c
    exact this (e2.trans e1.symm)
  · rw [if_neg c] at h2
    cases h2
theorem Ord.ready (o : Ord rows line) {told : List Nat} (h : told.length < rows.length) : readyL rows told ≠ [] := by
  obtain ⟨t, f, ht, hf, hb⟩ : ∃ t f, line[t]? = some f ∧ f ∉ told ∧ ∀ x ∈ line.take t, x ∈ told := by
    have go : ∀ (k : Nat), k ≤ line.length → (∀ x ∈ line.take k, x ∈ told) ∨ ∃ t f, line[t]? = some f ∧ f ∉ told ∧ ∀ x ∈ line.take t, x ∈ told := by
      intro k
      induction k with
      | zero => exact fun _ => .inl fun x hx => by rw [List.take_zero] at hx; cases hx
      | succ k ih =>
        intro hk
        rcases ih (by omega) with q | q
        · have e : line[k]? = some line[k] := List.getElem?_eq_getElem (by omega)
          by_cases c : line[k] ∈ told
          · refine .inl fun x hx => ?_
            rw [List.take_add_one, e] at hx
            rcases List.mem_append.mp hx with z | z
            · exact q x z
            · rw [List.mem_singleton.mp z]
              exact c
          · exact .inr ⟨k, _, e, c, q⟩
        · exact .inr q
    rcases go line.length (Nat.le_refl _) with q | q
    · rw [List.take_length] at q
      have := nodup_le line told o.nd q
      rw [o.len] at this
      omega
    · exact q
  have hfl := o.lt f (List.mem_of_getElem? ht)
  refine List.ne_nil_of_mem (a := f) ?_
  unfold readyL inB
  rw [List.mem_filter, List.mem_range]
  refine ⟨hfl, ?_⟩
  simp only [Bool.and_eq_true, Bool.not_eq_true', decide_eq_false_iff_not, List.all_eq_true, decide_eq_true_eq]
  exact ⟨hf, fun x hx => hb x (o.lean t f ht x hx)⟩
theorem Ord.runs (o : Ord rows line) : ∀ (k : Nat) (told : List Nat), rows.length ≤ told.length + k → K39.runs rows k told = true
  | 0, _, _ => rfl
  | k + 1, told, h => by
    rw [K39.runs]
    split
    · rfl
    · rename_i c
      rw [if_neg (o.ready (by omega))]
      refine o.runs k _ ?_
      have := List.length_pos_iff.mpr (o.ready (told := told) (by omega))
      rw [List.length_append]
      omega
theorem Ord.good (o : Ord rows line) (h1 : 1 ≤ rows.length) (h2 : rows.length ≤ 10) : webAns (some rows) = .good := by
  show (if ¬ (1 ≤ rows.length ∧ rows.length ≤ 10) then At.whole else match (List.range rows.length).find? (badAt rows) with
    | some i => At.frame i
    | none => if K39.runs rows rows.length [] = true then At.good else At.whole) = At.good
  rw [if_neg (fun q => q ⟨h1, h2⟩)]
  have e : (List.range rows.length).find? (badAt rows) = none := by
    refine List.find?_eq_none.mpr fun i hi => ?_
    have hi := List.mem_range.mp hi
    have l : lotB rows.length (row rows i) = true := lotB_iff.mpr ⟨o.asc i hi, fun x hx => o.lt' hi hx⟩
    unfold badAt inB
    simp [l, o.own hi]
  rw [e]
  show (if _ then _ else _) = _
  rw [if_pos (o.runs _ _ (by simp))]
theorem row_lt {rows : List (List Nat)} {r : List Nat} {i : Nat} (h : i < rows.length) : row (rows ++ [r]) i = row rows i := by
  unfold row
  rw [List.getD_eq_getElem?_getD, List.getD_eq_getElem?_getD, List.getElem?_append_left h]
theorem row_end {rows : List (List Nat)} {r : List Nat} : row (rows ++ [r]) rows.length = r := by
  unfold row
  rw [List.getD_eq_getElem?_getD, List.getElem?_append_right (Nat.le_refl _)]
  simp
theorem Ord.longer (o : Ord rows line) {lot : List Nat} (h : lot ∈ wholes rows) : Ord (rows ++ [lot]) (line ++ [rows.length]) := by
  obtain ⟨⟨l1, l2⟩, _⟩ := mem_wholes.mp h
  refine ⟨?_, ?_, ?_, ?_, ?_⟩
  · refine List.nodup_append.mpr ⟨o.nd, List.nodup_cons.mpr ⟨by simp, List.nodup_nil⟩, fun x hx y hy => ?_⟩
    rw [List.mem_singleton.mp hy]
    have := o.lt x hx
    omega
  · rw [List.length_append, List.length_append, o.len]
    rfl
  · intro x hx
    rw [List.length_append]
    rcases List.mem_append.mp hx with q | q
    · exact Nat.lt_succ_of_lt (o.lt x q)
    · rw [List.mem_singleton.mp q]
      exact Nat.lt_succ_self _
  · intro i hi
    rw [List.length_append] at hi
    by_cases c : i < rows.length
    · rw [row_lt c]
      exact o.asc i c
    · have e : i = rows.length := by simp at hi; omega
      rw [e, row_end]
      exact l1
  · intro t f ht x hx
    by_cases c : t < line.length
    · rw [List.getElem?_append_left c] at ht
      have fl := o.lt f (List.mem_of_getElem? ht)
      rw [row_lt fl] at hx
      rw [List.take_append_of_le_length (by omega)]
      exact o.lean t f ht x hx
    · rw [List.getElem?_append_right (by omega)] at ht
      have e : t = line.length := by
        rcases Nat.eq_zero_or_pos (t - line.length) with z | z
        · omega
        · rw [List.getElem?_eq_none (by simp; omega)] at ht
          cases ht
      subst e
      simp at ht
      subst ht
      rw [row_end] at hx
      rw [List.take_left']
      · exact o.all (l2 x hx)
      · rfl
end
/-! ### the frame behind the others -/
section
variable {rows : List (List Nat)} {lot : List Nat} {g : List Int}
theorem gat_lt {c : Int} {i : Nat} (h : i < g.length) : gat (g ++ [c]) i = gat g i := by
  unfold gat
  rw [List.getD_eq_getElem?_getD, List.getD_eq_getElem?_getD, List.getElem?_append_left h]
theorem gat_end {c : Int} : gat (g ++ [c]) g.length = c := by
  unfold gat
  rw [List.getD_eq_getElem?_getD, List.getElem?_append_right (Nat.le_refl _)]
  simp
def least0 (g : List Int) : Int := (g.map fun x => min x 0).sum
theorem wsum_le (g : List Int) (p : Nat → Bool) : ∀ n, n ≤ g.length → wsum g p n ≤ wsum g (fun _ => true) n - ((g.take n).map fun x => min x 0).sum
  | 0, _ => by simp [wsum]
  | n + 1, h => by
    have ih := wsum_le g p n (by omega)
    have e : g[n]? = some g[n] := List.getElem?_eq_getElem (by omega)
    have eg : gat g n = g[n] := by
      unfold gat
      rw [List.getD_eq_getElem?_getD, e]
      rfl
    rw [List.take_add_one, e, List.map_append, List.sum_append]
    simp only [wsum, eg]
    show _ ≤ _ + _ - (_ + (List.map _ [g[n]]).sum)
    simp only [List.map_cons, List.map_nil, List.sum_cons, List.sum_nil]
    have m1 : min g[n] 0 ≤ g[n] := Int.min_le_left _ _
    have m2 : min g[n] 0 ≤ 0 := Int.min_le_right _ _
    generalize ((g.take n).map fun x => min x 0).sum = z at ih ⊢
    generalize min g[n] 0 = y at m1 m2 ⊢
    generalize wsum g p n = z1 at ih ⊢
    generalize wsum g (fun _ => true) n = z2 at ih ⊢
    generalize g[n] = v at m1 ⊢
    rw [if_pos trivial]
    split <;> omega
theorem full_wholes {line : List Nat} (o : Ord rows line) : List.range rows.length ∈ wholes rows :=
  mem_wholes.mpr ⟨⟨range_asc _, fun x hx => List.mem_range.mp hx⟩, fun f hf x hx => List.mem_range.mpr (o.lt' (List.mem_range.mp hf) hx)⟩
theorem gain_full (g : List Int) (n : Nat) : gain g (List.range n) = wsum g (fun _ => true) n := by
  have := gain_filter g (fun _ => true) n
  rwa [List.filter_eq_self.mpr (fun _ _ => rfl)] at this
theorem len_snoc {lot : List Nat} : (rows ++ [lot]).length = rows.length + 1 := by rw [List.length_append]; rfl
theorem gain_snoc {c : Int} {s : List Nat} (h : ∀ x ∈ s, x < g.length) : gain (g ++ [c]) s = gain g s := by
  unfold gain
  congr 1
  refine List.map_congr_left fun x hx => gat_lt (h x hx)
/-- with what the frame behind gains, every best set holds it -/
theorem behind_in {line : List Nat} (o : Ord rows line) (hl : lot ∈ wholes rows) (hg : g.length = rows.length) {s : List Nat} (hs : s ∈ wholes (rows ++ [lot])) (hn : rows.length ∉ s) :
    gain (g ++ [0 - least0 g + 1]) s < gain (g ++ [0 - least0 g + 1]) (List.range (rows ++ [lot]).length) := by
  have ss := wholes_subs hs
  rw [len_snoc] at ss
  obtain ⟨s1, s2⟩ := (mem_subs _ s).mp ss
  have s3 : ∀ x ∈ s, x < rows.length := fun x hx => by
    have := s2 x hx
    have : x ≠ rows.length := fun e => hn (e ▸ hx)
    omega
  rw [gain_snoc (fun x hx => hg ▸ s3 x hx), gain_wsum g ((mem_subs rows.length s).mpr ⟨s1, s3⟩), len_snoc, gain_full]
  simp only [wsum, if_true]
  have e : gat (g ++ [0 - least0 g + 1]) rows.length = 0 - least0 g + 1 := by rw [← hg]; exact gat_end
  have q := wsum_le g (inB s) rows.length (by omega)
  have t : g.take rows.length = g := by rw [← hg, List.take_length]
  rw [t] at q
  have w : wsum (g ++ [0 - least0 g + 1]) (fun _ => true) rows.length = wsum g (fun _ => true) rows.length := wsum_congr _ _ _ _ _ (fun i hi => gat_lt (by omega)) (fun _ _ => rfl)
  rw [e, w]
  unfold least0 at *
  omega
theorem behind_all {line : List Nat} (o : Ord rows line) (hl : lot ∈ wholes rows) (hg : g.length = rows.length) {s : List Nat} (hs : s ∈ bests (rows ++ [lot]) (g ++ [0 - least0 g + 1])) : rows.length ∈ s := by
  obtain ⟨h1, h2⟩ := mem_bests.mp hs
  refine Decidable.byContradiction fun q => ?_
  have := behind_in (g := g) o hl hg h1 q
  have := (topG_spec (rows ++ [lot]) (g ++ [0 - least0 g + 1])).2 _ (full_wholes (o.longer hl))
  omega
theorem short_wholes {s : List Nat} (hs : s ∈ wholes rows) : s ∈ wholes (rows ++ [lot]) := by
  obtain ⟨⟨a, b⟩, c⟩ := mem_wholes.mp hs
  refine mem_wholes.mpr ⟨⟨a, fun x hx => by rw [len_snoc]; exact Nat.lt_succ_of_lt (b x hx)⟩, fun f hf x hx => ?_⟩
  rw [row_lt (b f hf)] at hx
  exact c f hf x hx
theorem more_top (hg : g.length = rows.length) (c : Int) : topG rows g ≤ topG (rows ++ [lot]) (g ++ [c]) := by
  obtain ⟨⟨s, hs, e⟩, _⟩ := topG_spec rows g
  have := (topG_spec (rows ++ [lot]) (g ++ [c])).2 s (short_wholes hs)
  rw [gain_snoc (fun x hx => hg ▸ (mem_wholes.mp hs).1.2 x hx)] at this
  omega
/-- a whole set that holds the frame behind is whole without it -/
theorem cut_wholes {s : List Nat} (hs : s ∈ wholes (rows ++ [lot])) (hlt : ∀ f, f < rows.length → ∀ x ∈ row rows f, x < rows.length) (hn : rows.length ∈ s) : ∃ t ∈ wholes rows, s = t ++ [rows.length] := by
  obtain ⟨⟨a, b⟩, c⟩ := mem_wholes.mp hs
  rw [len_snoc] at b
  have e : s = s.filter (fun x => decide (x < rows.length)) ++ [rows.length] := by
    refine asc_ext _ _ a (List.pairwise_append.mpr ⟨a.filter _, List.pairwise_singleton _ _, fun x hx y hy => ?_⟩) fun x => ?_
    · rw [List.mem_singleton.mp hy]
      exact of_decide_eq_true (List.mem_filter.mp hx).2
    · rw [List.mem_append, List.mem_filter, List.mem_singleton, decide_eq_true_eq]
      constructor
      · intro hx
        have := b x hx
        by_cases z : x < rows.length
        · exact .inl ⟨hx, z⟩
        · exact .inr (by omega)
      · rintro (⟨h, _⟩ | rfl)
        · exact h
        · exact hn
  refine ⟨_, mem_wholes.mpr ⟨⟨a.filter _, fun x hx => of_decide_eq_true (List.mem_filter.mp hx).2⟩, fun f hf x hx => ?_⟩, e⟩
  obtain ⟨h1, h2⟩ := List.mem_filter.mp hf
  have h2 := of_decide_eq_true h2
  have := c f h1 x (by rw [row_lt h2]; exact hx)
  exact List.mem_filter.mpr ⟨this, decide_eq_true (hlt f h2 x hx)⟩
theorem bests_less {line : List Nat} (o : Ord rows line) (hg : g.length = rows.length) (s : List Nat) : s ∈ bests (rows ++ [lot]) (g ++ [-1]) ↔ s ∈ bests rows g := by
  have ch : ∀ s ∈ wholes (rows ++ [lot]), (s ∈ wholes rows ∧ gain (g ++ [-1]) s = gain g s) ∨ gain (g ++ [-1]) s < topG rows g := fun s hs => by
    by_cases c : rows.length ∈ s
    · obtain ⟨t, ht, rfl⟩ := cut_wholes hs (fun f hf x hx => o.lt' hf hx) c
      refine .inr ?_
      have e : gain (g ++ [-1]) (t ++ [rows.length]) = gain g t - 1 := by
        have q : gain (g ++ [-1]) (t ++ [rows.length]) = gain (g ++ [-1]) t + gat (g ++ [-1]) rows.length := by
          unfold gain
          rw [List.map_append, List.sum_append]
          simp
        rw [q, gain_snoc (fun x hx => hg ▸ (mem_wholes.mp ht).1.2 x hx)]
        have : gat (g ++ [-1]) rows.length = -1 := by rw [← hg]; exact gat_end
        omega
      have := (topG_spec rows g).2 t ht
      omega
    · obtain ⟨⟨a, b⟩, d⟩ := mem_wholes.mp hs
      have b' : ∀ x ∈ s, x < rows.length := fun x hx => by
        have := b x hx
        rw [len_snoc] at this
        have : x ≠ rows.length := fun e => c (e ▸ hx)
        omega
      exact .inl ⟨mem_wholes.mpr ⟨⟨a, b'⟩, fun f hf x hx => d f hf x (by rw [row_lt (b' f hf)]; exact hx)⟩, gain_snoc (fun x hx => hg ▸ b' x hx)⟩
  have top : topG (rows ++ [lot]) (g ++ [-1]) = topG rows g := by
    have m := more_top (lot := lot) hg (-1)
    obtain ⟨⟨t, ht, e⟩, _⟩ := topG_spec (rows ++ [lot]) (g ++ [-1])
    rcases ch t ht with ⟨q1, q2⟩ | q
    · have := (topG_spec rows g).2 t q1
      omega
    · omega
  rw [mem_bests, mem_bests, top]
  constructor
  · rintro ⟨h1, h2⟩
    rcases ch s h1 with ⟨q1, q2⟩ | q
    · exact ⟨q1, q2 ▸ h2⟩
    · omega
  · rintro ⟨h1, h2⟩
    exact ⟨short_wholes h1, by rw [gain_snoc (fun x hx => hg ▸ (mem_wholes.mp h1).1.2 x hx)]; exact h2⟩
theorem least_less {line : List Nat} (o : Ord rows line) (hg : g.length = rows.length) : leastL (rows ++ [lot]) (g ++ [-1]) = leastL rows g := by
  refine asc_ext _ _ (filter_asc _ _) (filter_asc _ _) fun x => ?_
  rw [mem_leastL, mem_leastL]
  constructor
  · rintro ⟨_, h⟩
    obtain ⟨s, hs⟩ := bests_ne rows g
    exact ⟨(bests_asc hs).2 x (h s ((bests_less o hg s).mpr hs)), fun s hs => h s ((bests_less o hg s).mpr hs)⟩
  · rintro ⟨h1, h⟩
    exact ⟨by rw [len_snoc]; omega, fun s hs => h s ((bests_less o hg s).mp hs)⟩
theorem most_less {line : List Nat} (o : Ord rows line) (hg : g.length = rows.length) : mostL (rows ++ [lot]) (g ++ [-1]) = mostL rows g := by
  refine asc_ext _ _ (filter_asc _ _) (filter_asc _ _) fun x => ?_
  rw [mem_mostL, mem_mostL]
  constructor
  · rintro ⟨_, s, hs, hx⟩
    have hs := (bests_less o hg s).mp hs
    exact ⟨(bests_asc hs).2 x hx, s, hs, hx⟩
  · rintro ⟨h1, s, hs, hx⟩
    exact ⟨by rw [len_snoc]; omega, s, (bests_less o hg s).mpr hs, hx⟩
/-! ### no gains, and losses alone -/
theorem gain_rep (n : Nat) (c : Int) : ∀ s : List Nat, (∀ x ∈ s, x < n) → gain (List.replicate n c) s = c * (s.length : Int)
  | [], _ => by simp [gain]
  | x :: s, h => by
    have ih := gain_rep n c s fun y hy => h y (List.mem_cons_of_mem _ hy)
    have e : gat (List.replicate n c) x = c := by
      unfold gat
      rw [List.getD_eq_getElem?_getD, List.getElem?_replicate, if_pos (h x List.mem_cons_self)]
      rfl
    have q : gain (List.replicate n c) (x :: s) = gat (List.replicate n c) x + gain (List.replicate n c) s := by
      unfold gain
      rw [List.map_cons, List.sum_cons]
    rw [q, e, ih, List.length_cons, Int.natCast_succ, Int.mul_add, Int.mul_one, Int.add_comm]
theorem zero_best {s : List Nat} (hs : s ∈ wholes rows) : s ∈ bests rows (List.replicate rows.length 0) := by
  have z : ∀ s ∈ wholes rows, gain (List.replicate rows.length 0) s = 0 := fun s hs => by
    rw [gain_rep _ _ _ (mem_wholes.mp hs).1.2, Int.zero_mul]
  obtain ⟨⟨t, ht, e⟩, _⟩ := topG_spec rows (List.replicate rows.length 0)
  exact mem_bests.mpr ⟨hs, by rw [z s hs, ← e, z t ht]⟩
theorem least_zero : leastL rows (List.replicate rows.length 0) = [] := by
  refine List.eq_nil_iff_forall_not_mem.mpr fun x hx => ?_
  have := (mem_leastL.mp hx).2 [] (zero_best (nil_wholes rows))
  cases this
theorem most_zero {line : List Nat} (o : Ord rows line) : mostL rows (List.replicate rows.length 0) = List.range rows.length := by
  refine asc_ext _ _ (filter_asc _ _) (range_asc _) fun x => ?_
  rw [mem_mostL, List.mem_range]
  exact ⟨fun h => h.1, fun h => ⟨h, _, zero_best (full_wholes o), List.mem_range.mpr h⟩⟩
theorem top_loss : topG rows (List.replicate rows.length (-1)) = 0 := by
  obtain ⟨⟨t, ht, e⟩, m⟩ := topG_spec rows (List.replicate rows.length (-1))
  have := m [] (nil_wholes rows)
  rw [gain_rep _ _ _ (fun x hx => absurd hx List.not_mem_nil)] at this
  rw [gain_rep _ _ _ (mem_wholes.mp ht).1.2] at e
  simp at this
  omega
end
/-! ### what cannot be -/
theorem ans_none : webAns none = .whole := rfl
theorem ans_nil : webAns (some []) = .whole := rfl
theorem ans_own : webAns (some [[0]]) = .frame 0 := by decide
theorem ans_ring : webAns (some [[1], [0]]) = .whole := by decide
theorem ans_out : webAns (some [[], [2]]) = .frame 1 := by decide
end K39
namespace K39
open PySem PySem.Spec PyProof.Rows L2 PySem.W LamX KA KW KU KL KT
open Evl (pss_cut tCut)
theorem Same.put {H H' : Hp} {D : Addr} {o : HO} (s : Same H H') (h : H D = none) : Same H (upd H' D o) := fun b o e => by
  rw [upd_ne (ne_of_none e h)]
  exact s b o e
theorem Kp.put3 {st lg D : Addr} {H H' : Hp} {o : HO} (k : Kp st lg H H') (hD : H D = none) : Kp st lg H (upd H' D o) := fun b u e n1 n2 => by
  rw [upd_ne (fun z => by rw [z, hD] at e; cases e)]
  exact k _ _ e n1 n2
theorem offc {H : Hp} {st lg cl p : Addr} {n : Nat} (S : StAt H st lg cl n) (hp : H p = none) : p ≠ cl := by
  obtain ⟨_, _, _, _, S', _⟩ := S
  exact (ne_of_none S'.c hp).symm
theorem stAt_put {H : Hp} {st lg cl e : Addr} {n : Nat} {ys : List V} (S : StAt H st lg cl n) (h1 : e ≠ st) (h2 : e ≠ lg) (h3 : e ≠ cl) : StAt (upd H e (.lst ys)) st lg cl n := by
  obtain ⟨a, b, c, d, s, h'⟩ := S
  exact ⟨a, b, c, d, { s with d := (upd_ne h1.symm).trans s.d, l := (upd_ne h2.symm).trans s.l, c := (upd_ne h3.symm).trans s.c }, h'⟩
/-! ### lists of new tuples, loops within loops -/
/-- tuples stay -/
def Tp (H H' : Hp) : Prop := ∀ b xs, H b = some (.tup xs) → H' b = some (.tup xs)
theorem Tp.same {H H' : Hp} (s : Same H H') : Tp H H' := fun b xs e => s _ _ e
theorem Tp.trans {H H1 H2 : Hp} (a : Tp H H1) (b : Tp H1 H2) : Tp H H2 := fun c xs e => b _ _ (a _ _ e)
theorem Tp.put {H : Hp} {D : Addr} {xs : List V} {o : HO} (h : H D = some (.lst xs)) : Tp H (upd H D o) := fun b ys e => by
  rw [upd_ne (fun z => by rw [z, h] at e; cases e)]
  exact e
theorem Tp.kp {st lg cl : Addr} {m : Nat} {H H' : Hp} (S : StAt H st lg cl m) (k : Kp st lg H H') : Tp H H' := fun b xs e => by
  obtain ⟨_, _, _, _, s, _⟩ := S
  exact k _ _ e (ne_of e s.d (by intro z; cases z)) (ne_of e s.l (by intro z; cases z))
/-- v is the tuple of these values -/
def TupAt (H : Hp) (v : V) (xs : List V) : Prop := ∃ p, v = .ref p ∧ H p = some (.tup xs)
theorem TupAt.tp {H H' : Hp} {v : V} {xs : List V} (h : TupAt H v xs) (t : Tp H H') : TupAt H' v xs := by
  obtain ⟨p, e, q⟩ := h
  exact ⟨p, e, t _ _ q⟩
/-- these are tuples, as f tells -/
def RL {α : Type} (f : α → List V) (H : Hp) (vs : List V) (as : List α) : Prop := vs.length = as.length ∧ ∀ (i : Nat) (v : V), vs[i]? = some v → ∃ a, as[i]? = some a ∧ TupAt H v (f a)
section
variable {α : Type} {f : α → List V} {H H' : Hp} {vs us : List V} {as bs : List α}
theorem RL.nil : RL f H [] [] := ⟨rfl, fun i v h => by simp at h⟩
theorem RL.tp (r : RL f H vs as) (t : Tp H H') : RL f H' vs as := ⟨r.1, fun i v h => by
  obtain ⟨a, e, q⟩ := r.2 i v h
  exact ⟨a, e, q.tp t⟩⟩
theorem RL.same (r : RL f H vs as) (t : Same H H') : RL f H' vs as := r.tp (Tp.same t)
theorem RL.append (r : RL f H vs as) (q : RL f H us bs) : RL f H (vs ++ us) (as ++ bs) := ⟨by rw [List.length_append, List.length_append, r.1, q.1], fun i v h => by
  by_cases c : i < vs.length
  · rw [List.getElem?_append_left c] at h
    obtain ⟨a, e, z⟩ := r.2 i v h
    exact ⟨a, by rw [List.getElem?_append_left (by rw [← r.1]; exact c)]; exact e, z⟩
  · rw [List.getElem?_append_right (by omega)] at h
    obtain ⟨a, e, z⟩ := q.2 _ v h
    exact ⟨a, by rw [List.getElem?_append_right (by rw [← r.1]; omega), ← r.1]; exact e, z⟩⟩
theorem RL.one {v : V} {a : α} (h : TupAt H v (f a)) : RL f H [v] [a] := ⟨rfl, fun i u e => by
  match i, e with
  | 0, e => exact ⟨a, rfl, (Option.some.inj e) ▸ h⟩⟩
theorem RL.get (r : RL f H vs as) {i : Nat} {v : V} (h : vs[i]? = some v) : ∃ p a, v = .ref p ∧ as[i]? = some a ∧ H p = some (.tup (f a)) := by
  obtain ⟨a, e, p, q, z⟩ := r.2 i v h
  exact ⟨p, a, q, e, z⟩
theorem RL.at_ (r : RL f H vs as) {i : Nat} {a : α} (h : as[i]? = some a) : ∃ p, vs[i]? = some (.ref p) ∧ H p = some (.tup (f a)) := by
  have l := (List.getElem?_eq_some_iff.mp h).1
  obtain ⟨p, a', e1, e2, e3⟩ := r.get (List.getElem?_eq_getElem (l := vs) (i := i) (by rw [r.1]; exact l))
  rw [h] at e2
  cases e2
  exact ⟨p, by rw [List.getElem?_eq_getElem (by rw [r.1]; exact l), e1], e3⟩
end
/-- the list at D, made since H1 -/
def NI {α : Type} (f : α → List V) (H1 : Hp) (D : Addr) (as : List α) (H : Hp) : Prop := ∃ ws, H D = some (.lst ws) ∧ RL f H ws as ∧ Same H1 H
section
variable {α : Type} {f : α → List V} {H1 H H' : Hp} {D : Addr} {as bs : List α}
theorem NI.new (hD : H1 D = none) : NI f H1 D [] (upd H1 D (.lst [])) := ⟨[], upd_same, .nil, Same.new hD⟩
theorem NI.same (n : NI f H1 D as H) (s : Same H H') : NI f H1 D as H' := by
  obtain ⟨ws, a, b, c⟩ := n
  exact ⟨ws, s _ _ a, b.same s, c.trans s⟩
theorem NI.s (n : NI f H1 D as H) : Same H1 H := n.elim fun _ q => q.2.2
theorem NI.push {v : V} {a : α} (n : NI f H1 D as H) (hD : H1 D = none) (l : as.length < 100000) (q : TupAt H v (f a)) : ∃ acc, H D = some (.lst acc) ∧ acc.length < sizeLine ∧ NI f H1 D (as ++ [a]) (upd H D (.lst (acc ++ [v]))) := by
  obtain ⟨ws, e, r, s⟩ := n
  refine ⟨ws, e, Nat.lt_trans (by rw [r.1]; exact l) (by decide), ws ++ [v], upd_same, (r.append (.one q)).tp (Tp.put e), K39.Same.put s hD⟩
end
theorem walk_core {J : It} {n : Nat} {G : Hp → Prop} {Y : Nat → Hp → V → Hp → Prop} (w : Walk J n G Y) {H1 : Hp} {Stop : Hp → Prop} {Body : (Hp → Prop) → V → Hp → Prop} (Pv : Nat → Hp → Prop) (h0 : Pv 0 H1) (hG : ∀ i H, i ≤ n → Pv i H → G H)
    (hs : ∀ i x H H', i < n → Pv i H → Y i H x H' → Body (Pv (i + 1)) x H') (hd : ∀ H, Pv n H → Stop H) :
    ∃ W : Nat → Nat → Hp → Prop, (∃ m, W 0 m H1) ∧ ∀ i m H, W i m H → (J.stop i H ∧ Stop H) ∨ (J.go i H ∧ ∃ Nx : Hp → Prop, (∀ H', Nx H' → ∃ m', m' < m ∧ W (i + 1) m' H') ∧ ∀ x H', J.yld i H x H' → Body Nx x H') := by
  refine ⟨fun i m H => m = n - i ∧ i ≤ n ∧ Pv i H, ⟨n, by simp, Nat.zero_le _, h0⟩, ?_⟩
  rintro i m H ⟨rfl, hi, p⟩
  have q := hG i H hi p
  by_cases hlt : i < n
  · exact .inr ⟨w.goes i H hlt q, Pv (i + 1), fun H' p' => ⟨n - (i + 1), by omega, rfl, hlt, p'⟩, fun x H' y => hs i x H H' hlt p (w.yields i H x H' hlt q y)⟩
  · have e : i = n := by omega
    subst e
    exact .inl ⟨w.stops H q, hd H p⟩
/-- the inner loop of two, the list at D growing -/
theorem inn_it {J : It} {n : Nat} {G : Hp → Prop} {Y : Nat → Hp → V → Hp → Prop} (w : Walk J n G Y) {g : TG} {tt : TT} {te : TE} {vs : List Nat} {σ : L2.St} {H4 : Hp} {D : Addr} {Nx : Hp → Prop} (Pv : Nat → Hp → Prop) (h0 : Pv 0 H4) (hG : ∀ i H, i ≤ n → Pv i H → G H)
    (hs : ∀ i x H H', i < n → Pv i H → Y i H x H' → g x (wipe σ vs) H' fun σ3 H5 => wipe σ3 vs = wipe σ vs ∧ tt σ3 H5 fun b H6 => if b = true then te σ3 H6 fun y H7 => ∃ acc, H7 D = some (.lst acc) ∧ acc.length < sizeLine ∧ Pv (i + 1) (upd H7 D (.lst (acc ++ [y]))) else Pv (i + 1) H6)
    (hd : ∀ H, Pv n H → Nx H) :
    ∃ W1 : Nat → Nat → Hp → Prop, (∃ m, W1 0 m H4) ∧ ∀ j k H, W1 j k H → (J.stop j H ∧ Nx H) ∨ (J.go j H ∧ ∃ Nx1 : Hp → Prop, (∀ H', Nx1 H' → ∃ k', k' < k ∧ W1 (j + 1) k' H') ∧ ∀ x H', J.yld j H x H' → g x (wipe σ vs) H' fun σ3 H5 => wipe σ3 vs = wipe σ vs ∧ tt σ3 H5 fun b H6 =>
        if b = true then te σ3 H6 fun y H7 => ∃ acc, H7 D = some (.lst acc) ∧ acc.length < sizeLine ∧ Nx1 (upd H7 D (.lst (acc ++ [y]))) else Nx1 H6) :=
  walk_core w (Body := fun Nx1 x H' => g x (wipe σ vs) H' fun σ3 H5 => wipe σ3 vs = wipe σ vs ∧ tt σ3 H5 fun b H6 => if b = true then te σ3 H6 fun y H7 => ∃ acc, H7 D = some (.lst acc) ∧ acc.length < sizeLine ∧ Nx1 (upd H7 D (.lst (acc ++ [y]))) else Nx1 H6) Pv h0 hG hs hd
/-- the outer one -/
theorem out_it {J : It} {n : Nat} {G : Hp → Prop} {Y : Nat → Hp → V → Hp → Prop} (w : Walk J n G Y) {g : TG} {tt : TT} {wi1 : TI} {g1 : TG} {tt1 : TT} {te : TE} {vs vs1 : List Nat} {σ : L2.St} {H1 : Hp} {D : Addr} {Qd : Hp → Prop} (Pv : Nat → Hp → Prop) (h0 : Pv 0 (upd H1 D (.lst []))) (hG : ∀ i H, i ≤ n → Pv i H → G H)
    (hs : ∀ i x H H', i < n → Pv i H → Y i H x H' → g x (wipe σ vs) H' fun σ2 H2 => wipe σ2 vs = wipe σ vs ∧ tt σ2 H2 fun b H3 =>
      if b = true then wi1 σ2 H3 fun J1 H4 => ∃ W1 : Nat → Nat → Hp → Prop, (∃ m, W1 0 m H4) ∧ ∀ j k H, W1 j k H →
      (J1.stop j H ∧ Pv (i + 1) H) ∨ (J1.go j H ∧ ∃ Nx1 : Hp → Prop, (∀ H', Nx1 H' → ∃ k', k' < k ∧ W1 (j + 1) k' H') ∧ ∀ x H', J1.yld j H x H' → g1 x (wipe σ2 vs1) H' fun σ3 H5 => wipe σ3 vs1 = wipe σ2 vs1 ∧ tt1 σ3 H5 fun b H6 =>
        if b = true then te σ3 H6 fun y H7 => ∃ acc, H7 D = some (.lst acc) ∧ acc.length < sizeLine ∧ Nx1 (upd H7 D (.lst (acc ++ [y]))) else Nx1 H6) else Pv (i + 1) H3) (hd : ∀ H, Pv n H → Qd H) :
    ∃ W : Nat → Nat → Hp → Prop, (∃ m, W 0 m (upd H1 D (.lst []))) ∧ ∀ i m H, W i m H → (J.stop i H ∧ Qd H) ∨ (J.go i H ∧ ∃ Nx : Hp → Prop, (∀ H', Nx H' → ∃ m', m' < m ∧ W (i + 1) m' H') ∧ ∀ x H', J.yld i H x H' → g x (wipe σ vs) H' fun σ2 H2 => wipe σ2 vs = wipe σ vs ∧ tt σ2 H2 fun b H3 =>
      if b = true then wi1 σ2 H3 fun J1 H4 => ∃ W1 : Nat → Nat → Hp → Prop, (∃ m, W1 0 m H4) ∧ ∀ j k H, W1 j k H →
      (J1.stop j H ∧ Nx H) ∨ (J1.go j H ∧ ∃ Nx1 : Hp → Prop, (∀ H', Nx1 H' → ∃ k', k' < k ∧ W1 (j + 1) k' H') ∧ ∀ x H', J1.yld j H x H' → g1 x (wipe σ2 vs1) H' fun σ3 H5 => wipe σ3 vs1 = wipe σ2 vs1 ∧ tt1 σ3 H5 fun b H6 =>
        if b = true then te σ3 H6 fun y H7 => ∃ acc, H7 D = some (.lst acc) ∧ acc.length < sizeLine ∧ Nx1 (upd H7 D (.lst (acc ++ [y]))) else Nx1 H6) else Nx H3) :=
  walk_core w (Body := fun Nx x H' => g x (wipe σ vs) H' fun σ2 H2 => wipe σ2 vs = wipe σ vs ∧ tt σ2 H2 fun b H3 =>
      if b = true then wi1 σ2 H3 fun J1 H4 => ∃ W1 : Nat → Nat → Hp → Prop, (∃ m, W1 0 m H4) ∧ ∀ j k H, W1 j k H →
      (J1.stop j H ∧ Nx H) ∨ (J1.go j H ∧ ∃ Nx1 : Hp → Prop, (∀ H', Nx1 H' → ∃ k', k' < k ∧ W1 (j + 1) k' H') ∧ ∀ x H', J1.yld j H x H' → g1 x (wipe σ2 vs1) H' fun σ3 H5 => wipe σ3 vs1 = wipe σ2 vs1 ∧ tt1 σ3 H5 fun b H6 =>
        if b = true then te σ3 H6 fun y H7 => ∃ acc, H7 D = some (.lst acc) ∧ acc.length < sizeLine ∧ Nx1 (upd H7 D (.lst (acc ++ [y]))) else Nx1 H6) else Nx H3) Pv h0 hG hs hd
end K39
namespace K39
open PySem PySem.Spec PyProof.Rows L2 PySem.W LamX KA KW KU KL KT
open Evl (pss_cut tCut)
/-! ### the law's own mixing -/
theorem erase_map {α β : Type} (f : α → β) : ∀ (l : List α) (d : Nat), (l.map f).eraseIdx d = (l.eraseIdx d).map f
  | [], _ => rfl
  | x :: l, 0 => rfl
  | x :: l, d + 1 => by
    rw [List.map_cons, List.eraseIdx_cons_succ, List.eraseIdx_cons_succ, List.map_cons, erase_map f l d]
theorem erase_perm {α : Type} : ∀ (l : List α) (d : Nat) (y : α), l[d]? = some y → ([y] ++ l.eraseIdx d).Perm l
  | [], _, _, h => by simp at h
  | x :: l, 0, y, h => by
    have : x = y := by simpa using h
    subst this
    exact List.Perm.refl _
  | x :: l, d + 1, y, h => by
    have ih := erase_perm l d y (by simpa using h)
    rw [List.eraseIdx_cons_succ]
    exact (List.Perm.swap x y _).trans (ih.cons x)
section
variable {P : Program} {w : World} {K : PySem.W.Frag} {mg : Str → Option Value} {base : Heap} (T : Top K mg)
def spMixed (K : PySem.W.Frag) : Sp := fun vs H Q _ => ∃ (st lg cl a : Addr) (is : List Int) (m : Nat), vs = [.ref st, .ref a] ∧ SqL K H a (is.map V.int) ∧ is.length ≤ 1000 ∧ m ≤ 900000 ∧ StAt H st lg cl m ∧
  ∀ (p : Addr) (js : List Int) (H' : Hp), js.Perm is → H' p = some (.lst (js.map V.int)) → H p = none → StAt H' st lg cl (m + is.length) → Kp st lg H H' → Q (.ref p) H'
end
end K39
namespace K39
open PySem PySem.Spec PyProof.Rows L2 PySem.W LamX KA KW KU KL KT
/-! ### comprehensions: what they leave, said once -/
theorem take_filter_yes {α : Type} {as : List α} {p : α → Bool} {i : Nat} {a : α} (e : as[i]? = some a) (h : p a = true) : (as.take (i + 1)).filter p = (as.take i).filter p ++ [a] := by
  rw [List.take_add_one, e, List.filter_append]
  simp [h]
theorem take_filter_no {α : Type} {as : List α} {p : α → Bool} {i : Nat} {a : α} (e : as[i]? = some a) (h : p a = false) : (as.take (i + 1)).filter p = (as.take i).filter p := by
  rw [List.take_add_one, e, List.filter_append]
  simp [h]
/-- what is left are plain values -/
theorem lcP {J : It} {n : Nat} {G : Hp → Prop} {Yd : Nat → Hp → V → Hp → Prop} (w : Walk J n G Yd) {g : TG} {tt : TT} {te : TE} {vs : List Nat} {σ : L2.St} {H1 : Hp} {D : Addr} {Qd : Hp → Prop} {α : Type} (as : List α) (p : α → Bool) (h : α → V)
    (hn : n = as.length) (hD : H1 D = none) (hG : ∀ H', Same H1 H' → G H') (l : as.length ≤ 100000) (hY : ∀ i H x H', Yd i H x H' → Same H H')
    (hs : ∀ i x a H H' (N : Hp → Prop) (R : VK), as[i]? = some a → Same H1 H → Yd i H x H' → (p a = true → ∀ H4, Same H' H4 → R (h a) H4) → (p a = false → ∀ H4, Same H' H4 → N H4) → g x (wipe σ vs) H' fun σ2 H2 => wipe σ2 vs = wipe σ vs ∧ tt σ2 H2 fun b H3 => if b = true then te σ2 H3 R else N H3)
    (hd : ∀ H', Same H1 H' → H' D = some (.lst ((as.filter p).map h)) → Qd H') :
    ∃ W : Nat → Nat → Hp → Prop, (∃ m, W 0 m (upd H1 D (.lst []))) ∧ ∀ i m H, W i m H →
      (J.stop i H ∧ Qd H) ∨ (J.go i H ∧ ∃ Nx : Hp → Prop, (∀ H', Nx H' → ∃ m', m' < m ∧ W (i + 1) m' H') ∧ ∀ x H', J.yld i H x H' → g x (wipe σ vs) H' fun σ2 H2 => wipe σ2 vs = wipe σ vs ∧ tt σ2 H2 fun b H3 =>
        if b = true then te σ2 H3 fun y H4 => ∃ acc, H4 D = some (.lst acc) ∧ acc.length < sizeLine ∧ Nx (upd H4 D (.lst (acc ++ [y]))) else Nx H3) := by
  subst hn
  refine lc_it w (fun i H => H D = some (.lst (((as.take i).filter p).map h)) ∧ Same H1 H) ⟨upd_same, Same.new hD⟩ (fun i H _ q => hG H q.2) ?_ ?_
  · rintro i x H H' hi ⟨e, s⟩ y
    obtain ⟨a, ha⟩ : ∃ a, as[i]? = some a := ⟨_, List.getElem?_eq_getElem hi⟩
    have s' := hY i H x H' y
    refine hs i x a H H' _ _ ha s y (fun hp H4 s4 => ?_) (fun hp H4 s4 => ?_)
    · refine ⟨_, s4 _ _ (s' _ _ e), ?_, ?_, ?_⟩
      · refine Nat.lt_of_le_of_lt (Nat.le_trans (List.length_map (as := (as.take i).filter p) h ▸ List.length_filter_le p (as.take i)) (Nat.le_trans (by rw [List.length_take]; exact Nat.min_le_right _ _) l)) (by decide)
      · rw [upd_same, take_filter_yes ha hp, List.map_append]
        rfl
      · exact Same.put (s.trans (s'.trans s4)) hD
    · rw [take_filter_no ha hp]
      exact ⟨s4 _ _ (s' _ _ e), s.trans (s'.trans s4)⟩
  · rintro H' ⟨e, s⟩
    rw [List.take_length] at e
    exact hd H' s e
/-- what is left are tuples -/
theorem lcR {J : It} {n : Nat} {G : Hp → Prop} {Yd : Nat → Hp → V → Hp → Prop} (w : Walk J n G Yd) {g : TG} {tt : TT} {te : TE} {vs : List Nat} {σ : L2.St} {H1 : Hp} {D : Addr} {Qd : Hp → Prop} {α β : Type} (f : β → List V) (as : List α) (p : α → Bool) (h : α → β)
    (hn : n = as.length) (hD : H1 D = none) (hG : ∀ H', Same H1 H' → G H') (l : as.length < 100000) (hY : ∀ i H x H', Yd i H x H' → Same H H')
    (hs : ∀ i x a H H' (N : Hp → Prop) (R : VK), as[i]? = some a → Same H1 H → Yd i H x H' → (p a = true → ∀ v H4, Same H' H4 → TupAt H4 v (f (h a)) → R v H4) → (p a = false → ∀ H4, Same H' H4 → N H4) → g x (wipe σ vs) H' fun σ2 H2 => wipe σ2 vs = wipe σ vs ∧ tt σ2 H2 fun b H3 => if b = true then te σ2 H3 R else N H3)
    (hd : ∀ H' ws, Same H1 H' → H' D = some (.lst ws) → RL f H' ws ((as.filter p).map h) → Qd H') :
    ∃ W : Nat → Nat → Hp → Prop, (∃ m, W 0 m (upd H1 D (.lst []))) ∧ ∀ i m H, W i m H →
      (J.stop i H ∧ Qd H) ∨ (J.go i H ∧ ∃ Nx : Hp → Prop, (∀ H', Nx H' → ∃ m', m' < m ∧ W (i + 1) m' H') ∧ ∀ x H', J.yld i H x H' → g x (wipe σ vs) H' fun σ2 H2 => wipe σ2 vs = wipe σ vs ∧ tt σ2 H2 fun b H3 =>
        if b = true then te σ2 H3 fun y H4 => ∃ acc, H4 D = some (.lst acc) ∧ acc.length < sizeLine ∧ Nx (upd H4 D (.lst (acc ++ [y]))) else Nx H3) := by
  subst hn
  refine lc_it w (fun i H => NI f H1 D (((as.take i).filter p).map h) H) (NI.new hD) (fun i H _ q => hG H q.s) ?_ ?_
  · rintro i x H H' hi ni y
    obtain ⟨a, ha⟩ : ∃ a, as[i]? = some a := ⟨_, List.getElem?_eq_getElem hi⟩
    have s' := hY i H x H' y
    refine hs i x a H H' _ _ ha ni.s y (fun hp v H4 s4 tv => ?_) (fun hp H4 s4 => ?_)
    · rw [take_filter_yes ha hp, List.map_append]
      refine (ni.same (s'.trans s4)).push hD ?_ tv
      rw [List.length_map]
      refine Nat.lt_of_le_of_lt (List.length_filter_le p (as.take i)) ?_
      rw [List.length_take]
      omega
    · rw [take_filter_no ha hp]
      exact ni.same (s'.trans s4)
  · rintro H' ⟨ws, e, r, s⟩
    rw [List.take_length] at r
    exact hd H' ws s e r
theorem yAt_same {xs : List V} : ∀ (i : Nat) (H : Hp) (x : V) (H' : Hp), YAt xs i H x H' → Same H H' := fun i H x H' y => by
  obtain ⟨rfl, _⟩ := y
  exact fun _ _ e => e
theorem yFn_same {f : Nat → V} : ∀ (i : Nat) (H : Hp) (x : V) (H' : Hp), YFn f i H x H' → Same H H' := fun i H x H' y => by
  obtain ⟨rfl, _⟩ := y
  exact fun _ _ e => e
theorem yPair_same {f g : Nat → Option V} : ∀ (i : Nat) (H : Hp) (x : V) (H' : Hp), YPair f g i H x H' → Same H H' := fun i H x H' y => by
  obtain ⟨T, x, y, rfl, hT, rfl, h1, h2⟩ := y
  exact Same.new hT
theorem walk_zipT {K : PySem.W.Frag} {a b : Addr} {xs ys : List V} {n : Nat} (hn : n = min xs.length ys.length) : Walk (RZ.ItzT K a b) n (fun H => SqT K H a xs ∧ SqT K H b ys) (YPair (fun i => xs[i]?) (fun i => ys[i]?)) := by
  subst hn
  constructor
  · intro i H lt ⟨sx, sy⟩
    exact ⟨xs, ys, _, _, sx, sy, List.getElem?_eq_getElem (Nat.lt_of_lt_of_le lt (Nat.min_le_left _ _)), List.getElem?_eq_getElem (Nat.lt_of_lt_of_le lt (Nat.min_le_right _ _))⟩
  · exact fun H q => ⟨xs, ys, q.1, q.2, by omega⟩
  · rintro i H v H' _ ⟨sx, sy⟩ ⟨t, x, y, ev, ft, eH, kx, ky⟩
    exact ⟨t, x, y, ev, ft, eH, kx xs sx, ky ys sy⟩
theorem walk_rangeN {n : Nat} : Walk (Itr 0 n) n (fun _ => True) (YFn fun i : Nat => V.int (i : Int)) := by
  have e : (fun i : Nat => V.int (0 + (i : Int))) = fun i : Nat => V.int (i : Int) := funext fun i => by rw [Int.zero_add]
  rw [← e]
  exact walk_range
theorem range_at {n i a : Nat} (h : (List.range n)[i]? = some a) : a = i ∧ i < n := by
  obtain ⟨h1, h2⟩ := List.getElem?_eq_some_iff.mp h
  rw [List.getElem_range] at h2
  rw [List.length_range] at h1
  exact ⟨h2.symm, h1⟩
def rLen (K : PySem.W.Frag) : List V → Hp → VK → Prop := fun xs H Q => ∃ p ys, xs = [.ref p] ∧ (SqL K H p ys ∨ SqT K H p ys) ∧ Q (.int ((ys.length : Nat) : Int)) H
/-! ### natural numbers as values -/
def NV (ns : List Nat) : List V := ns.map fun n : Nat => V.int (n : Int)
theorem NV_len (ns : List Nat) : (NV ns).length = ns.length := List.length_map _
theorem NV_ints (ns : List Nat) : NV ns = (ns.map fun n : Nat => (n : Int)).map V.int := by
  unfold NV
  rw [List.map_map]
  rfl
theorem NV_at {ns : List Nat} {i : Nat} {x : V} (h : (NV ns)[i]? = some x) : ∃ n, ns[i]? = some n ∧ x = .int (n : Int) := by
  unfold NV at h
  rw [List.getElem?_map] at h
  cases e : ns[i]? with
  | none => rw [e] at h; cases h
  | some n => rw [e] at h; exact ⟨n, rfl, (Option.some.inj h).symm⟩
theorem NV_get {ns : List Nat} {i : Nat} {n : Nat} (h : ns[i]? = some n) : (NV ns)[i]? = some (.int (n : Int)) := by
  unfold NV
  rw [List.getElem?_map, h]
  rfl
theorem NV_flat (ns : List Nat) : (NV ns).all flatV = true := by
  rw [List.all_eq_true]
  intro x hx
  obtain ⟨n, _, rfl⟩ := List.mem_map.mp hx
  rfl
theorem inV_NV (n : Nat) (ns : List Nat) : inV (.int (n : Int)) (NV ns) = inB ns n := by
  rw [Bool.eq_iff_iff]
  unfold inV inB NV
  rw [List.any_eq_true, decide_eq_true_eq]
  constructor
  · rintro ⟨x, hx, e⟩
    obtain ⟨m, hm, rfl⟩ := List.mem_map.mp hx
    have e : ((m : Int) == (n : Int)) = true := e
    have : (m : Int) = (n : Int) := eq_of_beq e
    have : m = n := by omega
    exact this ▸ hm
  · intro h
    exact ⟨.int (n : Int), List.mem_map.mpr ⟨n, h, rfl⟩, beq_self_eq_true (n : Int)⟩
/-- a list or a tuple at x of the tuples of these rows -/
def Wv (H : Hp) (x : V) (rows : List (List Nat)) : Prop := ∃ (a : Addr) (vs : List V), x = .ref a ∧ (H a = some (.lst vs) ∨ H a = some (.tup vs)) ∧ RL NV H vs rows
theorem Wv.keep {H H' : Hp} {x : V} {rows : List (List Nat)} (h : Wv H x rows) (s : Same H H') : Wv H' x rows := by
  obtain ⟨a, vs, rfl, e, r⟩ := h
  exact ⟨a, vs, rfl, e.imp (s _ _) (s _ _), r.same s⟩
end K39
namespace K39
open PySem PySem.Spec PyProof.Rows L2 PySem.W LamX KA KW KU KL KT
open Evl (pss_cut tCut)
/-! ### lots and whole sets -/
/-- no tuple -/
inductive Nt (H : Hp) : V → Prop where
  | int (i : Int) : Nt H (.int i)
  | bl (b : Bool) : Nt H (.bl b)
  | str (s : Str) : Nt H (.str s)
  | non : Nt H .non
  | lst {a : Addr} {xs : List V} (e : H a = some (.lst xs)) : Nt H (.ref a)
  | dK {a : Addr} {kvs : List (Key × V)} (e : H a = some (.dK kvs)) : Nt H (.ref a)
theorem Nt.ty {K : PySem.W.Frag} {H : Hp} {x : V} (h : Nt H x) : ∃ t : String, TyX K H x (.type t) ∧ kitB t "tuple" = some false := by
  cases h with
  | int i => exact ⟨"int", .base (.int i), by decide +kernel⟩
  | bl i => exact ⟨"bool", .base (.bl i), by decide +kernel⟩
  | str i => exact ⟨"str", .base (.str i), by decide +kernel⟩
  | non => exact ⟨"NoneType", .base .non, by decide +kernel⟩
  | lst e => exact ⟨"list", .base (.lst e), by decide +kernel⟩
  | dK e => exact ⟨"dict", .base (.dK e), by decide +kernel⟩
theorem Nt.keep {H H' : Hp} {x : V} (h : Nt H x) (s : Same H H') : Nt H' x := by
  cases h with
  | int i => exact .int i
  | bl i => exact .bl i
  | str i => exact .str i
  | non => exact .non
  | lst e => exact .lst (s _ _ e)
  | dK e => exact .dK (s _ _ e)
theorem Pl.keep {K : PySem.W.Frag} {H H' : Hp} {x : V} {b : Bool} (h : Pl K H x b) (s : Same H H') : Pl K H' x b := by
  cases h with
  | int i => exact .int i
  | bl i => exact .bl i
  | str i => exact .str i
  | non => exact .non
  | tup e => exact .tup (s _ _ e)
  | lst e => exact .lst (s _ _ e)
  | dK e => exact .dK (s _ _ e)
/-- values that hold no others -/
inductive Fl : V → Prop where
  | int (i : Int) : Fl (.int i)
  | bl (b : Bool) : Fl (.bl b)
  | str (s : Str) (h : PyData.strOk s = true) : Fl (.str s)
  | non : Fl .non
theorem Fl.pl {K : PySem.W.Frag} {H : Hp} {x : V} (h : Fl x) : ∃ b, Pl K H x b := by
  cases h with
  | int i => exact ⟨_, .int i⟩
  | bl i => exact ⟨_, .bl i⟩
  | str i _ => exact ⟨_, .str i⟩
  | non => exact ⟨_, .non⟩
/-- a value as a set of frames -/
inductive Rv (K : PySem.W.Frag) (H : Hp) : V → Option (List V) → Prop where
  | no {x : V} (h : Nt H x) : Rv K H x none
  | tup {a : Addr} {xs : List V} (e : H a = some (.tup xs)) (p : ∀ x ∈ xs, Fl x) (l : xs.length ≤ 1000) : Rv K H (.ref a) (some xs)
theorem Rv.keep {K : PySem.W.Frag} {H H' : Hp} {x : V} {o : Option (List V)} (h : Rv K H x o) (s : Same H H') : Rv K H' x o := by
  cases h with
  | no h => exact .no (h.keep s)
  | tup e p l => exact .tup (s _ _ e) p l
theorem Rv.nv {K : PySem.W.Frag} {H : Hp} {a : Addr} {ns : List Nat} (e : H a = some (.tup (NV ns))) (l : ns.length ≤ 1000) : Rv K H (.ref a) (some (NV ns)) := .tup e (fun x hx => by
  obtain ⟨n, _, rfl⟩ := List.mem_map.mp hx
  exact .int n) (by rw [NV_len]; exact l)
def natOf : V → Nat
  | .int i => i.toNat
  | _ => 0
def nats (o : Option (List V)) : List Nat := (o.getD []).map natOf
def insideB (n : Nat) (xs : List V) : Bool := xs.all fun x => within x 0 ((n : Int) - 1)
def lotV (n : Nat) : Option (List V) → Bool
  | none => false
  | some xs => insideB n xs && ascB (xs.map natOf)
theorem nats_NV (ns : List Nat) : nats (some (NV ns)) = ns := by
  show (NV ns).map natOf = ns
  unfold NV
  rw [List.map_map]
  exact (List.map_congr_left (fun x _ => Int.toNat_natCast x)).trans (List.map_id _)
theorem inside_nv {n : Nat} : ∀ {xs : List V}, insideB n xs = true → xs = NV (xs.map natOf) ∧ ∀ x ∈ xs.map natOf, x < n
  | [], _ => ⟨rfl, fun x hx => nomatch hx⟩
  | x :: xs, h => by
    have h : (within x 0 ((n : Int) - 1) && insideB n xs) = true := h
    rw [Bool.and_eq_true] at h
    obtain ⟨e1, e2⟩ := inside_nv h.2
    obtain ⟨i, rfl, h1, h2⟩ : ∃ i, x = .int i ∧ 0 ≤ i ∧ i ≤ (n : Int) - 1 := within_int h.1
    have ei : ((natOf (.int i) : Nat) : Int) = i := Int.toNat_of_nonneg h1
    refine ⟨?_, fun y hy => ?_⟩
    · show V.int i :: xs = V.int (natOf (.int i) : Nat) :: NV (xs.map natOf)
      rw [ei, ← e1]
    · rcases List.mem_cons.mp hy with rfl | hy
      · have : ((natOf (.int i) : Nat) : Int) < n := by omega
        exact Int.ofNat_lt.mp this
      · exact e2 y hy
theorem inside_NV (n : Nat) (ns : List Nat) : insideB n (NV ns) = ns.all fun x => decide (x < n) := by
  unfold insideB NV
  rw [List.all_map]
  refine congrArg (fun f => ns.all f) (funext fun x => ?_)
  show (decide ((0 : Int) ≤ x) && decide ((x : Int) ≤ n - 1)) = _
  rw [Bool.eq_iff_iff, Bool.and_eq_true, decide_eq_true_eq, decide_eq_true_eq, decide_eq_true_eq]
  omega
theorem lotV_NV (n : Nat) (ns : List Nat) : lotV n (some (NV ns)) = lotB n ns := by
  show (insideB n (NV ns) && ascB (nats (some (NV ns)))) = _
  rw [inside_NV, nats_NV]
  rfl
theorem lotV_nv {n : Nat} {o : Option (List V)} (h : lotV n o = true) : ∃ ns, o = some (NV ns) ∧ nats o = ns ∧ lotB n ns = true := by
  cases o with
  | none => cases h
  | some xs =>
    have h' := h
    rw [lotV, Bool.and_eq_true] at h'
    have e := (inside_nv h'.1).1
    rw [e] at h ⊢
    exact ⟨_, rfl, nats_NV _, (lotV_NV n _).symm.trans h⟩
def spLot (K : PySem.W.Frag) : Sp := fun vs H Q _ => ∃ (x : V) (o : Option (List V)) (n : Nat), vs = [x, .int (n : Int)] ∧ Rv K H x o ∧ ∀ H', Same H H' → Q (.bl (lotV n o)) H'
def spAreIn (K : PySem.W.Frag) : Sp := fun vs H Q _ => ∃ (a b : Addr) (ns ms : List Nat), vs = [.ref a, .ref b] ∧ H a = some (.tup (NV ns)) ∧ ns.length ≤ 1000 ∧ (H b = some (.lst (NV ms)) ∨ H b = some (.tup (NV ms))) ∧ ∀ H', Same H H' → Q (.bl (ns.all (inB ms))) H'
def spWhole (K : PySem.W.Frag) : Sp := fun vs H Q _ => ∃ (x y : V) (rows : List (List Nat)) (o : Option (List V)), vs = [x, y] ∧ Wv H x rows ∧ rows.length ≤ 1000 ∧ (∀ r ∈ rows, r.length ≤ 1000) ∧ Rv K H y o ∧ ∀ H', Same H H' → Q (.bl (lotV rows.length o && wholeB rows (nats o))) H'
theorem within_nat (x n : Nat) : within (.int (x : Int)) 0 ((n : Int) - 1) = decide (x < n) := by
  show (decide ((0 : Int) ≤ x) && decide ((x : Int) ≤ n - 1)) = _
  rw [Bool.eq_iff_iff, Bool.and_eq_true, decide_eq_true_eq, decide_eq_true_eq, decide_eq_true_eq]
  omega
theorem ix_either {K : PySem.W.Frag} {a : Addr} {vs : List V} {H : Hp} {Q : VK} {i : Nat} {v : V} (ha : H a = some (.lst vs) ∨ H a = some (.tup vs)) (h : vs[i]? = some v) (q : Q v H) : rIx K (.ref a) (.int (i : Int)) H Q := by
  rcases ha with ha | ha
  · exact .inl ⟨a, vs, _, v, rfl, rfl, SqL.of ha, atI_nat h, q⟩
  · exact .inr (.inl ⟨a, vs, _, v, rfl, rfl, SqT.of ha, atI_nat h, q⟩)
/-- neighbours rise -/
def pairsUp (ns : List Nat) : List (Nat × Nat) := ns.zip ns.tail
theorem pairsUp_all : ∀ ns : List Nat, (pairsUp ns).all (fun p => decide (p.1 < p.2)) = ascB ns
  | [] => rfl
  | [x] => rfl
  | x :: y :: l => by
    have ih := pairsUp_all (y :: l)
    show (decide (x < y) && (pairsUp (y :: l)).all _) = (decide (x < y) && ascB (y :: l))
    rw [ih]
theorem all_map_bl {α : Type} (as : List α) (p : α → Bool) : (as.map fun a => V.bl (p a)) = (as.map p).map V.bl := by rw [List.map_map]; rfl
theorem all_id {α : Type} (as : List α) (p : α → Bool) : (as.map p).all id = as.all p := by rw [List.all_map]; rfl
theorem filter_yes {α : Type} (as : List α) : as.filter (fun _ => true) = as := List.filter_eq_self.mpr fun _ _ => rfl
theorem sl_tail {K : PySem.W.Frag} {a : Addr} {ns : List Nat} {H : Hp} {Q : VK} (e : H a = some (.tup (NV ns))) (k : ∀ q H', Same H H' → H' q = some (.tup (NV ns.tail)) → Q (.ref q) H') : rSlA K (.ref a) (some 1) none H Q := by
  have c1 : HT.sIx (NV ns).length 0 (some 1) = min 1 ns.length := (HT.sIx_nat _ 0 1).trans (by rw [NV_len])
  refine ⟨a, NV ns, rfl, SqT.of e, fun c => ?_, fun c p hp => ?_⟩
  · have : ns = [] := by
      rw [c1] at c
      exact List.eq_nil_of_length_eq_zero (by omega)
    subst this
    exact k a H (fun _ _ e => e) e
  · have : cutV (NV ns) (some 1) none = NV ns.tail := by
      unfold cutV
      rw [c1, HT.sIx_none, NV_len]
      cases ns with
      | nil => rfl
      | cons x l =>
        rw [show min 1 (x :: l).length = 1 by rw [List.length_cons]; omega, List.take_of_length_le (by rw [List.length_drop, NV_len]; exact Nat.le_refl _)]
        rfl
    rw [this]
    exact k p _ (Same.new hp) upd_same
section
variable {P : Program} {w : World} {K : PySem.W.Frag} {mg : Str → Option Value} {base : Heap} (T : Top K mg)
end
end K39
namespace K39
/-! ### frames over a line: the mathematics -/
/-- what has come by a tick, as early as may be -/
def comeBy (rate : Int) (can : Nat → Int) : Nat → Int
  | 0 => can 0
  | t + 1 => min (comeBy rate can t + rate) (can (t + 1))
variable {rate : Int} {can must : Nat → Int}
theorem come_le : ∀ (e s : Nat), s ≤ e → comeBy rate can e ≤ can s + rate * ((e : Int) - s)
  | 0, s, h => by
    have : s = 0 := by omega
    subst this
    show can 0 ≤ can 0 + rate * (((0 : Nat) : Int) - ((0 : Nat) : Int))
    rw [Int.sub_self, Int.mul_zero, Int.add_zero]
    exact Int.le_refl _
  | e + 1, s, h => by
    show min (comeBy rate can e + rate) (can (e + 1)) ≤ _
    by_cases c : s = e + 1
    · subst c
      rw [Int.sub_self, Int.mul_zero, Int.add_zero]
      exact Int.min_le_right _ _
    · have ih := come_le e s (by omega)
      have e1 : rate * (((e + 1 : Nat) : Int) - s) = rate * ((e : Int) - s) + rate := by
        rw [show (((e + 1 : Nat) : Int) - s) = ((e : Int) - s) + 1 by omega, Int.mul_add, Int.mul_one]
      rw [e1]
      have := Int.min_le_left (comeBy rate can e + rate) (can (e + 1))
      omega
theorem come_at : ∀ e : Nat, ∃ s, s ≤ e ∧ comeBy rate can e = can s + rate * ((e : Int) - s)
  | 0 => ⟨0, Nat.le_refl _, by
    show can 0 = can 0 + rate * (((0 : Nat) : Int) - ((0 : Nat) : Int))
    rw [Int.sub_self, Int.mul_zero, Int.add_zero]⟩
  | e + 1 => by
    obtain ⟨s, hs, ih⟩ := come_at e
    show ∃ s, s ≤ e + 1 ∧ min (comeBy rate can e + rate) (can (e + 1)) = _
    by_cases c : comeBy rate can e + rate ≤ can (e + 1)
    · refine ⟨s, by omega, ?_⟩
      rw [Int.min_eq_left c, ih, show (((e + 1 : Nat) : Int) - s) = ((e : Int) - s) + 1 by omega, Int.mul_add, Int.mul_one]
      omega
    · refine ⟨e + 1, Nat.le_refl _, ?_⟩
      rw [Int.min_eq_right (by omega), Int.sub_self, Int.mul_zero, Int.add_zero]
/-- too little has come at some tick exactly where two ticks are too near -/
theorem gap_iff {last : Nat} : (∃ e, e ≤ last ∧ comeBy rate can e < must e) ↔ ∃ s e, s ≤ e ∧ e ≤ last ∧ must e - can s > rate * ((e : Int) - s) := by
  constructor
  · rintro ⟨e, he, h⟩
    obtain ⟨s, hs, q⟩ := come_at (rate := rate) (can := can) e
    exact ⟨s, e, hs, he, by omega⟩
  · rintro ⟨s, e, hs, he, h⟩
    have := come_le (rate := rate) (can := can) e s hs
    exact ⟨e, he, by omega⟩
end K39
namespace KIN
open PySem PySem.Spec PyProof.Rows L2 PySem.W
/-! ### x is None, x is not None -/
theorem none_rel {x : V} {v : Value} (r : L2.RelV x v) : decide (x = V.non) = (v == Value.none) := by
  cases x with
  | non => cases r; rfl
  | bl b => cases r; rfl
  | ref a => cases r; rfl
  | _ => first
    | (obtain ⟨t, rfl⟩ := r; rfl)
    | (cases r; rfl)
def rIsN : R2 := fun x y H Q => y = V.non ∧ Q (V.bl (decide (x = V.non))) H
def rIsntN : R2 := fun x y H Q => y = V.non ∧ Q (V.bl (!decide (x = V.non))) H
theorem op_isntN {X : Cx} : OpR X (compareOp CmpOp.IsNot) rIsntN := by
  intro pins s σ H x y v u Q I rx ry h
  obtain ⟨rfl, q⟩ := h
  cases ry
  exact isnot_none_gen (fin_bl I q (congrArg (! ·) (none_rel rx)))
end KIN
namespace K39
open PySem PySem.Spec PyProof.Rows L2 PySem.W LamX KA KW KU KL KT
open Evl (pss_cut tCut)
/-! ### what is asked is checked -/
/-- neither a list nor a tuple -/
inductive Ns (H : Hp) : V → Prop where
  | int (i : Int) : Ns H (.int i)
  | bl (b : Bool) : Ns H (.bl b)
  | str (s : Str) : Ns H (.str s)
  | non : Ns H .non
  | dK {a : Addr} {kvs : List (Key × V)} (e : H a = some (.dK kvs)) : Ns H (.ref a)
theorem Ns.keep {H H' : Hp} {x : V} (h : Ns H x) (s : Same H H') : Ns H' x := by
  cases h with
  | int i => exact .int i
  | bl i => exact .bl i
  | str i => exact .str i
  | non => exact .non
  | dK e => exact .dK (s _ _ e)
theorem kit_two {K : PySem.W.Frag} {t a b : String} {x y : Bool} (e1 : kitB t a = some x) (e2 : kitB t b = some y) : PySem.W.kitAny K (.type t) [.type a, .type b] = some (x || y) := by
  unfold PySem.W.kitAny
  rw [kit_ty e1]
  cases x
  · show (match PySem.W.kitOne K (.type t) (.type b) with | some true => some true | some false => some false | none => none) = _
    rw [kit_ty e2]
    cases y <;> rfl
  · rfl
theorem Ns.ty {K : PySem.W.Frag} {H : Hp} {x : V} (h : Ns H x) : ∃ t : String, TyX K H x (.type t) ∧ PySem.W.kitAny K (.type t) [.type "list", .type "tuple"] = some false := by
  cases h with
  | int i => exact ⟨"int", .base (.int i), kit_two (x := false) (y := false) (by decide +kernel) (by decide +kernel)⟩
  | bl i => exact ⟨"bool", .base (.bl i), kit_two (x := false) (y := false) (by decide +kernel) (by decide +kernel)⟩
  | str i => exact ⟨"str", .base (.str i), kit_two (x := false) (y := false) (by decide +kernel) (by decide +kernel)⟩
  | non => exact ⟨"NoneType", .base .non, kit_two (x := false) (y := false) (by decide +kernel) (by decide +kernel)⟩
  | dK e => exact ⟨"dict", .base (.dK e), kit_two (x := false) (y := false) (by decide +kernel) (by decide +kernel)⟩
/-- a value as a line of numbers -/
inductive Gn (K : PySem.W.Frag) (H : Hp) : V → Option (List V) → Prop where
  | no {x : V} (h : Ns H x) : Gn K H x none
  | some {a : Addr} {xs : List V} (e : H a = some (.lst xs) ∨ H a = some (.tup xs)) (p : ∀ x ∈ xs, Fl x) (l : xs.length ≤ 1000) : Gn K H (.ref a) (some xs)
theorem Gn.keep {K : PySem.W.Frag} {H H' : Hp} {x : V} {o : Option (List V)} (h : Gn K H x o) (s : Same H H') : Gn K H' x o := by
  cases h with
  | no h => exact .no (h.keep s)
  | some e p l => exact .some (e.imp (s _ _) (s _ _)) p l
def sizesB (n : Nat) : Option (List V) → Bool
  | none => false
  | some xs => decide (1 ≤ xs.length) && (decide (xs.length ≤ n) && xs.all fun x => within x 0 9999)
def spSizes (K : PySem.W.Frag) : Sp := fun vs H Q _ => ∃ (x : V) (o : Option (List V)) (n : Nat), vs = [x, .int (n : Int)] ∧ Gn K H x o ∧ ∀ H', Same H H' → Q (.bl (sizesB n o)) H'
def spCkSizes (K : PySem.W.Frag) (C : Addr) : Sp := fun vs H Q E => ∃ x o, vs = [x] ∧ Gn K H x o ∧ (sizesB 12 o = true → ∀ H', Same H H' → Q .non H') ∧ (sizesB 12 o = false → ∀ H', Same H H' → E (.ref C) none H')
def spCkDelay (K : PySem.W.Frag) (C : Addr) : Sp := fun vs H Q E => ∃ x b mo, vs = [x, .int mo] ∧ Pl K H x b ∧ (within x 0 mo = true → Q .non H) ∧ (within x 0 mo = false → E (.ref C) none H)
def heldB (x : V) : Bool := decide (x = .non) || within x 0 99999
def spCkHold (K : PySem.W.Frag) (C : Addr) : Sp := fun vs H Q E => ∃ x b, vs = [x] ∧ Pl K H x b ∧ (heldB x = true → Q .non H) ∧ (heldB x = false → E (.ref C) none H)
section
variable {P : Program} {w : World} {K : PySem.W.Frag} {mg : Str → Option Value} {base : Heap} (T : Top K mg)
theorem ok_are_sizes : FnOk P w K mg base (L2.CX P w) 3 T.are_sizes.a T.are_sizes.d ["thing", "many"] (spSizes K) := by
  refine T.are_sizes.f.okX sc_are_sizes (fun vs H Q E h => ?_) (fun cdv A outer s H vs Q E hr h => ?_)
  · obtain ⟨x, o, n, rfl, _⟩ := h
    rfl
  · obtain ⟨x, o, n, rfl, hg, k⟩ := h
    obtain ⟨tS, hcS⟩ := T.cMOST_SIZE
    refine ⟨_, (pss_one (ps_ret (pe_and (pe_callB (show CallR _ _ (rIsiT K) from call_isiT) (by rfl) T.b_isinstance PyProof.Rows.boot_isinstance (pa_cons (pv 0) (pa_cons (pe_tup (pa_cons (pe_bltn (v := .ty "list") (by rfl) T.b_list (by decide +kernel) rfl) (pa_cons (pe_bltn (v := .ty "tuple") (by rfl) T.b_tuple (by decide +kernel) rfl) pa_nil))) pa_nil))) (pe_and (pe_chain op_le op_le pe_int (pe_callB call_len_seq (by rfl) T.b_len PySem.boot_len (pa_cons (pv 0) pa_nil)) (pv 1)) (pe_one (pe_callB (cr_all rfl) (by rfl) T.b_all (by decide +kernel) (pa_cons (pe_lc (own := [("size", 2)]) (g := (gName 2)) (tt := tYes) rfl sc_are_sizes.nd (KEN.pi_seqS (pv 0)) (blkOk_by (own := [("size", 2)]) (N := ["thing", "many", "size"]) (sc := defScope s_are_sizes) (by decide +kernel)) (fun _ _ _ _ _ => pg_name (i := 2) sc_are_sizes.nd rfl (by first | exact .inl rfl | exact .inr rfl)) (fun _ _ _ _ _ => pts_nil) (fun _ _ _ _ _ => (pe_call (ok_is_within T) (hr.mono (by decide)) (by rfl) T.is_within.m T.is_within.f.kp (bd_is_within T) .nil passE (pa_cons (pv 2) (pa_cons pe_int (pa_cons (pe_glob (v := .int 9999) (by rfl) hcS ⟨_, rfl⟩) pa_nil)))))) pa_nil))))))), ?_⟩
    refine ⟨_, rfl, (by show 2 ≤ sizeLine; decide), fun z hz => ?_⟩
    have tz := Same.new (o := .tup [V.ty "list", .ty "tuple"]) hz
    cases hg with
    | no hn =>
      obtain ⟨t, ht, kt⟩ := (hn.keep tz).ty (K := K)
      refine ⟨x, z, _, _, _, _, rfl, upd_same, .cons (.ty "list") (.cons (.ty "tuple") .nil), ht, kt, _, rfl, ?_⟩
      exact iteF (k _ tz)
    | @some a xs ha hp hl =>
    obtain ⟨t, ht, kt⟩ : ∃ t, TyX K (upd H z (.tup [V.ty "list", .ty "tuple"])) (.ref a) (.type t) ∧ PySem.W.kitAny K (.type t) [.type "list", .type "tuple"] = some true := by
      rcases ha with ha | ha
      · exact ⟨_, .base (.lst (tz _ _ ha)), kit_two (x := true) (y := false) (by decide +kernel) (by decide +kernel)⟩
      · exact ⟨_, .base (.tup (tz _ _ ha)), kit_two (x := false) (y := true) (by decide +kernel) (by decide +kernel)⟩
    refine ⟨_, z, _, _, _, _, rfl, upd_same, .cons (.ty "list") (.cons (.ty "tuple") .nil), ht, kt, _, rfl, iteT ?_⟩
    clear ht kt t
    have ha := ha.imp (tz _ _) (tz _ _)
    generalize upd H z (.tup [V.ty "list", .ty "tuple"]) = Hz at tz ha
    refine ⟨_, rfl, a, xs, rfl, ha.imp SqL.of SqT.of, 1, ((xs.length : Nat) : Int), rfl, rfl, ?_⟩
    refine ⟨_, rfl, ?_⟩
    have e0 : sizesB n (some xs) = (decide (1 ≤ xs.length) && (decide (xs.length ≤ n) && xs.all fun x => within x 0 9999)) := rfl
    by_cases c1 : 1 ≤ xs.length
    case neg =>
      rw [decide_eq_false (show ¬ ((1 : Int) ≤ ((xs.length : Nat) : Int)) by omega)]
      refine iteF ⟨_, rfl, iteF (q_bl (k _ tz) ?_)⟩
      rw [e0, decide_eq_false c1]
      rfl
    rw [decide_eq_true (show ((1 : Int) ≤ ((xs.length : Nat) : Int)) by omega)]
    refine iteT ⟨_, rfl, _, _, rfl, rfl, _, rfl, ?_⟩
    by_cases c2 : xs.length ≤ n
    case neg =>
      rw [decide_eq_false (show ¬ (((xs.length : Nat) : Int) ≤ (n : Int)) by omega)]
      refine iteF (q_bl (k _ tz) ?_)
      rw [e0, decide_eq_false c2, Bool.false_and, Bool.and_false]
    rw [decide_eq_true (show (((xs.length : Nat) : Int) ≤ (n : Int)) by omega)]
    refine iteT ?_
    rw [decide_eq_true c1, decide_eq_true c2, Bool.true_and, Bool.true_and] at e0
    rw [e0] at k
    refine ⟨_, rfl, a, xs, rfl, ha.imp SqL.of SqT.of, fun J G wk hG => fun D hD => ?_⟩
    refine lcP wk xs (fun _ => true) (fun x => V.bl (within x 0 9999)) rfl hD hG (Nat.le_trans hl (by decide)) yAt_same ?_ ?_
    · rintro i x m H1 H2 N R hm s1 ⟨rfl, hx⟩ hy hn
      rw [hm] at hx
      cases hx
      refine ⟨rfl, ?_⟩
      dsimp only [tYes]
      rw [if_pos rfl]
      obtain ⟨b, hb⟩ := Fl.pl (K := K) (H := H2) (hp _ (List.mem_of_getElem? hm))
      exact ⟨_, rfl, _, b, _, _, rfl, hb, hy rfl _ fun _ _ e => e⟩
    · intro H1 s1 e1
      rw [filter_yes, all_map_bl] at e1
      refine ⟨D, _, rfl, SqL.of e1, ?_⟩
      rw [all_id]
      exact k H1 (tz.trans s1)
theorem ok_check_sizes : FnOk P w K mg base (L2.CX P w) 4 T.check_sizes.a T.check_sizes.d ["sizes"] (spCkSizes K T.BadSizes.C) := by
  refine T.check_sizes.f.okX sc_check_sizes (fun vs H Q E h => ?_) (fun cdv A outer s H vs Q E hr h => ?_)
  · obtain ⟨x, o, rfl, _⟩ := h
    rfl
  · obtain ⟨x, o, rfl, hg, k1, k2⟩ := h
    obtain ⟨tF, hcF⟩ := T.cMOST_FRAMES
    refine ⟨_, (pss_one (ps_if (pt_not (pt_val (pe_call (ok_are_sizes T) (hr.mono (by decide)) (by rfl) T.are_sizes.m T.are_sizes.f.kp (bd_are_sizes T) .nil passE (pa_cons (pv 0) (pa_cons (pe_glob (v := .int 12) (by rfl) hcF ⟨_, rfl⟩) pa_nil))))) (pss_one (ps_raiseT rfl rfl T.BadSizes (by rfl) rfl (takes_of rfl rfl rfl rfl))) pss_nil)), ?_⟩
    refine ⟨_, rfl, x, o, 12, rfl, hg, fun H1 s1 => ⟨_, rfl, ?_⟩⟩
    cases c : sizesB 12 o with
    | true => exact iteF (k1 c H1 s1)
    | false => exact iteT (k2 c H1 s1)
theorem ok_check_rate : FnOk P w K mg base (L2.CX P w) 4 T.check_rate.a T.check_rate.d ["rate"] (spCheck K 1 9999 T.BadRate.C) := by
  refine T.check_rate.f.okX sc_check_rate (fun vs H Q E h => ?_) (fun cdv A outer s H vs Q E hr h => ?_)
  · obtain ⟨x, b, rfl, _⟩ := h
    rfl
  · obtain ⟨x, b, rfl, hp, k1, k2⟩ := h
    obtain ⟨tR, hcR⟩ := T.cMOST_RATE
    refine ⟨_, (pss_one (ps_if (pt_not (pt_val (pe_call (ok_is_within T) (hr.mono (by decide)) (by rfl) T.is_within.m T.is_within.f.kp (bd_is_within T) .nil passE (pa_cons (pv 0) (pa_cons pe_int (pa_cons (pe_glob (v := .int 9999) (by rfl) hcR ⟨_, rfl⟩) pa_nil)))))) (pss_one (ps_raiseT rfl rfl T.BadRate (by rfl) rfl (takes_of rfl rfl rfl rfl))) pss_nil)), ?_⟩
    refine ⟨_, rfl, x, b, _, _, rfl, hp, _, rfl, ?_⟩
    cases c : within x 1 9999 with
    | true => exact iteF (k1 c)
    | false => exact iteT (k2 c)
theorem ok_check_delay : FnOk P w K mg base (L2.CX P w) 4 T.check_delay.a T.check_delay.d ["delay", "most"] (spCkDelay K T.BadDelay.C) := by
  refine T.check_delay.f.okX sc_check_delay (fun vs H Q E h => ?_) (fun cdv A outer s H vs Q E hr h => ?_)
  · obtain ⟨x, b, mo, rfl, _⟩ := h
    rfl
  · obtain ⟨x, b, mo, rfl, hp, k1, k2⟩ := h
    refine ⟨_, (pss_one (ps_if (pt_not (pt_val (pe_call (ok_is_within T) (hr.mono (by decide)) (by rfl) T.is_within.m T.is_within.f.kp (bd_is_within T) .nil passE (pa_cons (pv 0) (pa_cons pe_int (pa_cons (pv 1) pa_nil)))))) (pss_one (ps_raiseT rfl rfl T.BadDelay (by rfl) rfl (takes_of rfl rfl rfl rfl))) pss_nil)), ?_⟩
    refine ⟨_, rfl, _, rfl, x, b, _, _, rfl, hp, _, rfl, ?_⟩
    cases c : within x 0 mo with
    | true => exact iteF (k1 c)
    | false => exact iteT (k2 c)
theorem ok_check_hold : FnOk P w K mg base (L2.CX P w) 4 T.check_hold.a T.check_hold.d ["hold"] (spCkHold K T.BadHold.C) := by
  refine T.check_hold.f.okX sc_check_hold (fun vs H Q E h => ?_) (fun cdv A outer s H vs Q E hr h => ?_)
  · obtain ⟨x, b, rfl, _⟩ := h
    rfl
  · obtain ⟨x, b, rfl, hp, k1, k2⟩ := h
    obtain ⟨tH, hcH⟩ := T.cMOST_HELD
    refine ⟨_, (pss_one (ps_if (PW.pt (pw_and (pt_cmpR (show OpR _ _ KIN.rIsntN from KIN.op_isntN) (pv 0) pe_non (nomark _)) (pw_and1 (pt_not (pt_val (pe_call (ok_is_within T) (hr.mono (by decide)) (by rfl) T.is_within.m T.is_within.f.kp (bd_is_within T) .nil passE (pa_cons (pv 0) (pa_cons pe_int (pa_cons (pe_glob (v := .int 99999) (by rfl) hcH ⟨_, rfl⟩) pa_nil))))))))) (pss_one (ps_raiseT rfl rfl T.BadHold (by rfl) rfl (takes_of rfl rfl rfl rfl))) pss_nil)), ?_⟩
    refine ⟨_, rfl, rfl, _, rfl, ?_⟩
    by_cases c0 : x = .non
    · rw [decide_eq_true c0]
      exact iteF (k1 (by unfold heldB; rw [decide_eq_true c0]; rfl))
    · rw [decide_eq_false c0]
      have e0 : heldB x = within x 0 99999 := by unfold heldB; rw [decide_eq_false c0]; rfl
      rw [e0] at k1 k2
      refine iteT ⟨_, rfl, x, b, _, _, rfl, hp, _, rfl, ?_⟩
      cases c : within x 0 99999 with
      | true => exact iteF (k1 c)
      | false => exact iteT (k2 c)
theorem ok_check_room : FnOk P w K mg base (L2.CX P w) 4 T.check_room.a T.check_room.d ["room"] (spCkHold K T.BadRoom.C) := by
  refine T.check_room.f.okX sc_check_room (fun vs H Q E h => ?_) (fun cdv A outer s H vs Q E hr h => ?_)
  · obtain ⟨x, b, rfl, _⟩ := h
    rfl
  · obtain ⟨x, b, rfl, hp, k1, k2⟩ := h
    obtain ⟨tH, hcH⟩ := T.cMOST_HELD
    refine ⟨_, (pss_one (ps_if (PW.pt (pw_and (pt_cmpR (show OpR _ _ KIN.rIsntN from KIN.op_isntN) (pv 0) pe_non (nomark _)) (pw_and1 (pt_not (pt_val (pe_call (ok_is_within T) (hr.mono (by decide)) (by rfl) T.is_within.m T.is_within.f.kp (bd_is_within T) .nil passE (pa_cons (pv 0) (pa_cons pe_int (pa_cons (pe_glob (v := .int 99999) (by rfl) hcH ⟨_, rfl⟩) pa_nil))))))))) (pss_one (ps_raiseT rfl rfl T.BadRoom (by rfl) rfl (takes_of rfl rfl rfl rfl))) pss_nil)), ?_⟩
    refine ⟨_, rfl, rfl, _, rfl, ?_⟩
    by_cases c0 : x = .non
    · rw [decide_eq_true c0]
      exact iteF (k1 (by unfold heldB; rw [decide_eq_true c0]; rfl))
    · rw [decide_eq_false c0]
      have e0 : heldB x = within x 0 99999 := by unfold heldB; rw [decide_eq_false c0]; rfl
      rw [e0] at k1 k2
      refine iteT ⟨_, rfl, x, b, _, _, rfl, hp, _, rfl, ?_⟩
      cases c : within x 0 99999 with
      | true => exact iteF (k1 c)
      | false => exact iteT (k2 c)
end
end K39
namespace K39
/-! ### sums of what is ahead -/
def pre (l : List Int) (k : Nat) : Int := (l.take k).sum
theorem range_lt (k : Nat) : ∀ n : Nat, (List.range n).filter (fun s => decide (s < k)) = List.range (min k n)
  | 0 => by rw [Nat.min_zero]; rfl
  | n + 1 => by
    rw [List.range_succ, List.filter_append, range_lt k n]
    by_cases c : n < k
    · rw [List.filter_cons, decide_eq_true c, if_pos rfl, List.filter_nil, Nat.min_eq_right (show n ≤ k by omega), Nat.min_eq_right (show n + 1 ≤ k by omega), List.range_succ]
    · rw [List.filter_cons, decide_eq_false c, if_neg Bool.false_ne_true, List.filter_nil, List.append_nil, Nat.min_eq_left (show k ≤ n by omega), Nat.min_eq_left (show k ≤ n + 1 by omega)]
theorem map_take (l : List Int) (k : Nat) : (List.range (min k l.length)).map (fun s => l.getD s 0) = l.take k := by
  refine List.ext_getElem? fun i => ?_
  rw [List.getElem?_map]
  by_cases c : i < min k l.length
  · rw [List.getElem?_range c, List.getElem?_take_of_lt (by omega)]
    show some (l.getD i 0) = _
    rw [List.getD_eq_getElem?_getD, List.getElem?_eq_getElem (show i < l.length by omega)]
    rfl
  · rw [List.getElem?_eq_none (by rw [List.length_range]; omega), List.getElem?_eq_none (by rw [List.length_take]; omega)]
    rfl
/-- the sum over the places ahead of k -/
theorem sum_ahead (l : List Int) (k : Nat) : (((List.range l.length).filter fun s => decide (s < k)).map fun s => l.getD s 0).sum = pre l k := by
  rw [range_lt, map_take]
  rfl
end K39
namespace K39
open PySem PySem.Spec PyProof.Rows L2 PySem.W LamX KA KW KU KL KT
open Evl (pss_cut tCut)
/-! ### checks put together -/
def spCkHeld (K : PySem.W.Frag) (CH CR : Addr) : Sp := fun vs H Q E => ∃ x y b c, vs = [x, y] ∧ Pl K H x b ∧ Pl K H y c ∧ (heldB x = false → E (.ref CH) none H) ∧ (heldB x = true → (heldB y = false → E (.ref CR) none H) ∧ (heldB y = true → Q .non H))
def spCkLine (K : PySem.W.Frag) (CS CR CD : Addr) : Sp := fun vs H Q E => ∃ x y z o b c, vs = [x, y, z] ∧ Gn K H x o ∧ Pl K H y b ∧ Pl K H z c ∧ (sizesB 12 o = false → ∀ H', Same H H' → E (.ref CS) none H') ∧ (sizesB 12 o = true → (within y 1 9999 = false → ∀ H', Same H H' → E (.ref CR) none H') ∧ (within y 1 9999 = true → (within z 0 40 = false → ∀ H', Same H H' → E (.ref CD) none H') ∧ (within z 0 40 = true → ∀ H', Same H H' → Q .non H')))
section
variable {P : Program} {w : World} {K : PySem.W.Frag} {mg : Str → Option Value} {base : Heap} (T : Top K mg)
theorem ok_check_held : FnOk P w K mg base (L2.CX P w) 5 T.check_held.a T.check_held.d ["hold", "room"] (spCkHeld K T.BadHold.C T.BadRoom.C) := by
  refine T.check_held.f.okX sc_check_held (fun vs H Q E h => ?_) (fun cdv A outer s H vs Q E hr h => ?_)
  · obtain ⟨x, y, b, c, rfl, _⟩ := h
    rfl
  · obtain ⟨x, y, b, c, rfl, hp, hq, k1, k2⟩ := h
    refine ⟨_, (pss_cons (ps_expr (pe_call (ok_check_hold T) (hr.mono (by decide)) (by rfl) T.check_hold.m T.check_hold.f.kp (bd_check_hold T) .nil (passX rfl rfl rfl rfl) (pa_cons (pv 0) pa_nil)))
      (pss_one (ps_expr (pe_call (ok_check_room T) (hr.mono (by decide)) (by rfl) T.check_room.m T.check_room.f.kp (bd_check_room T) .nil (passX rfl rfl rfl rfl) (pa_cons (pv 1) pa_nil))))), ?_⟩
    exact ⟨_, rfl, x, b, rfl, hp, fun h => ⟨_, rfl, y, c, rfl, hq, fun h' => (k2 h).2 h', fun h' => (k2 h).1 h'⟩, k1⟩
theorem ok_check_line : FnOk P w K mg base (L2.CX P w) 5 T.check_line.a T.check_line.d ["sizes", "rate", "delay"] (spCkLine K T.BadSizes.C T.BadRate.C T.BadDelay.C) := by
  refine T.check_line.f.okX sc_check_line (fun vs H Q E h => ?_) (fun cdv A outer s H vs Q E hr h => ?_)
  · obtain ⟨x, y, z, o, b, c, rfl, _⟩ := h
    rfl
  · obtain ⟨x, y, z, o, b, c, rfl, hg, hp, hq, k1, k2⟩ := h
    obtain ⟨tD, hcD⟩ := T.cMOST_DELAY
    refine ⟨_, (pss_cons (ps_expr (pe_call (ok_check_sizes T) (hr.mono (by decide)) (by rfl) T.check_sizes.m T.check_sizes.f.kp (bd_check_sizes T) .nil (passX rfl rfl rfl rfl) (pa_cons (pv 0) pa_nil)))
      (pss_cons (ps_expr (pe_call (ok_check_rate T) (hr.mono (by decide)) (by rfl) T.check_rate.m T.check_rate.f.kp (bd_check_rate T) .nil (passX rfl rfl rfl rfl) (pa_cons (pv 1) pa_nil)))
      (pss_one (ps_expr (pe_call (ok_check_delay T) (hr.mono (by decide)) (by rfl) T.check_delay.m T.check_delay.f.kp (bd_check_delay T) .nil (passX rfl rfl rfl rfl) (pa_cons (pv 2) (pa_cons (pe_glob (v := .int 40) (by rfl) hcD ⟨_, rfl⟩) pa_nil))))))), ?_⟩
    refine ⟨_, rfl, x, o, rfl, hg, fun h H1 s1 => ?_, k1⟩
    refine ⟨_, rfl, y, b, rfl, hp.keep s1, fun h2 => ?_, fun h2 => (k2 h).1 h2 H1 s1⟩
    exact ⟨_, rfl, z, c, 40, rfl, hq.keep s1, fun h3 => ((k2 h).2 h2).2 h3 H1 s1, fun h3 => ((k2 h).2 h2).1 h3 H1 s1⟩
end
end K39
namespace K39
/-! ### a line of frames: what must and what can have come -/
theorem pre_zero (l : List Int) : pre l 0 = 0 := rfl
theorem pre_succ (l : List Int) {k : Nat} (h : k < l.length) : pre l (k + 1) = pre l k + l.getD k 0 := by
  unfold pre
  rw [List.take_add_one, List.getElem?_eq_getElem h, List.sum_append, List.getD_eq_getElem?_getD, List.getElem?_eq_getElem h]
  show _ + (l[k] + 0) = _ + l[k]
  rw [Int.add_zero]
theorem pre_all (l : List Int) {k : Nat} (h : l.length ≤ k) : pre l k = l.sum := by
  unfold pre
  rw [List.take_of_length_le h]
theorem getD_mem {l : List Int} {k : Nat} (h : k < l.length) : l.getD k 0 ∈ l := by
  rw [List.getD_eq_getElem?_getD, List.getElem?_eq_getElem h]
  exact List.getElem_mem h
theorem pre_step {l : List Int} (p : ∀ x ∈ l, 0 ≤ x) (k : Nat) : pre l k ≤ pre l (k + 1) := by
  by_cases c : k < l.length
  · rw [pre_succ l c]
    have := p _ (getD_mem c)
    omega
  · rw [pre_all l (show l.length ≤ k by omega), pre_all l (show l.length ≤ k + 1 by omega)]
    exact Int.le_refl _
theorem pre_mono {l : List Int} (p : ∀ x ∈ l, 0 ≤ x) {a b : Nat} (h : a ≤ b) : pre l a ≤ pre l b := by
  induction b with
  | zero =>
    have : a = 0 := by omega
    subst this
    exact Int.le_refl _
  | succ b ih =>
    by_cases c : a = b + 1
    · subst c
      exact Int.le_refl _
    · exact Int.le_trans (ih (by omega)) (pre_step p b)
theorem pre_nonneg {l : List Int} (p : ∀ x ∈ l, 0 ≤ x) (k : Nat) : 0 ≤ pre l k := pre_mono p (Nat.zero_le k)
theorem sum_le (m : Int) : ∀ l : List Int, (∀ x ∈ l, x ≤ m) → l.sum ≤ m * (l.length : Int)
  | [], _ => by
    show (0 : Int) ≤ m * 0
    rw [Int.mul_zero]
    exact Int.le_refl _
  | x :: l, h => by
    have ih := sum_le m l fun y hy => h y (List.mem_cons_of_mem _ hy)
    have := h x List.mem_cons_self
    show x + l.sum ≤ m * ((l.length + 1 : Nat) : Int)
    rw [Int.natCast_add, Int.mul_add]
    show x + l.sum ≤ m * (l.length : Int) + m * 1
    omega
/-- the sizes of frames -/
structure Ls (l : List Int) : Prop where
  one : 1 ≤ l.length
  few : l.length ≤ 12
  low : ∀ x ∈ l, 0 ≤ x
  high : ∀ x ∈ l, x ≤ 9999
theorem Ls.sum (h : Ls l) : l.sum ≤ 119988 := by
  have a := sum_le 9999 l h.high
  have : (l.length : Int) ≤ 12 := by have := h.few; omega
  have : 9999 * (l.length : Int) ≤ 9999 * 12 := Int.mul_le_mul_of_nonneg_left this (by decide)
  omega
theorem Ls.pre_le (h : Ls l) (k : Nat) : pre l k ≤ l.sum := by
  by_cases c : l.length ≤ k
  · rw [pre_all l c]
    exact Int.le_refl _
  · have := pre_mono h.low (show k ≤ l.length by omega)
    rwa [pre_all l (Nat.le_refl l.length)] at this
theorem Ls.pre0 (h : Ls l) (k : Nat) : 0 ≤ pre l k := pre_nonneg h.low k
theorem Ls.pre1 (h : Ls l) (k : Nat) : pre l k ≤ 119988 := Int.le_trans (h.pre_le k) h.sum
def lastT (n d : Nat) : Option Int → Nat
  | none => d + n - 1
  | some _ => max (d + n - 1) n
def mustAt (l : List Int) (d : Nat) (ho : Option Int) (t : Nat) : Int := match ho with
  | none => pre l (t + 1 - d)
  | some h => max (pre l (t + 1 - d)) (pre l t - h)
def roomI (c a : Int) : Option Int → Int
  | none => c
  | some r => min c (a + r)
def comeI (l : List Int) (ho : Option Int) (t : Nat) : Int := match ho with
  | none => l.sum
  | some _ => pre l t
def canAt (l : List Int) (d : Nat) (ho ro : Option Int) : Nat → Int
  | 0 => 0
  | t + 1 => roomI (comeI l ho (t + 1)) (pre l (t + 1 - d)) ro
/-- a hold, a room -/
def Hr (o : Option Int) : Prop := ∀ r, o = some r → 0 ≤ r ∧ r ≤ 99999
theorem come_mono (h : Ls l) (ho : Option Int) {a b : Nat} (c : a ≤ b) : comeI l ho a ≤ comeI l ho b := by
  cases ho with
  | none => exact Int.le_refl _
  | some _ => exact pre_mono h.low c
theorem can_mono (h : Ls l) (hr : Hr ro) (d : Nat) (ho : Option Int) : ∀ t, canAt l d ho ro t ≤ canAt l d ho ro (t + 1)
  | 0 => by
    show 0 ≤ roomI (comeI l ho 1) (pre l (1 - d)) ro
    have a : 0 ≤ comeI l ho 1 := by
      cases ho with
      | none =>
        have := h.pre0 l.length
        rwa [pre_all l (Nat.le_refl _)] at this
      | some _ => exact h.pre0 1
    have b := h.pre0 (1 - d)
    cases ro with
    | none => exact a
    | some r =>
      have := (hr r rfl).1
      show 0 ≤ min _ _
      omega
  | t + 1 => by
    show roomI (comeI l ho (t + 1)) (pre l (t + 1 - d)) ro ≤ roomI (comeI l ho (t + 1 + 1)) (pre l (t + 1 + 1 - d)) ro
    have a := come_mono h ho (show t + 1 ≤ t + 1 + 1 by omega)
    have b := pre_mono h.low (show t + 1 - d ≤ t + 1 + 1 - d by omega)
    cases ro with
    | none => exact a
    | some r =>
      show min _ _ ≤ min _ _
      omega
theorem can_le (h : Ls l) (d : Nat) (ho ro : Option Int) : ∀ t, canAt l d ho ro t ≤ l.sum
  | 0 => by
    show 0 ≤ l.sum
    have := h.pre0 l.length
    rwa [pre_all l (Nat.le_refl _)] at this
  | t + 1 => by
    show roomI (comeI l ho (t + 1)) (pre l (t + 1 - d)) ro ≤ l.sum
    have a : comeI l ho (t + 1) ≤ l.sum := by
      cases ho with
      | none => exact Int.le_refl _
      | some _ => exact h.pre_le _
    cases ro with
    | none => exact a
    | some r =>
      show min _ _ ≤ _
      omega
theorem can_low (h : Ls l) (hr : Hr ro) (d : Nat) (ho : Option Int) : ∀ t, 0 ≤ canAt l d ho ro t
  | 0 => Int.le_refl _
  | t + 1 => Int.le_trans (can_low h hr d ho t) (can_mono h hr d ho t)
theorem must_last (h : Ls l) (d : Nat) (ho : Option Int) : l.sum ≤ mustAt l d ho (lastT l.length d ho) := by
  have one := h.one
  cases ho with
  | none =>
    show l.sum ≤ pre l (d + l.length - 1 + 1 - d)
    rw [pre_all l (by omega)]
    exact Int.le_refl _
  | some x =>
    show l.sum ≤ max (pre l (max (d + l.length - 1) l.length + 1 - d)) _
    rw [pre_all l (by omega)]
    omega
theorem must_low (h : Ls l) (hh : Hr ho) (d : Nat) (t : Nat) : -99999 ≤ mustAt l d ho t ∧ mustAt l d ho t ≤ 119988 := by
  have a := h.pre0 (t + 1 - d)
  have b := h.pre1 (t + 1 - d)
  cases ho with
  | none => exact ⟨by show _ ≤ pre _ _; omega, b⟩
  | some x =>
    have c := h.pre1 t
    have := hh x rfl
    show _ ≤ max _ _ ∧ max _ _ ≤ _
    omega
/-! ### sendings -/
section
variable {rate : Int} {can must : Nat → Int}
def stepsL (rate : Int) (can : Nat → Int) (n : Nat) : List Int := (List.range n).map fun t => comeBy rate can (t + 1) - comeBy rate can t
def enoughB (rate : Int) (can must : Nat → Int) (n : Nat) : Bool := (List.range (n + 1)).all fun t => decide (must t ≤ comeBy rate can t)
def dueO (rate : Int) (can must : Nat → Int) (n : Nat) : Option (List Int) := if enoughB rate can must n = true then some (stepsL rate can n) else none
def fitsB (can must : Nat → Int) (n : Nat) (xs : List Int) : Bool := (List.range (n + 1)).all fun t => decide (must t ≤ pre xs t) && decide (pre xs t ≤ can t)
def sentB (rate : Int) (can must : Nat → Int) (n : Nat) (xs : List Int) : Bool := decide (xs.length = n) && ((xs.all fun x => decide (0 ≤ x) && decide (x ≤ rate)) && fitsB can must n xs)
theorem steps_len (n : Nat) : (stepsL rate can n).length = n := by
  unfold stepsL
  rw [List.length_map, List.length_range]
theorem steps_at {n t : Nat} (h : t < n) : (stepsL rate can n).getD t 0 = comeBy rate can (t + 1) - comeBy rate can t := by
  unfold stepsL
  rw [List.getD_eq_getElem?_getD, List.getElem?_map, List.getElem?_range h]
  rfl
theorem steps_pre (n : Nat) : ∀ t, t ≤ n → pre (stepsL rate can n) t = comeBy rate can t - comeBy rate can 0
  | 0, _ => by
    rw [Int.sub_self]
    rfl
  | t + 1, h => by
    rw [pre_succ _ (by rw [steps_len]; omega), steps_pre n t (by omega), steps_at (by omega)]
    omega
theorem come_can : ∀ t, comeBy rate can t ≤ can t
  | 0 => Int.le_refl _
  | t + 1 => Int.min_le_right _ _
theorem come_step (m : ∀ t, can t ≤ can (t + 1)) (r0 : 0 ≤ rate) (t : Nat) : 0 ≤ comeBy rate can (t + 1) - comeBy rate can t ∧ comeBy rate can (t + 1) - comeBy rate can t ≤ rate := by
  have a := come_can (rate := rate) (can := can) t
  have b := m t
  show 0 ≤ min (comeBy rate can t + rate) (can (t + 1)) - comeBy rate can t ∧ min (comeBy rate can t + rate) (can (t + 1)) - comeBy rate can t ≤ rate
  omega
theorem fits_iff {n : Nat} {xs : List Int} : fitsB can must n xs = true ↔ ∀ t, t ≤ n → must t ≤ pre xs t ∧ pre xs t ≤ can t := by
  unfold fitsB
  rw [List.all_eq_true]
  constructor
  · intro h t ht
    have := h t (List.mem_range.mpr (by omega))
    rw [Bool.and_eq_true, decide_eq_true_eq, decide_eq_true_eq] at this
    exact this
  · intro h t ht
    have := h t (by have := List.mem_range.mp ht; omega)
    rw [Bool.and_eq_true, decide_eq_true_eq, decide_eq_true_eq]
    exact this
theorem enough_iff {n : Nat} : enoughB rate can must n = true ↔ ∀ t, t ≤ n → must t ≤ comeBy rate can t := by
  unfold enoughB
  rw [List.all_eq_true]
  constructor
  · intro h t ht
    have := h t (List.mem_range.mpr (by omega))
    rwa [decide_eq_true_eq] at this
  · intro h t ht
    have := h t (by have := List.mem_range.mp ht; omega)
    rwa [decide_eq_true_eq]
theorem steps_sent {n : Nat} (m : ∀ t, can t ≤ can (t + 1)) (c0 : can 0 = 0) (r0 : 0 ≤ rate) (h : enoughB rate can must n = true) : sentB rate can must n (stepsL rate can n) = true := by
  unfold sentB
  rw [steps_len, decide_eq_true rfl, Bool.true_and, Bool.and_eq_true]
  constructor
  · rw [List.all_eq_true]
    intro x hx
    obtain ⟨t, _, rfl⟩ := List.mem_map.mp hx
    have := come_step m r0 t
    rw [Bool.and_eq_true, decide_eq_true_eq, decide_eq_true_eq]
    exact this
  · rw [fits_iff]
    intro t ht
    have e : comeBy rate can 0 = 0 := c0
    rw [steps_pre n t ht, e, Int.sub_zero]
    exact ⟨enough_iff.mp h t ht, come_can t⟩
theorem sent_enough {n : Nat} {xs : List Int} (c0 : can 0 = 0) (h : sentB rate can must n xs = true) : enoughB rate can must n = true := by
  unfold sentB at h
  rw [Bool.and_eq_true, Bool.and_eq_true, decide_eq_true_eq, List.all_eq_true, fits_iff] at h
  obtain ⟨hl, hx, hf⟩ := h
  rw [enough_iff]
  have key : ∀ t, t ≤ n → pre xs t ≤ comeBy rate can t := by
    intro t
    induction t with
    | zero =>
      intro _
      show 0 ≤ can 0
      rw [c0]
      exact Int.le_refl _
    | succ t ih =>
      intro ht
      have a := ih (by omega)
      have b := (hf (t + 1) ht).2
      have e := pre_succ xs (show t < xs.length by omega)
      have q := hx _ (getD_mem (show t < xs.length by omega))
      rw [Bool.and_eq_true, decide_eq_true_eq, decide_eq_true_eq] at q
      show _ ≤ min (comeBy rate can t + rate) (can (t + 1))
      omega
  intro t ht
  exact Int.le_trans (hf t ht).1 (key t ht)
/-! ### the first pair -/
structure Gap (b : Nat → Nat → Bool) (n : Nat) (s e : Nat) : Prop where
  se : s ≤ e
  en : e ≤ n
  yes : b s e = true
  first : ∀ s' e', s' ≤ e' → e' ≤ n → (s' < s ∨ (s' = s ∧ e' < e)) → b s' e' = false
def First (b : Nat → Nat → Bool) (n : Nat) : Option (Nat × Nat) → Prop
  | none => ∀ s e, s ≤ e → e ≤ n → b s e = false
  | some p => Gap b n p.1 p.2
theorem first_uniq {b : Nat → Nat → Bool} {n : Nat} : ∀ {o o' : Option (Nat × Nat)}, First b n o → First b n o' → o = o'
  | none, none, _, _ => rfl
  | none, some p, h, g => by
    have := h p.1 p.2 g.se g.en
    rw [g.yes] at this
    cases this
  | some p, none, g, h => by
    have := h p.1 p.2 g.se g.en
    rw [g.yes] at this
    cases this
  | some (s, e), some (s', e'), g, h => by
    have g1 := g.yes
    have h1 := h.yes
    have g0 := g.se
    have h0 := h.se
    have g2 := g.en
    have h2 := h.en
    have g3 := g.first
    have h3 := h.first
    simp only at g1 h1 g0 h0 g2 h2 g3 h3
    by_cases c : s' < s ∨ (s' = s ∧ e' < e)
    · rw [g3 s' e' h0 h2 c] at h1
      cases h1
    · by_cases c' : s < s' ∨ (s = s' ∧ e < e')
      · rw [h3 s e g0 g2 c'] at g1
        cases g1
      · have e1 : s = s' := by omega
        have e2 : e = e' := by omega
        rw [e1, e2]
def gapB (rate : Int) (can must : Nat → Int) (s e : Nat) : Bool := decide (must e - can s > rate * ((e : Int) - s))
theorem due_gap {n : Nat} {o : Option (Nat × Nat)} (h : First (gapB rate can must) n o) : (dueO rate can must n = none) ↔ o ≠ none := by
  unfold dueO
  have key : enoughB rate can must n = true ↔ o = none := by
    rw [enough_iff]
    constructor
    · intro q
      cases o with
      | none => rfl
      | some p =>
        have y := h.yes
        unfold gapB at y
        rw [decide_eq_true_eq] at y
        obtain ⟨e, he, z⟩ := gap_iff.mpr ⟨p.1, p.2, h.se, h.en, y⟩
        have := q e he
        omega
    · rintro rfl t ht
      by_cases c : must t ≤ comeBy rate can t
      · exact c
      · obtain ⟨s, e, h1, h2, h3⟩ := gap_iff.mp ⟨t, ht, show comeBy rate can t < must t by omega⟩
        have := h s e h1 h2
        unfold gapB at this
        rw [decide_eq_false_iff_not] at this
        exact absurd h3 this
  by_cases c : enoughB rate can must n = true
  · rw [if_pos c]
    exact ⟨(fun z => by cases z), fun z => absurd (key.mp c) z⟩
  · rw [if_neg c]
    exact ⟨fun _ z => c (key.mpr z), fun _ => rfl⟩
end
end K39
namespace KST
open PySem PySem.Spec PyProof.Rows L2 PySem.W
/-! ### sorted(xs), xs a list of pairs of ints: in their order -/
def pairLe (p q : Int × Int) : Prop := p.1 < q.1 ∨ (p.1 = q.1 ∧ p.2 ≤ q.2)
theorem each_refs : ∀ (bs : List (Addr × Int × Int)) {us : List Value}, Vals (bs.map fun b => V.ref b.1) us → EachIs (fun v (b : Addr × Int × Int) => v = Value.ref b.1) us bs
  | [], _, r => by cases r; exact .nil
  | b :: bs, _, r => by
    cases r with
    | cons r1 r2 => exact .cons r1 (each_refs bs r2)
theorem refs_each : ∀ {us : List Value} {bs : List (Addr × Int × Int)}, EachIs (fun v (b : Addr × Int × Int) => v = Value.ref b.1) us bs → Vals (bs.map fun b => V.ref b.1) us
  | _, _, .nil => .nil
  | _, _, .cons h t => .cons h (refs_each t)
def enc (b : Addr × Int × Int) : PyData := .tuple [.int b.2.1, .int b.2.2]
theorem pair_uniq : ∀ (xs ys : List (Int × Int)), xs.Perm ys → xs.Pairwise pairLe → ys.Pairwise pairLe → xs = ys
  | [], ys, p, _, _ => by rw [List.nil_perm.mp p]
  | x :: xs, ys, p, h1, h2 => by
    cases ys with
    | nil => exact absurd p.length_eq (by simp)
    | cons y ys =>
      have e : x = y := by
        have m1 : x ∈ y :: ys := p.mem_iff.mp List.mem_cons_self
        have m2 : y ∈ x :: xs := p.symm.mem_iff.mp List.mem_cons_self
        rcases List.mem_cons.mp m1 with z | z
        · exact z
        · rcases List.mem_cons.mp m2 with z2 | z2
          · exact z2.symm
          · have a := (List.pairwise_cons.mp h2).1 x z
            have b := (List.pairwise_cons.mp h1).1 y z2
            unfold pairLe at a b
            obtain ⟨x1, x2⟩ := x
            obtain ⟨y1, y2⟩ := y
            simp only [Prod.mk.injEq]
            dsimp only at a b
            omega
      subst e
      rw [pair_uniq xs ys (List.Perm.cons_inv p) (List.pairwise_cons.mp h1).2 (List.pairwise_cons.mp h2).2]
section
variable {X : Cx}
def rSortedT (K : PySem.W.Frag) : List V → Hp → VK → Prop := fun vs H Q => ∃ (a : Addr) (bs : List (Addr × Int × Int)), vs = [V.ref a] ∧ SqL K H a (bs.map fun b => V.ref b.1) ∧ (∀ b ∈ bs, H b.1 = some (.tup [.int b.2.1, .int b.2.2])) ∧
  ∀ (bs' : List (Addr × Int × Int)) (q : Addr), bs'.Perm bs → (bs'.map (·.2)).Pairwise pairLe → H q = none → Q (.ref q) (upd H q (.lst (bs'.map fun b => V.ref b.1)))
theorem cr_sortedT (hu : X.A.units + 4 < cLine) : CallR X (.builtin "sorted") (rSortedT X.K) := by
  intro pins s σ H vs us Q I r h
  obtain ⟨a, bs, rfl, hs, hx, q⟩ := h
  obtain ⟨its, rv, hl, hz⟩ := I.list hs
  rw [Vals.ref1 r]
  have e := each_refs bs rv
  have lb : its.length = bs.length := by
    have := rv.length
    rw [List.length_map] at this
    exact this.symm
  have er : EachIs (fun v b => ∃ as, Reads s.heap v (enc b) as) its bs := by
    have go : ∀ (cs : List (Addr × Int × Int)) (ws : List Value), (∀ b ∈ cs, b ∈ bs) → EachIs (fun v (b : Addr × Int × Int) => v = Value.ref b.1) ws cs → EachIs (fun v b => ∃ as, Reads s.heap v (enc b) as) ws cs := by
      intro cs ws hm e
      induction e with
      | nil => exact .nil
      | @cons v b vs bs' h1 t ih =>
        refine .cons ?_ (ih fun b hb => hm b (List.mem_cons_of_mem _ hb))
        exact Dp.reads I (enc b) (.ref b.1) v (.tup (SqT.of (hx b (hm b List.mem_cons_self))) (.cons (.int _) (.cons (.int _) .nil))) h1
    exact go bs its (fun _ h => h) e
  refine sorted_data (enc := enc) (R := fun v (b : Addr × Int × Int) => v = Value.ref b.1) hl.isList e er (AllAlike.of fun _ _ => by simp [alike, alikeAll, enc]) (Sortable.tuples fun _ => ⟨_, _, rfl⟩) (by rw [← lb, ← rv.length]; exact hz) (fun b _ => ?_) fun out lo eo => ?_
  · show X.A.units + 2 + (PyData.tuple [.int b.2.1, .int b.2.2]).depth < cLine
    have : (PyData.tuple [.int b.2.1, .int b.2.2]).depth ≤ 1 := by simp [PyData.depth, PyData.depthAll]
    omega
  · have en : dataLe false enc = fun p q : Addr × Int × Int => decide (p.2.1 < q.2.1 ∨ (p.2.1 = q.2.1 ∧ p.2.2 ≤ q.2.2)) := dataLe_ii (fun b : Addr × Int × Int => b.2.1) (fun b => b.2.2)
    obtain ⟨ep, he'⟩ := PyProof.Rows.sortedAll_at s.heap its out.toArray
    have pm := List.mergeSort_perm bs (dataLe false enc)
    have pw : ((bs.mergeSort (dataLe false enc)).map (·.2)).Pairwise pairLe := by
      rw [List.pairwise_map, en]
      refine (List.pairwise_mergeSort (fun a b c h1 h2 => ?_) (fun a b => ?_) bs).imp fun h => ?_
      · simp only [decide_eq_true_eq] at h1 h2 ⊢
        omega
      · simp only [Bool.or_eq_true, decide_eq_true_eq]
        omega
      · exact (decide_eq_true_eq (p := _ ∨ _)).mp h
    refine ⟨.ref _, upd H (s.heap.objs.size + 1) (.lst ((bs.mergeSort (dataLe false enc)).map fun b => V.ref b.1)), I.laid (t' := s.toks) (fun _ _ => PyProof.Rows.sortedAll_old) (Nat.le_succ _) ⟨?_, out, ep, refs_each eo, he'⟩, rfl, q _ _ pm pw (I.hok.fresh (Nat.le_succ _))⟩
    rw [List.length_map, pm.length_eq, ← lb, ← rv.length]
    exact hz
end
end KST
namespace KSL
open PySem PySem.Spec PyProof.Rows L2 PySem.W
/-! ### set(xs), xs a list of ints -/
theorem call_set_listI {P : Program} {w : World} {A : Around} {E : Value → Shared → Prop} {s : Shared} {l : Addr} {items : Array Value} (ns : List Int) {Q : Value → Shared → Prop}
    (hh : A.handled = none) (hl : s.heap.IsList l items) (hit : IntsAre items.toList ns) (hb : ns.length + 1 < scanBound)
    (h : ∀ (h' : Heap) (tk c : Nat), SetR w h' s.heap.objs.size (fun j => decide (j ∈ ns)) c → c ≤ ns.length → (∀ (b : Addr) (o : Obj), s.heap.get? b = some o → h'.get? b = some o) →
      Q (Value.ref s.heap.objs.size) { heap := h', gens := s.gens, drawn := s.drawn, toks := tk, os := s.os }) :
    wpAny (model P w) A (call (Value.type "set") [Value.ref l]) Q E s := by
  have hisz : items.size = ns.length := by
    have q := hit.length
    rw [Array.length_toList] at q
    exact q
  obtain ⟨c, tl, hmro⟩ := F.called_set.mro
  have hmade := F.called_set.made
  have hsub := F.called_set.sub
  refine wpAny_call (codeAny_of_tree (wpAny_pure ⟨Code.quiet_builtin _ (by kernel_rfl), codeAny_builtin F.entry_type_call ?_⟩))
  rw [Around.under_plain (weight_type_call_type "set" [Value.ref l] []) rfl]
  have h1 := F.called_set.notType
  have h2 := F.called_set.canCreate
  have hct := F.typeCall_set_1 (Value.ref l)
  show wpAny _ _ (Builtin.«type.__call__» ⟨[Value.type "set", Value.ref l], []⟩) _ _ _
  unfold Builtin.«type.__call__»
  dsimp only
  refine wpAny_ite_false (Eq.refl _) (wpAny_ite_false (Eq.refl _) (wpAny_bind (wpAny_of_eq hct ?_)))
  refine wpAny_bind (wpAny_of_eq hmro ?_)
  refine wpAny_ite_false (Eq.refl _) (wpAny_bind (wpAny_of_eq hmade ?_))
  refine wpAny_bind (wpAny_pure ?_)
  refine wpAny_bind (wpAny_holding (wpAny_call (codeAny_mono (code_set_led1 (E := E) (Q₁ := fun obj s₁ => obj = Value.ref s.heap.objs.size ∧ s₁ = { heap := s.heap.push { cls := Value.type "set", data := Data.set #[] 0 (SetTable.fresh 0 0 !w.params.followText "set-order") }, gens := s.gens, drawn := s.drawn, toks := s.toks, os := s.os }) (Value.ref l) ⟨rfl, rfl⟩) fun r s₁ hr => ?_)))
  cases r with
  | error e => exact hr
  | ok fl =>
  cases fl with
  | ret obj =>
    obtain ⟨rfl, rfl⟩ := hr
    have hS : (s.heap.push { cls := Value.type "set", data := Data.set #[] 0 (SetTable.fresh 0 0 !w.params.followText "set-order") }).get? s.heap.objs.size = some { cls := Value.type "set", data := Data.set #[] 0 (SetTable.fresh 0 0 !w.params.followText "set-order") } := Heap.get?_push_size _ rfl
    have hT : Shared.TypeIs { heap := s.heap.push { cls := Value.type "set", data := Data.set #[] 0 (SetTable.fresh 0 0 !w.params.followText "set-order") }, gens := s.gens, drawn := s.drawn, toks := s.toks, os := s.os } (Value.ref s.heap.objs.size) "set" := ⟨_, hS, rfl⟩
    have hli := F.called_set.init.lookup
    have hbi := F.called_set.init.bind (Value.ref s.heap.objs.size)
    dsimp only
    refine wpAny_bind (wpAny_isInstance hT hsub (wpAny_ite_false (Eq.refl _) ?_))
    refine wpAny_bind (wpAny_holding ?_)
    unfold callSpecial?
    refine wpAny_bind (wpAny_specialOf hT hli (wpAny_holding ?_))
    dsimp only
    refine wpAny_bind (wpAny_of_eq hbi ?_)
    dsimp only
    refine wpAny_bind (wpAny_call (codeAny_mono (R := wants (fun v s' => v = Value.none ∧ ∃ h' tk c', s' = { heap := h', gens := s.gens, drawn := s.drawn, toks := tk, os := s.os } ∧ SetR w h' s.heap.objs.size (fun j => decide (j ∈ ns)) c' ∧ c' ≤ ns.length ∧ ∀ (b : Addr) (o : Obj), s.heap.get? b = some o → h'.get? b = some o) E)
      (codeAny_call_builtin F.called_set.init.plain F.entry_set_init (check_set_init_1 hT ?_)) fun r₂ s₂ hr₂ => ?_))
    · obtain ⟨⟨ocls, odict, odata, oslots⟩, hol, hcl, nl, hdl⟩ := hl
      cases hcl
      cases hdl
      have hol' : (s.heap.push { cls := Value.type "set", data := Data.set #[] 0 (SetTable.fresh 0 0 !w.params.followText "set-order") }).get? l = some _ := Heap.get?_push_of_some _ hol
      have hsls := F.sub_list_set
      have hslf := F.sub_list_frozenset
      have hl1 : (s.heap.push { cls := Value.type "set", data := Data.set #[] 0 (SetTable.fresh 0 0 !w.params.followText "set-order") }).IsList l items := ⟨_, hol', rfl, _, rfl⟩
      show wpAny _ _ (Builtin.«set.__init__» ⟨[Value.ref s.heap.objs.size, Value.ref l], []⟩) _ _ _
      unfold Builtin.«set.__init__»
      dsimp only
      refine wpAny_bind (wpAny_ite_true (Eq.refl _) (wpAny_pure ?_))
      refine wpAny_bind ?_
      unfold typeNameOfCut shownTypeOf
      refine wpAny_bind (wpAny_bind (wpAny_typeOf hT (wpAny_ite_false (Eq.refl _) (wpAny_pure ?_))))
      unfold typeNameCut typeName
      refine wpAny_pure ?_
      refine wpAny_bind ?_
      unfold checkCount
      refine wpAny_ite_false (Eq.refl _) (wpAny_ite_false (Eq.refl _) (wpAny_ite_false (Eq.refl _) (wpAny_pure ?_)))
      refine wpAny_bind ?_
      unfold Builtin.Frozenset.addrOf
      refine wpAny_pure ?_
      refine wpAny_bind ?_
      unfold setUsed
      refine wpAny_bind ?_
      unfold setState
      refine wpAny_bind (wpAny_load' hS ?_)
      dsimp only
      refine wpAny_ite_false (Eq.refl _) (wpAny_pure (wpAny_pure (wpAny_ite_false (Eq.refl _) ?_)))
      unfold Builtin.Frozenset.updateFrom Builtin.Frozenset.isAnySet
      have hTl : Shared.TypeIs { heap := s.heap.push { cls := Value.type "set", data := Data.set #[] 0 (SetTable.fresh 0 0 !w.params.followText "set-order") }, gens := s.gens, drawn := s.drawn, toks := s.toks, os := s.os } (Value.ref l) "list" := ⟨_, hol', rfl⟩
      refine wpAny_bind (wpAny_bind ?_)
      show wpAny _ _ (isInstance (Value.ref l) (Value.type "set") >>= _) _ _ _
      refine wpAny_bind (wpAny_isInstance hTl hsls ?_)
      show wpAny _ _ (isInstance (Value.ref l) (Value.type "frozenset")) _ _ _
      refine wpAny_isInstance hTl hslf ?_
      refine wpAny_ite_false (Eq.refl _) ?_
      refine wpAny_bind (wpAny_typeOf hTl (wpAny_ite_false (Eq.refl _) ?_))
      refine wpAny_bind (wpAny_pyIter_list hl1 ?_)
      refine wpAny_bind (wpAny_runValue ?_)
      have hlS := Heap.lt_size hol
      have hh3 : A.in1.in1.in1.handled = none := hh
      have hz1 := Heap.size_push s.heap { cls := Value.type "set", data := Data.set #[] 0 (SetTable.fresh 0 0 !w.params.followText "set-order") }
      have hneI : (show Addr from l) ≠ (s.heap.push { cls := Value.type "set", data := Data.set #[] 0 (SetTable.fresh 0 0 !w.params.followText "set-order") }).objs.size := by
        rw [hz1]
        exact Nat.ne_of_lt (Nat.lt_succ_of_lt hlS)
      have hSf : ¬ s.heap.objs.size ∈ [(s.heap.push { cls := Value.type "set", data := Data.set #[] 0 (SetTable.fresh 0 0 !w.params.followText "set-order") }).objs.size, l] := by
        rw [hz1]
        intro m
        rcases List.mem_cons.mp m with m | m
        · exact absurd m (Nat.ne_of_lt (Nat.lt_succ_self _))
        · exact absurd (List.mem_singleton.mp m) (Nat.ne_of_gt hlS)
      have hval : ∀ (i : Nat) (v : Value), items[i]? = some v → ∃ k t, ns[i]? = some k ∧ v = Value.int k t := fun i v hv => by
        have hi : i < ns.length := by
          rw [← hisz]
          exact (Array.getElem?_eq_some_iff.mp hv).1
        obtain ⟨t, e⟩ := hit.int_at (i := i) (v := v) (by rw [Array.getElem?_toList]; exact hv)
        refine ⟨_, t, List.getElem?_eq_getElem hi, ?_⟩
        rw [e, List.getD_eq_getElem?_getD, List.getElem?_eq_getElem hi]
        rfl
      have hget : ((s.heap.push { cls := Value.type "set", data := Data.set #[] 0 (SetTable.fresh 0 0 !w.params.followText "set-order") }).push { cls := Value.type "list_iterator", data := Data.fields #[Value.ref l, Value.int 0 0] }).get? s.heap.objs.size = some _ := Heap.get?_push_of_some _ hS
      refine set_update_ints (Walks.toS (Walks.list hh3 (s.heap.push { cls := Value.type "set", data := Data.set #[] 0 (SetTable.fresh 0 0 !w.params.followText "set-order") }).objs.size l hneI items)) s.heap.objs.size hSf ns hisz hb hval _ 0 _ rfl (Nat.zero_le _) ⟨⟨_, Heap.get?_push_size _ rfl, rfl, rfl⟩, hl1.push _⟩ ⟨0, Nat.le_refl _, setR_new_at hget⟩ ?_
      rintro ⟨h', g2, d', tk', os'⟩ c' hm hc' hS'
      have eg := hm.gens
      have ed := hm.drawn
      have eo := hm.os
      cases eg
      cases ed
      cases eo
      refine wpAny_pure (wpAny_pure ⟨rfl, h', tk', c', rfl, hS', hisz ▸ hc', fun b o e => ?_⟩)
      have hb0 := Heap.lt_size e
      have hb1 := Nat.ne_of_lt hb0
      refine hm.heap b o ?_ (Heap.get?_push_of_some _ (Heap.get?_push_of_some _ e))
      rw [hz1]
      intro m
      rcases List.mem_cons.mp m with m | m
      · exact hb1 m
      · exact absurd (List.mem_singleton.mp m) (Nat.ne_of_lt (Nat.lt_succ_of_lt hb0))
    · cases r₂ with
      | error e => exact hr₂
      | ok fl₂ =>
      cases fl₂ with
      | ret r =>
        obtain ⟨rfl, h', tk, c', rfl, hS', hc', hk'⟩ := hr₂
        refine wpAny_pure ?_
        dsimp only
        refine wpAny_ite_false (Eq.refl _) (wpAny_pure (h _ _ _ hS' hc' hk'))
      | _ => exact hr₂.elim
  | _ => exact hr.elim
section
variable {X : Cx}
def rSetL (K : PySem.W.Frag) (w : World) : List V → Hp → VK → Prop := fun vs H Q => ∃ (a : Addr) (ns : List Int), vs = [V.ref a] ∧ SqL K H a (ns.map V.int) ∧ ns.length ≤ 1000 ∧
  ∀ (q : Addr) (c : Nat), c ≤ ns.length → H q = none → Q (.ref q) (upd H q (SetO w q (fun j => decide (j ∈ ns)) c))
theorem cr_setL (hc : X.calm = true) : CallR X (.type "set") (rSetL X.K X.w) := by
  intro pins s σ H vs us Q I r h
  obtain ⟨a, ns, rfl, hs, hl, q⟩ := h
  obtain ⟨its, rv, hil, hz⟩ := I.list hs
  rw [Vals.ref1 r]
  refine call_set_listI ns (I.ok.hd hc) hil.isList (intsAre_of rv) ?_ fun h' tk c hS hle hk => ⟨.ref _, upd H s.heap.objs.size (SetO X.w s.heap.objs.size (fun j => decide (j ∈ ns)) c), I.laid (t' := tk) hk (Nat.le_refl _) (setO_new hS), rfl, q _ c hle (I.hok.fresh (Nat.le_refl _))⟩
  exact Nat.lt_of_le_of_lt (Nat.add_le_add_right hl 1) (by decide)
end
end KSL
namespace KSU
open PySem PySem.Spec PyProof.Rows L2 PySem.W
/-! ### sorted(xs), xs a list of tuples of ints of any lengths, the first of which is empty: a new list of the same ones -/
theorem perm_of_map {α β : Type} {f : α → β} {out xs : List β} (p : out.Perm xs) : ∀ l : List α, xs = l.map f → ∃ l' : List α, l'.Perm l ∧ out = l'.map f := by
  induction p with
  | nil =>
    intro l e
    cases l with
    | nil => exact ⟨[], .nil, rfl⟩
    | cons a l => cases e
  | @cons x l1 l2 p ih =>
    intro l e
    cases l with
    | nil => cases e
    | cons a l =>
      injection e with e1 e2
      obtain ⟨l', p', q⟩ := ih l e2
      exact ⟨a :: l', p'.cons a, by rw [e1, q, List.map_cons]⟩
  | swap x y l1 =>
    intro l e
    match l, e with
    | [], e => cases e
    | [_], e => cases e
    | a :: b :: l, e =>
      injection e with e1 e2
      injection e2 with e2 e3
      exact ⟨b :: a :: l, .swap _ _ _, by rw [e1, e2, e3, List.map_cons, List.map_cons]⟩
  | trans p1 p2 ih1 ih2 =>
    intro l e
    obtain ⟨l2, q2, e2⟩ := ih2 l e
    obtain ⟨l1, q1, e1⟩ := ih1 l2 e2
    exact ⟨l1, q1.trans q2, e1⟩
section
variable {prog : Program} {w : World} {A : Around} {E : Value → Shared → Prop} {s : Shared} {M : Model}
theorem mapM_wp {α β : Type} {f : α → Sem β} {R : α → β → Prop} : ∀ (l : List α) {Q : List β → Shared → Prop}, (∀ v ∈ l, ∀ Q' : β → Shared → Prop, (∀ r, R v r → Q' r s) → wpAny M A (f v) Q' E s) → (∀ rs, EachIs (fun r v => R v r) rs l → Q rs s) → wpAny M A (l.mapM f) Q E s
  | [], _, _, h => by rw [List.mapM_nil]; exact wpAny_pure (h _ .nil)
  | x :: l, Q, hf, h => by
    rw [List.mapM_cons]
    exact wpAny_bind (hf x (.head _) _ fun r hr => wpAny_bind (mapM_wp l (fun v hv => hf v (.tail _ hv)) fun rs e => wpAny_pure (h _ (.cons hr e))))
theorem first_wp {v : Value} {ns : List Int} (t : TS.TupInts s.heap v ns) (Q : Option Value → Shared → Prop) (h : ∀ r, (ns = [] → r = none) → Q r s) : wpAny M A (firstOfTuple' v) Q E s := by
  obtain ⟨a, xs, rfl, ⟨o, ho, hc, n, hd⟩, i⟩ := t
  rw [kas_first_eq]
  refine wpAny_bind (Looks.here (show Looks M s.heap (typeOf (.ref a)) o.cls from (Looks.ld ho).andThen .now) ?_)
  rw [hc, if_neg (by first | decide | simp)]
  refine wpAny_bind (listItems_at ho hd (wpAny_pure (h _ fun e => ?_)))
  subst e
  have l1 := i.length
  rw [Array.length_toList] at l1
  have : xs.size = 0 := l1
  simp [this]
theorem kind_tups {v0 : Value} {vs : List Value} {k : Value → List Int} (ht : ∀ v ∈ v0 :: vs, TS.TupInts s.heap v (k v)) (h0 : k v0 = []) (Q : SortKind → Shared → Prop) (h : Q oneType' s) : wpAny M A (keyKind' (v0 :: vs).toArray) Q E s := by
  have hT : ∀ v ∈ v0 :: vs, Looks M s.heap (typeOf v) (Value.type "tuple") := fun v hv => by
    obtain ⟨a, xs, rfl, ⟨o, ho, hc, n, hd⟩, i⟩ := ht v hv
    exact hc ▸ (show Looks M s.heap (typeOf (.ref a)) o.cls from (Looks.ld ho).andThen .now)
  rw [keyKind'_eq, List.mapM_toArray, map_eq_pure_bind]
  refine wpAny_bind (wpAny_bind (mapM_wp (R := fun v r => k v = [] → r = none) _ (fun v hv Q' hq => first_wp (ht v hv) Q' hq) fun rs e => wpAny_pure ?_))
  cases e with
  | @cons r _ rs' _ h1 h2 =>
    have e1 := h1 h0
    subst e1
    rw [if_neg (by simp), if_neg (by simp)]
    rw [oneTypeOnly'_eq, List.mapM_toArray, map_eq_pure_bind]
    refine wpAny_bind (wpAny_bind (wpAny_bind (kas_mapM (r := Value.type "tuple") _ (fun v hv Q' hq => (hT v hv).here hq) (wpAny_pure ?_))))
    have hall : ((List.map (fun _ => Value.type "tuple") (v0 :: vs)).toArray.all fun x => x == Value.type "tuple") = true := by
      simp only [List.all_toArray, List.all_map, List.all_eq_true]
      intro _ _
      rfl
    have h0 : (List.map (fun _ => Value.type "tuple") (v0 :: vs)).toArray[0]? = some (Value.type "tuple") := by simp
    rw [h0]
    simp only [hall, if_true]
    exact wpAny_pure (wpAny_pure h)
theorem oneLt_tups {x y : Value} {ns ms : List Int} {Q : Bool → Shared → Prop} (hu : A.units < cLine) (hx : TS.TupInts s.heap x ns) (hy : TS.TupInts s.heap y ms) (h : Q (HT.lexLt ns ms) s) : wpAny (model prog w) A (oneLt' true x y) Q E s := by
  obtain ⟨l, items, rfl, ⟨⟨cls, dd, data, sl⟩, ho, hc, n, hd⟩, hi⟩ := hx
  obtain ⟨b, items2, rfl, ⟨⟨cls2, dd2, data2, sl2⟩, ho2, hc2, n2, hd2⟩, hj⟩ := hy
  simp only at hc hd hc2 hd2
  subst hc hd hc2 hd2
  rw [oneLt'_eq]
  simp only [if_true]
  refine wpAny_bind (wpAny_cRoomFor hu ?_)
  refine wpAny_bind (wpAny_callSpecialIfBound?_slot ⟨_, ho, rfl⟩ PySem.F.slot_tuple_lt (call_meets PySem.F.slot_tuple_lt ⟨_, ho, rfl⟩ PySem.F.entry_tuple_lt (PySem.F.args_tuple_lt_2 _ _) (HT.tuple_lt_ints l b items items2 n n2 dd dd2 sl sl2 ns ms hi hj) ⟨ho, ho2, ?_⟩))
  exact wpAny_truthy_bool h
theorem sortable {a : Addr} {v0 : Value} {vs : List Value} {k : Value → List Int} (hu : A.units < cLine) (ht : ∀ v ∈ v0 :: vs, TS.TupInts s.heap v (k v)) (h0 : k v0 = []) (ha : ∀ o, s.heap.get? a = some o → o.cls ≠ .type "tuple") :
    SrtO.SortableO prog w A s a (v0 :: vs) fun v u => HT.lexLt (k v) (k u) := by
  intro h' keep
  have ht' : ∀ v ∈ v0 :: vs, TS.TupInts h' v (k v) := fun v hm => (ht v hm).keeps fun b o e c => keep b o (fun z => by subst z; exact ha o e c) e
  refine ⟨oneType', fun Q E hq => kind_tups (s := { s with heap := h' }) ht' h0 Q hq, fun p q hp hq => ?_⟩
  show wpAny (model prog w) A (keyLt' oneType' p.1 q.1) _ _ _
  rw [keyLt'_oneType]
  exact oneLt_tups hu (ht' _ hp) (ht' _ hq) ⟨rfl, rfl⟩
end
section
variable {X : Cx}
theorem refs_each : ∀ (bs : List (Addr × List Int)) {us : List Value}, Vals (bs.map fun b => V.ref b.1) us → us = bs.map fun b => Value.ref b.1
  | [], _, r => by cases r; rfl
  | b :: bs, _, r => by
    cases r with
    | cons r1 r2 => rw [refs_each bs r2]; cases r1; rfl
theorem each_refs : ∀ (bs : List (Addr × List Int)), Vals (bs.map fun b => V.ref b.1) (bs.map fun b => Value.ref b.1)
  | [] => .nil
  | b :: bs => .cons rfl (each_refs bs)
def rSortedL (K : PySem.W.Frag) : List V → Hp → VK → Prop := fun vs H Q => ∃ (a p0 : Addr) (bs : List (Addr × List Int)), vs = [V.ref a] ∧ SqL K H a (((p0, []) :: bs).map fun b => V.ref b.1) ∧ (∀ b ∈ ((p0, []) :: bs : List (Addr × List Int)), H b.1 = some (.tup (b.2.map V.int))) ∧
  ∀ (bs' : List (Addr × List Int)) (q : Addr), bs'.Perm ((p0, []) :: bs) → H q = none → Q (.ref q) (upd H q (.lst (bs'.map fun b => V.ref b.1)))
theorem cr_sortedL (hu : X.A.units + 4 < cLine) : CallR X (.builtin "sorted") (rSortedL X.K) := by
  intro pins s σ H vs us Q I r h
  obtain ⟨a, p0, bs, rfl, hs, hx, q⟩ := h
  obtain ⟨its, rv, hl, hz⟩ := I.list hs
  rw [Vals.ref1 r]
  have ei := refs_each _ rv
  subst ei
  have ht : ∀ b ∈ ((p0, []) :: bs : List (Addr × List Int)), TS.TupInts s.heap (Value.ref b.1) b.2 := fun b hb => by
    obtain ⟨_, its2, r2, o, ho, hc, n, hd⟩ := I.hok _ _ (hx b hb)
    exact ⟨_, _, rfl, ⟨o, ho, hc, n, hd⟩, intsAre_of r2⟩
  have hk : ∀ v ∈ (((p0, []) :: bs : List (Addr × List Int)).map fun b => Value.ref b.1), TS.TupInts s.heap v (TS.intsOf s.heap v) := fun v hv => by
    obtain ⟨b, hb, rfl⟩ := List.mem_map.mp hv
    rw [(ht b hb).ints]
    exact ht b hb
  have hk0 : TS.intsOf s.heap (Value.ref p0) = [] := (ht (p0, []) List.mem_cons_self).ints
  refine SrtO.sorted_ord (ltv := fun v u => HT.lexLt (TS.intsOf s.heap v) (TS.intsOf s.heap u)) (NtL.swo_lexL _) hl.isList (by rw [← rv.length]; exact hz) (fun h2 h₁ a ha kk => ?_) fun out hs2 hb => ?_
  · refine sortable (s := { s with heap := h₁ }) (show X.A.units + 2 < cLine by omega) (fun v hv => (hk v hv).keeps fun b o e _ => (kk b o e).2) hk0 fun o e => ?_
    have e' : some o = some (seqObj "list" _ 0) := e.symm.trans ha
    cases e'
    intro c
    exact absurd (Value.type.inj c) (by decide)
  · obtain ⟨bs', pm, rfl⟩ := perm_of_map hb.perm _ rfl
    obtain ⟨ep, he'⟩ := PyProof.Rows.sortedAll_at s.heap (((p0, []) :: bs : List (Addr × List Int)).map fun b => Value.ref b.1) (bs'.map fun b => Value.ref b.1).toArray
    refine ⟨.ref _, upd H (s.heap.objs.size + 1) (.lst (bs'.map fun b => V.ref b.1)), I.laid (t' := s.toks) (fun _ _ => PyProof.Rows.sortedAll_old) (Nat.le_succ _) ⟨?_, _, ep, each_refs bs', he'⟩, rfl, q _ _ pm (I.hok.fresh (Nat.le_succ _))⟩
    have l1 := pm.length_eq
    rw [List.length_map, l1]
    rw [List.length_map] at hz
    exact hz
end
end KSU
namespace KSE
open PySem PySem.Spec PyProof.Rows L2 PySem.W
/-! ### a list or a tuple: a part of it, it sorted -/
def rSlE (K : PySem.W.Frag) : V → Option Int → Option Int → Hp → VK → Prop := fun x lo hi H Q => rSlL K x lo hi H Q ∨ rSlA K x lo hi H Q
theorem sl_either {X : Cx} : SlR X (rSlE X.K) := fun pins s σ H x v vl vu lo hi sl Q I rx hs pl pu h => h.elim (sl_list pins s σ H x v vl vu lo hi sl Q I rx hs pl pu) (sl_tupA pins s σ H x v vl vu lo hi sl Q I rx hs pl pu)
/-- the items of a tuple, gathered -/
theorem collect_tup {P : Program} {w : World} {A : Around} {E : Value → Shared → Prop} {s : Shared} {l : Addr} {o : Obj} {vs : List Value} {n : Nat} {Q : List Value → Shared → Prop} (ho : s.heap.get? l = some o) (hc : o.cls = .type "tuple") (hd : o.data = .seq vs.toArray n) (hsz : vs.length < 64)
    (h : Q vs { s with heap := (s.heap.push (seqObj "list" #[] 0)).update s.heap.objs.size (Obj.mapSeq fun x => x ++ vs.toArray) }) : wpAny (model P w) A (collect (.ref l)) Q E s := by
  have hz : vs.length + 1 ≤ sizeLine := Nat.le_trans hsz (by decide)
  unfold collect
  refine wpAny_bind (wpAny_runValue (codeAny_builtin entry_proto_collect' ?_))
  unfold Builtin.«proto.collect»
  refine wpAny_bind (wpAny_newList (wpAny_pure ⟨Code.quiet_builtin _ (by decide +kernel), codeAny_builtin entry_list_iadd' ?_⟩) (by rw [sizeLine_eq]; decide))
  unfold Builtin.«list.__iadd__»
  have ho' := Heap.get?_push_of_some (seqObj "list" #[] 0) ho
  have hn : (s.heap.push (seqObj "list" #[] 0)).get? s.heap.objs.size = some (seqObj "list" #[] 0) := Heap.get?_push_size s.heap rfl
  show wpAny _ _ (Builtin.List.listExtendWith (.ref s.heap.objs.size) (.ref l) (.ref s.heap.objs.size)) _ _ _
  unfold Builtin.List.listExtendWith
  refine wpAny_bind (wpAny_typeOf ⟨o, ho', hc⟩ ?_)
  rw [if_pos (by rw [show (Value.type "tuple" == Value.type "tuple") = true from beq_self_eq_true _, Bool.or_true])]
  refine wpAny_bind (listItems_at ho' hd (wpAny_bind (listItems_at hn rfl ?_)))
  rw [if_neg (by exact fun q => nomatch q)]
  refine wpAny_bind (listUpdate_at hn rfl (wpAny_pure ?_) (Nat.zero_le _) (by simp; omega))
  refine wpAny_bind (wpAny_load (get?_update_seq hn fun x => x ++ vs.toArray) ?_)
  show wpAny _ _ (pure (#[] ++ vs.toArray).toList) _ _ _
  have e : (#[] ++ vs.toArray).toList = vs := by simp
  rw [e]
  exact wpAny_pure h
/-- sorted(t), t a tuple of ints -/
theorem sorted_tup {P : Program} {w : World} {A : Around} {E : Value → Shared → Prop} {s : Shared} {l : Addr} {o : Obj} {vs : List Value} {n : Nat} {ns : List Int} {Q : Value → Shared → Prop} (ho : s.heap.get? l = some o) (hc : o.cls = .type "tuple") (hd : o.data = .seq vs.toArray n) (hI : IntsAre vs ns) (h64 : vs.length < 64)
    (h : ∀ (h' : Heap) (p : Addr) (out : Array Value) (c : Nat) (ns' : List Int), (∀ (b : Addr) (u : Obj), s.heap.get? b = some u → h'.get? b = some u) → s.heap.objs.size ≤ p → h'.get? p = some (seqObj "list" out c) → IntsAre out.toList ns' → ns'.Perm ns → ns'.Pairwise (· ≤ ·) → Q (.ref p) { s with heap := h' }) :
    wpAny (model P w) A (call (.builtin "sorted") [.ref l]) Q E s := by
  have hz : vs.length ≤ sizeLine := Nat.le_trans (Nat.le_of_lt h64) (by decide)
  refine Calls.call_function_entry kind_sorted plain_sorted entry_sorted (args_sorted1 (.ref l)) ?_
  refine wpAny_bind (wpAny_pure (wpAny_bind (collect_tup ho hc hd h64 ?_)))
  have keep : ∀ (b : Addr) (u : Obj), s.heap.get? b = some u → ((s.heap.push (seqObj "list" #[] 0)).update s.heap.objs.size (Obj.mapSeq fun x => x ++ vs.toArray)).get? b = some u := fun b u e => by
    rw [Heap.get?_update_ne _ _ _ _ (Nat.ne_of_lt (Heap.lt_size e))]
    exact Heap.get?_push_of_some _ e
  have lle : s.heap.objs.size ≤ ((s.heap.push (seqObj "list" #[] 0)).update s.heap.objs.size (Obj.mapSeq fun x => x ++ vs.toArray)).objs.size := by
    rw [Heap.size_update, size_push']
    omega
  generalize (s.heap.push (seqObj "list" #[] 0)).update s.heap.objs.size (Obj.mapSeq fun x => x ++ vs.toArray) = h1 at keep lle
  refine wpAny_bind (wpAny_newList ?_ hz)
  have hoL : (h1.push (seqObj "list" vs.toArray 0)).get? h1.objs.size = some (seqObj "list" vs.toArray 0) := Heap.get?_push_size h1 rfl
  refine wpAny_bind (wpAny_holding (wpAny_call_entry slot_list_sort ⟨_, hoL, rfl⟩ entry_list_sort (list_sort_tree (vs := vs) hoL hI h64 fun out ns' a1 a2 a3 => ⟨Value.none, rfl, wpAny_pure ⟨_, rfl, ?_⟩⟩) (args_list_sort _)))
  obtain ⟨c, hc'⟩ := sortedHeap_at (out := out) hoL
  refine h _ _ out c ns' (fun b u e => ?_) lle hc' a1 a2 a3
  have k := keep b u e
  have lt := Heap.lt_size k
  rw [sortedHeap_old (Nat.ne_of_lt lt) (by rw [size_push']; exact Nat.lt_succ_of_lt lt)]
  exact Heap.get?_push_of_some _ k
def rSortedE (K : PySem.W.Frag) : List V → Hp → VK → Prop := fun vs H Q => ∃ a ns, vs = [V.ref a] ∧ (SqL K H a (ns.map V.int) ∨ SqT K H a (ns.map V.int)) ∧ ns.length < 64 ∧ ∀ (ns' : List Int) (p : Addr), ns'.Perm ns → ns'.Pairwise (· ≤ ·) → H p = none → Q (.ref p) (upd H p (.lst (ns'.map V.int)))
theorem cr_sortedE {X : Cx} : CallR X (.builtin "sorted") (rSortedE X.K) := by
  intro pins s σ H vs us Q I r h
  obtain ⟨a, ns, rfl, hs, hl, q⟩ := h
  rcases hs with hs | hs
  · exact cr_sorted pins s σ H _ us Q I r ⟨a, ns, rfl, hs, hl, q⟩
  · obtain ⟨its, rv, ht, hz⟩ := I.tuple hs
    rw [Vals.ref1 r]
    obtain ⟨o, ho, hc, n, hd⟩ := ht
    have l1 := rv.length
    rw [List.length_map] at l1
    refine sorted_tup (vs := its) ho hc hd (Vals.ints rv) (by rw [← l1]; exact hl) fun h' p out c ns' keep le at_ iv pm pw => ?_
    refine ⟨.ref p, upd H p (.lst (ns'.map V.int)), I.laid keep le ⟨?_, _, c, vals_of_ints iv, at_⟩, rfl, q _ _ pm pw (I.hok.fresh le)⟩
    rw [List.length_map, pm.length_eq]
    exact Nat.le_trans (Nat.le_of_lt hl) (by decide)
/-- set(t), t a list or a tuple of ints -/
def rSetE (K : PySem.W.Frag) (w : World) : List V → Hp → VK → Prop := fun vs H Q => ∃ (a : Addr) (ns : List Int), vs = [V.ref a] ∧ (SqL K H a (ns.map V.int) ∨ SqT K H a (ns.map V.int)) ∧ ns.length ≤ 1000 ∧
  ∀ (q : Addr) (c : Nat), c ≤ ns.length → H q = none → Q (.ref q) (upd H q (SetO w q (fun j => decide (j ∈ ns)) c))
theorem cr_setE {X : Cx} (hc : X.calm = true) : CallR X (.type "set") (rSetE X.K X.w) := by
  intro pins s σ H vs us Q I r h
  obtain ⟨a, ns, rfl, hs, hl, q⟩ := h
  rcases hs with hs | hs
  · exact KSL.cr_setL hc pins s σ H _ us Q I r ⟨a, ns, rfl, hs, hl, q⟩
  · obtain ⟨its, rv, ht, hz⟩ := I.tuple hs
    rw [Vals.ref1 r]
    refine call_set_tupI ns (I.ok.hd hc) ht (Vals.ints rv) (Nat.lt_of_le_of_lt (Nat.add_le_add_right hl 1) (by decide)) fun h' tk c hS hle hk => ?_
    exact ⟨.ref _, upd H s.heap.objs.size (SetO X.w s.heap.objs.size (fun j => decide (j ∈ ns)) c), I.laid (t' := tk) hk (Nat.le_refl _) (setO_new hS), rfl, q _ c hle (I.hok.fresh (Nat.le_refl _))⟩
end KSE
namespace KSS
open PySem PySem.Spec PyProof.Rows L2 PySem.W
/-! ### sum of a list or a tuple -/
section
variable {P : Program} {w : World} {A : Around} {E : Value → Shared → Prop} {s : Shared} {l : Addr}
theorem sum_tupR {vs : List Value} {zs : List Int} {Q : Value → Shared → Prop} (hh : A.handled = none) (ht : s.heap.IsTuple l vs.toArray) (iv : IntsAre vs zs)
    (h : ∀ h' tk t', (∀ b o, s.heap.get? b = some o → h'.get? b = some o) → Q (.int zs.sum t') { s with heap := h', toks := tk }) : wpAny (model P w) A (call (.builtin "sum") [.ref l]) Q E s := by
  obtain ⟨ps, eq⟩ := iv.allInts.items
  have en : numsOf (intItems ps).toList = zs := by
    rw [← eq]
    exact iv.numsOf
  rw [nums_intItems] at en
  rw [eq] at ht
  have old : l < s.heap.objs.size := ht.elim fun _ q => Heap.lt_size q.1
  refine call_sum_walkG (wpAny_pyIter_tuple ht ?_)
  refine ⟨_, [_, l], [_], _, _, _, numAt ps, rfl, Walks.tuple (A := A.in1) hh _ l (Nat.ne_of_lt old) (intItems ps), ⟨⟨_, Heap.get?_push_size _ rfl, rfl, rfl⟩, ht.push _⟩, fun c hc => ?_, fun _ _ => intItems_at, fun h' tk t' hk => ?_⟩
  · have e : (s.heap.push { cls := .type "tuple_iterator", data := .fields #[.ref l, .int 0 0] }).objs.size = s.heap.objs.size + 1 := Heap.size_push _ _
    refine Nat.lt_of_lt_of_eq ?_ e.symm
    rcases List.mem_cons.mp hc with rfl | hc
    · exact Nat.lt_succ_self _
    · exact List.mem_singleton.mp hc ▸ Nat.lt_succ_of_lt old
  · have q := h h' tk t' fun b o q => hk b o (fun hm => absurd (List.mem_singleton.mp hm ▸ Heap.lt_size q) (Nat.lt_irrefl _)) (Heap.get?_push_of_some _ q)
    rw [show preSum (numAt ps) (intItems ps).size = zs.sum by rw [show (intItems ps).size = ps.size by simp [intItems], preSum_eq, List.take_of_length_le (by simp), en]]
    exact q
end
def rSumE (K : PySem.W.Frag) : List V → Hp → VK → Prop := fun vs H Q => ∃ (a : Addr) (ns : List Int), vs = [V.ref a] ∧ (SqL K H a (ns.map V.int) ∨ SqT K H a (ns.map V.int)) ∧ Q (.int ns.sum) H
theorem cr_sumE {X : Cx} (hc : X.calm = true) : CallR X (.builtin "sum") (rSumE X.K) := by
  intro pins s σ H vs us Q I rv h
  obtain ⟨a, ns, rfl, hs, k⟩ := h
  rcases hs with hs | hs
  · exact cr_sum hc pins s σ H _ us Q I rv ⟨a, ns, rfl, hs, k⟩
  · obtain ⟨its, ri, ht, hz⟩ := I.tuple hs
    rw [Vals.ref1 rv]
    exact sum_tupR (I.ok.hd hc) ht (Vals.ints ri) fun h' tk t' hk => ⟨.int _, H, I.kept hk, ⟨_, rfl⟩, k⟩
end KSS
namespace K39
open PySem PySem.Spec PyProof.Rows L2 PySem.W LamX KA KW KU KL KT
open Evl (pss_cut tCut)
/-! ### what must and can have come -/
def hv : Option Int → V
  | none => .non
  | some i => .int i
theorem hv_non (o : Option Int) : decide (hv o = .non) = o.isNone := by
  cases o <;> rfl
/-- sizes at x -/
def Zv (H : Hp) (x : V) (l : List Int) : Prop := ∃ a : Addr, x = .ref a ∧ (H a = some (.lst (l.map V.int)) ∨ H a = some (.tup (l.map V.int)))
theorem Zv.keep {H H' : Hp} {x : V} {l : List Int} (h : Zv H x l) (s : Same H H') : Zv H' x l := by
  obtain ⟨a, rfl, e⟩ := h
  exact ⟨a, rfl, e.imp (s _ _) (s _ _)⟩
theorem cut_any (xs : List V) (t : Nat) : cutV xs none (some (t : Int)) = xs.take t := by
  unfold cutV
  rw [HT.sIx_none, HT.sIx_nat, List.drop_zero, Nat.sub_zero]
  by_cases c : t ≤ xs.length
  · rw [Nat.min_eq_left c]
  · rw [Nat.min_eq_right (show xs.length ≤ t by omega), List.take_length, List.take_of_length_le (show xs.length ≤ t by omega)]
theorem take_any {K : PySem.W.Frag} {a : Addr} {xs : List V} (t : Nat) {H : Hp} {Q : VK} (ea : H a = some (.lst xs) ∨ H a = some (.tup xs)) (k : ∀ c H', Same H H' → (H' c = some (.lst (xs.take t)) ∨ H' c = some (.tup (xs.take t))) → Q (.ref c) H') : KSE.rSlE K (.ref a) none (some (t : Int)) H Q := by
  rcases ea with ea | ea
  · exact .inl ⟨a, xs, rfl, SqL.of ea, fun p hp => k p _ (Same.new hp) (.inl (by rw [upd_same, cut_any]))⟩
  · refine .inr ⟨a, xs, rfl, SqT.of ea, fun z => ?_, fun _ p hp => k p _ (Same.new hp) (.inr (by rw [upd_same, cut_any]))⟩
    refine k a H (fun _ _ e => e) (.inr ?_)
    have := z.2
    rw [HT.sIx_nat] at this
    rw [List.take_of_length_le (by omega)]
    exact ea
theorem sum_take {K : PySem.W.Frag} {a : Addr} {l : List Int} (t : Nat) {H : Hp} {Q : VK} (ea : H a = some (.lst (l.map V.int)) ∨ H a = some (.tup (l.map V.int))) (k : ∀ H', Same H H' → Q (.int (pre l t)) H') : KSE.rSlE K (.ref a) none (some (t : Int)) H fun v H' => KSS.rSumE K [v] H' Q := by
  refine take_any (K := K) t ea fun c H' s e => ?_
  rw [← List.map_take] at e
  exact ⟨c, l.take t, rfl, e.imp SqL.of SqT.of, k H' s⟩
theorem sum_all {K : PySem.W.Frag} {x : V} {l : List Int} {H : Hp} {Q : VK} (z : Zv H x l) (k : Q (.int l.sum) H) : KSS.rSumE K [x] H Q := by
  obtain ⟨a, rfl, e⟩ := z
  exact ⟨a, l, rfl, e.imp SqL.of SqT.of, k⟩
def spLastT (K : PySem.W.Frag) : Sp := fun vs H Q _ => ∃ (x : V) (l : List Int) (d : Nat) (ho : Option Int), vs = [x, .int (d : Int), hv ho] ∧ Zv H x l ∧ 1 ≤ l.length ∧ Q (.int ((lastT l.length d ho : Nat) : Int)) H
def spTaken (K : PySem.W.Frag) : Sp := fun vs H Q _ => ∃ (x : V) (l : List Int) (d t : Nat), vs = [x, .int (d : Int), .int (t : Int)] ∧ Zv H x l ∧ ∀ H', Same H H' → Q (.int (pre l (t + 1 - d))) H'
def IL (f : Nat → Int) (n : Nat) : List Int := (List.range n).map f
theorem IL_succ (f : Nat → Int) (n : Nat) : IL f (n + 1) = IL f n ++ [f n] := by
  unfold IL
  rw [List.range_succ, List.map_append]
  rfl
theorem IL_len (f : Nat → Int) (n : Nat) : (IL f n).length = n := by
  unfold IL
  rw [List.length_map, List.length_range]
theorem IL_at {f : Nat → Int} {n i : Nat} (h : i < n) : (IL f n)[i]? = some (f i) := by
  unfold IL
  rw [List.getElem?_map, List.getElem?_range h]
  rfl
theorem IL_V {f : Nat → Int} {n i : Nat} (h : i < n) : ((IL f n).map V.int)[i]? = some (.int (f i)) := by
  rw [List.getElem?_map, IL_at h]
  rfl
def spLeast (K : PySem.W.Frag) : Sp := fun vs H Q _ => ∃ (x : V) (l : List Int) (d n : Nat) (ho : Option Int), vs = [x, .int (d : Int), hv ho, .int (n : Int)] ∧ Zv H x l ∧ n ≤ 100 ∧ ∀ H' p, Same H H' → H p = none → H' p = some (.lst ((IL (mustAt l d ho) (n + 1)).map V.int)) → Q (.ref p) H'
def spMost (K : PySem.W.Frag) : Sp := fun vs H Q _ => ∃ (x : V) (l : List Int) (d n : Nat) (ho ro : Option Int), vs = [x, .int (d : Int), hv ho, hv ro, .int (n : Int)] ∧ Zv H x l ∧ n ≤ 100 ∧ ∀ H' p, Same H H' → H p = none → H' p = some (.lst ((IL (canAt l d ho ro) (n + 1)).map V.int)) → Q (.ref p) H'
section
variable {P : Program} {w : World} {K : PySem.W.Frag} {mg : Str → Option Value} {base : Heap} (T : Top K mg)
theorem ok_last_tick : FnOk P w K mg base (L2.CX P w) 1 T.last_tick.a T.last_tick.d ["sizes", "delay", "hold"] (spLastT K) := by
  refine T.last_tick.f.okX sc_last_tick (fun vs H Q E h => ?_) (fun cdv A outer s H vs Q E hr h => ?_)
  · obtain ⟨x, l, d, ho, rfl, _⟩ := h
    rfl
  · obtain ⟨x, l, d, ho, rfl, hz, h1, k⟩ := h
    obtain ⟨a, rfl, e⟩ := hz
    refine ⟨_, (pss_cons (ps_set (i := 3) sc_last_tick.nd rfl (by first | exact .inl rfl | exact .inr rfl) (pe_op op_sub (pe_op op_add (pv 1) (pe_callB call_len_seq (by rfl) T.b_len PySem.boot_len (pa_cons (pv 0) pa_nil))) pe_int))
      (pss_one (ps_ret (pe_ifExp (pt_cmpR (show OpR _ _ KIN.rIsN from op_isN) (pv 2) pe_non (nomark _)) (pv 3) (pe_callB (call_max2 rfl) (by rfl) T.b_max PyProof.Rows.boot_max (pa_cons (pv 3) (pa_cons (pe_callB call_len_seq (by rfl) T.b_len PySem.boot_len (pa_cons (pv 0) pa_nil)) pa_nil))))))), ?_⟩
    refine ⟨_, rfl, _, rfl, a, _, rfl, e.imp SqL.of SqT.of, _, _, rfl, rfl, _, _, rfl, rfl, ?_⟩
    refine ⟨_, rfl, rfl, _, rfl, ?_⟩
    rw [List.length_map, hv_non]
    cases ho with
    | none =>
      refine iteT ⟨_, rfl, q_int k ?_⟩
      show (d : Int) + (l.length : Int) - 1 = ((d + l.length - 1 : Nat) : Int)
      omega
    | some i =>
      refine iteF ⟨_, rfl, _, rfl, a, _, rfl, e.imp SqL.of SqT.of, _, _, rfl, ?_⟩
      rw [List.length_map]
      refine q_int k ?_
      show (if (l.length : Int) > (d : Int) + (l.length : Int) - 1 then (l.length : Int) else (d : Int) + (l.length : Int) - 1) = ((max (d + l.length - 1) l.length : Nat) : Int)
      split <;> omega
theorem ok_taken_by : FnOk P w K mg base (L2.CX P w) 1 T.taken_by.a T.taken_by.d ["sizes", "delay", "tick"] (spTaken K) := by
  refine T.taken_by.f.okX sc_taken_by (fun vs H Q E h => ?_) (fun cdv A outer s H vs Q E hr h => ?_)
  · obtain ⟨x, l, d, t, rfl, _⟩ := h
    rfl
  · obtain ⟨x, l, d, t, rfl, hz, k⟩ := h
    obtain ⟨a, rfl, e⟩ := hz
    refine ⟨_, (pss_one (ps_ret (pe_callB (show CallR _ _ (KSS.rSumE K) from KSS.cr_sumE rfl) (by rfl) T.b_sum (by decide +kernel) (pa_cons (pe_slice (show SlR _ (KSE.rSlE K) from KSE.sl_either) (pv 0) po_none (po_some (pe_callB (call_max2 rfl) (by rfl) T.b_max PyProof.Rows.boot_max (pa_cons pe_int (pa_cons (pe_op op_add (pe_op op_sub (pv 2) (pv 1)) pe_int) pa_nil))))) pa_nil)))), ?_⟩
    refine ⟨_, rfl, _, rfl, _, rfl, _, _, rfl, rfl, _, _, rfl, rfl, _, _, rfl, _, rfl, ?_⟩
    rw [show (if (t : Int) - (d : Int) + 1 > 0 then (t : Int) - (d : Int) + 1 else 0) = ((t + 1 - d : Nat) : Int) by split <;> omega]
    exact sum_take (K := K) _ e k
theorem ok_least_brought : FnOk P w K mg base (L2.CX P w) 2 T.least_brought.a T.least_brought.d ["sizes", "delay", "hold", "last"] (spLeast K) := by
  refine T.least_brought.f.okX sc_least_brought (fun vs H Q E h => ?_) (fun cdv A outer s H vs Q E hr h => ?_)
  · obtain ⟨x, l, d, n, ho, rfl, _⟩ := h
    rfl
  · obtain ⟨x, l, d, n, ho, rfl, hz, hn, k⟩ := h
    refine ⟨_, (pss_cons (ps_set (i := 4) sc_least_brought.nd rfl (by first | exact .inl rfl | exact .inr rfl) (pe_lst pa_nil))
      (pss_cons (ps_for (passes_of rfl) rfl (pi_range1 (by rfl) T.b_range (pa_cons (pe_op op_add (pv 3) pe_int) pa_nil)) (pg_name (i := 5) sc_least_brought.nd rfl (by first | exact .inl rfl | exact .inr rfl))
        (pss_cons (ps_set (i := 6) sc_least_brought.nd rfl (by first | exact .inl rfl | exact .inr rfl) (pe_call (ok_taken_by T) (hr.mono (by decide)) (by rfl) T.taken_by.m T.taken_by.f.kp (bd_taken_by T) .nil passE (pa_cons (pv 0) (pa_cons (pv 1) (pa_cons (pv 5) pa_nil)))))
      (pss_one (ps_expr (pe_bm PySem.F.plainAttrs_list PySem.F.slot_list_append PySem.F.type_list_append mt_append (pv 4) (pa_cons (pe_ifExp (pt_cmpR (show OpR _ _ KIN.rIsN from op_isN) (pv 2) pe_non (nomark _)) (pv 6) (pe_callB (call_max2 rfl) (by rfl) T.b_max PyProof.Rows.boot_max (pa_cons (pv 6) (pa_cons (pe_op op_sub (pe_callB (show CallR _ _ (KSS.rSumE K) from KSS.cr_sumE rfl) (by rfl) T.b_sum (by decide +kernel) (pa_cons (pe_slice (show SlR _ (KSE.rSlE K) from KSE.sl_either) (pv 0) po_none (po_some (pv 5))) pa_nil)) (pv 2)) pa_nil)))) pa_nil))))))
      (pss_one (ps_ret (pv 4))))), ?_⟩
    refine ⟨(by show 0 ≤ sizeLine; decide), fun q hq => ?_⟩
    refine ⟨_, rfl, _, _, rfl, rfl, _, rfl, by omega, by omega, ?_⟩
    refine for_range (n := _) (fun j σ H1 => Same H H1 ∧ H1 q = some (.lst ((IL (mustAt l d ho) j).map V.int)) ∧ ∃ v5 v6, σ = [some x, some (.int (d : Int)), some (hv ho), some (.int (n : Int)), some (.ref q), v5, v6]) ⟨Same.new hq, upd_same, _, _, rfl⟩ ?_ ?_
    · rintro i σ H1 hi ⟨s1, e1, v5, v6, rfl⟩
      have hi : i < n + 1 := by omega
      refine ⟨_, rfl, _, rfl, _, rfl, x, l, d, i, ?_, hz.keep s1, fun H2 s2 => ?_⟩
      · rw [Int.zero_add]
        rfl
      have e2 := s2 _ _ e1
      have s12 := s1.trans s2
      refine ⟨_, rfl, .inl ⟨rfl, _, SqL.of e2⟩, ?_⟩
      refine ⟨_, rfl, rfl, _, rfl, ?_⟩
      rw [hv_non]
      cases ho with
      | none =>
        refine iteT ⟨_, rfl, ?_⟩
        refine ⟨_, _, _, rfl, rfl, e2, by rw [List.length_map, IL_len]; exact Nat.lt_of_le_of_lt (show i ≤ 1000 by omega) (by decide), Same.put s12 hq, ?_, _, _, rfl⟩
        rw [upd_same, IL_succ, List.map_append]
        rfl
      | some h =>
        obtain ⟨a, rfl, ea⟩ := hz
        refine iteF ⟨_, rfl, _, rfl, _, rfl, _, rfl, ?_⟩
        rw [Int.zero_add]
        refine take_any (K := K) i (ea.imp (s12 _ _) (s12 _ _)) fun c H3 s3 e3 => ?_
        rw [← List.map_take] at e3
        refine ⟨c, l.take i, rfl, e3.imp SqL.of SqT.of, _, rfl, _, _, rfl, rfl, _, _, rfl, ?_⟩
        refine ⟨_, _, _, rfl, rfl, s3 _ _ e2, by rw [List.length_map, IL_len]; exact Nat.lt_of_le_of_lt (show i ≤ 1000 by omega) (by decide), Same.put (s12.trans s3) hq, ?_, _, _, rfl⟩
        rw [upd_same, IL_succ, List.map_append]
        have e9 : (if (l.take i).sum - h > pre l (i + 1 - d) then (l.take i).sum - h else pre l (i + 1 - d)) = mustAt l d (some h) i := by
          show _ = max (pre l (i + 1 - d)) ((l.take i).sum - h)
          split <;> omega
        rw [e9]
        rfl
    · rintro σ H1 ⟨s1, e1, v5, v6, rfl⟩
      refine ⟨_, rfl, k H1 q s1 hq ?_⟩
      rw [e1]
      rw [show ((n : Int) + 1).toNat = n + 1 by omega]
theorem ok_most_brought : FnOk P w K mg base (L2.CX P w) 2 T.most_brought.a T.most_brought.d ["sizes", "delay", "hold", "room", "last"] (spMost K) := by
  refine T.most_brought.f.okX sc_most_brought (fun vs H Q E h => ?_) (fun cdv A outer s H vs Q E hr h => ?_)
  · obtain ⟨x, l, d, n, ho, ro, rfl, _⟩ := h
    rfl
  · obtain ⟨x, l, d, n, ho, ro, rfl, hz, hn, k⟩ := h
    refine ⟨_, (pss_cons (ps_set (i := 5) sc_most_brought.nd rfl (by first | exact .inl rfl | exact .inr rfl) (pe_lst (pa_cons pe_int pa_nil)))
      (pss_cons (ps_for (passes_of rfl) rfl (pi_range2 (by rfl) T.b_range (pa_cons pe_int (pa_cons (pe_op op_add (pv 4) pe_int) pa_nil))) (pg_name (i := 6) sc_most_brought.nd rfl (by first | exact .inl rfl | exact .inr rfl))
        (pss_cut (ps_set (i := 7) sc_most_brought.nd rfl (by first | exact .inl rfl | exact .inr rfl) (pe_ifExp (pt_cmpR (show OpR _ _ KIN.rIsN from op_isN) (pv 2) pe_non (nomark _)) (pe_callB (show CallR _ _ (KSS.rSumE K) from KSS.cr_sumE rfl) (by rfl) T.b_sum (by decide +kernel) (pa_cons (pv 0) pa_nil)) (pe_callB (show CallR _ _ (KSS.rSumE K) from KSS.cr_sumE rfl) (by rfl) T.b_sum (by decide +kernel) (pa_cons (pe_slice (show SlR _ (KSE.rSlE K) from KSE.sl_either) (pv 0) po_none (po_some (pv 6))) pa_nil))))
      (pss_one (ps_expr (pe_bm PySem.F.plainAttrs_list PySem.F.slot_list_append PySem.F.type_list_append mt_append (pv 5) (pa_cons (pe_ifExp (pt_cmpR (show OpR _ _ KIN.rIsN from op_isN) (pv 3) pe_non (nomark _)) (pv 7) (pe_callB (call_min2 rfl) (by rfl) T.b_min PyProof.Rows.boot_min (pa_cons (pv 7) (pa_cons (pe_op op_add (pe_call (ok_taken_by T) (hr.mono (by decide)) (by rfl) T.taken_by.m T.taken_by.f.kp (bd_taken_by T) .nil passE (pa_cons (pv 0) (pa_cons (pv 1) (pa_cons (pe_op op_sub (pv 6) pe_int) pa_nil)))) (pv 3)) pa_nil)))) pa_nil))))))
      (pss_one (ps_ret (pv 5))))), ?_⟩
    refine ⟨(by show 1 ≤ sizeLine; decide), fun q hq => ?_⟩
    refine ⟨_, rfl, _, _, rfl, rfl, _, _, rfl, ⟨by decide, by decide, by omega, by omega⟩, ?_⟩
    refine for_range (n := _) (fun j σ H1 => Same H H1 ∧ H1 q = some (.lst ((IL (canAt l d ho ro) (j + 1)).map V.int)) ∧ ∃ v6 v7, σ = [some x, some (.int (d : Int)), some (hv ho), some (hv ro), some (.int (n : Int)), some (.ref q), v6, v7]) ⟨Same.new hq, upd_same, _, _, rfl⟩ ?_ ?_
    · rintro i σ H1 hi ⟨s1, e1, v6, v7, rfl⟩
      have hi : i < n := by omega
      rw [show (1 : Int) + (i : Int) = ((i + 1 : Nat) : Int) by omega]
      refine ⟨fun σ' H2 => Same H H2 ∧ H2 q = some (.lst ((IL (canAt l d ho ro) (i + 1)).map V.int)) ∧ σ' = [some x, some (.int (d : Int)), some (hv ho), some (hv ro), some (.int (n : Int)), some (.ref q), some (.int ((i + 1 : Nat) : Int)), some (.int (comeI l ho (i + 1)))], ?_, ?_⟩
      · refine ⟨_, rfl, rfl, _, rfl, ?_⟩
        rw [hv_non]
        cases ho with
        | none =>
          obtain ⟨a, rfl, ea⟩ := hz
          exact iteT ⟨_, rfl, a, l, rfl, ea.imp (fun z => SqL.of (s1 _ _ z)) (fun z => SqT.of (s1 _ _ z)), s1, e1, rfl⟩
        | some h =>
          obtain ⟨a, rfl, ea⟩ := hz
          refine iteF ⟨_, rfl, _, rfl, _, rfl, ?_⟩
          refine take_any (K := K) (i + 1) (ea.imp (s1 _ _) (s1 _ _)) fun c H3 s3 e3 => ?_
          rw [← List.map_take] at e3
          exact ⟨c, l.take (i + 1), rfl, e3.imp SqL.of SqT.of, s1.trans s3, s3 _ _ e1, rfl⟩
      · rintro σ' H2 ⟨s2, e2, rfl⟩
        refine ⟨_, rfl, .inl ⟨rfl, _, SqL.of e2⟩, ?_⟩
        refine ⟨_, rfl, rfl, _, rfl, ?_⟩
        rw [hv_non]
        cases ro with
        | none =>
          refine iteT ⟨_, rfl, ?_⟩
          refine ⟨_, _, _, rfl, rfl, e2, by rw [List.length_map, IL_len]; exact Nat.lt_of_le_of_lt (show i + 1 ≤ 1000 by omega) (by decide), Same.put s2 hq, ?_, _, _, rfl⟩
          rw [upd_same, IL_succ _ (i + 1), List.map_append]
          rfl
        | some r =>
          refine iteF ⟨_, rfl, _, rfl, _, rfl, _, rfl, _, _, rfl, rfl, x, l, d, i, ?_, hz.keep s2, fun H3 s3 => ?_⟩
          · show [x, V.int (d : Int), V.int (((i + 1 : Nat) : Int) - 1)] = _
            rw [show ((i + 1 : Nat) : Int) - 1 = (i : Int) by omega]
          refine ⟨_, rfl, _, _, rfl, rfl, _, _, rfl, ?_⟩
          refine ⟨_, _, _, rfl, rfl, s3 _ _ e2, by rw [List.length_map, IL_len]; exact Nat.lt_of_le_of_lt (show i + 1 ≤ 1000 by omega) (by decide), Same.put (s2.trans s3) hq, ?_, _, _, rfl⟩
          rw [upd_same, IL_succ _ (i + 1), List.map_append]
          have e9 : (if pre l (i + 1 - d) + r < comeI l ho (i + 1) then pre l (i + 1 - d) + r else comeI l ho (i + 1)) = canAt l d ho (some r) (i + 1) := by
            show _ = min (comeI l ho (i + 1)) (pre l (i + 1 - d) + r)
            split <;> omega
          rw [e9]
          rfl
    · rintro σ H1 ⟨s1, e1, v6, v7, rfl⟩
      refine ⟨_, rfl, k H1 q s1 hq ?_⟩
      rw [e1]
      rw [show ((n : Int) + 1 - 1).toNat = n by omega]
end
end K39
namespace KZ3
open PySem PySem.Spec PyProof.Rows L2
open Sem (wp)
/-! ### zip of three lists -/
theorem typeCall3 (a b c : Value) : checkTypeCall "zip" ⟨[a, b, c], []⟩ = pure () := by kernel_rfl
theorem newCall3 (a b c : Value) : checkBuiltinCall "zip.__new__" ⟨[.type "zip", a, b, c], []⟩ = pure () := by kernel_rfl
theorem args_init4 (a b c d : Value) : argsOk "object.__init__" ⟨[a, b, c, d], []⟩ := by
  unfold argsOk; rw [signature?_of (id := "object.__init__") (n := ['_', '_', 't', 'i', 'n', 'i', '_', '_']) (o := ['t', 'c', 'e', 'j', 'b', 'o']) (by kernel_rfl) F.owner_object]; kernel_rfl
abbrev IsTrip (h : Heap) (T : Addr) (a b c : Value) : Prop := h.get? T = some { cls := .type "tuple", data := .seq #[a, b, c] }
structure Ap3 (z TI TO i1 i2 i3 l1 l2 l3 : Nat) : Prop where
  o1 : l1 < i1
  o2 : l2 < i1
  o3 : l3 < i1
  o4 : i1 < i2
  o5 : i2 < i3
  o6 : i3 < TI
  o7 : TI < TO
  o8 : TO < z
theorem neA {a b : Nat} (h : ¬ a = b) : (show Addr from a) ≠ (show Addr from b) := h
section
variable {prog : Program} {w : World} {A : Around} {E : Value → Shared → Prop} {s : Shared}
theorem wpAny_updateSeq_trip {T : Addr} {a b c x : Value} {k : Nat} {Q : Unit → Shared → Prop} (hT : IsTrip s.heap T a b c)
    (h : ∀ h', h'.get? T = some { cls := .type "tuple", data := .seq ((#[a, b, c] : Array Value).setIfInBounds k x) } → Heap.SameBut T s.heap h' → Q () { s with heap := h' }) :
    wpAny (model prog w) A (updateSeq T (·.setIfInBounds k x)) Q E s := by
  refine wpAny_updateSeq hT rfl (h _ ?_ (Heap.SameBut.update ..))
  rw [Heap.get?_update_self _ hT rfl]
  simp [Obj.mapSeq]
theorem zip3_next_item {z TI TO i1 i2 i3 l1 l2 l3 : Addr} {k1 k2 k3 : Nat} {xs ys zs : Array Value} {x y u a b c : Value} {Q : Value → Shared → Prop} (D : Ap3 z TI TO i1 i2 i3 l1 l2 l3)
    (hz : IsZip s.heap z TI TO .none) (hTI : IsTrip s.heap TI (.ref i1) (.ref i2) (.ref i3)) (hTO : IsTrip s.heap TO a b c)
    (h1 : s.heap.IsListIter i1 l1 k1) (h2 : s.heap.IsListIter i2 l2 k2) (h3 : s.heap.IsListIter i3 l3 k3) (hl1 : s.heap.IsList l1 xs) (hl2 : s.heap.IsList l2 ys) (hl3 : s.heap.IsList l3 zs) (hx : xs[k1]? = some x) (hy : ys[k2]? = some y) (hu : zs[k3]? = some u)
    (hQ : ∀ h', IsZip h' z TI TO (rawInt s.heap.objs.size) → IsTrip h' TO x y u → h'.IsListIter i1 l1 (k1 + 1) → h'.IsListIter i2 l2 (k2 + 1) → h'.IsListIter i3 l3 (k3 + 1) → IsTrip h' s.heap.objs.size x y u → h'.objs.size = s.heap.objs.size + 1 →
      (∀ c o, c ≠ z → c ≠ TO → c ≠ i1 → c ≠ i2 → c ≠ i3 → s.heap.get? c = some o → h'.get? c = some o) → Q (.ref s.heap.objs.size) { s with heap := h' }) :
    wpAny (model prog w) A (Builtin.«zip.__next__» ⟨[.ref z], []⟩) (fun fin s' => ∃ v, fin = .done (.ret v) ∧ Q v s') E s := by
  obtain ⟨o1, o2, o3, o4, o5, o6, o7, o8⟩ := D
  have n1 : i1 ≠ z := neA (by omega)
  have n2 : i2 ≠ z := neA (by omega)
  have n3 : i3 ≠ z := neA (by omega)
  have n4 : TO ≠ z := neA (by omega)
  have n5 : TO ≠ i1 := neA (by omega)
  have n6 : TO ≠ i2 := neA (by omega)
  have n7 : TO ≠ i3 := neA (by omega)
  have n8 : i1 ≠ i2 := neA (by omega)
  have n9 : i1 ≠ i3 := neA (by omega)
  have n10 : i2 ≠ i3 := neA (by omega)
  have m1 : l1 ≠ z := neA (by omega)
  have m2 : l2 ≠ z := neA (by omega)
  have m3 : l2 ≠ i1 := neA (by omega)
  have m4 : l2 ≠ TO := neA (by omega)
  have m5 : l3 ≠ z := neA (by omega)
  have m6 : l3 ≠ i1 := neA (by omega)
  have m7 : l3 ≠ TO := neA (by omega)
  have m8 : l3 ≠ i2 := neA (by omega)
  show wpAny _ _ (field (.ref z) 2 >>= _) _ _ _
  refine wpAny_bind (wpAny_field hz rfl (x := .bool false) rfl ?_)
  show wpAny _ _ (field (.ref z) 3 >>= _) _ _ _
  refine wpAny_bind (wpAny_field hz rfl (x := .ref TI) rfl ?_)
  refine wpAny_bind (wpAny_seqItems hTI rfl ?_)
  show wpAny _ _ (Builtin.SmallTypes.ownedTupleIsFree (.ref z) >>= _) _ _ _
  refine wpAny_bind ?_
  unfold Builtin.SmallTypes.ownedTupleIsFree
  refine wpAny_bind (wpAny_field hz rfl (x := .none) rfl (wpAny_pure ?_))
  simp only [if_true]
  refine wpAny_bind (wpAny_rule ?_)
  refine wpAny_bind (wpAny_field hz rfl (x := .ref TO) rfl ?_)
  refine wpAny_bind (wpAny_setField_rec hz (by simp) fun h₁ hz₁ hs₁ => ?_)
  replace hz₁ : IsZip h₁ z TI TO .ellipsis := hz₁
  refine wpAny_bind ?_
  simp only [List.zipIdx_cons, List.zipIdx_nil, List.forIn_cons, List.forIn_nil]
  refine wpAny_bind (wpAny_bind (wpAny_onRaise ?_))
  show wpAny _ _ (Builtin.SmallTypes.nextOf (.ref i1) >>= _) _ _ _
  refine wpAny_bind (wpAny_nextOf_list_item (h1.extBut hs₁.extBut n1) (hl1.extBut hs₁.extBut m1) hx fun h₂ h1₂ hs₂ => wpAny_pure ?_)
  have hTO₂ : IsTrip h₂ TO a b c := hs₂.extBut _ _ n5 (hs₁.extBut _ _ n4 hTO)
  refine wpAny_bind (wpAny_seqItems hTO₂ rfl ?_)
  refine wpAny_bind (wpAny_updateSeq_trip hTO₂ fun h₃ hTO₃ hs₃ => ?_)
  replace hTO₃ : IsTrip h₃ TO x b c := hTO₃
  refine wpAny_bind (wpAny_letGo (wpAny_pure ?_))
  refine wpAny_bind (wpAny_bind (wpAny_onRaise ?_))
  show wpAny _ _ (Builtin.SmallTypes.nextOf (.ref i2) >>= _) _ _ _
  refine wpAny_bind (wpAny_nextOf_list_item (((h2.extBut hs₁.extBut n2).extBut hs₂.extBut n8.symm).extBut hs₃.extBut n6.symm)
    (((hl2.extBut hs₁.extBut m2).extBut hs₂.extBut m3).extBut hs₃.extBut m4) hy fun h₄ h2₄ hs₄ => wpAny_pure ?_)
  have hTO₄ : IsTrip h₄ TO x b c := hs₄.extBut _ _ n6 hTO₃
  refine wpAny_bind (wpAny_seqItems hTO₄ rfl ?_)
  refine wpAny_bind (wpAny_updateSeq_trip hTO₄ fun h₅ hTO₅ hs₅ => ?_)
  replace hTO₅ : IsTrip h₅ TO x y c := hTO₅
  refine wpAny_bind (wpAny_letGo (wpAny_pure ?_))
  refine wpAny_bind (wpAny_bind (wpAny_onRaise ?_))
  show wpAny _ _ (Builtin.SmallTypes.nextOf (.ref i3) >>= _) _ _ _
  refine wpAny_bind (wpAny_nextOf_list_item (((((h3.extBut hs₁.extBut n3).extBut hs₂.extBut n9.symm).extBut hs₃.extBut n7.symm).extBut hs₄.extBut n10.symm).extBut hs₅.extBut n7.symm)
    (((((hl3.extBut hs₁.extBut m5).extBut hs₂.extBut m6).extBut hs₃.extBut m7).extBut hs₄.extBut m8).extBut hs₅.extBut m7) hu fun h₆ h3₆ hs₆ => wpAny_pure ?_)
  have hTO₆ : IsTrip h₆ TO x y c := hs₆.extBut _ _ n7 hTO₅
  refine wpAny_bind (wpAny_seqItems hTO₆ rfl ?_)
  refine wpAny_bind (wpAny_updateSeq_trip hTO₆ fun h₇ hTO₇ hs₇ => ?_)
  replace hTO₇ : IsTrip h₇ TO x y u := hTO₇
  refine wpAny_bind (wpAny_letGo (wpAny_pure (wpAny_pure ?_)))
  refine wpAny_bind (wpAny_seqItems hTO₇ rfl ?_)
  refine wpAny_bind (wpAny_newTuple ?_)
  have hsz : h₇.objs.size = s.heap.objs.size := by rw [hs₇.1, hs₆.1, hs₅.1, hs₄.1, hs₃.1, hs₂.1, hs₁.1]
  have hk₇ : ∀ c o, c ≠ z → c ≠ TO → c ≠ i1 → c ≠ i2 → c ≠ i3 → s.heap.get? c = some o → h₇.get? c = some o := fun c o c1 c2 c3 c4 c5 e =>
    hs₇.extBut _ _ c2 (hs₆.extBut _ _ c5 (hs₅.extBut _ _ c2 (hs₄.extBut _ _ c4 (hs₃.extBut _ _ c2 (hs₂.extBut _ _ c3 (hs₁.extBut _ _ c1 e))))))
  have hz₇ : IsZip h₇ z TI TO .ellipsis := hs₇.extBut _ _ n4.symm (hs₆.extBut _ _ n3.symm (hs₅.extBut _ _ n4.symm (hs₄.extBut _ _ n2.symm (hs₃.extBut _ _ n4.symm (hs₂.extBut _ _ n1.symm hz₁)))))
  have h1₇ : h₇.IsListIter i1 l1 (k1 + 1) := ((((h1₂.extBut hs₃.extBut n5.symm).extBut hs₄.extBut n8).extBut hs₅.extBut n5.symm).extBut hs₆.extBut n9).extBut hs₇.extBut n5.symm
  have h2₇ : h₇.IsListIter i2 l2 (k2 + 1) := ((h2₄.extBut hs₅.extBut n6.symm).extBut hs₆.extBut n10).extBut hs₇.extBut n6.symm
  have h3₇ : h₇.IsListIter i3 l3 (k3 + 1) := h3₆.extBut hs₇.extBut n7.symm
  have hzlt : z < h₇.objs.size := Heap.lt_size hz₇
  show wpAny _ _ (Builtin.SmallTypes.ownedTupleHandOut (.ref z) (.ref h₇.objs.size) >>= _) _ _ _
  refine wpAny_bind ?_
  unfold Builtin.SmallTypes.ownedTupleHandOut
  have hz₈ : IsZip (h₇.push { cls := .type "tuple", data := .seq #[x, y, u] }) z TI TO .ellipsis := Heap.get?_push_of_some _ hz₇
  refine wpAny_bind (wpAny_setField_rec hz₈ (by simp) fun h₉ hz₉ hs₉ => ?_)
  replace hz₉ : IsZip h₉ z TI TO (rawInt h₇.objs.size) := hz₉
  refine wpAny_setField_rec hz₉ (by simp) fun h₁₀ hz₁₀ hs₁₀ => ?_
  replace hz₁₀ : IsZip h₁₀ z TI TO (rawInt h₇.objs.size) := hz₁₀
  have up : ∀ c o, c ≠ z → h₇.get? c = some o → h₁₀.get? c = some o := fun c o c1 e => hs₁₀.extBut _ _ c1 (hs₉.extBut _ _ c1 (Heap.get?_push_of_some _ e))
  have hT : IsTrip h₁₀ h₇.objs.size x y u := hs₁₀.extBut _ _ (Nat.ne_of_gt hzlt) (hs₉.extBut _ _ (Nat.ne_of_gt hzlt) (Heap.get?_push_size _ rfl))
  have hz8 : h₁₀.objs.size = h₇.objs.size + 1 := by rw [hs₁₀.1, hs₉.1, Heap.size_push]
  rw [hsz] at hz₁₀ hT hz8
  refine wpAny_pure ⟨_, rfl, ?_⟩
  show Q (.ref h₇.objs.size) _
  rw [hsz]
  exact hQ h₁₀ hz₁₀ (up _ _ n4 hTO₇) (h1₇.at fun o e => up _ o n1 e) (h2₇.at fun o e => up _ o n2 e) (h3₇.at fun o e => up _ o n3 e) hT hz8 fun c o c1 c2 c3 c4 c5 e => up c o c1 (hk₇ c o c1 c2 c3 c4 c5 e)
theorem zip3_next_end {z TI TO i1 i2 i3 l1 l2 l3 : Addr} {k1 k2 k3 : Nat} {xs ys zs : Array Value} {a b c : Value} {Q : Fin → Shared → Prop} (hh : A.handled = none) (D : Ap3 z TI TO i1 i2 i3 l1 l2 l3)
    (hz : IsZip s.heap z TI TO .none) (hTI : IsTrip s.heap TI (.ref i1) (.ref i2) (.ref i3)) (hTO : IsTrip s.heap TO a b c)
    (h1 : s.heap.IsListIter i1 l1 k1) (h2 : s.heap.IsListIter i2 l2 k2) (h3 : s.heap.IsListIter i3 l3 k3) (hl1 : s.heap.IsList l1 xs) (hl2 : s.heap.IsList l2 ys) (hl3 : s.heap.IsList l3 zs) (hx : xs[k1]? = none)
    (hE : ∀ h' e, (∀ c o, c ≠ z → c ≠ TO → c ≠ i1 → c ≠ i2 → c ≠ i3 → s.heap.get? c = some o → h'.get? c = some o) → (∃ o, h'.get? e = some o ∧ o.cls = .type "StopIteration") → E (.ref e) { s with heap := h' }) :
    wpAny (model prog w) A (Builtin.«zip.__next__» ⟨[.ref z], []⟩) Q E s := by
  obtain ⟨o1, o2, o3, o4, o5, o6, o7, o8⟩ := D
  have n1 : i1 ≠ z := neA (by omega)
  have m1 : l1 ≠ z := neA (by omega)
  show wpAny _ _ (field (.ref z) 2 >>= _) _ _ _
  refine wpAny_bind (wpAny_field hz rfl (x := .bool false) rfl ?_)
  show wpAny _ _ (field (.ref z) 3 >>= _) _ _ _
  refine wpAny_bind (wpAny_field hz rfl (x := .ref TI) rfl ?_)
  refine wpAny_bind (wpAny_seqItems hTI rfl ?_)
  show wpAny _ _ (Builtin.SmallTypes.ownedTupleIsFree (.ref z) >>= _) _ _ _
  refine wpAny_bind ?_
  unfold Builtin.SmallTypes.ownedTupleIsFree
  refine wpAny_bind (wpAny_field hz rfl (x := .none) rfl (wpAny_pure ?_))
  simp only [if_true]
  refine wpAny_bind (wpAny_rule ?_)
  refine wpAny_bind (wpAny_field hz rfl (x := .ref TO) rfl ?_)
  refine wpAny_bind (wpAny_setField_rec hz (by simp) fun h₁ hz₁ hs₁ => ?_)
  replace hz₁ : IsZip h₁ z TI TO .ellipsis := hz₁
  refine wpAny_bind ?_
  simp only [List.zipIdx_cons, List.zipIdx_nil, List.forIn_cons, List.forIn_nil]
  refine wpAny_bind (wpAny_bind (wpAny_onRaise ?_))
  show wpAny _ _ (Builtin.SmallTypes.nextOf (.ref i1) >>= _) _ _ _
  refine wpAny_bind (wpAny_nextOf_list_end hh (h1.extBut hs₁.extBut n1) (hl1.extBut hs₁.extBut m1) hx fun h₂ e hs₂ he => ?_)
  obtain ⟨oe, hoe, hce⟩ := he
  have hz₂ : IsZip h₂ z TI TO .ellipsis := hs₂ _ _ n1.symm hz₁
  have hez : e ≠ z := fun x => by subst x; rw [hz₂] at hoe; cases hoe; simp at hce
  refine wpAny_setField_rec hz₂ (by simp) fun h₃ _ hs₃ => hE h₃ e (fun c o c1 _ c3 _ _ x => hs₃.extBut _ _ c1 (hs₂ _ _ c3 (hs₁.extBut _ _ c1 x))) ⟨oe, hs₃.extBut _ _ hez hoe, hce⟩
theorem pyNext_zip3_item {z TI TO i1 i2 i3 l1 l2 l3 : Addr} {k1 k2 k3 : Nat} {xs ys zs : Array Value} {x y u a b c : Value} {Q : Option Value → Shared → Prop} (D : Ap3 z TI TO i1 i2 i3 l1 l2 l3)
    (hz : IsZip s.heap z TI TO .none) (hTI : IsTrip s.heap TI (.ref i1) (.ref i2) (.ref i3)) (hTO : IsTrip s.heap TO a b c)
    (h1 : s.heap.IsListIter i1 l1 k1) (h2 : s.heap.IsListIter i2 l2 k2) (h3 : s.heap.IsListIter i3 l3 k3) (hl1 : s.heap.IsList l1 xs) (hl2 : s.heap.IsList l2 ys) (hl3 : s.heap.IsList l3 zs) (hx : xs[k1]? = some x) (hy : ys[k2]? = some y) (hu : zs[k3]? = some u)
    (hQ : ∀ h', IsZip h' z TI TO (rawInt s.heap.objs.size) → IsTrip h' TO x y u → h'.IsListIter i1 l1 (k1 + 1) → h'.IsListIter i2 l2 (k2 + 1) → h'.IsListIter i3 l3 (k3 + 1) → IsTrip h' s.heap.objs.size x y u → h'.objs.size = s.heap.objs.size + 1 →
      (∀ c o, c ≠ z → c ≠ TO → c ≠ i1 → c ≠ i2 → c ≠ i3 → s.heap.get? c = some o → h'.get? c = some o) → Q (some (.ref s.heap.objs.size)) { s with heap := h' }) :
    wpAny (model prog w) A (pyNext (.ref z)) Q E s := by
  have hT : s.TypeIs (.ref z) "zip" := ⟨_, hz, rfl⟩
  unfold pyNext
  exact wpAny_bind (wpAny_attempt (wpAny_callSpecial?_slot (name := Str.ofString "__next__") hT F.slot_zip_next
    (wpAny_call_entry F.slot_zip_next hT F.entry_zip_next
      (zip3_next_item D hz hTI hTO h1 h2 h3 hl1 hl2 hl3 hx hy hu fun h' a1 a2 a3 a4 a5 a6 a7 a8 => wpAny_pure (hQ h' a1 a2 a3 a4 a5 a6 a7 a8)) (F.args_zip_next_1 _))))
theorem pyNext_zip3_end {z TI TO i1 i2 i3 l1 l2 l3 : Addr} {k1 k2 k3 : Nat} {xs ys zs : Array Value} {a b c : Value} {Q : Option Value → Shared → Prop} (hh : A.handled = none) (D : Ap3 z TI TO i1 i2 i3 l1 l2 l3)
    (hz : IsZip s.heap z TI TO .none) (hTI : IsTrip s.heap TI (.ref i1) (.ref i2) (.ref i3)) (hTO : IsTrip s.heap TO a b c)
    (h1 : s.heap.IsListIter i1 l1 k1) (h2 : s.heap.IsListIter i2 l2 k2) (h3 : s.heap.IsListIter i3 l3 k3) (hl1 : s.heap.IsList l1 xs) (hl2 : s.heap.IsList l2 ys) (hl3 : s.heap.IsList l3 zs) (hx : xs[k1]? = none)
    (hQ : ∀ h', (∀ c o, c ≠ z → c ≠ TO → c ≠ i1 → c ≠ i2 → c ≠ i3 → s.heap.get? c = some o → h'.get? c = some o) → Q none { s with heap := h' }) : wpAny (model prog w) A (pyNext (.ref z)) Q E s := by
  have hT : s.TypeIs (.ref z) "zip" := ⟨_, hz, rfl⟩
  unfold pyNext
  refine wpAny_bind (wpAny_attempt (wpAny_callSpecial?_slot (name := Str.ofString "__next__") hT F.slot_zip_next
    (wpAny_call_entry F.slot_zip_next hT F.entry_zip_next (zip3_next_end hh D hz hTI hTO h1 h2 h3 hl1 hl2 hl3 hx fun h' e hk he => ?_) (F.args_zip_next_1 _))))
  obtain ⟨o, ho, hc⟩ := he
  refine wpAny_bind (wpAny_isInstance (T := "StopIteration") (b := true) ⟨o, ho, hc⟩ isSubtype_stop ?_)
  exact wpAny_pure (hQ _ hk)
end
abbrev zH1 (h : Heap) (l1 : Addr) : Heap := h.push { cls := .type "list_iterator", data := .fields #[.ref l1, .int 0 0] }
abbrev zH2 (h : Heap) (l1 l2 : Addr) : Heap := (zH1 h l1).push { cls := .type "list_iterator", data := .fields #[.ref l2, .int 0 0] }
abbrev zH3 (h : Heap) (l1 l2 l3 : Addr) : Heap := (zH2 h l1 l2).push { cls := .type "list_iterator", data := .fields #[.ref l3, .int 0 0] }
abbrev zH4 (h : Heap) (l1 l2 l3 : Addr) : Heap := (zH3 h l1 l2 l3).push { cls := .type "tuple", data := .seq #[.ref h.objs.size, .ref (zH1 h l1).objs.size, .ref (zH2 h l1 l2).objs.size] }
abbrev zH5 (h : Heap) (l1 l2 l3 : Addr) : Heap := (zH4 h l1 l2 l3).push { cls := .type "tuple", data := .seq #[.none, .none, .none] }
abbrev zH6 (h : Heap) (l1 l2 l3 : Addr) : Heap := (zH5 h l1 l2 l3).push { cls := .type "zip", data := .fields #[.none, .bool false, .bool false, .ref (zH3 h l1 l2 l3).objs.size, .ref (zH4 h l1 l2 l3).objs.size] }
theorem meets_zip3_new (l1 l2 l3 : Addr) (xs ys zs : Array Value) :
    Meets (Builtin.«zip.__new__» ⟨[.type "zip", .ref l1, .ref l2, .ref l3], []⟩) (fun _ R s => s.heap.IsList l1 xs ∧ s.heap.IsList l2 ys ∧ s.heap.IsList l3 zs ∧
      R (.ok (.ret (.ref (zH5 s.heap l1 l2 l3).objs.size))) { s with heap := zH6 s.heap l1 l2 l3 }) :=
  .of_wp fun prog w A R s h => by
    obtain ⟨hp, g, d, tk, os⟩ := s; obtain ⟨hl1, hl2, hl3, h⟩ := h
    have hsub := sub_zip
    have hL1 : Heap.IsList (Shared.heap ⟨hp, g, d, tk, os⟩) l1 xs := hl1
    have hL2 : Heap.IsList (Shared.heap ⟨zH1 hp l1, g, d, tk, os⟩) l2 ys := Heap.IsList.push hl2 _
    have hL3 : Heap.IsList (Shared.heap ⟨zH2 hp l1 l2, g, d, tk, os⟩) l3 zs := Heap.IsList.push (Heap.IsList.push hl3 _) _
    wp_walk using wpAny_pyIter_list hL1, wpAny_pyIter_list hL2, wpAny_pyIter_list hL3
    exact ⟨_, rfl, h⟩
section
variable {prog : Program} {w : World} {A : Around} {E : Value → Shared → Prop} {s : Shared}
theorem call_zip_3 {l1 l2 l3 : Addr} {xs ys zs : Array Value} {Q : Value → Shared → Prop} (hl1 : s.heap.IsList l1 xs) (hl2 : s.heap.IsList l2 ys) (hl3 : s.heap.IsList l3 zs)
    (h : ∀ h', IsZip h' (s.heap.objs.size + 5) (s.heap.objs.size + 3) (s.heap.objs.size + 4) .none → IsTrip h' (s.heap.objs.size + 3) (.ref s.heap.objs.size) (.ref (s.heap.objs.size + 1)) (.ref (s.heap.objs.size + 2)) →
      IsTrip h' (s.heap.objs.size + 4) .none .none .none → h'.IsListIter s.heap.objs.size l1 0 → h'.IsListIter (s.heap.objs.size + 1) l2 0 → h'.IsListIter (s.heap.objs.size + 2) l3 0 →
      (∀ c o, s.heap.get? c = some o → h'.get? c = some o) → Q (.ref (s.heap.objs.size + 5)) { s with heap := h' }) :
    wpAny (model prog w) A (call (.type "zip") [.ref l1, .ref l2, .ref l3]) Q E s := by
  refine callType_new F.called_zip (by decide) (typeCall3 _ _ _) (newCall3 _ _ _) (fun obj => args_init4 obj _ _ _) F.entry_zip_new
    (meets_zip3_new l1 l2 l3 xs ys zs) ⟨hl1, hl2, hl3, ?_⟩
  have z1 : (zH1 s.heap l1).objs.size = s.heap.objs.size + 1 := Heap.size_push ..
  have z2 : (zH2 s.heap l1 l2).objs.size = s.heap.objs.size + 2 := by rw [Heap.size_push, z1]
  have z3 : (zH3 s.heap l1 l2 l3).objs.size = s.heap.objs.size + 3 := by rw [Heap.size_push, z2]
  have z4 : (zH4 s.heap l1 l2 l3).objs.size = s.heap.objs.size + 4 := by rw [Heap.size_push, z3]
  have z5 : (zH5 s.heap l1 l2 l3).objs.size = s.heap.objs.size + 5 := by rw [Heap.size_push, z4]
  have g6 : (zH6 s.heap l1 l2 l3).get? (zH5 s.heap l1 l2 l3).objs.size = some _ := Heap.get?_push_size _ rfl
  have g5 : (zH6 s.heap l1 l2 l3).get? (zH4 s.heap l1 l2 l3).objs.size = some _ := Heap.get?_push_of_some _ (Heap.get?_push_size _ rfl)
  have g4 : (zH6 s.heap l1 l2 l3).get? (zH3 s.heap l1 l2 l3).objs.size = some _ := Heap.get?_push_of_some _ (Heap.get?_push_of_some _ (Heap.get?_push_size _ rfl))
  have g3 : (zH6 s.heap l1 l2 l3).get? (zH2 s.heap l1 l2).objs.size = some _ := Heap.get?_push_of_some _ (Heap.get?_push_of_some _ (Heap.get?_push_of_some _ (Heap.get?_push_size _ rfl)))
  have g2 : (zH6 s.heap l1 l2 l3).get? (zH1 s.heap l1).objs.size = some _ := Heap.get?_push_of_some _ (Heap.get?_push_of_some _ (Heap.get?_push_of_some _ (Heap.get?_push_of_some _ (Heap.get?_push_size _ rfl))))
  have g1 : (zH6 s.heap l1 l2 l3).get? s.heap.objs.size = some _ := Heap.get?_push_of_some _ (Heap.get?_push_of_some _ (Heap.get?_push_of_some _ (Heap.get?_push_of_some _ (Heap.get?_push_of_some _ (Heap.get?_push_size _ rfl)))))
  show _ ∧ _
  rw [z3, z4, z5] at g6
  rw [z1, z2, z3] at g4
  rw [z4] at g5
  rw [z2] at g3
  rw [z1] at g2
  rw [z5]
  exact ⟨⟨_, g6, rfl⟩, h _ g6 g4 g5 ⟨_, g1, rfl, rfl⟩ ⟨_, g2, rfl, rfl⟩ ⟨_, g3, rfl, rfl⟩ fun c o x =>
    Heap.get?_push_of_some _ (Heap.get?_push_of_some _ (Heap.get?_push_of_some _ (Heap.get?_push_of_some _ (Heap.get?_push_of_some _ (Heap.get?_push_of_some _ x)))))⟩
end
/-- the lists at a, b and c as they stand at each turn, the items in new triples -/
def It3 (K : PySem.W.Frag) (a b c : Addr) : It :=
  ⟨fun i H => ∃ (xs ys zs : List V) (x y z : V), SqL K H a xs ∧ SqL K H b ys ∧ SqL K H c zs ∧ xs[i]? = some x ∧ ys[i]? = some y ∧ zs[i]? = some z,
    fun i H v H' => ∃ T x y z, v = .ref T ∧ H T = none ∧ H' = upd H T (.tup [x, y, z]) ∧ (∀ xs, SqL K H a xs → xs[i]? = some x) ∧ (∀ ys, SqL K H b ys → ys[i]? = some y) ∧ ∀ zs, SqL K H c zs → zs[i]? = some z,
    fun i H => ∃ xs ys zs : List V, SqL K H a xs ∧ SqL K H b ys ∧ SqL K H c zs ∧ xs.length ≤ i⟩
theorem turn_zip3 {P : Program} {w : World} {K : PySem.W.Frag} {elts : List Expr} {kk : Nat} {tpos : Pos} {a b c z TI TO i1 i2 i3 : Addr} (D : Ap3 z TI TO i1 i2 i3 a b c) :
    Turn P w K (.Tuple elts kk tpos) (It3 K a b c) [z, TI, TO, i1, i2, i3] z (fun i h => IsZip h z TI TO .none ∧ IsTrip h TI (.ref i1) (.ref i2) (.ref i3) ∧ (∃ x y v, IsTrip h TO x y v) ∧ h.IsListIter i1 a i ∧ h.IsListIter i2 b i ∧ h.IsListIter i3 c i) where
  mem := by simp
  obj := fun i h st d hd => by
    obtain ⟨hz, hTI, ⟨x, y, v, hTO⟩, ⟨o1, e1, _, d1⟩, ⟨o2, e2, _, d2⟩, ⟨o3, e3, _, d3⟩⟩ := st
    have e' : d = z ∨ d = TI ∨ d = TO ∨ d = i1 ∨ d = i2 ∨ d = i3 := by simpa using hd
    rcases e' with q | q | q | q | q | q
    · rw [q]; exact ⟨_, hz, fun v q => nomatch q⟩
    · rw [q]; exact ⟨_, hTI, fun v q => nomatch q⟩
    · rw [q]; exact ⟨_, hTO, fun v q => nomatch q⟩
    · rw [q]; exact ⟨o1, e1, fun v q => by rw [d1] at q; cases q⟩
    · rw [q]; exact ⟨o2, e2, fun v q => by rw [d2] at q; cases q⟩
    · rw [q]; exact ⟨o3, e3, fun v q => by rw [d3] at q; cases q⟩
  keep := fun i h h' st k => by
    obtain ⟨hz, hTI, ⟨x, y, v, hTO⟩, h1, h2, h3⟩ := st
    exact ⟨k z (by simp) _ hz, k TI (by simp) _ hTI, ⟨x, y, v, k TO (by simp) _ hTO⟩, h1.at fun o q => k i1 (by simp) o q, h2.at fun o q => k i2 (by simp) o q, h3.at fun o q => k i3 (by simp) o q⟩
  item := by
    intro X hP hw hK hc i pins s σ H E I hf st hg
    subst hP hw hK
    obtain ⟨hz, hTI, ⟨x0, y0, v0, hTO⟩, h1, h2, h3⟩ := st
    obtain ⟨xs, ys, zs, x, y, v, hqx, hqy, hqz, hx, hy, hv⟩ := hg
    obtain ⟨its, rv, p, _⟩ := I.list hqx
    obtain ⟨its2, rv2, p2, _⟩ := I.list hqy
    obtain ⟨its3, rv3, p3, _⟩ := I.list hqz
    obtain ⟨u, hu, ru⟩ := rv.get hx
    obtain ⟨u2, hu2, ru2⟩ := rv2.get hy
    obtain ⟨u3, hu3, ru3⟩ := rv3.get hv
    have hzl : z < s.heap.objs.size := Heap.lt_size hz
    have nTIz : TI ≠ z := neA (by have := D.o7; have := D.o8; omega)
    have nTOz : TO ≠ z := neA (by have := D.o8; omega)
    have n1 : i1 ≠ z := neA (by have := D.o4; have := D.o5; have := D.o6; have := D.o7; have := D.o8; omega)
    have n2 : i2 ≠ z := neA (by have := D.o5; have := D.o6; have := D.o7; have := D.o8; omega)
    have n3 : i3 ≠ z := neA (by have := D.o6; have := D.o7; have := D.o8; omega)
    have t1 : TI ≠ TO := neA (by have := D.o7; omega)
    have t2 : TI ≠ i1 := neA (by have := D.o4; have := D.o5; have := D.o6; omega)
    have t3 : TI ≠ i2 := neA (by have := D.o5; have := D.o6; omega)
    have t4 : TI ≠ i3 := neA (by have := D.o6; omega)
    refine pyNext_zip3_item D hz hTI hTO h1 h2 h3 p.isList p2.isList p3.isList (x := u) (y := u2) (u := u3) (by simpa using hu) (by simpa using hu2) (by simpa using hu3) fun h' z' TO' h1' h2' h3' hT hsz hk => ?_
    refine ⟨_, rfl, wpAny_letOwnedTupleGo_zip (s := { s with heap := h' }) z' fun h'' z'' sb => ?_⟩
    have hT2 : h''.get? s.heap.objs.size = some { cls := .type "tuple", data := .seq #[u, u2, u3] } := (sb.2 _ (Nat.ne_of_gt hzl)).trans hT
    have new : ObjOk X.prog X.w (upd H s.heap.objs.size (.tup [x, y, v])) h'' s.heap.objs.size (.tup [x, y, v]) :=
      ⟨by show 3 ≤ sizeLine; decide, [u, u2, u3], .cons ru (.cons ru2 (.cons ru3 .nil)), ⟨_, hT2, rfl, _, rfl⟩⟩
    have I1 : Inv X pins σ (upd H s.heap.objs.size (.tup [x, y, v])) { s with heap := h'' } :=
      I.turnedNew (t' := s.toks) (ch := [z, TI, TO, i1, i2, i3]) (fun c o hb q => (sb.2 c (fun q' => hb (by simp [q']))).trans (hk c o (fun q' => hb (by simp [q'])) (fun q' => hb (by simp [q'])) (fun q' => hb (by simp [q'])) (fun q' => hb (by simp [q'])) (fun q' => hb (by simp [q'])) q)) hf (Nat.le_refl _) new
    refine ⟨.ref s.heap.objs.size, _, I1, rfl, ⟨_, x, y, v, rfl, I.hok.fresh (Nat.le_refl _), rfl, fun l hl => by rw [I.list_inj hl hqx]; exact hx, fun l hl => by rw [I.list_inj hl hqy]; exact hy, fun l hl => by rw [I.list_inj hl hqz]; exact hv⟩, ⟨z'', ?_, ⟨u, u2, u3, ?_⟩, ?_, ?_, ?_⟩, fun c hcm => ?_⟩
    · exact (sb.2 _ nTIz).trans (hk _ _ nTIz t1 t2 t3 t4 hTI)
    · exact (sb.2 _ nTOz).trans TO'
    · exact h1'.at fun o q => (sb.2 _ n1).trans q
    · exact h2'.at fun o q => (sb.2 _ n2).trans q
    · exact h3'.at fun o q => (sb.2 _ n3).trans q
    · have hlt : c < s.heap.objs.size := by
        have e' : c = z ∨ c = TI ∨ c = TO ∨ c = i1 ∨ c = i2 ∨ c = i3 := by simpa using hcm
        rcases e' with q | q | q | q | q | q
        · rw [q]; exact hzl
        · rw [q]; exact Heap.lt_size hTI
        · rw [q]; exact Heap.lt_size hTO
        · rw [q]; obtain ⟨_, e1, _⟩ := h1; exact Heap.lt_size e1
        · rw [q]; obtain ⟨_, e2, _⟩ := h2; exact Heap.lt_size e2
        · rw [q]; obtain ⟨_, e3, _⟩ := h3; exact Heap.lt_size e3
      rw [upd_ne (Nat.ne_of_lt hlt)]
      exact (hf c hcm).1
  done := by
    intro X hP hw hK hc i pins s σ H E I hf st hg
    subst hP hw hK
    obtain ⟨hz, hTI, ⟨x0, y0, v0, hTO⟩, h1, h2, h3⟩ := st
    obtain ⟨xs, ys, zs, hqx, hqy, hqz, hend⟩ := hg
    obtain ⟨its, rv, p, _⟩ := I.list hqx
    obtain ⟨its2, rv2, p2, _⟩ := I.list hqy
    obtain ⟨its3, rv3, p3, _⟩ := I.list hqz
    have l1 := rv.length
    have he : its.toArray[i]? = none := by simp; omega
    exact pyNext_zip3_end (I.ok.hd hc) D hz hTI hTO h1 h2 h3 p.isList p2.isList p3.isList he fun h' hk => ⟨rfl, I.turnedL (t' := s.toks) (ch := [z, TI, TO, i1, i2, i3]) (fun c o hb q =>
      hk c o (fun q' => hb (by simp [q'])) (fun q' => hb (by simp [q'])) (fun q' => hb (by simp [q'])) (fun q' => hb (by simp [q'])) (fun q' => hb (by simp [q'])) q) hf⟩
  self := fun A i s Q E st h => wpAny_pyIter_zip st.1 h
def iZip3 (K : PySem.W.Frag) (ta : TA) : TI := fun σ H R => ta σ H fun vs H1 => ∃ a b c xs ys zs, vs = [.ref a, .ref b, .ref c] ∧ SqL K H1 a xs ∧ SqL K H1 b ys ∧ SqL K H1 c zs ∧ R (It3 K a b c) H1
theorem pi_zip3 {X : Cx} {e e2 e3 : Expr} {ta : TA} {p pos tpos : Pos} {elts : List Expr} {kk : Nat} (hg : Gl X "zip") (hm : X.mg "zip" = none) (ha : PA X [e, e2, e3] ta)
    (hs : starEach [e, e2, e3] X.env = (false, eval e X.env) :: starEach [e2, e3] X.env := by rfl) (hpl : (backTo pos (starEach [e2, e3] X.env)).any (·.1) = false := by rfl) :
    PI X (.Tuple elts kk tpos) (.Call (.Name "zip" p) [e, e2, e3] [] pos) (iZip3 X.K ta) := by
  refine ⟨fun pins s σ H R I h => ?_⟩
  refine Call_ (ld_blt I hg hm PyProof.Rows.boot_zip (PyProof.Rows.callWith_type1 (thn (ha.run pos pins s σ H _ I h) fun us s1 ⟨vs, H1, I1, r1, q1⟩ => ?_) hs hpl))
  obtain ⟨a, b, c, xs, ys, zs, ex, hqx, hqy, hqz, q⟩ := q1
  subst ex
  cases r1 with
  | cons r rr =>
    cases rr with
    | cons r' rr =>
      cases rr with
      | cons r'' rr =>
        cases rr
        cases r
        cases r'
        cases r''
        obtain ⟨its, rv, p1, _⟩ := I1.list hqx
        obtain ⟨its2, rv2, p2, _⟩ := I1.list hqy
        obtain ⟨its3, rv3, p3, _⟩ := I1.list hqz
        have la : a < s1.heap.objs.size := p1.lt
        have lb : b < s1.heap.objs.size := p2.lt
        have lc : c < s1.heap.objs.size := p3.lt
        refine call_zip_3 p1.isList p2.isList p3.isList fun h' hz hTI hTO h1 h2 h3 hk => wpAny_pyIter_zip hz ?_
        have I2 : Inv X pins σ H1 { s1 with heap := h' } := I1.kept (t' := s1.toks) hk
        refine ⟨s1.heap.objs.size + 5, [s1.heap.objs.size + 5, s1.heap.objs.size + 3, s1.heap.objs.size + 4, s1.heap.objs.size, s1.heap.objs.size + 1, s1.heap.objs.size + 2], _, _, H1, rfl, I2, turn_zip3 ⟨la, lb, lc, Nat.lt_succ_self _, Nat.lt_succ_self _, Nat.lt_succ_self _, Nat.lt_succ_self _, Nat.lt_succ_self _⟩, ⟨hz, hTI, ⟨_, _, _, hTO⟩, h1, h2, h3⟩, fun d hcm => ?_, q⟩
        have e' : d = s1.heap.objs.size + 5 ∨ d = s1.heap.objs.size + 3 ∨ d = s1.heap.objs.size + 4 ∨ d = s1.heap.objs.size ∨ d = s1.heap.objs.size + 1 ∨ d = s1.heap.objs.size + 2 := by simpa using hcm
        have hle : s1.heap.objs.size ≤ d := by
          rcases e' with z | z | z | z | z | z
          · rw [z]; exact Nat.le_add_right _ _
          · rw [z]; exact Nat.le_add_right _ _
          · rw [z]; exact Nat.le_add_right _ _
          · rw [z]; exact Nat.le_refl _
          · rw [z]; exact Nat.le_add_right _ _
          · rw [z]; exact Nat.le_add_right _ _
        exact I1.fpOk hle (I1.hok.fresh hle)
/-- a new triple of the i-th of each -/
def YTrip (xs ys zs : Nat → Option V) : Nat → Hp → V → Hp → Prop := fun i H v H' => ∃ T x y z, v = .ref T ∧ H T = none ∧ H' = upd H T (.tup [x, y, z]) ∧ xs i = some x ∧ ys i = some y ∧ zs i = some z
/-- the first is the shortest -/
theorem walk_zip3 {K : PySem.W.Frag} {a b c : Addr} {xs ys zs : List V} (h1 : xs.length ≤ ys.length) (h2 : xs.length ≤ zs.length) : Walk (It3 K a b c) xs.length (fun H => SqL K H a xs ∧ SqL K H b ys ∧ SqL K H c zs) (YTrip (fun i => xs[i]?) (fun i => ys[i]?) (fun i => zs[i]?)) := by
  refine ⟨fun i _ hi q => ?_, fun _ q => ⟨xs, ys, zs, q.1, q.2.1, q.2.2, Nat.le_refl _⟩, fun i H v H' _ q y => ?_⟩
  · have l1 : i < ys.length := by omega
    have l2 : i < zs.length := by omega
    exact ⟨xs, ys, zs, xs[i], ys[i], zs[i], q.1, q.2.1, q.2.2, by simp [hi], by simp [l1], by simp [l2]⟩
  · obtain ⟨T, x, z, u, g1, g2, g3, g4, g5, g6⟩ := y
    exact ⟨T, x, z, u, g1, g2, g3, g4 xs q.1, g5 ys q.2.1, g6 zs q.2.2⟩
end KZ3
namespace K39
open PySem PySem.Spec PyProof.Rows L2 PySem.W LamX KA KW KU KL KT
open Evl (pss_cut tCut)
/-! ### ticks, the first pair, what comes as early as may be -/
def tupOf (o : Option (List V)) (n : Nat) : Bool := match o with
  | none => false
  | some xs => decide (xs.length = n)
def spTupOf (K : PySem.W.Frag) : Sp := fun vs H Q _ => ∃ (x : V) (o : Option (List V)) (n : Nat), vs = [x, .int (n : Int)] ∧ Rv K H x o ∧ Q (.bl (tupOf o n)) H
/-- a pair of ticks up to the last one -/
def ticksO (n : Nat) : Option (List V) → Option (Nat × Nat)
  | some [a, b] => if within b 0 (n : Int) = true then (match a, b with
    | .int s, .int e => if 0 ≤ s ∧ s ≤ e then some (s.toNat, e.toNat) else none
    | _, _ => none) else none
  | _ => none
def spTicks (K : PySem.W.Frag) : Sp := fun vs H Q _ => ∃ (x : V) (o : Option (List V)) (n : Nat), vs = [x, .int (n : Int)] ∧ Rv K H x o ∧ Q (.bl (ticksO n o).isSome) H
theorem ix_T {K : PySem.W.Frag} {a : Addr} {vs : List V} {H : Hp} {Q : VK} {i : Nat} {v : V} (ha : H a = some (.tup vs)) (h : vs[i]? = some v) (q : Q v H) : rIx K (.ref a) (.int (i : Int)) H Q := .inr (.inl ⟨a, vs, _, v, rfl, rfl, SqT.of ha, atI_nat h, q⟩)
theorem ix_L {K : PySem.W.Frag} {a : Addr} {vs : List V} {H : Hp} {Q : VK} {i : Nat} {v : V} (ha : H a = some (.lst vs)) (h : vs[i]? = some v) (q : Q v H) : rIx K (.ref a) (.int (i : Int)) H Q := .inl ⟨a, vs, _, v, rfl, rfl, SqL.of ha, atI_nat h, q⟩
section
variable {P : Program} {w : World} {K : PySem.W.Frag} {mg : Str → Option Value} {base : Heap} (T : Top K mg)
theorem ok_is_tuple_of : FnOk P w K mg base (L2.CX P w) 1 T.is_tuple_of.a T.is_tuple_of.d ["thing", "many"] (spTupOf K) := by
  refine T.is_tuple_of.f.okX sc_is_tuple_of (fun vs H Q E h => ?_) (fun cdv A outer s H vs Q E hr h => ?_)
  · obtain ⟨x, o, n, rfl, _⟩ := h
    rfl
  · obtain ⟨x, o, n, rfl, hp, k⟩ := h
    refine ⟨_, (pss_one (ps_ret (pe_and (pe_callB call_isi (by rfl) T.b_isinstance PyProof.Rows.boot_isinstance (pa_cons (pv 0) (pa_cons (pe_bltn (v := .ty "tuple") (by rfl) T.b_tuple (by decide +kernel) rfl) pa_nil))) (pe_one (pe_cmpR op_eq (pe_callB call_len_seq (by rfl) T.b_len PySem.boot_len (pa_cons (pv 0) pa_nil)) (pv 1) (nomark _)))))), ?_⟩
    cases hp with
    | no hn =>
      obtain ⟨t, ht, h1⟩ := hn.ty (K := K)
      refine ⟨_, rfl, x, _, _, _, _, rfl, .ty "tuple", ht, kit_ty h1, _, rfl, ?_⟩
      exact iteF k
    | @tup a xs e p l =>
      refine ⟨_, rfl, _, _, _, _, true, rfl, .ty "tuple", .base (.tup e), kit_ty (by decide +kernel), _, rfl, iteT ⟨_, rfl, a, xs, rfl, .inr (SqT.of e), _, rfl, rfl, ?_⟩⟩
      refine q_bl k ?_
      show decide (V.int ((xs.length : Nat) : Int) = V.int ((n : Nat) : Int)) = decide (xs.length = n)
      exact decide_eq_decide.mpr ⟨fun z => by have := V.int.inj z; omega, fun z => by rw [z]⟩
theorem ok_are_ticks : FnOk P w K mg base (L2.CX P w) 3 T.are_ticks.a T.are_ticks.d ["thing", "last"] (spTicks K) := by
  refine T.are_ticks.f.okX sc_are_ticks (fun vs H Q E h => ?_) (fun cdv A outer s H vs Q E hr h => ?_)
  · obtain ⟨x, o, n, rfl, _⟩ := h
    rfl
  · obtain ⟨x, o, n, rfl, hp, k⟩ := h
    refine ⟨_, (pss_one (ps_ret (pe_and (pe_call (ok_is_tuple_of T) (hr.mono (by decide)) (by rfl) T.is_tuple_of.m T.is_tuple_of.f.kp (bd_is_tuple_of T) .nil passE (pa_cons (pv 0) (pa_cons pe_int pa_nil))) (pe_and (pe_call (ok_is_within T) (hr.mono (by decide)) (by rfl) T.is_within.m T.is_within.f.kp (bd_is_within T) .nil passE (pa_cons (pe_ix (show IxR _ (rIx K) from ix_seq) (pv 0) pe_int (fun _ _ => rfl)) (pa_cons pe_int (pa_cons (pv 1) pa_nil)))) (pe_one (pe_call (ok_is_within T) (hr.mono (by decide)) (by rfl) T.is_within.m T.is_within.f.kp (bd_is_within T) .nil passE (pa_cons (pe_ix (show IxR _ (rIx K) from ix_seq) (pv 0) pe_int (fun _ _ => rfl)) (pa_cons pe_int (pa_cons (pe_ix (show IxR _ (rIx K) from ix_seq) (pv 0) pe_int (fun _ _ => rfl)) pa_nil))))))))), ?_⟩
    refine ⟨_, rfl, x, o, 2, rfl, hp, _, rfl, ?_⟩
    cases hp with
    | no hn => exact iteF k
    | @tup a xs e p l =>
    match xs, e, p, k with
    | [], e, p, k => exact iteF k
    | [_], e, p, k => exact iteF k
    | x1 :: x2 :: x3 :: r, e, p, k =>
      have z : tupOf (some (x1 :: x2 :: x3 :: r)) 2 = false := by
        show decide ((x1 :: x2 :: x3 :: r).length = 2) = false
        exact decide_eq_false (by simp only [List.length_cons]; omega)
      rw [z]
      exact iteF k
    | [u, v], e, p, k =>
      obtain ⟨bu, pu⟩ := Fl.pl (K := K) (H := H) (p u List.mem_cons_self)
      obtain ⟨bv, pv'⟩ := Fl.pl (K := K) (H := H) (p v (List.mem_cons_of_mem _ List.mem_cons_self))
      refine iteT ⟨_, rfl, ix_T (K := K) (i := 1) e rfl ⟨_, rfl, v, bv, 0, (n : Int), rfl, pv', _, rfl, ?_⟩⟩
      have e0 : ticksO n (some [u, v]) = if within v 0 (n : Int) = true then (match u, v with
        | .int s, .int e => if 0 ≤ s ∧ s ≤ e then some (s.toNat, e.toNat) else none
        | _, _ => none) else none := rfl
      rw [e0] at k
      cases c : within v 0 (n : Int) with
      | false =>
        rw [c] at k
        exact iteF k
      | true =>
        rw [c, if_pos rfl] at k
        obtain ⟨i, rfl, i0, i1⟩ := within_int c
        refine iteT ⟨_, rfl, ix_T (K := K) (i := 0) e rfl ⟨_, rfl, ix_T (K := K) (i := 1) e rfl ⟨u, bu, 0, i, rfl, pu, ?_⟩⟩⟩
        refine q_bl k ?_
        cases u with
        | int s =>
          show (decide ((0 : Int) ≤ s) && decide (s ≤ i)) = Option.isSome (if 0 ≤ s ∧ s ≤ i then some (s.toNat, i.toNat) else none)
          by_cases q : 0 ≤ s ∧ s ≤ i
          · rw [if_pos q, decide_eq_true q.1, decide_eq_true q.2]
            rfl
          · rw [if_neg q]
            by_cases q1 : 0 ≤ s
            · rw [decide_eq_false (show ¬ s ≤ i from fun z => q ⟨q1, z⟩), Bool.and_false]
              rfl
            · rw [decide_eq_false q1]
              rfl
        | _ => rfl
end
end K39
namespace K39
open PySem PySem.Spec PyProof.Rows L2 PySem.W LamX KA KW KU KL KT
open Evl (pss_cut tCut)
/-! ### the sending that brings most, the first pair -/
/-- a new list, or None -/
def AnsL (o : Option (List Int)) (H : Hp) (v : V) (H' : Hp) : Prop := match o with
  | none => v = .non
  | some xs => ∃ p, v = .ref p ∧ H p = none ∧ H' p = some (.lst (xs.map V.int))
/-- a new pair, or None -/
def AnsP (o : Option (Nat × Nat)) (H : Hp) (v : V) (H' : Hp) : Prop := match o with
  | none => v = .non
  | some q => ∃ p, v = .ref p ∧ H p = none ∧ H' p = some (.tup [.int (q.1 : Int), .int (q.2 : Int)])
theorem none_of {H H' : Hp} {p : Addr} (s : Same H H') (h : H' p = none) : H p = none := by
  cases e : H p with
  | none => rfl
  | some o =>
    have := s _ _ e
    rw [h] at this
    cases this
theorem AnsL.early {o : Option (List Int)} {H H0 H' : Hp} {v : V} (h : AnsL o H v H') (s : Same H0 H) : AnsL o H0 v H' := by
  cases o with
  | none => exact h
  | some xs =>
    obtain ⟨p, e, n, q⟩ := h
    exact ⟨p, e, none_of s n, q⟩
theorem AnsP.early {o : Option (Nat × Nat)} {H H0 H' : Hp} {v : V} (h : AnsP o H v H') (s : Same H0 H) : AnsP o H0 v H' := by
  cases o with
  | none => exact h
  | some xs =>
    obtain ⟨p, e, n, q⟩ := h
    exact ⟨p, e, none_of s n, q⟩
/-- what a line brings -/
abbrev dueL (l : List Int) (rate : Int) (d : Nat) (ho ro : Option Int) : Option (List Int) := dueO rate (canAt l d ho ro) (mustAt l d ho) (lastT l.length d ho)
abbrev gapL (l : List Int) (rate : Int) (d : Nat) (ho ro : Option Int) : Nat → Nat → Bool := gapB rate (canAt l d ho ro) (mustAt l d ho)
def spSendingOf (K : PySem.W.Frag) : Sp := fun vs H Q _ => ∃ (x : V) (l : List Int) (rate : Int) (d : Nat) (ho ro : Option Int), vs = [x, .int rate, .int (d : Int), hv ho, hv ro] ∧ Zv H x l ∧ 1 ≤ l.length ∧ l.length ≤ 12 ∧ d ≤ 40 ∧ ∀ v H', Same H H' → AnsL (dueL l rate d ho ro) H v H' → Q v H'
/-- rows of answers at a -/
def Tbl (H : Hp) (a : Addr) (b : Nat → Nat → Bool) (n : Nat) : Prop := ∃ rows : List V, H a = some (.lst rows) ∧ ∀ s, s ≤ n → ∃ p, rows[s]? = some (.ref p) ∧ H p = some (.lst ((List.range (n + 1)).map fun e => V.bl (b s e)))
def spFirstPair (K : PySem.W.Frag) : Sp := fun vs H Q _ => ∃ (a : Addr) (b : Nat → Nat → Bool) (n : Nat), vs = [.int (n : Int), .ref a] ∧ Tbl H a b n ∧ n ≤ 100 ∧ ∀ o, First b n o → ∀ v H', Same H H' → AnsP o H v H' → Q v H'
theorem last_le (n d : Nat) (ho : Option Int) (h1 : n ≤ 12) (h2 : d ≤ 40) : lastT n d ho ≤ 60 := by
  cases ho with
  | none => show d + n - 1 ≤ 60; omega
  | some _ => show max (d + n - 1) n ≤ 60; omega
theorem cut_one (xs : List V) : cutV xs (some 1) none = xs.tail := by
  unfold cutV
  rw [show HT.sIx xs.length 0 (some 1) = min 1 xs.length from HT.sIx_nat _ 0 1, HT.sIx_none]
  cases xs with
  | nil => rfl
  | cons x l => rw [show min 1 (x :: l).length = 1 by rw [List.length_cons]; omega, List.take_of_length_le (by rw [List.length_drop]; exact Nat.le_refl _)]; rfl
theorem IL_tail (f : Nat → Int) (n : Nat) : (IL f (n + 1)).tail = IL (fun t => f (t + 1)) n := by
  unfold IL
  rw [List.range_succ_eq_map]
  show ((List.range n).map Nat.succ).map f = _
  rw [List.map_map]
  rfl
theorem IL_get {f : Nat → Int} {n i : Nat} {x : V} (h : ((IL f n).map V.int)[i]? = some x) : x = .int (f i) ∧ i < n := by
  rw [List.getElem?_map] at h
  by_cases c : i < n
  · rw [IL_at c] at h
    exact ⟨(Option.some.inj h).symm, c⟩
  · rw [List.getElem?_eq_none (by rw [IL_len]; omega)] at h
    cases h
theorem enough_any {rate : Int} {can must : Nat → Int} (n : Nat) : ((List.range (n + 1)).map fun t => decide (comeBy rate can t < must t)).any id = !(enoughB rate can must n) := by
  unfold enoughB
  rw [List.any_map, Bool.eq_iff_iff, Bool.not_eq_true', List.any_eq_true, List.all_eq_false]
  constructor
  · rintro ⟨t, ht, h⟩
    have h : comeBy rate can t < must t := of_decide_eq_true h
    exact ⟨t, ht, by rw [decide_eq_true_eq]; omega⟩
  · rintro ⟨t, ht, h⟩
    rw [decide_eq_true_eq] at h
    exact ⟨t, ht, decide_eq_true (by omega)⟩
section
variable {P : Program} {w : World} {K : PySem.W.Frag} {mg : Str → Option Value} {base : Heap} (T : Top K mg)
theorem ok_sending_of : FnOk P w K mg base (L2.CX P w) 3 T.sending_of.a T.sending_of.d ["sizes", "rate", "delay", "hold", "room"] (spSendingOf K) := by
  refine T.sending_of.f.okX sc_sending_of (fun vs H Q E h => ?_) (fun cdv A outer s H vs Q E hr h => ?_)
  · obtain ⟨x, l, rate, d, ho, ro, rfl, _⟩ := h
    rfl
  · obtain ⟨x, l, rate, d, ho, ro, rfl, hz, h1, h12, h40, k⟩ := h
    refine ⟨_, (pss_cons (ps_set (i := 5) sc_sending_of.nd rfl (by first | exact .inl rfl | exact .inr rfl) (pe_call (ok_last_tick T) (hr.mono (by decide)) (by rfl) T.last_tick.m T.last_tick.f.kp (bd_last_tick T) .nil passE (pa_cons (pv 0) (pa_cons (pv 2) (pa_cons (pv 3) pa_nil)))))
      (pss_cons (ps_set (i := 6) sc_sending_of.nd rfl (by first | exact .inl rfl | exact .inr rfl) (pe_lst (pa_cons pe_int pa_nil)))
      (pss_cons (ps_for (passes_of rfl) rfl (pi_list (pe_slice sl_list (pe_call (ok_most_brought T) (hr.mono (by decide)) (by rfl) T.most_brought.m T.most_brought.f.kp (bd_most_brought T) .nil passE (pa_cons (pv 0) (pa_cons (pv 2) (pa_cons (pv 3) (pa_cons (pv 4) (pa_cons (pv 5) pa_nil)))))) (po_some pe_int) po_none)) (pg_name (i := 7) sc_sending_of.nd rfl (by first | exact .inl rfl | exact .inr rfl))
        (pss_one (ps_expr (pe_bm PySem.F.plainAttrs_list PySem.F.slot_list_append PySem.F.type_list_append mt_append (pv 6) (pa_cons (pe_callB (call_min2 rfl) (by rfl) T.b_min PyProof.Rows.boot_min (pa_cons (pe_op op_add (pe_ix (show IxR _ (rIx K) from ix_seq) (pv 6) (pe_un un_neg pe_int) (fun _ _ => rfl)) (pv 1)) (pa_cons (pv 7) pa_nil))) pa_nil)))))
      (pss_cons (ps_if (pt_val (pe_callB (cr_any rfl) (by rfl) T.b_any (by decide +kernel) (pa_cons (pe_lc (own := [("many", 9), ("least", 10)]) (g := (gTup K 2 (gCons (gName 9) (gCons (gName 10) gNil)))) (tt := tYes) rfl sc_sending_of.nd (RZ.pi_zipA (by rfl) T.b_zip (pa_cons (pv 6) (pa_cons (pe_call (ok_least_brought T) (hr.mono (by decide)) (by rfl) T.least_brought.m T.least_brought.f.kp (bd_least_brought T) .nil passE (pa_cons (pv 0) (pa_cons (pv 2) (pa_cons (pv 3) (pa_cons (pv 5) pa_nil))))) pa_nil))) (blkOk_by (own := [("many", 9), ("least", 10)]) (N := ["sizes", "rate", "delay", "hold", "room", "last", "brought", "most", "ahead", "many", "least"]) (sc := defScope s_sending_of) (by decide +kernel)) (fun _ _ _ _ _ => pg_tup rfl (pgs_cons (pg_name (i := 9) sc_sending_of.nd rfl (by first | exact .inl rfl | exact .inr rfl)) (pgs_cons (pg_name (i := 10) sc_sending_of.nd rfl (by first | exact .inl rfl | exact .inr rfl)) pgs_nil))) (fun _ _ _ _ _ => pts_nil) (fun _ _ _ _ _ => (pe_cmpR op_lt (pv 9) (pv 10) (nomark _)))) pa_nil))) (pss_one (ps_ret pe_non)) pss_nil)
      (pss_one (ps_ret (pe_lc (own := [("ahead", 8), ("many", 9)]) (g := (gTup K 2 (gCons (gName 8) (gCons (gName 9) gNil)))) (tt := tYes) rfl sc_sending_of.nd (RZ.pi_zipA (by rfl) T.b_zip (pa_cons (pv 6) (pa_cons (pe_slice sl_list (pv 6) (po_some pe_int) po_none) pa_nil))) (blkOk_by (own := [("ahead", 8), ("many", 9)]) (N := ["sizes", "rate", "delay", "hold", "room", "last", "brought", "most", "ahead", "many", "least"]) (sc := defScope s_sending_of) (by decide +kernel)) (fun _ _ _ _ _ => pg_tup rfl (pgs_cons (pg_name (i := 8) sc_sending_of.nd rfl (by first | exact .inl rfl | exact .inr rfl)) (pgs_cons (pg_name (i := 9) sc_sending_of.nd rfl (by first | exact .inl rfl | exact .inr rfl)) pgs_nil))) (fun _ _ _ _ _ => pts_nil) (fun _ _ _ _ _ => (pe_op op_sub (pv 9) (pv 8)))))))))), ?_⟩
    refine ⟨_, rfl, _, rfl, _, rfl, x, l, d, ho, rfl, hz, h1, ?_⟩
    have hn := last_le l.length d ho h12 h40
    unfold dueL at k
    generalize lastT l.length d ho = n at hn k
    refine ⟨(by show 1 ≤ sizeLine; decide), fun q hq => ?_⟩
    have sq := Same.new (o := .lst [V.int 0]) hq
    refine ⟨_, rfl, _, rfl, _, rfl, _, rfl, _, rfl, x, l, d, n, ho, ro, rfl, hz.keep sq, by omega, fun H2 p s2 hp e2 => ?_⟩
    refine ⟨_, rfl, p, _, rfl, SqL.of e2, fun c hc => ?_⟩
    rw [cut_one, ← List.map_tail, IL_tail]
    have s3 := Same.new (o := .lst ((IL (fun t => canAt l d ho ro (t + 1)) n).map V.int)) hc
    have sH := sq.trans (s2.trans s3)
    refine ⟨c, rfl, ⟨_, SqL.of upd_same⟩, ?_⟩
    refine for_it (walk_list (K := K) (a := c) (xs := (IL (fun t => canAt l d ho ro (t + 1)) n).map V.int)) (fun i σ H' => (∃ v7, σ = [some x, some (.int rate), some (.int (d : Int)), some (hv ho), some (hv ro), some (.int (n : Int)), some (.ref q), v7, none, none, none]) ∧ H' q = some (.lst ((IL (comeBy rate (canAt l d ho ro)) (i + 1)).map V.int)) ∧ Same H H' ∧ H' c = some (.lst ((IL (fun t => canAt l d ho ro (t + 1)) n).map V.int))) ⟨⟨none, rfl⟩, s3 _ _ (s2 _ _ upd_same), sH, upd_same⟩ (fun i σ H' _ m => SqL.of m.2.2.2) ?_ ?_
    · rintro i y σ H4' H4 hi ⟨⟨v7, rfl⟩, e4, s4, ec⟩ ⟨rfl, hx⟩
      obtain ⟨rfl, hin⟩ := IL_get hx
      refine ⟨_, rfl, .inl ⟨rfl, _, SqL.of e4⟩, ?_⟩
      have el : (IL (comeBy rate (canAt l d ho ro)) (i + 1)).map V.int = (IL (comeBy rate (canAt l d ho ro)) i).map V.int ++ [.int (comeBy rate (canAt l d ho ro) i)] := by
        rw [IL_succ, List.map_append]
        rfl
      refine ⟨_, rfl, _, rfl, .inl ⟨q, _, _, .int (comeBy rate (canAt l d ho ro) i), rfl, rfl, SqL.of e4, by rw [el]; exact atI_last _ _, ?_⟩⟩
      refine ⟨_, rfl, _, _, rfl, rfl, _, rfl, _, _, rfl, ?_⟩
      have ne : c ≠ q := fun z => by
        subst z
        rw [ec] at e4
        have := congrArg List.length (HO.lst.inj (Option.some.inj e4))
        rw [List.length_map, List.length_map, IL_len, IL_len] at this
        have hs := s3
        have : (H2 c) = none := hc
        rw [s2 _ _ upd_same] at this
        cases this
      refine ⟨_, _, _, rfl, rfl, e4, by rw [List.length_map, IL_len]; exact Nat.lt_of_le_of_lt (show i + 1 ≤ 1000 by omega) (by decide), ⟨_, rfl⟩, ?_, Same.put s4 hq, by rw [upd_ne ne]; exact ec⟩
      rw [upd_same, IL_succ _ (i + 1), List.map_append]
      have e9 : (if canAt l d ho ro (i + 1) < comeBy rate (canAt l d ho ro) i + rate then canAt l d ho ro (i + 1) else comeBy rate (canAt l d ho ro) i + rate) = comeBy rate (canAt l d ho ro) (i + 1) := by
        show _ = min (comeBy rate (canAt l d ho ro) i + rate) (canAt l d ho ro (i + 1))
        split <;> omega
      rw [e9]
      rfl
    · rintro σ H4 ⟨⟨v7, rfl⟩, e4, s4, ec⟩
      rw [List.length_map, IL_len] at e4
      have hz4 := hz.keep s4
      refine ⟨_, rfl, _, rfl, _, rfl, _, rfl, _, rfl, x, l, d, n, ho, rfl, hz4, by omega, fun H5 p5 s5 hp5 e5 => ?_⟩
      have e45 := s5 _ _ e4
      refine ⟨q, p5, _, _, rfl, .inl ⟨SqL.of e45, SqL.of e5, fun D hD => ?_⟩⟩
      refine lcP (walk_zip (K := K) (a := q) (b := p5) (xs := (IL (comeBy rate (canAt l d ho ro)) (n + 1)).map V.int) (ys := (IL (mustAt l d ho) (n + 1)).map V.int) (n := n + 1) (by rw [List.length_map, List.length_map, IL_len, IL_len]; omega)) (List.range (n + 1)) (fun _ => true) (fun t => V.bl (decide (comeBy rate (canAt l d ho ro) t < mustAt l d ho t))) (by rw [List.length_range]) hD (fun H' s' => ⟨SqL.of (s' _ _ e45), SqL.of (s' _ _ e5)⟩) (by rw [List.length_range]; omega) yPair_same ?_ ?_
      · rintro i y m H6 H7 N R hm s6 ⟨T', x1, y1, rfl, hT, rfl, h1, h2⟩ hy hn'
        obtain ⟨rfl, hml⟩ := range_at hm
        obtain ⟨rfl, _⟩ := IL_get h1
        obtain ⟨rfl, _⟩ := IL_get h2
        refine ⟨T', _, rfl, SqT.of upd_same, rfl, _, _, rfl, _, _, rfl, rfl, rfl, ?_⟩
        dsimp only [tYes]
        rw [if_pos rfl]
        exact ⟨_, rfl, _, rfl, _, _, rfl, rfl, hy rfl _ fun _ _ e => e⟩
      · intro H6 s6 e6
        rw [filter_yes] at e6
        refine ⟨D, (List.range (n + 1)).map fun t => decide (comeBy rate (canAt l d ho ro) t < mustAt l d ho t), rfl, SqL.of (by rw [e6, List.map_map]; rfl), ?_⟩
        rw [enough_any]
        have s46 := s5.trans s6
        have sH6 := s4.trans s46
        refine ⟨_, rfl, ?_⟩
        cases ce : enoughB rate (canAt l d ho ro) (mustAt l d ho) n with
        | false => exact iteT (k _ H6 sH6 (by unfold dueO; rw [ce]; rfl))
        | true =>
          refine iteF ?_
          have e46 := s46 _ _ e4
          refine ⟨_, rfl, _, rfl, _, rfl, ?_⟩
          dsimp only [tNoPart]
          refine ⟨q, _, rfl, SqL.of e46, fun c2 hc2 => ?_⟩
          rw [cut_one, ← List.map_tail, IL_tail]
          have s7 := Same.new (o := .lst ((IL (fun t => comeBy rate (canAt l d ho ro) (t + 1)) n).map V.int)) hc2
          refine ⟨q, c2, _, _, rfl, .inl ⟨SqL.of (s7 _ _ e46), SqL.of upd_same, fun D2 hD2 => ?_⟩⟩
          generalize hH7 : upd H6 c2 (.lst ((IL (fun t => comeBy rate (canAt l d ho ro) (t + 1)) n).map V.int)) = H7 at s7
          have e7 : H7 c2 = some (.lst ((IL (fun t => comeBy rate (canAt l d ho ro) (t + 1)) n).map V.int)) := by rw [← hH7, upd_same]
          have e47 := s7 _ _ e46
          rw [hH7] at hD2
          refine lcP (walk_zip (K := K) (a := q) (b := c2) (xs := (IL (comeBy rate (canAt l d ho ro)) (n + 1)).map V.int) (ys := (IL (fun t => comeBy rate (canAt l d ho ro) (t + 1)) n).map V.int) (n := n) (by rw [List.length_map, List.length_map, IL_len, IL_len]; omega)) (List.range n) (fun _ => true) (fun t => V.int (comeBy rate (canAt l d ho ro) (t + 1) - comeBy rate (canAt l d ho ro) t)) (by rw [List.length_range]) hD2 (fun H' s' => ⟨SqL.of (s' _ _ e47), SqL.of (s' _ _ e7)⟩) (by rw [List.length_range]; omega) yPair_same ?_ ?_
          · rintro i y m H8 H9 N R hm s8 ⟨T', x1, y1, rfl, hT, rfl, h1, h2⟩ hy hn'
            obtain ⟨rfl, hml⟩ := range_at hm
            obtain ⟨rfl, _⟩ := IL_get h1
            obtain ⟨rfl, _⟩ := IL_get h2
            refine ⟨T', _, rfl, SqT.of upd_same, rfl, _, _, rfl, _, _, rfl, rfl, rfl, ?_⟩
            dsimp only [tYes]
            rw [if_pos rfl]
            exact ⟨_, rfl, _, rfl, _, _, rfl, rfl, hy rfl _ fun _ _ e => e⟩
          · intro H8 s8 e8
            rw [filter_yes] at e8
            have sH7 := sH6.trans s7
            refine k _ H8 (sH7.trans s8) ?_
            unfold dueO
            rw [if_pos ce]
            refine ⟨D2, rfl, none_of sH7 hD2, ?_⟩
            rw [e8]
            unfold stepsL
            rw [List.map_map]
            rfl
theorem ok_first_pair : FnOk P w K mg base (L2.CX P w) 1 T.first_pair.a T.first_pair.d ["last", "table"] (spFirstPair K) := by
  refine T.first_pair.f.okX sc_first_pair (fun vs H Q E h => ?_) (fun cdv A outer s H vs Q E hr h => ?_)
  · obtain ⟨a, b, n, rfl, _⟩ := h
    rfl
  · obtain ⟨a, b, n, rfl, ht, hn, k⟩ := h
    obtain ⟨rows, ha, hrow⟩ := ht
    refine ⟨_, (pss_cons (ps_for (passes_of rfl) rfl (pi_range1 (by rfl) T.b_range (pa_cons (pe_op op_add (pv 0) pe_int) pa_nil)) (pg_name (i := 2) sc_first_pair.nd rfl (by first | exact .inl rfl | exact .inr rfl))
        (pss_one (ps_for (passes_of rfl) rfl (pi_range2 (by rfl) T.b_range (pa_cons (pv 2) (pa_cons (pe_op op_add (pv 0) pe_int) pa_nil))) (pg_name (i := 3) sc_first_pair.nd rfl (by first | exact .inl rfl | exact .inr rfl))
        (pss_one (ps_if (pt_val (pe_ix (show IxR _ (rIx K) from ix_seq) (pe_ix (show IxR _ (rIx K) from ix_seq) (pv 1) (pv 2) (fun _ _ => rfl)) (pv 3) (fun _ _ => rfl))) (pss_one (ps_ret (pe_tup (pa_cons (pv 2) (pa_cons (pv 3) pa_nil))))) pss_nil)))))
      (pss_one (ps_ret pe_non))), ?_⟩
    refine ⟨_, rfl, _, _, rfl, rfl, _, rfl, by omega, by omega, ?_⟩
    refine for_range (n := _) (fun j σ H1 => H1 = H ∧ (∀ s e, s < j → s ≤ e → e ≤ n → b s e = false) ∧ ∃ v2 v3, σ = [some (.int (n : Int)), some (.ref a), v2, v3]) ⟨rfl, fun s e h => absurd h (Nat.not_lt_zero _), _, _, rfl⟩ ?_ ?_
    · rintro i σ H1 hi ⟨rfl, hb, v2, v3, rfl⟩
      have hi : i ≤ n := by omega
      rw [Int.zero_add]
      refine ⟨_, rfl, _, rfl, _, _, rfl, rfl, _, _, rfl, ⟨by omega, by omega, by omega, by omega⟩, ?_⟩
      rw [show ((n : Int) + 1 - (i : Int)).toNat = n + 1 - i by omega]
      refine for_range (n := _) (fun j σ H2 => H2 = H1 ∧ (∀ e, i ≤ e → e < i + j → b i e = false) ∧ ∃ v3, σ = [some (.int (n : Int)), some (.ref a), some (.int (i : Int)), v3]) ⟨rfl, fun e h1 h2 => by omega, _, rfl⟩ ?_ ?_
      · rintro j σ H2 hj ⟨rfl, hc, v3, rfl⟩
        rw [show (i : Int) + (j : Int) = ((i + j : Nat) : Int) by omega]
        obtain ⟨p, ep, hp⟩ := hrow i hi
        refine ⟨_, rfl, _, rfl, ix_L (K := K) ha ep ⟨_, rfl, ix_L (K := K) hp (v := .bl (b i (i + j))) (by rw [List.getElem?_map, List.getElem?_range (by omega)]; rfl) ⟨_, rfl, ?_⟩⟩⟩
        cases c : b i (i + j) with
        | true =>
          refine iteT ⟨_, rfl, _, rfl, (by show 2 ≤ sizeLine; decide), fun t ht => ?_⟩
          refine k (some (i, i + j)) ⟨by show i ≤ i + j; omega, by show i + j ≤ n; omega, c, ?_⟩ _ _ (Same.new ht) ⟨t, rfl, ht, upd_same⟩
          intro s' e' h1 h2 h3
          rcases h3 with h3 | ⟨h3, h4⟩
          · exact hb s' e' h3 h1 h2
          · have h3 : s' = i := h3
            subst h3
            exact hc e' h1 h4
        | false =>
          refine iteF ⟨rfl, fun e h1 h2 => ?_, _, rfl⟩
          by_cases z : e = i + j
          · rw [z]
            exact c
          · exact hc e h1 (by omega)
      · rintro σ H2 ⟨rfl, hc, v3, rfl⟩
        refine ⟨rfl, fun s e h1 h2 h3 => ?_, _, _, rfl⟩
        by_cases z : s = i
        · subst z
          exact hc e h2 (by omega)
        · exact hb s e (by omega) h2 h3
    · rintro σ H1 ⟨rfl, hb, v2, v3, rfl⟩
      refine k none (fun s e h1 h2 => hb s e (by omega) h1 h2) _ _ (fun _ _ e => e) rfl
end
end K39
namespace K39
open PySem PySem.Spec PyProof.Rows L2 PySem.W LamX KA KW KU KL KT
open Evl (pss_cut tCut)
/-! ### what is asked: wrong values, good ones -/
def due5 (o : Option (List V)) (y z u v : V) : Option Nat :=
  if sizesB 12 o = false then some 0 else if within y 1 9999 = false then some 1 else if within z 0 40 = false then some 2 else if heldB u = false then some 3 else if heldB v = false then some 4 else none
def errAt (CS CR CD CH CM : Addr) : Nat → Addr
  | 0 => CS
  | 1 => CR
  | 2 => CD
  | 3 => CH
  | _ => CM
def Wrong (K : PySem.W.Frag) (C5 : Nat → Addr) (H : Hp) (x y z u v : V) (E : XK) : Prop := ∃ (o : Option (List V)) (b c e f : Bool) (i : Nat), Gn K H x o ∧ Pl K H y b ∧ Pl K H z c ∧ Pl K H u e ∧ Pl K H v f ∧ due5 o y z u v = some i ∧ ∀ H', Same H H' → E (.ref (C5 i)) none H'
structure Five (H : Hp) (x y z u v : V) (l : List Int) (rate : Int) (d : Nat) (ho ro : Option Int) : Prop where
  zv : Zv H x l
  ls : Ls l
  ey : y = .int rate
  r1 : 1 ≤ rate
  r2 : rate ≤ 9999
  ez : z = .int (d : Int)
  d4 : d ≤ 40
  eu : u = hv ho
  h : Hr ho
  ev : v = hv ro
  r : Hr ro
theorem Five.keep {H H' : Hp} {x y z u v : V} {l : List Int} {rate : Int} {d : Nat} {ho ro : Option Int} (F : Five H x y z u v l rate d ho ro) (s : Same H H') : Five H' x y z u v l rate d ho ro := { F with zv := F.zv.keep s }
theorem Fl.ints (l : List Int) : ∀ x ∈ l.map V.int, Fl x := fun x hx => by
  obtain ⟨i, _, rfl⟩ := List.mem_map.mp hx
  exact .int i
theorem Ls.sizes {l : List Int} (h : Ls l) : sizesB 12 (some (l.map V.int)) = true := by
  show (decide (1 ≤ (l.map V.int).length) && (decide ((l.map V.int).length ≤ 12) && (l.map V.int).all fun x => within x 0 9999)) = true
  rw [List.length_map, decide_eq_true h.one, decide_eq_true h.few, Bool.true_and, Bool.true_and, List.all_map, List.all_eq_true]
  intro x hx
  show (decide (0 ≤ x) && decide (x ≤ 9999)) = true
  rw [decide_eq_true (h.low x hx), decide_eq_true (h.high x hx)]
  rfl
theorem hv_pl {K : PySem.W.Frag} {H : Hp} (o : Option Int) : ∃ b, Pl K H (hv o) b := by
  cases o with
  | none => exact ⟨_, .non⟩
  | some i => exact ⟨_, .int i⟩
theorem hv_held {o : Option Int} (h : Hr o) : heldB (hv o) = true := by
  cases o with
  | none => rfl
  | some i =>
    obtain ⟨h1, h2⟩ := h i rfl
    show (decide (V.int i = V.non) || (decide (0 ≤ i) && decide (i ≤ 99999))) = true
    rw [decide_eq_true h1, decide_eq_true h2]
    exact Bool.or_true _
theorem within_ok {i lo hi : Int} (h1 : lo ≤ i) (h2 : i ≤ hi) : within (.int i) lo hi = true := by
  show (decide (lo ≤ i) && decide (i ≤ hi)) = true
  rw [decide_eq_true h1, decide_eq_true h2]
  rfl
section
variable {K : PySem.W.Frag} {H : Hp} {x y z u v : V} {CS CR CD CH CM : Addr}
theorem line_ok {l : List Int} {rate : Int} {d : Nat} {ho ro : Option Int} (F : Five H x y z u v l rate d ho ro) {Q : VK} {E : XK} (k : ∀ H', Same H H' → Q .non H') : spCkLine K CS CR CD [x, y, z] H Q E := by
  obtain ⟨a, rfl, e⟩ := F.zv
  obtain rfl := F.ey
  obtain rfl := F.ez
  refine ⟨_, _, _, some (l.map V.int), _, _, rfl, .some e (Fl.ints l) (by rw [List.length_map]; have := F.ls.few; omega), .int _, .int _, fun z => ?_, fun _ => ⟨fun z => ?_, fun _ => ⟨fun z => ?_, fun _ => k⟩⟩⟩
  · rw [F.ls.sizes] at z
    cases z
  · rw [within_ok F.r1 F.r2] at z
    cases z
  · rw [within_ok (show (0 : Int) ≤ (d : Int) by omega) (show (d : Int) ≤ 40 by have := F.d4; omega)] at z
    cases z
theorem held_ok {l : List Int} {rate : Int} {d : Nat} {ho ro : Option Int} (F : Five H x y z u v l rate d ho ro) {H' : Hp} {Q : VK} {E : XK} (k : Q .non H') : spCkHeld K CH CM [u, v] H' Q E := by
  obtain rfl := F.eu
  obtain rfl := F.ev
  obtain ⟨b, hb⟩ := hv_pl (K := K) (H := H') ho
  obtain ⟨c, hc⟩ := hv_pl (K := K) (H := H') ro
  refine ⟨_, _, b, c, rfl, hb, hc, fun z => ?_, fun _ => ⟨fun z => ?_, fun _ => k⟩⟩
  · rw [hv_held F.h] at z
    cases z
  · rw [hv_held F.r] at z
    cases z
theorem wrong_line {Q : VK} {E : XK} (W : Wrong K (errAt CS CR CD CH CM) H x y z u v E) (k : ∀ H1, Same H H1 → (∀ Q' : VK, spCkHeld K CH CM [u, v] H1 Q' E) → Q .non H1) : spCkLine K CS CR CD [x, y, z] H Q E := by
  obtain ⟨o, b, c, e, f, i, hg, hy, hz, hu, hv', hd, hE⟩ := W
  unfold due5 at hd
  refine ⟨x, y, z, o, b, c, rfl, hg, hy, hz, fun q H' s => ?_, fun q => ⟨fun q2 H' s => ?_, fun q2 => ⟨fun q3 H' s => ?_, fun q3 H' s => k H' s fun Q' => ⟨u, v, e, f, rfl, hu.keep s, hv'.keep s, fun q4 => ?_, fun q4 => ⟨fun q5 => ?_, fun q5 => ?_⟩⟩⟩⟩⟩
  · rw [if_pos q] at hd
    cases hd
    exact hE H' s
  · rw [if_neg (by rw [q]; exact fun z => nomatch z), if_pos q2] at hd
    cases hd
    exact hE H' s
  · rw [if_neg (by rw [q]; exact fun z => nomatch z), if_neg (by rw [q2]; exact fun z => nomatch z), if_pos q3] at hd
    cases hd
    exact hE H' s
  · rw [if_neg (by rw [q]; exact fun z => nomatch z), if_neg (by rw [q2]; exact fun z => nomatch z), if_neg (by rw [q3]; exact fun z => nomatch z), if_pos q4] at hd
    cases hd
    exact hE H' s
  · rw [if_neg (by rw [q]; exact fun z => nomatch z), if_neg (by rw [q2]; exact fun z => nomatch z), if_neg (by rw [q3]; exact fun z => nomatch z), if_neg (by rw [q4]; exact fun z => nomatch z), if_pos q5] at hd
    cases hd
    exact hE H' s
  · rw [if_neg (by rw [q]; exact fun z => nomatch z), if_neg (by rw [q2]; exact fun z => nomatch z), if_neg (by rw [q3]; exact fun z => nomatch z), if_neg (by rw [q4]; exact fun z => nomatch z), if_neg (by rw [q5]; exact fun z => nomatch z)] at hd
    cases hd
end
def spSending (K : PySem.W.Frag) (C5 : Nat → Addr) : Sp := fun vs H Q E => ∃ x y z u v, vs = [x, y, z, u, v] ∧ (Wrong K C5 H x y z u v E ∨ ∃ l rate d ho ro, Five H x y z u v l rate d ho ro ∧ ∀ w H', Same H H' → AnsL (dueL l rate d ho ro) H w H' → Q w H')
def spStrait (K : PySem.W.Frag) (C5 : Nat → Addr) : Sp := fun vs H Q E => ∃ x y z u v, vs = [x, y, z, u, v] ∧ (Wrong K C5 H x y z u v E ∨ ∃ l rate d ho ro, Five H x y z u v l rate d ho ro ∧ ∀ o, First (gapL l rate d ho ro) (lastT l.length d ho) o → ∀ w H', Same H H' → AnsP o H w H' → Q w H')
def intOf : V → Int
  | .int i => i
  | _ => 0
theorem int_of (ns : List Int) : (ns.map V.int).map intOf = ns := by
  rw [List.map_map]
  exact (List.map_congr_left (fun x _ => rfl)).trans (List.map_id _)
theorem all_ints {lo hi : Int} : ∀ {xs : List V}, (xs.all fun x => within x lo hi) = true → xs = (xs.map intOf).map V.int
  | [], _ => rfl
  | x :: xs, h => by
    rw [List.all_cons, Bool.and_eq_true] at h
    obtain ⟨i, rfl, _, _⟩ := within_int h.1
    rw [List.map_cons, List.map_cons, ← all_ints h.2]
    rfl
/-- whether a value is a sending -/
def sentO (rate : Int) (can must : Nat → Int) (n : Nat) : Option (List V) → Bool
  | none => false
  | some xs => decide (xs.length = n) && ((xs.all fun x => within x 0 rate) && fitsB can must n (xs.map intOf))
abbrev sentL (l : List Int) (rate : Int) (d : Nat) (ho ro : Option Int) (o : Option (List V)) : Bool := sentO rate (canAt l d ho ro) (mustAt l d ho) (lastT l.length d ho) o
def pairB (b : Nat → Nat → Bool) : Option (Nat × Nat) → Bool
  | none => false
  | some p => b p.1 p.2
def spIsSending (K : PySem.W.Frag) (C5 : Nat → Addr) : Sp := fun vs H Q E => ∃ x y z u v t, vs = [x, y, z, u, v, t] ∧ (Wrong K C5 H x y z u v E ∨ ∃ l rate d ho ro o, Five H x y z u v l rate d ho ro ∧ Gn K H t o ∧ ∀ H', Same H H' → Q (.bl (sentL l rate d ho ro o)) H')
def spIsStrait (K : PySem.W.Frag) (C5 : Nat → Addr) : Sp := fun vs H Q E => ∃ x y z u v t, vs = [x, y, z, u, v, t] ∧ (Wrong K C5 H x y z u v E ∨ ∃ l rate d ho ro o, Five H x y z u v l rate d ho ro ∧ Rv K H t o ∧ ∀ H', Same H H' → Q (.bl (pairB (gapL l rate d ho ro) (ticksO (lastT l.length d ho) o))) H')
theorem ticks_at {K : PySem.W.Frag} {H : Hp} {x : V} {o : Option (List V)} {n : Nat} {p : Nat × Nat} (h : Rv K H x o) (c : ticksO n o = some p) : ∃ (a : Addr) (s0 e0 : Nat), x = .ref a ∧ H a = some (.tup [.int (s0 : Int), .int (e0 : Int)]) ∧ p.1 = s0 ∧ p.2 = e0 ∧ s0 ≤ e0 ∧ e0 ≤ n := by
  cases h with
  | no h => cases c
  | @tup a xs e q l =>
    match xs, e, c with
    | [], e, c => cases c
    | [_], e, c => cases c
    | x1 :: x2 :: x3 :: r, e, c => cases c
    | [u, v], e, c =>
      have c : (if within v 0 (n : Int) = true then (match u, v with
        | .int s, .int e => if 0 ≤ s ∧ s ≤ e then some (s.toNat, e.toNat) else none
        | _, _ => none) else none) = some p := c
      by_cases w : within v 0 (n : Int) = true
      · rw [if_pos w] at c
        obtain ⟨i, rfl, i0, i1⟩ := within_int w
        cases u with
        | int s =>
          have c : (if 0 ≤ s ∧ s ≤ i then some (s.toNat, i.toNat) else none) = some p := c
          by_cases q : 0 ≤ s ∧ s ≤ i
          · rw [if_pos q] at c
            cases c
            refine ⟨a, s.toNat, i.toNat, rfl, ?_, rfl, rfl, by omega, by omega⟩
            rw [Int.toNat_of_nonneg q.1, Int.toNat_of_nonneg i0]
            exact e
          · rw [if_neg q] at c
            cases c
        | _ => cases c
      · rw [if_neg w] at c
        cases c
theorem yTrip_same {f g h : Nat → Option V} : ∀ (i : Nat) (H : Hp) (x : V) (H' : Hp), KZ3.YTrip f g h i H x H' → Same H H' := fun i H x H' y => by
  obtain ⟨T, x, y, z, rfl, hT, rfl, h1, h2, h3⟩ := y
  exact Same.new hT
theorem dec_int (a b : Int) : (!decide (V.int a = V.int b)) = (!(a == b)) := by
  by_cases c : a = b
  · rw [decide_eq_true (congrArg V.int c), c, beq_self_eq_true]
  · rw [decide_eq_false (fun z => c (V.int.inj z)), show (a == b) = false from beq_eq_false_iff_ne.mpr c]
theorem fits_sum {l ns : List Int} {d : Nat} {ho ro : Option Int} (h : Ls l) (hl : ns.length = lastT l.length d ho) : (decide (pre ns (lastT l.length d ho) = l.sum) && fitsB (canAt l d ho ro) (mustAt l d ho) (lastT l.length d ho) ns) = fitsB (canAt l d ho ro) (mustAt l d ho) (lastT l.length d ho) ns := by
  cases c : fitsB (canAt l d ho ro) (mustAt l d ho) (lastT l.length d ho) ns with
  | false => exact Bool.and_false _
  | true =>
    have q := fits_iff.mp c _ (Nat.le_refl _)
    have a := must_last h d ho
    have b := can_le h d ho ro (lastT l.length d ho)
    rw [decide_eq_true (show pre ns (lastT l.length d ho) = l.sum by omega)]
    rfl
section
variable {P : Program} {w : World} {K : PySem.W.Frag} {mg : Str → Option Value} {base : Heap} (T : Top K mg)
abbrev Top.C5 (T : Top K mg) : Nat → Addr := errAt T.BadSizes.C T.BadRate.C T.BadDelay.C T.BadHold.C T.BadRoom.C
theorem ok_sending : FnOk P w K mg base (L2.CX P w) 6 T.sending.a T.sending.d ["sizes", "rate", "delay", "hold", "room"] (spSending K T.C5) := by
  refine T.sending.f.okX sc_sending (fun vs H Q E h => ?_) (fun cdv A outer s H vs Q E hr h => ?_)
  · obtain ⟨x, y, z, u, v, rfl, _⟩ := h
    rfl
  · obtain ⟨x, y, z, u, v, rfl, W | ⟨l, rate, d, ho, ro, F, k⟩⟩ := h
    · refine ⟨_, (pss_cons (ps_expr (pe_call (ok_check_line T) (hr.mono (by decide)) (by rfl) T.check_line.m T.check_line.f.kp (bd_check_line T) .nil (passX rfl rfl rfl rfl) (pa_cons (pv 0) (pa_cons (pv 1) (pa_cons (pv 2) pa_nil)))))
      (pss_cons (ps_expr (pe_call (ok_check_held T) (hr.mono (by decide)) (by rfl) T.check_held.m T.check_held.f.kp (bd_check_held T) .nil (passX rfl rfl rfl rfl) (pa_cons (pv 3) (pa_cons (pv 4) pa_nil))))
      (pss_one (ps_ret (pe_call (ok_sending_of T) (hr.mono (by decide)) (by rfl) T.sending_of.m T.sending_of.f.kp (bd_sending_of T) .nil passE (pa_cons (pv 0) (pa_cons (pv 1) (pa_cons (pv 2) (pa_cons (pv 3) (pa_cons (pv 4) pa_nil)))))))))), ?_⟩
      refine ⟨_, rfl, _, rfl, _, rfl, ?_⟩
      show tNil _ H _
      unfold tNil
      show spCkLine K _ _ _ [x, y, z] H _ E
      refine wrong_line W fun H1 s1 held => ⟨_, rfl, _, rfl, ?_⟩
      show spCkHeld K _ _ [u, v] H1 _ E
      exact held _
    · refine ⟨_, (pss_cons (ps_expr (pe_call (ok_check_line T) (hr.mono (by decide)) (by rfl) T.check_line.m T.check_line.f.kp (bd_check_line T) .nil (passX rfl rfl rfl rfl) (pa_cons (pv 0) (pa_cons (pv 1) (pa_cons (pv 2) pa_nil)))))
      (pss_cons (ps_expr (pe_call (ok_check_held T) (hr.mono (by decide)) (by rfl) T.check_held.m T.check_held.f.kp (bd_check_held T) .nil (passX rfl rfl rfl rfl) (pa_cons (pv 3) (pa_cons (pv 4) pa_nil))))
      (pss_one (ps_ret (pe_call (ok_sending_of T) (hr.mono (by decide)) (by rfl) T.sending_of.m T.sending_of.f.kp (bd_sending_of T) .nil passE (pa_cons (pv 0) (pa_cons (pv 1) (pa_cons (pv 2) (pa_cons (pv 3) (pa_cons (pv 4) pa_nil)))))))))), ?_⟩
      refine ⟨_, rfl, _, rfl, _, rfl, ?_⟩
      show tNil _ H _
      unfold tNil
      show spCkLine K _ _ _ [x, y, z] H _ E
      refine line_ok F fun H1 s1 => ⟨_, rfl, _, rfl, ?_⟩
      show spCkHeld K _ _ [u, v] H1 _ E
      refine held_ok F ?_
      obtain rfl := F.ey
      obtain rfl := F.ez
      obtain rfl := F.eu
      obtain rfl := F.ev
      exact ⟨_, rfl, _, rfl, _, rfl, _, rfl, _, rfl, x, l, rate, d, ho, ro, rfl, F.zv.keep s1, F.ls.one, F.ls.few, F.d4, fun v' H' s' a => k v' H' (s1.trans s') (a.early s1)⟩
def tabE : Expr := match (defBody s_strait).getD 5 (.Pass ⟨0, 0, 0, 0⟩) with
  | .Return (some (.Call _ [_, e] _ _)) _ => e
  | _ => .Name "x" ⟨0, 0, 0, 0⟩
def lcOf : Expr → Scope
  | .ListComp _ _ s _ => s
  | _ => defScope s_strait
def eltE : Expr → Expr
  | .ListComp e _ _ _ => e
  | e => e
theorem rate_mul {rate : Int} (h1 : 1 ≤ rate) (h2 : rate ≤ 9999) (j : Int) : CMul rate j := .inl ⟨by omega, by omega⟩
theorem ok_strait : FnOk P w K mg base (L2.CX P w) 6 T.strait.a T.strait.d ["sizes", "rate", "delay", "hold", "room"] (spStrait K T.C5) := by
  refine T.strait.f.okX sc_strait (fun vs H Q E h => ?_) (fun cdv A outer s H vs Q E hr h => ?_)
  · obtain ⟨x, y, z, u, v, rfl, _⟩ := h
    rfl
  · obtain ⟨x, y, z, u, v, rfl, h⟩ := h
    have inR : ∀ (sI : Shared) (HI : Hp) (C : Addr) (cl : List (Str × Addr)) (fp : List Addr), PE ((cxOf (L2.CX P w) P w K mg base ["sizes", "rate", "delay", "hold", "room", "last", "least", "most", "start", "end"] "strait" (defScope s_strait) T.strait.a cdv A outer s H E).blk sI HI (lcOf tabE) (compEnvC (lcOf tabE) cl C (cxOf (L2.CX P w) P w K mg base ["sizes", "rate", "delay", "hold", "room", "last", "least", "most", "start", "end"] "strait" (defScope s_strait) T.strait.a cdv A outer s H E).env) fp) (eltE tabE) (tLc (iRng1 (tCons (tOp (rI0 fun i j => V.int (i + j)) (tVar 5) (tC (.int 1))) tNil)) (gName 9) tYes (tOp (rI0 fun i j => V.bl (decide (j < i))) (tOp (rI0 fun i j => V.int (i - j)) (tOp (rIx K) (tVar 6) (tVar 9)) (tOp (rIx K) (tVar 7) (tVar 8))) (tOp (rI CMul fun i j => V.int (i * j)) (tVar 1) (tOp (rI0 fun i j => V.int (i - j)) (tVar 9) (tVar 8)))) [9]) := by
      intro sI HI C cl fp
      refine pe_lc (own := [("end", 9)]) (g := gName 9) (tt := tYes) rfl sc_strait.nd ?_ ?_ ?_ ?_ ?_
      · exact (pi_range1 (by rfl) T.b_range (pa_cons (pe_op op_add (pv 5) pe_int) pa_nil))
      · exact blkOk_by (N := ["sizes", "rate", "delay", "hold", "room", "last", "least", "most", "start", "end"]) (sc := relS (lcOf tabE) (defScope s_strait)) (by decide +kernel)
      · exact fun _ _ _ _ _ => pg_name (i := 9) sc_strait.nd rfl (Or.inl rfl)
      · exact fun _ _ _ _ _ => pts_nil
      · exact fun _ _ _ _ _ => (pe_cmpR (show OpR _ _ (rI0 fun i j => V.bl (decide (j < i))) from op_gt) (pe_op (show OpR _ _ (rI0 fun i j => V.int (i - j)) from op_sub) (pe_ix (show IxR _ (rIx K) from ix_seq) (pv 6) (pv 9) (fun _ _ => rfl)) (pe_ix (show IxR _ (rIx K) from ix_seq) (pv 7) (pv 8) (fun _ _ => rfl))) (pe_op (show OpR _ _ (rI CMul fun i j => V.int (i * j)) from op_mul) (pv 1) (pe_op (show OpR _ _ (rI0 fun i j => V.int (i - j)) from op_sub) (pv 9) (pv 8))) (nomark _))
    refine ⟨_, (pss_cons (ps_expr (pe_call (ok_check_line T) (hr.mono (by decide)) (by rfl) T.check_line.m T.check_line.f.kp (bd_check_line T) .nil (passX rfl rfl rfl rfl) (pa_cons (pv 0) (pa_cons (pv 1) (pa_cons (pv 2) pa_nil)))))
      (pss_cons (ps_expr (pe_call (ok_check_held T) (hr.mono (by decide)) (by rfl) T.check_held.m T.check_held.f.kp (bd_check_held T) .nil (passX rfl rfl rfl rfl) (pa_cons (pv 3) (pa_cons (pv 4) pa_nil))))
      (pss_cons (ps_set (i := 5) sc_strait.nd rfl (by first | exact .inl rfl | exact .inr rfl) (pe_call (ok_last_tick T) (hr.mono (by decide)) (by rfl) T.last_tick.m T.last_tick.f.kp (bd_last_tick T) .nil passE (pa_cons (pv 0) (pa_cons (pv 2) (pa_cons (pv 3) pa_nil)))))
      (pss_cons (ps_set (i := 6) sc_strait.nd rfl (by first | exact .inl rfl | exact .inr rfl) (pe_call (ok_least_brought T) (hr.mono (by decide)) (by rfl) T.least_brought.m T.least_brought.f.kp (bd_least_brought T) .nil passE (pa_cons (pv 0) (pa_cons (pv 2) (pa_cons (pv 3) (pa_cons (pv 5) pa_nil))))))
      (pss_cons (ps_set (i := 7) sc_strait.nd rfl (by first | exact .inl rfl | exact .inr rfl) (pe_call (ok_most_brought T) (hr.mono (by decide)) (by rfl) T.most_brought.m T.most_brought.f.kp (bd_most_brought T) .nil passE (pa_cons (pv 0) (pa_cons (pv 2) (pa_cons (pv 3) (pa_cons (pv 4) (pa_cons (pv 5) pa_nil)))))))
      (pss_one (ps_ret (pe_call (ok_first_pair T) (hr.mono (by decide)) (by rfl) T.first_pair.m T.first_pair.f.kp (bd_first_pair T) .nil passE (pa_cons (pv 5) (pa_cons (pe_lc (own := [("start", 8)]) (g := (gName 8)) (tt := tYes) rfl sc_strait.nd (pi_range1 (by rfl) T.b_range (pa_cons (pe_op op_add (pv 5) pe_int) pa_nil)) (blkOk_by (own := [("start", 8)]) (N := ["sizes", "rate", "delay", "hold", "room", "last", "least", "most", "start", "end"]) (sc := defScope s_strait) (by decide +kernel)) (fun _ _ _ _ _ => pg_name (i := 8) sc_strait.nd rfl (by first | exact .inl rfl | exact .inr rfl)) (fun _ _ _ _ _ => pts_nil) (fun _ _ _ _ _ => (inR _ _ _ _ _))) pa_nil)))))))))), ?_⟩
    rcases h with W | ⟨l, rate, d, ho, ro, F, k⟩
    · refine ⟨_, rfl, _, rfl, _, rfl, ?_⟩
      show tNil _ H _
      unfold tNil
      show spCkLine K _ _ _ [x, y, z] H _ E
      refine wrong_line W fun H1 s1 held => ⟨_, rfl, _, rfl, ?_⟩
      show spCkHeld K _ _ [u, v] H1 _ E
      exact held _
    refine ⟨_, rfl, _, rfl, _, rfl, ?_⟩
    show tNil _ H _
    unfold tNil
    show spCkLine K _ _ _ [x, y, z] H _ E
    refine line_ok F fun H1 s1 => ⟨_, rfl, _, rfl, ?_⟩
    show spCkHeld K _ _ [u, v] H1 _ E
    refine held_ok F ?_
    obtain rfl := F.ey
    obtain rfl := F.ez
    obtain rfl := F.eu
    obtain rfl := F.ev
    have z1 := F.zv.keep s1
    refine ⟨_, rfl, _, rfl, _, rfl, x, l, d, ho, rfl, z1, F.ls.one, ?_⟩
    have hn := last_le l.length d ho F.ls.few F.d4
    generalize lastT l.length d ho = n at hn k
    refine ⟨_, rfl, _, rfl, _, rfl, _, rfl, x, l, d, n, ho, rfl, z1, by omega, fun H2 p s2 hp e2 => ?_⟩
    refine ⟨_, rfl, _, rfl, _, rfl, _, rfl, _, rfl, x, l, d, n, ho, ro, rfl, z1.keep s2, by omega, fun H3 q s3 hq e3 => ?_⟩
    have e23 := s3 _ _ e2
    refine ⟨_, rfl, _, rfl, _, _, rfl, rfl, _, rfl, by omega, by omega, ?_⟩
    rw [show ((n : Int) + 1).toNat = n + 1 by omega]
    intro D hD
    refine lc_it (walk_rangeN (n := n + 1)) (fun i H' => ∃ rows : List V, H' D = some (.lst rows) ∧ rows.length = i ∧ (∀ s', s' < i → ∃ p, p ≠ D ∧ rows[s']? = some (.ref p) ∧ H' p = some (.lst ((List.range (n + 1)).map fun e => V.bl (gapL l rate d ho ro s' e)))) ∧ Same H3 H') ⟨[], upd_same, rfl, fun s' h => absurd h (Nat.not_lt_zero _), Same.new hD⟩ (fun _ _ _ _ => trivial) ?_ ?_
    · rintro i y H4' H4 hi ⟨rows, eD, hl, hrow, s4⟩ ⟨rfl, rfl⟩
      refine ⟨rfl, ?_⟩
      dsimp only [tYes]
      rw [if_pos rfl]
      refine ⟨_, rfl, _, _, rfl, rfl, _, rfl, by omega, by omega, ?_⟩
      rw [show ((n : Int) + 1).toNat = n + 1 by omega]
      intro D2 hD2
      have f2 := s4 _ _ e23
      have f3 := s4 _ _ e3
      refine lcP (walk_rangeN (n := n + 1)) (List.range (n + 1)) (fun _ => true) (fun e => V.bl (gapL l rate d ho ro i e)) (by rw [List.length_range]) hD2 (fun _ _ => trivial) (by rw [List.length_range]; omega) yFn_same ?_ ?_
      · rintro j y m H6 H5 N R hm s5 ⟨rfl, rfl⟩ hy hn'
        obtain ⟨rfl, hml⟩ := range_at hm
        refine ⟨rfl, ?_⟩
        dsimp only [tYes]
        rw [if_pos rfl]
        refine ⟨_, rfl, _, rfl, ix_L (K := K) (s5 _ _ f2) (IL_V hml) ?_⟩
        refine ⟨_, rfl, _, rfl, ix_L (K := K) (s5 _ _ f3) (IL_V hi) ?_⟩
        refine ⟨_, _, rfl, rfl, _, rfl, _, rfl, _, rfl, _, _, rfl, rfl, _, _, rfl, rfl, rate_mul F.r1 F.r2 _, _, _, rfl, rfl, ?_⟩
        exact hy rfl _ fun _ _ e => e
      · intro H5 s5 e5
        rw [filter_yes] at e5
        refine ⟨rows, s5 _ _ eD, Nat.lt_of_le_of_lt (show rows.length ≤ 1000 by omega) (by decide), rows ++ [.ref D2], upd_same, by rw [List.length_append, hl]; rfl, ?_, Same.put (s4.trans s5) hD⟩
        have nD : D ≠ D2 := fun z => by
          rw [← z, eD] at hD2
          cases hD2
        intro s' hs'
        by_cases c : s' = i
        · subst c
          refine ⟨D2, nD.symm, ?_, ?_⟩
          · rw [List.getElem?_append_right (by omega), hl, Nat.sub_self]
            rfl
          · rw [upd_ne nD.symm]
            exact e5
        · obtain ⟨p', np, ep, hp'⟩ := hrow s' (by omega)
          refine ⟨p', np, ?_, ?_⟩
          · rw [List.getElem?_append_left (by rw [hl]; omega)]
            exact ep
          · rw [upd_ne np]
            exact s5 _ _ hp'
    · rintro H4 ⟨rows, eD, hl, hrow, s4⟩
      have s14 := s2.trans (s3.trans s4)
      refine ⟨D, gapL l rate d ho ro, n, rfl, ⟨rows, eD, fun s' hs' => (hrow s' (by omega)).elim fun p' q => ⟨p', q.2.1, q.2.2⟩⟩, by omega, fun o ho' v' H' s' a => ?_⟩
      exact k o ho' v' H' (s1.trans (s14.trans s')) (a.early (s1.trans s14))
theorem ok_is_strait : FnOk P w K mg base (L2.CX P w) 6 T.is_strait.a T.is_strait.d ["sizes", "rate", "delay", "hold", "room", "thing"] (spIsStrait K T.C5) := by
  refine T.is_strait.f.okX sc_is_strait (fun vs H Q E h => ?_) (fun cdv A outer s H vs Q E hr h => ?_)
  · obtain ⟨x, y, z, u, v, t, rfl, _⟩ := h
    rfl
  · obtain ⟨x, y, z, u, v, t, rfl, h⟩ := h
    refine ⟨_, (pss_cons (ps_expr (pe_call (ok_check_line T) (hr.mono (by decide)) (by rfl) T.check_line.m T.check_line.f.kp (bd_check_line T) .nil (passX rfl rfl rfl rfl) (pa_cons (pv 0) (pa_cons (pv 1) (pa_cons (pv 2) pa_nil)))))
      (pss_cons (ps_expr (pe_call (ok_check_held T) (hr.mono (by decide)) (by rfl) T.check_held.m T.check_held.f.kp (bd_check_held T) .nil (passX rfl rfl rfl rfl) (pa_cons (pv 3) (pa_cons (pv 4) pa_nil))))
      (pss_cons (ps_set (i := 6) sc_is_strait.nd rfl (by first | exact .inl rfl | exact .inr rfl) (pe_call (ok_last_tick T) (hr.mono (by decide)) (by rfl) T.last_tick.m T.last_tick.f.kp (bd_last_tick T) .nil passE (pa_cons (pv 0) (pa_cons (pv 2) (pa_cons (pv 3) pa_nil)))))
      (pss_cons (ps_if (pt_not (pt_val (pe_call (ok_are_ticks T) (hr.mono (by decide)) (by rfl) T.are_ticks.m T.are_ticks.f.kp (bd_are_ticks T) .nil passE (pa_cons (pv 5) (pa_cons (pv 6) pa_nil))))) (pss_one (ps_ret pe_bl)) pss_nil)
      (pss_cons (ps_asg (pv 5) (pg_tup rfl (pgs_cons (pg_name (i := 7) sc_is_strait.nd rfl (by first | exact .inl rfl | exact .inr rfl)) (pgs_cons (pg_name (i := 8) sc_is_strait.nd rfl (by first | exact .inl rfl | exact .inr rfl)) pgs_nil))))
      (pss_cons (ps_set (i := 9) sc_is_strait.nd rfl (by first | exact .inl rfl | exact .inr rfl) (pe_ix (show IxR _ (rIx K) from ix_seq) (pe_call (ok_least_brought T) (hr.mono (by decide)) (by rfl) T.least_brought.m T.least_brought.f.kp (bd_least_brought T) .nil passE (pa_cons (pv 0) (pa_cons (pv 2) (pa_cons (pv 3) (pa_cons (pv 6) pa_nil))))) (pv 8) (fun _ _ => rfl)))
      (pss_one (ps_ret (pe_cmpR op_gt (pe_op op_sub (pv 9) (pe_ix (show IxR _ (rIx K) from ix_seq) (pe_call (ok_most_brought T) (hr.mono (by decide)) (by rfl) T.most_brought.m T.most_brought.f.kp (bd_most_brought T) .nil passE (pa_cons (pv 0) (pa_cons (pv 2) (pa_cons (pv 3) (pa_cons (pv 4) (pa_cons (pv 6) pa_nil)))))) (pv 7) (fun _ _ => rfl))) (pe_op op_mul (pv 1) (pe_op op_sub (pv 8) (pv 7))) (nomark _)))))))))), ?_⟩
    rcases h with W | ⟨l, rate, d, ho, ro, o, F, hv', k⟩
    · refine ⟨_, rfl, _, rfl, _, rfl, ?_⟩
      show tNil _ H _
      unfold tNil
      show spCkLine K _ _ _ [x, y, z] H _ E
      refine wrong_line W fun H1 s1 held => ⟨_, rfl, _, rfl, ?_⟩
      show spCkHeld K _ _ [u, v] H1 _ E
      exact held _
    refine ⟨_, rfl, _, rfl, _, rfl, ?_⟩
    show tNil _ H _
    unfold tNil
    show spCkLine K _ _ _ [x, y, z] H _ E
    refine line_ok F fun H1 s1 => ⟨_, rfl, _, rfl, ?_⟩
    show spCkHeld K _ _ [u, v] H1 _ E
    refine held_ok F ?_
    obtain rfl := F.ey
    obtain rfl := F.ez
    obtain rfl := F.eu
    obtain rfl := F.ev
    have z1 := F.zv.keep s1
    refine ⟨_, rfl, _, rfl, _, rfl, x, l, d, ho, rfl, z1, F.ls.one, ?_⟩
    have hn := last_le l.length d ho F.ls.few F.d4
    generalize lastT l.length d ho = n at hn k
    refine ⟨_, rfl, _, rfl, t, o, n, rfl, hv'.keep s1, _, rfl, ?_⟩
    cases c : ticksO n o with
    | none =>
      rw [c] at k
      exact iteT (k H1 s1)
    | some p =>
      rw [c] at k
      refine iteF ?_
      obtain ⟨a, s0, e0, rfl, ha, hs, he, hse, hen⟩ : ∃ (a : Addr) (s0 e0 : Nat), t = .ref a ∧ H a = some (.tup [.int (s0 : Int), .int (e0 : Int)]) ∧ p.1 = s0 ∧ p.2 = e0 ∧ s0 ≤ e0 ∧ e0 ≤ n := ticks_at hv' c
      have k : ∀ H', Same H H' → Q (.bl (gapL l rate d ho ro s0 e0)) H' := by
        intro H' s'
        have := k H' s'
        rw [← hs, ← he]
        exact this
      refine ⟨_, rfl, a, _, rfl, SqT.of (s1 _ _ ha), rfl, _, _, rfl, _, _, rfl, rfl, ?_⟩
      refine ⟨_, rfl, _, rfl, _, rfl, _, rfl, x, l, d, n, ho, rfl, z1, by omega, fun H2 p2 s2 hp2 e2 => ?_⟩
      refine ⟨_, rfl, ix_L (K := K) e2 (IL_V (show e0 < n + 1 by omega)) ?_⟩
      refine ⟨_, rfl, _, rfl, _, rfl, _, rfl, _, rfl, _, rfl, x, l, d, n, ho, ro, rfl, z1.keep s2, by omega, fun H3 p3 s3 hp3 e3 => ?_⟩
      refine ⟨_, rfl, ix_L (K := K) e3 (IL_V (show s0 < n + 1 by omega)) ?_⟩
      refine ⟨_, _, rfl, rfl, _, rfl, _, rfl, _, rfl, _, _, rfl, rfl, _, _, rfl, rfl, rate_mul F.r1 F.r2 _, _, _, rfl, rfl, ?_⟩
      exact k H3 (s1.trans (s2.trans s3))
theorem ok_is_sending : FnOk P w K mg base (L2.CX P w) 6 T.is_sending.a T.is_sending.d ["sizes", "rate", "delay", "hold", "room", "thing"] (spIsSending K T.C5) := by
  refine T.is_sending.f.okX sc_is_sending (fun vs H Q E h => ?_) (fun cdv A outer s H vs Q E hr h => ?_)
  · obtain ⟨x, y, z, u, v, t, rfl, _⟩ := h
    rfl
  · obtain ⟨x, y, z, u, v, t, rfl, h⟩ := h
    refine ⟨_, (pss_cons (ps_expr (pe_call (ok_check_line T) (hr.mono (by decide)) (by rfl) T.check_line.m T.check_line.f.kp (bd_check_line T) .nil (passX rfl rfl rfl rfl) (pa_cons (pv 0) (pa_cons (pv 1) (pa_cons (pv 2) pa_nil)))))
      (pss_cons (ps_expr (pe_call (ok_check_held T) (hr.mono (by decide)) (by rfl) T.check_held.m T.check_held.f.kp (bd_check_held T) .nil (passX rfl rfl rfl rfl) (pa_cons (pv 3) (pa_cons (pv 4) pa_nil))))
      (pss_cons (ps_set (i := 6) sc_is_sending.nd rfl (by first | exact .inl rfl | exact .inr rfl) (pe_call (ok_last_tick T) (hr.mono (by decide)) (by rfl) T.last_tick.m T.last_tick.f.kp (bd_last_tick T) .nil passE (pa_cons (pv 0) (pa_cons (pv 2) (pa_cons (pv 3) pa_nil)))))
      (pss_cons (ps_if (PW.pt (pw_or (pt_not (pt_val (pe_callB (show CallR _ _ (rIsiT K) from call_isiT) (by rfl) T.b_isinstance PyProof.Rows.boot_isinstance (pa_cons (pv 5) (pa_cons (pe_tup (pa_cons (pe_bltn (v := .ty "list") (by rfl) T.b_list (by decide +kernel) rfl) (pa_cons (pe_bltn (v := .ty "tuple") (by rfl) T.b_tuple (by decide +kernel) rfl) pa_nil))) pa_nil))))) (pw_or1 (pt_cmpR op_ne (pe_callB call_len_seq (by rfl) T.b_len PySem.boot_len (pa_cons (pv 5) pa_nil)) (pv 6) (nomark _))))) (pss_one (ps_ret pe_bl)) pss_nil)
      (pss_cons (ps_if (pt_not (pt_val (pe_callB (cr_all rfl) (by rfl) T.b_all (by decide +kernel) (pa_cons (pe_lc (own := [("many", 9)]) (g := (gName 9)) (tt := tYes) rfl sc_is_sending.nd (KEN.pi_seqS (pv 5)) (blkOk_by (own := [("many", 9)]) (N := ["sizes", "rate", "delay", "hold", "room", "thing", "last", "brought", "tick", "many", "least", "most"]) (sc := defScope s_is_sending) (by decide +kernel)) (fun _ _ _ _ _ => pg_name (i := 9) sc_is_sending.nd rfl (by first | exact .inl rfl | exact .inr rfl)) (fun _ _ _ _ _ => pts_nil) (fun _ _ _ _ _ => (pe_call (ok_is_within T) (hr.mono (by decide)) (by rfl) T.is_within.m T.is_within.f.kp (bd_is_within T) .nil passE (pa_cons (pv 9) (pa_cons pe_int (pa_cons (pv 1) pa_nil)))))) pa_nil)))) (pss_one (ps_ret pe_bl)) pss_nil)
      (pss_cons (ps_setLc (i := 7) (own := [("tick", 8)]) (g := (gName 8)) (tt := tYes) rfl sc_is_sending.nd rfl rfl (sw_true rfl rfl rfl (by decide +kernel)) (pi_range1 (by rfl) T.b_range (pa_cons (pe_op op_add (pv 6) pe_int) pa_nil)) (blkOk_by (own := [("tick", 8)]) (N := ["sizes", "rate", "delay", "hold", "room", "thing", "last", "brought", "tick", "many", "least", "most"]) (sc := defScope s_is_sending) (by decide +kernel)) (fun _ _ _ _ _ => pg_name (i := 8) sc_is_sending.nd rfl (by first | exact .inl rfl | exact .inr rfl)) (fun _ _ _ _ _ => pts_nil) (fun _ _ _ _ _ => (pe_callB (show CallR _ _ (KSS.rSumE K) from KSS.cr_sumE rfl) (by rfl) T.b_sum (by decide +kernel) (pa_cons (pe_slice (show SlR _ (KSE.rSlE K) from KSE.sl_either) (pv 5) po_none (po_some (pv 8))) pa_nil))))
      (pss_one (ps_ret (pe_and (pe_cmpR op_eq (pe_ix (show IxR _ (rIx K) from ix_seq) (pv 7) (pe_un un_neg pe_int) (fun _ _ => rfl)) (pe_callB (show CallR _ _ (KSS.rSumE K) from KSS.cr_sumE rfl) (by rfl) T.b_sum (by decide +kernel) (pa_cons (pv 0) pa_nil)) (nomark _)) (pe_one (pe_callB (cr_all rfl) (by rfl) T.b_all (by decide +kernel) (pa_cons (pe_lc (own := [("least", 10), ("many", 9), ("most", 11)]) (g := (gTup K 3 (gCons (gName 10) (gCons (gName 9) (gCons (gName 11) gNil))))) (tt := tYes) rfl sc_is_sending.nd (KZ3.pi_zip3 (by rfl) T.b_zip (pa_cons (pe_call (ok_least_brought T) (hr.mono (by decide)) (by rfl) T.least_brought.m T.least_brought.f.kp (bd_least_brought T) .nil passE (pa_cons (pv 0) (pa_cons (pv 2) (pa_cons (pv 3) (pa_cons (pv 6) pa_nil))))) (pa_cons (pv 7) (pa_cons (pe_call (ok_most_brought T) (hr.mono (by decide)) (by rfl) T.most_brought.m T.most_brought.f.kp (bd_most_brought T) .nil passE (pa_cons (pv 0) (pa_cons (pv 2) (pa_cons (pv 3) (pa_cons (pv 4) (pa_cons (pv 6) pa_nil)))))) pa_nil)))) (blkOk_by (own := [("least", 10), ("many", 9), ("most", 11)]) (N := ["sizes", "rate", "delay", "hold", "room", "thing", "last", "brought", "tick", "many", "least", "most"]) (sc := defScope s_is_sending) (by decide +kernel)) (fun _ _ _ _ _ => pg_tup rfl (pgs_cons (pg_name (i := 10) sc_is_sending.nd rfl (by first | exact .inl rfl | exact .inr rfl)) (pgs_cons (pg_name (i := 9) sc_is_sending.nd rfl (by first | exact .inl rfl | exact .inr rfl)) (pgs_cons (pg_name (i := 11) sc_is_sending.nd rfl (by first | exact .inl rfl | exact .inr rfl)) pgs_nil)))) (fun _ _ _ _ _ => pts_nil) (fun _ _ _ _ _ => (pe_chain op_le op_le (pv 10) (pv 9) (pv 11)))) pa_nil)))))))))))), ?_⟩
    rcases h with W | ⟨l, rate, d, ho, ro, o, F, hg, k⟩
    · refine ⟨_, rfl, _, rfl, _, rfl, ?_⟩
      show tNil _ H _
      unfold tNil
      show spCkLine K _ _ _ [x, y, z] H _ E
      refine wrong_line W fun H1 s1 held => ⟨_, rfl, _, rfl, ?_⟩
      show spCkHeld K _ _ [u, v] H1 _ E
      exact held _
    refine ⟨_, rfl, _, rfl, _, rfl, ?_⟩
    show tNil _ H _
    unfold tNil
    show spCkLine K _ _ _ [x, y, z] H _ E
    refine line_ok F fun H1 s1 => ⟨_, rfl, _, rfl, ?_⟩
    show spCkHeld K _ _ [u, v] H1 _ E
    refine held_ok F ?_
    obtain rfl := F.ey
    obtain rfl := F.ez
    obtain rfl := F.eu
    obtain rfl := F.ev
    have z1 := F.zv.keep s1
    have g1 := hg.keep s1
    refine ⟨_, rfl, _, rfl, _, rfl, x, l, d, ho, rfl, z1, F.ls.one, ?_⟩
    have hn := last_le l.length d ho F.ls.few F.d4
    have hfs := fun (ns : List Int) (hl : ns.length = lastT l.length d ho) => fits_sum (ho := ho) (ro := ro) (d := d) F.ls hl
    unfold sentL at k
    generalize lastT l.length d ho = n at hn k hfs
    refine ⟨_, rfl, (by show 2 ≤ sizeLine; decide), fun z hz => ?_⟩
    have tz := Same.new (o := .tup [V.ty "list", .ty "tuple"]) hz
    cases g1 with
    | no hn' =>
      obtain ⟨ty, hty, kt⟩ := (hn'.keep tz).ty (K := K)
      refine ⟨t, z, _, _, _, _, rfl, upd_same, .cons (.ty "list") (.cons (.ty "tuple") .nil), hty, kt, _, rfl, ?_⟩
      exact iteT (iteT (k _ (s1.trans tz)))
    | @some a xs ha hp hl =>
    obtain ⟨ty, hty, kt⟩ : ∃ ty, TyX K (upd H1 z (.tup [V.ty "list", .ty "tuple"])) (.ref a) (.type ty) ∧ PySem.W.kitAny K (.type ty) [.type "list", .type "tuple"] = some true := by
      rcases ha with ha | ha
      · exact ⟨_, .base (.lst (tz _ _ ha)), kit_two (x := true) (y := false) (by decide +kernel) (by decide +kernel)⟩
      · exact ⟨_, .base (.tup (tz _ _ ha)), kit_two (x := false) (y := true) (by decide +kernel) (by decide +kernel)⟩
    refine ⟨_, z, _, _, _, _, rfl, upd_same, .cons (.ty "list") (.cons (.ty "tuple") .nil), hty, kt, _, rfl, iteF ⟨_, rfl, a, xs, rfl, ha.imp (fun e => SqL.of (tz _ _ e)) (fun e => SqT.of (tz _ _ e)), _, rfl, rfl, _, rfl, ?_⟩⟩
    clear hty kt ty
    have ha := ha.imp (tz _ _) (tz _ _)
    have s1z := s1.trans tz
    generalize upd H1 z (.tup [V.ty "list", .ty "tuple"]) = Hz at tz ha s1z
    rw [dec_int]
    have e0 : sentO rate (canAt l d ho ro) (mustAt l d ho) n (some xs) = (decide (xs.length = n) && ((xs.all fun x => within x 0 rate) && fitsB (canAt l d ho ro) (mustAt l d ho) n (xs.map intOf))) := rfl
    by_cases c1 : xs.length = n
    case neg =>
      rw [show (!(((xs.length : Nat) : Int) == ((n : Nat) : Int))) = true by rw [show (((xs.length : Nat) : Int) == ((n : Nat) : Int)) = false from beq_eq_false_iff_ne.mpr (by omega)]; rfl]
      refine iteT (q_bl (k _ s1z) ?_)
      rw [e0, decide_eq_false c1]
      rfl
    rw [show (!(((xs.length : Nat) : Int) == ((n : Nat) : Int))) = false by rw [show (((xs.length : Nat) : Int) == ((n : Nat) : Int)) = true from beq_iff_eq.mpr (by omega)]; rfl]
    rw [decide_eq_true c1, Bool.true_and] at e0
    rw [e0] at k
    refine iteF ?_
    refine ⟨_, rfl, a, xs, rfl, ha.imp SqL.of SqT.of, fun J G wk hG => fun D hD => ?_⟩
    refine lcP wk xs (fun _ => true) (fun x => V.bl (within x 0 rate)) rfl hD hG (Nat.le_trans hl (by decide)) yAt_same ?_ ?_
    · rintro i y m H3 H2 N R hm s2 ⟨rfl, hx⟩ hy hn'
      rw [hm] at hx
      cases hx
      refine ⟨rfl, ?_⟩
      dsimp only [tYes]
      rw [if_pos rfl]
      obtain ⟨b', hb'⟩ := Fl.pl (K := K) (H := H2) (hp _ (List.mem_of_getElem? hm))
      exact ⟨_, rfl, _, rfl, _, b', 0, rate, rfl, hb', hy rfl _ fun _ _ e => e⟩
    · intro H2 s2 e2
      rw [filter_yes, all_map_bl] at e2
      refine ⟨D, _, rfl, SqL.of e2, ?_⟩
      rw [all_id]
      cases hc : xs.all fun x => within x 0 rate with
      | false =>
        rw [hc, Bool.false_and] at k
        exact ⟨_, rfl, iteT (k H2 (s1z.trans s2))⟩
      | true =>
        rw [hc, Bool.true_and] at k
        refine ⟨_, rfl, iteF ?_⟩
        have exs := all_ints hc
        clear hc hp
        generalize xs.map intOf = ns at exs k
        subst exs
        rw [List.length_map] at c1
        rw [← hfs ns c1] at k
        have ha2 := ha.imp (s2 _ _) (s2 _ _)
        have z2 := z1.keep (tz.trans s2)
        refine ⟨_, rfl, _, _, rfl, rfl, _, rfl, by omega, by omega, ?_⟩
        rw [show ((n : Int) + 1).toNat = n + 1 by omega]
        intro D2 hD2
        refine lcP (walk_rangeN (n := n + 1)) (List.range (n + 1)) (fun _ => true) (fun t => V.int (pre ns t)) (by rw [List.length_range]) hD2 (fun _ _ => trivial) (by rw [List.length_range]; omega) yFn_same ?_ ?_
        · rintro i y m H4 H3 N R hm s3 ⟨rfl, rfl⟩ hy hn'
          obtain ⟨rfl, hml⟩ := range_at hm
          refine ⟨rfl, ?_⟩
          dsimp only [tYes]
          rw [if_pos rfl]
          refine ⟨_, rfl, _, rfl, _, rfl, ?_⟩
          refine take_any (K := K) _ (ha2.imp (s3 _ _) (s3 _ _)) fun c H5 s5 e5 => ?_
          rw [← List.map_take] at e5
          exact ⟨c, ns.take _, rfl, e5.imp SqL.of SqT.of, hy rfl _ s5⟩
        · intro H3 s3 e3
          rw [filter_yes] at e3
          have e3 : H3 D2 = some (.lst ((IL (pre ns) (n + 1)).map V.int)) := by
            rw [e3]
            unfold IL
            rw [List.map_map]
            rfl
          have el : (IL (pre ns) (n + 1)).map V.int = (IL (pre ns) n).map V.int ++ [.int (pre ns n)] := by
            rw [IL_succ, List.map_append]
            rfl
          obtain ⟨ax, rfl, ex⟩ := z2.keep s3
          have zx : Zv H3 (.ref ax) l := ⟨ax, rfl, ex⟩
          refine ⟨_, rfl, _, rfl, .inl ⟨D2, _, _, .int (pre ns n), rfl, rfl, SqL.of e3, by rw [el]; exact atI_last _ _, ?_⟩⟩
          refine ⟨_, rfl, ax, l, rfl, ex.imp SqL.of SqT.of, rfl, _, rfl, ?_⟩
          have s13 := s1z.trans (s2.trans s3)
          rw [show decide (V.int (pre ns n) = V.int l.sum) = decide (pre ns n = l.sum) from decide_eq_decide.mpr ⟨fun z => V.int.inj z, fun z => by rw [z]⟩]
          cases cs : decide (pre ns n = l.sum) with
          | false =>
            rw [cs, Bool.false_and] at k
            exact iteF (k H3 s13)
          | true =>
            rw [cs, Bool.true_and] at k
            refine iteT ?_
            refine ⟨_, rfl, _, rfl, _, rfl, _, rfl, .ref ax, l, d, n, ho, rfl, zx, by omega, fun H4 p4 s4 hp4 e4 => ?_⟩
            refine ⟨_, rfl, _, rfl, _, rfl, _, rfl, _, rfl, _, rfl, .ref ax, l, d, n, ho, ro, rfl, zx.keep s4, by omega, fun H5 p5 s5 hp5 e5 => ?_⟩
            have f3 := s5 _ _ (s4 _ _ e3)
            have f4 := s5 _ _ e4
            refine ⟨p4, D2, p5, _, _, _, rfl, SqL.of f4, SqL.of f3, SqL.of e5, fun D3 hD3 => ?_⟩
            refine lcP (KZ3.walk_zip3 (K := K) (a := p4) (b := D2) (c := p5) (xs := (IL (mustAt l d ho) (n + 1)).map V.int) (ys := (IL (pre ns) (n + 1)).map V.int) (zs := (IL (canAt l d ho ro) (n + 1)).map V.int) (by rw [List.length_map, List.length_map, IL_len, IL_len]; exact Nat.le_refl _) (by rw [List.length_map, List.length_map, IL_len, IL_len]; exact Nat.le_refl _)) (List.range (n + 1)) (fun _ => true) (fun t => V.bl (decide (mustAt l d ho t ≤ pre ns t) && decide (pre ns t ≤ canAt l d ho ro t))) (by rw [List.length_map, IL_len, List.length_range]) hD3 (fun H' s' => ⟨SqL.of (s' _ _ f4), SqL.of (s' _ _ f3), SqL.of (s' _ _ e5)⟩) (by rw [List.length_range]; omega) yTrip_same ?_ ?_
            · rintro i y m H7 H6 N R hm s6 ⟨T', x1, y1, u1, rfl, hT, rfl, h1, h2, h3⟩ hy hn'
              obtain ⟨rfl, hml⟩ := range_at hm
              obtain ⟨rfl, _⟩ := IL_get h1
              obtain ⟨rfl, _⟩ := IL_get h2
              obtain ⟨rfl, _⟩ := IL_get h3
              refine ⟨T', _, rfl, SqT.of upd_same, rfl, _, _, rfl, _, _, rfl, _, _, rfl, rfl, rfl, ?_⟩
              dsimp only [tYes]
              rw [if_pos rfl]
              refine ⟨_, rfl, _, rfl, _, _, rfl, rfl, _, rfl, ?_⟩
              have hy := hy rfl _ fun _ _ e => e
              cases c2 : decide (mustAt l d ho m ≤ pre ns m) with
              | false =>
                rw [c2] at hy
                exact iteF hy
              | true =>
                rw [c2] at hy
                exact iteT ⟨_, rfl, _, _, rfl, rfl, hy⟩
            · intro H6 s6 e6
              rw [filter_yes, all_map_bl] at e6
              refine ⟨D3, _, rfl, SqL.of e6, ?_⟩
              rw [all_id]
              exact k H6 (s13.trans (s4.trans (s5.trans s6)))
end
end K39
namespace K39
open PySem PySem.Spec PyProof.Rows L2 PySem.W LamX KA KW KU KL KT
open Evl (pss_cut tCut)
/-! ### the law's sizes, its line -/
theorem Kp.free {st lg cl q : Addr} {n : Nat} {H H' : Hp} (k : Kp st lg H H') (S : StAt H' st lg cl n) (h : H' q = none) : H q = none := by
  cases e : H q with
  | none => rfl
  | some o =>
    obtain ⟨n1, n2⟩ := S.off h
    have := k _ _ e n1 n2
    rw [h] at this
    cases this
def spLsizes : Sp := fun vs H Q _ => ∃ (st lg cl : Addr) (n m : Nat), vs = [.ref st, .int (n : Int)] ∧ 0 < n ∧ n ≤ 12 ∧ m ≤ 900000 ∧ StAt H st lg cl m ∧
  ∀ (a : Addr) (l : List Int) (H' : Hp), H a = none → H' a = some (.lst (l.map V.int)) → Ls l → StAt H' st lg cl (m + 40) → Kp st lg H H' → Q (.ref a) H'
/-- what a pick of these may be -/
theorem wide_at {x : V} (h : x ∈ [V.int 2, .int 4, .int 9, .int 9, .int 100, .int 10000]) : ∃ n : Nat, x = .int (n : Int) ∧ 0 < n ∧ n ≤ 10000 := by
  simp only [List.mem_cons, List.not_mem_nil, or_false] at h
  rcases h with h | h | h | h | h | h <;> subst h
  · exact ⟨2, rfl, by decide, by decide⟩
  · exact ⟨4, rfl, by decide, by decide⟩
  · exact ⟨9, rfl, by decide, by decide⟩
  · exact ⟨9, rfl, by decide, by decide⟩
  · exact ⟨100, rfl, by decide, by decide⟩
  · exact ⟨10000, rfl, by decide, by decide⟩
def PI (p : Int × Int) : List V := [.int p.1, .int p.2]
def lineL (can must : Nat → Int) (n : Nat) : List (Int × Int) := (List.range (n + 1)).map fun t => (must t, can t)
theorem line_len (can must : Nat → Int) (n : Nat) : (lineL can must n).length = n + 1 := by
  unfold lineL
  rw [List.length_map, List.length_range]
theorem line_at {can must : Nat → Int} {n t : Nat} (h : t ≤ n) : (lineL can must n)[t]? = some (must t, can t) := by
  unfold lineL
  rw [List.getElem?_map, List.getElem?_range (by omega)]
  rfl
def spLline (K : PySem.W.Frag) : Sp := fun vs H Q _ => ∃ (a : Addr) (l : List Int) (d : Nat) (ho ro : Option Int), vs = [.ref a, .int (d : Int), hv ho, hv ro] ∧ H a = some (.lst (l.map V.int)) ∧ 1 ≤ l.length ∧ l.length ≤ 12 ∧ d ≤ 40 ∧
  ∀ q ws H', Same H H' → H q = none → H' q = some (.lst ws) → RL PI H' ws (lineL (canAt l d ho ro) (mustAt l d ho) (lastT l.length d ho)) → Q (.ref q) H'
section
variable {P : Program} {w : World} {K : PySem.W.Frag} {mg : Str → Option Value} {base : Heap} (T : Top K mg)
theorem ok_lsizes : FnOk P w K mg base (L2.CX P w) 3 T._law_sizes.a T._law_sizes.d ["_law_state", "_law_most"] spLsizes := by
  refine T._law_sizes.f.okX sc__law_sizes (fun vs H Q E h => ?_) (fun cdv A outer s H vs Q E hr h => ?_)
  · obtain ⟨st, lg, cl, n, m, rfl, _⟩ := h
    rfl
  · obtain ⟨st, lg, cl, n, m, rfl, hn0, hn, hm, S, k⟩ := h
    refine ⟨_, (pss_cons (ps_set (i := 2) sc__law_sizes.nd rfl (by first | exact .inl rfl | exact .inr rfl) (pe_call (ok_pick T) (hr.mono (by decide)) (by rfl) T._law_pick.m T._law_pick.f.kp (bd__law_pick T) .nil passE (pa_cons (pv 0) (pa_cons (pe_lst (pa_cons pe_int (pa_cons pe_int (pa_cons pe_int (pa_cons pe_int (pa_cons pe_int (pa_cons pe_int pa_nil))))))) pa_nil))))
      (pss_cons (ps_set (i := 3) sc__law_sizes.nd rfl (by first | exact .inl rfl | exact .inr rfl) (pe_lst pa_nil))
      (pss_cons (ps_for (passes_of rfl) rfl (pi_range1 (by rfl) T.b_range (pa_cons (pe_op op_add pe_int (pe_call (ok_draw T) (hr.mono (by decide)) (by rfl) T._law_draw.m T._law_draw.f.kp (bd__law_draw T) .nil passE (pa_cons (pv 0) (pa_cons (pv 1) pa_nil)))) pa_nil)) (pg_name (i := 4) sc__law_sizes.nd rfl (by first | exact .inl rfl | exact .inr rfl))
        (pss_one (ps_expr (pe_bm PySem.F.plainAttrs_list PySem.F.slot_list_append PySem.F.type_list_append mt_append (pv 3) (pa_cons (pe_call (ok_pick T) (hr.mono (by decide)) (by rfl) T._law_pick.m T._law_pick.f.kp (bd__law_pick T) .nil passE (pa_cons (pv 0) (pa_cons (pe_lst (pa_cons pe_int (pa_cons (pe_call (ok_draw T) (hr.mono (by decide)) (by rfl) T._law_draw.m T._law_draw.f.kp (bd__law_draw T) .nil passE (pa_cons (pv 0) (pa_cons (pv 2) pa_nil))) (pa_cons (pe_call (ok_draw T) (hr.mono (by decide)) (by rfl) T._law_draw.m T._law_draw.f.kp (bd__law_draw T) .nil passE (pa_cons (pv 0) (pa_cons (pv 2) pa_nil))) pa_nil)))) pa_nil))) pa_nil)))))
      (pss_one (ps_ret (pv 3)))))), ?_⟩
    refine ⟨_, rfl, (by show 6 ≤ sizeLine; decide), fun q hq => ?_⟩
    have tq := Same.new (o := .lst [V.int 2, .int 4, .int 9, .int 9, .int 100, .int 10000]) hq
    refine ⟨st, lg, cl, q, _, m, rfl, upd_same, (S.off hq).2, (by show 0 < 6; decide), (by show 6 ≤ 1000; decide), by omega, S.same tq, fun x H1 hx S1 kp1 => ?_⟩
    obtain ⟨wn, rfl, w0, w1⟩ := wide_at hx
    refine ⟨(by show 0 ≤ sizeLine; decide), fun f hf => ?_⟩
    have tf := Same.new (o := .lst []) hf
    have kH := (Kp.same tq).trans kp1
    have hfH := Kp.free kH S1 hf
    refine ⟨_, rfl, _, rfl, st, lg, cl, n, m + 1, rfl, hn0, Nat.lt_of_le_of_lt hn (by decide), by omega, S1.same tf, fun r H2 hr2 S2 kp2 => ?_⟩
    refine ⟨_, _, rfl, rfl, _, rfl, by omega, by omega, ?_⟩
    rw [show ((1 : Int) + (r : Int)).toNat = r + 1 by omega]
    have k02 := kH.trans ((Kp.same tf).trans kp2)
    have nf := (S1.off hf)
    refine for_it (walk_rangeN (n := r + 1)) (fun i σ H' => ∃ (l : List Int) (v4 : Option V), σ = [some (.ref st), some (.int (n : Int)), some (.int (wn : Int)), some (.ref f), v4] ∧ H' f = some (.lst (l.map V.int)) ∧ l.length = i ∧ (∀ y ∈ l, 0 ≤ y ∧ y ≤ 9999) ∧ StAt H' st lg cl (m + 2 + 3 * i) ∧ Kp st lg H H') ⟨[], none, rfl, kp2 _ _ upd_same nf.1 nf.2, rfl, (fun y hy => nomatch hy), S2, k02⟩ (fun _ _ _ _ _ => trivial) ?_ ?_
    · rintro i y σ H3' H3 hi ⟨l, v4, rfl, ef, hl, hb, S3, k3⟩ ⟨rfl, rfl⟩
      refine ⟨_, rfl, .inl ⟨rfl, _, SqL.of ef⟩, ?_⟩
      refine ⟨_, rfl, _, rfl, _, rfl, st, lg, cl, wn, m + 2 + 3 * i, rfl, w0, Nat.lt_of_le_of_lt w1 (by decide), by omega, S3, fun r1 H4 h1 S4 k4 => ?_⟩
      refine ⟨_, rfl, _, rfl, st, lg, cl, wn, m + 2 + 3 * i + 1, rfl, w0, Nat.lt_of_le_of_lt w1 (by decide), by omega, S4, fun r2 H5 h2 S5 k5 => ?_⟩
      refine ⟨(by show 3 ≤ sizeLine; decide), fun q2 hq2 => ?_⟩
      have t2 := Same.new (o := .lst [V.int 0, .int (r1 : Int), .int (r2 : Int)]) hq2
      refine ⟨st, lg, cl, q2, _, m + 2 + 3 * i + 1 + 1, rfl, upd_same, (S5.off hq2).2, (by show 0 < 3; decide), (by show 3 ≤ 1000; decide), by omega, S5.same t2, fun x H6 hx S6 k6 => ?_⟩
      have k36 := k4.trans (k5.trans ((Kp.same t2).trans k6))
      have ef6 := k36 _ _ ef nf.1 nf.2
      obtain ⟨z, rfl, z0, z1⟩ : ∃ z : Int, x = .int z ∧ 0 ≤ z ∧ z ≤ 9999 := by
        simp only [List.mem_cons, List.not_mem_nil, or_false] at hx
        rcases hx with h | h | h <;> subst h
        · exact ⟨0, rfl, by decide, by decide⟩
        · exact ⟨_, rfl, by omega, by omega⟩
        · exact ⟨_, rfl, by omega, by omega⟩
      have Sf := stAt_put (ys := (l ++ [z]).map V.int) S6 nf.1 nf.2 (offc S1 hf)
      have e9 : l.map V.int ++ [V.int z] = (l ++ [z]).map V.int := by rw [List.map_append]; rfl
      refine ⟨_, _, _, rfl, rfl, ef6, by rw [List.length_map]; exact Nat.lt_of_le_of_lt (show l.length ≤ 1000 by omega) (by decide), l ++ [z], _, rfl, ?_, by rw [List.length_append, hl]; rfl, ?_, ?_, ?_⟩
      · rw [upd_same, e9]
      · intro y hy
        rcases List.mem_append.mp hy with hy | hy
        · exact hb y hy
        · rw [List.mem_singleton.mp hy]
          exact ⟨z0, z1⟩
      · rw [e9]
        exact Sf.mono (by omega)
      · exact Kp.put3 (k3.trans k36) hfH
    · rintro σ H3 ⟨l, v4, rfl, ef, hl, hb, S3, k3⟩
      exact ⟨_, rfl, k f l H3 hfH ef ⟨by omega, by omega, fun y hy => (hb y hy).1, fun y hy => (hb y hy).2⟩ (S3.mono (by omega)) k3⟩
end
end K39
namespace K39
open PySem PySem.Spec PyProof.Rows L2 PySem.W LamX KA KW KU KL KT
open Evl (pss_cut tCut)
/-! ### the law's line -/
theorem sum_cond {H : Hp} {D : Addr} {l : List Int} {k : Nat} (e : H D = some (.lst (((List.range l.length).filter fun s => decide (s < k)).map fun s => V.int (l.getD s 0)))) : ∃ ns : List Int, ns.sum = pre l k ∧ H D = some (.lst (ns.map V.int)) :=
  ⟨((List.range l.length).filter fun s => decide (s < k)).map fun s => l.getD s 0, sum_ahead l k, by rw [e, List.map_map]; rfl⟩
theorem getD_V {l : List Int} {i : Nat} {x : V} (h : (l.map V.int)[i]? = some x) : x = .int (l.getD i 0) ∧ i < l.length := by
  rw [List.getElem?_map] at h
  by_cases c : i < l.length
  · rw [List.getElem?_eq_getElem c] at h
    rw [List.getD_eq_getElem?_getD, List.getElem?_eq_getElem c]
    exact ⟨(Option.some.inj h).symm, c⟩
  · rw [List.getElem?_eq_none (show l.length ≤ i by omega)] at h
    cases h
theorem can_pos {l : List Int} {d t : Nat} {ho ro : Option Int} (h : 0 < t) : canAt l d ho ro t = roomI (comeI l ho t) (pre l (t - d)) ro := by
  obtain ⟨t', rfl⟩ : ∃ t', t = t' + 1 := ⟨t - 1, by omega⟩
  rfl
/-- the law's comprehension over the sizes whose place is ahead of k -/
theorem lc_ahead {K : PySem.W.Frag} {a : Addr} {l : List Int} {J : It} {G : Hp → Prop} (wk : Walk J (l.map V.int).length G (YPair (fun i => some (.int (i : Nat))) (fun i => (l.map V.int)[i]?))) {tt : TT} {σ : L2.St} {H1 : Hp} {D : Addr} {Qd : Hp → Prop} (k : Nat)
    (h12 : l.length ≤ 12) (hD : H1 D = none) (hG : ∀ H', Same H1 H' → G H') {u v : Nat} {g : TG} {te : TE}
    (hs : ∀ (i : Nat) (T : Addr) (H H' : Hp) (R : V → Hp → Prop) (N : Hp → Prop), i < l.length → H' T = some (.tup [.int (i : Int), .int (l.getD i 0)]) → (decide (i < k) = true → R (.int (l.getD i 0)) H') → (decide (i < k) = false → N H') → g (.ref T) (wipe σ [u, v]) H' fun σ2 H2 => wipe σ2 [u, v] = wipe σ [u, v] ∧ tt σ2 H2 fun b H3 => if b = true then te σ2 H3 R else N H3)
    (hd : ∀ H', Same H1 H' → H' D = some (.lst (((List.range l.length).filter fun s => decide (s < k)).map fun s => V.int (l.getD s 0))) → Qd H') :
    ∃ W : Nat → Nat → Hp → Prop, (∃ m, W 0 m (upd H1 D (.lst []))) ∧ ∀ i m H, W i m H →
      (J.stop i H ∧ Qd H) ∨ (J.go i H ∧ ∃ Nx : Hp → Prop, (∀ H', Nx H' → ∃ m', m' < m ∧ W (i + 1) m' H') ∧ ∀ x H', J.yld i H x H' → g x (wipe σ [u, v]) H' fun σ2 H2 => wipe σ2 [u, v] = wipe σ [u, v] ∧ tt σ2 H2 fun b H3 =>
        if b = true then te σ2 H3 fun y H4 => ∃ acc, H4 D = some (.lst acc) ∧ acc.length < sizeLine ∧ Nx (upd H4 D (.lst (acc ++ [y]))) else Nx H3) := by
  refine lcP wk (List.range l.length) (fun s => decide (s < k)) (fun s => V.int (l.getD s 0)) (by rw [List.length_map, List.length_range]) hD hG (by rw [List.length_range]; omega) yPair_same ?_ hd
  rintro i x m H2 H3 N R hm s1 ⟨T', x1, y1, rfl, hT, rfl, h1, h2⟩ hy hn
  obtain ⟨rfl, hi⟩ := range_at hm
  cases h1
  obtain ⟨rfl, _⟩ := getD_V h2
  exact hs _ T' H2 _ R N hi upd_same (fun c => hy c _ fun _ _ e => e) fun c => hn c _ fun _ _ e => e
section
variable {P : Program} {w : World} {K : PySem.W.Frag} {mg : Str → Option Value} {base : Heap} (T : Top K mg)
theorem ok_lline : FnOk P w K mg base (L2.CX P w) 1 T._law_line.a T._law_line.d ["_law_lots", "_law_wait_here", "_law_stock", "_law_space"] (spLline K) := by
  refine T._law_line.f.okX sc__law_line (fun vs H Q E h => ?_) (fun cdv A outer s H vs Q E hr h => ?_)
  · obtain ⟨a, l, d, ho, ro, rfl, _⟩ := h
    rfl
  · obtain ⟨a, l, d, ho, ro, rfl, ha, h1, h12, h40, k⟩ := h
    refine ⟨_, (pss_cons (ps_set (i := 4) sc__law_line.nd rfl (by first | exact .inl rfl | exact .inr rfl) (pe_op op_sub (pe_op op_add (pv 1) (pe_callB call_len_seq (by rfl) T.b_len PySem.boot_len (pa_cons (pv 0) pa_nil))) pe_int))
      (pss_cut (ps_set (i := 4) sc__law_line.nd rfl (by first | exact .inl rfl | exact .inr rfl) (pe_ifExp (pt_cmpR (show OpR _ _ KIN.rIsN from op_isN) (pv 2) pe_non (nomark _)) (pv 4) (pe_callB (call_max2 rfl) (by rfl) T.b_max PyProof.Rows.boot_max (pa_cons (pv 4) (pa_cons (pe_callB call_len_seq (by rfl) T.b_len PySem.boot_len (pa_cons (pv 0) pa_nil)) pa_nil)))))
      (pss_cons (ps_set (i := 5) sc__law_line.nd rfl (by first | exact .inl rfl | exact .inr rfl) (pe_lst pa_nil))
      (pss_cons (ps_for (passes_of rfl) rfl (pi_range1 (by rfl) T.b_range (pa_cons (pe_op op_add (pv 4) pe_int) pa_nil)) (pg_name (i := 6) sc__law_line.nd rfl (by first | exact .inl rfl | exact .inr rfl))
        (pss_cons (ps_set (i := 7) sc__law_line.nd rfl (by first | exact .inl rfl | exact .inr rfl) (pe_callB (show CallR _ _ (KSS.rSumE K) from KSS.cr_sumE rfl) (by rfl) T.b_sum (by decide +kernel) (pa_cons (pe_lc (own := [("_law_spot", 12), ("_law_lot", 13)]) (g := (gTup K 2 (gCons (gName 12) (gCons (gName 13) gNil)))) rfl sc__law_line.nd (KEN.pi_enumS (by rfl) T.b_enumerate (pa_cons (pv 0) pa_nil)) (blkOk_by (own := [("_law_spot", 12), ("_law_lot", 13)]) (N := ["_law_lots", "_law_wait_here", "_law_stock", "_law_space", "_law_last", "_law_found", "_law_tick", "_law_taken", "_law_ahead", "_law_come", "_law_must", "_law_can", "_law_spot", "_law_lot"]) (sc := defScope s__law_line) (by decide +kernel)) (fun _ _ _ _ _ => pg_tup rfl (pgs_cons (pg_name (i := 12) sc__law_line.nd rfl (by first | exact .inl rfl | exact .inr rfl)) (pgs_cons (pg_name (i := 13) sc__law_line.nd rfl (by first | exact .inl rfl | exact .inr rfl)) pgs_nil))) (fun _ _ _ _ _ => pts_one (pt_cmpR op_le (pe_op op_add (pv 1) (pv 12)) (pv 6) (nomark _))) (fun _ _ _ _ _ => (pv 13))) pa_nil)))
      (pss_cons (ps_set (i := 8) sc__law_line.nd rfl (by first | exact .inl rfl | exact .inr rfl) (pe_callB (show CallR _ _ (KSS.rSumE K) from KSS.cr_sumE rfl) (by rfl) T.b_sum (by decide +kernel) (pa_cons (pe_lc (own := [("_law_spot", 12), ("_law_lot", 13)]) (g := (gTup K 2 (gCons (gName 12) (gCons (gName 13) gNil)))) rfl sc__law_line.nd (KEN.pi_enumS (by rfl) T.b_enumerate (pa_cons (pv 0) pa_nil)) (blkOk_by (own := [("_law_spot", 12), ("_law_lot", 13)]) (N := ["_law_lots", "_law_wait_here", "_law_stock", "_law_space", "_law_last", "_law_found", "_law_tick", "_law_taken", "_law_ahead", "_law_come", "_law_must", "_law_can", "_law_spot", "_law_lot"]) (sc := defScope s__law_line) (by decide +kernel)) (fun _ _ _ _ _ => pg_tup rfl (pgs_cons (pg_name (i := 12) sc__law_line.nd rfl (by first | exact .inl rfl | exact .inr rfl)) (pgs_cons (pg_name (i := 13) sc__law_line.nd rfl (by first | exact .inl rfl | exact .inr rfl)) pgs_nil))) (fun _ _ _ _ _ => pts_one (pt_cmpR op_lt (pe_op op_add (pv 1) (pv 12)) (pv 6) (nomark _))) (fun _ _ _ _ _ => (pv 13))) pa_nil)))
      (pss_cons (ps_set (i := 9) sc__law_line.nd rfl (by first | exact .inl rfl | exact .inr rfl) (pe_callB (show CallR _ _ (KSS.rSumE K) from KSS.cr_sumE rfl) (by rfl) T.b_sum (by decide +kernel) (pa_cons (pe_lc (own := [("_law_spot", 12), ("_law_lot", 13)]) (g := (gTup K 2 (gCons (gName 12) (gCons (gName 13) gNil)))) rfl sc__law_line.nd (KEN.pi_enumS (by rfl) T.b_enumerate (pa_cons (pv 0) pa_nil)) (blkOk_by (own := [("_law_spot", 12), ("_law_lot", 13)]) (N := ["_law_lots", "_law_wait_here", "_law_stock", "_law_space", "_law_last", "_law_found", "_law_tick", "_law_taken", "_law_ahead", "_law_come", "_law_must", "_law_can", "_law_spot", "_law_lot"]) (sc := defScope s__law_line) (by decide +kernel)) (fun _ _ _ _ _ => pg_tup rfl (pgs_cons (pg_name (i := 12) sc__law_line.nd rfl (by first | exact .inl rfl | exact .inr rfl)) (pgs_cons (pg_name (i := 13) sc__law_line.nd rfl (by first | exact .inl rfl | exact .inr rfl)) pgs_nil))) (fun _ _ _ _ _ => pts_one (pt_cmpR op_le (pe_op op_add (pv 12) pe_int) (pv 6) (nomark _))) (fun _ _ _ _ _ => (pv 13))) pa_nil)))
      (pss_cons (ps_par (i := 10) (j := 11) rfl sc__law_line.nd rfl rfl (by decide) rfl rfl (pa_cons (pv 7) (pa_cons (pe_callB (show CallR _ _ (KSS.rSumE K) from KSS.cr_sumE rfl) (by rfl) T.b_sum (by decide +kernel) (pa_cons (pv 0) pa_nil)) pa_nil)) (by rfl))
      (pss_cut (ps_if (pt_cmpR (show OpR _ _ KIN.rIsntN from KIN.op_isntN) (pv 2) pe_non (nomark _)) (pss_one (ps_par (i := 10) (j := 11) rfl sc__law_line.nd rfl rfl (by decide) rfl rfl (pa_cons (pe_callB (call_max2 rfl) (by rfl) T.b_max PyProof.Rows.boot_max (pa_cons (pv 7) (pa_cons (pe_op op_sub (pv 9) (pv 2)) pa_nil))) (pa_cons (pv 9) pa_nil)) (by rfl))) pss_nil)
      (pss_cut (ps_if (pt_cmpR (show OpR _ _ KIN.rIsntN from KIN.op_isntN) (pv 3) pe_non (nomark _)) (pss_one (ps_set (i := 11) sc__law_line.nd rfl (by first | exact .inl rfl | exact .inr rfl) (pe_callB (call_min2 rfl) (by rfl) T.b_min PyProof.Rows.boot_min (pa_cons (pv 11) (pa_cons (pe_op op_add (pv 8) (pv 3)) pa_nil))))) pss_nil)
      (pss_one (ps_expr (pe_bm PySem.F.plainAttrs_list PySem.F.slot_list_append PySem.F.type_list_append mt_append (pv 5) (pa_cons (pe_tup (pa_cons (pv 10) (pa_cons (pe_ifExp (pt_cmpR op_gt (pv 6) pe_int (nomark _)) (pv 11) pe_int) pa_nil))) pa_nil)))))))))))
      (pss_one (ps_ret (pv 5))))))), ?_⟩
    refine ⟨_, rfl, _, rfl, a, _, rfl, .inl (SqL.of ha), _, _, rfl, rfl, _, _, rfl, rfl, ?_⟩
    rw [List.length_map]
    refine ⟨fun σ' H1 => H1 = H ∧ σ' = [some (.ref a), some (.int (d : Int)), some (hv ho), some (hv ro), some (.int ((lastT l.length d ho : Nat) : Int)), none, none, none, none, none, none, none, none, none], ?_, ?_⟩
    · refine ⟨_, rfl, rfl, _, rfl, ?_⟩
      rw [hv_non]
      have e1 : ((d : Int) + (l.length : Int) - 1) = ((d + l.length - 1 : Nat) : Int) := by omega
      cases ho with
      | none =>
        refine iteT ⟨_, rfl, rfl, ?_⟩
        show [_, _, _, _, some (V.int ((d : Int) + (l.length : Int) - 1)), none, none, none, none, none, none, none, none, none] = _
        rw [e1]
        rfl
      | some i =>
        refine iteF ⟨_, rfl, _, rfl, a, _, rfl, .inl (SqL.of ha), _, _, rfl, rfl, ?_⟩
        show [_, _, _, _, some (V.int (if (((l.map V.int).length : Nat) : Int) > (d : Int) + (l.length : Int) - 1 then (((l.map V.int).length : Nat) : Int) else (d : Int) + (l.length : Int) - 1)), none, none, none, none, none, none, none, none, none] = _
        rw [List.length_map, show (if (l.length : Int) > (d : Int) + (l.length : Int) - 1 then (l.length : Int) else (d : Int) + (l.length : Int) - 1) = ((lastT l.length d (some i) : Nat) : Int) by
          show _ = ((max (d + l.length - 1) l.length : Nat) : Int)
          split <;> omega]
    · rintro σ0 H0 ⟨rfl, rfl⟩
      have hn := last_le l.length d ho h12 h40
      generalize lastT l.length d ho = n at hn k
      refine ⟨(by show 0 ≤ sizeLine; decide), fun f hf => ?_⟩
      have tf := Same.new (o := .lst []) hf
      refine ⟨_, rfl, _, _, rfl, rfl, _, rfl, by omega, by omega, ?_⟩
      rw [show ((n : Int) + 1).toNat = n + 1 by omega]
      refine for_it (walk_rangeN (n := n + 1)) (fun i σ H' => (∃ v6 v7 v8 v9 v10 v11, σ = [some (.ref a), some (.int (d : Int)), some (hv ho), some (hv ro), some (.int (n : Int)), some (.ref f), v6, v7, v8, v9, v10, v11, none, none]) ∧ NI PI H0 f ((List.range i).map fun t => (mustAt l d ho t, canAt l d ho ro t)) H') ⟨⟨none, none, none, none, none, none, rfl⟩, .new hf⟩ (fun _ _ _ _ _ => trivial) ?_ ?_
      · rintro t x σ H2' H2 ht ⟨⟨v6, v7, v8, v9, v10, v11, rfl⟩, ni⟩ ⟨rfl, rfl⟩
        have s2 := ni.s
        have ha2 := s2 _ _ ha
        refine ⟨_, rfl, a, _, rfl, .inl (SqL.of ha2), fun J G wk hG => fun D0 hD0 => ?_⟩
        refine lc_ahead (K := K) (a := a) (l := l) wk (t + 1 - d) h12 hD0 hG ?_ ?_
        · intro i T' H8 H9 R N hi eT hy hn'
          refine ⟨T', _, rfl, SqT.of eT, rfl, _, _, rfl, _, _, rfl, rfl, rfl, ?_⟩
          refine ⟨_, rfl, _, rfl, _, _, rfl, rfl, _, rfl, _, _, rfl, rfl, _, rfl, ?_⟩
          rw [show decide ((d : Int) + (i : Int) ≤ (t : Int)) = decide (i < (t + 1 - d)) from decide_eq_decide.mpr (by omega)]
          cases c : decide (i < (t + 1 - d)) with
          | true => exact iteT ⟨_, rfl, hy c⟩
          | false => exact iteF (hn' c)
        intro H3 s3 e3
        obtain ⟨ns0, en0, e3⟩ := sum_cond e3
        refine ⟨D0, ns0, rfl, .inl (SqL.of e3), ?_⟩
        rw [en0]
        have ha3 := s3 _ _ ha2
        refine ⟨_, rfl, a, _, rfl, .inl (SqL.of ha3), fun J G wk hG => fun D1 hD1 => ?_⟩
        refine lc_ahead (K := K) (a := a) (l := l) wk (t - d) h12 hD1 hG ?_ ?_
        · intro i T' H8 H9 R N hi eT hy hn'
          refine ⟨T', _, rfl, SqT.of eT, rfl, _, _, rfl, _, _, rfl, rfl, rfl, ?_⟩
          refine ⟨_, rfl, _, rfl, _, _, rfl, rfl, _, rfl, _, _, rfl, rfl, _, rfl, ?_⟩
          rw [show decide ((d : Int) + (i : Int) < (t : Int)) = decide (i < (t - d)) from decide_eq_decide.mpr (by omega)]
          cases c : decide (i < (t - d)) with
          | true => exact iteT ⟨_, rfl, hy c⟩
          | false => exact iteF (hn' c)
        intro H4 s4 e4
        obtain ⟨ns1, en1, e4⟩ := sum_cond e4
        refine ⟨D1, ns1, rfl, .inl (SqL.of e4), ?_⟩
        rw [en1]
        have ha4 := s4 _ _ ha3
        refine ⟨_, rfl, a, _, rfl, .inl (SqL.of ha4), fun J G wk hG => fun D2 hD2 => ?_⟩
        refine lc_ahead (K := K) (a := a) (l := l) wk t h12 hD2 hG ?_ ?_
        · intro i T' H8 H9 R N hi eT hy hn'
          refine ⟨T', _, rfl, SqT.of eT, rfl, _, _, rfl, _, _, rfl, rfl, rfl, ?_⟩
          refine ⟨_, rfl, _, _, rfl, rfl, _, rfl, _, _, rfl, rfl, _, rfl, ?_⟩
          rw [show decide ((i : Int) + 1 ≤ (t : Int)) = decide (i < t) from decide_eq_decide.mpr (by omega)]
          cases c : decide (i < t) with
          | true => exact iteT ⟨_, rfl, hy c⟩
          | false => exact iteF (hn' c)
        intro H5 s5 e5
        obtain ⟨ns2, en2, e5⟩ := sum_cond e5
        refine ⟨D2, ns2, rfl, .inl (SqL.of e5), ?_⟩
        rw [en2]
        have ha5 := s5 _ _ ha4
        have s25 := s3.trans (s4.trans s5)
        have ni5 := ni.same s25
        have hfl : ((List.range t).map fun t => (mustAt l d ho t, canAt l d ho ro t)).length < 100000 := by
          rw [List.length_map, List.length_range]
          omega
        clear s3 s4 s5 e3 e4 e5 s25 hD0 hD1 hD2
        refine ⟨_, rfl, _, rfl, a, l, rfl, .inl (SqL.of ha5), _, _, rfl, ?_⟩
        refine ⟨fun σ' H6 => H6 = H5 ∧ σ' = [some (.ref a), some (.int (d : Int)), some (hv ho), some (hv ro), some (.int (n : Int)), some (.ref f), some (.int (t : Int)), some (.int (pre l (t + 1 - d))), some (.int (pre l (t - d))), some (.int (pre l t)), some (.int (mustAt l d ho t)), some (.int (comeI l ho t)), none, none], ?_, ?_⟩
        · refine ⟨_, rfl, rfl, _, rfl, ?_⟩
          rw [hv_non]
          cases ho with
          | none => exact iteF ⟨rfl, rfl⟩
          | some h =>
            refine iteT ⟨_, rfl, _, rfl, _, rfl, _, _, rfl, rfl, _, _, rfl, _, rfl, _, _, rfl, rfl, ?_⟩
            have e9 : (if pre l t - h > pre l (t + 1 - d) then pre l t - h else pre l (t + 1 - d)) = mustAt l d (some h) t := by
              show _ = max (pre l (t + 1 - d)) (pre l t - h)
              split <;> omega
            show [_, _, _, _, _, _, _, _, _, _, some (V.int (if pre l t - h > pre l (t + 1 - d) then pre l t - h else pre l (t + 1 - d))), _, none, none] = _
            rw [e9]
            rfl
        rintro σ6 H6 ⟨rfl, rfl⟩
        refine ⟨fun σ' H7 => H7 = H6 ∧ σ' = [some (.ref a), some (.int (d : Int)), some (hv ho), some (hv ro), some (.int (n : Int)), some (.ref f), some (.int (t : Int)), some (.int (pre l (t + 1 - d))), some (.int (pre l (t - d))), some (.int (pre l t)), some (.int (mustAt l d ho t)), some (.int (roomI (comeI l ho t) (pre l (t - d)) ro)), none, none], ?_, ?_⟩
        · refine ⟨_, rfl, rfl, _, rfl, ?_⟩
          rw [hv_non]
          cases ro with
          | none => exact iteF ⟨rfl, rfl⟩
          | some r =>
            refine iteT ⟨_, rfl, _, rfl, _, rfl, _, _, rfl, rfl, _, _, rfl, rfl, ?_⟩
            have e9 : (if pre l (t - d) + r < comeI l ho t then pre l (t - d) + r else comeI l ho t) = roomI (comeI l ho t) (pre l (t - d)) (some r) := by
              show _ = min (comeI l ho t) (pre l (t - d) + r)
              split <;> omega
            show [_, _, _, _, _, _, _, _, _, _, _, some (V.int (if pre l (t - d) + r < comeI l ho t then pre l (t - d) + r else comeI l ho t)), none, none] = _
            rw [e9]
        rintro σ7 H7 ⟨rfl, rfl⟩
        obtain ⟨us, ef, rl, sf⟩ := ni5
        refine ⟨_, rfl, .inl ⟨rfl, _, SqL.of ef⟩, ?_⟩
        refine ⟨_, rfl, _, rfl, _, _, rfl, rfl, _, rfl, ?_⟩
        have fin : ∀ c : Int, c = canAt l d ho ro t → ∀ p, H7 p = none → ∃ acc, (upd H7 p (.tup [.int (mustAt l d ho t), .int c])) f = some (.lst acc) ∧ acc.length < sizeLine ∧ NI PI H0 f ((List.range (t + 1)).map fun t => (mustAt l d ho t, canAt l d ho ro t)) (upd (upd H7 p (.tup [.int (mustAt l d ho t), .int c])) f (.lst (acc ++ [.ref p]))) := by
          rintro c rfl p hp
          rw [List.range_succ, List.map_append]
          exact NI.push (NI.same (f := PI) (⟨us, ef, rl, sf⟩ : NI PI H0 f _ H7) (Same.new hp)) hf hfl ⟨p, rfl, upd_same⟩
        by_cases ct : t = 0
        · subst ct
          refine iteF ⟨(by show 2 ≤ sizeLine; decide), fun p hp => ?_⟩
          obtain ⟨acc, q1, q2, q3⟩ := fin 0 rfl p hp
          exact ⟨_, _, _, rfl, rfl, q1, q2, ⟨_, _, _, _, _, _, rfl⟩, q3⟩
        · rw [decide_eq_true (show (0 : Int) < (t : Int) by omega)]
          refine iteT ⟨_, rfl, (by show 2 ≤ sizeLine; decide), fun p hp => ?_⟩
          obtain ⟨acc, q1, q2, q3⟩ := fin (roomI (comeI l ho t) (pre l (t - d)) ro) (can_pos (by omega)).symm p hp
          exact ⟨_, _, _, rfl, rfl, q1, q2, ⟨_, _, _, _, _, _, rfl⟩, q3⟩
      · rintro σ H2 ⟨⟨v6, v7, v8, v9, v10, v11, rfl⟩, us, ef, rl, sf⟩
        exact ⟨_, rfl, k f us H2 sf hf ef rl⟩
end
end K39
namespace K39
open PySem PySem.Spec PyProof.Rows L2 PySem.W LamX KA KW KU KL KT
open Evl (pss_cut tCut)
/-! ### the law's first strait, its greedy sending -/
/-- a line at q -/
structure LnA (H : Hp) (q : Addr) (can must : Nat → Int) (n : Nat) : Prop where
  small : n ≤ 60
  at_ : ∃ ws, H q = some (.lst ws) ∧ RL PI H ws (lineL can must n)
theorem LnA.keep {H H' : Hp} {q : Addr} {can must : Nat → Int} {n : Nat} (L : LnA H q can must n) (s : Same H H') : LnA H' q can must n := by
  obtain ⟨h, ws, e, r⟩ := L
  exact ⟨h, ws, s _ _ e, r.same s⟩
theorem LnA.len {H : Hp} {q : Addr} {can must : Nat → Int} {n : Nat} (L : LnA H q can must n) : ∃ ws, H q = some (.lst ws) ∧ ws.length = n + 1 := by
  obtain ⟨h, ws, e, r⟩ := L
  exact ⟨ws, e, by rw [r.1, line_len]⟩
theorem LnA.pair {H : Hp} {q : Addr} {can must : Nat → Int} {n t : Nat} (L : LnA H q can must n) (h : t ≤ n) {ws : List V} (e : H q = some (.lst ws)) : ∃ p, ws[t]? = some (.ref p) ∧ H p = some (.tup [.int (must t), .int (can t)]) := by
  obtain ⟨_, ws', e', r⟩ := L
  rw [e] at e'
  cases e'
  exact r.at_ (line_at h)
def spLstrait : Sp := fun vs H Q _ => ∃ (q : Addr) (can must : Nat → Int) (n : Nat) (rate : Int), vs = [.ref q, .int rate] ∧ LnA H q can must n ∧ 1 ≤ rate ∧ rate ≤ 9999 ∧ ∀ o, First (gapB rate can must) n o → ∀ v H', Same H H' → AnsP o H v H' → Q v H'
def spLgreedy : Sp := fun vs H Q _ => ∃ (q : Addr) (can must : Nat → Int) (n : Nat) (rate : Int), vs = [.ref q, .int rate] ∧ LnA H q can must n ∧ can 0 = 0 ∧ ∀ v H', Same H H' → AnsL (dueO rate can must n) H v H' → Q v H'
def spLdue (K : PySem.W.Frag) : Sp := fun vs H Q _ => ∃ (q : Addr) (can must : Nat → Int) (n : Nat) (rate : Int) (x : V) (o : Option (List V)), vs = [.ref q, .int rate, x] ∧ LnA H q can must n ∧ Gn K H x o ∧ ∀ H', Same H H' → Q (.bl (sentO rate can must n o)) H'
theorem steps_IL (rate : Int) (can : Nat → Int) (n : Nat) : stepsL rate can n = IL (fun t => comeBy rate can (t + 1) - comeBy rate can t) n := rfl
section
variable {P : Program} {w : World} {K : PySem.W.Frag} {mg : Str → Option Value} {base : Heap} (T : Top K mg)
theorem ok_lfirst_strait : FnOk P w K mg base (L2.CX P w) 1 T._law_first_strait.a T._law_first_strait.d ["_law_line_here", "_law_pace"] spLstrait := by
  refine T._law_first_strait.f.okX sc__law_first_strait (fun vs H Q E h => ?_) (fun cdv A outer s H vs Q E hr h => ?_)
  · obtain ⟨q, can, must, n, rate, rfl, _⟩ := h
    rfl
  · obtain ⟨q, can, must, n, rate, rfl, L, r1, r2, k⟩ := h
    refine ⟨_, (pss_cons (ps_for (passes_of rfl) rfl (pi_range1 (by rfl) T.b_range (pa_cons (pe_callB call_len_seq (by rfl) T.b_len PySem.boot_len (pa_cons (pv 0) pa_nil)) pa_nil)) (pg_name (i := 2) sc__law_first_strait.nd rfl (by first | exact .inl rfl | exact .inr rfl))
        (pss_one (ps_for (passes_of rfl) rfl (pi_range2 (by rfl) T.b_range (pa_cons (pv 2) (pa_cons (pe_callB call_len_seq (by rfl) T.b_len PySem.boot_len (pa_cons (pv 0) pa_nil)) pa_nil))) (pg_name (i := 3) sc__law_first_strait.nd rfl (by first | exact .inl rfl | exact .inr rfl))
        (pss_one (ps_if (pt_cmpR op_gt (pe_op op_sub (pe_ix (show IxR _ (rIx K) from ix_seq) (pe_ix (show IxR _ (rIx K) from ix_seq) (pv 0) (pv 3) (fun _ _ => rfl)) pe_int (fun _ _ => rfl)) (pe_ix (show IxR _ (rIx K) from ix_seq) (pe_ix (show IxR _ (rIx K) from ix_seq) (pv 0) (pv 2) (fun _ _ => rfl)) pe_int (fun _ _ => rfl))) (pe_op op_mul (pv 1) (pe_op op_sub (pv 3) (pv 2))) (nomark _)) (pss_one (ps_ret (pe_tup (pa_cons (pv 2) (pa_cons (pv 3) pa_nil))))) pss_nil)))))
      (pss_one (ps_ret pe_non))), ?_⟩
    have hn := L.small
    obtain ⟨ws, ew, lw⟩ := L.len
    refine ⟨_, rfl, q, ws, rfl, .inl (SqL.of ew), _, rfl, by omega, by omega, ?_⟩
    rw [lw, Int.toNat_natCast]
    refine for_range (n := n + 1) (fun j σ H1 => H1 = H ∧ (∀ s e, s < j → s ≤ e → e ≤ n → gapB rate can must s e = false) ∧ ∃ v2 v3, σ = [some (.ref q), some (.int rate), v2, v3]) ⟨rfl, fun s e h => absurd h (Nat.not_lt_zero _), _, _, rfl⟩ ?_ ?_
    · rintro i σ H1 hi ⟨rfl, hb, v2, v3, rfl⟩
      have hi : i ≤ n := by omega
      rw [Int.zero_add]
      refine ⟨_, rfl, _, rfl, q, ws, rfl, .inl (SqL.of ew), _, _, rfl, ⟨by omega, by omega, by omega, by omega⟩, ?_⟩
      rw [lw, show (((n + 1 : Nat) : Int) - (i : Int)).toNat = n + 1 - i by omega]
      refine for_range (n := n + 1 - i) (fun j σ H2 => H2 = H1 ∧ (∀ e, i ≤ e → e < i + j → gapB rate can must i e = false) ∧ ∃ v3, σ = [some (.ref q), some (.int rate), some (.int (i : Int)), v3]) ⟨rfl, fun e h1 h2 => by omega, _, rfl⟩ ?_ ?_
      · rintro j σ H2 hj ⟨rfl, hc, v3, rfl⟩
        rw [show (i : Int) + (j : Int) = ((i + j : Nat) : Int) by omega]
        obtain ⟨p1, ep1, hp1⟩ := L.pair (show i + j ≤ n by omega) ew
        obtain ⟨p2, ep2, hp2⟩ := L.pair hi ew
        refine ⟨_, rfl, _, rfl, ix_L (K := K) ew ep1 (ix_T (K := K) (i := 0) hp1 rfl ?_)⟩
        refine ⟨_, rfl, _, rfl, ix_L (K := K) ew ep2 (ix_T (K := K) (i := 1) hp2 rfl ?_)⟩
        refine ⟨_, _, rfl, rfl, _, rfl, _, rfl, _, rfl, _, _, rfl, rfl, _, _, rfl, rfl, rate_mul r1 r2 _, _, _, rfl, rfl, _, rfl, ?_⟩
        have eg : decide (rate * (((i + j : Nat) : Int) - (i : Int)) < must (i + j) - can i) = gapB rate can must i (i + j) := rfl
        rw [eg]
        cases c : gapB rate can must i (i + j) with
        | true =>
          refine iteT ⟨_, rfl, _, rfl, (by show 2 ≤ sizeLine; decide), fun t ht => ?_⟩
          refine k (some (i, i + j)) ⟨by show i ≤ i + j; omega, by show i + j ≤ n; omega, c, ?_⟩ _ _ (Same.new ht) ⟨t, rfl, ht, upd_same⟩
          intro s' e' h1 h2 h3
          rcases h3 with h3 | ⟨h3, h4⟩
          · exact hb s' e' h3 h1 h2
          · have h3 : s' = i := h3
            subst h3
            exact hc e' h1 h4
        | false =>
          refine iteF ⟨rfl, fun e h1 h2 => ?_, _, rfl⟩
          by_cases z : e = i + j
          · rw [z]
            exact c
          · exact hc e h1 (by omega)
      · rintro σ H2 ⟨rfl, hc, v3, rfl⟩
        refine ⟨rfl, fun s e h1 h2 h3 => ?_, _, _, rfl⟩
        by_cases z : s = i
        · subst z
          exact hc e h2 (by omega)
        · exact hb s e (by omega) h2 h3
    · rintro σ H1 ⟨rfl, hb, v2, v3, rfl⟩
      refine k none (fun s e h1 h2 => hb s e (by omega) h1 h2) _ _ (fun _ _ e => e) rfl
theorem ok_lgreedy : FnOk P w K mg base (L2.CX P w) 1 T._law_greedy.a T._law_greedy.d ["_law_line_here", "_law_pace"] spLgreedy := by
  refine T._law_greedy.f.okX sc__law_greedy (fun vs H Q E h => ?_) (fun cdv A outer s H vs Q E hr h => ?_)
  · obtain ⟨q, can, must, n, rate, rfl, _⟩ := h
    rfl
  · obtain ⟨q, can, must, n, rate, rfl, L, c0, k⟩ := h
    refine ⟨_, (pss_cons (ps_par (i := 2) (j := 3) rfl sc__law_greedy.nd rfl rfl (by decide) rfl rfl (pa_cons (pe_lst pa_nil) (pa_cons pe_int pa_nil)) (by rfl))
      (pss_cons (ps_for (passes_of rfl) rfl (pi_range1 (by rfl) T.b_range (pa_cons (pe_callB call_len_seq (by rfl) T.b_len PySem.boot_len (pa_cons (pv 0) pa_nil)) pa_nil)) (pg_name (i := 4) sc__law_greedy.nd rfl (by first | exact .inl rfl | exact .inr rfl))
        (pss_cut (ps_set (i := 5) sc__law_greedy.nd rfl (by first | exact .inl rfl | exact .inr rfl) (pe_ifExp (pt_cmpR op_gt (pv 4) pe_int (nomark _)) (pe_callB (call_min2 rfl) (by rfl) T.b_min PyProof.Rows.boot_min (pa_cons (pv 1) (pa_cons (pe_op op_sub (pe_ix (show IxR _ (rIx K) from ix_seq) (pe_ix (show IxR _ (rIx K) from ix_seq) (pv 0) (pv 4) (fun _ _ => rfl)) pe_int (fun _ _ => rfl)) (pv 3)) pa_nil))) pe_int))
      (pss_cons (ps_set (i := 3) sc__law_greedy.nd rfl (by first | exact .inl rfl | exact .inr rfl) (pe_op op_add (pv 3) (pv 5)))
      (pss_cons (ps_if (pt_cmpR op_lt (pv 3) (pe_ix (show IxR _ (rIx K) from ix_seq) (pe_ix (show IxR _ (rIx K) from ix_seq) (pv 0) (pv 4) (fun _ _ => rfl)) pe_int (fun _ _ => rfl)) (nomark _)) (pss_one (ps_ret pe_non)) pss_nil)
      (pss_one (ps_if (pt_cmpR op_gt (pv 4) pe_int (nomark _)) (pss_one (ps_expr (pe_bm PySem.F.plainAttrs_list PySem.F.slot_list_append PySem.F.type_list_append mt_append (pv 2) (pa_cons (pv 5) pa_nil)))) pss_nil))))))
      (pss_one (ps_ret (pv 2))))), ?_⟩
    have hn := L.small
    refine ⟨(by show 0 ≤ sizeLine; decide), fun f hf => ⟨_, _, rfl, ?_⟩⟩
    have tf := Same.new (o := .lst []) hf
    obtain ⟨ws, ew, lw⟩ := (L.keep tf).len
    refine ⟨_, rfl, q, ws, rfl, .inl (SqL.of ew), _, rfl, by omega, by omega, ?_⟩
    rw [lw, Int.toNat_natCast]
    refine for_range (n := n + 1) (fun j σ H1 => Same H H1 ∧ H1 f = some (.lst ((stepsL rate can (j - 1)).map V.int)) ∧ (∀ t, t < j → must t ≤ comeBy rate can t) ∧ ∃ v4 v5, σ = [some (.ref q), some (.int rate), some (.ref f), some (.int (if j = 0 then 0 else comeBy rate can (j - 1))), v4, v5]) ⟨tf, upd_same, fun t h => absurd h (Nat.not_lt_zero _), _, _, rfl⟩ ?_ ?_
    · rintro i σ H1 hi ⟨s1, ef, hb, v4, v5, rfl⟩
      have hi : i ≤ n := by omega
      rw [Int.zero_add]
      have L1 := L.keep s1
      obtain ⟨ws1, ew1, lw1⟩ := L1.len
      obtain ⟨p, ep, hp⟩ := L1.pair hi ew1
      refine ⟨fun σ' H2 => H2 = H1 ∧ σ' = [some (.ref q), some (.int rate), some (.ref f), some (.int (if i = 0 then 0 else comeBy rate can (i - 1))), some (.int (i : Int)), some (.int (comeBy rate can i - (if i = 0 then 0 else comeBy rate can (i - 1))))], ?_, ?_⟩
      · refine ⟨_, rfl, _, _, rfl, rfl, _, rfl, ?_⟩
        by_cases ci : i = 0
        · subst ci
          refine iteF ⟨rfl, ?_⟩
          have e9 : comeBy rate can 0 - (if 0 = 0 then 0 else comeBy rate can (0 - 1)) = 0 := by
            show can 0 - 0 = 0
            omega
          rw [e9]
          rfl
        · rw [decide_eq_true (show (0 : Int) < (i : Int) by omega)]
          refine iteT ⟨_, rfl, _, rfl, _, rfl, ix_L (K := K) ew1 ep (ix_T (K := K) (i := 1) hp rfl ?_)⟩
          refine ⟨_, rfl, _, _, rfl, rfl, _, _, rfl, rfl, ?_⟩
          have e9 : (if can i - (if i = 0 then 0 else comeBy rate can (i - 1)) < rate then can i - (if i = 0 then 0 else comeBy rate can (i - 1)) else rate) = comeBy rate can i - (if i = 0 then 0 else comeBy rate can (i - 1)) := by
            obtain ⟨t', rfl⟩ : ∃ t', i = t' + 1 := ⟨i - 1, by omega⟩
            rw [if_neg (show ¬ (t' + 1 = 0) by omega)]
            show (if can (t' + 1) - comeBy rate can t' < rate then can (t' + 1) - comeBy rate can t' else rate) = min (comeBy rate can t' + rate) (can (t' + 1)) - comeBy rate can t'
            split <;> omega
          show [_, _, _, _, _, some (V.int (if can i - (if i = 0 then 0 else comeBy rate can (i - 1)) < rate then can i - (if i = 0 then 0 else comeBy rate can (i - 1)) else rate))] = _
          rw [e9]
      · rintro σ' H2 ⟨rfl, rfl⟩
        refine ⟨_, rfl, _, rfl, _, _, rfl, rfl, ?_⟩
        refine ⟨_, rfl, _, rfl, _, rfl, ix_L (K := K) ew1 ep (ix_T (K := K) (i := 0) hp rfl ?_)⟩
        refine ⟨_, _, rfl, rfl, _, rfl, ?_⟩
        have e8 : (if i = 0 then 0 else comeBy rate can (i - 1)) + (comeBy rate can i - (if i = 0 then 0 else comeBy rate can (i - 1))) = comeBy rate can i := by omega
        rw [show decide ((if i = 0 then 0 else comeBy rate can (i - 1)) + (comeBy rate can i - (if i = 0 then 0 else comeBy rate can (i - 1))) < must i) = decide (comeBy rate can i < must i) by rw [e8]]
        by_cases cm : comeBy rate can i < must i
        · rw [decide_eq_true cm]
          refine iteT (k _ _ s1 ?_)
          have : dueO rate can must n = none := by
            unfold dueO
            rw [if_neg]
            intro z
            have := enough_iff.mp z i hi
            omega
          rw [this]
          rfl
        · rw [decide_eq_false cm]
          refine iteF ?_
          have hb' : ∀ t, t < i + 1 → must t ≤ comeBy rate can t := fun t ht => by
            by_cases z : t = i
            · subst z
              omega
            · exact hb t (by omega)
          refine ⟨_, rfl, _, _, rfl, rfl, _, rfl, ?_⟩
          have esl : ∀ (v5 : Option V), [some (.ref q), some (.int rate), some (.ref f), some (V.int ((if i = 0 then 0 else comeBy rate can (i - 1)) + (comeBy rate can i - (if i = 0 then 0 else comeBy rate can (i - 1))))), some (.int (i : Int)), v5] = [some (.ref q), some (.int rate), some (.ref f), some (.int (if i + 1 = 0 then 0 else comeBy rate can (i + 1 - 1))), some (.int (i : Int)), v5] := fun v5 => by
            rw [e8, if_neg (show ¬ (i + 1 = 0) by omega)]
            rfl
          by_cases ci : i = 0
          · subst ci
            exact iteF ⟨s1, ef, hb', _, _, esl _⟩
          · rw [decide_eq_true (show (0 : Int) < (i : Int) by omega)]
            refine iteT ⟨_, rfl, .inl ⟨rfl, _, SqL.of ef⟩, _, rfl, _, _, _, rfl, rfl, ef, by rw [List.length_map, steps_len]; exact Nat.lt_of_le_of_lt (show i - 1 ≤ 1000 by omega) (by decide), Same.put s1 hf, ?_, hb', _, _, esl _⟩
            obtain ⟨t', rfl⟩ : ∃ t', i = t' + 1 := ⟨i - 1, by omega⟩
            rw [upd_same, show t' + 1 + 1 - 1 = t' + 1 by omega, show t' + 1 - 1 = t' by omega, steps_IL, steps_IL, IL_succ, List.map_append, if_neg (show ¬ (t' + 1 = 0) by omega)]
            rfl
    · rintro σ H1 ⟨s1, ef, hb, v4, v5, rfl⟩
      refine ⟨_, rfl, k _ _ s1 ?_⟩
      have : dueO rate can must n = some (stepsL rate can n) := by
        unfold dueO
        rw [if_pos]
        exact enough_iff.mpr fun t ht => hb t (by omega)
      rw [this]
      exact ⟨f, rfl, hf, ef⟩
end
end K39
namespace K39
open PySem PySem.Spec PyProof.Rows L2 PySem.W LamX KA KW KU KL KT
open Evl (pss_cut tCut)
/-! ### what is due, by the law -/
def isNum : V → Bool
  | .int _ => true
  | _ => false
theorem Fl.plN {K : PySem.W.Frag} {H : Hp} {x : V} (h : Fl x) : Pl K H x (isNum x) := by
  cases h with
  | int i => exact .int i
  | bl i => exact .bl i
  | str i _ => exact .str i
  | non => exact .non
def fd : V → PyData
  | .int i => .int i
  | .bl b => .bool b
  | .str s => .str s
  | _ => .none
theorem Fl.dp {K : PySem.W.Frag} {H : Hp} {x : V} (h : Fl x) : Dp K H x (fd x) := by
  cases h with
  | int i => exact .int i
  | bl i => exact .bl i
  | str i _ => exact .str i
  | non => exact .non
theorem dp_fl {K : PySem.W.Frag} {H : Hp} : ∀ {xs : List V}, (∀ x ∈ xs, Fl x) → DpAll K H xs (xs.map fd)
  | [], _ => .nil
  | x :: xs, h => .cons (h x List.mem_cons_self).dp (dp_fl fun y hy => h y (List.mem_cons_of_mem _ hy))
theorem fl_lay : ∀ xs : List V, (∀ x ∈ xs, Fl x) → PyData.canLayAll0 (xs.map fd) = true ∧ PyData.depthAll (xs.map fd) = 0
  | [], _ => ⟨rfl, rfl⟩
  | x :: xs, h => by
    obtain ⟨h1, h2⟩ := fl_lay xs fun y hy => h y (List.mem_cons_of_mem _ hy)
    cases h x List.mem_cons_self with
    | str s e => exact ⟨by simp [fd, PyData.canLayAll0, PyData.canLay0, h1, e], by simp [fd, PyData.depthAll, PyData.depth, h2]⟩
    | _ => exact ⟨by simp [fd, PyData.canLayAll0, PyData.canLay0, h1], by simp [fd, PyData.depthAll, PyData.depth, h2]⟩
theorem shaped_fl (xs : List V) (h : ∀ x ∈ xs, Fl x) : SeqAt.shaped (.list (xs.map fd)) = true := by
  obtain ⟨h1, h2⟩ := fl_lay xs h
  simp [SeqAt.shaped, PyData.canLay0, PyData.depth, h1, h2]
theorem filter_none {α : Type} {xs : List α} {f : α → Bool} : (xs.filter fun x => !f x).isEmpty = xs.all f := by
  induction xs with
  | nil => rfl
  | cons x xs ih =>
    rw [List.filter_cons, List.all_cons]
    cases f x
    · rfl
    · rw [Bool.true_and, ← ih]
      rfl
theorem filter_any {α : Type} {xs : List α} {f : α → Bool} : (!(xs.filter f).isEmpty) = xs.any f := by
  induction xs with
  | nil => rfl
  | cons x xs ih =>
    rw [List.filter_cons, List.any_cons]
    cases f x
    · rw [Bool.false_or, ← ih]
      rfl
    · rfl
section
variable {P : Program} {w : World} {K : PySem.W.Frag} {mg : Str → Option Value} {base : Heap} (T : Top K mg)
theorem ok_whole : FnOk P w K mg base (L2.CX P w) 1 T._law_is_whole.a T._law_is_whole.d ["_law_item"] (spNumber K) := by
  refine T._law_is_whole.f.okX sc__law_is_whole (fun vs H Q E h => ?_) (fun cdv A outer s H vs Q E hr h => ?_)
  · obtain ⟨x, b, rfl, _⟩ := h
    rfl
  · obtain ⟨x, b, rfl, hp, k⟩ := h
    refine ⟨_, (pss_one (ps_ret (pe_and (pe_callB call_isi (by rfl) T.b_isinstance PyProof.Rows.boot_isinstance (pa_cons (pv 0) (pa_cons (pe_bltn (v := .ty "int") (by rfl) T.b_int (by decide +kernel) rfl) pa_nil))) (pe_one (pe_not (pe_callB call_isi (by rfl) T.b_isinstance PyProof.Rows.boot_isinstance (pa_cons (pv 0) (pa_cons (pe_bltn (v := .ty "bool") (by rfl) T.b_bool (by decide +kernel) rfl) pa_nil)))))))), ?_⟩
    obtain ⟨t, ht, h1, h2, h3⟩ := hp.ty
    refine ⟨_, rfl, x, _, _, _, _, rfl, .ty "int", ht, kit_ty h1, _, rfl, ?_⟩
    cases e : (b || (t == "bool"))
    · rw [e] at h3
      refine iteF ?_
      exact q_bl k h3
    · rw [e] at h3
      refine iteT ?_
      refine ⟨_, rfl, x, _, _, _, _, rfl, .ty "bool", ht, kit_ty h2, _, rfl, ?_⟩
      exact q_bl k (by simpa using h3)
theorem ok_lis_due : FnOk P w K mg base (L2.CX P w) 2 T._law_is_due.a T._law_is_due.d ["_law_line_here", "_law_pace", "_law_item"] (spLdue K) := by
  refine T._law_is_due.f.okX sc__law_is_due (fun vs H Q E h => ?_) (fun cdv A outer s H vs Q E hr h => ?_)
  · obtain ⟨q, can, must, n, rate, x, o, rfl, _⟩ := h
    rfl
  · obtain ⟨q, can, must, n, rate, x, o, rfl, L, hg, k⟩ := h
    refine ⟨_, (pss_cons (ps_if (PW.pt (pw_or (pt_not (pt_val (pe_callB (show CallR _ _ (rIsiT K) from call_isiT) (by rfl) T.b_isinstance PyProof.Rows.boot_isinstance (pa_cons (pv 2) (pa_cons (pe_tup (pa_cons (pe_bltn (v := .ty "list") (by rfl) T.b_list (by decide +kernel) rfl) (pa_cons (pe_bltn (v := .ty "tuple") (by rfl) T.b_tuple (by decide +kernel) rfl) pa_nil))) pa_nil))))) (pw_or1 (pt_cmpR op_ne (pe_callB call_len_seq (by rfl) T.b_len PySem.boot_len (pa_cons (pv 2) pa_nil)) (pe_op op_sub (pe_callB call_len_seq (by rfl) T.b_len PySem.boot_len (pa_cons (pv 0) pa_nil)) pe_int) (nomark _))))) (pss_one (ps_ret pe_bl)) pss_nil)
      (pss_cons (ps_if (pt_cmpR (op_neD hr.units) (pe_lc (own := [("_law_more", 6)]) (g := (gName 6)) rfl sc__law_is_due.nd (KEN.pi_seqS (pv 2)) (blkOk_by (own := [("_law_more", 6)]) (N := ["_law_line_here", "_law_pace", "_law_item", "_law_brought", "_law_tick", "_law_pair", "_law_more"]) (sc := defScope s__law_is_due) (by decide +kernel)) (fun _ _ _ _ _ => pg_name (i := 6) sc__law_is_due.nd rfl (by first | exact .inl rfl | exact .inr rfl)) (fun _ _ _ _ _ => pts_one (PW.pt (pw_or (pt_not (pt_val (pe_call (ok_whole T) (hr.mono (by decide)) (by rfl) T._law_is_whole.m T._law_is_whole.f.kp (bd__law_is_whole T) .nil passE (pa_cons (pv 6) pa_nil)))) (pw_or1 (pt_not (pt_chain op_le op_le pe_int (pv 6) (pv 1))))))) (fun _ _ _ _ _ => pe_int)) (pe_lst pa_nil) (nomark _)) (pss_one (ps_ret pe_bl)) pss_nil)
      (pss_cons (ps_set (i := 3) sc__law_is_due.nd rfl (by first | exact .inl rfl | exact .inr rfl) pe_int)
      (pss_cons (ps_for (passes_of rfl) rfl (KEN.pi_enumS (by rfl) T.b_enumerate (pa_cons (pv 0) pa_nil)) (pg_tup rfl (pgs_cons (pg_name (i := 4) sc__law_is_due.nd rfl (by first | exact .inl rfl | exact .inr rfl)) (pgs_cons (pg_name (i := 5) sc__law_is_due.nd rfl (by first | exact .inl rfl | exact .inr rfl)) pgs_nil)))
        (pss_cut (ps_set (i := 3) sc__law_is_due.nd rfl (by first | exact .inl rfl | exact .inr rfl) (pe_op op_add (pv 3) (pe_ifExp (pt_cmpR op_gt (pv 4) pe_int (nomark _)) (pe_ix (show IxR _ (rIx K) from ix_seq) (pv 2) (pe_op op_sub (pv 4) pe_int) (fun _ _ => rfl)) pe_int)))
      (pss_one (ps_if (pt_not (pt_chain op_le op_le (pe_ix (show IxR _ (rIx K) from ix_seq) (pv 5) pe_int (fun _ _ => rfl)) (pv 3) (pe_ix (show IxR _ (rIx K) from ix_seq) (pv 5) pe_int (fun _ _ => rfl)))) (pss_one (ps_ret pe_bl)) pss_nil))))
      (pss_one (ps_ret pe_bl)))))), ?_⟩
    have hn := L.small
    obtain ⟨ws, ew, lw⟩ := L.len
    refine ⟨_, rfl, (by show 2 ≤ sizeLine; decide), fun z hz => ?_⟩
    have tz := Same.new (o := .tup [V.ty "list", .ty "tuple"]) hz
    cases hg with
    | no hn' =>
      obtain ⟨ty, hty, kt⟩ := (hn'.keep tz).ty (K := K)
      refine ⟨x, z, _, _, _, _, rfl, upd_same, .cons (.ty "list") (.cons (.ty "tuple") .nil), hty, kt, _, rfl, ?_⟩
      exact iteT (iteT (k _ tz))
    | @some a xs ha hp hl =>
    obtain ⟨ty, hty, kt⟩ : ∃ ty, TyX K (upd H z (.tup [V.ty "list", .ty "tuple"])) (.ref a) (.type ty) ∧ PySem.W.kitAny K (.type ty) [.type "list", .type "tuple"] = some true := by
      rcases ha with ha | ha
      · exact ⟨_, .base (.lst (tz _ _ ha)), kit_two (x := true) (y := false) (by decide +kernel) (by decide +kernel)⟩
      · exact ⟨_, .base (.tup (tz _ _ ha)), kit_two (x := false) (y := true) (by decide +kernel) (by decide +kernel)⟩
    refine ⟨_, z, _, _, _, _, rfl, upd_same, .cons (.ty "list") (.cons (.ty "tuple") .nil), hty, kt, _, rfl, iteF ⟨_, rfl, a, xs, rfl, ha.imp (fun e => SqL.of (tz _ _ e)) (fun e => SqT.of (tz _ _ e)), _, rfl, q, ws, rfl, .inl (SqL.of (tz _ _ ew)), _, _, rfl, rfl, rfl, _, rfl, ?_⟩⟩
    clear hty kt ty
    have ha := ha.imp (tz _ _) (tz _ _)
    generalize upd H z (.tup [V.ty "list", .ty "tuple"]) = Hz at tz ha
    rw [lw]
    have e0 : sentO rate can must n (some xs) = (decide (xs.length = n) && ((xs.all fun x => within x 0 rate) && fitsB can must n (xs.map intOf))) := rfl
    rw [show (!decide (V.int ((xs.length : Nat) : Int) = V.int (((n + 1 : Nat) : Int) - 1))) = !decide (xs.length = n) by rw [Bool.not_inj_iff]; exact decide_eq_decide.mpr ⟨fun z => by have := V.int.inj z; omega, fun z => by rw [show ((n + 1 : Nat) : Int) - 1 = (n : Int) by omega, z]⟩]
    by_cases c1 : xs.length = n
    case neg =>
      rw [decide_eq_false c1]
      refine iteT (q_bl (k _ tz) ?_)
      rw [e0, decide_eq_false c1]
      rfl
    rw [decide_eq_true c1]
    rw [decide_eq_true c1, Bool.true_and] at e0
    rw [e0] at k
    refine iteF ?_
    refine ⟨_, rfl, a, xs, rfl, ha.imp SqL.of SqT.of, fun J G wk hG => fun D hD => ?_⟩
    refine lcP wk xs (fun x => !(within x 0 rate)) (fun _ => V.int 1) rfl hD hG (Nat.le_trans hl (by decide)) yAt_same ?_ ?_
    · rintro i y m H3 H2 N R hm s2 ⟨rfl, hx⟩ hy hn'
      rw [hm] at hx
      cases hx
      refine ⟨rfl, ?_⟩
      have fl := hp _ (List.mem_of_getElem? hm)
      refine ⟨_, rfl, _, _, rfl, fl.plN (K := K) (H := H2), _, rfl, ?_⟩
      cases fl with
      | int j =>
        refine iteF ⟨_, rfl, _, _, rfl, rfl, _, rfl, ?_⟩
        have ew' : within (.int j) 0 rate = (decide (0 ≤ j) && decide (j ≤ rate)) := rfl
        cases c2 : decide (0 ≤ j) with
        | false =>
          rw [c2, Bool.false_and] at ew'
          exact iteF ⟨_, rfl, iteT (hy (by rw [ew']; rfl) _ fun _ _ e => e)⟩
        | true =>
          rw [c2, Bool.true_and] at ew'
          refine iteT ⟨_, rfl, _, _, rfl, rfl, _, rfl, ?_⟩
          cases c3 : decide (j ≤ rate) with
          | false =>
            rw [c3] at ew'
            exact iteT (hy (by rw [ew']; rfl) _ fun _ _ e => e)
          | true =>
            rw [c3] at ew'
            exact iteF (hn' (by rw [ew']; rfl) _ fun _ _ e => e)
      | bl j => exact iteT (iteT (hy rfl _ fun _ _ e => e))
      | str j _ => exact iteT (iteT (hy rfl _ fun _ _ e => e))
      | non => exact iteT (iteT (hy rfl _ fun _ _ e => e))
    · intro H2 s2 e2
      have e2 : H2 D = some (.lst (((xs.filter fun x => !(within x 0 rate)).map fun _ => (1 : Int)).map V.int)) := by
        rw [e2, List.map_map]
        rfl
      refine ⟨(by show 0 ≤ sizeLine; decide), fun z2 hz2 => ?_⟩
      have t2 := Same.new (o := .lst []) hz2
      refine ⟨_, _, dp_int_list (t2 _ _ e2), dp_nil upd_same, shaped_is _, shaped_nil, _, rfl, ?_⟩
      rw [eqv_ints_nil, List.isEmpty_map, filter_none]
      have s02 := tz.trans (s2.trans t2)
      cases hc : xs.all fun x => within x 0 rate with
      | false =>
        rw [hc, Bool.false_and] at k
        exact iteT (k _ s02)
      | true =>
        rw [hc, Bool.true_and] at k
        refine iteF ?_
        have exs := all_ints hc
        clear hc hp
        generalize xs.map intOf = ns at exs k
        subst exs
        rw [List.length_map] at c1
        have ha2 := ha.imp (fun e => t2 _ _ (s2 _ _ e)) (fun e => t2 _ _ (s2 _ _ e))
        have L2' := L.keep s02
        generalize upd H2 z2 (.lst []) = Hy at s02 ha2 L2'
        obtain ⟨ws2, ew2, lw2⟩ := L2'.len
        refine ⟨_, rfl, q, ws2, rfl, .inl (SqL.of ew2), fun J G wk hG => ?_⟩
        refine for_it wk (fun i σ H' => (∃ v4 v5, σ = [some (.ref q), some (.int rate), some (.ref a), some (.int (pre ns (i - 1))), v4, v5, none]) ∧ Same Hy H' ∧ ∀ t, t < i → must t ≤ pre ns t ∧ pre ns t ≤ can t) ⟨⟨none, none, rfl⟩, (fun _ _ e => e), fun t h => absurd h (Nat.not_lt_zero _)⟩ (fun i σ H' _ m => hG _ m.2.1) ?_ ?_
        · rintro i y σ H3' H3 hi ⟨⟨v4, v5, rfl⟩, s3, hb⟩ ⟨T', x1, y1, rfl, hT, rfl, h1, h2⟩
          have hi : i ≤ n := by omega
          cases h1
          have t3 := Same.new (o := .tup [V.int (i : Int), y1]) hT
          have s33 := s3.trans t3
          refine ⟨T', _, rfl, SqT.of upd_same, rfl, _, _, rfl, _, _, rfl, rfl, ?_⟩
          generalize upd H3' T' (.tup [V.int (i : Int), y1]) = H3 at s33
          obtain ⟨p, ep, hp⟩ := (L2'.keep s33).pair hi (s33 _ _ ew2)
          have h2 : ws2[i]? = some y1 := h2
          rw [ep] at h2
          cases h2
          refine ⟨fun σ' H4 => H4 = H3 ∧ σ' = [some (.ref q), some (.int rate), some (.ref a), some (.int (pre ns i)), some (.int (i : Int)), some (.ref p), none], ?_, ?_⟩
          · refine ⟨_, rfl, _, rfl, _, _, rfl, rfl, _, rfl, ?_⟩
            by_cases ci : i = 0
            · subst ci
              refine iteF ⟨_, _, rfl, rfl, rfl, ?_⟩
              show [_, _, _, some (V.int (pre ns (0 - 1) + 0)), _, _, none] = _
              rw [Int.add_zero]
            · rw [decide_eq_true (show (0 : Int) < (i : Int) by omega)]
              obtain ⟨t', rfl⟩ : ∃ t', i = t' + 1 := ⟨i - 1, by omega⟩
              refine iteT ⟨_, rfl, _, rfl, _, _, rfl, rfl, ?_⟩
              show rIx K (.ref a) (.int (((t' + 1 : Nat) : Int) - 1)) _ _
              rw [show ((t' + 1 : Nat) : Int) - 1 = (t' : Int) by omega]
              have et : (ns.map V.int)[t']? = some (.int (ns.getD t' 0)) := by
                rw [List.getElem?_map, List.getElem?_eq_getElem (show t' < ns.length by omega), List.getD_eq_getElem?_getD, List.getElem?_eq_getElem (show t' < ns.length by omega)]
                rfl
              refine ix_either (K := K) (ha2.imp (s33 _ _) (s33 _ _)) et ⟨_, _, rfl, rfl, rfl, ?_⟩
              show [_, _, _, some (V.int (pre ns (t' + 1 - 1) + ns.getD t' 0)), _, _, none] = _
              rw [pre_succ ns (show t' < ns.length by omega)]
              rfl
          · rintro σ' H4 ⟨rfl, rfl⟩
            refine ⟨_, rfl, ix_T (K := K) (i := 0) hp rfl ⟨_, rfl, _, _, rfl, rfl, _, rfl, ?_⟩⟩
            have sF := s02.trans s33
            have hno : ∀ b : Bool, (decide (must i ≤ pre ns i) && decide (pre ns i ≤ can i)) = false → Q (.bl false) H4 := fun b c => by
              have : fitsB can must n ns = false := by
                cases cf : fitsB can must n ns with
                | false => rfl
                | true =>
                  obtain ⟨q1, q2⟩ := fits_iff.mp cf i hi
                  rw [decide_eq_true q1, decide_eq_true q2] at c
                  cases c
              rw [this] at k
              exact k _ sF
            cases q1 : decide (must i ≤ pre ns i) with
            | false => exact iteF ⟨_, rfl, iteT (hno true (by rw [q1]; rfl))⟩
            | true =>
              refine iteT ⟨_, rfl, ix_T (K := K) (i := 1) hp rfl ⟨_, _, rfl, rfl, _, rfl, ?_⟩⟩
              cases q2 : decide (pre ns i ≤ can i) with
              | false => exact iteT (hno true (by rw [q2]; exact Bool.and_false _))
              | true =>
                refine iteF ⟨⟨_, _, rfl⟩, s33, fun t ht => ?_⟩
                by_cases z : t = i
                · subst z
                  exact ⟨of_decide_eq_true q1, of_decide_eq_true q2⟩
                · exact hb t (by omega)
        · rintro σ H3 ⟨⟨v4, v5, rfl⟩, s3, hb⟩
          have : fitsB can must n ns = true := fits_iff.mpr fun t ht => hb t (by omega)
          rw [this] at k
          exact k _ (s02.trans s3)
end
end K39
namespace K39
open PySem PySem.Spec PyProof.Rows L2 PySem.W LamX KA KW KU KL KT
open Evl (pss_cut tCut)
/-! ### bent sendings -/
structure Fb (B : Int) (x : V) : Prop where
  fl : Fl x
  b : ∀ i, x = .int i → -B ≤ i ∧ i ≤ B
theorem Fb.mono {B C : Int} {x : V} (h : Fb B x) (c : B ≤ C) : Fb C x := ⟨h.fl, fun i e => by have := h.b i e; omega⟩
theorem Fb.int {B i : Int} (h1 : -B ≤ i) (h2 : i ≤ B) : Fb B (.int i) := ⟨.int i, fun j e => by cases e; exact ⟨h1, h2⟩⟩
theorem Fb.non {B : Int} : Fb B .non := ⟨.non, fun j e => by cases e⟩
theorem Fb.bl {B : Int} {b : Bool} : Fb B (.bl b) := ⟨.bl b, fun j e => by cases e⟩
theorem Fb.str {B : Int} : Fb B (.str "0") := ⟨.str "0" (by decide +kernel), fun j e => by cases e⟩
/-- a value as a line of numbers, which stays while draws are made -/
inductive Gk (st lg : Addr) (K : PySem.W.Frag) (B : Int) (k : Nat) (H : Hp) : V → Option (List V) → Prop where
  | non : Gk st lg K B k H .non none
  | int (i : Int) : Gk st lg K B k H (.int i) none
  | str (s : Str) : Gk st lg K B k H (.str s) none
  | dK {a : Addr} {kvs : List (Key × V)} (n : a ≠ st ∧ a ≠ lg) (e : H a = some (.dK kvs)) : Gk st lg K B k H (.ref a) none
  | lst {a : Addr} {xs : List V} (n : a ≠ st ∧ a ≠ lg) (e : H a = some (.lst xs)) (p : ∀ x ∈ xs, Fb B x) (l : xs.length ≤ k) : Gk st lg K B k H (.ref a) (some xs)
  | tup {a : Addr} {xs : List V} (n : a ≠ st ∧ a ≠ lg) (e : H a = some (.tup xs)) (p : ∀ x ∈ xs, Fb B x) (l : xs.length ≤ k) : Gk st lg K B k H (.ref a) (some xs)
section
variable {st lg : Addr} {K : PySem.W.Frag} {B : Int} {k : Nat} {H H' : Hp} {x : V} {o : Option (List V)}
theorem Gk.kp (h : Gk st lg K B k H x o) (s : Kp st lg H H') : Gk st lg K B k H' x o := by
  cases h with
  | non => exact .non
  | int i => exact .int i
  | str s => exact .str s
  | dK n e => exact .dK n (s _ _ e n.1 n.2)
  | lst n e p l => exact .lst n (s _ _ e n.1 n.2) p l
  | tup n e p l => exact .tup n (s _ _ e n.1 n.2) p l
theorem Gk.mono {C : Int} {j : Nat} (h : Gk st lg K B k H x o) (c : B ≤ C) (d : k ≤ j) : Gk st lg K C j H x o := by
  cases h with
  | non => exact .non
  | int i => exact .int i
  | str s => exact .str s
  | dK n e => exact .dK n e
  | lst n e p l => exact .lst n e (fun x hx => (p x hx).mono c) (by omega)
  | tup n e p l => exact .tup n e (fun x hx => (p x hx).mono c) (by omega)
theorem Gk.gn (h : Gk st lg K B k H x o) (c : k ≤ 1000) : Gn K H x o := by
  cases h with
  | non => exact .no .non
  | int i => exact .no (.int i)
  | str s => exact .no (.str s)
  | dK n e => exact .no (.dK e)
  | lst n e p l => exact .some (.inl e) (fun x hx => (p x hx).fl) (by omega)
  | tup n e p l => exact .some (.inr e) (fun x hx => (p x hx).fl) (by omega)
theorem Gk.seq {a : Addr} {xs : List V} (h : Gk st lg K B k H (.ref a) (some xs)) : (a ≠ st ∧ a ≠ lg) ∧ (H a = some (.lst xs) ∨ H a = some (.tup xs)) ∧ (∀ x ∈ xs, Fb B x) ∧ xs.length ≤ k := by
  cases h with
  | lst n e p l => exact ⟨n, .inl e, p, l⟩
  | tup n e p l => exact ⟨n, .inr e, p, l⟩
end
theorem cut_mem {xs : List V} {lo hi : Option Int} {x : V} (h : x ∈ cutV xs lo hi) : x ∈ xs := List.mem_of_mem_drop (List.mem_of_mem_take h)
theorem cut_len (xs : List V) (lo hi : Option Int) : (cutV xs lo hi).length ≤ xs.length := by
  unfold cutV
  rw [List.length_take, List.length_drop]
  omega
theorem dI (n : Nat) (j : Int) (k : Nat) (h : j = (k : Int)) : decide (V.int (n : Int) = V.int j) = decide (n = k) := decide_eq_decide.mpr ⟨fun z => by have := V.int.inj z; omega, fun z => by rw [z, h]⟩
theorem set_all {xs : List V} {p : V → Prop} {r : Nat} {y : V} (h : ∀ x ∈ xs, p x) (hy : p y) : ∀ x ∈ xs.set r y, p x := fun x hx => by
  rcases List.mem_or_eq_of_mem_set hx with q | q
  · exact h x q
  · rw [q]
    exact hy
theorem ixN_nat {n i : Nat} (h : i < n) : ixN n (i : Int) = some i := by
  unfold ixN
  rw [if_pos (Int.natCast_nonneg i), if_pos (by omega), Int.toNat_natCast]
theorem ixN_last {n : Nat} (h : 0 < n) : ixN n (-1) = some (n - 1) := by
  unfold ixN
  simp
  omega
theorem atI_end {xs : List V} {u : V} (h : xs[xs.length - 1]? = some u) : atI xs (-1) = some u := by
  have hl : xs ≠ [] := fun z => by
    rw [z] at h
    cases h
  have := atI_last xs.dropLast u
  rw [← List.getLast?_eq_getElem?] at h
  have e : xs.dropLast ++ [u] = xs := by
    rw [List.getLast?_eq_some_getLast hl] at h
    rw [← Option.some.inj h]
    exact List.dropLast_concat_getLast hl
  rwa [e] at this
def spLbent (K : PySem.W.Frag) : Sp := fun vs H Q _ => ∃ (st lg cl : Addr) (x : V) (o : Option (List V)) (k : Nat) (B pace : Int) (m : Nat), vs = [.ref st, x, .int pace] ∧ Gk st lg K B k H x o ∧ 0 ≤ pace ∧ pace ≤ 9999 ∧ k ≤ 500 ∧ 0 ≤ B ∧ B ≤ 1000000 ∧ m ≤ 900000 ∧ StAt H st lg cl m ∧
  ∀ y o' H', (∀ b, y = .ref b → H b = none) → Gk st lg K (2 * B + 10001) (k + 1) H' y o' → StAt H' st lg cl (m + 10) → Kp st lg H H' → Q y H'
section
variable {P : Program} {w : World} {K : PySem.W.Frag} {mg : Str → Option Value} {base : Heap} (T : Top K mg)
theorem ok_lbent : FnOk P w K mg base (L2.CX P w) 3 T._law_bent.a T._law_bent.d ["_law_state", "_law_some", "_law_pace"] (spLbent K) := by
  refine T._law_bent.f.okX sc__law_bent (fun vs H Q E h => ?_) (fun cdv A outer s H vs Q E hr h => ?_)
  · obtain ⟨st, lg, cl, x, o, k, B, pace, m, rfl, _⟩ := h
    rfl
  · obtain ⟨st, lg, cl, x, o, k, B, pace, m, rfl, hg, hp0, hp1, hk, hB0, hB1, hm, S, kk⟩ := h
    refine ⟨_, (pss_cons (ps_if (PW.pt (pw_or (pt_not (pt_val (pe_callB (show CallR _ _ (rIsiT K) from call_isiT) (by rfl) T.b_isinstance PyProof.Rows.boot_isinstance (pa_cons (pv 1) (pa_cons (pe_tup (pa_cons (pe_bltn (v := .ty "list") (by rfl) T.b_list (by decide +kernel) rfl) (pa_cons (pe_bltn (v := .ty "tuple") (by rfl) T.b_tuple (by decide +kernel) rfl) pa_nil))) pa_nil))))) (pw_or1 (pt_cmpR op_eq (pe_callB call_len_seq (by rfl) T.b_len PySem.boot_len (pa_cons (pv 1) pa_nil)) pe_int (nomark _))))) (pss_one (ps_ret (pe_call (ok_pick T) (hr.mono (by decide)) (by rfl) T._law_pick.m T._law_pick.f.kp (bd__law_pick T) .nil passE (pa_cons (pv 0) (pa_cons (pe_lst (pa_cons pe_non (pa_cons (pe_lst pa_nil) (pa_cons (pe_tup pa_nil) (pa_cons (pe_lst (pa_cons pe_int pa_nil)) (pa_cons pe_str (pa_cons pe_dnewK pa_nil))))))) pa_nil))))) pss_nil)
      (pss_cons (ps_par (i := 3) (j := 4) rfl sc__law_bent.nd rfl rfl (by decide) rfl rfl (pa_cons (pe_callTy call_list_of (by rfl) T.b_list (by decide +kernel) (pa_cons (pv 1) pa_nil)) (pa_cons (pe_call (ok_draw T) (hr.mono (by decide)) (by rfl) T._law_draw.m T._law_draw.f.kp (bd__law_draw T) .nil passE (pa_cons (pv 0) (pa_cons (pe_callB call_len_seq (by rfl) T.b_len PySem.boot_len (pa_cons (pv 1) pa_nil)) pa_nil))) pa_nil)) (by rfl))
      (pss_cons (ps_set (i := 5) sc__law_bent.nd rfl (by first | exact .inl rfl | exact .inr rfl) (pe_call (ok_draw T) (hr.mono (by decide)) (by rfl) T._law_draw.m T._law_draw.f.kp (bd__law_draw T) .nil passE (pa_cons (pv 0) (pa_cons pe_int pa_nil))))
      (pss_cons (ps_if (pt_cmpR op_eq (pv 5) pe_int (nomark _)) (pss_one (ps_ret (pe_call (ok_pick T) (hr.mono (by decide)) (by rfl) T._law_pick.m T._law_pick.f.kp (bd__law_pick T) .nil passE (pa_cons (pv 0) (pa_cons (pe_lst (pa_cons (pe_slice sl_list (pv 3) (po_some pe_int) po_none) (pa_cons (pe_op op_cat (pv 3) (pe_lst (pa_cons pe_int pa_nil))) (pa_cons (pe_slice sl_list (pv 3) po_none (po_some (pe_un un_neg pe_int))) (pa_cons (pe_callTy call_tuple_of (by rfl) T.b_tuple (by decide +kernel) (pa_cons (pv 3) pa_nil)) (pa_cons (pe_op op_cat (pe_lst (pa_cons pe_non pa_nil)) (pe_slice sl_list (pv 3) (po_some pe_int) po_none)) pa_nil)))))) pa_nil))))) pss_nil)
      (pss_cons (ps_if (pt_cmpR op_eq (pv 5) pe_int (nomark _)) (pss_one (ps_asg (pe_call (ok_pick T) (hr.mono (by decide)) (by rfl) T._law_pick.m T._law_pick.f.kp (bd__law_pick T) .nil passE (pa_cons (pv 0) (pa_cons (pe_lst (pa_cons (pe_op op_add (pv 2) pe_int) (pa_cons (pe_un un_neg pe_int) (pa_cons pe_non (pa_cons pe_str (pa_cons pe_bl pa_nil)))))) pa_nil))) (pg_sub (pv 3) (pv 4) set_list))) (pss_one (ps_if (PW.pt (pw_and (pt_cmpR op_eq (pv 5) pe_int (nomark _)) (pw_and1 (pt_val (pe_call (ok_whole T) (hr.mono (by decide)) (by rfl) T._law_is_whole.m T._law_is_whole.f.kp (bd__law_is_whole T) .nil passE (pa_cons (pe_ix (show IxR _ (rIx K) from ix_seq) (pv 3) (pv 4) (fun _ _ => rfl)) pa_nil)))))) (pss_one (ps_asg (pe_op op_add (pe_ix (show IxR _ (rIx K) from ix_seq) (pv 3) (pv 4) (fun _ _ => rfl)) (pe_call (ok_pick T) (hr.mono (by decide)) (by rfl) T._law_pick.m T._law_pick.f.kp (bd__law_pick T) .nil passE (pa_cons (pv 0) (pa_cons (pe_lst (pa_cons pe_int (pa_cons (pe_un un_neg pe_int) pa_nil))) pa_nil)))) (pg_sub (pv 3) (pv 4) set_list))) (pss_one (ps_if (PW.pt (pw_and (pt_val (pe_call (ok_whole T) (hr.mono (by decide)) (by rfl) T._law_is_whole.m T._law_is_whole.f.kp (bd__law_is_whole T) .nil passE (pa_cons (pe_ix (show IxR _ (rIx K) from ix_seq) (pv 3) (pv 4) (fun _ _ => rfl)) pa_nil))) (pw_and1 (pt_val (pe_call (ok_whole T) (hr.mono (by decide)) (by rfl) T._law_is_whole.m T._law_is_whole.f.kp (bd__law_is_whole T) .nil passE (pa_cons (pe_ix (show IxR _ (rIx K) from ix_seq) (pv 3) (pe_un un_neg pe_int) (fun _ _ => rfl)) pa_nil)))))) (pss_cons (ps_set (i := 6) sc__law_bent.nd rfl (by first | exact .inl rfl | exact .inr rfl) (pe_call (ok_draw T) (hr.mono (by decide)) (by rfl) T._law_draw.m T._law_draw.f.kp (bd__law_draw T) .nil passE (pa_cons (pv 0) (pa_cons (pe_op op_add (pe_callB (call_max2 rfl) (by rfl) T.b_max PyProof.Rows.boot_max (pa_cons pe_int (pa_cons (pe_ix (show IxR _ (rIx K) from ix_seq) (pv 3) (pv 4) (fun _ _ => rfl)) pa_nil))) pe_int) pa_nil))))
      (pss_one (ps_asg (pe_tup (pa_cons (pe_op op_sub (pe_ix (show IxR _ (rIx K) from ix_seq) (pv 3) (pv 4) (fun _ _ => rfl)) (pv 6)) (pa_cons (pe_op op_add (pe_ix (show IxR _ (rIx K) from ix_seq) (pv 3) (pe_un un_neg pe_int) (fun _ _ => rfl)) (pv 6)) pa_nil))) (pg_tup rfl (pgs_cons (pg_sub (pv 3) (pv 4) set_list) (pgs_cons (pg_sub (pv 3) (pe_un un_neg pe_int) set_list) pgs_nil)))))) pss_nil)))))
      (pss_one (ps_ret (pv 3)))))))), ?_⟩
    refine ⟨_, rfl, (by show 2 ≤ sizeLine; decide), fun z hz => ?_⟩
    have tz := Same.new (o := .tup [V.ty "list", .ty "tuple"]) hz
    have Sz := S.same tz
    have any : ∀ (H0 : Hp), Same H H0 → ∀ (q1 q2 q3 q4 q5 : Addr), H0 q1 = none → (upd H0 q1 (.lst [])) q2 = none → (upd (upd H0 q1 (.lst [])) q2 (.tup [])) q3 = none → (upd (upd (upd H0 q1 (.lst [])) q2 (.tup [])) q3 (.lst [V.int 0])) q4 = none → (upd (upd (upd (upd H0 q1 (.lst [])) q2 (.tup [])) q3 (.lst [V.int 0])) q4 (.dK [])) q5 = none →
        ∃ (st' lg' cl' a' : Addr) (xs : List V) (m' : Nat), [V.ref st, .ref q5] = [.ref st', .ref a'] ∧ (upd (upd (upd (upd (upd H0 q1 (.lst [])) q2 (.tup [])) q3 (.lst [V.int 0])) q4 (.dK [])) q5 (.lst [V.non, .ref q1, .ref q2, .ref q3, .str "", .ref q4])) a' = some (.lst xs) ∧ a' ≠ lg' ∧ 0 < xs.length ∧ xs.length ≤ 1000 ∧ m' ≤ 1000000 ∧ StAt (upd (upd (upd (upd (upd H0 q1 (.lst [])) q2 (.tup [])) q3 (.lst [V.int 0])) q4 (.dK [])) q5 (.lst [V.non, .ref q1, .ref q2, .ref q3, .str "", .ref q4])) st' lg' cl' m' ∧ ∀ (x : V) (H' : Hp), x ∈ xs → StAt H' st' lg' cl' (m' + 1) → Kp st' lg' (upd (upd (upd (upd (upd H0 q1 (.lst [])) q2 (.tup [])) q3 (.lst [V.int 0])) q4 (.dK [])) q5 (.lst [V.non, .ref q1, .ref q2, .ref q3, .str "", .ref q4])) H' → Q x H' := by
      intro H0 s0 q1 q2 q3 q4 q5 h1 h2 h3 h4 h5
      have t1 := Same.new (o := .lst []) h1
      have t2 := Same.new (o := .tup []) h2
      have t3 := Same.new (o := .lst [V.int 0]) h3
      have t4 := Same.new (o := .dK []) h4
      have t5 := Same.new (o := .lst [V.non, .ref q1, .ref q2, .ref q3, .str "", .ref q4]) h5
      have S0 := S.same s0
      have S1 := S0.same t1
      have S2 := S1.same t2
      have S3 := S2.same t3
      have S4 := S3.same t4
      have S5 := S4.same t5
      refine ⟨st, lg, cl, q5, _, m, rfl, upd_same, (S4.off h5).2, (by show 0 < 6; decide), (by show 6 ≤ 1000; decide), by omega, S5, fun y H' hy S' k' => ?_⟩
      have n1 := S0.off h1
      have n2 := S1.off h2
      have n3 := S2.off h3
      have n4 := S3.off h4
      have e1 := k' _ _ (t5 _ _ (t4 _ _ (t3 _ _ (t2 _ _ (upd_same (H := H0) (a := q1) (o := .lst [])))))) n1.1 n1.2
      have e2 := k' _ _ (t5 _ _ (t4 _ _ (t3 _ _ (upd_same (a := q2) (o := .tup []))))) n2.1 n2.2
      have e3 := k' _ _ (t5 _ _ (t4 _ _ (upd_same (a := q3) (o := .lst [V.int 0])))) n3.1 n3.2
      have e4 := k' _ _ (t5 _ _ (upd_same (a := q4) (o := .dK []))) n4.1 n4.2
      have kH : Kp st lg H H' := (Kp.same (s0.trans (t1.trans (t2.trans (t3.trans (t4.trans t5)))))).trans k'
      have fin := fun o' (nw : ∀ b, y = .ref b → H b = none) (g : Gk st lg K (2 * B + 10001) (k + 1) H' y o') => kk y o' H' nw g (S'.mono (by omega)) kH
      simp only [List.mem_cons, List.not_mem_nil, or_false] at hy
      rcases hy with h | h | h | h | h | h <;> subst h
      · exact fin _ (fun b z => by cases z) .non
      · exact fin _ (fun b z => by cases z; exact none_of s0 h1) (.lst n1 e1 (fun x hx => nomatch hx) (Nat.zero_le _))
      · exact fin _ (fun b z => by cases z; exact none_of (s0.trans t1) h2) (.tup n2 e2 (fun x hx => nomatch hx) (Nat.zero_le _))
      · exact fin _ (fun b z => by cases z; exact none_of (s0.trans (t1.trans t2)) h3) (.lst n3 e3 (fun x hx => by rw [List.mem_singleton.mp hx]; exact .int (by omega) (by omega)) (by show 1 ≤ k + 1; omega))
      · exact fin _ (fun b z => by cases z) (.str "")
      · exact fin _ (fun b z => by cases z; exact none_of (s0.trans (t1.trans (t2.trans t3))) h4) (.dK n4 e4)
    cases o with
    | none =>
      have hn' : Ns H x := by
        cases hg.gn (show k ≤ 1000 by omega) with
        | no h => exact h
      obtain ⟨ty, hty, kt⟩ := (hn'.keep tz).ty (K := K)
      refine ⟨x, z, _, _, _, _, rfl, upd_same, .cons (.ty "list") (.cons (.ty "tuple") .nil), hty, kt, _, rfl, iteT (iteT ?_)⟩
      exact ⟨_, rfl, (by show 0 ≤ sizeLine; decide), fun q1 h1 => ⟨(by show 0 ≤ sizeLine; decide), fun q2 h2 => ⟨(by show 1 ≤ sizeLine; decide), fun q3 h3 => fun q4 h4 => ⟨(by show 6 ≤ sizeLine; decide), fun q5 h5 => any _ tz q1 q2 q3 q4 q5 h1 h2 h3 h4 h5⟩⟩⟩⟩
    | some xs =>
    obtain ⟨a, rfl⟩ : ∃ a, x = .ref a := by
      cases hg with
      | lst _ _ _ _ => exact ⟨_, rfl⟩
      | tup _ _ _ _ => exact ⟨_, rfl⟩
    obtain ⟨na, ha, hp, hl⟩ := hg.seq
    obtain ⟨ty, hty, kt⟩ : ∃ ty, TyX K (upd H z (.tup [V.ty "list", .ty "tuple"])) (.ref a) (.type ty) ∧ PySem.W.kitAny K (.type ty) [.type "list", .type "tuple"] = some true := by
      rcases ha with ha | ha
      · exact ⟨_, .base (.lst (tz _ _ ha)), kit_two (x := true) (y := false) (by decide +kernel) (by decide +kernel)⟩
      · exact ⟨_, .base (.tup (tz _ _ ha)), kit_two (x := false) (y := true) (by decide +kernel) (by decide +kernel)⟩
    refine ⟨_, z, _, _, _, _, rfl, upd_same, .cons (.ty "list") (.cons (.ty "tuple") .nil), hty, kt, _, rfl, iteF ⟨_, rfl, a, xs, rfl, ha.imp (fun e => SqL.of (tz _ _ e)) (fun e => SqT.of (tz _ _ e)), rfl, _, rfl, ?_⟩⟩
    clear hty kt ty
    have haz := ha.imp (tz _ _) (tz _ _)
    rw [dI xs.length 0 0 rfl]
    by_cases c0 : xs.length = 0
    · rw [decide_eq_true c0]
      refine iteT ?_
      exact ⟨_, rfl, (by show 0 ≤ sizeLine; decide), fun q1 h1 => ⟨(by show 0 ≤ sizeLine; decide), fun q2 h2 => ⟨(by show 1 ≤ sizeLine; decide), fun q3 h3 => fun q4 h4 => ⟨(by show 6 ≤ sizeLine; decide), fun q5 h5 => any _ tz q1 q2 q3 q4 q5 h1 h2 h3 h4 h5⟩⟩⟩⟩
    rw [decide_eq_false c0]
    clear any
    refine iteF ?_
    refine ⟨_, rfl, a, xs, rfl, haz.imp SqL.of SqT.of, fun f hf => ?_⟩
    have tf := Same.new (o := .lst xs) hf
    have nf := Sz.off hf
    have sf := tz.trans tf
    have hfH := none_of tz hf
    refine ⟨_, rfl, _, rfl, a, xs, rfl, haz.imp (fun e => SqL.of (tf _ _ e)) (fun e => SqT.of (tf _ _ e)), st, lg, cl, xs.length, m, rfl, by omega, Nat.lt_of_le_of_lt (show xs.length ≤ 500 by omega) (by decide), by omega, Sz.same tf, fun r H1 hr1 S1 k1 => ⟨_, _, rfl, ?_⟩⟩
    refine ⟨_, rfl, st, lg, cl, 6, m + 1, rfl, by decide, by decide, by omega, S1, fun wy H2 hw S2 k2 => ?_⟩
    have ef := k2 _ _ (k1 _ _ upd_same nf.1 nf.2) nf.1 nf.2
    have kH : Kp st lg H H2 := (Kp.same sf).trans (k1.trans k2)
    have ncl := offc Sz hf
    clear k1 k2 S1 Sz
    have fin : ∀ ys H9 (p : ∀ y ∈ ys, Fb (2 * B + 10001) y), H9 f = some (.lst ys) → ys.length ≤ k + 1 → StAt H9 st lg cl (m + 10) → Kp st lg H H9 → Q (.ref f) H9 := fun ys H9 p e l S9 k9 => kk _ (some ys) _ (fun b z => by cases z; exact hfH) (.lst nf e p l) S9 k9
    have hp2 : ∀ y ∈ xs, Fb (2 * B + 10001) y := fun y hy => (hp y hy).mono (by omega)
    refine ⟨_, rfl, rfl, _, rfl, ?_⟩
    rw [dI wy 0 0 rfl]
    by_cases w0 : wy = 0
    · rw [decide_eq_true w0]
      refine iteT ?_
      refine ⟨_, rfl, _, rfl, _, rfl, f, _, rfl, SqL.of ef, fun q1 h1 => ⟨_, rfl, (by show 1 ≤ sizeLine; decide), fun q2 h2 => ?_⟩⟩
      have t1 := Same.new (o := .lst (cutV xs (some 1) none)) h1
      have t2 := Same.new (o := .lst [V.int 0]) h2
      have ef2 := t2 _ _ (t1 _ _ ef)
      refine ⟨f, q2, xs, [V.int 0], rfl, rfl, ef2, upd_same, Nat.le_trans (show xs.length + 1 ≤ 1000 by omega) (by decide), fun q3 h3 => ?_⟩
      have t3 := Same.new (o := .lst (xs ++ [V.int 0])) h3
      refine ⟨_, rfl, _, rfl, _, rfl, f, _, rfl, SqL.of (t3 _ _ ef2), fun q4 h4 => ?_⟩
      have t4 := Same.new (o := .lst (cutV xs none (some (-1)))) h4
      have ef4 := t4 _ _ (t3 _ _ ef2)
      refine ⟨_, rfl, f, _, rfl, .inl ⟨SqL.of ef4, fun q5 h5 => ⟨(by show 1 ≤ sizeLine; decide), fun q6 h6 => ?_⟩⟩⟩
      have t5 := Same.new (o := .tup xs) h5
      have t6 := Same.new (o := .lst [V.non]) h6
      have ef6 := t6 _ _ (t5 _ _ ef4)
      refine ⟨_, rfl, _, rfl, f, _, rfl, SqL.of ef6, fun q7 h7 => ?_⟩
      have t7 := Same.new (o := .lst (cutV xs (some 1) none)) h7
      refine ⟨q6, q7, _, _, rfl, rfl, t7 _ _ upd_same, upd_same, Nat.le_trans (show 1 + (cutV xs (some 1) none).length ≤ 1000 by have := cut_len xs (some 1) none; omega) (by decide), fun q8 h8 => ⟨(by show 5 ≤ sizeLine; decide), fun q9 h9 => ?_⟩⟩
      have t8 := Same.new (o := .lst ([V.non] ++ cutV xs (some 1) none)) h8
      have t9 := Same.new (o := .lst [V.ref q1, .ref q3, .ref q4, .ref q5, .ref q8]) h9
      have S3 := (S2.same t1).same t2
      have S4 := S3.same t3
      have S5 := S4.same t4
      have S8 := ((S5.same t5).same t6).same t7
      have S9 := (S8.same t8).same t9
      have n1 := S2.off h1
      have n3 := S3.off h3
      have n4 := S4.off h4
      have n5 := S5.off h5
      have n8 := S8.off h8
      have w1 := Kp.free kH S2 h1
      have w3 := Kp.free (kH.trans (.same (t1.trans t2))) S3 h3
      have w4 := Kp.free (kH.trans (.same (t1.trans (t2.trans t3)))) S4 h4
      have w5 := Kp.free (kH.trans (.same (t1.trans (t2.trans (t3.trans t4))))) S5 h5
      have w8 := Kp.free (kH.trans (.same (t1.trans (t2.trans (t3.trans (t4.trans (t5.trans (t6.trans t7)))))))) S8 h8
      have u9 := t9
      have u8 := t8.trans u9
      have u7 := t7.trans u8
      have u6 := t6.trans u7
      have u5 := t5.trans u6
      have u4 := t4.trans u5
      have u3 := t3.trans u4
      have u2 := t2.trans u3
      refine ⟨st, lg, cl, q9, _, m + 1 + 1, rfl, upd_same, ((S8.same t8).off h9).2, (by show 0 < 5; decide), (by show 5 ≤ 1000; decide), by omega, S9, fun y H' hy S' k' => ?_⟩
      have e1 := k' _ _ (u2 _ _ (upd_same (H := H2) (a := q1) (o := .lst (cutV xs (some 1) none)))) n1.1 n1.2
      have e3 := k' _ _ (u4 _ _ (upd_same (a := q3) (o := .lst (xs ++ [V.int 0])))) n3.1 n3.2
      have e4 := k' _ _ (u5 _ _ (upd_same (a := q4) (o := .lst (cutV xs none (some (-1)))))) n4.1 n4.2
      have e5 := k' _ _ (u6 _ _ (upd_same (a := q5) (o := .tup xs))) n5.1 n5.2
      have e8 := k' _ _ (u9 _ _ (upd_same (a := q8) (o := .lst ([V.non] ++ cutV xs (some 1) none)))) n8.1 n8.2
      have kk' := fun o' (nw : ∀ b, y = .ref b → H b = none) (g : Gk st lg K (2 * B + 10001) (k + 1) H' y o') => kk y o' H' nw g (S'.mono (by omega)) (kH.trans ((Kp.same (t1.trans u2)).trans k'))
      have c1 := cut_len xs (some 1) none
      have c4 := cut_len xs none (some (-1))
      simp only [List.mem_cons, List.not_mem_nil, or_false] at hy
      rcases hy with h | h | h | h | h <;> subst h
      · exact kk' _ (fun b z => by cases z; exact w1) (.lst n1 e1 (fun y hy => hp2 y (cut_mem hy)) (by omega))
      · refine kk' _ (fun b z => by cases z; exact w3) (.lst n3 e3 (fun y hy => ?_) (by rw [List.length_append]; show xs.length + 1 ≤ _; omega))
        rcases List.mem_append.mp hy with q | q
        · exact hp2 y q
        · rw [List.mem_singleton.mp q]
          exact .int (by omega) (by omega)
      · exact kk' _ (fun b z => by cases z; exact w4) (.lst n4 e4 (fun y hy => hp2 y (cut_mem hy)) (by omega))
      · exact kk' _ (fun b z => by cases z; exact w5) (.tup n5 e5 hp2 (by omega))
      · refine kk' _ (fun b z => by cases z; exact w8) (.lst n8 e8 (fun y hy => ?_) (by show (cutV xs (some 1) none).length + 1 ≤ _; omega))
        rcases List.mem_cons.mp hy with q | q
        · rw [q]
          exact .non
        · exact hp2 y (cut_mem q)
    rw [decide_eq_false w0]
    refine iteF ?_
    refine ⟨_, rfl, rfl, _, rfl, ?_⟩
    rw [dI wy 1 1 rfl]
    by_cases w1 : wy = 1
    · rw [decide_eq_true w1]
      refine iteT ?_
      refine ⟨_, rfl, _, rfl, _, _, rfl, rfl, _, rfl, (by show 5 ≤ sizeLine; decide), fun q hq => ?_⟩
      have tq := Same.new (o := .lst [V.int (pace + 1), .int (-1), .non, .str "0", .bl true]) hq
      refine ⟨st, lg, cl, q, _, m + 1 + 1, rfl, upd_same, (S2.off hq).2, (by show 0 < 5; decide), (by show 5 ≤ 1000; decide), by omega, S2.same tq, fun y H3 hy S3 k3 => ?_⟩
      have k23 := (Kp.same tq).trans k3
      have ef3 := k23 _ _ ef nf.1 nf.2
      refine ⟨_, rfl, _, rfl, f, xs, (r : Int), r, rfl, rfl, ef3, ixN_nat hr1, ?_⟩
      have hy' : Fb (2 * B + 10001) y := by
        simp only [List.mem_cons, List.not_mem_nil, or_false] at hy
        rcases hy with h | h | h | h | h <;> subst h
        · exact .int (by omega) (by omega)
        · exact .int (by omega) (by omega)
        · exact .non
        · exact .str
        · exact .bl
      refine ⟨_, rfl, fin (xs.set r y) _ (set_all hp2 hy') upd_same (by rw [List.length_set]; omega) ((stAt_put S3 nf.1 nf.2 ncl).mono (by omega)) (Kp.put3 (kH.trans k23) hfH)⟩
    rw [decide_eq_false w1]
    refine iteF ?_
    obtain ⟨v, ev⟩ : ∃ v, xs[r]? = some v := ⟨_, List.getElem?_eq_getElem hr1⟩
    have fv := hp v (List.mem_of_getElem? ev)
    obtain ⟨u, eu⟩ : ∃ u, xs[xs.length - 1]? = some u := ⟨_, List.getElem?_eq_getElem (by omega)⟩
    have fu := hp u (List.mem_of_getElem? eu)
    have lastI : atI xs (-1) = some u := atI_end eu
    refine ⟨_, rfl, rfl, _, rfl, ?_⟩
    rw [dI wy 2 2 rfl]
    by_cases w2 : wy = 2
    · rw [decide_eq_true w2]
      refine iteT ⟨_, rfl, _, rfl, ix_L (K := K) ef ev ⟨v, isNum v, rfl, fv.fl.plN (K := K) (H := H2), _, rfl, ?_⟩⟩
      cases v with
      | int i =>
        refine iteT ?_
        refine ⟨_, rfl, _, rfl, ix_L (K := K) ef ev ⟨_, rfl, _, rfl, (by show 2 ≤ sizeLine; decide), fun q hq => ?_⟩⟩
        have tq := Same.new (o := .lst [V.int 1, .int (-1)]) hq
        refine ⟨st, lg, cl, q, _, m + 1 + 1, rfl, upd_same, (S2.off hq).2, (by show 0 < 2; decide), (by show 2 ≤ 1000; decide), by omega, S2.same tq, fun y H3 hy S3 k3 => ?_⟩
        have k23 := (Kp.same tq).trans k3
        have ef3 := k23 _ _ ef nf.1 nf.2
        obtain ⟨j, rfl, j1, j2⟩ : ∃ j : Int, y = .int j ∧ -1 ≤ j ∧ j ≤ 1 := by
          simp only [List.mem_cons, List.not_mem_nil, or_false] at hy
          rcases hy with h | h <;> subst h
          · exact ⟨_, rfl, by omega, by omega⟩
          · exact ⟨_, rfl, by omega, by omega⟩
        have bi := fv.b i rfl
        refine ⟨_, _, rfl, rfl, _, rfl, _, rfl, f, xs, (r : Int), r, rfl, rfl, ef3, ixN_nat hr1, ?_⟩
        have hy' : Fb (2 * B + 10001) (.int (i + j)) := .int (by omega) (by omega)
        exact ⟨_, rfl, fin (xs.set r (.int (i + j))) _ (set_all hp2 hy') upd_same (by rw [List.length_set]; omega) ((stAt_put S3 nf.1 nf.2 ncl).mono (by omega)) (Kp.put3 (kH.trans k23) hfH)⟩
      | _ =>
        refine iteF ⟨_, rfl, _, rfl, ix_L (K := K) ef ev ⟨_, _, rfl, fv.fl.plN (K := K) (H := H2), _, rfl, iteF (iteF ?_)⟩⟩
        exact ⟨_, rfl, fin xs _ hp2 ef (by omega) (S2.mono (by omega)) kH⟩
    rw [decide_eq_false w2]
    refine iteF (iteF ⟨_, rfl, _, rfl, ix_L (K := K) ef ev ⟨v, isNum v, rfl, fv.fl.plN (K := K) (H := H2), _, rfl, ?_⟩⟩)
    cases v with
    | int i =>
      refine iteT ⟨_, rfl, _, rfl, .inl ⟨f, xs, _, u, rfl, rfl, SqL.of ef, lastI, ⟨u, isNum u, rfl, fu.fl.plN (K := K) (H := H2), _, rfl, ?_⟩⟩⟩
      cases u with
      | int j =>
        refine iteT ?_
        have bi := fv.b i rfl
        have bj := fu.b j rfl
        refine ⟨_, rfl, _, rfl, _, rfl, ix_L (K := K) ef ev ⟨_, _, rfl, _, _, rfl, rfl, st, lg, cl, (if i > 0 then i else 0).toNat + 1, m + 1 + 1, ?_, by omega, ?_, by omega, S2, fun mo H3 hmo S3 k3 => ?_⟩⟩
        · show [V.ref st, V.int ((if i > 0 then i else 0) + 1)] = [V.ref st, V.int (((if i > 0 then i else 0).toNat + 1 : Nat) : Int)]
          rw [show (((if i > 0 then i else 0).toNat + 1 : Nat) : Int) = (if i > 0 then i else 0) + 1 by split <;> omega]
        · refine Nat.lt_of_le_of_lt (show _ ≤ 1000001 by split <;> omega) (by decide)
        have ef3 := k3 _ _ ef nf.1 nf.2
        have hmo : (mo : Int) ≤ (if i > 0 then i else 0) := by split at hmo <;> split <;> omega
        have hmo2 : (mo : Int) ≤ B := by split at hmo <;> omega
        refine ⟨_, rfl, _, rfl, ix_L (K := K) ef3 ev ⟨_, rfl, _, _, rfl, rfl, ?_⟩⟩
        refine ⟨_, rfl, _, rfl, .inl ⟨f, xs, _, .int j, rfl, rfl, SqL.of ef3, lastI, ?_⟩⟩
        refine ⟨_, rfl, _, _, rfl, rfl, (by show 2 ≤ sizeLine; decide), fun p hp => ?_⟩
        have tp := Same.new (o := .tup [V.int (i - (mo : Int)), .int (j + (mo : Int))]) hp
        have ef4 := tp _ _ ef3
        refine ⟨p, _, rfl, SqT.of upd_same, rfl, _, _, rfl, _, rfl, _, rfl, f, xs, (r : Int), r, rfl, rfl, ef4, ixN_nat hr1, ?_⟩
        refine ⟨_, _, rfl, _, rfl, _, rfl, f, xs.set r (.int (i - (mo : Int))), -1, xs.length - 1, rfl, rfl, upd_same, by rw [List.length_set]; exact ixN_last (by omega), rfl, ?_⟩
        have S4 := stAt_put (ys := (xs.set r (.int (i - (mo : Int)))).set (xs.length - 1) (.int (j + (mo : Int)))) (stAt_put (ys := xs.set r (.int (i - (mo : Int)))) (S3.same tp) nf.1 nf.2 ncl) nf.1 nf.2 ncl
        refine ⟨_, rfl, fin ((xs.set r (.int (i - (mo : Int)))).set (xs.length - 1) (.int (j + (mo : Int)))) _ (set_all (set_all hp2 (.int (by omega) (by omega))) (.int (by omega) (by omega))) upd_same (by rw [List.length_set, List.length_set]; omega) (S4.mono (by omega)) (Kp.put3 (Kp.put3 (kH.trans (k3.trans (Kp.same tp))) hfH) hfH)⟩
      | _ =>
        exact iteF ⟨_, rfl, fin xs _ hp2 ef (by omega) (S2.mono (by omega)) kH⟩
    | _ =>
      exact iteF (iteF ⟨_, rfl, fin xs _ hp2 ef (by omega) (S2.mono (by omega)) kH⟩)
end
end K39
namespace K39
open PySem PySem.Spec PyProof.Rows L2 PySem.W LamX KA KW KU
open Evl (pss_cut tCut)
/-- the code object of a def that makes lambdas, and its table -/
structure LamT (K : PySem.W.Frag) (x : Str) (st : Stmt) (a : Addr) (d : FuncData) (c P : Addr) : Prop where
  ex : ∃ (oc : Value) (od : Option Addr) (kV doc pm : Value) (an : Option Addr) (ct : Value) (osl : Array (Option Value)),
    d = PySem.W.fnOf x x (defArgs st) (defBody st) (defScope st) .none kV doc pm an (.ref c) ct ∧ K.lookup a = some ⟨oc, od, .func d, osl⟩ ∧ PySem.W.codeIn K (.ref c) x = true
theorem pe_caught {X : Cx} (T : Top X.K X.mg) {c Pt : Addr} {k : Nat} {params : Arguments} {body : Expr} {scope : Scope} {t : XK → TE} {p lpos pos : Pos} (TB : TabB X.base X.mg c Pt) (hcode : X.env.code = .ref c) (hr : Room (k + 2) X.A) (hg : Gl X "_law_caught") (L : LamS X.env.scope scope)
    (hdef : defaultsOf params X.env = ([], [])) (hbind : ∀ (q : Str) (cl : List (Str × Addr)) (pm cv ctv : Value), bindArgs (PySem.W.kla_fn "<lambda>" q params body scope cl pm cv ctv) ⟨[], []⟩ = pure [])
    (hbody : ∀ (A : Around) (outer : List Env) (s : Shared) (H : Hp) (E : XK) (f c' : Addr), Room k (A.deeper (lamEnv X scope s.heap.objs.size f c')) → PE (lamCx X A outer s H E scope f c') body (t E)) :
    PE X (.Call (.Name "_law_caught" p) [.Lambda params body scope lpos] [] pos) (tLam [(Pt, X.env.qual ++ "<lambda>")] (TCaught X.K T.reel.C) t) := by
  obtain ⟨oc, od, kV, doc, pm, an, cdv, ct, osl, ed, lk, hcd⟩ := T._law_caught.f.ex
  have hb := bd__law_caught T
  rw [ed] at lk hb
  exact pe_lamcall (T := [(Pt, X.env.qual ++ "<lambda>")]) hg T._law_caught.m T._law_caught.f.kp lk hcd hb sc__law_caught rfl (.inl rfl)
    (caught_gives sc__law_caught rfl rfl rfl rfl T.reel.g (by decide) (by decide) (by decide) (by decide) (by decide)) TB hcode List.mem_cons_self (fun p hp e => by
      rcases List.mem_singleton.mp hp with rfl
      rfl) hr L hdef hbind hbody
/-- all but the state and the tables stands as it stood -/
def KpN (st lg : Addr) (H H' : Hp) : Prop := ∀ b o, H b = some o → b ≠ st → b ≠ lg → (∀ ps, o ≠ .tbl ps) → H' b = some o
theorem KpN.refl {st lg : Addr} {H : Hp} : KpN st lg H H := fun _ _ h _ _ _ => h
theorem KpN.trans {st lg : Addr} {H H1 H2 : Hp} (a : KpN st lg H H1) (b : KpN st lg H1 H2) : KpN st lg H H2 := fun c o h n1 n2 n3 => b c o (a c o h n1 n2 n3) n1 n2 n3
theorem KpN.kp {st lg : Addr} {H H1 : Hp} (a : Kp st lg H H1) : KpN st lg H H1 := fun c o h n1 n2 _ => a c o h n1 n2
theorem KpN.ext {st lg : Addr} {H H1 : Hp} (a : ExtN H H1) : KpN st lg H H1 := fun c o h _ _ n => a c o h n
theorem KpN.new {st lg p : Addr} {H : Hp} {o : HO} (h : H p = none) : KpN st lg H (upd H p o) := .kp (.same (Same.new h))
abbrev lamQ : Str := (envOfC "_law_refused" (defScope s__law_refused) 0 0 .none).qual ++ "<lambda>"
abbrev tabs (Pt : Addr) : List (Addr × Str) := [(Pt, lamQ)]
theorem tabs_kp {st lg cl : Addr} {n : Nat} {L : List (Addr × Str)} {H H' : Hp} (t : Tabs L H) (S : StAt H st lg cl n) (e : Kp st lg H H') : Tabs L H' := by
  obtain ⟨_, _, _, _, S', _⟩ := S
  intro p hp
  obtain ⟨ps, h1, h2, h3⟩ := t p hp
  refine ⟨ps, e _ _ h1 (ne_of h1 S'.d (by intro z; cases z)) (ne_of h1 S'.l (by intro z; cases z)), h2, fun pos cv hc => ?_⟩
  obtain ⟨c, e1, e2⟩ := h3 pos cv hc
  exact ⟨c, e1, e _ _ e2 (ne_of e2 S'.d (by intro z; unfold CodeO at z; cases z)) (ne_of e2 S'.l (by intro z; unfold CodeO at z; cases z))⟩
theorem stAt_ext {H H' : Hp} {st lg cl : Addr} {n : Nat} (S : StAt H st lg cl n) (e : ExtN H H') : StAt H' st lg cl n := by
  obtain ⟨a, b, c, d, s, h⟩ := S
  exact ⟨a, b, c, d, { s with d := e _ _ s.d (fun _ z => by cases z), l := e _ _ s.l (fun _ z => by cases z), c := e _ _ s.c (fun _ z => by cases z) }, h⟩
theorem Pl.kpN {K : PySem.W.Frag} {H H' : Hp} {st lg : Addr} {x : V} {b : Bool} (h : Pl K H x b) (n : ∀ a, x = .ref a → a ≠ st ∧ a ≠ lg) (e : KpN st lg H H') : Pl K H' x b := by
  cases h with
  | int i => exact .int i
  | bl i => exact .bl i
  | str i => exact .str i
  | non => exact .non
  | tup q => exact .tup (e _ _ q (n _ rfl).1 (n _ rfl).2 (fun _ z => by cases z))
  | lst q => exact .lst (e _ _ q (n _ rfl).1 (n _ rfl).2 (fun _ z => by cases z))
  | dK q => exact .dK (e _ _ q (n _ rfl).1 (n _ rfl).2 (fun _ z => by cases z))
/-- a value that stands whatever is drawn -/
structure Std (K : PySem.W.Frag) (H : Hp) (st lg : Addr) (x : V) : Prop where
  pl : ∃ b, Pl K H x b
  off : ∀ a, x = .ref a → a ≠ st ∧ a ≠ lg
theorem Std.kpN {K : PySem.W.Frag} {H H' : Hp} {st lg : Addr} {x : V} (h : Std K H st lg x) (e : KpN st lg H H') : Std K H' st lg x := by
  obtain ⟨⟨b, p⟩, n⟩ := h
  exact ⟨⟨b, p.kpN n e⟩, n⟩
theorem Std.flat {K : PySem.W.Frag} {H : Hp} {st lg : Addr} {x : V} {b : Bool} (p : Pl K H x b) (r : ∀ a, x ≠ .ref a) : Std K H st lg x := ⟨⟨b, p⟩, fun a e => absurd e (r a)⟩
theorem Std.updL {K : PySem.W.Frag} {H : Hp} {st lg er : Addr} {x : V} {xs ys : List V} (h : Std K H st lg x) (hl : H er = some (.lst xs)) : Std K (upd H er (.lst ys)) st lg x := by
  obtain ⟨⟨b, p⟩, n⟩ := h
  refine ⟨⟨b, ?_⟩, n⟩
  cases p with
  | int i => exact .int i
  | bl i => exact .bl i
  | str i => exact .str i
  | non => exact .non
  | tup q => exact .tup ((upd_ne (ne_of q hl (by intro z; cases z))).trans q)
  | @lst a zs q =>
    by_cases e : a = er
    · subst e
      exact .lst upd_same
    · exact .lst ((upd_ne e).trans q)
  | dK q => exact .dK ((upd_ne (ne_of q hl (by intro z; cases z))).trans q)
theorem Std.same {K : PySem.W.Frag} {H H' : Hp} {st lg : Addr} {x : V} (h : Std K H st lg x) (e : Same H H') : Std K H' st lg x := h.kpN (.kp (.same e))
theorem exV_tbl {c : Value} {d : Option Addr} {a : Addr} (ps : Array Value) : ExV c d a ≠ .tbl ps := fun z => by
  unfold ExV at z
  cases z
theorem kit_self {K : PySem.W.Frag} {C : Addr} : PySem.W.kitOne K (.ref C) (.ref C) = some true := by
  unfold PySem.W.kitOne
  rw [if_pos (by simp)]
theorem fnG_ofC {CX : CXT} {P : Program} {w : World} {K : PySem.W.Frag} {mg : Str → Option Value} {base : Heap} {k : Nat} {f c Pt : Addr} {x : Str} {st : Stmt} {fd : FuncData} {N ps : List Str} {sp : Sp} (LT : LamT K x st f fd c Pt) (S : FnScope N ps (defScope st))
    (len : ∀ vs H Q E, sp vs H Q E → vs.length = ps.length)
    (hbody : ∀ (A : Around) (outer : List Env) (s : Shared) (H : Hp) (vs : List V) (Q : VK) (E : XK), Room k (A.deeper (envOfC x (defScope st) s.heap.objs.size f (.ref c))) → A.guards = some [] → sp vs H Q E →
      ∃ t, PSs (cxOf CX P w K mg base N x (defScope st) f (.ref c) A outer s H E) (defBody st) t ∧ t { nx := fun _ H' => Q .non H', rt := Q } (L2.start N vs) H) : FnG P w K mg base CX (k + 1) f fd ps sp := by
  obtain ⟨oc, od, kV, doc, pm, an, ct, osl, rfl, lk, hcd⟩ := LT.ex
  exact ⟨len, fun A outer s H args us vs Q E hr hg e0 hb r h => run_ofS lk hcd S hr e0 hb r (len _ _ _ _ h) fun hr' => hbody A outer s H vs Q E hr' hg h⟩
theorem pe_or {X : Cx} {e : PySem.Expr} {t1 t2 : TE} (h1 : PE X e t1) (h2 : PE X e t2) : PE X e (fun σ H Q => t1 σ H Q ∨ t2 σ H Q) := ⟨fun pins s σ H Q I h => h.elim (h1.run pins s σ H Q I) (h2.run pins s σ H Q I)⟩
section
variable {K : PySem.W.Frag} {H H' : Hp}
theorem Pl.extN {x : V} {b : Bool} (h : Pl K H x b) (e : ExtN H H') : Pl K H' x b := by
  cases h with
  | int i => exact .int i
  | bl i => exact .bl i
  | str i => exact .str i
  | non => exact .non
  | tup q => exact .tup (e _ _ q (fun _ z => by cases z))
  | lst q => exact .lst (e _ _ q (fun _ z => by cases z))
  | dK q => exact .dK (e _ _ q (fun _ z => by cases z))
theorem Gk.kpN {st lg : Addr} {B : Int} {k : Nat} {x : V} {o : Option (List V)} (h : Gk st lg K B k H x o) (s : KpN st lg H H') : Gk st lg K B k H' x o := by
  cases h with
  | non => exact .non
  | int i => exact .int i
  | str s => exact .str s
  | dK n e => exact .dK n (s _ _ e n.1 n.2 (fun _ z => by cases z))
  | lst n e p l => exact .lst n (s _ _ e n.1 n.2 (fun _ z => by cases z)) p l
  | tup n e p l => exact .tup n (s _ _ e n.1 n.2 (fun _ z => by cases z)) p l
end
/-! ### what kind of error -/
def kindN : Nat → Str
  | 0 => "sizes"
  | 1 => "rate"
  | 2 => "delay"
  | 3 => "hold"
  | _ => "room"
/-- the classes of the errors differ -/
structure Apart (K : PySem.W.Frag) {mg : Str → Option Value} (T : Top K mg) : Prop where
  p10 : PySem.W.kitOne K (.ref T.BadRate.C) (.ref T.BadSizes.C) = some false
  p20 : PySem.W.kitOne K (.ref T.BadDelay.C) (.ref T.BadSizes.C) = some false
  p21 : PySem.W.kitOne K (.ref T.BadDelay.C) (.ref T.BadRate.C) = some false
  p30 : PySem.W.kitOne K (.ref T.BadHold.C) (.ref T.BadSizes.C) = some false
  p31 : PySem.W.kitOne K (.ref T.BadHold.C) (.ref T.BadRate.C) = some false
  p32 : PySem.W.kitOne K (.ref T.BadHold.C) (.ref T.BadDelay.C) = some false
  p40 : PySem.W.kitOne K (.ref T.BadRoom.C) (.ref T.BadSizes.C) = some false
  p41 : PySem.W.kitOne K (.ref T.BadRoom.C) (.ref T.BadRate.C) = some false
  p42 : PySem.W.kitOne K (.ref T.BadRoom.C) (.ref T.BadDelay.C) = some false
  p43 : PySem.W.kitOne K (.ref T.BadRoom.C) (.ref T.BadHold.C) = some false
def spSort (K : PySem.W.Frag) (C5 : Nat → Addr) : Sp := fun vs H Q _ => ∃ (a : Addr) (i : Nat), vs = [.ref a] ∧ i < 5 ∧ H a = some (ExV (.ref (C5 i)) none a) ∧ Q (.str (kindN i)) H
section
variable {P : Program} {w : World} {K : PySem.W.Frag} {mg : Str → Option Value} {base : Heap} (T : Top K mg)
theorem ok_lsort (AP : Apart K T) : FnOk P w K mg base (L2.CX P w) 1 T._law_sort.a T._law_sort.d ["_law_error"] (spSort K T.C5) := by
  refine T._law_sort.f.okX sc__law_sort (fun vs H Q E h => ?_) (fun cdv A outer s H vs Q E hr h => ?_)
  · obtain ⟨a, i, rfl, _⟩ := h
    rfl
  · obtain ⟨a, i, rfl, hi, ha, k⟩ := h
    refine ⟨_, (pss_cons (ps_if (pt_val (pe_callB (show CallR _ _ (rIs2 K) from call_is2) (by rfl) T.b_isinstance PyProof.Rows.boot_isinstance (pa_cons (pv 0) (pa_cons (pe_glob (v := .ref T.BadSizes.C) (by rfl) T.BadSizes.g rfl) pa_nil)))) (pss_one (ps_ret pe_str)) pss_nil)
      (pss_cons (ps_if (pt_val (pe_callB (show CallR _ _ (rIs2 K) from call_is2) (by rfl) T.b_isinstance PyProof.Rows.boot_isinstance (pa_cons (pv 0) (pa_cons (pe_glob (v := .ref T.BadRate.C) (by rfl) T.BadRate.g rfl) pa_nil)))) (pss_one (ps_ret pe_str)) pss_nil)
      (pss_cons (ps_if (pt_val (pe_callB (show CallR _ _ (rIs2 K) from call_is2) (by rfl) T.b_isinstance PyProof.Rows.boot_isinstance (pa_cons (pv 0) (pa_cons (pe_glob (v := .ref T.BadDelay.C) (by rfl) T.BadDelay.g rfl) pa_nil)))) (pss_one (ps_ret pe_str)) pss_nil)
      (pss_cons (ps_if (pt_val (pe_callB (show CallR _ _ (rIs2 K) from call_is2) (by rfl) T.b_isinstance PyProof.Rows.boot_isinstance (pa_cons (pv 0) (pa_cons (pe_glob (v := .ref T.BadHold.C) (by rfl) T.BadHold.g rfl) pa_nil)))) (pss_one (ps_ret pe_str)) pss_nil)
      (pss_cons (ps_if (pt_val (pe_callB (show CallR _ _ (rIs2 K) from call_is2) (by rfl) T.b_isinstance PyProof.Rows.boot_isinstance (pa_cons (pv 0) (pa_cons (pe_glob (v := .ref T.BadRoom.C) (by rfl) T.BadRoom.g rfl) pa_nil)))) (pss_one (ps_ret pe_str)) pss_nil)
      (pss_one (ps_ret pe_non))))))), ?_⟩
    match i, hi, ha, k with
    | 0, _, ha, k =>
      exact ⟨_, rfl, .inr ⟨a, T.BadSizes.C, _, _, true, rfl, ha, T.BadSizes.e, .own _, kit_self, _, rfl, iteT k⟩⟩
    | 1, _, ha, k =>
      refine ⟨_, rfl, .inr ⟨a, T.BadRate.C, _, _, false, rfl, ha, T.BadRate.e, .own _, AP.p10, _, rfl, iteF ?_⟩⟩
      exact ⟨_, rfl, .inr ⟨a, T.BadRate.C, _, _, true, rfl, ha, T.BadRate.e, .own _, kit_self, _, rfl, iteT k⟩⟩
    | 2, _, ha, k =>
      refine ⟨_, rfl, .inr ⟨a, T.BadDelay.C, _, _, false, rfl, ha, T.BadDelay.e, .own _, AP.p20, _, rfl, iteF ?_⟩⟩
      refine ⟨_, rfl, .inr ⟨a, T.BadDelay.C, _, _, false, rfl, ha, T.BadDelay.e, .own _, AP.p21, _, rfl, iteF ?_⟩⟩
      exact ⟨_, rfl, .inr ⟨a, T.BadDelay.C, _, _, true, rfl, ha, T.BadDelay.e, .own _, kit_self, _, rfl, iteT k⟩⟩
    | 3, _, ha, k =>
      refine ⟨_, rfl, .inr ⟨a, T.BadHold.C, _, _, false, rfl, ha, T.BadHold.e, .own _, AP.p30, _, rfl, iteF ?_⟩⟩
      refine ⟨_, rfl, .inr ⟨a, T.BadHold.C, _, _, false, rfl, ha, T.BadHold.e, .own _, AP.p31, _, rfl, iteF ?_⟩⟩
      refine ⟨_, rfl, .inr ⟨a, T.BadHold.C, _, _, false, rfl, ha, T.BadHold.e, .own _, AP.p32, _, rfl, iteF ?_⟩⟩
      exact ⟨_, rfl, .inr ⟨a, T.BadHold.C, _, _, true, rfl, ha, T.BadHold.e, .own _, kit_self, _, rfl, iteT k⟩⟩
    | 4, _, ha, k =>
      refine ⟨_, rfl, .inr ⟨a, T.BadRoom.C, _, _, false, rfl, ha, T.BadRoom.e, .own _, AP.p40, _, rfl, iteF ?_⟩⟩
      refine ⟨_, rfl, .inr ⟨a, T.BadRoom.C, _, _, false, rfl, ha, T.BadRoom.e, .own _, AP.p41, _, rfl, iteF ?_⟩⟩
      refine ⟨_, rfl, .inr ⟨a, T.BadRoom.C, _, _, false, rfl, ha, T.BadRoom.e, .own _, AP.p42, _, rfl, iteF ?_⟩⟩
      refine ⟨_, rfl, .inr ⟨a, T.BadRoom.C, _, _, false, rfl, ha, T.BadRoom.e, .own _, AP.p43, _, rfl, iteF ?_⟩⟩
      exact ⟨_, rfl, .inr ⟨a, T.BadRoom.C, _, _, true, rfl, ha, T.BadRoom.e, .own _, kit_self, _, rfl, iteT k⟩⟩
end
end K39
namespace K39
open PySem PySem.Spec PyProof.Rows L2 PySem.W LamX KA KW KU
open Evl (pss_cut tCut)
/-! ### what is refused -/
theorem c5_exm {K : PySem.W.Frag} {mg : Str → Option Value} (T : Top K mg) {i : Nat} (hi : i < 5) : PySem.W.exmOne K (.ref (T.C5 i)) (.ref T.reel.C) = some true := by
  match i, hi with
  | 0, _ => exact T.BadSizes.exm T.reel
  | 1, _ => exact T.BadRate.exm T.reel
  | 2, _ => exact T.BadDelay.exm T.reel
  | 3, _ => exact T.BadHold.exm T.reel
  | 4, _ => exact T.BadRoom.exm T.reel
def kinds : List V := [.str "sizes", .str "rate", .str "delay", .str "hold", .str "room"]
theorem kinds_at {i : Nat} {x : V} (h : kinds[i]? = some x) : i < 5 ∧ x = .str (kindN i) := by
  have hi : i < 5 := (List.getElem?_eq_some_iff.mp h).1
  refine ⟨hi, ?_⟩
  match i, hi with
  | 0, _ => exact (Option.some.inj h).symm
  | 1, _ => exact (Option.some.inj h).symm
  | 2, _ => exact (Option.some.inj h).symm
  | 3, _ => exact (Option.some.inj h).symm
  | 4, _ => exact (Option.some.inj h).symm
theorem cut_from (xs : List V) (i : Nat) : cutV xs (some (i : Int)) none = xs.drop i := by
  unfold cutV
  rw [HT.sIx_none, HT.sIx_nat]
  by_cases c : i ≤ xs.length
  · rw [Nat.min_eq_left c, List.take_of_length_le (by rw [List.length_drop]; exact Nat.le_refl _)]
  · rw [Nat.min_eq_right (by omega), Nat.sub_self, List.take_zero, List.drop_eq_nil_of_le (by omega)]
/-- good values and bad ones -/
structure RB (K : PySem.W.Frag) (st lg a : Addr) (l : List Int) (rate : Int) (d : Nat) (ho ro : Option Int) (b0 b1 b2 b3 b4 : V) (H : Hp) : Prop where
  g0 : ∃ o, Gk st lg K 10000 13 H b0 o ∧ sizesB 12 o = false
  g1 : Fl b1 ∧ within b1 1 9999 = false
  g2 : Fl b2 ∧ within b2 0 40 = false
  g3 : Std K H st lg b3 ∧ heldB b3 = false
  g4 : Std K H st lg b4 ∧ heldB b4 = false
  ha : H a = some (.lst (l.map V.int))
  na : a ≠ st ∧ a ≠ lg
  ls : Ls l
  r1 : 1 ≤ rate
  r2 : rate ≤ 9999
  d4 : d ≤ 40
  h : Hr ho
  r : Hr ro
theorem RB.kn {K : PySem.W.Frag} {st lg a : Addr} {l : List Int} {rate : Int} {d : Nat} {ho ro : Option Int} {b0 b1 b2 b3 b4 : V} {H H' : Hp} (R : RB K st lg a l rate d ho ro b0 b1 b2 b3 b4 H) (k : KpN st lg H H') : RB K st lg a l rate d ho ro b0 b1 b2 b3 b4 H' :=
  { R with g0 := R.g0.imp fun o q => ⟨q.1.kpN k, q.2⟩, g3 := ⟨R.g3.1.kpN k, R.g3.2⟩, g4 := ⟨R.g4.1.kpN k, R.g4.2⟩, ha := k _ _ R.ha R.na.1 R.na.2 (fun _ z => by cases z) }
def mixL (gs bs : List V) (i : Nat) : List V := gs.take i ++ bs.drop i
theorem RB.wrong {K : PySem.W.Frag} {C5 : Nat → Addr} {st lg a : Addr} {l : List Int} {rate : Int} {d : Nat} {ho ro : Option Int} {b0 b1 b2 b3 b4 : V} {H : Hp} (R : RB K st lg a l rate d ho ro b0 b1 b2 b3 b4 H) (i : Nat) (hi : i < 5) :
    ∃ x y z u v, mixL [.ref a, .int rate, .int (d : Int), hv ho, hv ro] [b0, b1, b2, b3, b4] i = [x, y, z, u, v] ∧ ∀ E : XK, (∀ H', Same H H' → E (.ref (C5 i)) none H') → Wrong K C5 H x y z u v E := by
  obtain ⟨o, p0, q0⟩ := R.g0
  have f0 := p0.gn (show 13 ≤ 1000 by decide)
  obtain ⟨c1, f1⟩ := R.g1.1.pl (K := K) (H := H)
  obtain ⟨c2, f2⟩ := R.g2.1.pl (K := K) (H := H)
  obtain ⟨c3, f3⟩ := R.g3.1.pl
  obtain ⟨c4, f4⟩ := R.g4.1.pl
  have G0 : Gn K H (.ref a) (some (l.map V.int)) := .some (.inl R.ha) (Fl.ints l) (by rw [List.length_map]; have := R.ls.few; omega)
  have s0 := R.ls.sizes
  have s1 := within_ok R.r1 R.r2
  have s2 : within (.int (d : Int)) 0 40 = true := within_ok (show (0 : Int) ≤ (d : Int) by omega) (show (d : Int) ≤ 40 by have := R.d4; omega)
  have s3 := hv_held R.h
  obtain ⟨c5, f5⟩ := hv_pl (K := K) (H := H) ho
  have F : ¬ (true = false) := fun z => nomatch z
  match i, hi with
  | 0, _ => exact ⟨_, _, _, _, _, rfl, fun E hE => ⟨o, c1, c2, c3, c4, 0, f0, f1, f2, f3, f4, by unfold due5; rw [if_pos q0], hE⟩⟩
  | 1, _ => exact ⟨_, _, _, _, _, rfl, fun E hE => ⟨_, c1, c2, c3, c4, 1, G0, f1, f2, f3, f4, by unfold due5; rw [s0, if_neg F, if_pos R.g1.2], hE⟩⟩
  | 2, _ => exact ⟨_, _, _, _, _, rfl, fun E hE => ⟨_, true, c2, c3, c4, 2, G0, .int _, f2, f3, f4, by unfold due5; rw [s0, if_neg F, s1, if_neg F, if_pos R.g2.2], hE⟩⟩
  | 3, _ => exact ⟨_, _, _, _, _, rfl, fun E hE => ⟨_, true, true, c3, c4, 3, G0, .int _, .int _, f3, f4, by unfold due5; rw [s0, if_neg F, s1, if_neg F, s2, if_neg F, if_pos R.g3.2], hE⟩⟩
  | 4, _ => exact ⟨_, _, _, _, _, rfl, fun E hE => ⟨_, true, true, c5, c4, 4, G0, .int _, .int _, f5, f4, by unfold due5; rw [s0, if_neg F, s1, if_neg F, s2, if_neg F, s3, if_neg F, if_pos R.g4.2], hE⟩⟩
def spLrefused (K : PySem.W.Frag) (Pt : Addr) : Sp := fun vs H Q _ => ∃ (st lg cl fv a : Addr) (l : List Int) (rate : Int) (d : Nat) (ho ro : Option Int) (m : Nat), vs = [.ref st, .ref fv] ∧ H fv = some (.tup [.ref a, .int rate, .int (d : Int), hv ho, hv ro]) ∧ H a = some (.lst (l.map V.int)) ∧ (a ≠ st ∧ a ≠ lg) ∧ Ls l ∧ 1 ≤ rate ∧ rate ≤ 9999 ∧ d ≤ 40 ∧ Hr ho ∧ Hr ro ∧ m ≤ 900000 ∧ StAt H st lg cl m ∧ Tabs (tabs Pt) H ∧
  ∀ H', StAt H' st lg cl (m + 10) → Tabs (tabs Pt) H' → KpN st lg H H' → Q (.bl true) H'
theorem off_tup {H : Hp} {st lg cl p : Addr} {m : Nat} {xs : List V} (S : StAt H st lg cl m) (e : H p = some (.tup xs)) : p ≠ st ∧ p ≠ lg := by
  obtain ⟨_, _, _, _, S', _⟩ := S
  exact ⟨ne_of e S'.d (by intro z; cases z), ne_of e S'.l (by intro z; cases z)⟩
section
variable {P : Program} {w : World} {K : PySem.W.Frag} {mg : Str → Option Value} {base : Heap} (T : Top K mg)
theorem ok_lrefused (AP : Apart K T) {c Pt : Addr} (LT : LamT K "_law_refused" s__law_refused T._law_refused.a T._law_refused.d c Pt) (TB : TabB base mg c Pt) : FnG P w K mg base (L2.CX P w) 12 T._law_refused.a T._law_refused.d ["_law_state", "_law_five"] (spLrefused K Pt) := by
  refine fnG_ofC LT sc__law_refused (fun vs H Q E h => ?_) (fun A outer s0 H vs Q E hr hg h => ?_)
  · obtain ⟨st, lg, cl, fv, a, l, rate, d, ho, ro, m, rfl, _⟩ := h
    rfl
  · obtain ⟨st, lg, cl, fv, a, l, rate, d, ho, ro, m, rfl, hfv, ha, na, hls, r1, r2, d4, hh, hro, hm, S, Tb, k⟩ := h
    have hr9 : Room (9 + 2) (A.deeper (envOfC "_law_refused" (defScope s__law_refused) s0.heap.objs.size T._law_refused.a (.ref c))) := hr
    refine ⟨_, (pss_cons (ps_set (i := 2) sc__law_refused.nd rfl (by first | exact .inl rfl | exact .inr rfl) (pe_lst (pa_cons (pe_call (ok_pick T) (hr.mono (by decide)) (by rfl) T._law_pick.m T._law_pick.f.kp (bd__law_pick T) .nil passE (pa_cons (pv 0) (pa_cons (pe_lst (pa_cons pe_non (pa_cons (pe_lst pa_nil) (pa_cons (pe_lst (pa_cons pe_int pa_nil)) (pa_cons (pe_lst (pa_cons (pe_un un_neg pe_int) pa_nil)) (pa_cons (pe_lst (pa_cons pe_bl pa_nil)) (pa_cons (pe_op op_rep (pe_lst (pa_cons pe_int pa_nil)) pe_int) (pa_cons pe_str (pa_cons pe_int (pa_cons (pe_lst (pa_cons pe_non pa_nil)) pa_nil)))))))))) pa_nil))) pa_nil)))
      (pss_cons (ps_expr (pe_bm PySem.F.plainAttrs_list PySem.F.slot_list_append PySem.F.type_list_append mt_append (pv 2) (pa_cons (pe_call (ok_pick T) (hr.mono (by decide)) (by rfl) T._law_pick.m T._law_pick.f.kp (bd__law_pick T) .nil passE (pa_cons (pv 0) (pa_cons (pe_lst (pa_cons pe_non (pa_cons pe_int (pa_cons pe_int (pa_cons pe_bl (pa_cons pe_str pa_nil)))))) pa_nil))) pa_nil)))
      (pss_cons (ps_expr (pe_bm PySem.F.plainAttrs_list PySem.F.slot_list_append PySem.F.type_list_append mt_append (pv 2) (pa_cons (pe_call (ok_pick T) (hr.mono (by decide)) (by rfl) T._law_pick.m T._law_pick.f.kp (bd__law_pick T) .nil passE (pa_cons (pv 0) (pa_cons (pe_lst (pa_cons pe_non (pa_cons (pe_un un_neg pe_int) (pa_cons pe_int (pa_cons pe_bl (pa_cons pe_str pa_nil)))))) pa_nil))) pa_nil)))
      (pss_cons (ps_set (i := 2) sc__law_refused.nd rfl (by first | exact .inl rfl | exact .inr rfl) (pe_op op_cat (pv 2) (pe_lc (own := [("_law_turn", 7)]) (g := (gName 7)) (tt := tYes) rfl sc__law_refused.nd (pi_range1 (by rfl) T.b_range (pa_cons pe_int pa_nil)) (blkOk_by (own := [("_law_turn", 7)]) (N := ["_law_state", "_law_five", "_law_bad", "_law_spot", "_law_due", "_law_some", "_law_work", "_law_turn"]) (sc := defScope s__law_refused) (by decide +kernel)) (fun _ _ _ _ _ => pg_name (i := 7) sc__law_refused.nd rfl (by first | exact .inl rfl | exact .inr rfl)) (fun _ _ _ _ _ => pts_nil) (fun _ _ _ _ _ => (pe_call (ok_pick T) (hr.mono (by decide)) (by rfl) T._law_pick.m T._law_pick.f.kp (bd__law_pick T) .nil passE (pa_cons (pv 0) (pa_cons (pe_lst (pa_cons (pe_un un_neg pe_int) (pa_cons pe_int (pa_cons pe_bl (pa_cons pe_str (pa_cons (pe_lst (pa_cons pe_non pa_nil)) pa_nil)))))) pa_nil)))))))
      (pss_cons (ps_for (passes_of rfl) rfl (pi_enum (by rfl) T.b_enumerate (pa_cons (pe_lst (pa_cons pe_str (pa_cons pe_str (pa_cons pe_str (pa_cons pe_str (pa_cons pe_str pa_nil)))))) pa_nil)) (pg_tup rfl (pgs_cons (pg_name (i := 3) sc__law_refused.nd rfl (by first | exact .inl rfl | exact .inr rfl)) (pgs_cons (pg_name (i := 4) sc__law_refused.nd rfl (by first | exact .inl rfl | exact .inr rfl)) pgs_nil)))
        (pss_cons (ps_set (i := 5) sc__law_refused.nd rfl (by first | exact .inl rfl | exact .inr rfl) (pe_op op_cat (pe_callTy call_list_of (by rfl) T.b_list (by decide +kernel) (pa_cons (pe_slice (show SlR _ (KSE.rSlE K) from KSE.sl_either) (pv 1) po_none (po_some (pv 3))) pa_nil)) (pe_slice sl_list (pv 2) (po_some (pv 3)) po_none)))
      (pss_cut (ps_for (passes_of rfl) rfl (pi_list (pe_lst (pa_cons (pe_glob (v := .ref T.sending.a) (by rfl) T.sending.m rfl) (pa_cons (pe_glob (v := .ref T.strait.a) (by rfl) T.strait.m rfl) pa_nil)))) (pg_name (i := 6) sc__law_refused.nd rfl (by first | exact .inl rfl | exact .inr rfl))
        (pss_one (ps_if (pt_cmpR op_ne (pe_call (ok_lsort T AP) (hr.mono (by decide)) (by rfl) T._law_sort.m T._law_sort.f.kp (bd__law_sort T) .nil passE (pa_cons (pe_caught T TB rfl hr9 (by rfl) (lamS_by (sc := defScope s__law_refused) (by decide +kernel)) rfl (fun _ _ _ _ _ => rfl) (fun A outer s H E f c' h => pe_or (L2.pe_callL (i := 6) (ok_sending T) (h.mono (by decide)) rfl (Or.inr (Or.inr rfl)) T.sending.f.kp (bd_sending T) .nil (passX rfl rfl rfl rfl) (pa_cons (pe_ix (show IxR _ (rIx K) from ix_seq) (pv 5) pe_int (fun _ _ => rfl)) (pa_cons (pe_ix (show IxR _ (rIx K) from ix_seq) (pv 5) pe_int (fun _ _ => rfl)) (pa_cons (pe_ix (show IxR _ (rIx K) from ix_seq) (pv 5) pe_int (fun _ _ => rfl)) (pa_cons (pe_ix (show IxR _ (rIx K) from ix_seq) (pv 5) pe_int (fun _ _ => rfl)) (pa_cons (pe_ix (show IxR _ (rIx K) from ix_seq) (pv 5) pe_int (fun _ _ => rfl)) pa_nil)))))) (L2.pe_callL (i := 6) (ok_strait T) (h.mono (by decide)) rfl (Or.inr (Or.inr rfl)) T.strait.f.kp (bd_strait T) .nil (passX rfl rfl rfl rfl) (pa_cons (pe_ix (show IxR _ (rIx K) from ix_seq) (pv 5) pe_int (fun _ _ => rfl)) (pa_cons (pe_ix (show IxR _ (rIx K) from ix_seq) (pv 5) pe_int (fun _ _ => rfl)) (pa_cons (pe_ix (show IxR _ (rIx K) from ix_seq) (pv 5) pe_int (fun _ _ => rfl)) (pa_cons (pe_ix (show IxR _ (rIx K) from ix_seq) (pv 5) pe_int (fun _ _ => rfl)) (pa_cons (pe_ix (show IxR _ (rIx K) from ix_seq) (pv 5) pe_int (fun _ _ => rfl)) pa_nil)))))))) pa_nil)) (pv 4) (nomark _)) (pss_one (ps_ret pe_bl)) pss_nil)))
      (pss_one (ps_for (passes_of rfl) rfl (pi_list (pe_lst (pa_cons (pe_glob (v := .ref T.is_sending.a) (by rfl) T.is_sending.m rfl) (pa_cons (pe_glob (v := .ref T.is_strait.a) (by rfl) T.is_strait.m rfl) pa_nil)))) (pg_name (i := 6) sc__law_refused.nd rfl (by first | exact .inl rfl | exact .inr rfl))
        (pss_one (ps_if (pt_cmpR op_ne (pe_call (ok_lsort T AP) (hr.mono (by decide)) (by rfl) T._law_sort.m T._law_sort.f.kp (bd__law_sort T) .nil passE (pa_cons (pe_caught T TB rfl hr9 (by rfl) (lamS_by (sc := defScope s__law_refused) (by decide +kernel)) rfl (fun _ _ _ _ _ => rfl) (fun A outer s H E f c' h => pe_or (L2.pe_callL (i := 6) (ok_is_sending T) (h.mono (by decide)) rfl (Or.inr (Or.inr rfl)) T.is_sending.f.kp (bd_is_sending T) .nil (passX rfl rfl rfl rfl) (pa_cons (pe_ix (show IxR _ (rIx K) from ix_seq) (pv 5) pe_int (fun _ _ => rfl)) (pa_cons (pe_ix (show IxR _ (rIx K) from ix_seq) (pv 5) pe_int (fun _ _ => rfl)) (pa_cons (pe_ix (show IxR _ (rIx K) from ix_seq) (pv 5) pe_int (fun _ _ => rfl)) (pa_cons (pe_ix (show IxR _ (rIx K) from ix_seq) (pv 5) pe_int (fun _ _ => rfl)) (pa_cons (pe_ix (show IxR _ (rIx K) from ix_seq) (pv 5) pe_int (fun _ _ => rfl)) (pa_cons pe_non pa_nil))))))) (L2.pe_callL (i := 6) (ok_is_strait T) (h.mono (by decide)) rfl (Or.inr (Or.inr rfl)) T.is_strait.f.kp (bd_is_strait T) .nil (passX rfl rfl rfl rfl) (pa_cons (pe_ix (show IxR _ (rIx K) from ix_seq) (pv 5) pe_int (fun _ _ => rfl)) (pa_cons (pe_ix (show IxR _ (rIx K) from ix_seq) (pv 5) pe_int (fun _ _ => rfl)) (pa_cons (pe_ix (show IxR _ (rIx K) from ix_seq) (pv 5) pe_int (fun _ _ => rfl)) (pa_cons (pe_ix (show IxR _ (rIx K) from ix_seq) (pv 5) pe_int (fun _ _ => rfl)) (pa_cons (pe_ix (show IxR _ (rIx K) from ix_seq) (pv 5) pe_int (fun _ _ => rfl)) (pa_cons pe_non pa_nil))))))))) pa_nil)) (pv 4) (nomark _)) (pss_one (ps_ret pe_bl)) pss_nil)))))))
      (pss_one (ps_ret pe_bl))))))), ?_⟩
    have nfv := off_tup S hfv
    refine ⟨_, rfl, (by show 0 ≤ sizeLine; decide), fun q1 h1 => ⟨(by show 1 ≤ sizeLine; decide), fun q2 h2 => ⟨_, rfl, (by show 1 ≤ sizeLine; decide), fun q3 h3 => ⟨(by show 1 ≤ sizeLine; decide), fun q4 h4 => ⟨(by show 1 ≤ sizeLine; decide), fun q5 h5 => ?_⟩⟩⟩⟩⟩
    refine ⟨q5, 13, [V.int 0], rfl, rfl, upd_same, by decide, by decide, (by show 13 ≤ sizeLine; decide), fun q6 h6 => ⟨(by show 1 ≤ sizeLine; decide), fun q7 h7 => ⟨(by show 9 ≤ sizeLine; decide), fun q8 h8 => ?_⟩⟩⟩
    have t1 := Same.new (o := .lst []) h1
    have t2 := Same.new (o := .lst [V.int 10000]) h2
    have t3 := Same.new (o := .lst [V.int (-1)]) h3
    have t4 := Same.new (o := .lst [V.bl true]) h4
    have t5 := Same.new (o := .lst [V.int 0]) h5
    have t6 := Same.new (o := .lst (List.replicate (13 : Int).toNat [V.int 0]).flatten) h6
    have t7 := Same.new (o := .lst [V.non]) h7
    have t8 := Same.new (o := .lst [V.non, .ref q1, .ref q2, .ref q3, .ref q4, .ref q6, .str "1", .int 5, .ref q7]) h8
    have S1 := S.same t1
    have S2 := S1.same t2
    have S3 := S2.same t3
    have S5 := (S3.same t4).same t5
    have S6 := S5.same t6
    have S7 := S6.same t7
    have S8 := S7.same t8
    have u7 := t7.trans t8
    have u6 := t6.trans u7
    have u5 := t5.trans u6
    have u4 := t4.trans u5
    have u3 := t3.trans u4
    have u2 := t2.trans u3
    have u1 := t1.trans u2
    refine ⟨st, lg, cl, q8, _, m, rfl, upd_same, (S7.off h8).2, (by show 0 < 9; decide), (by show 9 ≤ 1000; decide), by omega, S8, fun b0 H1 hb0 S9 k9 => ?_⟩
    have G0 : ∃ o, Gk st lg K 10000 13 H1 b0 o ∧ sizesB 12 o = false := by
      have n1 := S.off h1
      have n2 := S1.off h2
      have n3 := S2.off h3
      have n4 := S3.off h4
      have n6 := S5.off h6
      have n7 := S6.off h7
      have e1 := k9 _ _ (u2 _ _ (upd_same (H := H) (a := q1) (o := .lst []))) n1.1 n1.2
      have e2 := k9 _ _ (u3 _ _ (upd_same (a := q2) (o := .lst [V.int 10000]))) n2.1 n2.2
      have e3 := k9 _ _ (u4 _ _ (upd_same (a := q3) (o := .lst [V.int (-1)]))) n3.1 n3.2
      have e4 := k9 _ _ (u5 _ _ (upd_same (a := q4) (o := .lst [V.bl true]))) n4.1 n4.2
      have e6 := k9 _ _ (u7 _ _ (upd_same (a := q6) (o := .lst (List.replicate (13 : Int).toNat [V.int 0]).flatten))) n6.1 n6.2
      have e7 := k9 _ _ (t8 _ _ (upd_same (a := q7) (o := .lst [V.non]))) n7.1 n7.2
      simp only [List.mem_cons, List.not_mem_nil, or_false] at hb0
      rcases hb0 with h | h | h | h | h | h | h | h | h <;> subst h
      · exact ⟨_, .non, rfl⟩
      · exact ⟨_, .lst n1 e1 (fun x hx => nomatch hx) (Nat.zero_le _), rfl⟩
      · exact ⟨_, .lst n2 e2 (fun x hx => by rw [List.mem_singleton.mp hx]; exact .int (by decide) (by decide)) (by decide), by decide⟩
      · exact ⟨_, .lst n3 e3 (fun x hx => by rw [List.mem_singleton.mp hx]; exact .int (by decide) (by decide)) (by decide), by decide⟩
      · exact ⟨_, .lst n4 e4 (fun x hx => by rw [List.mem_singleton.mp hx]; exact .bl) (by decide), rfl⟩
      · refine ⟨_, .lst n6 e6 (fun x hx => ?_) (by decide), by decide⟩
        have : x = .int 0 := by
          have e : (List.replicate (13 : Int).toNat [V.int 0]).flatten = List.replicate 13 (V.int 0) := rfl
          rw [e] at hx
          exact List.eq_of_mem_replicate hx
        rw [this]
        exact .int (by decide) (by decide)
      · exact ⟨_, .str _, rfl⟩
      · exact ⟨_, .int _, rfl⟩
      · exact ⟨_, .lst n7 e7 (fun x hx => by rw [List.mem_singleton.mp hx]; exact .non) (by decide), rfl⟩
    have kA : Kp st lg H H1 := (Kp.same u1).trans k9
    have TbA := tabs_kp Tb S kA
    clear t1 t2 t3 t4 t5 t6 t7 t8 S1 S2 S3 S5 S6 S7 S8 u1 u2 u3 u4 u5 u6 u7 h1 h2 h3 h4 h5 h6 h7 h8 k9 hb0
    refine ⟨(by show 1 ≤ sizeLine; decide), fun qb hqb => ?_⟩
    have tb := Same.new (o := .lst [b0]) hqb
    have nb := S9.off hqb
    have ncl := offc S9 hqb
    have hqbH := Kp.free kA S9 hqb
    refine ⟨_, rfl, .inl ⟨rfl, _, SqL.of upd_same⟩, ?_⟩
    refine ⟨_, rfl, (by show 5 ≤ sizeLine; decide), fun q1 h1 => ?_⟩
    have t1 := Same.new (o := .lst [V.non, .int 0, .int 10000, .bl true, .str "1"]) h1
    refine ⟨st, lg, cl, q1, _, m + 1, rfl, upd_same, ((S9.same tb).off h1).2, (by show 0 < 5; decide), (by show 5 ≤ 1000; decide), by omega, (S9.same tb).same t1, fun b1 H2 hb1 S10 k2 => ?_⟩
    have G1 : Fl b1 ∧ within b1 1 9999 = false := by
      simp only [List.mem_cons, List.not_mem_nil, or_false] at hb1
      rcases hb1 with h | h | h | h | h <;> subst h
      · exact ⟨.non, rfl⟩
      · exact ⟨.int _, by decide⟩
      · exact ⟨.int _, by decide⟩
      · exact ⟨.bl _, rfl⟩
      · exact ⟨.str _ (by decide +kernel), rfl⟩
    have k12 := (Kp.same (tb.trans t1)).trans k2
    have eb2 : H2 qb = some (.lst [b0]) := k2 _ _ (t1 _ _ upd_same) nb.1 nb.2
    refine ⟨_, _, _, rfl, rfl, eb2, (by show 1 < sizeLine; decide), ?_⟩
    have S11 := stAt_put (ys := [b0] ++ [b1]) S10 nb.1 nb.2 ncl
    have k13 := Kp.put3 (o := .lst ([b0] ++ [b1])) k12 hqb
    have eb3 : (upd H2 qb (.lst ([b0] ++ [b1]))) qb = some (.lst [b0, b1]) := upd_same
    clear tb t1 S10 k2 k12 eb2 h1 hb1
    refine ⟨_, rfl, .inl ⟨rfl, _, SqL.of eb3⟩, ?_⟩
    generalize upd H2 qb (.lst ([b0] ++ [b1])) = H3 at S11 k13 eb3
    refine ⟨_, rfl, _, rfl, (by show 5 ≤ sizeLine; decide), fun q1 h1 => ?_⟩
    have t1 := Same.new (o := .lst [V.non, .int (-1), .int 41, .bl true, .str "1"]) h1
    refine ⟨st, lg, cl, q1, _, m + 1 + 1, rfl, upd_same, (S11.off h1).2, (by show 0 < 5; decide), (by show 5 ≤ 1000; decide), by omega, S11.same t1, fun b2 H4 hb2 S12 k4 => ?_⟩
    have G2 : Fl b2 ∧ within b2 0 40 = false := by
      simp only [List.mem_cons, List.not_mem_nil, or_false] at hb2
      rcases hb2 with h | h | h | h | h <;> subst h
      · exact ⟨.non, rfl⟩
      · exact ⟨.int _, by decide⟩
      · exact ⟨.int _, by decide⟩
      · exact ⟨.bl _, rfl⟩
      · exact ⟨.str _ (by decide +kernel), rfl⟩
    have k14 := k13.trans ((Kp.same t1).trans k4)
    have eb4 : H4 qb = some (.lst [b0, b1]) := k4 _ _ (t1 _ _ eb3) nb.1 nb.2
    refine ⟨_, _, _, rfl, rfl, eb4, (by show 2 < sizeLine; decide), ?_⟩
    have S13 := stAt_put (ys := [b0, b1] ++ [b2]) S12 nb.1 nb.2 ncl
    have k15 := Kp.put3 (o := .lst ([b0, b1] ++ [b2])) k14 hqb
    have eb5 : (upd H4 qb (.lst ([b0, b1] ++ [b2]))) qb = some (.lst [b0, b1, b2]) := upd_same
    clear t1 S12 k4 k14 eb4 h1 hb2
    refine ⟨_, rfl, ?_⟩
    generalize upd H4 qb (.lst ([b0, b1] ++ [b2])) = H5 at S13 k15 eb5
    refine ⟨2, rfl, by decide, by decide, fun D hD => ?_⟩
    have nD := S13.off hD
    have ncD := offc S13 hD
    refine lc_it (walk_rangeN (n := 2)) (fun i H' => ∃ ys, H' D = some (.lst ys) ∧ ys.length = i ∧ (∀ y ∈ ys, Std K H' st lg y ∧ heldB y = false) ∧ StAt H' st lg cl (m + 1 + 1 + 1 + i) ∧ Kp st lg H5 H') ⟨[], upd_same, rfl, (fun y hy => nomatch hy), S13.same (Same.new hD), .same (Same.new hD)⟩ (fun _ _ _ _ => trivial) ?_ ?_
    · rintro i y H6' H6 hi ⟨ys, eD, hl, hys, S6, k6⟩ ⟨rfl, rfl⟩
      refine ⟨rfl, ?_⟩
      dsimp only [tYes]
      rw [if_pos rfl]
      refine ⟨_, rfl, _, rfl, (by show 1 ≤ sizeLine; decide), fun q1 h1 => ⟨(by show 5 ≤ sizeLine; decide), fun q2 h2 => ?_⟩⟩
      have t1 := Same.new (o := .lst [V.non]) h1
      have t2 := Same.new (o := .lst [V.int (-1), .int 100000, .bl true, .str "1", .ref q1]) h2
      have n1 := S6.off h1
      refine ⟨st, lg, cl, q2, _, m + 1 + 1 + 1 + i, rfl, upd_same, ((S6.same t1).off h2).2, (by show 0 < 5; decide), (by show 5 ≤ 1000; decide), by omega, (S6.same t1).same t2, fun x H7 hx S7 k7 => ?_⟩
      have k67 := (Kp.same (t1.trans t2)).trans k7
      have eD7 := k67 _ _ eD nD.1 nD.2
      have e1 := k7 _ _ (t2 _ _ (upd_same (a := q1) (o := .lst [V.non]))) n1.1 n1.2
      have hx' : Std K H7 st lg x ∧ heldB x = false := by
        simp only [List.mem_cons, List.not_mem_nil, or_false] at hx
        rcases hx with h | h | h | h | h <;> subst h
        · exact ⟨.flat (.int _) (fun _ z => by cases z), by decide⟩
        · exact ⟨.flat (.int _) (fun _ z => by cases z), by decide⟩
        · exact ⟨.flat (.bl _) (fun _ z => by cases z), by decide⟩
        · exact ⟨.flat (.str _) (fun _ z => by cases z), by decide⟩
        · exact ⟨⟨⟨_, .lst e1⟩, fun a z => by cases z; exact n1⟩, rfl⟩
      refine ⟨ys, eD7, Nat.lt_of_lt_of_le (show ys.length < 1000 by omega) (by decide), ys ++ [x], upd_same, by rw [List.length_append, hl]; rfl, fun y hy => ?_, stAt_put S7 nD.1 nD.2 ncD, Kp.put3 (k6.trans k67) hD⟩
      rcases List.mem_append.mp hy with q | q
      · exact ⟨((hys y q).1.kpN (.kp k67)).updL eD7, (hys y q).2⟩
      · rw [List.mem_singleton.mp q]
        exact ⟨hx'.1.updL eD7, hx'.2⟩
    rintro H6 ⟨ys, eD, hl, hys, S6, k6⟩
    obtain ⟨b3, b4, rfl⟩ : ∃ b3 b4, ys = [b3, b4] := by
      match ys, hl with
      | [b3, b4], _ => exact ⟨b3, b4, rfl⟩
    have k16 := k15.trans k6
    have kH6 := kA.trans k16
    refine ⟨qb, D, _, _, rfl, rfl, k6 _ _ eb5 nb.1 nb.2, eD, (by show 5 ≤ sizeLine; decide), fun q hq => ?_⟩
    refine ⟨(by show 5 ≤ sizeLine; decide), fun e he => ?_⟩
    have tq := Same.new (o := .lst ([b0, b1, b2] ++ [b3, b4])) hq
    have te := Same.new (o := .lst kinds) he
    have nq := S6.off hq
    have ne := (S6.same tq).off he
    have tqe := tq.trans te
    have eq0 := te _ _ (upd_same (H := H6) (a := q) (o := .lst ([b0, b1, b2] ++ [b3, b4])))
    have ee0 : (upd (upd H6 q (.lst ([b0, b1, b2] ++ [b3, b4]))) e (.lst kinds)) e = some (.lst kinds) := upd_same
    have k1s := k16.trans (Kp.same tqe)
    have kHs := kA.trans k1s
    have R : RB K st lg a l rate d ho ro b0 b1 b2 b3 b4 (upd (upd H6 q (.lst ([b0, b1, b2] ++ [b3, b4]))) e (.lst kinds)) := ⟨G0.imp fun o q => ⟨q.1.kp k1s, q.2⟩, G1, G2, ⟨(hys b3 List.mem_cons_self).1.kpN (.kp (.same tqe)), (hys b3 List.mem_cons_self).2⟩, ⟨(hys b4 (List.mem_cons_of_mem _ List.mem_cons_self)).1.kpN (.kp (.same tqe)), (hys b4 (List.mem_cons_of_mem _ List.mem_cons_self)).2⟩, kHs _ _ ha na.1 na.2, na, hls, r1, r2, d4, hh, hro⟩
    have Tbs := tabs_kp TbA S9 k1s
    have Ss := (S6.same tqe).mono (show m + 1 + 1 + 1 + 2 ≤ m + 10 by omega)
    have fvs := kHs _ _ hfv nfv.1 nfv.2
    have eq0 : (upd (upd H6 q (.lst ([b0, b1, b2] ++ [b3, b4]))) e (.lst kinds)) q = some (.lst [b0, b1, b2, b3, b4]) := eq0
    rw [show [V.str "sizes", .str "rate", .str "delay", .str "hold", .str "room"] = kinds from rfl]
    refine ⟨e, kinds, rfl, SqL.of upd_same, ?_⟩
    clear G0 G1 G2 tq te tqe k16 kH6 k1s S6 hys eD k6 k15 S13 hD k13 S11 eb3 eb5 TbA kA S9 hqb hqbH S Tb ha hfv
    generalize upd (upd H6 q (.lst ([b0, b1, b2] ++ [b3, b4]))) e (.lst kinds) = Hs at *
    refine for_it (walk_enum (K := K) (a := e) (xs := kinds)) (fun j σ H' => (∃ v3 v4 v5 v6, σ = [some (.ref st), some (.ref fv), some (.ref q), v3, v4, v5, v6, none]) ∧ KpN st lg Hs H' ∧ StAt H' st lg cl (m + 10) ∧ Tabs (tabs Pt) H') ⟨⟨none, none, none, none, rfl⟩, .refl, Ss, Tbs⟩ (fun j σ H' _ z => SqL.of (z.2.1 _ _ ee0 ne.1 ne.2 (fun _ z => by cases z))) ?_ ?_
    · rintro j y σ H1' H1x hj ⟨⟨v3, v4, v5, v6, rfl⟩, kN, S', Tb'⟩ ⟨T', x1, y1, rfl, hT, rfl, h1, h2⟩
      cases h1
      obtain ⟨hj5, rfl⟩ := kinds_at h2
      have tT := Same.new (o := .tup [V.int (j : Int), .str (kindN j)]) hT
      refine ⟨T', _, rfl, SqT.of upd_same, rfl, _, _, rfl, _, _, rfl, rfl, ?_⟩
      have kN := kN.trans (.kp (.same tT))
      have S' := S'.same tT
      have Tb' := Tb'.ext tT
      generalize upd H1' T' (.tup [V.int (j : Int), .str (kindN j)]) = Ha at kN S' Tb'
      have nt : ∀ (o : HO), (∃ xs, o = .tup xs) ∨ (∃ xs, o = .lst xs) → ∀ ps, o ≠ .tbl ps := fun o h ps z => by
        subst z
        rcases h with ⟨_, h⟩ | ⟨_, h⟩ <;> cases h
      have fva := kN _ _ fvs nfv.1 nfv.2 (nt _ (.inl ⟨_, rfl⟩))
      have eqa := kN _ _ eq0 nq.1 nq.2 (nt _ (.inr ⟨_, rfl⟩))
      refine ⟨_, rfl, _, rfl, _, rfl, ?_⟩
      refine take_any (K := K) j (.inr fva) fun c1 Hb sb eb => ?_
      refine ⟨c1, _, rfl, eb.imp SqL.of SqT.of, fun l1 hl1 => ?_⟩
      have tl := Same.new (o := .lst ([V.ref a, .int rate, .int (d : Int), hv ho, hv ro].take j)) hl1
      have eqb := tl _ _ (sb _ _ eqa)
      refine ⟨_, rfl, _, rfl, _, rfl, q, _, rfl, SqL.of eqb, fun l2 hl2 => ?_⟩
      rw [cut_from]
      have t2 := Same.new (o := .lst ([b0, b1, b2, b3, b4].drop j)) hl2
      refine ⟨l1, l2, _, _, rfl, rfl, t2 _ _ upd_same, upd_same, Nat.le_trans (show ([V.ref a, .int rate, .int (d : Int), hv ho, hv ro].take j).length + ([b0, b1, b2, b3, b4].drop j).length ≤ 10 by rw [List.length_take, List.length_drop]; simp only [List.length_cons, List.length_nil]; omega) (by decide), fun s5 hs5 => ?_⟩
      have t5 := Same.new (o := .lst (mixL [V.ref a, .int rate, .int (d : Int), hv ho, hv ro] [b0, b1, b2, b3, b4] j)) hs5
      have sab := sb.trans (tl.trans t2)
      have n5 := (S'.same sab).off hs5
      have s5e := sab.trans t5
      have kN := kN.trans (.kp (.same s5e))
      have S' := S'.same s5e
      have Tb' := Tb'.ext s5e
      have es : (upd (upd (upd Hb l1 (.lst ([V.ref a, .int rate, .int (d : Int), hv ho, hv ro].take j))) l2 (.lst ([b0, b1, b2, b3, b4].drop j))) s5 (.lst (mixL [V.ref a, .int rate, .int (d : Int), hv ho, hv ro] [b0, b1, b2, b3, b4] j))) s5 = some (.lst (mixL [V.ref a, .int rate, .int (d : Int), hv ho, hv ro] [b0, b1, b2, b3, b4] j)) := upd_same
      rw [show [V.ref a, .int rate, .int (d : Int), hv ho, hv ro].take j ++ [b0, b1, b2, b3, b4].drop j = mixL [V.ref a, .int rate, .int (d : Int), hv ho, hv ro] [b0, b1, b2, b3, b4] j from rfl]
      generalize upd (upd (upd Hb l1 (.lst ([V.ref a, .int rate, .int (d : Int), hv ho, hv ro].take j))) l2 (.lst ([b0, b1, b2, b3, b4].drop j))) s5 (.lst (mixL [V.ref a, .int rate, .int (d : Int), hv ho, hv ro] [b0, b1, b2, b3, b4] j)) = Hc at *
      refine ⟨fun σ' H2 => (∃ v6, σ' = [some (.ref st), some (.ref fv), some (.ref q), some (.int (j : Int)), some (.str (kindN j)), some (.ref s5), v6, none]) ∧ KpN st lg Hs H2 ∧ KpN st lg Hc H2 ∧ StAt H2 st lg cl (m + 10) ∧ Tabs (tabs Pt) H2, ?_, ?_⟩
      have kNc := kN
      have kcc : KpN st lg Hc Hc := .refl
      have Sc := S'
      have Tbc := Tb'
      · refine ⟨(by show 2 ≤ sizeLine; decide), fun z hz => ?_⟩
        have tz := Same.new (o := .lst [V.ref T.sending.a, .ref T.strait.a]) hz
        have nz := (Sc).off hz
        refine ⟨z, rfl, ⟨_, SqL.of upd_same⟩, ?_⟩
        have kNz := kNc.trans (.kp (.same tz))
        have kcz := kcc.trans (.kp (.same tz))
        have Sz := Sc.same tz
        have Tbz := Tbc.ext tz
        have ez : (upd Hc z (.lst [V.ref T.sending.a, .ref T.strait.a])) z = some (.lst [V.ref T.sending.a, .ref T.strait.a]) := upd_same
        generalize upd Hc z (.lst [V.ref T.sending.a, .ref T.strait.a]) = Hz at kNz kcz Sz Tbz ez
        refine for_it (walk_list (K := K) (a := z) (xs := [V.ref T.sending.a, .ref T.strait.a])) (fun i σ H' => (∃ v6, σ = [some (.ref st), some (.ref fv), some (.ref q), some (.int (j : Int)), some (.str (kindN j)), some (.ref s5), v6, none]) ∧ KpN st lg Hz H' ∧ StAt H' st lg cl (m + 10) ∧ Tabs (tabs Pt) H') ⟨⟨_, rfl⟩, .refl, Sz, Tbz⟩ (fun i σ H' _ w => SqL.of (w.2.1 _ _ ez nz.1 nz.2 (nt _ (.inr ⟨_, rfl⟩)))) ?_ ?_
        · rintro i y σ H7' H7 hi ⟨⟨v6, rfl⟩, k7, S7, Tb7⟩ ⟨rfl, hx⟩
          have hx2 : y = .ref T.sending.a ∨ y = .ref T.strait.a := by
            match i, hi with
            | 0, _ => exact .inl (Option.some.inj hx).symm
            | 1, _ => exact .inr (Option.some.inj hx).symm
          have k7N := kNz.trans k7
          have es7 := (kcz.trans k7) _ _ es n5.1 n5.2 (nt _ (.inr ⟨_, rfl⟩))
          refine ⟨Tb7, fun H9 x9 Tb9 Q9 hQ9 => ?_⟩
          have S9 := stAt_ext S7 x9
          obtain ⟨x5, y5, z5, u5, v5, em, hW⟩ := (R.kn (k7N.trans (KpN.ext x9))).wrong (C5 := T.C5) j hj5
          have es9 := x9 _ _ es7 (nt _ (.inr ⟨_, rfl⟩))
          rw [em] at es9
          rcases hx2 with rfl | rfl
          · refine .inl ⟨rfl, _, rfl, ix_L (K := K) (i := 0) es9 rfl ⟨_, rfl, ix_L (K := K) (i := 1) es9 rfl ⟨_, rfl, ix_L (K := K) (i := 2) es9 rfl ⟨_, rfl, ix_L (K := K) (i := 3) es9 rfl ⟨_, rfl, ix_L (K := K) (i := 4) es9 rfl ⟨x5, y5, z5, u5, v5, rfl, .inl (hW _ fun H10 s10 => ⟨c5_exm T hj5, fun er her => ?_⟩)⟩⟩⟩⟩⟩⟩
            have n2 := Same.new (o := ExV (.ref (T.C5 j)) none er) her
            have s12 := s10.trans n2
            refine ⟨er, j, rfl, hj5, upd_same, _, rfl, rfl, _, rfl, ?_⟩
            rw [decide_eq_true rfl]
            exact iteF ⟨⟨_, rfl⟩, (k7.trans (KpN.ext x9)).trans (.kp (.same s12)), S9.same s12, Tb9.ext s12⟩
          · refine .inr ⟨rfl, _, rfl, ix_L (K := K) (i := 0) es9 rfl ⟨_, rfl, ix_L (K := K) (i := 1) es9 rfl ⟨_, rfl, ix_L (K := K) (i := 2) es9 rfl ⟨_, rfl, ix_L (K := K) (i := 3) es9 rfl ⟨_, rfl, ix_L (K := K) (i := 4) es9 rfl ⟨x5, y5, z5, u5, v5, rfl, .inl (hW _ fun H10 s10 => ⟨c5_exm T hj5, fun er her => ?_⟩)⟩⟩⟩⟩⟩⟩
            have n2 := Same.new (o := ExV (.ref (T.C5 j)) none er) her
            have s12 := s10.trans n2
            refine ⟨er, j, rfl, hj5, upd_same, _, rfl, rfl, _, rfl, ?_⟩
            rw [decide_eq_true rfl]
            exact iteF ⟨⟨_, rfl⟩, (k7.trans (KpN.ext x9)).trans (.kp (.same s12)), S9.same s12, Tb9.ext s12⟩
        · rintro σ H7 ⟨⟨v6, rfl⟩, k7, S7, Tb7⟩
          exact ⟨⟨_, rfl⟩, kNz.trans k7, kcz.trans k7, S7, Tb7⟩
      · rintro σ' Hd ⟨⟨v6', rfl⟩, kNd, kcd, Sd, Tbd⟩
        refine ⟨(by show 2 ≤ sizeLine; decide), fun z hz => ?_⟩
        have tz := Same.new (o := .lst [V.ref T.is_sending.a, .ref T.is_strait.a]) hz
        have nz := (Sd).off hz
        refine ⟨z, rfl, ⟨_, SqL.of upd_same⟩, ?_⟩
        have kNz := kNd.trans (.kp (.same tz))
        have kcz := kcd.trans (.kp (.same tz))
        have Sz := Sd.same tz
        have Tbz := Tbd.ext tz
        have ez : (upd Hd z (.lst [V.ref T.is_sending.a, .ref T.is_strait.a])) z = some (.lst [V.ref T.is_sending.a, .ref T.is_strait.a]) := upd_same
        generalize upd Hd z (.lst [V.ref T.is_sending.a, .ref T.is_strait.a]) = Hz at kNz kcz Sz Tbz ez
        refine for_it (walk_list (K := K) (a := z) (xs := [V.ref T.is_sending.a, .ref T.is_strait.a])) (fun i σ H' => (∃ v6, σ = [some (.ref st), some (.ref fv), some (.ref q), some (.int (j : Int)), some (.str (kindN j)), some (.ref s5), v6, none]) ∧ KpN st lg Hz H' ∧ StAt H' st lg cl (m + 10) ∧ Tabs (tabs Pt) H') ⟨⟨_, rfl⟩, .refl, Sz, Tbz⟩ (fun i σ H' _ w => SqL.of (w.2.1 _ _ ez nz.1 nz.2 (nt _ (.inr ⟨_, rfl⟩)))) ?_ ?_
        · rintro i y σ H7' H7 hi ⟨⟨v6, rfl⟩, k7, S7, Tb7⟩ ⟨rfl, hx⟩
          have hx2 : y = .ref T.is_sending.a ∨ y = .ref T.is_strait.a := by
            match i, hi with
            | 0, _ => exact .inl (Option.some.inj hx).symm
            | 1, _ => exact .inr (Option.some.inj hx).symm
          have k7N := kNz.trans k7
          have es7 := (kcz.trans k7) _ _ es n5.1 n5.2 (nt _ (.inr ⟨_, rfl⟩))
          refine ⟨Tb7, fun H9 x9 Tb9 Q9 hQ9 => ?_⟩
          have S9 := stAt_ext S7 x9
          obtain ⟨x5, y5, z5, u5, v5, em, hW⟩ := (R.kn (k7N.trans (KpN.ext x9))).wrong (C5 := T.C5) j hj5
          have es9 := x9 _ _ es7 (nt _ (.inr ⟨_, rfl⟩))
          rw [em] at es9
          rcases hx2 with rfl | rfl
          · refine .inl ⟨rfl, _, rfl, ix_L (K := K) (i := 0) es9 rfl ⟨_, rfl, ix_L (K := K) (i := 1) es9 rfl ⟨_, rfl, ix_L (K := K) (i := 2) es9 rfl ⟨_, rfl, ix_L (K := K) (i := 3) es9 rfl ⟨_, rfl, ix_L (K := K) (i := 4) es9 rfl ⟨x5, y5, z5, u5, v5, _, rfl, .inl (hW _ fun H10 s10 => ⟨c5_exm T hj5, fun er her => ?_⟩)⟩⟩⟩⟩⟩⟩
            have n2 := Same.new (o := ExV (.ref (T.C5 j)) none er) her
            have s12 := s10.trans n2
            refine ⟨er, j, rfl, hj5, upd_same, _, rfl, rfl, _, rfl, ?_⟩
            rw [decide_eq_true rfl]
            exact iteF ⟨⟨_, rfl⟩, (k7.trans (KpN.ext x9)).trans (.kp (.same s12)), S9.same s12, Tb9.ext s12⟩
          · refine .inr ⟨rfl, _, rfl, ix_L (K := K) (i := 0) es9 rfl ⟨_, rfl, ix_L (K := K) (i := 1) es9 rfl ⟨_, rfl, ix_L (K := K) (i := 2) es9 rfl ⟨_, rfl, ix_L (K := K) (i := 3) es9 rfl ⟨_, rfl, ix_L (K := K) (i := 4) es9 rfl ⟨x5, y5, z5, u5, v5, _, rfl, .inl (hW _ fun H10 s10 => ⟨c5_exm T hj5, fun er her => ?_⟩)⟩⟩⟩⟩⟩⟩
            have n2 := Same.new (o := ExV (.ref (T.C5 j)) none er) her
            have s12 := s10.trans n2
            refine ⟨er, j, rfl, hj5, upd_same, _, rfl, rfl, _, rfl, ?_⟩
            rw [decide_eq_true rfl]
            exact iteF ⟨⟨_, rfl⟩, (k7.trans (KpN.ext x9)).trans (.kp (.same s12)), S9.same s12, Tb9.ext s12⟩
        · rintro σ H7 ⟨⟨v6, rfl⟩, k7, S7, Tb7⟩
          exact ⟨⟨_, _, _, _, rfl⟩, kNz.trans k7, S7, Tb7⟩
    · rintro σ H' ⟨⟨v3, v4, v5, v6, rfl⟩, kN, S', Tb'⟩
      exact k H' S' Tb' ((KpN.kp kHs).trans kN)
end
end K39
namespace K39
open PySem PySem.Spec PyProof.Rows L2 PySem.W LamX KA KW KU KL KT
open Evl (pss_cut tCut)
/-! ### data small enough to be shown and compared; repr of any value -/
structure Sm (n z : Nat) (d : PyData) : Prop where
  l : d.leavesShort 13 = true
  w : d.weight ≤ n
  s : d.showable = true
  n : d.hasDict = false
  z : d.depth ≤ z
  c : d.canLay0 = true
theorem small_fits {d : PyData} (hl : d.leavesShort 13 = true) (hw : d.weight ≤ 2 ^ 20) : d.shown.length ≤ sizeLine := PyData.shown_fits (by decide) (by decide) hl hw
theorem int_small {i : Int} (h1 : -100000000000 ≤ i) (h2 : i ≤ 100000000000) : (PyData.int i).leavesShort 13 = true ∧ (PyData.int i).weight ≤ 40 ∧ (PyData.int i).showable = true := by
  have hn : i.natAbs < 2 ^ 40 := by omega
  have hl : i.natAbs.log2 ≤ 40 := by
    rcases Nat.eq_zero_or_pos i.natAbs with z | z
    · rw [z]
      decide
    · exact Nat.le_of_lt ((Nat.log2_lt (by omega)).mpr hn)
  have hl2 : i.natAbs.log2 < 40 ∨ i.natAbs = 0 := by
    rcases Nat.eq_zero_or_pos i.natAbs with z | z
    · exact .inr z
    · exact .inl ((Nat.log2_lt (by omega)).mpr hn)
  refine ⟨?_, ?_, ?_⟩
  · simp only [PyData.leavesShort, decide_eq_true_eq]
    exact PyData.shown_int_le (by omega)
  · simp only [PyData.weight]
    split
    · omega
    · rename_i c
      rcases hl2 with q | q
      · omega
      · exact absurd (by simpa using q) c
  · simp only [PyData.showable, decide_eq_true_eq]
    omega
theorem Sm.mono {n m z y : Nat} {d : PyData} (h : Sm n z d) (h1 : n ≤ m) (h2 : z ≤ y) : Sm m y d := ⟨h.l, Nat.le_trans h.w h1, h.s, h.n, Nat.le_trans h.z h2, h.c⟩
theorem sm_int {i : Int} (h1 : -100000000000 ≤ i) (h2 : i ≤ 100000000000) : Sm 40 0 (.int i) := by
  obtain ⟨a, b, c⟩ := int_small h1 h2
  exact ⟨a, b, c, rfl, Nat.le_refl _, rfl⟩
theorem sm_bool {b : Bool} : Sm 17 0 (.bool b) := ⟨rfl, Nat.zero_le _, rfl, rfl, Nat.le_refl _, rfl⟩
theorem sm_all {n z : Nat} : ∀ ds : List PyData, (∀ d ∈ ds, Sm n z d) → PyData.leavesShortAll 13 ds = true ∧ PyData.weightAll ds ≤ (n + 1) * ds.length ∧ PyData.showableAll ds = true ∧ PyData.hasDictAll ds = false ∧ PyData.depthAll ds ≤ z ∧ PyData.canLayAll0 ds = true
  | [], _ => ⟨rfl, Nat.zero_le _, rfl, rfl, Nat.zero_le _, rfl⟩
  | d :: r, h => by
    obtain ⟨a, b, c, e, f, g⟩ := sm_all r fun x hx => h x (List.mem_cons_of_mem _ hx)
    obtain ⟨a', b', c', e', f', g'⟩ := h d List.mem_cons_self
    refine ⟨by simp [PyData.leavesShortAll, a, a'], ?_, by simp [PyData.showableAll, c, c'], by simp [PyData.hasDictAll, e, e'], ?_, by simp [PyData.canLayAll0, g, g']⟩
    · simp only [PyData.weightAll, List.length_cons, Nat.mul_add, Nat.mul_one]
      omega
    · simp only [PyData.depthAll]
      omega
theorem sm_tuple {n z k : Nat} {ds : List PyData} (h : ∀ d ∈ ds, Sm n z d) (hl : ds.length ≤ k) : Sm ((n + 1) * k) (z + 1) (.tuple ds) := by
  obtain ⟨a, b, c, e, f, g⟩ := sm_all ds h
  have hk : (n + 1) * ds.length ≤ (n + 1) * k := Nat.mul_le_mul_left _ hl
  refine ⟨by simpa only [PyData.leavesShort] using a, ?_, by simpa only [PyData.showable] using c, by simpa only [PyData.hasDict] using e, ?_, by simpa only [PyData.canLay0] using g⟩
  · simp only [PyData.weight]
    omega
  · simp only [PyData.depth]
    omega
theorem sm_list {n z k : Nat} {ds : List PyData} (h : ∀ d ∈ ds, Sm n z d) (hl : ds.length ≤ k) : Sm ((n + 1) * k) (z + 1) (.list ds) := by
  obtain ⟨a, b, c, e, f, g⟩ := sm_all ds h
  have hk : (n + 1) * ds.length ≤ (n + 1) * k := Nat.mul_le_mul_left _ hl
  refine ⟨by simpa only [PyData.leavesShort] using a, ?_, by simpa only [PyData.showable] using c, by simpa only [PyData.hasDict] using e, ?_, by simpa only [PyData.canLay0] using g⟩
  · simp only [PyData.weight]
    omega
  · simp only [PyData.depth]
    omega
theorem Sm.repr {n z : Nat} {d : PyData} (h : Sm n z d) (h1 : n ≤ 2 ^ 20) (h2 : z ≤ 60) : d.showable = true ∧ d.hasDict = false ∧ d.depth ≤ 60 ∧ d.shown.length ≤ sizeLine := ⟨h.s, h.n, Nat.le_trans h.z h2, small_fits h.l (Nat.le_trans h.w h1)⟩
theorem Sm.shaped {n z : Nat} {d : PyData} (h : Sm n z d) (h2 : z ≤ 60) : SeqAt.shaped d = true := by
  unfold SeqAt.shaped
  rw [h.c, Bool.true_and, decide_eq_true_eq]
  exact Nat.le_trans h.z (Nat.le_trans h2 (by decide))
theorem dp_rl {α : Type} {K : PySem.W.Frag} {H : Hp} {f : α → List V} {g : α → PyData} (hfg : ∀ p a, H p = some (.tup (f a)) → Dp K H (.ref p) (g a)) : ∀ {us : List V} {as : List α}, RL f H us as → DpAll K H us (as.map g)
  | [], [], _ => .nil
  | [], _ :: _, r => by cases r.1
  | _ :: _, [], r => by cases r.1
  | u :: us, b :: bs, r => by
    obtain ⟨p, a, e1, e2, e3⟩ := r.get (i := 0) (v := u) rfl
    have : b = a := Option.some.inj e2
    subst this e1
    refine .cons (hfg _ _ e3) (dp_rl hfg ⟨by simpa using r.1, fun j v e => ?_⟩)
    exact r.2 (j + 1) v (by simpa using e)
/-- lots as data -/
def lotD (s : List Nat) : PyData := .tuple ((s.map fun n : Nat => (n : Int)).map PyData.int)
theorem dp_lot {K : PySem.W.Frag} {H : Hp} (p : Addr) (s : List Nat) (e : H p = some (.tup (NV s))) : Dp K H (.ref p) (lotD s) := .tup (SqT.of e) (by rw [NV_ints]; exact KA.dp_ints _)
theorem sm_lot {s : List Nat} (h1 : s.length ≤ 10) (h2 : ∀ x ∈ s, x ≤ 1000) : Sm 410 1 (lotD s) := sm_tuple (n := 40) (z := 0) (k := 10) (fun d hd => by
  obtain ⟨i, hi, rfl⟩ := List.mem_map.mp hd
  obtain ⟨n, hn, rfl⟩ := List.mem_map.mp hi
  have := h2 n hn
  exact sm_int (by omega) (by omega)) (by rw [List.length_map, List.length_map]; exact h1)
theorem lots_shaped {ls : List (List Nat)} : SeqAt.shaped (.list (ls.map lotD)) = true := by
  have all : ∀ ls : List (List Nat), PyData.canLayAll0 (ls.map lotD) = true ∧ PyData.depthAll (ls.map lotD) ≤ 1 := fun ls => by
    induction ls with
    | nil => exact ⟨rfl, Nat.zero_le _⟩
    | cons s ls ih =>
      obtain ⟨a, b⟩ := KA.lay_is (s.map fun n : Nat => (n : Int))
      refine ⟨?_, ?_⟩
      · show ((lotD s).canLay0 && PyData.canLayAll0 (ls.map lotD)) = true
        rw [ih.1, Bool.and_true]
        show PyData.canLay0 (.tuple _) = true
        simp only [PyData.canLay0]
        exact a
      · rw [List.map_cons]
        have : (lotD s).depth ≤ 1 := by
          unfold lotD
          simp only [PyData.depth]
          rw [b]
          exact Nat.le_refl _
        simp only [PyData.depthAll]
        have := ih.2
        omega
  obtain ⟨a, b⟩ := all ls
  simp [SeqAt.shaped, PyData.canLay0, PyData.depth, a]
  omega
theorem eqv_lots_nil (ls : List (List Nat)) : PyData.eqv (.list (ls.map lotD)) (.list []) = ls.isEmpty := by
  cases ls <;> rfl
end K39
namespace KCH
open PySem PySem.Spec PyProof.Rows L2 PySem.W
/-! ### a < b < c < d; one of two rules of an operator -/
def tChain3 (r r' r'' : R2) (ta tb tc td : TE) : TE := fun σ H Q => ta σ H fun x H1 => tb σ H1 fun y H2 => r x y H2 fun z H3 => ∃ k, z = .bl k ∧ (if k = true then tc σ H3 fun u H4 => r' y u H4 fun z2 H5 => ∃ k2, z2 = .bl k2 ∧ (if k2 = true then td σ H5 fun v H6 => r'' u v H6 Q else Q (.bl false) H5) else Q (.bl false) H3)
theorem pe_chain3 {X : Cx} {op op' op'' : CmpOp} {r r' r'' : R2} {a b c d : PySem.Expr} {ta tb tc td : TE} {pos : Pos} (ho : OpR X (compareOp op) r) (ho' : OpR X (compareOp op') r') (ho'' : OpR X (compareOp op'') r'') (ha : PE X a ta) (hb : PE X b tb) (hc : PE X c tc) (hd : PE X d td)
    (hm : lastMarks [op, op', op''] [b, c, d] = false := by with_unfolding_all rfl) : PE X (.Compare a [op, op', op''] [b, c, d] pos) (tChain3 r r' r'' ta tb tc td) := by
  refine ⟨fun pins s σ H Q I h => ?_⟩
  refine Compare_chain (thn (ha.run pins s σ H _ I h) fun v s1 ⟨x, H1, I1, r1, q1⟩ => chain_link (thn (hb.run pins s1 σ H1 _ I1 q1) fun u s2 ⟨y, H2, I2, r2, q2⟩ =>
    thn (ho pins s2 σ H2 x y v u _ I2 r1 r2 q2) fun e s3 ⟨z, H3, I3, r3, k, ek, q3⟩ => ?_)) hm
  subst ek
  cases r3
  refine wpAny_truthy_bool ?_
  cases k with
  | false => exact ite_ff ⟨.bl false, H3, I3, rfl, q3⟩
  | true =>
    refine ite_tt (chain_link (thn (hc.run pins s3 σ H3 _ I3 q3) fun t s4 ⟨n, H4, I4, r4, q4⟩ => thn (ho' pins s4 σ H4 y n u t _ I4 r2 r4 q4) fun g s5 ⟨m, H5, I5, r5, k2, ek2, q5⟩ => ?_))
    subst ek2
    cases r5
    refine wpAny_truthy_bool ?_
    cases k2 with
    | false => exact ite_ff ⟨.bl false, H5, I5, rfl, q5⟩
    | true => exact ite_tt (chain_last (thn (hd.run pins s5 σ H5 _ I5 q5) fun f s6 ⟨o, H6, I6, r6, q6⟩ => ho'' pins s6 σ H6 n o t f Q I6 r4 r6 q6))
def rOrO (r r' : R2) : R2 := fun x y H Q => r x y H Q ∨ r' x y H Q
theorem op_or {X : Cx} {f : Value → Value → Sem Value} {r r' : R2} (h : OpR X f r) (h' : OpR X f r') : OpR X f (rOrO r r') := fun pins s σ H x y v u Q I rx ry q => q.elim (h pins s σ H x y v u Q I rx ry) (h' pins s σ H x y v u Q I rx ry)
end KCH
namespace KRB
open PySem PySem.Spec PyProof.Rows L2 PySem.W KA
/-! ### repr of None, of a bool, of data -/
inductive RT (K : PySem.W.Frag) (H : Hp) : V → Str → Prop where
  | non : RT K H .non "None"
  | bl (b : Bool) : RT K H (.bl b) (if b then "True" else "False")
  | ref {a : Addr} {d : PyData} (dp : Dp K H (.ref a) d) (h : d.showable = true ∧ d.hasDict = false ∧ d.depth ≤ 60 ∧ d.shown.length ≤ sizeLine) : RT K H (.ref a) d.shown
def rReprF (K : PySem.W.Frag) : List V → Hp → VK → Prop := fun xs H Q => ∃ (x : V) (t : Str), xs = [x] ∧ RT K H x t ∧ Q (.str t) H
theorem call_reprF {X : Cx} {k : Nat} (hg : X.A.guards = some []) (hr : Room k X.A) : CallR X (.builtin "repr") (rReprF X.K) := by
  intro pins s σ H xs us Q I rv q
  obtain ⟨x, t, rfl, y, q⟩ := q
  obtain ⟨u, rfl, ru⟩ := vals1 rv
  cases y with
  | non =>
    cases (show u = Value.none from ru)
    exact PySem.P.repr_of_none ⟨.str "None", H, I.tok _, ⟨_, rfl⟩, q⟩
  | bl b =>
    cases (show u = Value.bool b from ru)
    exact PySem.P.repr_of_bool ⟨.str (if b then "True" else "False"), H, I.tok _, ⟨_, rfl⟩, q⟩
  | @ref a d dp h => exact call_repr hg hr pins s σ H _ _ Q I rv ⟨a, d, rfl, dp, h.1, h.2.1, h.2.2.1, h.2.2.2, q⟩
end KRB
namespace KA
open PySem PySem.Spec PyProof.Rows L2 PySem.W LamX
section
variable {K : PySem.W.Frag} {x qual : Str} {st : Stmt} {f : Addr} {fd : FuncData}
theorem rev_vals {zs : List V} {ws : List Value} (r : Vals zs ws) : Vals zs.reverse ws.reverse := by
  induction r with
  | nil => exact .nil
  | cons h _ ih =>
    rw [List.reverse_cons, List.reverse_cons]
    exact ih.append (.cons h .nil)
theorem Fun.kwr5 {a b c d e : Str} (F : Fun K x qual st f fd) (h : ∀ (kV doc pm : Value) (an : Option Addr) (cdv ct u v w y z : Value), bindArgs (PySem.W.fnOf x qual (defArgs st) (defBody st) (defScope st) .none kV doc pm an cdv ct) ⟨[], [(e, u), (d, v), (c, w), (b, y), (a, z)]⟩ = pure [(a, z), (b, y), (c, w), (d, v), (e, u)]) :
    KBn K fd [a, b, c, d, e] 0 [e, d, c, b, a] (fun _ ws => ws.reverse) (fun _ zs => zs.reverse) := by
  obtain ⟨oc, od, kV, doc, pm, an, cdv, ct, osl, rfl, lk, hcd⟩ := F.ex
  refine ⟨fun s us ws X l1 l2 => ?_, fun {_ _ zs ws} _ r => rev_vals r⟩
  match us, ws, l1, l2 with
  | [], [u, v, w, y, z], _, _ => exact .of_eq (h kV doc pm an cdv ct u v w y z)
theorem Fun.kwr6 {a b c d e g : Str} (F : Fun K x qual st f fd) (h : ∀ (kV doc pm : Value) (an : Option Addr) (cdv ct t u v w y z : Value), bindArgs (PySem.W.fnOf x qual (defArgs st) (defBody st) (defScope st) .none kV doc pm an cdv ct) ⟨[], [(g, t), (e, u), (d, v), (c, w), (b, y), (a, z)]⟩ = pure [(a, z), (b, y), (c, w), (d, v), (e, u), (g, t)]) :
    KBn K fd [a, b, c, d, e, g] 0 [g, e, d, c, b, a] (fun _ ws => ws.reverse) (fun _ zs => zs.reverse) := by
  obtain ⟨oc, od, kV, doc, pm, an, cdv, ct, osl, rfl, lk, hcd⟩ := F.ex
  refine ⟨fun s us ws X l1 l2 => ?_, fun {_ _ zs ws} _ r => rev_vals r⟩
  match us, ws, l1, l2 with
  | [], [t, u, v, w, y, z], _, _ => exact .of_eq (h kV doc pm an cdv ct t u v w y z)
end
end KA
namespace K39
open PySem PySem.Spec PyProof.Rows L2 PySem.W LamX KA KW KU
open Evl (pss_cut tCut)
/-! ### what stands in the law -/
theorem KpN.tp {st lg cl : Addr} {m : Nat} {H H' : Hp} (S : StAt H st lg cl m) (k : KpN st lg H H') : Tp H H' := fun b xs e => by
  obtain ⟨_, _, _, _, S', _⟩ := S
  exact k b _ e (ne_of e S'.d (by intro z; cases z)) (ne_of e S'.l (by intro z; cases z)) (fun _ z => by cases z)
structure LB (Pt st lg cl a fv q : Addr) (l : List Int) (rate : Int) (d : Nat) (ho ro : Option Int) (m : Nat) (H : Hp) : Prop where
  S : StAt H st lg cl m
  Tb : Tabs (tabs Pt) H
  ha : H a = some (.lst (l.map V.int))
  na : a ≠ st ∧ a ≠ lg
  ls : Ls l
  r1 : 1 ≤ rate
  r2 : rate ≤ 9999
  d4 : d ≤ 40
  h : Hr ho
  r : Hr ro
  hfv : H fv = some (.tup [.ref a, .int rate, .int (d : Int), hv ho, hv ro])
  nq : q ≠ st ∧ q ≠ lg
  L : LnA H q (canAt l d ho ro) (mustAt l d ho) (lastT l.length d ho)
section
variable {Pt st lg cl a fv q : Addr} {l : List Int} {rate : Int} {d : Nat} {ho ro : Option Int} {m : Nat} {H H' : Hp}
theorem LB.kn (B : LB Pt st lg cl a fv q l rate d ho ro m H) (k : KpN st lg H H') {m' : Nat} (S : StAt H' st lg cl m') (Tb : Tabs (tabs Pt) H') : LB Pt st lg cl a fv q l rate d ho ro m' H' := by
  obtain ⟨n, ws, e, r⟩ := B.L
  exact { B with S := S, Tb := Tb, ha := k _ _ B.ha B.na.1 B.na.2 (fun _ z => by cases z), hfv := KpN.tp B.S k _ _ B.hfv, L := ⟨n, ws, k _ _ e B.nq.1 B.nq.2 (fun _ z => by cases z), r.tp (KpN.tp B.S k)⟩ }
theorem LB.same (B : LB Pt st lg cl a fv q l rate d ho ro m H) (s : Same H H') : LB Pt st lg cl a fv q l rate d ho ro m H' := B.kn (.kp (.same s)) (B.S.same s) (B.Tb.ext s)
theorem LB.kp (B : LB Pt st lg cl a fv q l rate d ho ro m H) (k : Kp st lg H H') {m' : Nat} (S : StAt H' st lg cl m') : LB Pt st lg cl a fv q l rate d ho ro m' H' := B.kn (.kp k) S (tabs_kp B.Tb B.S k)
theorem LB.five (B : LB Pt st lg cl a fv q l rate d ho ro m H) : Five H (.ref a) (.int rate) (.int (d : Int)) (hv ho) (hv ro) l rate d ho ro :=
  ⟨⟨a, rfl, .inl B.ha⟩, B.ls, rfl, B.r1, B.r2, rfl, B.d4, rfl, B.h, rfl, B.r⟩
theorem LB.fiveT (B : LB Pt st lg cl a fv q l rate d ho ro m H) {t : Addr} (e : H t = some (.tup (l.map V.int))) : Five H (.ref t) (.int rate) (.int (d : Int)) (hv ho) (hv ro) l rate d ho ro :=
  ⟨⟨t, rfl, .inr e⟩, B.ls, rfl, B.r1, B.r2, rfl, B.d4, rfl, B.h, rfl, B.r⟩
end
theorem Gk.putD {st lg D : Addr} {K : PySem.W.Frag} {B : Int} {k : Nat} {H : Hp} {x : V} {o : Option (List V)} {u : HO} (h : Gk st lg K B k H x o) (n : ∀ b, x = .ref b → b ≠ D) : Gk st lg K B k (upd H D u) x o := by
  cases h with
  | non => exact .non
  | int i => exact .int i
  | str s => exact .str s
  | dK m e => exact .dK m ((upd_ne (n _ rfl)).trans e)
  | lst m e p l => exact .lst m ((upd_ne (n _ rfl)).trans e) p l
  | tup m e p l => exact .tup m ((upd_ne (n _ rfl)).trans e) p l
/-- the law's sending, the law's gap, as they stand -/
def DV (st lg : Addr) (o : Option (List Int)) (H : Hp) (v : V) : Prop := match o with
  | none => v = .non
  | some xs => ∃ p, v = .ref p ∧ (p ≠ st ∧ p ≠ lg) ∧ H p = some (.lst (xs.map V.int))
def GV (o : Option (Nat × Nat)) (H : Hp) (v : V) : Prop := match o with
  | none => v = .non
  | some q => ∃ p, v = .ref p ∧ H p = some (.tup [.int (q.1 : Int), .int (q.2 : Int)])
section
variable {st lg cl : Addr} {m : Nat} {H H' : Hp} {v : V}
theorem DV.kn {o : Option (List Int)} (h : DV st lg o H v) (k : KpN st lg H H') : DV st lg o H' v := by
  cases o with
  | none => exact h
  | some xs =>
    obtain ⟨p, e, n, q⟩ := h
    exact ⟨p, e, n, k _ _ q n.1 n.2 (fun _ z => by cases z)⟩
theorem GV.tp {o : Option (Nat × Nat)} (h : GV o H v) (k : Tp H H') : GV o H' v := by
  cases o with
  | none => exact h
  | some q =>
    obtain ⟨p, e, w⟩ := h
    exact ⟨p, e, k _ _ w⟩
theorem DV.of {o : Option (List Int)} (S : StAt H st lg cl m) (h : AnsL o H v H') : DV st lg o H' v := by
  cases o with
  | none => exact h
  | some xs =>
    obtain ⟨p, e, n, q⟩ := h
    exact ⟨p, e, S.off n, q⟩
theorem GV.of {o : Option (Nat × Nat)} (h : AnsP o H v H') : GV o H' v := by
  cases o with
  | none => exact h
  | some q =>
    obtain ⟨p, e, _, w⟩ := h
    exact ⟨p, e, w⟩
def dueD : Option (List Int) → PyData
  | none => .none
  | some xs => .list (xs.map PyData.int)
def gapD : Option (Nat × Nat) → PyData
  | none => .none
  | some q => .tuple [.int (q.1 : Int), .int (q.2 : Int)]
theorem DV.dp {K : PySem.W.Frag} {o : Option (List Int)} (h : DV st lg o H v) : Dp K H v (dueD o) := by
  cases o with
  | none =>
    have h : v = .non := h
    rw [h]
    exact .non
  | some xs =>
    obtain ⟨p, rfl, _, q⟩ := h
    exact dp_int_list q
theorem GV.dp {K : PySem.W.Frag} {o : Option (Nat × Nat)} (h : GV o H v) : Dp K H v (gapD o) := by
  cases o with
  | none =>
    have h : v = .non := h
    rw [h]
    exact .non
  | some q =>
    obtain ⟨p, rfl, w⟩ := h
    exact .tup (SqT.of w) (.cons (.int _) (.cons (.int _) .nil))
theorem sm_none : Sm 17 0 .none := ⟨rfl, Nat.zero_le _, rfl, rfl, Nat.le_refl _, rfl⟩
theorem sm_due {o : Option (List Int)} (h : ∀ xs, o = some xs → xs.length ≤ 60 ∧ ∀ x ∈ xs, 0 ≤ x ∧ x ≤ 9999) : Sm 2460 1 (dueD o) := by
  cases o with
  | none => exact sm_none.mono (by decide) (by decide)
  | some xs =>
    obtain ⟨h1, h2⟩ := h xs rfl
    exact sm_list (n := 40) (z := 0) (k := 60) (fun d hd => by
      obtain ⟨x, hx, rfl⟩ := List.mem_map.mp hd
      have := h2 x hx
      exact sm_int (by omega) (by omega)) (by rw [List.length_map]; exact h1)
theorem sm_gap {o : Option (Nat × Nat)} (h : ∀ q, o = some q → q.1 ≤ 60 ∧ q.2 ≤ 60) : Sm 82 1 (gapD o) := by
  cases o with
  | none => exact sm_none.mono (by decide) (by decide)
  | some q =>
    obtain ⟨h1, h2⟩ := h q rfl
    refine sm_tuple (n := 40) (z := 0) (k := 2) (fun d hd => ?_) (Nat.le_refl 2)
    rcases List.mem_cons.mp hd with e | hd
    · rw [e]
      exact sm_int (by omega) (by omega)
    · rw [List.mem_singleton.mp hd]
      exact sm_int (by omega) (by omega)
theorem eqvAll_ints : ∀ a : List Int, PyData.eqvAll (a.map PyData.int) (a.map PyData.int) = true
  | [] => rfl
  | x :: a => by
    rw [List.map_cons]
    simp only [PyData.eqvAll, eqvAll_ints a, Bool.and_true]
    exact beq_self_eq_true x
theorem due_eqv (o : Option (List Int)) : PyData.eqv (dueD o) (dueD o) = true := by
  cases o with
  | none => rfl
  | some xs =>
    show PyData.eqv (.list (xs.map PyData.int)) (.list (xs.map PyData.int)) = true
    simp only [PyData.eqv]
    exact eqvAll_ints xs
theorem gap_eqv (o : Option (Nat × Nat)) : PyData.eqv (gapD o) (gapD o) = true := by
  cases o with
  | none => rfl
  | some q =>
    show PyData.eqv (.tuple [.int (q.1 : Int), .int (q.2 : Int)]) (.tuple [.int (q.1 : Int), .int (q.2 : Int)]) = true
    simp only [PyData.eqv]
    exact eqvAll_ints [(q.1 : Int), (q.2 : Int)]
end
theorem due_shaped {o : Option (List Int)} (h : ∀ xs, o = some xs → xs.length ≤ 60 ∧ ∀ x ∈ xs, 0 ≤ x ∧ x ≤ 9999) : SeqAt.shaped (dueD o) = true := (sm_due h).shaped (by decide)
theorem gap_shaped {o : Option (Nat × Nat)} (h : ∀ q, o = some q → q.1 ≤ 60 ∧ q.2 ≤ 60) : SeqAt.shaped (gapD o) = true := (sm_gap h).shaped (by decide)
def dueT : Option (List Int) → Str
  | none => "None"
  | some xs => (PyData.list (xs.map PyData.int)).shown
def gapT : Option (Nat × Nat) → Str
  | none => "None"
  | some q => (PyData.tuple [.int (q.1 : Int), .int (q.2 : Int)]).shown
theorem DV.rt {K : PySem.W.Frag} {st lg : Addr} {o : Option (List Int)} {H : Hp} {v : V} (h : DV st lg o H v) (b : ∀ xs, o = some xs → xs.length ≤ 60 ∧ ∀ x ∈ xs, 0 ≤ x ∧ x ≤ 9999) : KRB.RT K H v (dueT o) := by
  have s := (sm_due b).repr (by decide) (by decide)
  have dp := h.dp (K := K)
  cases o with
  | none =>
    have h : v = .non := h
    rw [h]
    exact .non
  | some xs =>
    obtain ⟨p, rfl, _, q⟩ := h
    exact .ref dp s
theorem GV.rt {K : PySem.W.Frag} {o : Option (Nat × Nat)} {H : Hp} {v : V} (h : GV o H v) (b : ∀ q, o = some q → q.1 ≤ 60 ∧ q.2 ≤ 60) : KRB.RT K H v (gapT o) := by
  have s := (sm_gap b).repr (by decide) (by decide)
  have dp := h.dp (K := K)
  cases o with
  | none =>
    have h : v = .non := h
    rw [h]
    exact .non
  | some q =>
    obtain ⟨p, rfl, w⟩ := h
    exact .ref dp s
/-- two numbers -/
def twoB : Option (List V) → Bool
  | some [.int _, .int _] => true
  | _ => false
theorem two_no {n : Nat} {o : Option (List V)} (h : twoB o = false) : (ticksO n o).isSome = false := by
  match o, h with
  | none, _ => rfl
  | some [], _ => rfl
  | some [_], _ => rfl
  | some (_ :: _ :: _ :: _), _ => rfl
  | some [u, v], h =>
    show Option.isSome (if within v 0 (n : Int) = true then (match u, v with
      | .int s, .int e => if 0 ≤ s ∧ s ≤ e then some (s.toNat, e.toNat) else none
      | _, _ => none) else none) = false
    cases v with
    | int e =>
      cases u with
      | int s => cases h
      | _ => split <;> rfl
    | _ => rfl
theorem two_at {K : PySem.W.Frag} {H : Hp} {x : V} {o : Option (List V)} (R : Rv K H x o) (h : twoB o = true) : ∃ (b : Addr) (s e : Int), x = .ref b ∧ o = some [.int s, .int e] ∧ H b = some (.tup [.int s, .int e]) := by
  cases R with
  | no _ => cases h
  | @tup a xs e p l =>
    match xs, e, h with
    | [], e, h => cases h
    | [u], e, h => cases u <;> cases h
    | u :: v :: _ :: _, e, h => cases u <;> cases v <;> cases h
    | [u, v], e, h =>
      cases u with
      | int s =>
        cases v with
        | int t => exact ⟨a, s, t, rfl, rfl, e⟩
        | _ => cases h
      | _ => cases h
theorem ticks_two (n : Nat) (s e : Int) : (ticksO n (some [.int s, .int e])).isSome = (decide (0 ≤ s) && (decide (s ≤ e) && decide (e ≤ (n : Int)))) := by
  show Option.isSome (if (decide (0 ≤ e) && decide (e ≤ (n : Int))) = true then (if 0 ≤ s ∧ s ≤ e then some (s.toNat, e.toNat) else none) else none) = _
  by_cases c1 : 0 ≤ s
  · by_cases c2 : s ≤ e
    · rw [decide_eq_true c1, decide_eq_true c2, decide_eq_true (show 0 ≤ e by omega), if_pos (show 0 ≤ s ∧ s ≤ e from ⟨c1, c2⟩)]
      by_cases c3 : e ≤ (n : Int)
      · rw [decide_eq_true c3]
        rfl
      · rw [decide_eq_false c3]
        rfl
    · rw [decide_eq_true c1, decide_eq_false c2, if_neg (show ¬ (0 ≤ s ∧ s ≤ e) from fun z => c2 z.2)]
      split <;> rfl
  · rw [decide_eq_false c1, if_neg (show ¬ (0 ≤ s ∧ s ≤ e) from fun z => c1 z.1)]
    split <;> rfl
theorem two_eqv (ys : List V) : PyData.eqv (.list (ys.map fun y => .bool (isNum y))) (.list [.bool true, .bool true]) = twoB (some ys) := by
  match ys with
  | [] => rfl
  | [u] => cases u <;> rfl
  | [u, v] => cases u <;> cases v <;> rfl
  | u :: v :: x :: r => cases u <;> cases v <;> rfl
theorem dp_bools {K : PySem.W.Frag} {H : Hp} : ∀ ys : List V, DpAll K H (ys.map fun y => V.bl (isNum y)) (ys.map fun y => .bool (isNum y))
  | [] => .nil
  | y :: ys => .cons (.bl _) (dp_bools ys)
theorem bools_lay : ∀ ys : List V, PyData.canLayAll0 (ys.map fun y => .bool (isNum y)) = true ∧ PyData.depthAll (ys.map fun y => .bool (isNum y)) = 0
  | [] => ⟨rfl, rfl⟩
  | y :: ys => by
    obtain ⟨h1, h2⟩ := bools_lay ys
    exact ⟨by simp [PyData.canLayAll0, PyData.canLay0, h1], by simp [PyData.depthAll, PyData.depth, h2]⟩
theorem bools_shaped (ys : List V) : SeqAt.shaped (.list (ys.map fun y => .bool (isNum y))) = true := by
  obtain ⟨h1, h2⟩ := bools_lay ys
  simp [SeqAt.shaped, PyData.canLay0, PyData.depth, h1, h2]
theorem gv_rv {K : PySem.W.Frag} {H : Hp} {v : V} {o : Option (Nat × Nat)} (h : GV o H v) : ∃ o', Rv K H v o' := by
  cases o with
  | none =>
    have h : v = .non := h
    rw [h]
    exact ⟨_, .no .non⟩
  | some p =>
    obtain ⟨b, rfl, e⟩ := h
    refine ⟨_, .tup e (fun x hx => ?_) (by show 2 ≤ 1000; decide)⟩
    rcases List.mem_cons.mp hx with q | hx
    · rw [q]; exact .int _
    · rw [List.mem_singleton.mp hx]; exact .int _
theorem gap_ticks {K : PySem.W.Frag} {H : Hp} {v : V} {og : Option (Nat × Nat)} {n : Nat} {b : Nat → Nat → Bool} (h : GV og H v) (f : First b n og) : ∃ o', Rv K H v o' ∧ pairB b (ticksO n o') = og.isSome := by
  cases og with
  | none =>
    have h : v = .non := h
    rw [h]
    exact ⟨_, .no .non, rfl⟩
  | some p =>
    obtain ⟨a, rfl, e⟩ := h
    refine ⟨_, .tup e (fun x hx => ?_) (by show 2 ≤ 1000; decide), ?_⟩
    · rcases List.mem_cons.mp hx with q | hx
      · rw [q]; exact .int _
      · rw [List.mem_singleton.mp hx]; exact .int _
    · have h1 := f.se
      have h2 := f.en
      have e1 : ticksO n (some [.int (p.1 : Int), .int (p.2 : Int)]) = some p := by
        show (if within (.int (p.2 : Int)) 0 (n : Int) = true then (if 0 ≤ (p.1 : Int) ∧ (p.1 : Int) ≤ (p.2 : Int) then some ((p.1 : Int).toNat, (p.2 : Int).toNat) else none) else none) = some p
        rw [if_pos (within_ok (by omega) (by omega)), if_pos ⟨by omega, by omega⟩, Int.toNat_natCast, Int.toNat_natCast]
      rw [e1]
      exact f.yes
theorem sent_ints (rate : Int) (can must : Nat → Int) (n : Nat) (xs : List Int) : sentO rate can must n (some (xs.map V.int)) = sentB rate can must n xs := by
  show (decide ((xs.map V.int).length = n) && (((xs.map V.int).all fun x => within x 0 rate) && fitsB can must n ((xs.map V.int).map intOf))) = _
  rw [List.length_map, List.all_map, int_of]
  rfl
theorem own_sent {l : List Int} {rate : Int} {d : Nat} {ho ro : Option Int} {xs : List Int} (h : Ls l) (hr : Hr ro) (r1 : 1 ≤ rate) (hx : ∀ ys, dueL l rate d ho ro = some ys → xs = ys) : sentL l rate d ho ro (some (xs.map V.int)) = (dueL l rate d ho ro).isSome := by
  unfold sentL
  rw [sent_ints]
  cases c : enoughB rate (canAt l d ho ro) (mustAt l d ho) (lastT l.length d ho) with
  | true =>
    have e : dueL l rate d ho ro = some (stepsL rate (canAt l d ho ro) (lastT l.length d ho)) := by
      unfold dueL dueO
      rw [if_pos c]
    rw [e, hx _ e]
    exact steps_sent (can_mono h hr d ho) rfl (by omega) c
  | false =>
    have e : dueL l rate d ho ro = none := by
      unfold dueL dueO
      rw [c]
      rfl
    rw [e]
    cases cs : sentB rate (canAt l d ho ro) (mustAt l d ho) (lastT l.length d ho) xs with
    | false => rfl
    | true =>
      rw [sent_enough (can := canAt l d ho ro) rfl cs] at c
      cases c
theorem due_bound {l : List Int} {rate : Int} {d : Nat} {ho ro : Option Int} (h : Ls l) (hr : Hr ro) (r1 : 1 ≤ rate) (r2 : rate ≤ 9999) (d4 : d ≤ 40) : ∀ xs, dueL l rate d ho ro = some xs → xs.length ≤ 60 ∧ ∀ x ∈ xs, 0 ≤ x ∧ x ≤ 9999 := by
  intro xs e
  unfold dueL dueO at e
  split at e
  · cases e
    rw [steps_len]
    refine ⟨last_le l.length d ho h.few d4, fun x hx => ?_⟩
    obtain ⟨t, _, rfl⟩ := List.mem_map.mp hx
    have := come_step (rate := rate) (can_mono h hr d ho) (by omega) t
    omega
  · cases e
end K39
namespace K39
open PySem PySem.Spec PyProof.Rows L2 PySem.W LamX KA KW KU
open Evl (pss_cut tCut)
/-! ### the law's body, read -/
theorem FnG.w {P : Program} {w : World} {K : PySem.W.Frag} {mg : Str → Option Value} {base : Heap} {CX : CXT} {k : Nat} {f : Addr} {fd : FuncData} {ps : List Str} {sp : Sp} {fs : List Addr} {H0 : Hp} {h0 : Heap} (F : FnG P w K mg base CX k f fd ps sp) : FnW P w K mg base fs H0 h0 CX k f fd ps sp :=
  ⟨F.len, fun A outer s H args us vs Q E hr hg e0 _ _ b r h => F.run A outer s H args us vs Q E hr hg e0 b r h⟩
theorem since_self {Z : Cx} (h : Z.ex = []) : Since Z Z.fs Z.H_0 Z.s_0.heap := ⟨Un.kept fun _ _ z => z, fun _ hb => .inl hb, h⟩
section
variable {P : Program} {w : World} {K : PySem.W.Frag} {mg : Str → Option Value} {base : Heap} (T : Top K mg)
noncomputable def lawR (AP : Apart K T) {c Pt : Addr} (LT : LamT K "_law_refused" s__law_refused T._law_refused.a T._law_refused.d c Pt) (TB : TabB base mg c Pt) {cdv : Value} {A : Around} {outer : List Env} {s0 : Shared} {H : Hp} {E : XK} (hr : Room 12 (A.deeper (envOfC "law" (defScope s_law) s0.heap.objs.size T.law.a cdv))) (hg : A.guards = some []) :
    { t : TS // PSs (cxOf (L2.CX P w) P w K mg base ["_law_script", "_law_state", "_law_turn", "_law_lots", "_law_pace", "_law_wait_here", "_law_stock", "_law_space", "_law_five", "_law_line_here", "_law_due", "_law_gap", "_law_told", "_law_own", "_law_lap", "_law_item", "_law_found", "_law_drawn", "_law_some", "_law_pair", "_law_is_two", "_law_is_in", "_law_tick", "_law_one"] "law" (defScope s_law) T.law.a cdv A outer s0 H E) (defBody s_law) t } :=
  ⟨_, (pss_cons (ps_set (i := 1) sc_law.nd rfl (by first | exact .inl rfl | exact .inr rfl) (pe_call (ok_begun T) (hr.mono (by decide)) (by rfl) T._law_begun.m T._law_begun.f.kp (bd__law_begun T) .nil passE (pa_cons (pv 0) pa_nil)))
      (pss_cons (ps_for (passes_of rfl) rfl (pi_range1 (by rfl) T.b_range (pa_cons (pe_op op_add pe_int (pe_callB (call_min2 rfl) (by rfl) T.b_min PyProof.Rows.boot_min (pa_cons (pe_callB call_len_seq (by rfl) T.b_len PySem.boot_len (pa_cons (pv 0) pa_nil)) (pa_cons pe_int pa_nil)))) pa_nil)) (pg_name (i := 2) sc_law.nd rfl (by first | exact .inl rfl | exact .inr rfl))
        (pss_cons (ps_asg (pe_tup (pa_cons (pe_call (ok_lsizes T) (hr.mono (by decide)) (by rfl) T._law_sizes.m T._law_sizes.f.kp (bd__law_sizes T) .nil passE (pa_cons (pv 1) (pa_cons pe_int pa_nil))) (pa_cons (pe_call (ok_pick T) (hr.mono (by decide)) (by rfl) T._law_pick.m T._law_pick.f.kp (bd__law_pick T) .nil passE (pa_cons (pv 1) (pa_cons (pe_lst (pa_cons pe_int (pa_cons pe_int (pa_cons pe_int (pa_cons pe_int (pa_cons pe_int (pa_cons pe_int pa_nil))))))) pa_nil))) pa_nil))) (pg_tup rfl (pgs_cons (pg_name (i := 3) sc_law.nd rfl (by first | exact .inl rfl | exact .inr rfl)) (pgs_cons (pg_name (i := 4) sc_law.nd rfl (by first | exact .inl rfl | exact .inr rfl)) pgs_nil))))
      (pss_cons (ps_set (i := 5) sc_law.nd rfl (by first | exact .inl rfl | exact .inr rfl) (pe_call (ok_pick T) (hr.mono (by decide)) (by rfl) T._law_pick.m T._law_pick.f.kp (bd__law_pick T) .nil passE (pa_cons (pv 1) (pa_cons (pe_lst (pa_cons pe_int (pa_cons pe_int (pa_cons pe_int (pa_cons pe_int (pa_cons pe_int (pa_cons (pe_call (ok_draw T) (hr.mono (by decide)) (by rfl) T._law_draw.m T._law_draw.f.kp (bd__law_draw T) .nil passE (pa_cons (pv 1) (pa_cons pe_int pa_nil))) pa_nil))))))) pa_nil))))
      (pss_cut (ps_if (pt_cmpR op_eq (pe_call (ok_draw T) (hr.mono (by decide)) (by rfl) T._law_draw.m T._law_draw.f.kp (bd__law_draw T) .nil passE (pa_cons (pv 1) (pa_cons pe_int pa_nil))) pe_int (nomark _)) (pss_one (ps_par (i := 3) (j := 5) rfl sc_law.nd rfl rfl (by decide) rfl rfl (pa_cons (pe_call (ok_lsizes T) (hr.mono (by decide)) (by rfl) T._law_sizes.m T._law_sizes.f.kp (bd__law_sizes T) .nil passE (pa_cons (pv 1) (pa_cons pe_int pa_nil))) (pa_cons (pe_call (ok_pick T) (hr.mono (by decide)) (by rfl) T._law_pick.m T._law_pick.f.kp (bd__law_pick T) .nil passE (pa_cons (pv 1) (pa_cons (pe_lst (pa_cons (pv 5) (pa_cons pe_int (pa_cons (pe_call (ok_draw T) (hr.mono (by decide)) (by rfl) T._law_draw.m T._law_draw.f.kp (bd__law_draw T) .nil passE (pa_cons (pv 1) (pa_cons pe_int pa_nil))) pa_nil)))) pa_nil))) pa_nil)) (by rfl))) pss_nil)
      (pss_cons (ps_set (i := 6) sc_law.nd rfl (by first | exact .inl rfl | exact .inr rfl) (pe_call (ok_pick T) (hr.mono (by decide)) (by rfl) T._law_pick.m T._law_pick.f.kp (bd__law_pick T) .nil passE (pa_cons (pv 1) (pa_cons (pe_lst (pa_cons pe_non (pa_cons pe_non (pa_cons pe_int (pa_cons pe_int (pa_cons (pe_call (ok_draw T) (hr.mono (by decide)) (by rfl) T._law_draw.m T._law_draw.f.kp (bd__law_draw T) .nil passE (pa_cons (pv 1) (pa_cons pe_int pa_nil))) pa_nil)))))) pa_nil))))
      (pss_cons (ps_set (i := 7) sc_law.nd rfl (by first | exact .inl rfl | exact .inr rfl) (pe_call (ok_pick T) (hr.mono (by decide)) (by rfl) T._law_pick.m T._law_pick.f.kp (bd__law_pick T) .nil passE (pa_cons (pv 1) (pa_cons (pe_lst (pa_cons pe_non (pa_cons pe_non (pa_cons (pe_callB (cr_max rfl) (by rfl) T.b_max (by decide +kernel) (pa_cons (pv 3) pa_nil)) (pa_cons (pe_op op_add (pe_callB (cr_max rfl) (by rfl) T.b_max (by decide +kernel) (pa_cons (pv 3) pa_nil)) (pe_call (ok_draw T) (hr.mono (by decide)) (by rfl) T._law_draw.m T._law_draw.f.kp (bd__law_draw T) .nil passE (pa_cons (pv 1) (pa_cons pe_int pa_nil)))) (pa_cons (pe_call (ok_draw T) (hr.mono (by decide)) (by rfl) T._law_draw.m T._law_draw.f.kp (bd__law_draw T) .nil passE (pa_cons (pv 1) (pa_cons pe_int pa_nil))) pa_nil)))))) pa_nil))))
      (pss_cons (ps_par (i := 8) (j := 9) rfl sc_law.nd rfl rfl (by decide) rfl rfl (pa_cons (pe_tup (pa_cons (pv 3) (pa_cons (pv 4) (pa_cons (pv 5) (pa_cons (pv 6) (pa_cons (pv 7) pa_nil)))))) (pa_cons (pe_call (ok_lline T) (hr.mono (by decide)) (by rfl) T._law_line.m T._law_line.f.kp (bd__law_line T) .nil passE (pa_cons (pv 3) (pa_cons (pv 5) (pa_cons (pv 6) (pa_cons (pv 7) pa_nil))))) pa_nil)) (by rfl))
      (pss_cons (ps_par (i := 10) (j := 11) rfl sc_law.nd rfl rfl (by decide) rfl rfl (pa_cons (pe_call (ok_lgreedy T) (hr.mono (by decide)) (by rfl) T._law_greedy.m T._law_greedy.f.kp (bd__law_greedy T) .nil passE (pa_cons (pv 9) (pa_cons (pv 4) pa_nil))) (pa_cons (pe_call (ok_lfirst_strait T) (hr.mono (by decide)) (by rfl) T._law_first_strait.m T._law_first_strait.f.kp (bd__law_first_strait T) .nil passE (pa_cons (pv 9) (pa_cons (pv 4) pa_nil))) pa_nil)) (by rfl))
      (pss_cons (ps_set (i := 12) sc_law.nd rfl (by first | exact .inl rfl | exact .inr rfl) (pe_call (ok_sending T) (hr.mono (by decide)) (by rfl) T.sending.m T.sending.f.kp (bd_sending T) .nil passE (pa_cons (pv 3) (pa_cons (pv 4) (pa_cons (pv 5) (pa_cons (pv 6) (pa_cons (pv 7) pa_nil)))))))
      (pss_cons (ps_if (PW.pt (pw_or (pt_cmpR op_ne (pe_cmpR (show OpR _ _ KIN.rIsN from op_isN) (pv 10) pe_non (nomark _)) (pe_cmpR (show OpR _ _ KIN.rIsntN from KIN.op_isntN) (pv 11) pe_non (nomark _)) (nomark _)) (pw_or1 (pt_cmpR op_ne (pe_callB (show CallR _ _ (KRB.rReprF K) from KRB.call_reprF hg hr) (by rfl) T.b_repr (by decide +kernel) (pa_cons (pv 12) pa_nil)) (pe_callB (show CallR _ _ (KRB.rReprF K) from KRB.call_reprF hg hr) (by rfl) T.b_repr (by decide +kernel) (pa_cons (pv 10) pa_nil)) (nomark _))))) (pss_one (ps_ret pe_bl)) pss_nil)
      (pss_cut (ps_if (pt_cmpR (show OpR _ _ KIN.rIsntN from KIN.op_isntN) (pv 12) pe_non (nomark _)) (pss_one (ps_expr (pe_bm PySem.F.plainAttrs_list PySem.F.slot_list_append PySem.F.type_list_append mt_append (pv 12) (pa_cons pe_non pa_nil)))) pss_nil)
      (pss_cons (ps_if (pt_cmpR op_ne (pe_callB (show CallR _ _ (KRB.rReprF K) from KRB.call_reprF hg hr) (by rfl) T.b_repr (by decide +kernel) (pa_cons (pe_call (ok_sending T) (hr.mono (by decide)) (by rfl) T.sending.m T.sending.f.kp (bd_sending T) .nil passE (pa_cons (pv 3) (pa_cons (pv 4) (pa_cons (pv 5) (pa_cons (pv 6) (pa_cons (pv 7) pa_nil)))))) pa_nil)) (pe_callB (show CallR _ _ (KRB.rReprF K) from KRB.call_reprF hg hr) (by rfl) T.b_repr (by decide +kernel) (pa_cons (pv 10) pa_nil)) (nomark _)) (pss_one (ps_ret pe_bl)) pss_nil)
      (pss_cons (ps_if (pt_cmpR op_ne (pe_callB (show CallR _ _ (KRB.rReprF K) from KRB.call_reprF hg hr) (by rfl) T.b_repr (by decide +kernel) (pa_cons (pe_call (ok_strait T) (hr.mono (by decide)) (by rfl) T.strait.m T.strait.f.kp (bd_strait T) .nil passE (pa_cons (pv 3) (pa_cons (pv 4) (pa_cons (pv 5) (pa_cons (pv 6) (pa_cons (pv 7) pa_nil)))))) pa_nil)) (pe_callB (show CallR _ _ (KRB.rReprF K) from KRB.call_reprF hg hr) (by rfl) T.b_repr (by decide +kernel) (pa_cons (pv 11) pa_nil)) (nomark _)) (pss_one (ps_ret pe_bl)) pss_nil)
      (pss_cons (ps_if (pt_cmpR (op_neD hr.units) (pe_kw (ok_sending T) (hr.mono (by decide)) (by rfl) T.sending.m T.sending.f.kp (KA.Fun.kwr5 T.sending.f fun _ _ _ _ _ _ _ _ _ _ _ => rfl) passE (pk_cons (pv 7) (pk_cons (pv 6) (pk_cons (pv 5) (pk_cons (pv 4) (pk_cons (pe_callTy call_tuple_of (by rfl) T.b_tuple (by decide +kernel) (pa_cons (pv 3) pa_nil)) pk_nil)))))) (pv 10) (nomark _)) (pss_one (ps_ret pe_bl)) pss_nil)
      (pss_cons (ps_if (pt_cmpR (op_neD hr.units) (pe_kw (ok_strait T) (hr.mono (by decide)) (by rfl) T.strait.m T.strait.f.kp (KA.Fun.kwr5 T.strait.f fun _ _ _ _ _ _ _ _ _ _ _ => rfl) passE (pk_cons (pv 7) (pk_cons (pv 6) (pk_cons (pv 5) (pk_cons (pv 4) (pk_cons (pe_callTy call_tuple_of (by rfl) T.b_tuple (by decide +kernel) (pa_cons (pv 3) pa_nil)) pk_nil)))))) (pv 11) (nomark _)) (pss_one (ps_ret pe_bl)) pss_nil)
      (pss_cut (ps_set (i := 13) sc_law.nd rfl (by first | exact .inl rfl | exact .inr rfl) (pe_ifExp (pt_cmpR (show OpR _ _ KIN.rIsntN from KIN.op_isntN) (pv 10) pe_non (nomark _)) (pv 10) (pe_lc (own := [("_law_tick", 22)]) (g := (gName 22)) (tt := tYes) rfl sc_law.nd (pi_list (pe_slice sl_list (pv 9) (po_some pe_int) po_none)) (blkOk_by (own := [("_law_tick", 22)]) (N := ["_law_script", "_law_state", "_law_turn", "_law_lots", "_law_pace", "_law_wait_here", "_law_stock", "_law_space", "_law_five", "_law_line_here", "_law_due", "_law_gap", "_law_told", "_law_own", "_law_lap", "_law_item", "_law_found", "_law_drawn", "_law_some", "_law_pair", "_law_is_two", "_law_is_in", "_law_tick", "_law_one"]) (sc := defScope s_law) (by decide +kernel)) (fun _ _ _ _ _ => pg_name (i := 22) sc_law.nd rfl (by first | exact .inl rfl | exact .inr rfl)) (fun _ _ _ _ _ => pts_nil) (fun _ _ _ _ _ => (pe_call (ok_draw T) (hr.mono (by decide)) (by rfl) T._law_draw.m T._law_draw.f.kp (bd__law_draw T) .nil passE (pa_cons (pv 1) (pa_cons (pe_op op_add (pv 4) pe_int) pa_nil)))))))
      (pss_cut (ps_for (passes_of rfl) rfl (pi_list (pe_op op_cat (pe_lst (pa_cons (pv 13) (pa_cons (pe_callTy call_tuple_of (by rfl) T.b_tuple (by decide +kernel) (pa_cons (pv 13) pa_nil)) pa_nil))) (pe_lc (own := [("_law_lap", 14)]) (g := (gName 14)) (tt := tYes) rfl sc_law.nd (pi_range1 (by rfl) T.b_range (pa_cons pe_int pa_nil)) (blkOk_by (own := [("_law_lap", 14)]) (N := ["_law_script", "_law_state", "_law_turn", "_law_lots", "_law_pace", "_law_wait_here", "_law_stock", "_law_space", "_law_five", "_law_line_here", "_law_due", "_law_gap", "_law_told", "_law_own", "_law_lap", "_law_item", "_law_found", "_law_drawn", "_law_some", "_law_pair", "_law_is_two", "_law_is_in", "_law_tick", "_law_one"]) (sc := defScope s_law) (by decide +kernel)) (fun _ _ _ _ _ => pg_name (i := 14) sc_law.nd rfl (by first | exact .inl rfl | exact .inr rfl)) (fun _ _ _ _ _ => pts_nil) (fun _ _ _ _ _ => (pe_call (ok_lbent T) (hr.mono (by decide)) (by rfl) T._law_bent.m T._law_bent.f.kp (bd__law_bent T) .nil passE (pa_cons (pv 1) (pa_cons (pv 13) (pa_cons (pv 4) pa_nil)))))))) (pg_name (i := 15) sc_law.nd rfl (by first | exact .inl rfl | exact .inr rfl))
        (pss_cut (ps_set (i := 15) sc_law.nd rfl (by first | exact .inl rfl | exact .inr rfl) (pe_ifExp (pt_cmpR op_eq (pe_call (ok_draw T) (hr.mono (by decide)) (by rfl) T._law_draw.m T._law_draw.f.kp (bd__law_draw T) .nil passE (pa_cons (pv 1) (pa_cons pe_int pa_nil))) pe_int (nomark _)) (pe_call (ok_lbent T) (hr.mono (by decide)) (by rfl) T._law_bent.m T._law_bent.f.kp (bd__law_bent T) .nil passE (pa_cons (pv 1) (pa_cons (pv 15) (pa_cons (pv 4) pa_nil)))) (pv 15)))
      (pss_cons (ps_set (i := 16) sc_law.nd rfl (by first | exact .inl rfl | exact .inr rfl) (pe_call (ok_lis_due T) (hr.mono (by decide)) (by rfl) T._law_is_due.m T._law_is_due.f.kp (bd__law_is_due T) .nil passE (pa_cons (pv 9) (pa_cons (pv 4) (pa_cons (pv 15) pa_nil)))))
      (pss_one (ps_if (pt_cmpR op_ne (pe_callB (show CallR _ _ (KRB.rReprF K) from KRB.call_reprF hg hr) (by rfl) T.b_repr (by decide +kernel) (pa_cons (pe_call (ok_is_sending T) (hr.mono (by decide)) (by rfl) T.is_sending.m T.is_sending.f.kp (bd_is_sending T) .nil passE (pa_cons (pv 3) (pa_cons (pv 4) (pa_cons (pv 5) (pa_cons (pv 6) (pa_cons (pv 7) (pa_cons (pv 15) pa_nil))))))) pa_nil)) (pe_callB (show CallR _ _ (KRB.rReprF K) from KRB.call_reprF hg hr) (by rfl) T.b_repr (by decide +kernel) (pa_cons (pv 16) pa_nil)) (nomark _)) (pss_one (ps_ret pe_bl)) pss_nil)))))
      (pss_cut (ps_for (passes_of rfl) rfl (pi_range1 (by rfl) T.b_range (pa_cons pe_int pa_nil)) (pg_name (i := 14) sc_law.nd rfl (by first | exact .inl rfl | exact .inr rfl))
        (pss_cons (ps_set (i := 17) sc_law.nd rfl (by first | exact .inl rfl | exact .inr rfl) (pe_tup (pa_cons (pe_call (ok_draw T) (hr.mono (by decide)) (by rfl) T._law_draw.m T._law_draw.f.kp (bd__law_draw T) .nil passE (pa_cons (pv 1) (pa_cons (pe_callB call_len_seq (by rfl) T.b_len PySem.boot_len (pa_cons (pv 9) pa_nil)) pa_nil))) (pa_cons (pe_call (ok_draw T) (hr.mono (by decide)) (by rfl) T._law_draw.m T._law_draw.f.kp (bd__law_draw T) .nil passE (pa_cons (pv 1) (pa_cons (pe_callB call_len_seq (by rfl) T.b_len PySem.boot_len (pa_cons (pv 9) pa_nil)) pa_nil))) pa_nil))))
      (pss_cons (ps_set (i := 18) sc_law.nd rfl (by first | exact .inl rfl | exact .inr rfl) (pe_lst (pa_cons (pv 11) (pa_cons (pe_tup (pa_cons pe_int (pa_cons pe_int pa_nil))) (pa_cons (pv 17) (pa_cons (pv 17) (pa_cons pe_non (pa_cons (pe_lst (pa_cons pe_int (pa_cons pe_int pa_nil))) (pa_cons (pe_tup (pa_cons pe_int (pa_cons (pe_callB call_len_seq (by rfl) T.b_len PySem.boot_len (pa_cons (pv 9) pa_nil)) pa_nil))) pa_nil)))))))))
      (pss_cons (ps_set (i := 19) sc_law.nd rfl (by first | exact .inl rfl | exact .inr rfl) (pe_call (ok_pick T) (hr.mono (by decide)) (by rfl) T._law_pick.m T._law_pick.f.kp (bd__law_pick T) .nil passE (pa_cons (pv 1) (pa_cons (pe_op op_cat (pv 18) (pe_lst (pa_cons (pe_tup (pa_cons pe_bl (pa_cons pe_int pa_nil))) (pa_cons (pe_tup (pa_cons (pe_un un_neg pe_int) (pa_cons pe_int pa_nil))) (pa_cons (pe_tup (pa_cons pe_int pa_nil)) (pa_cons (pe_tup (pa_cons pe_int (pa_cons pe_int (pa_cons pe_int pa_nil)))) pa_nil)))))) pa_nil))))
      (pss_cut (ps_set (i := 20) sc_law.nd rfl (by first | exact .inl rfl | exact .inr rfl) (pe_and (pe_callB call_isi (by rfl) T.b_isinstance PyProof.Rows.boot_isinstance (pa_cons (pv 19) (pa_cons (pe_bltn (v := .ty "tuple") (by rfl) T.b_tuple (by decide +kernel) rfl) pa_nil))) (pe_one (pe_cmpR (op_eqD hr.units) (pe_lc (own := [("_law_one", 23)]) (g := (gName 23)) (tt := tYes) rfl sc_law.nd (pi_tup (pv 19)) (blkOk_by (own := [("_law_one", 23)]) (N := ["_law_script", "_law_state", "_law_turn", "_law_lots", "_law_pace", "_law_wait_here", "_law_stock", "_law_space", "_law_five", "_law_line_here", "_law_due", "_law_gap", "_law_told", "_law_own", "_law_lap", "_law_item", "_law_found", "_law_drawn", "_law_some", "_law_pair", "_law_is_two", "_law_is_in", "_law_tick", "_law_one"]) (sc := defScope s_law) (by decide +kernel)) (fun _ _ _ _ _ => pg_name (i := 23) sc_law.nd rfl (by first | exact .inl rfl | exact .inr rfl)) (fun _ _ _ _ _ => pts_nil) (fun _ _ _ _ _ => (pe_call (ok_whole T) (hr.mono (by decide)) (by rfl) T._law_is_whole.m T._law_is_whole.f.kp (bd__law_is_whole T) .nil passE (pa_cons (pv 23) pa_nil)))) (pe_lst (pa_cons pe_bl (pa_cons pe_bl pa_nil))) (nomark _)))))
      (pss_cut (ps_set (i := 21) sc_law.nd rfl (by first | exact .inl rfl | exact .inr rfl) (pe_and (pv 20) (pe_one (KCH.pe_chain3 op_le op_le op_lt pe_int (pe_ix (show IxR _ (rIx K) from ix_seq) (pv 19) pe_int (fun _ _ => rfl)) (pe_ix (show IxR _ (rIx K) from ix_seq) (pv 19) pe_int (fun _ _ => rfl)) (pe_callB call_len_seq (by rfl) T.b_len PySem.boot_len (pa_cons (pv 9) pa_nil))))))
      (pss_cut (ps_set (i := 16) sc_law.nd rfl (by first | exact .inl rfl | exact .inr rfl) (pe_and (pv 21) (pe_one (pe_cmpR op_gt (pe_op op_sub (pe_ix (show IxR _ (rIx K) from ix_seq) (pe_ix (show IxR _ (rIx K) from ix_seq) (pv 9) (pe_ix (show IxR _ (rIx K) from ix_seq) (pv 19) pe_int (fun _ _ => rfl)) (fun _ _ => rfl)) pe_int (fun _ _ => rfl)) (pe_ix (show IxR _ (rIx K) from ix_seq) (pe_ix (show IxR _ (rIx K) from ix_seq) (pv 9) (pe_ix (show IxR _ (rIx K) from ix_seq) (pv 19) pe_int (fun _ _ => rfl)) (fun _ _ => rfl)) pe_int (fun _ _ => rfl))) (pe_op op_mul (pv 4) (pe_op op_sub (pe_ix (show IxR _ (rIx K) from ix_seq) (pv 19) pe_int (fun _ _ => rfl)) (pe_ix (show IxR _ (rIx K) from ix_seq) (pv 19) pe_int (fun _ _ => rfl)))) (nomark _)))))
      (pss_one (ps_if (pt_cmpR op_ne (pe_callB (show CallR _ _ (KRB.rReprF K) from KRB.call_reprF hg hr) (by rfl) T.b_repr (by decide +kernel) (pa_cons (pe_call (ok_is_strait T) (hr.mono (by decide)) (by rfl) T.is_strait.m T.is_strait.f.kp (bd_is_strait T) .nil passE (pa_cons (pv 3) (pa_cons (pv 4) (pa_cons (pv 5) (pa_cons (pv 6) (pa_cons (pv 7) (pa_cons (pv 19) pa_nil))))))) pa_nil)) (pe_callB (show CallR _ _ (KRB.rReprF K) from KRB.call_reprF hg hr) (by rfl) T.b_repr (by decide +kernel) (pa_cons (pv 16) pa_nil)) (nomark _)) (pss_one (ps_ret pe_bl)) pss_nil)))))))))
      (pss_cons (ps_if (pt_cmpR op_ne (pe_kw (ok_is_strait T) (hr.mono (by decide)) (by rfl) T.is_strait.m T.is_strait.f.kp (KA.Fun.kwr6 T.is_strait.f fun _ _ _ _ _ _ _ _ _ _ _ _ => rfl) passE (pk_cons (pv 11) (pk_cons (pv 7) (pk_cons (pv 6) (pk_cons (pv 5) (pk_cons (pv 4) (pk_cons (pv 3) pk_nil))))))) (pe_cmpR (show OpR _ _ KIN.rIsntN from KIN.op_isntN) (pv 11) pe_non (nomark _)) (nomark _)) (pss_one (ps_ret pe_bl)) pss_nil)
      (pss_cons (ps_if (pt_cmpR op_ne (pe_kw (ok_is_sending T) (hr.mono (by decide)) (by rfl) T.is_sending.m T.is_sending.f.kp (KA.Fun.kwr6 T.is_sending.f fun _ _ _ _ _ _ _ _ _ _ _ _ => rfl) passE (pk_cons (pv 13) (pk_cons (pv 7) (pk_cons (pv 6) (pk_cons (pv 5) (pk_cons (pv 4) (pk_cons (pv 3) pk_nil))))))) (pe_cmpR (show OpR _ _ KIN.rIsntN from KIN.op_isntN) (pv 10) pe_non (nomark _)) (nomark _)) (pss_one (ps_ret pe_bl)) pss_nil)
      (pss_one (ps_if (pt_not (pt_val (pe_wcall (FnG.w (ok_lrefused T AP LT TB)) (since_self rfl) (hr.mono (by decide)) hg (by rfl) T._law_refused.m T._law_refused.f.kp (bd__law_refused T) passE (pa_cons (pv 1) (pa_cons (pv 8) pa_nil))))) (pss_one (ps_ret pe_bl)) pss_nil))))))))))))))))))))))
      (pss_one (ps_ret pe_bl))))⟩
end
end K39
namespace K39
open PySem PySem.Spec PyProof.Rows L2 PySem.W LamX KA KW KU
open Evl (pss_cut tCut)
/-! ### the law -/
theorem rate_at {x : V} (h : x ∈ [V.int 1, .int 2, .int 3, .int 9, .int 40, .int 9999]) : ∃ i : Int, x = .int i ∧ 1 ≤ i ∧ i ≤ 9999 := by
  simp only [List.mem_cons, List.not_mem_nil, or_false] at h
  rcases h with h | h | h | h | h | h <;> subst h <;> exact ⟨_, rfl, by decide, by decide⟩
theorem wait_at {x : V} {r : Nat} (hr : r < 9) (h : x ∈ [V.int 0, .int 1, .int 1, .int 2, .int 3, .int (r : Int)]) : ∃ d : Nat, x = .int (d : Int) ∧ d ≤ 40 := by
  simp only [List.mem_cons, List.not_mem_nil, or_false] at h
  rcases h with h | h | h | h | h | h <;> subst h
  · exact ⟨0, rfl, by decide⟩
  · exact ⟨1, rfl, by decide⟩
  · exact ⟨1, rfl, by decide⟩
  · exact ⟨2, rfl, by decide⟩
  · exact ⟨3, rfl, by decide⟩
  · exact ⟨r, rfl, by omega⟩
theorem wait2_at {x : V} {r d : Nat} (hr : r < 41) (hd : d ≤ 40) (h : x ∈ [V.int (d : Int), .int 40, .int (r : Int)]) : ∃ d : Nat, x = .int (d : Int) ∧ d ≤ 40 := by
  simp only [List.mem_cons, List.not_mem_nil, or_false] at h
  rcases h with h | h | h <;> subst h
  · exact ⟨d, rfl, hd⟩
  · exact ⟨40, rfl, by decide⟩
  · exact ⟨r, rfl, by omega⟩
theorem hold_at {x : V} {r : Nat} (hr : r < 60) (h : x ∈ [V.non, .non, .int 0, .int 5, .int (r : Int)]) : ∃ ho, x = hv ho ∧ Hr ho := by
  have go : ∀ i : Int, 0 ≤ i → i ≤ 99999 → ∃ ho, V.int i = hv ho ∧ Hr ho := fun i h1 h2 => ⟨some i, rfl, fun r e => by cases e; exact ⟨h1, h2⟩⟩
  simp only [List.mem_cons, List.not_mem_nil, or_false] at h
  rcases h with h | h | h | h | h <;> subst h
  · exact ⟨none, rfl, fun r e => by cases e⟩
  · exact ⟨none, rfl, fun r e => by cases e⟩
  · exact go 0 (by decide) (by decide)
  · exact go 5 (by decide) (by decide)
  · exact go _ (by omega) (by omega)
theorem room_at {x : V} {i j : Int} {r s : Nat} (hi : 0 ≤ i ∧ i ≤ 9999) (hj : 0 ≤ j ∧ j ≤ 9999) (hr : r < 20) (hs : s < 20) (h : x ∈ [V.non, .non, .int i, .int (j + (r : Int)), .int (s : Int)]) : ∃ ro, x = hv ro ∧ Hr ro := by
  have go : ∀ i : Int, 0 ≤ i → i ≤ 99999 → ∃ ho, V.int i = hv ho ∧ Hr ho := fun i h1 h2 => ⟨some i, rfl, fun r e => by cases e; exact ⟨h1, h2⟩⟩
  simp only [List.mem_cons, List.not_mem_nil, or_false] at h
  rcases h with h | h | h | h | h <;> subst h
  · exact ⟨none, rfl, fun r e => by cases e⟩
  · exact ⟨none, rfl, fun r e => by cases e⟩
  · exact go _ (by omega) (by omega)
  · exact go _ (by omega) (by omega)
  · exact go _ (by omega) (by omega)
theorem DV.isNon {st lg : Addr} {o : Option (List Int)} {H : Hp} {v : V} (h : DV st lg o H v) : decide (v = .non) = o.isNone := by
  cases o with
  | none => exact decide_eq_true h
  | some xs =>
    obtain ⟨p, rfl, _⟩ := h
    rfl
theorem GV.isNon {o : Option (Nat × Nat)} {H : Hp} {v : V} (h : GV o H v) : decide (v = .non) = o.isNone := by
  cases o with
  | none => exact decide_eq_true h
  | some xs =>
    obtain ⟨p, rfl, _⟩ := h
    rfl
def spLaw (K : PySem.W.Frag) (Pt : Addr) : Sp := fun vs H Q _ => ∃ (a : Addr) (ns : List Int), vs = [.ref a] ∧ SqL K H a (ns.map V.int) ∧ ns.length ≤ 63 ∧ Tabs (tabs Pt) H ∧ ∀ H', Q (.bl true) H'
section
variable {P : Program} {w : World} {K : PySem.W.Frag} {mg : Str → Option Value} {base : Heap} (T : Top K mg)
theorem ok_law (AP : Apart K T) {c Pt : Addr} (LT : LamT K "_law_refused" s__law_refused T._law_refused.a T._law_refused.d c Pt) (TB : TabB base mg c Pt) : FnG P w K mg base (L2.CX P w) 13 T.law.a T.law.d ["_law_script"] (spLaw K Pt) := by
  refine fnG_of T.law.f sc_law (fun vs H Q E h => ?_) (fun cdv A outer s0 H vs Q E hr hg h => ?_)
  · obtain ⟨a, ns, rfl, _⟩ := h
    rfl
  · obtain ⟨a0, ns, rfl, hS, hl, Tb, k⟩ := h
    refine ⟨(lawR T AP LT TB hr hg).1, (lawR T AP LT TB hr hg).2, ?_⟩
    refine ⟨_, rfl, a0, ns, rfl, hS, hl, fun st lg cl H1 S1 sm1 n1 n2 => ?_⟩
    have T1 := Tb.ext sm1
    clear Tb
    refine ⟨_, rfl, a0, _, rfl, .inl (sm1.seq hS), _, _, rfl, _, _, rfl, rfl, _, rfl, ?_, ?_, for_range (n := _) (fun j σ H => StAt H st lg cl (1000 * j) ∧ Tabs (tabs Pt) H ∧ ∃ v2 v3 v4 v5 v6 v7 v8 v9 v10 v11 v12 v13 v14 v15 v16 v17 v18 v19 v20 v21, σ = [some (.ref a0), some (.ref st), v2, v3, v4, v5, v6, v7, v8, v9, v10, v11, v12, v13, v14, v15, v16, v17, v18, v19, v20, v21, none, none]) ⟨S1, T1, _, _, _, _, _, _, _, _, _, _, _, _, _, _, _, _, _, _, _, _, rfl⟩ ?_ fun σ H _ => k H⟩
    · simp only [List.length_map]
      split <;> omega
    · simp only [List.length_map]
      split <;> omega
    clear S1 T1 sm1 hS n1 n2 H1
    rintro j σ H1 hj ⟨S1, Tb1, v2, v3, v4, v5, v6, v7, v8, v9, v10, v11, v12, v13, v14, v15, v16, v17, v18, v19, v20, v21, rfl⟩
    have hj : j < 11 := by
      refine Nat.lt_of_lt_of_le hj ?_
      simp only [List.length_map]
      split <;> omega
    refine ⟨_, rfl, st, lg, cl, 7, 1000 * j, rfl, by decide, by decide, by omega, S1, fun a1 l1 H2 n2 e2 L1 S2 k2 => ?_⟩
    have m2 := S1.off n2
    refine ⟨_, rfl, (by show 6 ≤ sizeLine; decide), fun q hq => ?_⟩
    have tq := Same.new (o := .lst [V.int 1, .int 2, .int 3, .int 9, .int 40, .int 9999]) hq
    refine ⟨st, lg, cl, q, _, 1000 * j + 40, rfl, upd_same, (S2.off hq).2, (by show 0 < 6; decide), (by show 6 ≤ 1000; decide), by omega, S2.same tq, fun x H3 hx S3 k3 => ?_⟩
    obtain ⟨rate, rfl, r1, r2⟩ := rate_at hx
    have e3 := k3 _ _ (tq _ _ e2) m2.1 m2.2
    have Tb3 := tabs_kp Tb1 S1 (k2.trans ((Kp.same tq).trans k3))
    clear tq hq k2 k3 S1 S2 Tb1 e2 hx n2
    refine ⟨(by show 2 ≤ sizeLine; decide), fun p hp => ?_⟩
    have tp := Same.new (o := .tup [V.ref a1, .int rate]) hp
    have e4 := tp _ _ e3
    have S4 := S3.same tp
    have Tb4 := Tb3.ext tp
    refine ⟨p, _, rfl, SqT.of upd_same, rfl, _, _, rfl, _, _, rfl, rfl, ?_⟩
    generalize upd H3 p (.tup [V.ref a1, .int rate]) = H4 at e4 S4 Tb4
    clear tp hp e3 S3 Tb3
    refine ⟨_, rfl, _, rfl, st, lg, cl, 9, 1000 * j + 40 + 1, rfl, by decide, by decide, by omega, S4, fun r H5 hr5 S5 k5 => ?_⟩
    refine ⟨(by show 6 ≤ sizeLine; decide), fun q hq => ?_⟩
    have tq := Same.new (o := .lst [V.int 0, .int 1, .int 1, .int 2, .int 3, .int (r : Int)]) hq
    refine ⟨st, lg, cl, q, _, 1000 * j + 40 + 1 + 1, rfl, upd_same, (S5.off hq).2, (by show 0 < 6; decide), (by show 6 ≤ 1000; decide), by omega, S5.same tq, fun x H6 hx S6 k6 => ?_⟩
    obtain ⟨d1, rfl, d4⟩ := wait_at hr5 hx
    have k46 := k5.trans ((Kp.same tq).trans k6)
    have e6 := k46 _ _ e4 m2.1 m2.2
    have Tb6 := tabs_kp Tb4 S4 k46
    clear tq hq k5 k6 k46 S4 S5 Tb4 e4 hx hr5
    refine ⟨fun σ' H' => ∃ (a : Addr) (l : List Int) (d : Nat), σ' = [some (.ref a0), some (.ref st), some (.int (0 + (j : Int))), some (.ref a), some (.int rate), some (.int (d : Int)), v6, v7, v8, v9, v10, v11, v12, v13, v14, v15, v16, v17, v18, v19, v20, v21, none, none] ∧ H' a = some (.lst (l.map V.int)) ∧ (a ≠ st ∧ a ≠ lg) ∧ Ls l ∧ d ≤ 40 ∧ StAt H' st lg cl (1000 * j + 90) ∧ Tabs (tabs Pt) H', ?_, ?_⟩
    · refine ⟨_, rfl, st, lg, cl, 10, 1000 * j + 40 + 1 + 1 + 1, rfl, by decide, by decide, by omega, S6, fun r H7 hr7 S7 k7 => ?_⟩
      have e7 := k7 _ _ e6 m2.1 m2.2
      have Tb7 := tabs_kp Tb6 S6 k7
      refine ⟨rfl, _, rfl, ?_⟩
      rw [dI r 0 0 rfl]
      by_cases r0 : r = 0
      · rw [decide_eq_true r0]
        refine iteT ?_
        refine ⟨_, rfl, st, lg, cl, 12, 1000 * j + 40 + 1 + 1 + 1 + 1, rfl, by decide, by decide, by omega, S7, fun a2 l2 H8 n8 e8 L2 S8 k8 => ?_⟩
        have m8 := S7.off n8
        refine ⟨_, rfl, _, rfl, _, rfl, st, lg, cl, 41, _, rfl, by decide, by decide, by omega, S8, fun r' H9 hr9 S9 k9 => ?_⟩
        refine ⟨(by show 3 ≤ sizeLine; decide), fun q hq => ?_⟩
        have tq := Same.new (o := .lst [V.int (d1 : Int), .int 40, .int (r' : Int)]) hq
        refine ⟨st, lg, cl, q, _, _, rfl, upd_same, (S9.off hq).2, (by show 0 < 3; decide), (by show 3 ≤ 1000; decide), by omega, S9.same tq, fun x H10 hx S10 k10 => ?_⟩
        obtain ⟨d2, rfl, d5⟩ := wait2_at hr9 d4 hx
        have k8x := k9.trans ((Kp.same tq).trans k10)
        exact ⟨_, _, rfl, a2, l2, d2, rfl, k8x _ _ e8 m8.1 m8.2, m8, L2, d5, S10.mono (by omega), tabs_kp Tb7 S7 (k8.trans k8x)⟩
      · rw [decide_eq_false r0]
        exact iteF ⟨a1, l1, d1, rfl, e7, m2, L1, d4, S7.mono (by omega), Tb7⟩
    clear e6 m2 L1 d4 S6 Tb6 H1 H2 H3 H4 H5 H6
    rintro σ' H1 ⟨a, l, d, rfl, e1, na, hL, d4, S1, Tb1⟩
    refine ⟨_, rfl, _, rfl, st, lg, cl, 60, _, rfl, by decide, by decide, by omega, S1, fun r H2 hr2 S2 k2 => ?_⟩
    refine ⟨(by show 5 ≤ sizeLine; decide), fun q hq => ?_⟩
    have tq := Same.new (o := .lst [V.non, .non, .int 0, .int 5, .int (r : Int)]) hq
    refine ⟨st, lg, cl, q, _, _, rfl, upd_same, (S2.off hq).2, (by show 0 < 5; decide), (by show 5 ≤ 1000; decide), by omega, S2.same tq, fun x H3 hx S3 k3 => ?_⟩
    obtain ⟨ho, rfl, hh⟩ := hold_at hr2 hx
    have k13 := k2.trans ((Kp.same tq).trans k3)
    have e3 := k13 _ _ e1 na.1 na.2
    have Tb3 := tabs_kp Tb1 S1 k13
    clear tq hq k2 k3 k13 S1 S2 Tb1 e1 hx hr2
    have lm : ∀ i ∈ l, 0 ≤ i ∧ i ≤ 9999 := fun i hi => ⟨hL.low i hi, hL.high i hi⟩
    refine ⟨_, rfl, _, rfl, a, l, rfl, SqL.of e3, hL.one, fun mx hm1 _ => ?_⟩
    refine ⟨_, rfl, a, l, rfl, SqL.of e3, hL.one, fun my hm2 _ => ?_⟩
    refine ⟨_, rfl, st, lg, cl, 20, _, rfl, by decide, by decide, by omega, S3, fun r H4 hr4 S4 k4 => ⟨_, _, rfl, rfl, ?_⟩⟩
    refine ⟨_, rfl, st, lg, cl, 20, _, rfl, by decide, by decide, by omega, S4, fun s H5 hs5 S5 k5 => ?_⟩
    refine ⟨(by show 5 ≤ sizeLine; decide), fun q hq => ?_⟩
    have tq := Same.new (o := .lst [V.non, .non, .int mx, .int (my + (r : Int)), .int (s : Int)]) hq
    refine ⟨st, lg, cl, q, _, _, rfl, upd_same, (S5.off hq).2, (by show 0 < 5; decide), (by show 5 ≤ 1000; decide), by omega, S5.same tq, fun x H6 hx S6 k6 => ?_⟩
    obtain ⟨ro, rfl, hro⟩ := room_at (lm mx hm1) (lm my hm2) hr4 hs5 hx
    have k36 := k4.trans (k5.trans ((Kp.same tq).trans k6))
    have e6 := k36 _ _ e3 na.1 na.2
    have Tb6 := tabs_kp Tb3 S3 k36
    have S6 := S6.mono (show _ ≤ 1000 * j + 100 by omega)
    clear tq hq k4 k5 k6 k36 S3 S4 S5 Tb3 e3 hx hr4 hs5 hm1 hm2 lm
    refine ⟨_, rfl, _, rfl, _, rfl, _, rfl, _, rfl, (by show 5 ≤ sizeLine; decide), fun fv hfv => ?_⟩
    have tf := Same.new (o := .tup [V.ref a, .int rate, .int (d : Int), hv ho, hv ro]) hfv
    have ef : (upd H6 fv (.tup [V.ref a, .int rate, .int (d : Int), hv ho, hv ro])) fv = some (.tup [V.ref a, .int rate, .int (d : Int), hv ho, hv ro]) := upd_same
    have e7 := tf _ _ e6
    have S7 := S6.same tf
    have Tb7 := Tb6.ext tf
    refine ⟨_, rfl, _, rfl, _, rfl, _, rfl, a, l, d, ho, ro, rfl, e7, hL.one, hL.few, d4, fun q ws H8 s8 n8 e8 rl => ⟨_, _, rfl, ?_⟩⟩
    have B : LB Pt st lg cl a fv q l rate d ho ro (1000 * j + 100) H8 := ⟨S7.same s8, Tb7.ext s8, s8 _ _ e7, na, hL, r1, r2, d4, hh, hro, s8 _ _ ef, S7.off n8, last_le l.length d ho hL.few d4, ws, e8, rl⟩
    clear tf ef e7 S7 Tb7 s8 n8 e8 rl hfv
    refine ⟨_, rfl, _, rfl, q, _, _, _, rate, rfl, B.L, rfl, fun vd H1 s1 ad => ?_⟩
    have D1 : DV st lg (dueL l rate d ho ro) H1 vd := DV.of B.S ad
    have B1 := B.same s1
    refine ⟨_, rfl, _, rfl, q, _, _, _, rate, rfl, B1.L, r1, r2, fun og hog vg H2 s2 ag => ⟨_, _, rfl, ?_⟩⟩
    have G2 := GV.of ag
    have D2 := D1.kn (.kp (.same s2))
    have B2 := B1.same s2
    clear B B1 D1 ad ag s1 s2 H1
    have bD := due_bound (rate := rate) hL hro r1 r2 d4 (ho := ho)
    have bG : ∀ p, og = some p → p.1 ≤ 60 ∧ p.2 ≤ 60 := fun p e => by
      subst e
      have := hog.en
      have := hog.se
      have := last_le l.length d ho hL.few d4
      omega
    have dn : (dueL l rate d ho ro).isNone = !og.isNone := by
      have := due_gap hog
      unfold dueL
      cases cD : dueO rate (canAt l d ho ro) (mustAt l d ho) (lastT l.length d ho) with
      | none =>
        cases og with
        | none => exact absurd rfl (this.mp cD)
        | some _ => rfl
      | some _ =>
        cases og with
        | none => rfl
        | some _ =>
          have := this.mpr (fun z => nomatch z)
          rw [cD] at this
          cases this
    refine ⟨_, rfl, _, rfl, _, rfl, _, rfl, _, rfl, _, _, _, _, _, rfl, .inr ⟨l, rate, d, ho, ro, B2.five, fun vt H3 s3 at3 => ?_⟩⟩
    have D3 := D2.kn (.kp (.same s3))
    have T3 : DV st lg (dueL l rate d ho ro) H3 vt := DV.of B2.S at3
    refine ⟨_, rfl, rfl, _, rfl, rfl, rfl, _, rfl, ?_⟩
    rw [D2.isNon, G2.isNon, dn, decide_eq_true rfl]
    refine iteF ⟨_, rfl, _, _, rfl, T3.rt bD, _, rfl, _, _, rfl, D3.rt bD, rfl, _, rfl, ?_⟩
    rw [decide_eq_true rfl]
    refine iteF ?_
    refine ⟨fun σ' H' => σ' = [some (.ref a0), some (.ref st), some (.int (0 + (j : Int))), some (.ref a), some (.int rate), some (.int (d : Int)), some (hv ho), some (hv ro), some (.ref fv), some (.ref q), some vd, some vg, some vt, v13, v14, v15, v16, v17, v18, v19, v20, v21, none, none] ∧ LB Pt st lg cl a fv q l rate d ho ro (1000 * j + 100) H' ∧ DV st lg (dueL l rate d ho ro) H' vd ∧ GV og H' vg, ?_, ?_⟩
    · refine ⟨_, rfl, rfl, _, rfl, ?_⟩
      rw [T3.isNon]
      cases cD : dueL l rate d ho ro with
      | none => exact iteF ⟨rfl, B2.same s3, cD ▸ D3, G2.tp (Tp.same s3)⟩
      | some xs =>
        rw [cD] at at3 D3 bD D2
        obtain ⟨p, rfl, hp, ep⟩ := at3
        have np := B2.S.off hp
        refine iteT ⟨_, rfl, .inl ⟨rfl, _, SqL.of ep⟩, _, _, _, rfl, rfl, ep, by rw [List.length_map]; exact Nat.lt_of_le_of_lt (show xs.length ≤ 1000 by have := (bD xs rfl).1; omega) (by decide), ?_⟩
        have kp := Kp.put3 (o := .lst (xs.map V.int ++ [V.non])) (.same (st := st) (lg := lg) s3) hp
        have Sp := stAt_put (ys := xs.map V.int ++ [V.non]) (B2.S.same s3) np.1 np.2 (offc B2.S hp)
        exact ⟨rfl, B2.kp kp Sp, D2.kn (.kp kp), G2.tp (Tp.kp B2.S kp)⟩
    clear B2 D2 G2 s3 at3 D3 T3 H2 H3
    rintro σ' H2 ⟨rfl, B2, D2, G2⟩
    refine ⟨_, rfl, _, rfl, _, rfl, _, rfl, _, rfl, _, _, _, _, _, rfl, .inr ⟨l, rate, d, ho, ro, B2.five, fun v5 H3 s3 at3 => ?_⟩⟩
    have D3 := D2.kn (.kp (.same s3))
    refine ⟨_, _, rfl, (DV.of B2.S at3).rt bD, _, rfl, _, _, rfl, D3.rt bD, rfl, _, rfl, ?_⟩
    rw [decide_eq_true rfl]
    refine iteF ?_
    have B3 := B2.same s3
    have G3 := G2.tp (Tp.same s3)
    clear B2 D2 G2 at3 s3 H2
    refine ⟨_, rfl, _, rfl, _, rfl, _, rfl, _, rfl, _, _, _, _, _, rfl, .inr ⟨l, rate, d, ho, ro, B3.five, fun o' hog' v6 H4 s4 at4 => ?_⟩⟩
    obtain rfl := first_uniq hog hog'
    have G4 := G3.tp (Tp.same s4)
    refine ⟨_, _, rfl, (GV.of at4).rt bG, _, rfl, _, _, rfl, G4.rt bG, rfl, _, rfl, ?_⟩
    rw [decide_eq_true rfl]
    refine iteF ?_
    have B4 := B3.same s4
    have D4 := D3.kn (.kp (.same s4))
    clear B3 D3 G3 at4 s4 H3 hog'
    refine ⟨_, rfl, _, rfl, _, rfl, _, rfl, _, rfl, a, _, rfl, .inl ⟨SqL.of B4.ha, fun t1 ht1 => ?_⟩⟩
    have st1 := Same.new (o := .tup (l.map V.int)) ht1
    refine ⟨rfl, _, _, _, _, _, rfl, .inr ⟨l, rate, d, ho, ro, (B4.same st1).fiveT upd_same, fun v5 H5 s5 at5 => ?_⟩⟩
    have s45 := st1.trans s5
    have D5 := D4.kn (.kp (.same s45))
    refine ⟨_, rfl, _, _, (DV.of (B4.S.same st1) at5).dp, D5.dp, due_shaped bD, due_shaped bD, _, rfl, ?_⟩
    rw [due_eqv]
    refine iteF ?_
    have B5 := B4.same s45
    have G5 := G4.tp (Tp.same s45)
    clear B4 D4 G4 at5 s5 s45 st1 ht1 H4
    refine ⟨_, rfl, _, rfl, _, rfl, _, rfl, _, rfl, a, _, rfl, .inl ⟨SqL.of B5.ha, fun t1 ht1 => ?_⟩⟩
    have st1 := Same.new (o := .tup (l.map V.int)) ht1
    refine ⟨rfl, _, _, _, _, _, rfl, .inr ⟨l, rate, d, ho, ro, (B5.same st1).fiveT upd_same, fun o' hog' v6 H6 s6 at6 => ?_⟩⟩
    obtain rfl := first_uniq hog hog'
    have s56 := st1.trans s6
    have G6 := G5.tp (Tp.same s56)
    refine ⟨_, rfl, _, _, (GV.of at6).dp, G6.dp, gap_shaped bG, gap_shaped bG, _, rfl, ?_⟩
    rw [gap_eqv]
    refine iteF ?_
    have B6 := B5.same s56
    have D6 := D5.kn (.kp (.same s56))
    clear B5 D5 G5 at6 s6 s56 st1 ht1 H5 hog'
    refine ⟨fun σ' H' => ∃ (vo : V) (xs : List Int), σ' = [some (.ref a0), some (.ref st), some (.int (0 + (j : Int))), some (.ref a), some (.int rate), some (.int (d : Int)), some (hv ho), some (hv ro), some (.ref fv), some (.ref q), some vd, some vg, some vt, some vo, v14, v15, v16, v17, v18, v19, v20, v21, none, none] ∧ LB Pt st lg cl a fv q l rate d ho ro (1000 * j + 170) H' ∧ DV st lg (dueL l rate d ho ro) H' vd ∧ GV og H' vg ∧ DV st lg (some xs) H' vo ∧ xs.length ≤ 60 ∧ (∀ x ∈ xs, 0 ≤ x ∧ x ≤ 9999) ∧ ∀ ys, dueL l rate d ho ro = some ys → xs = ys, ?_, ?_⟩
    · refine ⟨_, rfl, rfl, _, rfl, ?_⟩
      rw [D6.isNon]
      cases cD : dueL l rate d ho ro with
      | some xs =>
        rw [cD] at D6 bD
        exact iteT ⟨_, rfl, vd, xs, rfl, B6.kn .refl (B6.S.mono (by omega)) B6.Tb, D6, G6, D6, (bD xs rfl).1, (bD xs rfl).2, fun ys e => by cases e; rfl⟩
      | none =>
        rw [cD] at D6
        obtain ⟨ws, ew, lw⟩ := B6.L.len
        have hn := B6.L.small
        refine iteF ⟨_, rfl, _, rfl, q, ws, rfl, SqL.of ew, fun c hc => ?_⟩
        rw [cut_one]
        have tc := Same.new (o := .lst ws.tail) hc
        have nc := B6.S.off hc
        refine ⟨c, rfl, ⟨_, SqL.of upd_same⟩, fun D hD => ?_⟩
        have Sc := B6.S.same tc
        have nD := Sc.off hD
        have ncD := offc Sc hD
        have lt : ws.tail.length ≤ 60 := by rw [List.length_tail]; omega
        refine lc_it (walk_list (K := K) (a := c) (xs := ws.tail)) (fun i H' => ∃ ys : List Int, H' D = some (.lst (ys.map V.int)) ∧ ys.length = i ∧ (∀ y ∈ ys, 0 ≤ y ∧ y ≤ 9999) ∧ StAt H' st lg cl (1000 * j + 100 + i) ∧ Kp st lg (upd H6 c (.lst ws.tail)) H') ⟨[], upd_same, rfl, (fun y hy => nomatch hy), Sc.same (Same.new hD), .same (Same.new hD)⟩ (fun i H' _ q' => by
          obtain ⟨_, _, _, _, _, kk⟩ := q'
          exact SqL.of (kk _ _ upd_same nc.1 nc.2)) ?_ ?_
        · rintro i y H7' H7 hi ⟨ys, eD, hl', hys, S7, k7⟩ ⟨rfl, hx⟩
          refine ⟨rfl, ?_⟩
          dsimp only [tYes]
          rw [if_pos rfl]
          refine ⟨_, rfl, _, rfl, _, _, rfl, rfl, st, lg, cl, (rate + 1).toNat, 1000 * j + 100 + i, ?_, by omega, Nat.lt_of_le_of_lt (show _ ≤ 10000 by omega) (by decide), by omega, S7, fun r H8 hr8 S8 k8 => ?_⟩
          · show [V.ref st, V.int (rate + 1)] = [V.ref st, V.int (((rate + 1).toNat : Nat) : Int)]
            rw [Int.toNat_of_nonneg (by omega)]
          have eD8 := k8 _ _ eD nD.1 nD.2
          have e9 : ys.map V.int ++ [V.int (r : Int)] = (ys ++ [(r : Int)]).map V.int := by rw [List.map_append]; rfl
          refine ⟨ys.map V.int, eD8, by rw [List.length_map]; exact Nat.lt_of_le_of_lt (show ys.length ≤ 1000 by omega) (by decide), ys ++ [(r : Int)], by rw [upd_same, e9], by rw [List.length_append, hl']; rfl, fun y hy => ?_, stAt_put S8 nD.1 nD.2 ncD, Kp.put3 (k7.trans k8) hD⟩
          rcases List.mem_append.mp hy with q' | q'
          · exact hys y q'
          · rw [List.mem_singleton.mp q']
            omega
        · rintro H7 ⟨ys, eD, hl', hys, S7, k7⟩
          have k67 := (Kp.same tc).trans k7
          exact ⟨.ref D, ys, rfl, B6.kp k67 (S7.mono (by omega)), D6.kn (.kp k67), G6.tp (Tp.kp B6.S k67), ⟨D, rfl, nD, eD⟩, by omega, hys, fun ys e => by cases e⟩
    clear B6 D6 G6 H6
    rintro σ' H1 ⟨vo, xs, rfl, B1, D1, G1, O1, lx, bx, hx1⟩
    obtain ⟨po, rfl, npo, epo⟩ := O1
    have fx : ∀ x ∈ xs.map V.int, Fb 10000 x := fun x hx => by
      obtain ⟨i, hi, rfl⟩ := List.mem_map.mp hx
      have := bx i hi
      exact .int (by omega) (by omega)
    have GO : ∀ H', Kp st lg H1 H' → Gk st lg K 10000 60 H' (.ref po) (some (xs.map V.int)) := fun H' s => .lst npo (s _ _ epo npo.1 npo.2) fx (by rw [List.length_map]; exact lx)
    refine ⟨fun σ' H' => ∃ v15 v16, σ' = [some (.ref a0), some (.ref st), some (.int (0 + (j : Int))), some (.ref a), some (.int rate), some (.int (d : Int)), some (hv ho), some (hv ro), some (.ref fv), some (.ref q), some vd, some vg, some vt, some (.ref po), v14, v15, v16, v17, v18, v19, v20, v21, none, none] ∧ LB Pt st lg cl a fv q l rate d ho ro (1000 * j + 400) H' ∧ DV st lg (dueL l rate d ho ro) H' vd ∧ GV og H' vg ∧ H' po = some (.lst (xs.map V.int)), ?_, ?_⟩
    · refine ⟨_, rfl, _, rfl, po, _, rfl, .inl ⟨SqL.of epo, fun t1 ht1 => ⟨(by show 2 ≤ sizeLine; decide), fun q1 h1 => ?_⟩⟩⟩
      have s1 := Same.new (o := .tup (xs.map V.int)) ht1
      have s2 := Same.new (o := .lst [V.ref po, .ref t1]) h1
      have s12 := s1.trans s2
      have nt1 := B1.S.off ht1
      have nq1 := (B1.S.same s1).off h1
      have B2 := B1.same s12
      have et1 := s2 _ _ (upd_same (H := H1) (a := t1) (o := .tup (xs.map V.int)))
      have eq1 : (upd (upd H1 t1 (.tup (xs.map V.int))) q1 (.lst [V.ref po, .ref t1])) q1 = some (.lst [V.ref po, .ref t1]) := upd_same
      generalize upd (upd H1 t1 (.tup (xs.map V.int))) q1 (.lst [V.ref po, .ref t1]) = H2 at s12 B2 et1 eq1
      refine ⟨5, rfl, by decide, by decide, fun D hD => ?_⟩
      have nD := B2.S.off hD
      have ncD := offc B2.S hD
      refine lc_it (walk_rangeN (n := 5)) (fun i H' => ∃ ys, H' D = some (.lst ys) ∧ ys.length = i ∧ (∀ y ∈ ys, (∃ o, Gk st lg K 30001 61 H' y o) ∧ ∀ b, y = .ref b → b ≠ D) ∧ StAt H' st lg cl (1000 * j + 170 + 10 * i) ∧ Kp st lg H2 H') ⟨[], upd_same, rfl, (fun y hy => nomatch hy), B2.S.same (Same.new hD), .same (Same.new hD)⟩ (fun _ _ _ _ => trivial) ?_ ?_
      · rintro i y H6' H6 hi ⟨ys, eD, hl', hys, S6, k6⟩ ⟨rfl, rfl⟩
        refine ⟨rfl, ?_⟩
        dsimp only [tYes]
        rw [if_pos rfl]
        refine ⟨_, rfl, _, rfl, _, rfl, st, lg, cl, .ref po, _, 60, 10000, rate, _, rfl, GO _ ((Kp.same s12).trans k6), by omega, by omega, by decide, by decide, by decide, by omega, S6, fun y o' H7 nw g7 S7 k7 => ?_⟩
        have eD7 := k7 _ _ eD nD.1 nD.2
        refine ⟨ys, eD7, Nat.lt_of_lt_of_le (show ys.length < 1000 by omega) (by decide), ys ++ [y], upd_same, by rw [List.length_append, hl']; rfl, fun u hu => ?_, (stAt_put S7 nD.1 nD.2 ncD).mono (by omega), Kp.put3 (k6.trans k7) hD⟩
        rcases List.mem_append.mp hu with q' | q'
        · obtain ⟨⟨o, g⟩, nb⟩ := hys u q'
          exact ⟨⟨o, (g.kp k7).putD nb⟩, nb⟩
        · rw [List.mem_singleton.mp q']
          have nb : ∀ b, y = .ref b → b ≠ D := fun b e z => by
            have := nw b e
            rw [z, eD] at this
            cases this
          exact ⟨⟨o', g7.putD nb⟩, nb⟩
      rintro H6 ⟨ys, eD, hl', hys, S6, k6⟩
      refine ⟨q1, D, _, _, rfl, rfl, k6 _ _ eq1 nq1.1 nq1.2, eD, Nat.le_trans (show 2 + ys.length ≤ 1000 by omega) (by decide), fun z hz => ?_⟩
      have sz := Same.new (o := .lst ([V.ref po, .ref t1] ++ ys)) hz
      have nz := S6.off hz
      have k2z := k6.trans (.same sz)
      have k1z := (Kp.same s12).trans k2z
      have ez : (upd H6 z (.lst ([V.ref po, .ref t1] ++ ys))) z = some (.lst ([V.ref po, .ref t1] ++ ys)) := upd_same
      have all : ∀ x ∈ [V.ref po, .ref t1] ++ ys, ∃ o, Gk st lg K 30001 61 (upd H6 z (.lst ([V.ref po, .ref t1] ++ ys))) x o := fun x hx => by
        rcases List.mem_append.mp hx with q' | q'
        · rcases List.mem_cons.mp q' with e | q'
          · rw [e]
            exact ⟨_, (GO _ k1z).mono (by decide) (by decide)⟩
          · rw [List.mem_singleton.mp q']
            exact ⟨_, .tup nt1 (k2z _ _ et1 nt1.1 nt1.2) (fun x hx => (fx x hx).mono (by decide)) (by rw [List.length_map]; omega)⟩
        · obtain ⟨⟨o, g⟩, nb⟩ := hys x q'
          exact ⟨o, g.kp (.same sz)⟩
      have BZ := (B1.kp ((Kp.same s12).trans k6) S6).same sz
      have DZ := D1.kn (.kp k1z)
      have GZ := G1.tp (Tp.kp B1.S k1z)
      have ePZ := k1z _ _ epo npo.1 npo.2
      have lz : ([V.ref po, .ref t1] ++ ys).length = 7 := by rw [List.length_append, hl']; rfl
      refine ⟨z, rfl, ⟨_, SqL.of ez⟩, ?_⟩
      generalize upd H6 z (.lst ([V.ref po, .ref t1] ++ ys)) = Hz at ez all BZ DZ GZ ePZ
      generalize [V.ref po, .ref t1] ++ ys = its at ez all lz
      clear B2 et1 eq1 hD nD ncD eD hl' hys S6 k6 sz hz k2z k1z s1 s2 s12 nt1 nq1 h1 ht1 D1 G1 B1 GO
      refine for_it (walk_list (K := K) (a := z) (xs := its)) (fun i σ H' => (∃ v15 v16, σ = [some (.ref a0), some (.ref st), some (.int (0 + (j : Int))), some (.ref a), some (.int rate), some (.int (d : Int)), some (hv ho), some (hv ro), some (.ref fv), some (.ref q), some vd, some vg, some vt, some (.ref po), v14, v15, v16, v17, v18, v19, v20, v21, none, none]) ∧ KpN st lg Hz H' ∧ StAt H' st lg cl (1000 * j + 220 + 20 * i) ∧ Tabs (tabs Pt) H') ⟨⟨v15, v16, rfl⟩, .refl, BZ.S, BZ.Tb⟩ (fun i σ H' _ w => SqL.of (w.2.1 _ _ ez nz.1 nz.2 (fun _ z => by cases z))) ?_ ?_
      · rintro i x σ H3' H3 hi ⟨⟨v15, v16, rfl⟩, k3, S3, Tb3⟩ ⟨rfl, hx⟩
        obtain ⟨o, gx⟩ := all x (List.mem_of_getElem? hx)
        have g3 := gx.kpN k3
        refine ⟨fun σ' H' => ∃ y o', σ' = [some (.ref a0), some (.ref st), some (.int (0 + (j : Int))), some (.ref a), some (.int rate), some (.int (d : Int)), some (hv ho), some (hv ro), some (.ref fv), some (.ref q), some vd, some vg, some vt, some (.ref po), v14, some y, v16, v17, v18, v19, v20, v21, none, none] ∧ KpN st lg Hz H' ∧ StAt H' st lg cl (1000 * j + 220 + 20 * (i + 1)) ∧ Tabs (tabs Pt) H' ∧ Gk st lg K 70003 62 H' y o', ?_, ?_⟩
        · refine ⟨_, rfl, st, lg, cl, 4, _, rfl, by decide, by decide, by omega, S3, fun r H4 hr4 S4 k4 => ⟨rfl, _, rfl, ?_⟩⟩
          have Tb4 := tabs_kp Tb3 S3 k4
          have k34 := k3.trans (.kp k4)
          rw [dI r 0 0 rfl]
          by_cases r0 : r = 0
          · rw [decide_eq_true r0]
            refine iteT ⟨_, rfl, _, rfl, _, rfl, st, lg, cl, x, o, 61, 30001, rate, _, rfl, g3.kp k4, by omega, by omega, by decide, by decide, by decide, by omega, S4, fun y o' H5 _ g5 S5 k5 => ?_⟩
            exact ⟨y, o', rfl, k34.trans (.kp k5), S5.mono (by omega), tabs_kp Tb4 S4 k5, g5⟩
          · rw [decide_eq_false r0]
            exact iteF ⟨_, rfl, x, o, rfl, k34, S4.mono (by omega), Tb4, (g3.kp k4).mono (by decide) (by decide)⟩
        rintro σ' H4 ⟨y, o', rfl, k4, S4, Tb4, g4⟩
        have B4 := BZ.kn k4 S4 Tb4
        refine ⟨_, rfl, _, rfl, _, rfl, q, _, _, _, rate, y, o', rfl, B4.L, g4.gn (by decide), fun H5 s5 => ?_⟩
        refine ⟨_, rfl, _, rfl, _, rfl, _, rfl, _, rfl, _, rfl, _, _, _, _, _, _, rfl, .inr ⟨l, rate, d, ho, ro, o', (B4.same s5).five, (g4.kp (.same s5)).gn (by decide), fun H6 s6 => ?_⟩⟩
        refine ⟨_, _, rfl, .bl _, _, rfl, _, _, rfl, .bl _, rfl, _, rfl, ?_⟩
        rw [decide_eq_true rfl]
        have s56 := s5.trans s6
        exact iteF ⟨⟨_, _, rfl⟩, k4.trans (.kp (.same s56)), S4.same s56, Tb4.ext s56⟩
      · rintro σ H3 ⟨⟨v15, v16, rfl⟩, k3, S3, Tb3⟩
        rw [lz] at S3
        exact ⟨v15, v16, rfl, BZ.kn k3 (S3.mono (by omega)) Tb3, DZ.kn k3, GZ.tp (KpN.tp BZ.S k3), k3 _ _ ePZ npo.1 npo.2 (fun _ z => by cases z)⟩
    clear B1 D1 G1 GO epo H1
    rintro σ' H1 ⟨v15, v16, rfl, B1, D1, G1, epo⟩
    refine ⟨fun σ' H' => ∃ v14 v16 v17 v18 v19 v20 v21, σ' = [some (.ref a0), some (.ref st), some (.int (0 + (j : Int))), some (.ref a), some (.int rate), some (.int (d : Int)), some (hv ho), some (hv ro), some (.ref fv), some (.ref q), some vd, some vg, some vt, some (.ref po), v14, v15, v16, v17, v18, v19, v20, v21, none, none] ∧ KpN st lg H1 H' ∧ StAt H' st lg cl (1000 * j + 450) ∧ Tabs (tabs Pt) H', ?_, ?_⟩
    · refine ⟨5, rfl, by decide, by decide, ?_⟩
      refine for_it (walk_rangeN (n := 5)) (fun i σ H' => (∃ v14 v16 v17 v18 v19 v20 v21, σ = [some (.ref a0), some (.ref st), some (.int (0 + (j : Int))), some (.ref a), some (.int rate), some (.int (d : Int)), some (hv ho), some (hv ro), some (.ref fv), some (.ref q), some vd, some vg, some vt, some (.ref po), v14, v15, v16, v17, v18, v19, v20, v21, none, none]) ∧ KpN st lg H1 H' ∧ StAt H' st lg cl (1000 * j + 400 + 10 * i) ∧ Tabs (tabs Pt) H') ⟨⟨v14, v16, v17, v18, v19, v20, v21, rfl⟩, .refl, B1.S, B1.Tb⟩ (fun _ _ _ _ _ => trivial) ?_ ?_
      · rintro i x σ H2' H2 hi ⟨⟨v14, v16, v17, v18, v19, v20, v21, rfl⟩, k2, S2, Tb2⟩ ⟨rfl, rfl⟩
        have B2 := B1.kn k2 S2 Tb2
        have G2 := G1.tp (KpN.tp B1.S k2)
        obtain ⟨ws, ew, lw⟩ := B2.L.len
        have hn := B2.L.small
        refine ⟨_, rfl, _, rfl, q, ws, rfl, .inl (SqL.of ew), st, lg, cl, ws.length, _, rfl, by omega, Nat.lt_of_le_of_lt (show ws.length ≤ 100 by omega) (by decide), by omega, S2, fun r1' H3 hr3 S3 k3 => ?_⟩
        have ew3 := k3 _ _ ew B2.nq.1 B2.nq.2
        refine ⟨_, rfl, _, rfl, q, ws, rfl, .inl (SqL.of ew3), st, lg, cl, ws.length, _, rfl, by omega, Nat.lt_of_le_of_lt (show ws.length ≤ 100 by omega) (by decide), by omega, S3, fun r2' H4 hr4 S4 k4 => ?_⟩
        have k24 := k3.trans k4
        have B4 := B2.kp k24 S4
        have G4 := G2.tp (Tp.kp S2 k24)
        have ew4 := k4 _ _ ew3 B2.nq.1 B2.nq.2
        refine ⟨(by show 2 ≤ sizeLine; decide), fun z0 h0 => ?_⟩
        refine ⟨_, rfl, (by show 2 ≤ sizeLine; decide), fun z1 h1 => ⟨_, rfl, _, rfl, (by show 2 ≤ sizeLine; decide), fun z2 h2 => ?_⟩⟩
        have t0 := Same.new (o := .tup [V.int (r1' : Int), .int (r2' : Int)]) h0
        have t1 := Same.new (o := .tup [V.int 0, .int 0]) h1
        have t2 := Same.new (o := .lst [V.int 0, .int 0]) h2
        refine ⟨_, rfl, q, ws, rfl, .inl (SqL.of (t2 _ _ (t1 _ _ (t0 _ _ ew4)))), (by show 2 ≤ sizeLine; decide), fun z3 h3 => ⟨(by show 7 ≤ sizeLine; decide), fun z4 h4 => ?_⟩⟩
        have t3 := Same.new (o := .tup [V.int 0, .int ((ws.length : Nat) : Int)]) h3
        have t4 := Same.new (o := .lst [vg, .ref z1, .ref z0, .ref z0, .non, .ref z2, .ref z3]) h4
        refine ⟨_, rfl, _, rfl, (by show 2 ≤ sizeLine; decide), fun z5 h5 => ⟨_, rfl, (by show 2 ≤ sizeLine; decide), fun z6 h6 => ⟨(by show 1 ≤ sizeLine; decide), fun z7 h7 => ⟨(by show 3 ≤ sizeLine; decide), fun z8 h8 => ⟨(by show 4 ≤ sizeLine; decide), fun z9 h9 => ?_⟩⟩⟩⟩⟩
        have t5 := Same.new (o := .tup [V.bl true, .int 1]) h5
        have t6 := Same.new (o := .tup [V.int (-1), .int 0]) h6
        have t7 := Same.new (o := .tup [V.int 0]) h7
        have t8 := Same.new (o := .tup [V.int 0, .int 0, .int 0]) h8
        have t9 := Same.new (o := .lst [V.ref z5, .ref z6, .ref z7, .ref z8]) h9
        have u9 := t9
        have u8 := t8.trans u9
        have u7 := t7.trans u8
        have u6 := t6.trans u7
        have u5 := t5.trans u6
        have u4 := t4.trans u5
        have u3 := t3.trans u4
        have u2 := t2.trans u3
        have u1 := t1.trans u2
        have u0 := t0.trans u1
        have n2 := ((S4.same t0).same t1).off h2
        refine ⟨z4, z9, _, _, rfl, rfl, u5 _ _ upd_same, upd_same, (by show 11 ≤ sizeLine; decide), fun z10 h10 => ?_⟩
        have tA := Same.new (o := .lst ([vg, .ref z1, .ref z0, .ref z0, .non, .ref z2, .ref z3] ++ [V.ref z5, .ref z6, .ref z7, .ref z8])) h10
        have S9 := S4.same u0
        refine ⟨st, lg, cl, z10, _, _, rfl, upd_same, (S9.off h10).2, (by show 0 < 11; decide), (by show 11 ≤ 1000; decide), by omega, S9.same tA, fun x H5 hx S5 k5 => ?_⟩
        have sA := u0.trans tA
        have tp5 : Tp H4 H5 := (Tp.same sA).trans (Tp.kp (S9.same tA) k5)
        have tpu : ∀ {Hx : Hp}, Same Hx _ → Tp Hx H5 := fun s => (Tp.same (s.trans tA)).trans (Tp.kp (S9.same tA) k5)
        have RX : ∃ o, Rv K H5 x o := by
          have e0 := tpu u1 _ _ (upd_same (H := H4) (a := z0) (o := .tup [V.int (r1' : Int), .int (r2' : Int)]))
          have e1 := tpu u2 _ _ (upd_same (a := z1) (o := .tup [V.int 0, .int 0]))
          have e2 := k5 _ _ (tA _ _ (u3 _ _ (upd_same (a := z2) (o := .lst [V.int 0, .int 0])))) n2.1 n2.2
          have e3 := tpu u4 _ _ (upd_same (a := z3) (o := .tup [V.int 0, .int ((ws.length : Nat) : Int)]))
          have e5 := tpu u6 _ _ (upd_same (a := z5) (o := .tup [V.bl true, .int 1]))
          have e6 := tpu u7 _ _ (upd_same (a := z6) (o := .tup [V.int (-1), .int 0]))
          have e7 := tpu u8 _ _ (upd_same (a := z7) (o := .tup [V.int 0]))
          have e8 := tpu u9 _ _ (upd_same (a := z8) (o := .tup [V.int 0, .int 0, .int 0]))
          have two : ∀ {u v : V}, Fl u → Fl v → ∀ x ∈ [u, v], Fl x := fun hu hv x hx => by
            rcases List.mem_cons.mp hx with e | hx
            · rw [e]; exact hu
            · rw [List.mem_singleton.mp hx]; exact hv
          simp only [List.mem_append, List.mem_cons, List.not_mem_nil, or_false] at hx
          rcases hx with (h | h | h | h | h | h | h) | (h | h | h | h)
          · rw [h]
            exact gv_rv (G4.tp tp5)
          · rw [h]; exact ⟨_, .tup e1 (two (.int _) (.int _)) (by show 2 ≤ 1000; decide)⟩
          · rw [h]; exact ⟨_, .tup e0 (two (.int _) (.int _)) (by show 2 ≤ 1000; decide)⟩
          · rw [h]; exact ⟨_, .tup e0 (two (.int _) (.int _)) (by show 2 ≤ 1000; decide)⟩
          · rw [h]; exact ⟨_, .no .non⟩
          · rw [h]; exact ⟨_, .no (.lst e2)⟩
          · rw [h]; exact ⟨_, .tup e3 (two (.int _) (.int _)) (by show 2 ≤ 1000; decide)⟩
          · rw [h]; exact ⟨_, .tup e5 (two (.bl _) (.int _)) (by show 2 ≤ 1000; decide)⟩
          · rw [h]; exact ⟨_, .tup e6 (two (.int _) (.int _)) (by show 2 ≤ 1000; decide)⟩
          · rw [h]; exact ⟨_, .tup e7 (fun x hx => by rw [List.mem_singleton.mp hx]; exact .int _) (by show 1 ≤ 1000; decide)⟩
          · rw [h]; refine ⟨_, .tup e8 (fun x hx => ?_) (by show 3 ≤ 1000; decide)⟩
            simp only [List.mem_cons, List.not_mem_nil, or_false] at hx
            rcases hx with e | e | e <;> rw [e] <;> exact .int _
        obtain ⟨o, R5⟩ := RX
        have k15 := k2.trans (.kp (k24.trans ((Kp.same sA).trans k5)))
        have B5 := B4.kp ((Kp.same sA).trans k5) S5
        have S5 := S5.mono (show _ ≤ 1000 * j + 400 + 10 * (i + 1) by omega)
        have Tb5 := B5.Tb
        clear t0 t1 t2 t3 t4 t5 t6 t7 t8 t9 u0 u1 u2 u3 u4 u5 u6 u7 u8 u9 tA sA tp5 tpu hx h0 h1 h2 h3 h4 h5 h6 h7 h8 h9 h10 n2 S9 B2 B4 G2 G4 ew ew3 ew4 k3 k4 k24 k5 k2 hr3 hr4 S2 S3 S4 Tb2
        refine ⟨fun σ' H' => ∃ v14 v16 v17 v18, σ' = [some (.ref a0), some (.ref st), some (.int (0 + (j : Int))), some (.ref a), some (.int rate), some (.int (d : Int)), some (hv ho), some (hv ro), some (.ref fv), some (.ref q), some vd, some vg, some vt, some (.ref po), v14, v15, v16, v17, v18, some x, some (.bl (twoB o)), v21, none, none] ∧ Same H5 H', ?_, ?_⟩
        · cases R5 with
          | no hN =>
            obtain ⟨ty, hty, h1⟩ := hN.ty (K := K)
            exact ⟨_, rfl, x, _, _, _, _, rfl, .ty "tuple", hty, kit_ty h1, _, rfl, iteF ⟨_, _, _, _, rfl, fun _ _ e => e⟩⟩
          | @tup b ys e p l5 =>
            refine ⟨_, rfl, _, _, _, _, true, rfl, .ty "tuple", .base (.tup e), kit_ty (by decide +kernel), _, rfl, iteT ⟨_, rfl, b, rfl, ⟨_, SqT.of e⟩, fun D hD => ?_⟩⟩
            refine lcP (walk_tup (K := K) (a := b) (xs := ys)) ys (fun _ => true) (fun y => V.bl (isNum y)) rfl hD (fun H' s' => SqT.of (s' _ _ e)) (Nat.le_trans l5 (by decide)) yAt_same ?_ ?_
            · rintro i' y m H7 H6 N R hm s6 ⟨rfl, hy'⟩ hy hn'
              rw [hm] at hy'
              cases hy'
              refine ⟨rfl, ?_⟩
              dsimp only [tYes]
              rw [if_pos rfl]
              exact ⟨_, rfl, _, _, rfl, (p _ (List.mem_of_getElem? hm)).plN, hy rfl _ fun _ _ e => e⟩
            · intro H6 s6 e6
              rw [filter_yes] at e6
              refine ⟨(by show 2 ≤ sizeLine; decide), fun z hz => ?_⟩
              have tz := Same.new (o := .lst [V.bl true, .bl true]) hz
              refine ⟨.list (ys.map fun y => .bool (isNum y)), .list [.bool true, .bool true], .lst (SqL.of (tz _ _ e6)) (dp_bools ys), .lst (SqL.of upd_same) (.cons (.bl true) (.cons (.bl true) .nil)), bools_shaped ys, rfl, ?_⟩
              rw [two_eqv]
              exact ⟨_, _, _, _, rfl, s6.trans tz⟩
        clear v14 v16 v17 v18
        rintro σ' H6 ⟨v14, v16, v17, v18, rfl, s6⟩
        have R6 := R5.keep s6
        have B6 := B5.same s6
        obtain ⟨ws, ew, lw⟩ := B6.L.len
        refine ⟨fun σ' H' => H' = H6 ∧ σ' = [some (.ref a0), some (.ref st), some (.int (0 + (j : Int))), some (.ref a), some (.int rate), some (.int (d : Int)), some (hv ho), some (hv ro), some (.ref fv), some (.ref q), some vd, some vg, some vt, some (.ref po), v14, v15, v16, v17, v18, some x, some (.bl (twoB o)), some (.bl (ticksO (lastT l.length d ho) o).isSome), none, none], ?_, ?_⟩
        · refine ⟨_, rfl, _, rfl, ?_⟩
          cases ct : twoB o with
          | false => exact iteF ⟨rfl, by rw [two_no ct]; rfl⟩
          | true =>
            obtain ⟨b, s', e', rfl, rfl, e⟩ := two_at R6 ct
            refine iteT ⟨_, rfl, ix_T (K := K) (i := 0) e rfl ⟨_, _, rfl, rfl, _, rfl, ?_⟩⟩
            have key := ticks_two (lastT l.length d ho) s' e'
            cases c1 : decide (0 ≤ s') with
            | false =>
              rw [c1] at key
              exact iteF ⟨rfl, by rw [key]; rfl⟩
            | true =>
              rw [c1] at key
              refine iteT ⟨_, rfl, ix_T (K := K) (i := 1) e rfl ⟨_, _, rfl, rfl, _, rfl, ?_⟩⟩
              cases c2 : decide (s' ≤ e') with
              | false =>
                rw [c2] at key
                exact iteF ⟨rfl, by rw [key]; rfl⟩
              | true =>
                rw [c2] at key
                refine iteT ⟨_, rfl, q, ws, rfl, .inl (SqL.of ew), _, _, rfl, rfl, rfl, ?_⟩
                rw [key, lw]
                dsimp only
                rw [show decide (e' < ((lastT l.length d ho + 1 : Nat) : Int)) = decide (e' ≤ ((lastT l.length d ho : Nat) : Int)) from decide_eq_decide.mpr (by omega)]
                rfl
        rintro σ' H7 ⟨rfl, rfl⟩
        refine ⟨fun σ' H' => H' = H7 ∧ σ' = [some (.ref a0), some (.ref st), some (.int (0 + (j : Int))), some (.ref a), some (.int rate), some (.int (d : Int)), some (hv ho), some (hv ro), some (.ref fv), some (.ref q), some vd, some vg, some vt, some (.ref po), v14, v15, some (.bl (pairB (gapL l rate d ho ro) (ticksO (lastT l.length d ho) o))), v17, v18, some x, some (.bl (twoB o)), some (.bl (ticksO (lastT l.length d ho) o).isSome), none, none], ?_, ?_⟩
        · refine ⟨_, rfl, _, rfl, ?_⟩
          cases ct : ticksO (lastT l.length d ho) o with
          | none => exact iteF ⟨rfl, rfl⟩
          | some p =>
            obtain ⟨b, s', e', rfl, e, q1, q2, hse, hen⟩ := ticks_at R6 ct
            obtain ⟨p1, ep1, hp1⟩ := B6.L.pair hen ew
            obtain ⟨p2, ep2, hp2⟩ := B6.L.pair (show s' ≤ lastT l.length d ho by omega) ew
            refine iteT ⟨_, rfl, _, rfl, ix_T (K := K) (i := 1) e rfl (ix_L (K := K) ew ep1 (ix_T (K := K) (i := 0) hp1 rfl ?_))⟩
            refine ⟨_, rfl, _, rfl, ix_T (K := K) (i := 0) e rfl (ix_L (K := K) ew ep2 (ix_T (K := K) (i := 1) hp2 rfl ?_))⟩
            refine ⟨_, _, rfl, rfl, _, rfl, _, rfl, ix_T (K := K) (i := 1) e rfl ⟨_, rfl, ix_T (K := K) (i := 0) e rfl ?_⟩⟩
            refine ⟨_, _, rfl, rfl, _, _, rfl, rfl, rate_mul r1 r2 _, _, _, rfl, rfl, rfl, ?_⟩
            have eg : pairB (gapL l rate d ho ro) (some p) = gapL l rate d ho ro s' e' := by
              show gapL l rate d ho ro p.1 p.2 = _
              rw [q1, q2]
            rw [eg]
            rfl
        rintro σ' H8 ⟨rfl, rfl⟩
        refine ⟨_, rfl, _, rfl, _, rfl, _, rfl, _, rfl, _, rfl, _, _, _, _, _, _, rfl, .inr ⟨l, rate, d, ho, ro, o, B6.five, R6, fun H9 s9 => ?_⟩⟩
        refine ⟨_, _, rfl, .bl _, _, rfl, _, _, rfl, .bl _, rfl, _, rfl, ?_⟩
        rw [decide_eq_true rfl]
        have s59 := s6.trans s9
        exact iteF ⟨⟨_, _, _, _, _, _, _, rfl⟩, k15.trans (.kp (.same s59)), S5.same s59, Tb5.ext s59⟩
      · rintro σ H2 ⟨⟨v14, v16, v17, v18, v19, v20, v21, rfl⟩, k2, S2, Tb2⟩
        exact ⟨_, _, _, _, _, _, _, rfl, k2, S2, Tb2⟩
    clear v14 v16 v17 v18 v19 v20 v21
    rintro σ' H2 ⟨v14, v16, v17, v18, v19, v20, v21, rfl, k2, S2, Tb2⟩
    have B2 := B1.kn k2 S2 Tb2
    have G2 := G1.tp (KpN.tp B1.S k2)
    have D2 := D1.kn k2
    have epo2 := k2 _ _ epo npo.1 npo.2 (fun _ z => by cases z)
    clear B1 G1 D1 epo k2
    refine ⟨_, rfl, _, rfl, _, rfl, _, rfl, _, rfl, _, rfl, rfl, _, _, _, _, _, _, rfl, ?_⟩
    obtain ⟨o, Ro, eo⟩ := gap_ticks (K := K) G2 hog
    refine .inr ⟨l, rate, d, ho, ro, o, B2.five, Ro, fun H3 s3 => ?_⟩
    rw [eo]
    refine ⟨_, rfl, rfl, rfl, _, rfl, ?_⟩
    rw [G2.isNon, show (!og.isNone) = og.isSome from Option.not_isNone og, decide_eq_true rfl]
    refine iteF ?_
    have B3 := B2.same s3
    have D3 := D2.kn (.kp (.same s3))
    have epo3 := s3 _ _ epo2
    refine ⟨_, rfl, _, rfl, _, rfl, _, rfl, _, rfl, _, rfl, rfl, _, _, _, _, _, _, rfl, ?_⟩
    refine .inr ⟨l, rate, d, ho, ro, some (xs.map V.int), B3.five, .some (.inl epo3) (Fl.ints xs) (by rw [List.length_map]; omega), fun H4 s4 => ?_⟩
    rw [own_sent hL hro r1 hx1]
    refine ⟨_, rfl, rfl, rfl, _, rfl, ?_⟩
    rw [D3.isNon, show (!(dueL l rate d ho ro).isNone) = (dueL l rate d ho ro).isSome from Option.not_isNone _, decide_eq_true rfl]
    refine iteF ?_
    have B4 := B3.same s4
    refine ⟨_, rfl, _, rfl, st, lg, cl, fv, a, l, rate, d, ho, ro, _, rfl, B4.hfv, B4.ha, B4.na, hL, r1, r2, d4, hh, hro, by omega, B4.S, B4.Tb, fun H5 S5 Tb5 k5 => ⟨_, rfl, ?_⟩⟩
    exact iteF ⟨S5.mono (by omega), Tb5, _, _, _, _, _, _, _, _, _, _, _, _, _, _, _, _, _, _, _, _, rfl⟩
end
end K39
namespace K39
open PySem PySem.Spec PyProof.Rows L2 PySem.W LamX KA KW KU
/-! ### what the head's heap says, put together -/
section
variable {K : PySem.W.Frag} {mg : Str → Option Value} {h : Heap}
theorem defT_of {x : Str} {st : Stmt} {f : Addr} {od an : Option Addr} {sl : Array (Option Value)} {oc kV dc pm cd ct : Value} (X : K.In h) (G : h.Ns mainGlobals mg)
    (a : PySem.W.nsIn K mainGlobals x = some (some (.ref f))) (l : K.lookup f = some ⟨oc, od, .func (PySem.W.fnOf x x (defArgs st) (defBody st) (defScope st) .none kV dc pm an cd ct), sl⟩) (c : PySem.W.codeIn K cd x = true) (k : PySem.W.keepIn K (.ref f) = true) :
    Nonempty (DefT K mg x st) := ⟨⟨f, _, fun_mk l c k, PySem.W.mg_of X G a⟩⟩
theorem lamT_of {x : Str} {st : Stmt} {f c Pt : Addr} {od an : Option Addr} {sl : Array (Option Value)} {oc kV dc pm ct : Value} (X : K.In h) (G : h.Ns mainGlobals mg) (T : DefT K mg x st)
    (a : PySem.W.nsIn K mainGlobals x = some (some (.ref f))) (l : K.lookup f = some ⟨oc, od, .func (PySem.W.fnOf x x (defArgs st) (defBody st) (defScope st) .none kV dc pm an (.ref c) ct), sl⟩) (cc : PySem.W.codeIn K (.ref c) x = true) :
    LamT K x st T.a T.d c Pt := by
  have e := (PySem.W.mg_of X G a).symm.trans T.m
  have e : f = T.a := Value.ref.inj (Option.some.inj e)
  obtain ⟨oc', od', kV', dc', pm', an', cd', ct', sl', ed, lk, hcd⟩ := T.f.ex
  rw [e] at l
  have e2 := l.symm.trans lk
  have e3 := congrArg Obj.data (Option.some.inj e2)
  have e4 := Data.func.inj e3
  exact ⟨oc, od, kV, dc, pm, an, ct, sl, e4.symm, by rw [← e4]; exact l, cc⟩
theorem reelT_of {C : Addr} (X : K.In h) (G : h.Ns mainGlobals mg) (a : PySem.W.nsIn K mainGlobals "ReelError" = some (some (.ref C))) (b : PySem.W.subIn K (.ref C) (.type "BaseException") = some true)
    (t : PySem.W.typeIn K (.ref C) = some (.type "type")) (d : PySem.W.hasDictIn K C = true) : ∃ R : ReelT K mg, R.C = C := ⟨⟨C, PySem.W.mg_of X G a, b, t, d⟩, rfl⟩
theorem excT_of {x : Str} {C R : Addr} (X : K.In h) (G : h.Ns mainGlobals mg) (a : PySem.W.nsIn K mainGlobals x = some (some (.ref C))) (q : PySem.W.excIn K C veB "ValueError.__new__" = true) (k : PySem.W.keepIn K (.ref C) = true)
    (b : PySem.W.subIn K (.ref C) (.type "BaseException") = some true) (t : PySem.W.typeIn K (.ref C) = some (.type "type")) (r : PySem.W.subIn K (.ref C) (.ref R) = some true)
    (e1 : PySem.W.findIn K (.ref C) "__getattribute__" = some (some (.builtin "BaseException.__getattribute__"))) (e2 : PySem.W.findIn K (.ref C) "__getattr__" = some none) (e3 : PySem.W.hasDictIn K C = true)
    (e4 : PySem.W.findIn K (.ref C) "__class__" = some (some (.builtin "object.__class__"))) (e5 : PySem.W.specialIn K (.builtin "object.__class__") "__get__" = some (some (.builtin "getset_descriptor.__get__")))
    (e6 : PySem.W.takesIn K (.builtin "object.__class__") = some true) (e7 : PySem.W.mroIn K C (.type "object") = some true) : ∃ D : ExcT K mg x R, D.C = C :=
  ⟨⟨C, PySem.W.mg_of X G a, q, k, b, t, r, ⟨e1, e2, b, e3, e4, e5, e6, e7⟩⟩, rfl⟩
theorem cstT_of {x : Str} {n : Int} {t : Tok} (X : K.In h) (G : h.Ns mainGlobals mg) (a : PySem.W.nsIn K mainGlobals x = some (some (.int n t))) : CstT mg x n := ⟨t, PySem.W.mg_of X G a⟩
/-- the law, at the head's heap -/
theorem law_at {l : PySem.W.OpenLaw} {w : World} {fa c Pt : Addr} (T : Top K mg) (AP : Apart K T) (name : mg "law" = some (.ref fa)) (LT : LamT K "_law_refused" s__law_refused T._law_refused.a T._law_refused.d c Pt)
    (ht : h.get? Pt = some { cls := .none, data := .fields #[] }) (hk : K.lookup Pt = none) (hc : PySem.W.CodeHd h c Pt) : LawAtG l w K (L2.CX l.prog w) 13 63 "_law_script" mg fa h := by
  have e : fa = T.law.a := Value.ref.inj (Option.some.inj (name.symm.trans T.law.m))
  subst e
  have one : ∀ {A : Addr × Addr → Prop}, A (c, Pt) → ∀ p ∈ [(c, Pt)], A p := fun q p hp => by
    rw [List.mem_singleton.mp hp]
    exact q
  refine ⟨T.law.d, [(c, Pt)], spLaw K Pt, ⟨one ht, one hk, one hc⟩, fun s u => ?_, fun H a ns short t S => ?_, fun base _ _ tb => ok_law T AP LT (tb (c, Pt) (List.mem_singleton.mpr rfl))⟩
  · obtain ⟨oc, od, kV, doc, pm, an, cdv, ct, osl, ed, lk, hcd⟩ := T.law.f.ex
    rw [ed]
    exact .of_eq rfl
  · refine ⟨a, ns, rfl, S, short, fun p hp => ?_, fun _ => rfl⟩
    rw [List.mem_singleton.mp hp]
    exact TabS.nil (t (c, Pt) (List.mem_singleton.mpr rfl))
theorem calm_cx {P : Program} {w : World} {H : Hp} {s : Shared} {e : Value} {s' : Shared} (z : L2.CX P w [] H s (fun _ _ _ => False) e s') : False := by
  obtain ⟨_, _, _, _, _, _, _, _, _, _, _, _, f⟩ := z
  exact f
end
end K39
namespace K39
open PySem PySem.Spec PyProof.Rows L2 PySem.W LamX KA KW KU
section
variable {K : PySem.W.Frag} {mg : Str → Option Value} {h : Heap} {A : Prop}
theorem reel_use {C : Addr} (X : K.In h) (G : h.Ns mainGlobals mg) (a : PySem.W.nsIn K mainGlobals "ReelError" = some (some (.ref C))) (b : PySem.W.subIn K (.ref C) (.type "BaseException") = some true)
    (t : PySem.W.typeIn K (.ref C) = some (.type "type")) (d : PySem.W.hasDictIn K C = true) (n : ∀ R : ReelT K mg, R.C = C → A) : A := by
  obtain ⟨R, e⟩ := reelT_of X G a b t d
  exact n R e
theorem exc_use {x : Str} {C B : Addr} (X : K.In h) (G : h.Ns mainGlobals mg) (R : ReelT K mg) (eR : R.C = B) (a : PySem.W.nsIn K mainGlobals x = some (some (.ref C))) (q : PySem.W.excIn K C veB "ValueError.__new__" = true) (k : PySem.W.keepIn K (.ref C) = true)
    (b : PySem.W.subIn K (.ref C) (.type "BaseException") = some true) (t : PySem.W.typeIn K (.ref C) = some (.type "type")) (r : PySem.W.subIn K (.ref C) (.ref B) = some true)
    (e1 : PySem.W.findIn K (.ref C) "__getattribute__" = some (some (.builtin "BaseException.__getattribute__"))) (e2 : PySem.W.findIn K (.ref C) "__getattr__" = some none) (e3 : PySem.W.hasDictIn K C = true)
    (e4 : PySem.W.findIn K (.ref C) "__class__" = some (some (.builtin "object.__class__"))) (e5 : PySem.W.specialIn K (.builtin "object.__class__") "__get__" = some (some (.builtin "getset_descriptor.__get__")))
    (e6 : PySem.W.takesIn K (.builtin "object.__class__") = some true) (e7 : PySem.W.mroIn K C (.type "object") = some true) (n : ∀ D : ExcT K mg x R.C, D.C = C → A) : A := by
  rw [← eR] at r
  obtain ⟨D, eD⟩ := excT_of X G a q k b t r e1 e2 e3 e4 e5 e6 e7
  exact n D eD
theorem def_use {x : Str} {st : Stmt} {f : Addr} {od an : Option Addr} {sl : Array (Option Value)} {oc kV dc pm cd ct : Value} (X : K.In h) (G : h.Ns mainGlobals mg)
    (a : PySem.W.nsIn K mainGlobals x = some (some (.ref f))) (l : K.lookup f = some ⟨oc, od, .func (PySem.W.fnOf x x (defArgs st) (defBody st) (defScope st) .none kV dc pm an cd ct), sl⟩) (c : PySem.W.codeIn K cd x = true) (k : PySem.W.keepIn K (.ref f) = true)
    (n : DefT K mg x st → A) : A := by
  obtain ⟨D⟩ := defT_of X G a l c k
  exact n D
theorem lam_use {x : Str} {st : Stmt} {f c Pt : Addr} {od an : Option Addr} {sl : Array (Option Value)} {oc kV dc pm ct : Value} (X : K.In h) (G : h.Ns mainGlobals mg) (T : DefT K mg x st) (t : h.get? Pt = some { cls := .none, data := .fields #[] })
    (a : PySem.W.nsIn K mainGlobals x = some (some (.ref f))) (l : K.lookup f = some ⟨oc, od, .func (PySem.W.fnOf x x (defArgs st) (defBody st) (defScope st) .none kV dc pm an (.ref c) ct), sl⟩) (cc : PySem.W.codeIn K (.ref c) x = true)
    (hk : K.lookup Pt = none) (hc : PySem.W.codeHdIn K c Pt = true) (n : LamT K x st T.a T.d c Pt → K.lookup Pt = none → PySem.W.CodeHd h c Pt → A) : A := n (lamT_of X G T a l cc) hk (PySem.W.codeHd_of_K X hc)
end
end K39
namespace K39
open PySem PySem.Spec PyProof.Rows L2 PySem.W LamX KA
theorem kit_own2 {K : PySem.W.Frag} {mg : Str → Option Value} {x y : Str} {R C D : Addr} {cd : ClassData} (X : ExcT K mg x R) (Y : ExcT K mg y R) (eX : X.C = C) (eY : Y.C = D) (n : C ≠ D) (c : PySem.W.clsIn K D = some cd) (s : PySem.W.subIn K (.ref C) (.ref D) = some false) {A : Prop} (k : PySem.W.kitOne K (.ref X.C) (.ref Y.C) = some false → A) : A := by
  refine k ?_
  have ty := Y.t
  rw [eY] at ty
  rw [eX, eY]
  unfold PySem.W.kitOne
  rw [if_neg (by simpa using n)]
  unfold PySem.W.kitCls
  dsimp only
  rw [c, ty, if_pos (by simp)]
  exact s
end K39
open PySem PySem.W PyProof.Rows
set_option maxRecDepth 100000 in
set_option maxHeartbeats 0 in
theorem PySem.Challenge.cw_pricedreels_k39_frames_over_a_line_holds : PySem.Challenge.rw_pricedreels_k39_frames_over_a_line.Holds := by
  w_on; o_law; k_head; (case hw => w_witness2)
  k_fill
  refine KA.walk_ofG (l := PySem.Challenge.rw_pricedreels_k39_frames_over_a_line) (k := 13) (n := 63) (x := "_law_script") (CX := fun w => L2.CX PySem.Challenge.rw_pricedreels_k39_frames_over_a_line.prog w) rfl (by decide) rfl ⟨rfl, by decide, by decide⟩ (fun w h Y => km_in_of Y) ?F (fun _ _ _ _ _ z => K39.calm_cx z)
  case F =>
    intro w mg fa h Y KX G hmg
    have tabs := km_tabs_of Y
    have one := tabs _ List.mem_cons_self
    refine' K39.reel_use KX G ?ya ?yb ?yt ?yd ?_
    (case ya => k_is); (case yb => k_is); (case yt => k_is); (case yd => k_is)
    intro R eR
    refine' K39.exc_use (x := "BadDelay") KX G R eR ?ya ?yq ?yk ?yb ?yt ?yr ?ye1 ?ye2 ?ye3 ?ye4 ?ye5 ?ye6 ?ye7 ?_
    (case ya => k_is); (case yq => k_exc); (case yk => k_is); (case yb => k_is); (case yt => k_is); (case yr => k_is); (case ye1 => k_is); (case ye2 => k_is); (case ye3 => k_is); (case ye4 => k_is); (case ye5 => k_is); (case ye6 => k_is); (case ye7 => k_is)
    intro BadDelay eBadDelay
    refine' K39.exc_use (x := "BadHold") KX G R eR ?ya ?yq ?yk ?yb ?yt ?yr ?ye1 ?ye2 ?ye3 ?ye4 ?ye5 ?ye6 ?ye7 ?_
    (case ya => k_is); (case yq => k_exc); (case yk => k_is); (case yb => k_is); (case yt => k_is); (case yr => k_is); (case ye1 => k_is); (case ye2 => k_is); (case ye3 => k_is); (case ye4 => k_is); (case ye5 => k_is); (case ye6 => k_is); (case ye7 => k_is)
    intro BadHold eBadHold
    refine' K39.exc_use (x := "BadRate") KX G R eR ?ya ?yq ?yk ?yb ?yt ?yr ?ye1 ?ye2 ?ye3 ?ye4 ?ye5 ?ye6 ?ye7 ?_
    (case ya => k_is); (case yq => k_exc); (case yk => k_is); (case yb => k_is); (case yt => k_is); (case yr => k_is); (case ye1 => k_is); (case ye2 => k_is); (case ye3 => k_is); (case ye4 => k_is); (case ye5 => k_is); (case ye6 => k_is); (case ye7 => k_is)
    intro BadRate eBadRate
    refine' K39.exc_use (x := "BadRoom") KX G R eR ?ya ?yq ?yk ?yb ?yt ?yr ?ye1 ?ye2 ?ye3 ?ye4 ?ye5 ?ye6 ?ye7 ?_
    (case ya => k_is); (case yq => k_exc); (case yk => k_is); (case yb => k_is); (case yt => k_is); (case yr => k_is); (case ye1 => k_is); (case ye2 => k_is); (case ye3 => k_is); (case ye4 => k_is); (case ye5 => k_is); (case ye6 => k_is); (case ye7 => k_is)
    intro BadRoom eBadRoom
    refine' K39.exc_use (x := "BadSizes") KX G R eR ?ya ?yq ?yk ?yb ?yt ?yr ?ye1 ?ye2 ?ye3 ?ye4 ?ye5 ?ye6 ?ye7 ?_
    (case ya => k_is); (case yq => k_exc); (case yk => k_is); (case yb => k_is); (case yt => k_is); (case yr => k_is); (case ye1 => k_is); (case ye2 => k_is); (case ye3 => k_is); (case ye4 => k_is); (case ye5 => k_is); (case ye6 => k_is); (case ye7 => k_is)
    intro BadSizes eBadSizes
    refine' K39.def_use (x := "is_number") (st := K39.s_is_number) KX G ?ya ?yl ?yc ?yk ?_
    (case ya => k_is); (case yl => k_is); (case yc => k_is); (case yk => k_is)
    intro f_is_number
    refine' K39.def_use (x := "is_within") (st := K39.s_is_within) KX G ?ya ?yl ?yc ?yk ?_
    (case ya => k_is); (case yl => k_is); (case yc => k_is); (case yk => k_is)
    intro f_is_within
    refine' K39.def_use (x := "is_tuple_of") (st := K39.s_is_tuple_of) KX G ?ya ?yl ?yc ?yk ?_
    (case ya => k_is); (case yl => k_is); (case yc => k_is); (case yk => k_is)
    intro f_is_tuple_of
    refine' K39.def_use (x := "is_sending") (st := K39.s_is_sending) KX G ?ya ?yl ?yc ?yk ?_
    (case ya => k_is); (case yl => k_is); (case yc => k_is); (case yk => k_is)
    intro f_is_sending
    refine' K39.def_use (x := "sending") (st := K39.s_sending) KX G ?ya ?yl ?yc ?yk ?_
    (case ya => k_is); (case yl => k_is); (case yc => k_is); (case yk => k_is)
    intro f_sending
    refine' K39.def_use (x := "strait") (st := K39.s_strait) KX G ?ya ?yl ?yc ?yk ?_
    (case ya => k_is); (case yl => k_is); (case yc => k_is); (case yk => k_is)
    intro f_strait
    refine' K39.def_use (x := "is_strait") (st := K39.s_is_strait) KX G ?ya ?yl ?yc ?yk ?_
    (case ya => k_is); (case yl => k_is); (case yc => k_is); (case yk => k_is)
    intro f_is_strait
    refine' K39.def_use (x := "check_sizes") (st := K39.s_check_sizes) KX G ?ya ?yl ?yc ?yk ?_
    (case ya => k_is); (case yl => k_is); (case yc => k_is); (case yk => k_is)
    intro f_check_sizes
    refine' K39.def_use (x := "check_rate") (st := K39.s_check_rate) KX G ?ya ?yl ?yc ?yk ?_
    (case ya => k_is); (case yl => k_is); (case yc => k_is); (case yk => k_is)
    intro f_check_rate
    refine' K39.def_use (x := "check_delay") (st := K39.s_check_delay) KX G ?ya ?yl ?yc ?yk ?_
    (case ya => k_is); (case yl => k_is); (case yc => k_is); (case yk => k_is)
    intro f_check_delay
    refine' K39.def_use (x := "check_line") (st := K39.s_check_line) KX G ?ya ?yl ?yc ?yk ?_
    (case ya => k_is); (case yl => k_is); (case yc => k_is); (case yk => k_is)
    intro f_check_line
    refine' K39.def_use (x := "check_hold") (st := K39.s_check_hold) KX G ?ya ?yl ?yc ?yk ?_
    (case ya => k_is); (case yl => k_is); (case yc => k_is); (case yk => k_is)
    intro f_check_hold
    refine' K39.def_use (x := "check_room") (st := K39.s_check_room) KX G ?ya ?yl ?yc ?yk ?_
    (case ya => k_is); (case yl => k_is); (case yc => k_is); (case yk => k_is)
    intro f_check_room
    refine' K39.def_use (x := "check_held") (st := K39.s_check_held) KX G ?ya ?yl ?yc ?yk ?_
    (case ya => k_is); (case yl => k_is); (case yc => k_is); (case yk => k_is)
    intro f_check_held
    refine' K39.def_use (x := "are_sizes") (st := K39.s_are_sizes) KX G ?ya ?yl ?yc ?yk ?_
    (case ya => k_is); (case yl => k_is); (case yc => k_is); (case yk => k_is)
    intro f_are_sizes
    refine' K39.def_use (x := "are_ticks") (st := K39.s_are_ticks) KX G ?ya ?yl ?yc ?yk ?_
    (case ya => k_is); (case yl => k_is); (case yc => k_is); (case yk => k_is)
    intro f_are_ticks
    refine' K39.def_use (x := "last_tick") (st := K39.s_last_tick) KX G ?ya ?yl ?yc ?yk ?_
    (case ya => k_is); (case yl => k_is); (case yc => k_is); (case yk => k_is)
    intro f_last_tick
    refine' K39.def_use (x := "taken_by") (st := K39.s_taken_by) KX G ?ya ?yl ?yc ?yk ?_
    (case ya => k_is); (case yl => k_is); (case yc => k_is); (case yk => k_is)
    intro f_taken_by
    refine' K39.def_use (x := "least_brought") (st := K39.s_least_brought) KX G ?ya ?yl ?yc ?yk ?_
    (case ya => k_is); (case yl => k_is); (case yc => k_is); (case yk => k_is)
    intro f_least_brought
    refine' K39.def_use (x := "most_brought") (st := K39.s_most_brought) KX G ?ya ?yl ?yc ?yk ?_
    (case ya => k_is); (case yl => k_is); (case yc => k_is); (case yk => k_is)
    intro f_most_brought
    refine' K39.def_use (x := "sending_of") (st := K39.s_sending_of) KX G ?ya ?yl ?yc ?yk ?_
    (case ya => k_is); (case yl => k_is); (case yc => k_is); (case yk => k_is)
    intro f_sending_of
    refine' K39.def_use (x := "first_pair") (st := K39.s_first_pair) KX G ?ya ?yl ?yc ?yk ?_
    (case ya => k_is); (case yl => k_is); (case yc => k_is); (case yk => k_is)
    intro f_first_pair
    refine' K39.def_use (x := "_law_begun") (st := K39.s__law_begun) KX G ?ya ?yl ?yc ?yk ?_
    (case ya => k_is); (case yl => k_is); (case yc => k_is); (case yk => k_is)
    intro f__law_begun
    refine' K39.def_use (x := "_law_draw") (st := K39.s__law_draw) KX G ?ya ?yl ?yc ?yk ?_
    (case ya => k_is); (case yl => k_is); (case yc => k_is); (case yk => k_is)
    intro f__law_draw
    refine' K39.def_use (x := "_law_pick") (st := K39.s__law_pick) KX G ?ya ?yl ?yc ?yk ?_
    (case ya => k_is); (case yl => k_is); (case yc => k_is); (case yk => k_is)
    intro f__law_pick
    refine' K39.def_use (x := "_law_caught") (st := K39.s__law_caught) KX G ?ya ?yl ?yc ?yk ?_
    (case ya => k_is); (case yl => k_is); (case yc => k_is); (case yk => k_is)
    intro f__law_caught
    refine' K39.def_use (x := "_law_is_whole") (st := K39.s__law_is_whole) KX G ?ya ?yl ?yc ?yk ?_
    (case ya => k_is); (case yl => k_is); (case yc => k_is); (case yk => k_is)
    intro f__law_is_whole
    refine' K39.def_use (x := "_law_sizes") (st := K39.s__law_sizes) KX G ?ya ?yl ?yc ?yk ?_
    (case ya => k_is); (case yl => k_is); (case yc => k_is); (case yk => k_is)
    intro f__law_sizes
    refine' K39.def_use (x := "_law_line") (st := K39.s__law_line) KX G ?ya ?yl ?yc ?yk ?_
    (case ya => k_is); (case yl => k_is); (case yc => k_is); (case yk => k_is)
    intro f__law_line
    refine' K39.def_use (x := "_law_first_strait") (st := K39.s__law_first_strait) KX G ?ya ?yl ?yc ?yk ?_
    (case ya => k_is); (case yl => k_is); (case yc => k_is); (case yk => k_is)
    intro f__law_first_strait
    refine' K39.def_use (x := "_law_greedy") (st := K39.s__law_greedy) KX G ?ya ?yl ?yc ?yk ?_
    (case ya => k_is); (case yl => k_is); (case yc => k_is); (case yk => k_is)
    intro f__law_greedy
    refine' K39.def_use (x := "_law_is_due") (st := K39.s__law_is_due) KX G ?ya ?yl ?yc ?yk ?_
    (case ya => k_is); (case yl => k_is); (case yc => k_is); (case yk => k_is)
    intro f__law_is_due
    refine' K39.def_use (x := "_law_bent") (st := K39.s__law_bent) KX G ?ya ?yl ?yc ?yk ?_
    (case ya => k_is); (case yl => k_is); (case yc => k_is); (case yk => k_is)
    intro f__law_bent
    refine' K39.def_use (x := "_law_sort") (st := K39.s__law_sort) KX G ?ya ?yl ?yc ?yk ?_
    (case ya => k_is); (case yl => k_is); (case yc => k_is); (case yk => k_is)
    intro f__law_sort
    refine' K39.def_use (x := "_law_refused") (st := K39.s__law_refused) KX G ?ya ?yl ?yc ?yk ?_
    (case ya => k_is); (case yl => k_is); (case yc => k_is); (case yk => k_is)
    intro f__law_refused
    refine' K39.def_use (x := "law") (st := K39.s_law) KX G ?ya ?yl ?yc ?yk ?_
    (case ya => k_is); (case yl => k_is); (case yc => k_is); (case yk => k_is)
    intro f_law
    refine' K39.lam_use KX G f__law_refused one ?ya ?yl ?yc ?yh ?yj ?_
    (case ya => k_is); (case yl => k_is); (case yc => k_is); (case yh => kernel_rfl); (case yj => kernel_rfl)
    intro LT noT hd
    refine' K39.kit_own2 BadRate BadSizes eBadRate eBadSizes ?yn ?yc ?ys ?_
    (case yn => decide); (case yc => k_is); (case ys => k_is)
    intro a10
    refine' K39.kit_own2 BadDelay BadSizes eBadDelay eBadSizes ?yn ?yc ?ys ?_
    (case yn => decide); (case yc => k_is); (case ys => k_is)
    intro a20
    refine' K39.kit_own2 BadDelay BadRate eBadDelay eBadRate ?yn ?yc ?ys ?_
    (case yn => decide); (case yc => k_is); (case ys => k_is)
    intro a21
    refine' K39.kit_own2 BadHold BadSizes eBadHold eBadSizes ?yn ?yc ?ys ?_
    (case yn => decide); (case yc => k_is); (case ys => k_is)
    intro a30
    refine' K39.kit_own2 BadHold BadRate eBadHold eBadRate ?yn ?yc ?ys ?_
    (case yn => decide); (case yc => k_is); (case ys => k_is)
    intro a31
    refine' K39.kit_own2 BadHold BadDelay eBadHold eBadDelay ?yn ?yc ?ys ?_
    (case yn => decide); (case yc => k_is); (case ys => k_is)
    intro a32
    refine' K39.kit_own2 BadRoom BadSizes eBadRoom eBadSizes ?yn ?yc ?ys ?_
    (case yn => decide); (case yc => k_is); (case ys => k_is)
    intro a40
    refine' K39.kit_own2 BadRoom BadRate eBadRoom eBadRate ?yn ?yc ?ys ?_
    (case yn => decide); (case yc => k_is); (case ys => k_is)
    intro a41
    refine' K39.kit_own2 BadRoom BadDelay eBadRoom eBadDelay ?yn ?yc ?ys ?_
    (case yn => decide); (case yc => k_is); (case ys => k_is)
    intro a42
    refine' K39.kit_own2 BadRoom BadHold eBadRoom eBadHold ?yn ?yc ?ys ?_
    (case yn => decide); (case yc => k_is); (case ys => k_is)
    intro a43
    have cMOST_FRAMES := K39.cstT_of (x := "MOST_FRAMES") (n := 12) KX G (by k_is)
    have cMOST_SIZE := K39.cstT_of (x := "MOST_SIZE") (n := 9999) KX G (by k_is)
    have cMOST_RATE := K39.cstT_of (x := "MOST_RATE") (n := 9999) KX G (by k_is)
    have cMOST_DELAY := K39.cstT_of (x := "MOST_DELAY") (n := 40) KX G (by k_is)
    have cMOST_HELD := K39.cstT_of (x := "MOST_HELD") (n := 99999) KX G (by k_is)
    have b_isinstance := PySem.W.mg_none_of (n := "isinstance") KX G (by k_is)
    have b_int := PySem.W.mg_none_of (n := "int") KX G (by k_is)
    have b_bool := PySem.W.mg_none_of (n := "bool") KX G (by k_is)
    have b_len := PySem.W.mg_none_of (n := "len") KX G (by k_is)
    have b_abs := PySem.W.mg_none_of (n := "abs") KX G (by k_is)
    have b_range := PySem.W.mg_none_of (n := "range") KX G (by k_is)
    have b_min := PySem.W.mg_none_of (n := "min") KX G (by k_is)
    have b_max := PySem.W.mg_none_of (n := "max") KX G (by k_is)
    have b_repr := PySem.W.mg_none_of (n := "repr") KX G (by k_is)
    have b_list := PySem.W.mg_none_of (n := "list") KX G (by k_is)
    have b_tuple := PySem.W.mg_none_of (n := "tuple") KX G (by k_is)
    have b_sum := PySem.W.mg_none_of (n := "sum") KX G (by k_is)
    have b_zip := PySem.W.mg_none_of (n := "zip") KX G (by k_is)
    have b_all := PySem.W.mg_none_of (n := "all") KX G (by k_is)
    have b_any := PySem.W.mg_none_of (n := "any") KX G (by k_is)
    have b_enumerate := PySem.W.mg_none_of (n := "enumerate") KX G (by k_is)
    have b_ValueError := PySem.W.mg_none_of (n := "ValueError") KX G (by k_is)
    exact K39.law_at (Pt := _) { reel := R, BadDelay := BadDelay, BadHold := BadHold, BadRate := BadRate, BadRoom := BadRoom, BadSizes := BadSizes, is_number := f_is_number, is_within := f_is_within, is_tuple_of := f_is_tuple_of, is_sending := f_is_sending, sending := f_sending, strait := f_strait, is_strait := f_is_strait, check_sizes := f_check_sizes, check_rate := f_check_rate, check_delay := f_check_delay, check_line := f_check_line, check_hold := f_check_hold, check_room := f_check_room, check_held := f_check_held, are_sizes := f_are_sizes, are_ticks := f_are_ticks, last_tick := f_last_tick, taken_by := f_taken_by, least_brought := f_least_brought, most_brought := f_most_brought, sending_of := f_sending_of, first_pair := f_first_pair, _law_begun := f__law_begun, _law_draw := f__law_draw, _law_pick := f__law_pick, _law_caught := f__law_caught, _law_is_whole := f__law_is_whole, _law_sizes := f__law_sizes, _law_line := f__law_line, _law_first_strait := f__law_first_strait, _law_greedy := f__law_greedy, _law_is_due := f__law_is_due, _law_bent := f__law_bent, _law_sort := f__law_sort, _law_refused := f__law_refused, law := f_law, cMOST_FRAMES := cMOST_FRAMES, cMOST_SIZE := cMOST_SIZE, cMOST_RATE := cMOST_RATE, cMOST_DELAY := cMOST_DELAY, cMOST_HELD := cMOST_HELD, b_isinstance := b_isinstance, b_int := b_int, b_bool := b_bool, b_len := b_len, b_abs := b_abs, b_range := b_range, b_min := b_min, b_max := b_max, b_repr := b_repr, b_list := b_list, b_tuple := b_tuple, b_sum := b_sum, b_zip := b_zip, b_all := b_all, b_any := b_any, b_enumerate := b_enumerate, b_ValueError := b_ValueError } ⟨a10, a20, a21, a30, a31, a32, a40, a41, a42, a43⟩ hmg LT one noT hd
