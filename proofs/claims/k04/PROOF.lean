import PyProof.Rows.All
import Wide.All
import OpenK.AllK
import Wide.FinOn
import PyProof.FString3
import PyProof.StrBlock2
import PyProof.ReprRoads
import KE.KxField
import HandS.ForMost
import HandS.EndTab
import HandS.WordsExc
import HandS.ExcOwn
import HandS.ExcValue
import HandS.ExcIs
import HandS.IsInst
import HandS.StrMore
import HandS.FStr
import HandS.Style
import HandS.Wide
import HandS.WideBits
import HandS.RaiseMore
import HandS.Small
import HandS.Evl
import HandS.Defaults
import KE.KExcSuper
import KE.KExcIs
import PySem.Challenge.RW_pricedreels_k04_blocks_cells_and_covers
import KE.DataMinMax
import HandS.TupMul
import HandS.TupAny
import PyProof.InstEq
import HandS.OwnEq
import KE.KDictDisplayH
import PyProof.DictTable
import HandS.Finally
import PyProof.DictUpdate
import HandS.Conv
import HandS.Walk
import HandS.Deep
import PyProof.Rows.ReprOcc
import HandS.More
import HandS.SortKw
import KE.RegKSuper
import KE.KExcLine
set_option Elab.async false
set_option linter.all false
set_option maxRecDepth 100000
set_option maxHeartbeats 4000000
namespace KA
open PySem PySem.Spec PyProof.Rows L2
section
variable {X : Cx}
/-- text * int -/
def rMulS : R2 := fun x y H Q => ∃ (a : Str) (n : Int), x = .str a ∧ y = .int n ∧ 0 ≤ n ∧ n ≤ 1000 ∧ a.length ≤ 1000 ∧ Q (.str (Txt.mul a n)) H
theorem op_mulS : OpR X (binaryOp .Mult) rMulS := by
  intro pins s σ H x y v u Q I rx ry h
  obtain ⟨a, n, rfl, rfl, h0, h1, h2, q⟩ := h
  obtain ⟨t, rfl⟩ := rx
  obtain ⟨t', rfl⟩ := ry
  refine SB.mul ⟨?_, fun hn hz => ?_, fun hn hz => ?_⟩ fun t' k => ⟨.str (Txt.mul a n), H, I.tok _, ⟨_, rfl⟩, q⟩
  · simp
    omega
  · have h3 : (1000 : Int) ≤ (2 ^ 63 - 1) / n := by
      refine Int.le_ediv_of_mul_le (by omega) ?_
      omega
    omega
  · have : a.length * n.toNat ≤ 1000 * 1000 := Nat.mul_le_mul h2 (by omega)
    unfold Builtin.Str.tooLong
    simp
    have e : sizeLine = 16777216 := by rfl
    omega
end
end KA
namespace KA
open PySem PySem.Spec PyProof.Rows L2 PySem.W
/-- the binary digits of a number from 0 on, as a text -/
def binText (n : Nat) : Str := ⟨((Nat.toDigits 2 n).map Char.toNat).toArray⟩
def specB : Str := ⟨#[98]⟩
theorem digits_some (n : Nat) : ∃ d ds, (Nat.toDigits 2 n).map Char.toNat = d :: ds := by
  cases e : (Nat.toDigits 2 n).map Char.toNat with
  | nil =>
    have h := congrArg List.length e
    simp at h
  | cons d ds => exact ⟨d, ds, rfl⟩
theorem meets_b {a : Int} {t : Tok} (h0 : 0 ≤ a) (hl : (binText a.natAbs).length ≤ sizeLine) (u : Tok) :
    Meets (Builtin.«int.__format__» ⟨[.int a t, .str specB u], []⟩) (fun _ R s => ∀ t' k, R (.ok (.ret (.str (binText a.natAbs) t'))) { s with toks := k }) := by
  apply KPc.meets_of
  intro _ _ _ _ _ _ _
  unfold Builtin.«int.__format__»
  refine wpAny_bind (wpAny_of_eq (a := (_, _)) rfl ?_)
  refine wpAny_bind (wpAny_of_eq (a := _) rfl ?_)
  kxf_if
  refine wpAny_bind (wpAny_typeNameOf (T := "str") (typeIs_str _ _ _) (by decide) fun _ => ?_)
  refine wpAny_bind (wpAny_of_eq (a := some _) rfl ?_)
  kxf_if
  kxf_if
  refine wpAny_bind (wpAny_typeNameOfCut_int ?_)
  have hneg : decide (a < 0) = false := decide_eq_false (by omega)
  (repeat kxf_if)
  refine KXf.ret_text (T := binText a.natAbs) ?_ ?_ ?_
  · rw [hneg]
    obtain ⟨d, ds, e⟩ := digits_some a.natAbs
    unfold binText
    rw [e]
    generalize hL : List.map _ _ = L
    have eL : L = d :: ds := hL.symm.trans e
    subst eL
    show ((⟨(List.replicate (((-1 : Int) - ((([] : List Nat).length : Nat) + (([] : List Nat).length : Nat) + (([] : List Nat).length : Nat)) - ((List.replicate ((0 : Int).toNat - (d :: ds).length) 48 ++ (d :: ds)).length : Nat)).toNat) 32 ++ ([] : List Nat) ++ [] ++ List.replicate 0 32 ++ (List.replicate ((0 : Int).toNat - (d :: ds).length) 48 ++ (d :: ds)) ++ [] ++ List.replicate 0 32).toArray⟩ : Str)) = _
    have z1 : (0 : Int).toNat - (d :: ds).length = 0 := by simp
    rw [z1]
    have z2 : ((-1 : Int) - ((([] : List Nat).length : Nat) + (([] : List Nat).length : Nat) + (([] : List Nat).length : Nat)) - ((List.replicate 0 48 ++ (d :: ds)).length : Nat)).toNat = 0 := by
      simp
      omega
    rw [z2]
    simp
  · rw [hneg]
    obtain ⟨d, ds, e⟩ := digits_some a.natAbs
    unfold binText at hl
    rw [e] at hl
    generalize hL : List.map _ _ = L
    have eL : L = d :: ds := hL.symm.trans e
    subst eL
    show (⟨(List.replicate (((-1 : Int) - ((([] : List Nat).length : Nat) + (([] : List Nat).length : Nat) + (([] : List Nat).length : Nat)) - ((List.replicate ((0 : Int).toNat - (d :: ds).length) 48 ++ (d :: ds)).length : Nat)).toNat) 32 ++ ([] : List Nat) ++ [] ++ List.replicate 0 32 ++ (List.replicate ((0 : Int).toNat - (d :: ds).length) 48 ++ (d :: ds)) ++ [] ++ List.replicate 0 32).toArray⟩ : Str).length ≤ _
    have z1 : (0 : Int).toNat - (d :: ds).length = 0 := by simp
    rw [z1]
    have z2 : ((-1 : Int) - ((([] : List Nat).length : Nat) + (([] : List Nat).length : Nat) + (([] : List Nat).length : Nat)) - ((List.replicate 0 48 ++ (d :: ds)).length : Nat)).toNat = 0 := by
      simp
      omega
    rw [z2]
    simpa using hl
  · assumption
end KA
namespace KA
open PySem PySem.Spec PyProof.Rows L2 PySem.W
section
variable {X : Cx}
/-- f'{e:b}', a number from 0 on -/
theorem pe_fmtB {e : Expr} {te : TE} {pos p1 p2 : Pos} {k : Nat} (he : PE X e te) :
    PE X (.FormattedValue e (-1) (some (.JoinedStr [.Constant (.str "b") k p1] p2)) pos) (fun σ H Q => te σ H fun x H1 => ∃ i : Int, x = .int i ∧ 0 ≤ i ∧ (binText i.natAbs).length ≤ sizeLine ∧ Q (.str (binText i.natAbs)) H1) := by
  refine ⟨fun pins s σ H Q I h => ?_⟩
  refine wpAny_FormattedValue_spec (thn (he.run pins s σ H _ I h) fun v s1 hv => ?_)
  obtain ⟨x, H1, I1, r1, i, rfl, h0, hz, q⟩ := hv
  obtain ⟨t, rfl⟩ := r1
  refine wpAny_JoinedStr_one ?_
  refine Calls.Constant_str ⟨("b" : Str), _, rfl, ?_⟩
  exact KXf.field_int (spec' := specB) (by decide +kernel) (by decide) (by decide) (fun u => meets_b h0 hz u) fun t' k => ⟨.str (binText i.natAbs), H1, (I1.tok _).tok _, ⟨_, rfl⟩, q⟩
end
end KA
namespace KA
open PySem PySem.Spec PyProof.Rows L2 PySem.W
/-! ### an exception that was caught, kept as a value -/
/-- an exception of the class cls with the own dict d stands at a -/
def ExV (cls : Value) (d : Option Addr) (a : Addr) : HO := .ext fun h => ∃ oe : Obj, h.get? a = some oe ∧ Zc cls d oe ∧ ∃ vs, oe.data = .fields vs
theorem exV_ok {P : Program} {w : World} {H : Hp} {h : Heap} {a : Addr} {cls : Value} {d : Option Addr} {oe : Obj} {vs : Array Value} (e : h.get? a = some oe) (z : Zc cls d oe) (f : oe.data = .fields vs) :
    ObjOk P w H h a (ExV cls d a) := ⟨⟨oe, e, z, vs, f⟩, ⟨oe, e⟩, fun _ _ ⟨o, q, r⟩ k => ⟨o, k o q, r⟩⟩
section
variable {X : Cx} {pins : List (Addr × Obj)} {σ : L2.St} {H : Hp} {s : Shared}
/-- what was pinned, and did not stand at the entry, is tracked from here on -/
theorem track {a : Addr} {oe : Obj} {φ : Heap → Prop} (J : Inv X ((a, oe) :: pins) σ H s) (ok : X.Ok) (n0 : X.s_0.heap.get? a = none) (np : ∀ p ∈ X.pn ++ pins, p.1 ≠ a)
    (new : ObjOk X.prog X.w (upd H a (.ext φ)) s.heap a (.ext φ)) : Inv X pins σ (upd H a (.ext φ)) s := by
  obtain ⟨ea, na, nL, notF, nc⟩ := J.pin (a, oe) (List.mem_append_right _ List.mem_cons_self)
  have nz : ∀ b u, H b = some u → b ≠ a := fun b u q => ne_of_none q na
  have cut : ∀ p, p ∈ X.pn ++ pins → p ∈ X.pn ++ (a, oe) :: pins := fun p hp => by
    rcases List.mem_append.mp hp with h | h
    · exact List.mem_append_left _ h
    · exact List.mem_append_right _ (List.mem_cons_of_mem _ h)
  have old : ∀ b o, X.s_0.heap.get? b = some o → b ≠ a := fun b o q z => by
    rw [z, n0] at q
    cases q
  have base : Un X.fs X.ex X.H_0 (upd H a (.ext φ)) X.s_0.heap s.heap :=
    { keep := J.base.keep, slot := J.base.slot, there := J.base.there
      free := fun b o q n hx => (upd_ne (old b o q)).trans (J.base.free b o q n hx)
      tups := fun b xs q => (upd_ne (nz b _ (J.base.tups b xs q))).trans (J.base.tups b xs q)
      frzs := fun b o u q => (upd_ne (nz b _ (J.base.frzs b o u q))).trans (J.base.frzs b o u q)
      tbls := fun b ps q => by
        obtain ⟨more, z⟩ := J.base.tbls b ps q
        exact ⟨more, (upd_ne (nz b _ z)).trans z⟩ }
  have apart : ∀ b, b ≠ a → H b = none → upd H a (.ext φ) b = none := fun b hb hn => (upd_ne hb).trans hn
  have ce : ∀ x c, X.env.cells.lookup x = some c → c ≠ a := fun x c q z => by
    obtain ⟨v, o, ho, hd⟩ := J.cell x c q
    rw [z, ea] at ho
    cases ho
    exact nc v hd
  have hk : HOk X.prog X.w (upd H a (.ext φ)) s.heap := fun b o q => by
    by_cases hb : b = a
    · subst hb
      rw [upd_same] at q
      cases q
      exact new
    · rw [upd_ne hb] at q
      exact (J.hok b o q).stay (fun c v _ r => r) (fun c r => (upd_ne (nz c _ r)).trans r) (fun c xs r => (upd_ne (nz c _ r)).trans r)
  have pk : ∀ p ∈ X.pn ++ pins, s.heap.get? p.1 = some p.2 ∧ upd H a (.ext φ) p.1 = none ∧ p.1 ≠ X.env.locals ∧ p.1 ∉ X.fs ∧ ∀ v, p.2.data ≠ .cell v := fun p hp => by
    obtain ⟨e1, e2, e3⟩ := J.pin p (cut p hp)
    exact ⟨e1, apart _ (np p hp) e2, e3⟩
  exact { ok := ok, os := J.os, bare := J.bare, base := base, loc := J.loc, cell := J.cell, free := apart _ (Ne.symm nL) J.free
          freeC := fun x c q => apart _ (ce x c q) (J.freeC x c q), pin := pk, hok := hk, len := J.len }
end
/-- what 'except x as n: m = n' wishes of an exception of the body: it is of the clause's class, and m holds it behind the try (slots: n in i, m in j) -/
def wKeep (K : PySem.W.Frag) (c : Value) (i j len : Nat) (D : Ends) : WX := fun cls d σ H =>
  PySem.W.exmOne K cls c = some true ∧ ∀ a, H a = none → σ.length = len → D.nx ((((σ.set i (some (.ref a))).set j (some (.ref a)))).set i none) (upd H a (ExV cls d a))
section
variable {X : Cx} {x n m : Str} {c : Value} {i j : Nat} {body : List Stmt} {np pm pr pa ph pt : Pos} {tb : WX → TS}
theorem ps_try_keep (hx : X.ex = []) (hs : X.stack = X.env :: X.outer) (hf : X.env.frame = some X.env.locals) (hN : X.N.Nodup) (hi : X.N[i]? = some n) (hj : X.N[j]? = some m) (hln : X.env.kindOf n = some .local) (hlm : X.env.kindOf m = some .local) (hc : Names X x c)
    (hd : (n == ("__debug__" : Str)) = false) (hcd : (n == ("__classdict__" : Str)) = false)
    (hb : ∀ (W : WX) (pn : List (Addr × Obj)) (xe : Value → Shared → Prop), Takes (X.tr pn xe) W → PassesOwn (model X.prog X.w) X.A X.env xe → PSs (X.tr pn xe) body (tb W)) :
    PS X (.Try body [.ExceptHandler (some (.Name x np)) (some n) [.Assign [.Name m pm] (.Name n pr) pa] ph] [] [] pt) (fun D σ H => tb (wKeep X.K c i j X.N.length D) D σ H) := by
  refine ⟨fun pins s σ H D I h => wpAny_Try_except ?_⟩
  have ok := I.ok
  have fr : X.A.frames = some (X.env :: X.outer) := ok.frames.trans (congrArg some hs)
  have ways : ∀ u s', XE (X.tr (X.pn ++ pins) (fun e s₁ => wpAny (model X.prog X.w) X.A (noteFrame e X.env)
      (fun _ s₂ => wpAny (model X.prog X.w) X.A (setFlight e none)
        (fun _ s₃ => wpAny (model X.prog X.w) X.A (handleBy e X.env [.ExceptHandler (some (.Name x np)) (some n) [.Assign [.Name m pm] (.Name n pr) pa] ph]) (SP X pins D) X.xe s₃) X.xe s₂) X.xe s₁)) (wKeep X.K c i j X.N.length D) u s' →
      wpAny (model X.prog X.w) X.A (noteFrame u X.env)
        (fun _ s₂ => wpAny (model X.prog X.w) X.A (setFlight u none)
          (fun _ s₃ => wpAny (model X.prog X.w) X.A (handleBy u X.env [.ExceptHandler (some (.Name x np)) (some n) [.Assign [.Name m pm] (.Name n pr) pa] ph]) (SP X pins D) X.xe s₃) X.xe s₂) X.xe s' := by
    rintro u s' ⟨a, B, sI, pins', σ', H', cls, d, rfl, Jt, nb, up, sky, na, os, ag, hyes, hgo⟩
    have J : Inv X pins σ' H' sI := Jt.ofTry ok
    have nb : ∀ b o, sI.heap.get? b = some o → b ∉ frs X.stack → B.get? b = some o := nb
    have sky : Sky B (X.env :: X.outer) a (Zc cls d) X.env.locals s'.heap := hs ▸ sky
    refine Sky.land Zc.steady fr hf sky fun h3 air3 grow3 => ?_
    have J3 : Inv X pins σ' H' { s' with heap := h3 } := J.landed nb air3.1 (up.trans grow3) os ag
    obtain ⟨o3, v3, e3, z3, f3⟩ := air3.there
    have away : a ∉ frs (X.env :: X.outer) := fun hm => by
      obtain ⟨_, o', e', hnf⟩ := air3.2.2.1.mem hm
      cases e3.symm.trans e'
      exact hnf _ f3
    have nL : a ≠ X.env.locals := fun z => away (List.mem_filterMap.mpr ⟨X.env, List.mem_cons_self, hf.trans (congrArg some z.symm)⟩)
    have notF : a ∉ X.fs := fun hm => by
      obtain ⟨e, inX, q⟩ := List.mem_filterMap.mp hm
      exact away (List.mem_filterMap.mpr ⟨e, List.mem_cons_of_mem _ inX, q⟩)
    have gone : sI.heap.get? a = none := by
      cases q : sI.heap.get? a with
      | none => rfl
      | some o =>
        have z := nb a o q (by rw [hs]; exact away)
        rw [air3.2.1] at z
        cases z
    have n0 : X.s_0.heap.get? a = none := by
      cases q : X.s_0.heap.get? a with
      | none => rfl
      | some o =>
        obtain ⟨o', z⟩ := J.base.there a o q (by rw [hx]; exact fun z => nomatch z)
        rw [gone] at z
        cases z
    have np' : ∀ p ∈ X.pn ++ pins, p.1 ≠ a := fun p hp z => by
      have q := (J.pin p hp).1
      rw [z, gone] at q
      cases q
    have S3 := J3.suite e3 f3 na nL notF
    refine wpAny_handleBy_cons (codeAny_handlers_test ?_) (by intro q; cases q)
    have LT : PySem.W.Looks (model X.prog X.w) h3 (typeOf (.ref a)) cls := fun A Q E s k q => wpAny_typeOf_ref (k _ _ e3) (z3.1.symm ▸ q)
    have LM := PySem.W.exm_one (M := model X.prog X.w) J3.kIn LT hyes
    have named : ∀ {Q E : Value → Shared → Prop}, Q c { s' with heap := h3 } →
        wpAny (model X.prog X.w) (X.A.mark (some (.ref a))) (eval (.Name x np) X.env) Q E { s' with heap := h3 } := fun {Q E} q => by
      obtain ⟨g, gd, gm | ⟨gm, gv, gn⟩⟩ := hc
      · exact ld_glob (X := X.suite a _) S3 g gm q gd
      · exact ld_blt (X := X.suite a _) S3 g gm gv q gn gd
    refine named (LM.here (codeAny_handlers_suite_as ?_))
    refine HandSPX.lands_againZ air3 fun h4 air4 grow4 => ?_
    have J4 : Inv X pins σ' H' { s' with heap := h4 } := J.landed nb air4.1 ((up.trans grow3).trans grow4) os ag
    obtain ⟨o4, v4, e4, z4, f4⟩ := air4.there
    refine store_ok (X := X.suite a ((a, o4) :: (X.pn ++ pins))) (v := .ref a) (J4.suite e4 f4 na nL notF) hN hi (.inl hln) rfl (fun s5 S5 => ?_) (.inr hln)
    have assign : PSs (X.suite a ((a, o4) :: (X.pn ++ pins))) [.Assign [.Name m pm] (.Name n pr) pa] (tAsg (tVar i) (gName j)) :=
      pss_one (ps_set (i := j) hN hj (.inl hlm) (pe_var hi (.inl hln) hd hcd) (hf := .inr hlm))
    have hlt : i < (σ'.set i (some (V.ref a))).length := by
      rw [List.length_set, J.len]
      exact (List.getElem?_eq_some_iff.mp hi).1
    refine wpAny_mono (assign.run [] s5 _ H' { D with nx := fun σ6 H6 => σ6 = (σ'.set i (some (.ref a))).set j (some (.ref a)) ∧ H6 = H', rt := fun _ _ => False, bk := fun _ _ => False, ct := fun _ _ => False } S5
      ⟨.ref a, by rw [List.getElem?_set_self (by simpa using hlt)], rfl, rfl⟩) (fun f s6 q6 => ?_) (fun _ _ z => z.elim)
    cases f with
    | next =>
      obtain ⟨σ6, H6, S6, eσ, eH⟩ := q6
      subst eσ
      subst eH
      have U : Inv X pins _ H6 s6 := S6.unsuite ok
      have P6 := S6.pin (a, o4) (List.mem_append_left _ List.mem_cons_self)
      have pin2 : ∀ p ∈ X.pn ++ (a, o4) :: pins, s6.heap.get? p.1 = some p.2 ∧ H6 p.1 = none ∧ p.1 ≠ X.env.locals ∧ p.1 ∉ X.fs ∧ ∀ v, p.2.data ≠ .cell v := fun p hp => by
        rcases List.mem_append.mp hp with h | h
        · exact U.pin p (List.mem_append_left _ h)
        · rcases List.mem_cons.mp h with e | h
          · rw [e]
            exact P6
          · exact U.pin p (List.mem_append_right _ h)
      have U2 : Inv X ((a, o4) :: pins) _ H6 s6 := { U with pin := pin2 }
      refine gone_ok U2 hN hi hln fun s7 J7 => ?_
      have P7 := (J7.pin (a, o4) (List.mem_append_right _ List.mem_cons_self)).1
      exact ⟨_, _, track J7 ok n0 np' (exV_ok P7 z4 f4), hgo a na J.len⟩
    | brk =>
      obtain ⟨_, _, _, z⟩ := q6
      exact z.elim
    | cont =>
      obtain ⟨_, _, _, z⟩ := q6
      exact z.elim
    | ret u =>
      obtain ⟨_, _, _, _, _, z⟩ := q6
      exact z.elim
  refine wpAny_mono ((hb (wKeep X.K c i j X.N.length D) (X.pn ++ pins) _ ways PassesOwn.looking).run [] s σ H D (I.toTry _) h) (fun f s1 q => ?_) fun _ _ z => z
  cases f with
  | next =>
    obtain ⟨σ1, H1, J1, q1⟩ := q
    exact wpAny_execs_nil ⟨σ1, H1, J1.ofTry ok, q1⟩
  | brk =>
    obtain ⟨σ1, H1, J1, q1⟩ := q
    exact ⟨σ1, H1, J1.ofTry ok, q1⟩
  | cont =>
    obtain ⟨σ1, H1, J1, q1⟩ := q
    exact ⟨σ1, H1, J1.ofTry ok, q1⟩
  | ret u =>
    obtain ⟨v, σ1, H1, J1, r, q1⟩ := q
    exact ⟨v, σ1, H1, J1.ofTry ok, r, q1⟩
end
end KA
namespace KA
open PySem PySem.Spec PyProof.Rows L2 PySem.W
/-- isinstance of an exception that is kept as a value, its class without fields of its own -/
def rIsV (K : PySem.W.Frag) : List V → Hp → VK → Prop := fun xs H Q => ∃ (a D : Addr) (c : V) (cv : Value) (b : Bool), xs = [.ref a, c] ∧ H a = some (ExV (.ref D) none a) ∧ ExcC K D ∧ ClsV c cv ∧ PySem.W.kitOne K (.ref D) cv = some b ∧ Q (.bl b) H
def rIs2 (K : PySem.W.Frag) : List V → Hp → VK → Prop := fun xs H Q => rIsi K xs H Q ∨ rIsV K xs H Q
section
variable {X : Cx}
theorem call_isV : CallR X (.builtin "isinstance") (rIsV X.K) := by
  intro pins s σ H xs us Q I r h
  obtain ⟨a, D, c, cv, b, rfl, ha, C, k, e, q⟩ := h
  obtain ⟨u1, u2, rfl, r1, r2⟩ := vals2 r
  cases k.eq r2
  cases (show u1 = Value.ref a from r1)
  obtain ⟨⟨oe, h1, ⟨z1, z2⟩, vs, z3⟩, _⟩ := I.hok a _ ha
  obtain ⟨oc, od, dt, sl⟩ := oe
  dsimp only at z1 z2 z3
  subst z1 z2 z3
  have J : PySem.W.InstAt s.heap a ⟨.ref D, none, .fields vs, sl⟩ D none := ⟨h1, rfl, rfl, trivial⟩
  exact PySem.W.kia_one (PySem.W.handS_kitx_exc C.hg C.hk C.hs C.hd C.ha C.hn C.ht C.hm) I.kIn J e (fun z => nomatch z) fun tk => ⟨.bl b, H, I.tok tk, rfl, q⟩
theorem call_is2 : CallR X (.builtin "isinstance") (rIs2 X.K) := by
  intro pins s σ H xs us Q I r h
  rcases h with h | h
  · exact call_isi pins s σ H xs us Q I r h
  · exact call_isV pins s σ H xs us Q I r h
/-- repr of data -/
def rRepr (K : PySem.W.Frag) : List V → Hp → VK → Prop := fun xs H Q => ∃ (x : Addr) (d : PyData), xs = [.ref x] ∧ Dp K H (.ref x) d ∧ d.showable = true ∧ d.hasDict = false ∧ d.depth ≤ 60 ∧ d.shown.length ≤ sizeLine ∧ Q (.str d.shown) H
theorem call_repr {k : Nat} (hg : X.A.guards = some []) (hr : Room k X.A) : CallR X (.builtin "repr") (rRepr X.K) := by
  intro pins s σ H xs us Q I r h
  obtain ⟨x, d, rfl, hd, hs, hn, hz, hl, q⟩ := h
  obtain ⟨u1, rfl, r1⟩ := vals1 r
  cases (show u1 = Value.ref x from r1)
  obtain ⟨as, rd⟩ := Dp.reads I d (.ref x) (.ref x) hd rfl
  have hu := hr.un
  refine repr_of_reads' rd hs (fun z => by rw [hn] at z; cases z) hg (by omega) (fun _ _ e => e) (fun h' u tk hk => ?_) hl
  exact ⟨.str d.shown, H, I.kept (t' := tk) hk, ⟨_, rfl⟩, q⟩
end
end KA
namespace KA
open PySem PySem.Spec PyProof.Rows L2 PySem.W LamX
section
variable {X : Cx}
/-- caught: what the lambda raises is kept and handed back, None if it raises nothing -/
def TCaught (K : PySem.W.Frag) (CS : Addr) : (XK → Hp → VK → Prop) → Hp → VK → Prop := fun tl H Q => ∀ Q1 : VK, (∀ v H', Q .non H' → Q1 v H') →
  tl (fun cls d H' => PySem.W.exmOne K cls (.ref CS) = some true ∧ ∀ a, H' a = none → Q (.ref a) (upd H' a (ExV cls d a))) H Q1
theorem caught_gives {a e n m q x : Str} {sg : Scope} {g CS : Addr} {cdg : Value} {j1 : Nat} {p1 p2 p3 p4 p5 p6 p7 p8 p9 pa pb pc pd pe : Pos} (S : FnScope [a, m, n] [a] sg)
    (la : sg.names.lookup a = some .local) (lm : sg.names.lookup m = some .local) (ln : sg.names.lookup n = some .local) (he : sg.names.lookup e = some .globalImplicit) (hme : X.mg e = some (.ref CS)) (hde : (e == ("__debug__" : Str)) = false)
    (d1 : (n == ("__debug__" : Str)) = false) (d2 : (n == ("__classdict__" : Str)) = false) (d3 : (m == ("__debug__" : Str)) = false) (d4 : (m == ("__classdict__" : Str)) = false) :
    GivesTo X [a, m, n] x sg g cdg
      [.Assign [.Name m p1] (.Constant .none j1 p2) p3,
       .Try [.Expr (.Call (.Name a p4) [] [] p5) p6] [.ExceptHandler (some (.Name e p7)) (some n) [.Assign [.Name m p8] (.Name n p9) pa] pb] [] [] pc,
       .Return (some (.Name m pd)) pe] a q (TCaught X.K CS) := by
  intro f c' s H Q tl act hc h
  have hgl : Gl (cxOf C8.CX0 X.prog X.w X.K X.mg X.base [a, m, n] x sg g cdg X.A X.stack s H C8.E0).nox e := he
  refine ⟨_, pss_cons (ps_set (i := 1) S.nd rfl (.inl lm) pe_non) (pss_cons (ps_try_keep (X := (cxOf C8.CX0 X.prog X.w X.K X.mg X.base [a, m, n] x sg g cdg X.A X.stack s H C8.E0).nox) (c := .ref CS) (i := 2) (j := 1)
      (tb := fun W D σ H => ∃ Eb : XK, (∀ cls d σ' H', Eb cls d H' → W cls d σ' H') ∧ σ[0]? = some (some (.ref f)) ∧ H c' = some (CodeO c' q) ∧ tl Eb H (fun _ H' => D.nx σ H'))
      rfl rfl rfl S.nd rfl rfl ln lm ⟨hgl, hde, .inl hme⟩ d1 d2 (fun W pn xe tk _ => ?_))
    (pss_one (ps_ret (pe_var (i := 1) rfl (.inl lm) d3 d4)))), ?_⟩
  · refine ⟨fun pins s' σ H' D I h' => ?_⟩
    obtain ⟨Eb, wish, h1, h2, h3⟩ := h'
    exact (pss_one (ps_expr (act W pn xe Eb p4 p5 tk wish))).run pins s' σ H' D I ⟨h1, h2, h3⟩
  · refine ⟨fun cls d H' => PySem.W.exmOne X.K cls (.ref CS) = some true ∧ ∀ a, H' a = none → Q (.ref a) (upd H' a (ExV cls d a)), fun cls d σ' H' ⟨e1, e2⟩ => ⟨e1, fun b hb hl => ?_⟩, rfl, hc, ?_⟩
    · match σ', hl with
      | [u, v, w], _ => exact ⟨_, rfl, e2 b hb⟩
    · exact h _ fun v H' z => ⟨_, rfl, z⟩
end
end KA
namespace KA
open PySem PySem.Spec PyProof.Rows L2 PySem.W LamX
/-! ### what the top has written, by name -/
/-- a def of the top -/
structure DefT (K : PySem.W.Frag) (mg : Str → Option Value) (x : Str) (st : Stmt) where
  a : Addr
  d : FuncData
  f : Fun K x x st a d
  m : mg x = some (.ref a)
abbrev veB : List Value := [.type "ValueError", .type "Exception", .type "BaseException", .type "object"]
/-- an exception class of the top over ReelError at R, without an __init__ of its own -/
structure ExcT (K : PySem.W.Frag) (mg : Str → Option Value) (x : Str) (R : Addr) where
  C : Addr
  g : mg x = some (.ref C)
  q : PySem.W.excIn K C veB "ValueError.__new__" = true
  k : PySem.W.keepIn K (.ref C) = true
  b : PySem.W.subIn K (.ref C) (.type "BaseException") = some true
  t : PySem.W.typeIn K (.ref C) = some (.type "type")
  r : PySem.W.subIn K (.ref C) (.ref R) = some true
  e : ExcC K C
/-- ReelError -/
structure ReelT (K : PySem.W.Frag) (mg : Str → Option Value) where
  C : Addr
  g : mg "ReelError" = some (.ref C)
  b : PySem.W.subIn K (.ref C) (.type "BaseException") = some true
  t : PySem.W.typeIn K (.ref C) = some (.type "type")
  d : PySem.W.hasDictIn K C = true
theorem ExcT.exm {K : PySem.W.Frag} {mg : Str → Option Value} {x : Str} (R : ReelT K mg) (T : ExcT K mg x R.C) : PySem.W.exmOne K (.ref T.C) (.ref R.C) = some true := PySem.W.exm_ref R.b R.d R.t T.r
/-- an int constant of the top -/
def CstT (mg : Str → Option Value) (x : Str) (n : Int) : Prop := ∃ t, mg x = some (.int n t)
abbrev C1 := L2.CX
theorem passE {X : Cx} : Passes (L2.CX X.prog X.w) X E0 := passL
section
variable {X : Cx} {E : XK}
/-- raise C('..') in a def that lets it out -/
theorem ps_raiseT {K : PySem.W.Frag} {mg : Str → Option Value} {x : Str} {R : Addr} {pos p1 p2 pc : Pos} {j : Nat} {m : Str} (hK : X.K = K) (hM : X.mg = mg) (T : ExcT K mg x R) (hg : Gl X x) (hc : X.calm = true) {W : WX} (tk : Takes X W)
    (hdb : (x == ("__debug__" : Str)) = false := by decide) :
    PS X (.Raise (some (.Call (.Name x p1) [.Constant (.str m) j pc] [] p2)) none pos) (fun _ σ H => W (.ref T.C) none σ H) := by
  subst hK
  subst hM
  exact ps_raise hc tk (pmk_own PySem.F.excBase_ValueError T.q T.g T.k (raises_own T.b T.t) hg hdb)
end
end KA
namespace KA
open PySem PySem.Spec PyProof.Rows L2 PySem.W LamX
/-! ### the law's own draws: their state -/
abbrev kLarge : Key := Sum.inr "large"
abbrev kCells : Key := Sum.inr "cells"
abbrev kLeft : Key := Sum.inr "left"
abbrev kTurn : Key := Sum.inr "turn"
def stKv (lg cl : Addr) (left turn : Int) : List (Key × V) := [(kLarge, .ref lg), (kCells, .ref cl), (kLeft, .int left), (kTurn, .int turn)]
section
variable {lg cl : Addr} {left turn : Int}
theorem k12 : ¬ kLarge = kCells := by decide +kernel
theorem k13 : ¬ kLarge = kLeft := by decide +kernel
theorem k14 : ¬ kLarge = kTurn := by decide +kernel
theorem k23 : ¬ kCells = kLeft := by decide +kernel
theorem k24 : ¬ kCells = kTurn := by decide +kernel
theorem k34 : ¬ kLeft = kTurn := by decide +kernel
theorem st_large : valV (stKv lg cl left turn) kLarge = some (.ref lg) := valV_pos rfl
theorem st_cells : valV (stKv lg cl left turn) kCells = some (.ref cl) := (valV_neg k12).trans (valV_pos rfl)
theorem st_left : valV (stKv lg cl left turn) kLeft = some (.int left) := (valV_neg k13).trans ((valV_neg k23).trans (valV_pos rfl))
theorem st_turn : valV (stKv lg cl left turn) kTurn = some (.int turn) := (valV_neg k14).trans ((valV_neg k24).trans ((valV_neg k34).trans (valV_pos rfl)))
theorem st_put_left (l : Int) : putK (stKv lg cl left turn) kLeft (.int l) = stKv lg cl l turn := by
  unfold putK
  rw [valV_any, st_left, Option.isSome_some, if_pos rfl]
  simp only [stKv, List.map_cons, List.map_nil, if_neg k13, if_neg k23, if_neg (Ne.symm k34), if_true]
theorem st_put_turn (t : Int) : putK (stKv lg cl left turn) kTurn (.int t) = stKv lg cl left t := by
  unfold putK
  rw [valV_any, st_turn, Option.isSome_some, if_pos rfl]
  simp only [stKv, List.map_cons, List.map_nil, if_neg k14, if_neg k24, if_neg k34, if_true]
end
/-- the state stands at st: the numbers that are left to draw from at lg, the script's at cl -/
structure StD (H : Hp) (st lg cl : Addr) (large cells : List Int) (left : Int) (turn : Nat) : Prop where
  d : H st = some (.dK (stKv lg cl left turn))
  l : H lg = some (.lst (large.map V.int))
  c : H cl = some (.lst (cells.map V.int))
  ne : lg ≠ cl
  pl : ∀ x ∈ large, 0 ≤ x
  p0 : 0 ≤ left
def StAt (H : Hp) (st lg cl : Addr) (n : Nat) : Prop := ∃ large cells left turn, StD H st lg cl large cells left turn ∧ turn ≤ n
/-- all but the state stands as it stood -/
def Kp (st lg : Addr) (H H' : Hp) : Prop := ∀ b o, H b = some o → b ≠ st → b ≠ lg → H' b = some o
theorem Kp.refl {st lg : Addr} {H : Hp} : Kp st lg H H := fun _ _ h _ _ => h
theorem Kp.trans {st lg : Addr} {H H1 H2 : Hp} (a : Kp st lg H H1) (b : Kp st lg H1 H2) : Kp st lg H H2 := fun c o h n1 n2 => b c o (a c o h n1 n2) n1 n2
theorem Kp.same {st lg : Addr} {H H1 : Hp} (a : Same H H1) : Kp st lg H H1 := fun c o h _ _ => a c o h
theorem Same.new {H : Hp} {p : Addr} {o : HO} (h : H p = none) : Same H (upd H p o) := fun b u e => by
  rw [upd_ne (ne_of_none e h)]
  exact e
theorem StD.same {H H' : Hp} {st lg cl : Addr} {large cells : List Int} {left : Int} {turn : Nat} (S : StD H st lg cl large cells left turn) (e : Same H H') : StD H' st lg cl large cells left turn :=
  { S with d := e _ _ S.d, l := e _ _ S.l, c := e _ _ S.c }
theorem StAt.same {H H' : Hp} {st lg cl : Addr} {n : Nat} (S : StAt H st lg cl n) (e : Same H H') : StAt H' st lg cl n := by
  obtain ⟨a, b, c, d, s, h⟩ := S
  exact ⟨a, b, c, d, s.same e, h⟩
theorem StAt.mono {H : Hp} {st lg cl : Addr} {n m : Nat} (S : StAt H st lg cl n) (h : n ≤ m) : StAt H st lg cl m := by
  obtain ⟨a, b, c, d, s, h'⟩ := S
  exact ⟨a, b, c, d, s, Nat.le_trans h' h⟩
theorem StD.st_lg {H : Hp} {st lg cl : Addr} {large cells : List Int} {left : Int} {turn : Nat} (S : StD H st lg cl large cells left turn) : st ≠ lg := ne_of S.d S.l (by intro z; cases z)
theorem StD.st_cl {H : Hp} {st lg cl : Addr} {large cells : List Int} {left : Int} {turn : Nat} (S : StD H st lg cl large cells left turn) : st ≠ cl := ne_of S.d S.c (by intro z; cases z)
/-- the state's dict is written -/
theorem StD.put {H : Hp} {st lg cl : Addr} {large cells : List Int} {left l : Int} {turn t : Nat} (S : StD H st lg cl large cells left turn) (h : 0 ≤ l) : StD (upd H st (.dK (stKv lg cl l t))) st lg cl large cells l t :=
  { d := upd_same, l := (upd_ne S.st_lg.symm).trans S.l, c := (upd_ne S.st_cl.symm).trans S.c, ne := S.ne, pl := S.pl, p0 := h }
theorem Kp.put {st lg : Addr} {H : Hp} {o : HO} : Kp st lg H (upd H st o) := fun b u e n _ => (upd_ne n).trans e
theorem Kp.put2 {st lg : Addr} {H : Hp} {o : HO} : Kp st lg H (upd H lg o) := fun b u e _ n => (upd_ne n).trans e
theorem dp_ints {K : PySem.W.Frag} {H : Hp} : ∀ ns : List Int, DpAll K H (ns.map V.int) (ns.map PyData.int)
  | [] => .nil
  | n :: r => .cons (.int n) (dp_ints r)
theorem dp_int_list {K : PySem.W.Frag} {H : Hp} {a : Addr} {ns : List Int} (h : H a = some (.lst (ns.map V.int))) : Dp K H (.ref a) (.list (ns.map PyData.int)) := .lst (SqL.of h) (dp_ints ns)
theorem dp_nil {K : PySem.W.Frag} {H : Hp} {a : Addr} (h : H a = some (.lst [])) : Dp K H (.ref a) (.list []) := .lst (SqL.of h) .nil
theorem lay_is : ∀ ns : List Int, PyData.canLayAll0 (ns.map PyData.int) = true ∧ PyData.depthAll (ns.map PyData.int) = 0
  | [] => ⟨rfl, rfl⟩
  | n :: r => by
    obtain ⟨h1, h2⟩ := lay_is r
    exact ⟨by simp [PyData.canLayAll0, PyData.canLay0, h1], by simp [PyData.depthAll, PyData.depth, h2]⟩
theorem shaped_is (ns : List Int) : SeqAt.shaped (.list (ns.map PyData.int)) = true := by
  obtain ⟨h1, h2⟩ := lay_is ns
  simp [SeqAt.shaped, PyData.canLay0, PyData.depth, h1, h2]
theorem shaped_nil : SeqAt.shaped (.list []) = true := shaped_is []
theorem eqv_ints_nil (ns : List Int) : PyData.eqv (.list (ns.map PyData.int)) (.list []) = ns.isEmpty := by
  cases ns <;> rfl
theorem st_merge (lg cl : Addr) (left turn : Int) : mergeK [] (stKv lg cl left turn) = stKv lg cl left turn := by
  unfold stKv mergeK
  simp only [List.foldl_cons, List.foldl_nil]
  rw [putK_new (kvs := []) _ valV_nil, List.nil_append]
  rw [putK_new (k := kCells) _ ((valV_neg (show ¬ kLarge = kCells from k12)).trans valV_nil), List.cons_append, List.nil_append]
  rw [putK_new (k := kLeft) _ ((valV_neg (show ¬ kLarge = kLeft from k13)).trans ((valV_neg (show ¬ kCells = kLeft from k23)).trans valV_nil)), List.cons_append, List.cons_append, List.nil_append]
  rw [putK_new (k := kTurn) _ ((valV_neg (show ¬ kLarge = kTurn from k14)).trans ((valV_neg (show ¬ kCells = kTurn from k24)).trans ((valV_neg (show ¬ kLeft = kTurn from k34)).trans valV_nil)))]
  rfl
theorem take_map_snoc {α β : Type} (f : α → β) (l : List α) (i : Nat) (x : α) (h : l[i]? = some x) : (l.take (i + 1)).map f = (l.take i).map f ++ [f x] := by
  rw [List.take_add_one, h]
  simp
theorem StAt.off {H : Hp} {st lg cl p : Addr} {n : Nat} (S : StAt H st lg cl n) (hp : H p = none) : p ≠ st ∧ p ≠ lg := by
  obtain ⟨_, _, _, _, S', _⟩ := S
  exact ⟨(ne_of_none S'.d hp).symm, (ne_of_none S'.l hp).symm⟩
end KA
namespace KA
open PySem PySem.Spec PyProof.Rows L2 PySem.W LamX
/-! ### calls by names alone; defs whose frame must know that no repr is running -/
section
variable {X : Cx} {CX : CXT} {k : Nat} {f : Addr} {fd : FuncData} {ps ks : List Str} {sp : Sp} {E : XK} {x : Str} {p pos : Pos} {kws : List Keyword} {tk : TA} {g : List Value → List Value → List Value} {gV : List V → List V → List V}
def tKw (m : Nat) (sp : Sp) (gV : List V → List V → List V) (E : XK) (tk : TA) : TE := fun σ H Q => tk σ H fun zs H2 => zs.length = m ∧ sp (gV [] zs) H2 Q E
/-- f(k = v, ..) -/
theorem pe_kw (F : FnOk X.prog X.w X.K X.mg X.base CX k f fd ps sp) (hr : Room k X.A) (hg : Gl X x) (hm : X.mg x = some (.ref f)) (hk : PySem.W.keepIn X.K (.ref f) = true) (hb : KBn X.K fd ps 0 ks g gV) (hx : Passes CX X E) (hkw : PK X kws tk)
    (named : (backToKw pos (keywordEach kws X.env)).all (·.1.isSome) = true := by rfl) (theirs : (backToKw pos (keywordEach kws X.env)).filterMap (·.1) = ks := by rfl) (hdb : (x == ("__debug__" : Str)) = false := by decide)
    (noStars : ((backTo pos (starEach [] X.env)).any (·.1) || (backToKw pos (keywordEach kws X.env)).any (·.1.isNone)) = false := by rfl) :
    PE X (.Call (.Name x p) [] kws pos) (tKw ks.length sp gV E tk) :=
  ⟨fun pins s σ H Q I h => wpAny_Call_Name_kw (ld_glob I hg hm (PySem.W.callWith_KW0 (h₀ := X.base) I.ok.mod.kin hk named (thn (hkw.run pos pins s σ H _ I h) fun ws s2 hw => by
    obtain ⟨zs, H2, I2, rz, l2, q2⟩ := hw
    refine ⟨I2.kIn, ?_⟩
    rw [theirs]
    exact run_fnN F hr hb hx I2 .nil rz rfl l2 q2) noStars) hdb)⟩
end
section
variable {K : PySem.W.Frag} {x qual : Str} {st : Stmt} {f : Addr} {fd : FuncData} {ps ks : List Str}
/-- one parameter, by its name -/
theorem Fun.kw1 {a : Str} (F : Fun K x qual st f fd) (h : ∀ (kV doc pm : Value) (an : Option Addr) (cdv ct u : Value), bindArgs (PySem.W.fnOf x qual (defArgs st) (defBody st) (defScope st) .none kV doc pm an cdv ct) ⟨[], [(a, u)]⟩ = pure [(a, u)]) :
    KBn K fd [a] 0 [a] (fun _ ws => ws) (fun _ zs => zs) := by
  obtain ⟨oc, od, kV, doc, pm, an, cdv, ct, osl, rfl, lk, hcd⟩ := F.ex
  refine ⟨fun s us ws X l1 l2 => ?_, fun _ r => r⟩
  match us, ws, l1, l2 with
  | [], [u], _, _ => exact .of_eq (h kV doc pm an cdv ct u)
/-- two parameters a, b, called as f(b = .., a = ..) -/
theorem Fun.kw2 {a b : Str} (F : Fun K x qual st f fd) (h : ∀ (kV doc pm : Value) (an : Option Addr) (cdv ct u v : Value), bindArgs (PySem.W.fnOf x qual (defArgs st) (defBody st) (defScope st) .none kV doc pm an cdv ct) ⟨[], [(b, u), (a, v)]⟩ = pure [(a, v), (b, u)]) :
    KBn K fd [a, b] 0 [b, a] (fun _ ws => ws.reverse) (fun _ zs => zs.reverse) := by
  obtain ⟨oc, od, kV, doc, pm, an, cdv, ct, osl, rfl, lk, hcd⟩ := F.ex
  refine ⟨fun s us ws X l1 l2 => ?_, fun {_ _ zs ws} _ r => ?_⟩
  · match us, ws, l1, l2 with
    | [], [u, v], _, _ => exact .of_eq (h kV doc pm an cdv ct u v)
  · clear h
    have rev : ∀ {zs : List V} {ws : List Value}, Vals zs ws → Vals zs.reverse ws.reverse := fun {zs ws} r => by
      induction r with
      | nil => exact .nil
      | cons h _ ih =>
        rw [List.reverse_cons, List.reverse_cons]
        exact ih.append (.cons h .nil)
    exact rev r
end
end KA
namespace KA
open PySem PySem.Spec PyProof.Rows L2 PySem.W LamX
/-- as FnOk, where no repr is running around the call -/
structure FnG (P : Program) (w : World) (K : PySem.W.Frag) (mg : Str → Option Value) (base : Heap) (CX : CXT) (k : Nat) (f : Addr) (fd : FuncData) (ps : List Str) (sp : Sp) : Prop where
  len : ∀ vs H Q E, sp vs H Q E → vs.length = ps.length
  run : ∀ (A : Around) (outer : List Env) (s : Shared) (H : Hp) (args : Args) (us : List Value) (vs : List V) (Q : VK) (E : XK), Room k A → A.guards = some [] →
    Env0 P w K mg base A outer s H → BindsTo s fd args (ps.zip us) → Vals vs us → sp vs H Q E → codeAny (model P w) A (.call (.ref f) args) (CR CX outer P w H s Q E) s
theorem fnG_of {CX : CXT} {P : Program} {w : World} {K : PySem.W.Frag} {mg : Str → Option Value} {base : Heap} {k : Nat} {f : Addr} {x qual : Str} {st : Stmt} {fd : FuncData} {N ps : List Str} {sp : Sp} (F : Fun K x qual st f fd) (S : FnScope N ps (defScope st))
    (len : ∀ vs H Q E, sp vs H Q E → vs.length = ps.length)
    (hbody : ∀ (cdv : Value) (A : Around) (outer : List Env) (s : Shared) (H : Hp) (vs : List V) (Q : VK) (E : XK), Room k (A.deeper (envOfC qual (defScope st) s.heap.objs.size f cdv)) → A.guards = some [] → sp vs H Q E →
      ∃ t, PSs (cxOf CX P w K mg base N qual (defScope st) f cdv A outer s H E) (defBody st) t ∧ t { nx := fun _ H' => Q .non H', rt := Q } (L2.start N vs) H) : FnG P w K mg base CX (k + 1) f fd ps sp := by
  obtain ⟨oc, od, kV, doc, pm, an, cdv, ct, osl, rfl, lk, hcd⟩ := F.ex
  exact ⟨len, fun A outer s H args us vs Q E hr hg e0 hb r h => run_ofS lk hcd S hr e0 hb r (len _ _ _ _ h) fun hr' => hbody cdv A outer s H vs Q E hr' hg h⟩
/-- what stands around the law's call: the script at a, the tables of cs (each a code object and its table) empty -/
structure Law (h : Heap) (mg mb : Str → Option Value) (K : PySem.W.Frag) (cs : List (Addr × Addr)) (a : Addr) (vs : List Value) (ns : List Int) : Prop where
  kx : K.In h
  nsM : h.Ns mainGlobals mg
  bn : h.Ns builtinsNs mb
  bb : ∀ x : Str, x ≠ "__name__" → mb x = bootBuiltins x
  lim : h.NoLimit
  tab : ∀ p ∈ cs, h.get? p.2 = some { cls := .none, data := .fields #[] }
  notab : ∀ p ∈ cs, K.lookup p.2 = none
  code : ∀ p ∈ cs, PySem.W.CodeHd h p.1 p.2
  bm : ∃ (bm : Addr) (ob : Obj), mg "__builtins__" = some (.ref bm) ∧ bm ≠ builtinsNs ∧ h.get? bm = some ob ∧ ob.cls = .type "module" ∧ ob.dict = some builtinsNs ∧ ob.data = .plain
  at_ : h.get? a = some { cls := .type "list", data := .seq vs.toArray }
  isI : IntsAre vs ns
  len : ns.length ≤ sizeLine
/-- the abstract heap at the law's call -/
def lawH (K : PySem.W.Frag) (cs : List (Addr × Addr)) (a : Addr) (vs : List Value) (ns : List Int) : Hp := fun b =>
  if b = a ∧ K.lookup a = none then some (.frz { cls := .type "list", data := .seq vs.toArray } (.lst (ns.map V.int)))
  else if b ∈ cs.map (·.2) then some (.tbl #[]) else none
section
variable {P : Program} {w : World} {K : PySem.W.Frag} {mg mb : Str → Option Value} {h : Heap} {cs : List (Addr × Addr)} {a : Addr} {vs : List Value} {ns : List Int}
theorem Law.tabAt (L : Law h mg mb K cs a vs ns) {b : Addr} (hb : b ∈ cs.map (·.2)) : h.get? b = some { cls := .none, data := .fields #[] } ∧ K.lookup b = none := by
  obtain ⟨p, hp, rfl⟩ := List.mem_map.mp hb
  exact ⟨L.tab p hp, L.notab p hp⟩
theorem Law.ne (L : Law h mg mb K cs a vs ns) {b : Addr} (hb : b ∈ cs.map (·.2)) : b ≠ a := fun z => by
  have q := (L.tabAt hb).1
  rw [z, L.at_] at q
  cases q
/-- what is tracked: the script, or a table -/
theorem Law.cases (L : Law h mg mb K cs a vs ns) {b : Addr} {u : HO} (e : lawH K cs a vs ns b = some u) :
    (b = a ∧ K.lookup a = none ∧ u = .frz { cls := .type "list", data := .seq vs.toArray } (.lst (ns.map V.int))) ∨ (b ∈ cs.map (·.2) ∧ u = .tbl #[]) := by
  unfold lawH at e
  split at e
  · rename_i c
    exact .inl ⟨c.1, c.2, (Option.some.inj e).symm⟩
  · split at e
    · rename_i c
      exact .inr ⟨c, (Option.some.inj e).symm⟩
    · cases e
theorem Law.tbl (L : Law h mg mb K cs a vs ns) {b : Addr} (hb : b ∈ cs.map (·.2)) : lawH K cs a vs ns b = some (.tbl #[]) := by
  unfold lawH
  rw [if_neg (fun z => L.ne hb z.1), if_pos hb]
theorem Law.seq (L : Law h mg mb K cs a vs ns) : SqL K (lawH K cs a vs ns) a (ns.map V.int) := by
  cases q : K.lookup a with
  | none => exact .inl (.inr ⟨_, by unfold lawH; rw [if_pos ⟨rfl, q⟩]⟩)
  | some o =>
    have e := L.kx a o q
    rw [L.at_] at e
    cases e
    exact .inr ⟨_, vs.toArray, _, q, rfl, rfl, rfl, by rw [List.size_toArray, L.isI.length]; exact L.len, by simpa using vals_ints L.isI⟩
theorem Law.hok (L : Law h mg mb K cs a vs ns) : HOk P w (lawH K cs a vs ns) h := fun b u e => by
  rcases L.cases e with ⟨rfl, _, rfl⟩ | ⟨hb, rfl⟩
  · exact ⟨L.at_, by rw [List.length_map]; exact L.len, vs, _, vals_ints L.isI, L.at_⟩
  · exact (L.tabAt hb).1
/-- an object that is neither a list nor an empty record is not tracked -/
theorem Law.free (L : Law h mg mb K cs a vs ns) {b : Addr} {o : Obj} (e : h.get? b = some o) (h1 : ∀ vs n, o.data ≠ .seq vs n) (h2 : o.data ≠ .fields #[]) : lawH K cs a vs ns b = none := by
  cases q : lawH K cs a vs ns b with
  | none => rfl
  | some u =>
    rcases L.cases q with ⟨rfl, _⟩ | ⟨hb, _⟩
    · rw [L.at_] at e
      cases e
      exact absurd rfl (h1 _ _)
    · rw [(L.tabAt hb).1] at e
      cases e
      exact absurd rfl h2
theorem Law.nsK (L : Law h mg mb K cs a vs ns) {b : Addr} {m : Str → Option Value} (x : h.Ns b m) : (hidT h (lawH K cs a vs ns)).Ns b m := by
  obtain ⟨o, es, ep, e, d, r⟩ := x
  refine ⟨o, es, ep, hidT_get e (L.free e (fun _ _ z => ?_) fun z => ?_), d, r⟩ <;> (rw [d] at z; cases z)
theorem Law.kin (L : Law h mg mb K cs a vs ns) : K.In (hidT h (lawH K cs a vs ns)) := fun b o e => hidT_get (L.kx b o e) (by
  cases q : lawH K cs a vs ns b with
  | none => rfl
  | some u =>
    rcases L.cases q with ⟨rfl, z, _⟩ | ⟨hb, _⟩
    · rw [z] at e
      cases e
    · rw [(L.tabAt hb).2] at e
      cases e)
theorem Law.mod (L : Law h mg mb K cs a vs ns) : L2.Mod K mg (hidT h (lawH K cs a vs ns)) := by
  obtain ⟨mc, h1, h2⟩ := L.lim
  exact ⟨L.kin, L.nsK L.nsM, ⟨mb, L.nsK L.bn, L.bb⟩, mc, L.nsK h1, h2⟩
theorem Law.main (L : Law h mg mb K cs a vs ns) {b : Addr} {o : Obj} (e : h.get? b = some o) (n : ∀ es ep, o.data ≠ .dict es ep) : b ≠ mainGlobals := fun z => by
  obtain ⟨o', es, ep, e', d, _⟩ := L.nsM
  rw [z, e'] at e
  cases e
  exact n _ _ d
theorem Law.tabs (L : Law h mg mb K cs a vs ns) : ∀ p ∈ cs, TabB (hidT h (lawH K cs a vs ns)) mg p.1 p.2 := fun p hp => by
  have hm : p.2 ∈ cs.map (·.2) := List.mem_map.mpr ⟨p, hp, rfl⟩
  have ht := (L.tabAt hm).1
  refine ⟨?_, ?_, fun z => L.main ht (fun _ _ q => by cases q) z.symm⟩
  · obtain ⟨o, us, file, tf, flags, tg, inF, text, tt, e1, r1, r2, r3, rest⟩ := L.code p hp
    refine ⟨o, us, file, tf, flags, tg, inF, text, tt, hidT_get e1 (L.free e1 (fun _ _ z => ?_) fun z => ?_), r1, r2, r3, rest⟩
    · rw [r2] at z
      cases z
    · rw [r2] at z
      cases z
      simp at r3
  · obtain ⟨bm, ob, b1, b2, b3, b4, b5, b6⟩ := L.bm
    refine ⟨bm, ob, b1, b2, L.main b3 (fun _ _ q => by rw [b6] at q; cases q), fun q => ?_, hidT_get b3 (L.free b3 (fun _ _ z => ?_) fun z => ?_), b4, b5, b6⟩
    · rw [q, ht] at b3
      cases b3
      cases b6
    · rw [b6] at z
      cases z
    · rw [b6] at z
      cases z
/-- an address of the heap at the call stands as it stood, or it is a table that has grown -/
theorem Law.stay (L : Law h mg mb K cs a vs ns) {s' : Shared} {H' : Hp} {b : Addr} {o : Obj} (un : Un [] [] (lawH K cs a vs ns) H' h s'.heap) (ok : HOk P w H' s'.heap) (e : h.get? b = some o) (nb : b ∉ cs.map (·.2)) : s'.heap.get? b = some o := by
  cases q : lawH K cs a vs ns b with
  | none => exact un.keep b o e q (by simp) (by simp)
  | some u =>
    rcases L.cases q with ⟨rfl, _, rfl⟩ | ⟨z, _⟩
    · have e2 := (ok b _ (un.frzs b _ _ q)).1
      rw [L.at_] at e
      rw [← e]
      exact e2
    · exact absurd z nb
theorem Law.grown (L : Law h mg mb K cs a vs ns) {s' : Shared} {H' : Hp} {b : Addr} (un : Un [] [] (lawH K cs a vs ns) H' h s'.heap) (ok : HOk P w H' s'.heap) (hb : b ∈ cs.map (·.2)) : ∃ more : Array Value, s'.heap.get? b = some { cls := .none, data := .fields more } := by
  obtain ⟨more, z⟩ := un.tbls b #[] (L.tbl hb)
  exact ⟨_, ok b _ z⟩
theorem Law.old (L : Law h mg mb K cs a vs ns) {s' : Shared} {H' : Hp} (un : Un [] [] (lawH K cs a vs ns) H' h s'.heap) (ok : HOk P w H' s'.heap) : OldK h s'.heap := by
  constructor
  · intro b o e
    by_cases hb : b ∈ cs.map (·.2)
    · obtain ⟨p, hp, rfl⟩ := List.mem_map.mp hb
      obtain ⟨more, hm⟩ := L.grown un ok hb
      have ht := L.tab p hp
      rw [ht] at e
      cases e
      refine .inr (.inl ⟨((L.code p hp).tab ht).isCodeTable, rfl, #[], more, rfl, ?_⟩)
      rw [Array.empty_append]
      exact hm
    · exact .inl (L.stay un ok e hb)
  · intro b o e
    by_cases hb : b ∈ cs.map (·.2)
    · obtain ⟨more, hm⟩ := L.grown un ok hb
      exact ⟨_, hm⟩
    · exact ⟨o, L.stay un ok e hb⟩
end
/-- the law, called with the script at a -/
theorem law_callG {P : Program} {w : World} {K : PySem.W.Frag} {mg mb : Str → Option Value} {CX : CXT} {k : Nat} {fa a : Addr} {cs : List (Addr × Addr)} {fd : FuncData} {x : Str} {sp : Sp} {s : Shared} {vs : List Value} {ns : List Int}
    (L : Law s.heap mg mb K cs a vs ns) (hg : s.gens = #[]) (hr : Room k callerA) (F : ∀ base : Heap, K.In base → base.Ns mainGlobals mg → (∀ p ∈ cs, TabB base mg p.1 p.2) → FnG P w K mg base CX k fa fd [x] sp)
    (hbind : ∀ (s : Shared) (u : Value), BindsTo s fd ⟨[u], []⟩ [(x, u)]) (hsp : ∀ H : Hp, (∀ p ∈ cs, H p.2 = some (.tbl #[])) → SqL K H a (ns.map V.int) → sp [.ref a] H (fun v _ => v = .bl true) fun _ _ _ => False)
    (hCX : ∀ H e s', CX [] H s (fun _ _ _ => False) e s' → False) :
    codeAny (model P w) callerA (.call (.ref fa) ⟨[.ref a], []⟩) (fun r s' => r = .ok (.ret (.bool true)) ∧ OldK s.heap s'.heap ∧ s'.os = s.os ∧ AllBare s'.gens) s := by
  have env : Env0 P w K mg (hidT s.heap (lawH K cs a vs ns)) callerA [] s (lawH K cs a vs ns) :=
    ⟨rfl, L.mod, fun _ _ => of_hidT, Nat.le_of_eq (hidT_size _ _), trivial, fun b hb => absurd (show b ∈ ([] : List Addr) from hb) List.not_mem_nil, L.hok, .of_eq hg⟩
  have pre := hsp (lawH K cs a vs ns) (fun p hp => L.tbl (List.mem_map.mpr ⟨p, hp, rfl⟩)) L.seq
  have run := (F _ L.kin (L.nsK L.nsM) L.tabs).run callerA [] s _ ⟨[.ref a], []⟩ [.ref a] [.ref a] _ _ hr rfl env (hbind s _) (.cons rfl .nil) pre
  refine codeAny_mono run fun r s' q => ?_
  match r, q with
  | .error e, q => exact (hCX _ e s' q).elim
  | .ok .next, q => exact False.elim q
  | .ok .brk, q => exact False.elim q
  | .ok .cont, q => exact False.elim q
  | .ok (.ret u), q =>
    obtain ⟨v, H', os, bare, un, ok, rv, e⟩ := q
    cases (show v = .bl true from e)
    cases (show u = Value.bool true from rv)
    exact ⟨rfl, L.old un ok, os, bare⟩
/-- what is known of the law at the head's heap h -/
def LawAtG (l : PySem.W.OpenLaw) (w : World) (K : PySem.W.Frag) (CX : CXT) (k n : Nat) (x : Str) (mg : Str → Option Value) (fa : Addr) (h : Heap) : Prop :=
  ∃ (fd : FuncData) (cs : List (Addr × Addr)) (sp : Sp), ((∀ p ∈ cs, h.get? p.2 = some { cls := .none, data := .fields #[] }) ∧ (∀ p ∈ cs, K.lookup p.2 = none) ∧ ∀ p ∈ cs, PySem.W.CodeHd h p.1 p.2) ∧
    (∀ (s : Shared) (u : Value), BindsTo s fd ⟨[u], []⟩ [(x, u)]) ∧
    (∀ (H : Hp) (a : Addr) (ns : List Int), ns.length ≤ n → (∀ p ∈ cs, H p.2 = some (.tbl #[])) → SqL K H a (ns.map V.int) → sp [.ref a] H (fun v _ => v = .bl true) fun _ _ _ => False) ∧
    ∀ base : Heap, K.In base → base.Ns mainGlobals mg → (∀ p ∈ cs, TabB base mg p.1 p.2) → FnG l.prog w K mg base CX k fa fd [x] sp
theorem walk_ofG {l : PySem.W.OpenLaw} {n k : Nat} {q : Program} {loose : List Str} {XP : (Str → Option Value) → Heap → Prop} {YP : World → Heap → Prop} {d : DefRec} {K : Params → PySem.W.Frag} {CX : World → CXT} {x : Str}
    (most : l.most = some n) (line : n ≤ sizeLine) (plain : d.params.defaults = []) (room : Room k callerA) (known : ∀ (w : World) (h : Heap), YP w h → (K w.params).In h)
    (at_ : ∀ (w : World) (mg : Str → Option Value) (fa : Addr) (h : Heap), YP w h → (K w.params).In h → h.Ns mainGlobals mg → mg d.name = some (.ref fa) → LawAtG l w (K w.params) (CX w) k n x mg fa h)
    (calm : ∀ (w : World) (H : Hp) (s : Shared) (e : Value) (s' : Shared), CX w [] H s (fun _ _ _ => False) e s' → False) : PySem.W.WalkO q loose XP YP l.row.toRowW d [] (fun f vs => PySem.call f vs) := by
  refine Att.attach_callB most plain fun w _ s mg mb fa _ _ _ _ a vs ns G Y _ _ _ name here isI short _ bare => ?_
  obtain ⟨fd, cs, sp, ⟨t1, t2, t3⟩, bind, pre, F⟩ := at_ w mg fa _ Y (known w _ Y) G.T.g name
  exact law_callG ⟨known w _ Y, G.T.g, G.T.b, G.T.builtins, G.T.nolimit, t1, t2, t3, G.T.bmain, here, isI, Nat.le_trans short line⟩ bare room F bind (fun H t S => pre H a ns short t S) fun H e s' => calm w H s e s'
end KA
namespace KU
open PySem PySem.W PySem.Calls PyProof.Rows PySem.HandSPX
/-! ### an own error whose __init__(self, f) says super().__init__(e) and self.f = f -/
abbrev upBody (f : Str) (e : Expr) (p0 p1 p2 p3 pe q1 q2 q3 q4 : Pos) : List Stmt :=
  [.Expr (.Call (.Attribute (.Call (.Name "super" p0) [] [] p1) "__init__" p2) [e] [] p3) pe, .Assign [.Attribute (.Name "self" q1) f q2] (.Name f q3) q4]
abbrev upArgs (f : Str) (r1 r2 : Pos) : Arguments := { posonlyargs := [], args := [{ arg := "self", annotation := none, pos := r1 }, { arg := f, annotation := none, pos := r2 }], vararg := none, kwonlyargs := [], kw_defaults := [], kwarg := none, defaults := [] }
abbrev upScope (f : Str) : Scope := { kind := .function, names := [(PySem.Str.ofString "self", .local), (f, .local), (PySem.Str.ofString "__class__", .free), (PySem.Str.ofString "super", .globalImplicit)], isGenerator := false, isCoroutine := false, more := [] }
/-- what the written part says of the class at C, of its __init__ at fI -/
structure UpTxt (P : Program) (K : Frag) (C fI cda cc : Addr) (qual f : Str) (e : Expr) : Prop where
  fn : ∃ (oc : Value) (od : Option Addr) (doc pm : Value) (an : Option Addr) (ct : Value) (osl : Array (Option Value)) (r1 r2 p0 p1 p2 p3 pe q1 q2 q3 q4 : Pos),
    K.lookup fI = some ⟨oc, od, .func (ksFn "__init__" qual (upArgs f r1 r2) (upBody f e p0 p1 p2 p3 pe q1 q2 q3 q4) (upScope f) .none .none doc pm an (.ref cda) ct cc), osl⟩ ∧
      (∀ a b : Value, bindArgs (ksFn "__init__" qual (upArgs f r1 r2) (upBody f e p0 p1 p2 p3 pe q1 q2 q3 q4) (upScope f) .none .none doc pm an (.ref cda) ct cc) ⟨[a, b], []⟩ = pure [(PySem.Str.ofString "self", a), (f, b)]) ∧
      (∀ L : Addr, swapsWith (.Name f q3) (some (.Attribute (.Name "self" q1) f q2)) q4.line (ksEnv qual (upScope f) L fI (.ref cda) cc) = pure false) ∧
      ∃ pl : Sem Bool, ∀ L : Addr, eval (.Call (.Attribute (.Call (.Name "super" p0) [] [] p1) "__init__" p2) [e] [] p3) (ksEnv qual (upScope f) L fI (.ref cda) cc) = (do
        let o ← attributeBase (.Call (.Name "super" p0) [] [] p1) "__init__" (ksEnv qual (upScope f) L fI (.ref cda) cc) (eval (.Call (.Name "super" p0) [] [] p1) (ksEnv qual (upScope f) L fI (.ref cda) cc))
        standAt p2.atName
        let (g, first) ← holding [o] (getMethod o "__init__" pl)
        callWith p3 g first (backTo p3 (starEach [e] (ksEnv qual (upScope f) L fI (.ref cda) cc))) [])
  star : ∀ env : Env, starEach [e] env = [(false, eval e env)]
  code : codeIn K (.ref cda) qual = true
  file : ∃ (cl : Value) (cdd : Option Addr) (vs : Array Value) (ccs : Array (Option Value)) (fl : Str) (tf : Tok), K.lookup cda = some ⟨cl, cdd, .fields vs, ccs⟩ ∧ vs[2]? = some (.str fl tf) ∧ ((P.main.file : Str) == fl) = true
  cell : ∃ (cl : Value) (cld : Option Addr) (csl : Array (Option Value)), K.lookup cc = some ⟨cl, cld, .cell (some (.ref C)), csl⟩
  cls : ∃ cd, clsIn K C = some cd ∧ refsVE cd.mro = true ∧ cd.hasDict = true
  self : mroIn K C (.ref C) = some true
  noSuper : nsIn K mainGlobals "super" = some none
  top : (P.main.scope.names.lookup ("super" : Str)).isSome = false
  third : nsIn K cStatics "thirdparty.any" = some none
  up : ks_superIn K C C "__init__" = some (some (.builtin "ValueError.__init__"))
  val : subIn K (.ref C) (.type "ValueError") = some true
  own : excInitIn K C [.type "ValueError", .type "Exception", .type "BaseException", .type "object"] "ValueError.__new__" = true
  set : findIn K (.ref C) "__setattr__" = some (some (.builtin "object.__setattr__"))
  noF : findIn K (.ref C) f = some none
  obj : ∃ (nm q : Str) (N : Addr) (bs bm : List Value) (sn : List Str) (sub : List Value) (ab : Bool) (col : Option Bool) (dd : Option Addr) (k0 k1 k2 k3 k5 : Option Value),
    K.lookup C = some (excClassObj nm q C N bs bm true sn sub ab col dd k0 k1 k2 k3 k5 "ValueError.__new__") ∧ refsVE bm = true
  iC : findIn K (.ref C) "__init__" = some (some (.ref fI))
  tC : typeIn K (.ref fI) = some (.type "function")
  ga : findIn K (.ref C) "__getattribute__" = some (some (.builtin "BaseException.__getattribute__"))
  gg : findIn K (.ref C) "__getattr__" = some none
  kC : keepIn K (.ref C) = true
  exC : subIn K (.ref C) (.type "BaseException") = some true
  tyC : typeIn K (.ref C) = some (.type "type")
  hdC : hasDictIn K C = true
  nf : f ≠ "self" ∧ f ≠ "__class__" ∧ f ≠ "super" ∧ f ≠ "__debug__"
/-- what it leaves of a fresh exception at x -/
structure UpEnd (h h' : Heap) (x C dx t1 : Addr) (f : Str) (v : Value) : Prop where
  keep : ∀ b o, b ≠ x → h.get? b = some o → h'.get? b = some o
  obj : h'.get? x = some { cls := .ref C, dict := some dx, data := .fields #[.ref t1, .none, .none, .none, .bool false, .none] }
  big : h.objs.size ≤ dx
  ne : dx ≠ x
  ns : h'.Ns1 dx (fun y => if y = f then some v else none)
section
variable {prog : Program} {w : World} {A : Around} {R : Result → Shared → Prop} {s : Shared} {K : Frag} {mg mb : Str → Option Value} {C fI cda cc : Addr} {qual f : Str} {e : Expr}
theorem up_init (T : UpTxt prog K C fI cda cc qual f e) {x t0 : Addr} {v : Value} (X : K.In s.heap) (hlim : s.heap.NoLimit) (hg : s.heap.Ns mainGlobals mg) (hb : s.heap.Ns builtinsNs mb) (hbb : ∀ y : Str, y ≠ "__name__" → mb y = bootBuiltins y)
    (hx : s.heap.get? x = some (excO C t0)) (hnx : K.lookup x = none) (hroom : A.depth < recursionLimit)
    (text : ∀ (A' : Around) (E : Value → Shared → Prop) (s' : Shared) (L : Addr) (m : Str → Option Value) (Q : Value → Shared → Prop), s'.heap.Ns L m → m f = some v → (∀ (z : Str) (t t' : Tok), Q (.str z t) { s' with toks := t' }) → wpAny (model prog w) A' (eval e (ksEnv qual (upScope f) L fI (.ref cda) cc)) Q E s')
    (hq : ∀ h' tk dx t1, UpEnd s.heap h' x C dx t1 f v → R (.ok (.ret .none)) { s with heap := h', toks := tk }) :
    codeAny (model prog w) A (.call (.ref fI) ⟨[.ref x, v], []⟩) R s := by
  obtain ⟨hp, g, dr, tk, os⟩ := s
  dsimp only at X hlim hg hb hx
  obtain ⟨oc, od, doc, pm, an, ct, osl, r1, r2, p0, p1, p2, p3, pe, q1, q2, q3, q4, ho, hbd, hswap, pl, hcall⟩ := T.fn
  obtain ⟨n1, n2, n3, n4⟩ := T.nf
  have lf : (upScope f).names.lookup f = some .local := by
    show List.lookup f ((PySem.Str.ofString "self", NameKind.local) :: _) = _
    rw [List.lookup_cons]
    cases f == PySem.Str.ofString "self" with
    | true => rfl
    | false =>
      show List.lookup f ((f, NameKind.local) :: _) = _
      rw [List.lookup_cons, beq_self_eq_true]
  refine ks_codeAny_call_defAt (binds := [(PySem.Str.ofString "self", .ref x), (f, v)]) (body := upBody f e p0 p1 p2 p3 pe q1 q2 q3 q4) hroom (X _ _ ho) rfl hlim (codeRec_of X T.code) rfl ?bind ?cells ?locs (fun h₁ hns keep => ?_) rfl rfl rfl
  case bind => exact .of_eq (hbd _ _)
  case cells =>
    intro y hy
    simp only [List.mem_cons, List.not_mem_nil, or_false] at hy
    rcases hy with z | z | z | z <;> (subst z; exact fun q => by cases q)
  case locs =>
    intro y hy
    simp only [List.mem_cons, List.not_mem_nil, or_false] at hy
    rcases hy with z | z <;> subst z
    · rfl
    · exact lf
  have X1 : K.In h₁ := X.keeps keep
  have ms : (List.lookup (PySem.Str.ofString "self") [(PySem.Str.ofString "self", Value.ref x), (f, v)].reverse) = some (.ref x) := by
    show List.lookup (PySem.Str.ofString "self") [(f, v), (PySem.Str.ofString "self", Value.ref x)] = _
    rw [List.lookup_cons, beq_false_of_ne (Ne.symm n1)]
    rfl
  have mf : (List.lookup f [(PySem.Str.ofString "self", Value.ref x), (f, v)].reverse) = some v := by
    show List.lookup f [(f, v), (PySem.Str.ofString "self", Value.ref x)] = _
    rw [List.lookup_cons, beq_self_eq_true]
  obtain ⟨cd, hcd, hmro, hdict⟩ := T.cls
  obtain ⟨cl, cdd, vs, ccs, fl, tf, hcode, hvs, hfile⟩ := T.file
  obtain ⟨ccl, cld, csl, hcell⟩ := T.cell
  have hx1 := keep _ _ hx
  generalize hm : (fun y => List.lookup y [(PySem.Str.ofString "self", Value.ref x), (f, v)].reverse) = m at hns
  have ms' : m "self" = some (.ref x) := by rw [← hm]; exact ms
  have mf' : m f = some v := by rw [← hm]; exact mf
  clear ms mf hm
  show PySem.wpAt _ _ _ (execs (upBody f e p0 p1 p2 p3 pe q1 q2 q3 q4) (ksEnv qual (upScope f) hp.objs.size fI (.ref cda) cc)) _ _ _
  refine ks_wpAt_execs_cons (ks_wpAt_Expr_any (ks_wpAt_MethodCall (pl := pl) ?_ (hcall _)))
  obtain ⟨oC, hC1, hC2⟩ : ∃ oC, h₁.get? C = some oC ∧ oC.data = .cls cd := by
    unfold clsIn at hcd
    split at hcd
    · rename_i c d cd' sl z
      cases hcd
      exact ⟨_, X1 _ _ z, rfl⟩
    · cases hcd
  have k1 : (upScope f).names.lookup ("super" : Str) = some .globalImplicit := by
    show List.lookup (PySem.Str.ofString "super") ((f, NameKind.local) :: _) = _
    rw [List.lookup_cons, beq_false_of_ne (Ne.symm n3)]
    rfl
  have k2 : (upScope f).names.lookup ("__class__" : Str) = some .free := by
    show List.lookup (PySem.Str.ofString "__class__") ((f, NameKind.local) :: _) = _
    rw [List.lookup_cons, beq_false_of_ne (Ne.symm n2)]
    rfl
  refine ks_wpAt_super_base (env := ksEnv qual (upScope f) hp.objs.size fI (.ref cda) cc) k1 k2 rfl rfl (X1 _ _ ho) rfl rfl rfl (X1 _ _ hcode) rfl hvs hfile T.top ?_
  refine ks_loadName_global rfl k1 (loadGlobal_builtin (env := ksEnv qual (upScope f) hp.objs.size fI (.ref cda) cc) (hg.keeps keep) (mg_none_of X hg T.noSuper) (hb.keeps keep) ((hbb _ (by decide +kernel)).trans (show bootBuiltins "super" = some (.type "super") by kernel_rfl)) ⟨rfl, ?_⟩)
  refine wpAny_loadName_free rfl k2 rfl ⟨_, X1 _ _ hcell, rfl⟩ ?_
  refine wpAny_loadName_local rfl rfl hns ms' ?_
  refine ks_wpAny_isType_cls hC1 hC2 ⟨rfl, ?_⟩
  refine ks_wpAny_call_super hC1 hC2 hx1 rfl (fun c z => by cases z) (looks_mroIn X1 T.self) (fun h2 so keep2 => ?_)
  have X2 : K.In h2 := X1.keeps keep2
  have hx2 := keep2 _ _ hx1
  have I2 : InstAt h2 x (excO C t0) C none := ⟨hx2, rfl, rfl, trivial⟩
  have along : alongIn K "__init__" ((cd.mro.dropWhile (· != .ref C)).drop 1) = some (some (.builtin "ValueError.__init__")) := by
    have z := T.up
    unfold ks_superIn at z
    rw [hcd] at z
    exact z
  refine kxs_getMethod kxs_ValueError so (looks_opaque X2 T.third) (l₀ := cd.mro) (fun A Q E s k q => wpAny_bind ((looks_clsIn X2 hcd) A _ E s k (wpAny_pure q))) rfl X2 along (I2.type.andThen (looks_subIn X2 T.val)) (ks_ne X2 I2 hcd) rfl ?_
  have push3 : ∀ b o, h2.get? b = some o → (h2.push (kxs_mw "ValueError.__init__" x)).get? b = some o := fun b o z => Heap.get?_push_of_some _ z
  generalize hh3 : h2.push (kxs_mw "ValueError.__init__" x) = h3 at push3
  have hu : h3.get? h2.objs.size = some (kxs_mw "ValueError.__init__" x) := by
    rw [← hh3]
    exact Heap.get?_push_at rfl rfl
  generalize h2.objs.size = u at hu
  have X3 : K.In h3 := X2.keeps push3
  have hx3 := push3 _ _ hx2
  have hns3 : h3.Ns hp.objs.size m := (hns.keeps keep2).keeps push3
  rw [T.star]
  refine kxs_callWith (i := "ValueError.__init__") (x := x) (u := u) rfl (evalArgs_plain (spliced_cons ?_))
  refine text _ _ _ _ _ _ hns3 mf' fun z zt t' => spliced_nil ⟨hu, ?_⟩
  obtain ⟨nm, N', qn, bs, bm, hdct, sn, sub, ab, col, dd, kk0, kk1, kk2, kk3, kk5, hC, hT⟩ := excInit_of X3 T.own
  refine wpAny_call (codeAny_of_tree ?_)
  show wpAny _ (Around.in1 _) (callAny (.ref u) ⟨[.str z zt], []⟩) _ _ _
  simp only [callAny]
  refine wpAny_bind (wpAny_load hu ?_)
  simp only [kxs_mw, show (Value.type "method-wrapper" == Value.type "method" || Value.type "method-wrapper" == Value.type "builtin_function_or_method" || Value.type "method-wrapper" == Value.type "method-wrapper") = true by decide, if_true]
  have FB := F.excBase_ValueError
  refine KFB.if_so (by decide) (wpAny_bind (check_bound_init FB.toExcCallFacts hC hx3 rfl (wpAny_bind (wpAny_pure (wpAny_pure ⟨plainId_quiet FB.init.plain _, codeAny_builtin FB.initEntry ?_⟩)))))
  refine exc_init_tree (cls := .ref C) (t0 := t0) (dv := none) (c2 := .none) (c3 := .none) (b4 := .bool false) hx3 (by show 1 ≤ sizeLine; decide) fun h4 keep4 hx4 _ => ?_
  have X4 : K.In h4 := fun b o z => keep4 b o (fun q => by rw [q, hnx] at z; cases z) (X3 b o z)
  have hns4 : h4.Ns hp.objs.size m := by
    obtain ⟨oL, es, ep, hL, rest⟩ := hns3
    exact ⟨oL, es, ep, keep4 _ _ (Nat.ne_of_gt (Heap.lt_size hx)) hL, rest⟩
  refine wpAt_of_wpAny (wpAny_execs_cons (plainObj_wpAny_Assign_Attribute ?_ (hswap _)))
  have kf : (ksEnv qual (upScope f) hp.objs.size fI (.ref cda) cc).kindOf f = some .local := lf
  have ndb : (f == ("__debug__" : Str)) = false := beq_false_of_ne n4
  refine wpAny_Name (wpAny_loadName_local rfl kf hns4 mf' ?_) ndb
  refine wpAny_Name (wpAny_loadName_local rfl rfl hns4 ms' ?_) rfl
  refine set_plain X4 (ox := excO C h3.objs.size) (od := none) ⟨hx4, rfl, rfl, trivial⟩ T.set ?_
  refine exc_osa X4 hx4 hcd hmro hdict T.noF fun h5 tk5 dx keep5 big ne5 hx5 hn5 => ?_
  refine wpAny_execs_nil (hq h5 tk5 dx h3.objs.size ⟨fun b o hb z => keep5 b o hb (keep4 b o hb (push3 b o (keep2 b o (keep b o z)))), hx5, ?_, ne5, hn5⟩)
  exact Nat.le_of_lt (Nat.lt_of_lt_of_le hns4.lt big)
/-- a made one -/
structure UpMade (h h' : Heap) (e C d : Addr) (f : Str) (v : Value) : Prop where
  keep : ∀ b o, h.get? b = some o → h'.get? b = some o
  new : h.objs.size ≤ e
  obj : ∃ oe vs, h'.get? e = some oe ∧ oe.cls = .ref C ∧ oe.dict = some d ∧ oe.data = .fields vs ∧ vs[1]? = some .none
  big : h.objs.size ≤ d
  ne : d ≠ e
  ns : h'.Ns1 d (fun y => if y = f then some v else none)
theorem up_made (T : UpTxt prog K C fI cda cc qual f e) {v : Value} (X : K.In s.heap) (hlim : s.heap.NoLimit) (hg : s.heap.Ns mainGlobals mg) (hb : s.heap.Ns builtinsNs mb) (hbb : ∀ y : Str, y ≠ "__name__" → mb y = bootBuiltins y) (hroom : A.depth + 1 < recursionLimit)
    (text : ∀ (A' : Around) (E : Value → Shared → Prop) (s' : Shared) (L : Addr) (m : Str → Option Value) (Q : Value → Shared → Prop), s'.heap.Ns L m → m f = some v → (∀ (z : Str) (t t' : Tok), Q (.str z t) { s' with toks := t' }) → wpAny (model prog w) A' (eval e (ksEnv qual (upScope f) L fI (.ref cda) cc)) Q E s')
    (hq : ∀ h' tk a d, UpMade s.heap h' a C d f v → R (.ok (.ret (.ref a))) { s with heap := h', toks := tk }) : codeAny (model prog w) A (.call (.ref C) ⟨[v], []⟩) R s := by
  obtain ⟨nm, q, N, bs, bm, sn, sub, ab, col, dd, k0, k1, k2, k3, k5, hC, hbm⟩ := T.obj
  obtain ⟨hp, g, dr, tk, os⟩ := s
  dsimp only at X hlim hg hb
  generalize hh : (hp.push (kdv_tup [v])).push (excO C hp.objs.size) = h1
  have k : ∀ b o, hp.get? b = some o → h1.get? b = some o := fun b o z => by
    rw [← hh]
    exact Heap.get?_push_of_some _ (Heap.get?_push_of_some _ z)
  have got : h1.get? (hp.objs.size + 1) = some (excO C hp.objs.size) := by
    rw [← hh]
    heap_get
  have fresh : K.lookup (hp.objs.size + 1) = none := by
    cases z : K.lookup (hp.objs.size + 1) with
    | none => rfl
    | some o => exact absurd (show hp.objs.size + 1 < hp.objs.size from Heap.lt_size (X _ _ z)) (Nat.not_lt.mpr (Nat.le_succ _))
  refine call_own F.excBase_ValueError (fun Y => refsVE_contains Y bm hbm) (X _ _ hC) (looks_findIn X T.iC) (fun self => bind_fn X self T.tC) (by show 1 ≤ sizeLine; decide) ?_
  rw [hh]
  refine up_init (s := ⟨h1, g, dr, tk, os⟩) T (X.keeps k) (hlim.keeps k) (hg.keeps k) (hb.keeps k) hbb got fresh hroom text fun h' tk' dx t1 Z => ?_
  have size1 : hp.objs.size ≤ h1.objs.size := Nat.le_of_lt (Nat.lt_of_succ_lt (Heap.lt_size got))
  exact ⟨rfl, hq h' tk' (hp.objs.size + 1) dx ⟨fun b o z => Z.keep b o (Nat.ne_of_lt (Nat.lt_succ_of_lt (Heap.lt_size z))) (k b o z), Nat.le_succ _, ⟨_, _, Z.obj, rfl, rfl, rfl, rfl⟩, Nat.le_trans size1 Z.big, Z.ne, Z.ns⟩⟩
end
end KU
namespace KU
open PySem PySem.W PySem.Calls PyProof.Rows PySem.HandSPX
/-- what the error says of v can be told -/
abbrev Text (P : Program) (w : World) (fI cda cc : Addr) (qual f : Str) (e : Expr) (v : Value) : Prop :=
  ∀ (A' : Around) (E : Value → Shared → Prop) (s' : Shared) (L : Addr) (m : Str → Option Value) (Q : Value → Shared → Prop), s'.heap.Ns L m → m f = some v → (∀ (z : Str) (t t' : Tok), Q (.str z t) { s' with toks := t' }) →
    wpAny (model P w) A' (eval e (ksEnv qual (upScope f) L fI (.ref cda) cc)) Q E s'
theorem kind_f {f : Str} : (upScope f).names.lookup f = some .local := by
  show List.lookup f ((PySem.Str.ofString "self", NameKind.local) :: _) = _
  rw [List.lookup_cons]
  cases f == PySem.Str.ofString "self" with
  | true => rfl
  | false =>
    show List.lookup f ((f, NameKind.local) :: _) = _
    rw [List.lookup_cons, beq_self_eq_true]
/-- f'z{f}' of an int, of a text -/
theorem text_of {P : Program} {w : World} {fI cda cc : Addr} {qual f z : Str} {j : Nat} {pc pn pf pj : Pos} {v : Value} {y : Str} (hd : f ≠ "__debug__")
    (fld : ∀ (A' : Around) (E : Value → Shared → Prop) (s' : Shared) (Q : Value → Shared → Prop), (∀ (t t' : Tok), Q (.str y t) { s' with toks := t' }) → wpAny (model P w) A' (formatField v Str.empty) Q E s')
    (h1 : z.length ≤ sizeLine) (h2 : (z ++ y).length ≤ sizeLine) : Text P w fI cda cc qual f (.JoinedStr [.Constant (.str z) j pc, .FormattedValue (.Name f pn) (-1) none pf] pj) v := by
  intro A' E s' L m Q hn hm k
  refine wpAny_JoinedStr ?_
  have e0 : ∀ env : Env, evalEach [.Constant (.str z) j pc, .FormattedValue (.Name f pn) (-1) none pf] env = [eval (.Constant (.str z) j pc) env, eval (.FormattedValue (.Name f pn) (-1) none pf) env] := fun _ => by first | rfl | simp [evalEach]
  rw [e0]
  have e1 : Str.empty ++ z = z := by
    show (⟨#[] ++ z.cps⟩ : Str) = z
    rw [Array.empty_append]
  refine Calls.Constant_str ⟨z, _, rfl, by rw [e1]; exact h1, ?_⟩
  rw [e1]
  refine wpAny_FormattedValue_plain (wpAny_Name (wpAny_loadName_local rfl (show (ksEnv qual (upScope f) L fI (.ref cda) cc).kindOf f = some .local from kind_f) hn hm ?_) (beq_false_of_ne hd))
  exact fld _ _ _ _ fun t t' => ⟨y, t, rfl, h2, h2, k _ _ _⟩
theorem text_int {P : Program} {w : World} {fI cda cc : Addr} {qual f z : Str} {j : Nat} {pc pn pf pj : Pos} {i : Int} {t : Tok} (hd : f ≠ "__debug__") (hi : i.natAbs.log2 < 1920) (h1 : z.length ≤ sizeLine) (h2 : (z ++ (toString i : String)).length ≤ sizeLine) :
    Text P w fI cda cc qual f (.JoinedStr [.Constant (.str z) j pc, .FormattedValue (.Name f pn) (-1) none pf] pj) (.int i t) :=
  text_of hd (fun _ _ _ _ k => wpAny_formatField_int hi (k _ _)) h1 h2
theorem text_str {P : Program} {w : World} {fI cda cc : Addr} {qual f z y : Str} {j : Nat} {pc pn pf pj : Pos} {t : Tok} (hd : f ≠ "__debug__") (h1 : z.length ≤ sizeLine) (h2 : (z ++ y).length ≤ sizeLine) (h3 : y.length ≤ sizeLine) :
    Text P w fI cda cc qual f (.JoinedStr [.Constant (.str z) j pc, .FormattedValue (.Name f pn) (-1) none pf] pj) (.str y t) :=
  text_of hd (fun _ _ _ _ k => wpAny_formatField_str (k _ _) (k _ _) h3) h1 h2
end KU
namespace KU
open PySem PySem.Spec PyProof.Rows L2
theorem relO_up {v : V} {v' : Value} {n : Str} (r : RelV v v') (f : Str) : RelO (List.lookup f [(n, v)]) (if f = n then some v' else none) := by
  by_cases c : f = n
  · subst c
    rw [if_pos rfl, List.lookup_cons, beq_self_eq_true]
    exact r
  · rw [if_neg c, List.lookup_cons, beq_false_of_ne c]
    trivial
section
variable {X : Cx} {C fI cda cc : Addr} {qual f x : Str} {e : Expr}
/-- x(a), x the class's name -/
def tMkUp (T : Value → Prop) (C : Addr) (f : Str) (ta : TA) : L2.St → Hp → XK → Prop := fun σ H Q => ta σ H fun vs H1 => ∃ v, vs = [v] ∧ (∀ v', RelV v v' → T v') ∧ ∀ d, H1 d = none → Q (.ref C) (some d) (upd H1 d (.xd [(f, v)]))
theorem pmk_up {a : Expr} {ta : TA} {p pos : Pos} {k : Nat} (T : UpTxt X.prog X.K C fI cda cc qual f e) (gC : X.mg x = some (.ref C)) (hr : Room k X.A) (ha : PA X [a] ta) (hg : Gl X x) (hdb : (x == ("__debug__" : Str)) = false := by decide)
    (he : starEach (a :: []) X.env = (false, eval a X.env) :: starEach [] X.env := by rfl) (hpl : (backTo pos (starEach [] X.env)).any (·.1) = false := by rfl) :
    PMk X (.Call (.Name x p) [a] [] pos) (tMkUp (Text X.prog X.w fI cda cc qual f e) C f ta) := by
  intro pins s σ H Q I h
  refine wpAny_Call_Name_kw (ld_glob I hg gC ?_ hdb)
  refine PySem.W.callWith_K (h₀ := X.base) I.ok.mod.kin T.kC (thn (ha.run pos pins s σ H _ I h) fun us s1 hh => ?_) he hpl
  obtain ⟨vs, H1, I1, r1, v, rfl, ht, q1⟩ := hh
  refine ⟨I1.kIn, ?_⟩
  cases r1 with
  | cons rv rn =>
    rename_i v' us'
    cases rn
    show wpAny _ _ (call (.ref C) [v']) _ _ _
    obtain ⟨mb, b1, b2⟩ := I1.mod.blt
    have lim := I1.nolimit
    have glob := I1.mod.glob.keeps I1.bk
    have blt := b1.keeps I1.bk
    have dp := hr.dp
    obtain ⟨hp, g, dr, tk, os⟩ := s1
    refine wpAny_call (up_made T I1.kIn lim glob blt b2 (by omega) (ht v' rv) fun h' tk' a' d M => ?_)
    show MkP X pins σ Q (.ref a') ⟨h', g, dr, tk', os⟩
    obtain ⟨oe, fv, hoe, hc, hd, hdat, one⟩ := M.obj
    obtain ⟨G, in_, out⟩ := restrict h' fun b => decide (b ≠ a')
    have same : ∀ b, b ≠ a' → G.get? b = h'.get? b := fun b hb => in_ b (decide_eq_true hb)
    have gone : G.get? a' = none := out a' (by simp)
    have stay : ∀ b o, hp.get? b = some o → G.get? b = some o := fun b o z => (same b (Nat.ne_of_lt (Nat.lt_of_lt_of_le (Heap.lt_size z) M.new))).trans (M.keep b o z)
    have own : ObjOk X.prog X.w (upd H1 d (.xd [(f, v)])) G d (.xd [(f, v)]) := ⟨_, M.ns.at (fun o z => (same d M.ne).trans z), fun y => relO_up rv y⟩
    have J : Inv X pins σ (upd H1 d (.xd [(f, v)])) ⟨G, g, dr, tk', os⟩ := I1.laid (t' := tk') stay M.big own
    refine ⟨a', oe, fv, ⟨G, g, dr, tk', os⟩, _, .ref C, some d, rfl, J, fun b o z => ?_, gone, hoe, ⟨hc, hd⟩, hdat, one, ?_, rfl, I1.bare, raises_own T.exC T.tyC, q1 d (I1.hok.fresh M.big)⟩
    · have hb : b ≠ a' := fun y => by
        rw [y] at z
        exact absurd (gone.symm.trans z) (by simp)
      exact (same b hb).symm.trans z
    · rw [upd_ne (Ne.symm M.ne)]
      exact I1.hok.fresh M.new
/-- raise x(a) -/
theorem ps_raiseUp {a : Expr} {ta : TA} {W : WX} {p pos pos2 : Pos} {k : Nat} (hc : X.calm = true) (T : UpTxt X.prog X.K C fI cda cc qual f e) (gC : X.mg x = some (.ref C)) (hr : Room k X.A) (tk : Takes X W) (ha : PA X [a] ta) (hg : Gl X x) (hdb : (x == ("__debug__" : Str)) = false := by decide)
    (he : starEach (a :: []) X.env = (false, eval a X.env) :: starEach [] X.env := by rfl) (hpl : (backTo pos (starEach [] X.env)).any (·.1) = false := by rfl) :
    PS X (.Raise (some (.Call (.Name x p) [a] [] pos)) none pos2) (fun _ σ H => tMkUp (Text X.prog X.w fI cda cc qual f e) C f ta σ H fun cls d H' => W cls d σ H') := ps_raise hc tk (pmk_up T gC hr ha hg hdb he hpl)
/-- err.f, err an exception that is kept as a value -/
def tUpGet (C : Addr) (f : Str) (te : TE) : TE := fun σ H Q => te σ H fun x H1 => ∃ (a d : Addr) (v : V), x = .ref a ∧ H1 a = some (KA.ExV (.ref C) (some d) a) ∧ H1 d = some (.xd [(f, v)]) ∧ Q v H1
theorem pe_upGet {o : Expr} {te : TE} {pos : Pos} (T : UpTxt X.prog X.K C fI cda cc qual f e) (he : PE X o te) (hb : attributeBase o f X.env (eval o X.env) = eval o X.env := by rfl) :
    PE X (.Attribute o f pos) (tUpGet C f te) := by
  refine ⟨fun pins s σ H Q I h => ?_⟩
  refine attr_of hb (thn (he.run pins s σ H _ I h) fun u s1 hh => ?_)
  obtain ⟨x, H1, I1, rx, a, d, v, rfl, ha, hd, q⟩ := hh
  obtain rfl : u = Value.ref a := rx
  obtain ⟨⟨oe, got, z, vs, dat⟩, _⟩ := I1.hok a _ ha
  obtain ⟨mA, ns, rel⟩ := I1.hok d _ hd
  obtain ⟨od, at_, look⟩ := lookIn_ns ns
  have l : List.lookup f [(f, v)] = some v := by rw [List.lookup_cons, beq_self_eq_true]
  obtain ⟨u, hu, ru⟩ := RelO.some_of (v := v) (o := mA f) (by rw [← l]; exact rel f)
  have J : PySem.W.InstAt s1.heap a oe C (some od) := ⟨got, z.1, by unfold PySem.W.notCls; rw [dat] <;> rfl, by rw [z.2]; exact at_⟩
  exact HandSPX.exc_get I1.kIn J T.ga T.gg T.exC (PySem.W.findObj_own T.hdC T.noF rfl (by rw [look, hu])) (handed_of ru) ⟨v, H1, I1.tok _, ru, q⟩
end
end KU
namespace KW
open PySem PySem.Spec PyProof.Rows L2 PySem.W LamX
/-! ### a lambda without parameters that is handed on from def to def: it stands as it was made, whoever calls it -/
theorem un_comp {fs gs : List Addr} {H H1 H2 : Hp} {h h1 h2 : Heap} (a : Un fs [] H H1 h h1) (b : Un gs [] H1 H2 h1 h2) (sub : ∀ x ∈ gs, x ∈ fs ∨ h.get? x = none) : Un fs [] H H2 h h2 := by
  have no : ∀ {x : Addr} {o : Obj}, h.get? x = some o → x ∉ fs → x ∉ gs := fun e n z => by
    rcases sub _ z with q | q
    · exact n q
    · rw [q] at e
      cases e
  refine ⟨fun x o e n hx _ => ?_, fun x o e n hx _ => ?_, fun x o e n _ => ?_, fun x o e _ => ?_, fun x xs e => b.tups _ _ (a.tups _ _ e), fun x o u e => b.frzs _ _ _ (a.frzs _ _ _ e), fun x ps e => ?_⟩
  · exact b.keep x o (a.keep x o e n hx (by simp)) (a.free x o e n (by simp)) (no e hx) (by simp)
  · obtain ⟨sl, e1⟩ := a.slot x o e n hx (by simp)
    have n1 := a.free x o e n (by simp)
    by_cases hg : x ∈ gs
    · obtain ⟨sl2, e2⟩ := b.slot x _ e1 n1 hg (by simp)
      exact ⟨sl2, e2⟩
    · exact ⟨sl, b.keep x _ e1 n1 hg (by simp)⟩
  · obtain ⟨o1, e1⟩ := a.there x o e (by simp)
    exact b.free x o1 e1 (a.free x o e n (by simp)) (by simp)
  · obtain ⟨o1, e1⟩ := a.there x o e (by simp)
    exact b.there x o1 e1 (by simp)
  · obtain ⟨m1, e1⟩ := a.tbls x ps e
    obtain ⟨m2, e2⟩ := b.tbls x _ e1
    exact ⟨m1 ++ m2, by rw [e2, Array.append_assoc]⟩
/-- the lambda at f, its code object at c' of the name q, made where the heaps were H0, h0; fs: the frames that ran then; t: what it promises -/
structure Work (P : Program) (w : World) (K : PySem.W.Frag) (mg : Str → Option Value) (base : Heap) (k : Nat) (fs : List Addr) (H0 : Hp) (h0 : Heap) (f c' : Addr) (q : Str) (t : XK → Hp → VK → Prop) : Prop where
  obj : ∃ (params : Arguments) (body : Expr) (scope : Scope) (cl : List (Str × Addr)) (pm ctv : Value), h0.get? f = some (PySem.W.kla_obj "<lambda>" q params body scope cl pm c' ctv)
  free : H0 f = none
  out : f ∉ fs
  run : ∀ (A : Around) (outer : List Env) (s1 : Shared) (HZ : Hp) (Q : VK) (E : XK), Room (k + 1) A → Env0 P w K mg base A outer s1 HZ → Un fs [] H0 HZ h0 s1.heap → HZ c' = some (CodeO c' q) → t E HZ Q →
    codeAny (model P w) A (.call (.ref f) ⟨[], []⟩) (CR (L2.CX P w) outer P w HZ s1 Q E) s1
section
variable {X : Cx} {pins : List (Addr × Obj)} {σ : L2.St} {H : Hp} {s : Shared}
theorem work_of {k : Nat} {f c' : Addr} {pm ctv : Value} {params : Arguments} {body : Expr} {scope : Scope} {tb : XK → TE} (I : Inv X pins σ H s) (L : LamS X.env.scope scope)
    (hf : s.heap.get? f = some (PySem.W.kla_obj "<lambda>" (X.env.qual ++ "<lambda>") params body scope (cloFrom X.env.cells scope.names []) pm c' ctv)) (hfn : H f = none) (hfr : f ∉ frs X.stack)
    (hbind : bindArgs (PySem.W.kla_fn "<lambda>" (X.env.qual ++ "<lambda>") params body scope (cloFrom X.env.cells scope.names []) pm (.ref c') ctv) ⟨[], []⟩ = pure [])
    (hbody : ∀ (A : Around) (outer : List Env) (s1 : Shared) (HZ : Hp) (E : XK), Room k (A.deeper (lamEnv X scope s1.heap.objs.size f c')) → PE (lamCx X A outer s1 HZ E scope f c') body (tb E)) :
    Work X.prog X.w X.K X.mg X.base k (frs X.stack) H s.heap f c' (X.env.qual ++ "<lambda>") (fun E HZ Q => tb E σ HZ Q) := by
  refine ⟨⟨_, _, _, _, _, _, hf⟩, hfn, hfr, fun A outer s1 HZ Q E hr e0 un hc ht => ?_⟩
  have of1 := un.keep f _ hf hfn hfr (by simp)
  obtain ⟨⟨oc, vs, t, hoc, hdc, hvc⟩, _, _⟩ := e0.hok c' _ hc
  have lim : s1.heap.NoLimit := e0.mod.nolimit.keeps fun b o e => (e0.bs b o e).1
  refine PySem.W.kla_callFunE hr.depth of1 rfl L.co L.gen rfl ⟨c', oc, vs, t, rfl, hoc, hdc, hvc⟩ ?_
  rw [hbind]
  refine wpAny_pure (wpAny_newFunctionEnv (fun y hy => (L.own y hy).2) (fun y hy => absurd hy (by simp)) (fun h₁ hns hsb => ⟨lim.fresh _ hsb, ?_⟩) L.kind)
  show codeAny _ _ (.expr body (lamEnv X scope s1.heap.objs.size f c')) _ _
  have kp : ∀ b o, s1.heap.get? b = some o → h₁.get? b = some o := fun b o e => hsb.extBut b o (Nat.ne_of_lt (Heap.lt_size e)) (Heap.get?_push_of_some _ e)
  have J : Inv (lamCx X A outer s1 HZ E scope f c') [] σ HZ { s1 with heap := h₁, toks := s1.toks + ([] : List (Str × Value)).length } := lam_start2 I L e0 hr.hd un hns kp
  refine PySem.W.kla_codeExpr (wpAny_mono ((hbody A outer s1 HZ E (hr.deeper _)).run [] _ _ HZ Q J ht) (fun v s' hq => ?_) fun e s' hq => hq)
  obtain ⟨w', H', J', rv, q⟩ := hq
  exact ⟨w', H', J'.os, J'.bare, J'.base, J'.hok, rv, q⟩
end
section
variable {Z : Cx} {k : Nat} {fs : List Addr} {H0 : Hp} {h0 : Heap} {f c' : Addr} {q : Str} {t : XK → Hp → VK → Prop}
/-- where Z stands to the making -/
structure Since (Z : Cx) (fs : List Addr) (H0 : Hp) (h0 : Heap) : Prop where
  un : Un fs [] H0 Z.H_0 h0 Z.s_0.heap
  sub : ∀ b ∈ Z.fs, b ∈ fs ∨ h0.get? b = none
  ex : Z.ex = []
theorem Since.now {pins : List (Addr × Obj)} {σ : L2.St} {H : Hp} {s : Shared} (S : Since Z fs H0 h0) (I : Inv Z pins σ H s) : Un fs [] H0 H h0 s.heap := by
  have b := I.base
  rw [S.ex] at b
  exact un_comp S.un b S.sub
theorem Since.stk {pins : List (Addr × Obj)} {σ : L2.St} {H : Hp} {s : Shared} (S : Since Z fs H0 h0) (I : Inv Z pins σ H s) : ∀ b ∈ frs Z.stack, b ∈ fs ∨ h0.get? b = none := fun b hb => by
  rcases List.mem_cons.mp (I.stkSub b hb) with e | e
  · refine .inr ?_
    cases z : h0.get? b with
    | none => rfl
    | some o =>
      obtain ⟨o', z'⟩ := S.un.there b o z (by simp)
      have l := Heap.lt_size z'
      have a := I.ok.above
      rw [e] at l
      exact absurd l (Nat.not_lt.mpr a)
  · exact S.sub b e
/-- the slot's name is called: a work stands in it -/
theorem pe_work {i : Nat} {a : Str} {E : XK} {p1 p2 : Pos} (Wk : Work Z.prog Z.w Z.K Z.mg Z.base k fs H0 h0 f c' q t) (S : Since Z fs H0 h0) (hx : Passes (L2.CX Z.prog Z.w) Z E) (hr : Room (k + 1) Z.A) (hN : Z.N[i]? = some a) (hv : Vis Z.env.scope a)
    (hd : (a == ("__debug__" : Str)) = false := by decide) (hcd : (a == ("__classdict__" : Str)) = false := by decide) :
    PE Z (.Call (.Name a p1) [] [] p2) (fun σ H Q => σ[i]? = some (some (.ref f)) ∧ H c' = some (CodeO c' q) ∧ t E H Q) := by
  refine ⟨fun pins s σ H Q I h => ?_⟩
  obtain ⟨hs, hc, ht⟩ := h
  refine wpAny_Call_Name_kw (thn ((pe_var (pos := p1) (i := i) hN hv hd hcd).run pins s σ H (fun v H1 => v = .ref f ∧ H1 = H) I ⟨.ref f, hs, rfl, rfl⟩) fun u s1 ⟨v, H1, I1, r1, q1⟩ => ?_)
  obtain ⟨ev, eH⟩ := q1
  subst ev
  rw [eH] at I1
  obtain rfl : u = Value.ref f := r1
  obtain ⟨_, _, _, _, _, _, ob⟩ := Wk.obj
  have un := S.now I1
  have of1 := un.keep f _ ob Wk.free Wk.out (by simp)
  refine PySem.W.callWith_F0 ⟨_, _, _, _, of1⟩ ?_
  refine wpAny_call (codeAny_mono (Wk.run Z.A Z.stack s1 H Q E hr I1.env0 un hc ht) fun r s' hq => ?_)
  match r, hq with
  | .error e, hq => exact hx pins σ H s1 e s' I1 hq
  | .ok (.ret u), hq => exact I1.after hq
  | .ok .next, hq => exact False.elim hq
  | .ok .brk, hq => exact False.elim hq
  | .ok .cont, hq => exact False.elim hq
end
/-- the promise of a def that a work is handed to -/
structure FnW (P : Program) (w : World) (K : PySem.W.Frag) (mg : Str → Option Value) (base : Heap) (fs : List Addr) (H0 : Hp) (h0 : Heap) (CX : CXT) (k : Nat) (g : Addr) (fd : FuncData) (ps : List Str) (sp : Sp) : Prop where
  len : ∀ vs H Q E, sp vs H Q E → vs.length = ps.length
  run : ∀ (A : Around) (outer : List Env) (s : Shared) (H : Hp) (args : Args) (us : List Value) (vs : List V) (Q : VK) (E : XK), Room k A → A.guards = some [] → Env0 P w K mg base A outer s H → Un fs [] H0 H h0 s.heap → (∀ b ∈ frs outer, b ∈ fs ∨ h0.get? b = none) →
    BindsTo s fd args (ps.zip us) → Vals vs us → sp vs H Q E → codeAny (model P w) A (.call (.ref g) args) (CR CX outer P w H s Q E) s
theorem fnW_of {CX : CXT} {P : Program} {w : World} {K : PySem.W.Frag} {mg : Str → Option Value} {base : Heap} {fs : List Addr} {H0 : Hp} {h0 : Heap} {k : Nat} {f : Addr} {x qual : Str} {st : Stmt} {fd : FuncData} {N ps : List Str} {sp : Sp} (F : Fun K x qual st f fd) (S : FnScope N ps (defScope st))
    (len : ∀ vs H Q E, sp vs H Q E → vs.length = ps.length)
    (hbody : ∀ (cdv : Value) (A : Around) (outer : List Env) (s : Shared) (H : Hp) (vs : List V) (Q : VK) (E : XK), Room k (A.deeper (envOfC qual (defScope st) s.heap.objs.size f cdv)) → A.guards = some [] → Since (cxOf CX P w K mg base N qual (defScope st) f cdv A outer s H E) fs H0 h0 → sp vs H Q E →
      ∃ t, PSs (cxOf CX P w K mg base N qual (defScope st) f cdv A outer s H E) (defBody st) t ∧ t { nx := fun _ H' => Q .non H', rt := Q } (L2.start N vs) H) : FnW P w K mg base fs H0 h0 CX (k + 1) f fd ps sp := by
  obtain ⟨oc, od, kV, doc, pm, an, cdv, ct, osl, rfl, lk, hcd⟩ := F.ex
  exact ⟨len, fun A outer s H args us vs Q E hr hgd e0 un sub hb r h => run_ofS lk hcd S hr e0 hb r (len _ _ _ _ h) fun hr' => hbody cdv A outer s H vs Q E hr' hgd ⟨un, sub, rfl⟩ h⟩
section
variable {Z : Cx} {CX : CXT} {k : Nat} {fs : List Addr} {H0 : Hp} {h0 : Heap} {g : Addr} {fd : FuncData} {ps : List Str} {sp : Sp} {E : XK} {x : Str} {p pos : Pos} {e : Expr} {es : List Expr} {t : TA}
/-- x(a, ..) in a def that the work has been handed to, handed on -/
theorem pe_wcall (F : FnW Z.prog Z.w Z.K Z.mg Z.base fs H0 h0 CX k g fd ps sp) (S : Since Z fs H0 h0) (hr : Room k Z.A) (hgd : Z.A.guards = some []) (hg : Gl Z x) (hm : Z.mg x = some (.ref g)) (hk : PySem.W.keepIn Z.K (.ref g) = true) (hb : Binds Z.K fd ps []) (hx : Passes CX Z E) (ha : PA Z (e :: es) t)
    (hdb : (x == ("__debug__" : Str)) = false := by decide) (he : starEach (e :: es) Z.env = (false, eval e Z.env) :: starEach es Z.env := by rfl) (hpl : (backTo pos (starEach es Z.env)).any (·.1) = false := by rfl) :
    PE Z (.Call (.Name x p) (e :: es) [] pos) (tCall sp [] E t) := by
  refine ⟨fun pins s σ H Q I h => ?_⟩
  refine wpAny_Call_Name_kw (ld_glob I hg hm ?_ hdb)
  refine PySem.W.callWith_K (h₀ := Z.base) I.ok.mod.kin hk (thn (ha.run pos pins s σ H _ I h) fun us s1 ⟨vs, H1, I1, r, q⟩ => ⟨I1.kIn, ?_⟩) he hpl
  have q : sp (vs ++ []) H1 Q E := q
  rw [List.append_nil] at q
  have hl : us.length = ps.length := by rw [← r.length]; exact F.len _ _ _ _ q
  have bt := hb s1 us I1.kIn (by simpa using hl)
  rw [List.append_nil] at bt
  refine wpAny_call (codeAny_mono (F.run Z.A Z.stack s1 H1 ⟨us, []⟩ us vs Q E hr hgd I1.env0 (S.now I1) (S.stk I1) bt r q) fun rr s' hq => ?_)
  match rr, hq with
  | .error e, hq => exact hx pins σ H1 s1 e s' I1 hq
  | .ok (.ret u), hq => exact I1.after hq
  | .ok .next, hq => exact False.elim hq
  | .ok .brk, hq => exact False.elim hq
  | .ok .cont, hq => exact False.elim hq
end
section
variable {X : Cx} {T : List (Addr × Str)} {CX : CXT} {kb k : Nat} {g c P : Addr} {fd : FuncData} {ps : List Str} {E : XK} {x : Str} {params : Arguments} {body : Expr} {scope : Scope} {t : XK → TE} {p lpos pos : Pos} {es : List Expr} {ta : TA} {sp : Addr → Addr → (XK → Hp → VK → Prop) → Sp}
/-- x(lambda: body, ..), x a def that hands it on -/
theorem pe_lamW (FW : ∀ (H0 : Hp) (h0 : Heap) (f c' : Addr) (t' : XK → Hp → VK → Prop), Work X.prog X.w X.K X.mg X.base kb (frs X.stack) H0 h0 f c' (X.env.qual ++ "<lambda>") t' → FnW X.prog X.w X.K X.mg X.base (frs X.stack) H0 h0 CX k g fd ps (sp f c' t'))
    (hg : Gl X x) (hm : X.mg x = some (.ref g)) (hk : PySem.W.keepIn X.K (.ref g) = true) (hb : Binds X.K fd ps []) (hx : Passes CX X E) (hr : Room k X.A) (hgd : X.A.guards = some []) (TB : TabB X.base X.mg c P) (hcode : X.env.code = .ref c) (hmT : (P, X.env.qual ++ "<lambda>") ∈ T) (hu : ∀ p ∈ T, p.1 = P → p.2 = X.env.qual ++ "<lambda>")
    (L : LamS X.env.scope scope) (hdef : defaultsOf params X.env = ([], [])) (hbind : ∀ (q : Str) (cl : List (Str × Addr)) (pm cv ctv : Value), bindArgs (PySem.W.kla_fn "<lambda>" q params body scope cl pm cv ctv) ⟨[], []⟩ = pure [])
    (hbody : ∀ (A : Around) (outer : List Env) (s : Shared) (H : Hp) (E : XK) (f c' : Addr), Room kb (A.deeper (lamEnv X scope s.heap.objs.size f c')) → PE (lamCx X A outer s H E scope f c') body (t E)) (ha : PA X es ta)
    (hdb : (x == ("__debug__" : Str)) = false := by decide) (he : starEach (.Lambda params body scope lpos :: es) X.env = (false, eval (.Lambda params body scope lpos) X.env) :: starEach es X.env := by rfl) (hpl : (backTo pos (starEach es X.env)).any (·.1) = false := by rfl) :
    PE X (.Call (.Name x p) (.Lambda params body scope lpos :: es) [] pos) (fun σ H Q => Tabs T H ∧ ∀ H1, ExtN H H1 → Tabs T H1 → ∀ f c' : Addr, H1 c' = some (CodeO c' (X.env.qual ++ "<lambda>")) →
      ta σ H1 fun vs H2 => sp f c' (fun E H Q => t E σ H Q) (.ref f :: vs) H2 Q E) := by
  refine ⟨fun pins s σ H Q I h => ?_⟩
  obtain ⟨hT, h⟩ := h
  refine wpAny_Call_Name_kw (ld_glob I hg hm ?_ hdb)
  refine PySem.W.callWith_K (h₀ := X.base) I.ok.mod.kin hk ?_ he hpl
  rw [he]
  show wpAny _ _ (spliced ((false, eval (.Lambda params body scope lpos) X.env) :: backTo pos (starEach es X.env))) _ _ s
  refine Calls.spliced_cons (lam_make2 I TB hcode hmT hu hT hdef (L.has I.ok) fun f c' pm' ctv H1 s' I1 eN T1 hf hfn hfr hco => ?_)
  have fl : f ≠ X.env.locals := fun z => by
    obtain ⟨m, ⟨o, es', ep, e1, e2, _⟩, _⟩ := I1.loc
    rw [← z, hf] at e1
    cases e1
    cases e2
  have ff : f ∉ X.fs := fun z => hfr (by
    rcases I1.ok.stk with q | ⟨q, _⟩
    · rw [q]
      exact z
    · rw [q]
      obtain ⟨e, he', q'⟩ := List.mem_filterMap.mp z
      exact List.mem_filterMap.mpr ⟨e, List.mem_cons_of_mem _ he', q'⟩)
  have J1 : Inv X ((f, PySem.W.kla_obj "<lambda>" (X.env.qual ++ "<lambda>") params body scope (cloFrom X.env.cells scope.names []) pm' c' ctv) :: pins) σ H1 s' := I1.pins_of fun q hq => by
    rcases List.mem_cons.mp hq with z | z
    · rw [z]
      exact ⟨hf, hfn, fl, ff, fun v y => by cases y⟩
    · exact I1.pin q (List.mem_append_right _ z)
  refine thn (ha.run pos _ s' σ H1 _ J1 (h H1 eN T1 f c' hco)) fun us s2 ⟨vs, H2, J2, r, q⟩ => ⟨J2.kIn, ?_⟩
  have at2 := J2.pin (f, _) (List.mem_append_right _ List.mem_cons_self)
  have I2 : Inv X pins σ H2 s2 := J2.pins_of fun q hq => J2.pin q (List.mem_append_right _ (List.mem_cons_of_mem _ hq))
  have Wk := work_of (tb := t) I2 L at2.1 at2.2.1 hfr (hbind _ _ _ _ _) (fun A outer s1 HZ E hr2 => hbody A outer s1 HZ E f c' hr2)
  have F := FW H2 s2.heap f c' _ Wk
  have r2 : Vals (.ref f :: vs) (.ref f :: us) := .cons rfl r
  have hl : (Value.ref f :: us).length = ps.length := by rw [← r2.length]; exact F.len _ _ _ _ q
  have bt := hb s2 (.ref f :: us) I2.kIn (by simpa using hl)
  rw [List.append_nil] at bt
  refine wpAny_call (codeAny_mono (F.run X.A X.stack s2 H2 ⟨.ref f :: us, []⟩ (.ref f :: us) (.ref f :: vs) Q E hr hgd I2.env0 (Un.kept fun _ _ z => z) (fun b hb => .inl hb) bt r2 q) fun rr s3 hq => ?_)
  match rr, hq with
  | .error e, hq => exact hx pins σ H2 s2 e s3 I2 hq
  | .ok (.ret u), hq => exact I2.after hq
  | .ok .next, hq => exact False.elim hq
  | .ok .brk, hq => exact False.elim hq
  | .ok .cont, hq => exact False.elim hq
end
end KW
namespace KA
open PySem PySem.Spec PyProof.Rows L2 PySem.W LamX KW
/-- isinstance of an exception that is kept as a value, with fields of its own -/
def rIsD (K : PySem.W.Frag) : List V → Hp → VK → Prop := fun xs H Q => ∃ (a D d : Addr) (fs : List (Str × V)) (c : V) (cv : Value) (b : Bool), xs = [.ref a, c] ∧ H a = some (ExV (.ref D) (some d) a) ∧ H d = some (.xd fs) ∧ ExcC K D ∧ ClsV c cv ∧ PySem.W.kitOne K (.ref D) cv = some b ∧ Q (.bl b) H
def rIs3 (K : PySem.W.Frag) : List V → Hp → VK → Prop := fun xs H Q => rIs2 K xs H Q ∨ rIsD K xs H Q
section
variable {X : Cx}
theorem call_isD : CallR X (.builtin "isinstance") (rIsD X.K) := by
  intro pins s σ H xs us Q I r h
  obtain ⟨a, D, d, fs, c, cv, b, rfl, ha, hd, C, k, e, q⟩ := h
  obtain ⟨u1, u2, rfl, r1, r2⟩ := vals2 r
  cases k.eq r2
  obtain rfl : u1 = Value.ref a := r1
  obtain ⟨⟨oe, at1, z, vs, dat⟩, _⟩ := I.hok a _ ha
  obtain ⟨mA, ns, _⟩ := I.hok d _ hd
  obtain ⟨od, at2, _⟩ := lookIn_ns ns
  have J : PySem.W.InstAt s.heap a oe D (some od) := ⟨at1, z.1, by unfold PySem.W.notCls; rw [dat] <;> rfl, by rw [z.2]; exact at2⟩
  obtain ⟨cd, hc, _⟩ := any_some C.hd
  exact PySem.W.kia_one (kitx_exc (by rw [hc]; rfl) C.hg C.hk C.hs C.ha C.hn C.ht C.hm) I.kIn J e (fun z => nomatch z) fun tk => ⟨.bl b, H, I.tok tk, rfl, q⟩
theorem call_is3 : CallR X (.builtin "isinstance") (rIs3 X.K) := by
  intro pins s σ H xs us Q I r h
  rcases h with h | h
  · exact call_is2 pins s σ H xs us Q I r h
  · exact call_isD pins s σ H xs us Q I r h
end
/-- caught, of a work that was handed on: at f, its code object at c' -/
def spCaughtW (K : PySem.W.Frag) (CS : Addr) (f c' : Addr) (q : Str) (t : XK → Hp → VK → Prop) : Sp := fun vs H Q _ => vs = [.ref f] ∧ H c' = some (CodeO c' q) ∧ TCaught K CS t H Q
theorem caught_work {P : Program} {w : World} {K : PySem.W.Frag} {mg : Str → Option Value} {base : Heap} {fs : List Addr} {H0 : Hp} {h0 : Heap} {k : Nat} {f c' : Addr} {q : Str} {t : XK → Hp → VK → Prop} {g : Addr} {fd : FuncData} {x a e n m : Str} {st : Stmt} {CS : Addr} {j1 : Nat} {p1 p2 p3 p4 p5 p6 p7 p8 p9 pa pb pc pd pe : Pos}
    (Wk : Work P w K mg base k fs H0 h0 f c' q t) (F : Fun K x x st g fd) (S : FnScope [a, m, n] [a] (defScope st))
    (hb : defBody st = [.Assign [.Name m p1] (.Constant .none j1 p2) p3,
       .Try [.Expr (.Call (.Name a p4) [] [] p5) p6] [.ExceptHandler (some (.Name e p7)) (some n) [.Assign [.Name m p8] (.Name n p9) pa] pb] [] [] pc,
       .Return (some (.Name m pd)) pe])
    (la : (defScope st).names.lookup a = some .local) (lm : (defScope st).names.lookup m = some .local) (ln : (defScope st).names.lookup n = some .local) (he : (defScope st).names.lookup e = some .globalImplicit) (hme : mg e = some (.ref CS)) (hde : (e == ("__debug__" : Str)) = false)
    (d0 : (a == ("__debug__" : Str)) = false) (d00 : (a == ("__classdict__" : Str)) = false) (d1 : (n == ("__debug__" : Str)) = false) (d2 : (n == ("__classdict__" : Str)) = false) (d3 : (m == ("__debug__" : Str)) = false) (d4 : (m == ("__classdict__" : Str)) = false) :
    FnW P w K mg base fs H0 h0 (L2.CX P w) (k + 2) g fd [a] (spCaughtW K CS f c' q t) := by
  refine fnW_of F S (fun vs H Q E h => by rw [h.1]; rfl) (fun cdv A outer s H vs Q E hr _ Sn h => ?_)
  obtain ⟨rfl, hc, hT⟩ := h
  rw [hb]
  refine ⟨_, pss_cons (ps_set (i := 1) S.nd rfl (.inl lm) pe_non) (pss_cons (ps_try_keep (c := .ref CS) (i := 2) (j := 1)
      (tb := fun W D σ H => ∃ Eb : XK, (∀ cls d σ' H', Eb cls d H' → W cls d σ' H') ∧ σ[0]? = some (some (.ref f)) ∧ H c' = some (CodeO c' q) ∧ t Eb H (fun _ H' => D.nx σ H'))
      rfl rfl rfl S.nd rfl rfl ln lm ⟨he, hde, .inl hme⟩ d1 d2 (fun W pn xe tk _ => ?_))
    (pss_one (ps_ret (pe_var (i := 1) rfl (.inl lm) d3 d4)))), ?_⟩
  · refine ⟨fun pins s' σ H' D I h' => ?_⟩
    obtain ⟨Eb, wish, h1, h2, h3⟩ := h'
    exact (pss_one (ps_expr (pe_work (Z := (cxOf (L2.CX P w) P w K mg base [a, m, n] x (defScope st) g cdv A outer s H E).tr pn xe) (i := 0) Wk ⟨Sn.un, Sn.sub, Sn.ex⟩ (passes_call tk wish) hr rfl (.inl la) d0 d00))).run pins s' σ H' D I ⟨h1, h2, h3⟩
  · refine ⟨fun cls d H' => PySem.W.exmOne K cls (.ref CS) = some true ∧ ∀ b, H' b = none → Q (.ref b) (upd H' b (ExV cls d b)), fun cls d σ' H' ⟨e1, e2⟩ => ⟨e1, fun b hb hl => ?_⟩, rfl, hc, ?_⟩
    · match σ', hl with
      | [u, v, z], _ => exact ⟨_, rfl, e2 b hb⟩
    · exact hT _ fun v H' z => ⟨_, rfl, z⟩
end KA
namespace KL
open PySem PySem.Spec PyProof.Rows L2 PySem.W LamX KA KW
/-! ### a lambda without parameters as a value: kept in a list, a local name, and called later by a def it is handed to -/
/-- the lambda at f, its code object at c', as the def with the frame env made it -/
def LamO (env : Env) (params : Arguments) (body : Expr) (scope : Scope) (f c' : Addr) : HO :=
  .ext fun h => ∃ pm ctv : Value, h.get? f = some (PySem.W.kla_obj "<lambda>" (env.qual ++ "<lambda>") params body scope (cloFrom env.cells scope.names []) pm c' ctv)
theorem lamO_tbl {env : Env} {params : Arguments} {body : Expr} {scope : Scope} {f c' : Addr} (ps : Array Value) : LamO env params body scope f c' ≠ .tbl ps := fun z => by
  unfold LamO at z
  cases z
theorem lamO_lst {env : Env} {params : Arguments} {body : Expr} {scope : Scope} {f c' : Addr} (xs : List V) : LamO env params body scope f c' ≠ .lst xs := fun z => by
  unfold LamO at z
  cases z
section
variable {X : Cx} {pins : List (Addr × Obj)} {σ : L2.St} {H : Hp} {s : Shared}
theorem laidLam {env : Env} {params : Arguments} {body : Expr} {scope : Scope} {c' : Addr} {pm ctv : Value} {h' : Heap} {tk : Nat} (I : Inv X pins σ H { s with heap := h', toks := tk }) :
    Inv X pins σ (upd H h'.objs.size (LamO env params body scope h'.objs.size c')) { s with heap := h'.push (PySem.W.kla_obj "<lambda>" (env.qual ++ "<lambda>") params body scope (cloFrom env.cells scope.names []) pm c' ctv), toks := tk } :=
  I.laid (t' := tk) (fun b o e => Heap.get?_push_of_some _ e) (Nat.le_refl _) ⟨⟨pm, ctv, Heap.get?_push_size _ rfl⟩, ⟨_, Heap.get?_push_size _ rfl⟩, fun h1 h2 ⟨a, b, e⟩ st => ⟨a, b, st _ e⟩⟩
/-- it is made: a value of the heap -/
theorem lam_valF {T : List (Addr × Str)} {c P : Addr} {params : Arguments} {body : Expr} {scope : Scope} {pos : Pos} {E Q : Value → Shared → Prop} (I : Inv X pins σ H s) (TB : TabB X.base X.mg c P) (hcode : X.env.code = .ref c)
    (mem : (P, X.env.qual ++ "<lambda>") ∈ T) (one : ∀ p ∈ T, p.1 = P → p.2 = X.env.qual ++ "<lambda>") (hT : Tabs T H) (hdef : defaultsOf params X.env = ([], [])) (hfree : ∀ y ∈ scope.names, y.2 = .free → ∃ c, X.env.cells.lookup y.1 = some c)
    (k : ∀ (f c' : Addr) (H1 : Hp) (s' : Shared), ExtN H H1 → Tabs T H1 → H1 f = none → H1 c' = some (CodeO c' (X.env.qual ++ "<lambda>")) → Inv X pins σ (upd H1 f (LamO X.env params body scope f c')) s' → Q (.ref f) s') :
    wpAny (model X.prog X.w) X.A (eval (.Lambda params body scope pos) X.env) Q E s := by
  obtain ⟨tb, atP, tri, amg⟩ := hT _ mem
  have clo := closure_ok hfree
  have glob := I.mod.glob.keeps I.bk
  have code := TB.code.keeps I.bk
  have raw : s.heap.get? P = some { cls := .none, data := .fields tb } := I.hok P _ atP
  have bm := TB.bm.keeps I.bk
  refine PySem.W.kla_eval hdef ?_
  cases found : codeAmong pos tb.toList with
  | some cv =>
    obtain ⟨c', rfl, hco⟩ := amg pos cv found
    refine PySem.W.kla_makeFunctionHit clo I.ok.glob glob hcode code raw tri found bm ?_
    intro ctv h' tk hx hsz
    have J : Inv X pins σ H { s with heap := h', toks := tk } := I.kept fun b o e => hx b o e
    exact k _ c' H _ (ExtN.refl H) hT (I.hok.fresh hsz) hco (laidLam J)
  | none =>
    refine PySem.W.kla_makeFunction clo I.ok.glob glob hcode code raw tri found TB.gP bm ?_
    intro c' ctv h' tk hx hge hlt rec tbl
    obtain ⟨c2, oc, vs, t, ec, hoc, hd, hv⟩ := rec
    cases ec
    have free : H c' = none := I.hok.fresh hge
    have ne : P ≠ c' := ne_of_none atP free
    have J := inv_table (t' := tk) (more := #[rawInt pos.line, rawInt pos.col, .ref c']) (h' := h') I atP hx tbl hge ⟨oc, vs, t, hoc, hd, hv⟩
    generalize hH : upd (upd H P (.tbl (tb ++ #[rawInt pos.line, rawInt pos.col, .ref c']))) c' (CodeO c' (X.env.qual ++ "<lambda>")) = H1 at J
    have at1 : H1 c' = some (CodeO c' (X.env.qual ++ "<lambda>")) := by rw [← hH, upd_same]
    have at2 : H1 P = some (.tbl (tb ++ #[rawInt pos.line, rawInt pos.col, .ref c'])) := by rw [← hH, upd_ne ne, upd_same]
    have at3 : ∀ b, b ≠ P → b ≠ c' → H1 b = H b := fun b h1 h2 => by rw [← hH, upd_ne h2, upd_ne h1]
    have ext : ExtN H H1 := fun b o e n => by
      rw [at3 b (fun z => n tb (Option.some.inj (e.symm.trans (z ▸ atP)))) (ne_of_none e free)]
      exact e
    have eL : (tb ++ #[rawInt pos.line, rawInt pos.col, .ref c']).toList = tb.toList ++ [rawInt pos.line, rawInt pos.col, .ref c'] := by simp
    refine k _ c' H1 _ ext (fun p hp => ?_) (J.hok.fresh (Nat.le_refl _)) at1 (laidLam J)
    by_cases hb : p.1 = P
    · rw [one p hp hb, hb]
      refine ⟨_, at2, eL ▸ PySem.TriplesOk_snoc _ _ _ _ tri, fun p' cv hcv => ?_⟩
      rw [eL] at hcv
      cases among_app _ tri hcv with
      | inl z =>
        obtain ⟨c0, e1, e2⟩ := amg p' cv z
        exact ⟨c0, e1, ext _ _ e2 codeO_ne⟩
      | inr z => exact ⟨c', z, at1⟩
    · obtain ⟨ps', a1, a2, a3⟩ := hT p hp
      refine ⟨ps', (at3 p.1 hb (ne_of_none a1 free)).trans a1, a2, fun p' cv hcv => ?_⟩
      obtain ⟨c0, e1, e2⟩ := a3 p' cv hcv
      exact ⟨c0, e1, ext _ _ e2 codeO_ne⟩
end
def tLamV (T : List (Addr × Str)) (env : Env) (params : Arguments) (body : Expr) (scope : Scope) : TE := fun _ H Q => Tabs T H ∧ ∀ H1, ExtN H H1 → Tabs T H1 → ∀ f c' : Addr, H1 f = none → H1 c' = some (CodeO c' (env.qual ++ "<lambda>")) → Q (.ref f) (upd H1 f (LamO env params body scope f c'))
theorem pe_lamV {X : Cx} {T : List (Addr × Str)} {c P : Addr} {params : Arguments} {body : Expr} {scope : Scope} {pos : Pos} (TB : TabB X.base X.mg c P) (hcode : X.env.code = .ref c) (mem : (P, X.env.qual ++ "<lambda>") ∈ T) (one : ∀ p ∈ T, p.1 = P → p.2 = X.env.qual ++ "<lambda>")
    (L : LamS X.env.scope scope) (hdef : defaultsOf params X.env = ([], [])) : PE X (.Lambda params body scope pos) (tLamV T X.env params body scope) := by
  refine ⟨fun pins s σ H Q I h => ?_⟩
  obtain ⟨hT, h⟩ := h
  exact lam_valF I TB hcode mem one hT hdef (L.has I.ok) fun f c' H1 s' ext T1 fr co J => ⟨.ref f, _, J, rfl, h H1 ext T1 f c' fr co⟩
/-- the same, of a lambda with names of its own, which uses none of the def's -/
theorem pe_lamVF {X : Cx} {T : List (Addr × Str)} {c P : Addr} {params : Arguments} {body : Expr} {scope : Scope} {pos : Pos} (TB : TabB X.base X.mg c P) (hcode : X.env.code = .ref c) (mem : (P, X.env.qual ++ "<lambda>") ∈ T) (one : ∀ p ∈ T, p.1 = P → p.2 = X.env.qual ++ "<lambda>")
    (hn : ∀ y ∈ scope.names, y.2 ≠ .free) (hdef : defaultsOf params X.env = ([], [])) : PE X (.Lambda params body scope pos) (tLamV T X.env params body scope) := by
  refine ⟨fun pins s σ H Q I h => ?_⟩
  obtain ⟨hT, h⟩ := h
  exact lam_valF I TB hcode mem one hT hdef (fun y hy e => absurd e (hn y hy)) fun f c' H1 s' ext T1 fr co J => ⟨.ref f, _, J, rfl, h H1 ext T1 f c' fr co⟩
/-- what is known of a lambda that was handed on: pre tells that it stands, t what its call promises -/
structure WorkL (P : Program) (w : World) (K : PySem.W.Frag) (mg : Str → Option Value) (base : Heap) (k : Nat) (fs : List Addr) (H0 : Hp) (h0 : Heap) (f : Addr) (pre : Hp → Prop) (t : XK → Hp → VK → Prop) : Prop where
  fn : ∀ (HZ : Hp) (h1 : Heap), HOk P w HZ h1 → pre HZ → ∃ (qual : Str) (params : Arguments) (body : Expr) (scope : Scope) (cl : List (Str × Addr)) (pm : Value) (c' : Addr) (ctv : Value), h1.get? f = some (PySem.W.kla_obj "<lambda>" qual params body scope cl pm c' ctv)
  run : ∀ (A : Around) (outer : List Env) (s1 : Shared) (HZ : Hp) (Q : VK) (E : XK), Room (k + 1) A → Env0 P w K mg base A outer s1 HZ → Un fs [] H0 HZ h0 s1.heap → pre HZ → t E HZ Q →
    codeAny (model P w) A (.call (.ref f) ⟨[], []⟩) (CR (L2.CX P w) outer P w HZ s1 Q E) s1
section
variable {X : Cx} {pins : List (Addr × Obj)} {σ : L2.St} {H : Hp} {s : Shared}
theorem work_ofL {k : Nat} {f c' : Addr} {params : Arguments} {body : Expr} {scope : Scope} {tb : XK → TE} (I : Inv X pins σ H s) (L : LamS X.env.scope scope)
    (hbind : ∀ (q : Str) (cl : List (Str × Addr)) (pm cv ctv : Value), bindArgs (PySem.W.kla_fn "<lambda>" q params body scope cl pm cv ctv) ⟨[], []⟩ = pure [])
    (hbody : ∀ (A : Around) (outer : List Env) (s1 : Shared) (HZ : Hp) (E : XK), Room k (A.deeper (lamEnv X scope s1.heap.objs.size f c')) → PE (lamCx X A outer s1 HZ E scope f c') body (tb E)) :
    WorkL X.prog X.w X.K X.mg X.base k (frs X.stack) H s.heap f (fun HZ => HZ f = some (LamO X.env params body scope f c') ∧ HZ c' = some (CodeO c' (X.env.qual ++ "<lambda>"))) (fun E HZ Q => tb E σ HZ Q) := by
  refine ⟨fun HZ h1 ok pre => ?_, fun A outer s1 HZ Q E hr e0 un pre ht => ?_⟩
  · obtain ⟨⟨pm, ctv, e⟩, _⟩ := ok f _ pre.1
    exact ⟨_, _, _, _, _, _, _, _, e⟩
  · obtain ⟨pf, pc⟩ := pre
    obtain ⟨⟨pm, ctv, of1⟩, _⟩ := e0.hok f _ pf
    obtain ⟨⟨oc, vs, t, hoc, hdc, hvc⟩, _⟩ := e0.hok c' _ pc
    have lim : s1.heap.NoLimit := e0.mod.nolimit.keeps fun b o e => (e0.bs b o e).1
    refine PySem.W.kla_callFunE hr.depth of1 rfl L.co L.gen rfl ⟨c', oc, vs, t, rfl, hoc, hdc, hvc⟩ ?_
    rw [hbind]
    refine wpAny_pure (wpAny_newFunctionEnv (fun y hy => (L.own y hy).2) (fun y hy => absurd hy (by simp)) (fun h₁ hns hsb => ⟨lim.fresh _ hsb, ?_⟩) L.kind)
    show codeAny _ _ (.expr body (lamEnv X scope s1.heap.objs.size f c')) _ _
    have keep : ∀ b o, s1.heap.get? b = some o → h₁.get? b = some o := fun b o e => hsb.extBut b o (Nat.ne_of_lt (Heap.lt_size e)) (Heap.get?_push_of_some _ e)
    have J : Inv (lamCx X A outer s1 HZ E scope f c') [] σ HZ { s1 with heap := h₁, toks := s1.toks + ([] : List (Str × Value)).length } := lam_start2 I L e0 hr.hd un hns keep
    refine PySem.W.kla_codeExpr (wpAny_mono ((hbody A outer s1 HZ E (hr.deeper _)).run [] _ _ HZ Q J ht) (fun v s' hq => ?_) fun e s' hq => hq)
    obtain ⟨w', H', J', rv, q⟩ := hq
    exact ⟨w', H', J'.os, J'.bare, J'.base, J'.hok, rv, q⟩
end
section
variable {Z : Cx} {k : Nat} {fs : List Addr} {H0 : Hp} {h0 : Heap} {f : Addr} {pre : Hp → Prop} {t : XK → Hp → VK → Prop}
theorem pe_workL {i : Nat} {a : Str} {E : XK} {p1 p2 : Pos} (Wk : WorkL Z.prog Z.w Z.K Z.mg Z.base k fs H0 h0 f pre t) (S : Since Z fs H0 h0) (hx : Passes (L2.CX Z.prog Z.w) Z E) (hr : Room (k + 1) Z.A) (hN : Z.N[i]? = some a) (hv : Vis Z.env.scope a)
    (hd : (a == ("__debug__" : Str)) = false := by decide) (hcd : (a == ("__classdict__" : Str)) = false := by decide) :
    PE Z (.Call (.Name a p1) [] [] p2) (fun σ H Q => σ[i]? = some (some (.ref f)) ∧ pre H ∧ t E H Q) := by
  refine ⟨fun pins s σ H Q I h => ?_⟩
  obtain ⟨hs, hp, ht⟩ := h
  refine wpAny_Call_Name_kw (thn ((pe_var (pos := p1) (i := i) hN hv hd hcd).run pins s σ H (fun v H1 => v = .ref f ∧ H1 = H) I ⟨.ref f, hs, rfl, rfl⟩) fun u s1 ⟨v, H1, I1, r1, q1⟩ => ?_)
  obtain ⟨rfl, rfl⟩ := q1
  obtain rfl : u = Value.ref f := r1
  obtain ⟨_, _, _, _, _, _, _, _, ob⟩ := Wk.fn H1 s1.heap I1.hok hp
  refine PySem.W.callWith_F0 ⟨_, _, _, _, ob⟩ ?_
  refine wpAny_call (codeAny_mono (Wk.run Z.A Z.stack s1 H1 Q E hr I1.env0 (S.now I1) hp ht) fun r s' hq => ?_)
  match r, hq with
  | .error e, hq => exact hx pins σ H1 s1 e s' I1 hq
  | .ok (.ret u), hq => exact I1.after hq
  | .ok .next, hq => exact False.elim hq
  | .ok .brk, hq => exact False.elim hq
  | .ok .cont, hq => exact False.elim hq
end
/-- caught, of such a lambda -/
def spCaughtL (K : PySem.W.Frag) (CS : Addr) (f : Addr) (pre : Hp → Prop) (t : XK → Hp → VK → Prop) : Sp := fun vs H Q _ => vs = [.ref f] ∧ pre H ∧ TCaught K CS t H Q
theorem caught_workL {P : Program} {w : World} {K : PySem.W.Frag} {mg : Str → Option Value} {base : Heap} {fs : List Addr} {H0 : Hp} {h0 : Heap} {k : Nat} {f : Addr} {pre : Hp → Prop} {t : XK → Hp → VK → Prop} {g : Addr} {fd : FuncData} {x a e n m : Str} {st : Stmt} {CS : Addr} {j1 : Nat} {p1 p2 p3 p4 p5 p6 p7 p8 p9 pa pb pc pd pe : Pos}
    (Wk : WorkL P w K mg base k fs H0 h0 f pre t) (F : Fun K x x st g fd) (S : FnScope [a, m, n] [a] (defScope st))
    (hb : defBody st = [.Assign [.Name m p1] (.Constant .none j1 p2) p3,
       .Try [.Expr (.Call (.Name a p4) [] [] p5) p6] [.ExceptHandler (some (.Name e p7)) (some n) [.Assign [.Name m p8] (.Name n p9) pa] pb] [] [] pc,
       .Return (some (.Name m pd)) pe])
    (la : (defScope st).names.lookup a = some .local) (lm : (defScope st).names.lookup m = some .local) (ln : (defScope st).names.lookup n = some .local) (he : (defScope st).names.lookup e = some .globalImplicit) (hme : mg e = some (.ref CS)) (hde : (e == ("__debug__" : Str)) = false)
    (d0 : (a == ("__debug__" : Str)) = false) (d00 : (a == ("__classdict__" : Str)) = false) (d1 : (n == ("__debug__" : Str)) = false) (d2 : (n == ("__classdict__" : Str)) = false) (d3 : (m == ("__debug__" : Str)) = false) (d4 : (m == ("__classdict__" : Str)) = false) :
    FnW P w K mg base fs H0 h0 (L2.CX P w) (k + 2) g fd [a] (spCaughtL K CS f pre t) := by
  refine fnW_of F S (fun vs H Q E h => by rw [h.1]; rfl) (fun cdv A outer s H vs Q E hr _ Sn h => ?_)
  obtain ⟨rfl, hp, hT⟩ := h
  rw [hb]
  refine ⟨_, pss_cons (ps_set (i := 1) S.nd rfl (.inl lm) pe_non) (pss_cons (ps_try_keep (c := .ref CS) (i := 2) (j := 1)
      (tb := fun W D σ H => ∃ Eb : XK, (∀ cls d σ' H', Eb cls d H' → W cls d σ' H') ∧ σ[0]? = some (some (.ref f)) ∧ pre H ∧ t Eb H (fun _ H' => D.nx σ H'))
      rfl rfl rfl S.nd rfl rfl ln lm ⟨he, hde, .inl hme⟩ d1 d2 (fun W pn xe tk _ => ?_))
    (pss_one (ps_ret (pe_var (i := 1) rfl (.inl lm) d3 d4)))), ?_⟩
  · refine ⟨fun pins s' σ H' D I h' => ?_⟩
    obtain ⟨Eb, wish, h1, h2, h3⟩ := h'
    exact (pss_one (ps_expr (pe_workL (Z := (cxOf (L2.CX P w) P w K mg base [a, m, n] x (defScope st) g cdv A outer s H E).tr pn xe) (i := 0) Wk ⟨Sn.un, Sn.sub, Sn.ex⟩ (passes_call tk wish) hr rfl (.inl la) d0 d00))).run pins s' σ H' D I ⟨h1, h2, h3⟩
  · refine ⟨fun cls d H' => PySem.W.exmOne K cls (.ref CS) = some true ∧ ∀ b, H' b = none → Q (.ref b) (upd H' b (ExV cls d b)), fun cls d σ' H' ⟨e1, e2⟩ => ⟨e1, fun b hb hl => ?_⟩, rfl, hp, ?_⟩
    · match σ', hl with
      | [u, v, z], _ => exact ⟨_, rfl, e2 b hb⟩
    · exact hT _ fun v H' z => ⟨_, rfl, z⟩
/-- a lambda of a def, and what its body promises -/
structure LamD where
  params : Arguments
  body : Expr
  scope : Scope
  t : XK → TE
structure LamOk (X : Cx) (kb : Nat) (l : LamD) : Prop where
  L : LamS X.env.scope l.scope
  bind : ∀ (q : Str) (cl : List (Str × Addr)) (pm cv ctv : Value), bindArgs (PySem.W.kla_fn "<lambda>" q l.params l.body l.scope cl pm cv ctv) ⟨[], []⟩ = pure []
  run : ∀ (A : Around) (outer : List Env) (s : Shared) (H : Hp) (E : XK) (f c' : Addr), Room kb (A.deeper (lamEnv X l.scope s.heap.objs.size f c')) → PE (lamCx X A outer s H E l.scope f c') l.body (l.t E)
/-- x(work): work, a name of this def, stands for one of its lambdas -/
theorem pe_callL {X : Cx} {CX : CXT} {kb k i : Nat} {g : Addr} {fd : FuncData} {ps : List Str} {E : XK} {x a : Str} {p p' pos : Pos} {sp : Addr → (Hp → Prop) → (XK → Hp → VK → Prop) → Sp} (lams : List LamD) (ok : ∀ l ∈ lams, LamOk X kb l)
    (FW : ∀ (H0 : Hp) (h0 : Heap) (f : Addr) (pre : Hp → Prop) (t' : XK → Hp → VK → Prop), WorkL X.prog X.w X.K X.mg X.base kb (frs X.stack) H0 h0 f pre t' → FnW X.prog X.w X.K X.mg X.base (frs X.stack) H0 h0 CX k g fd ps (sp f pre t'))
    (hg : Gl X x) (hm : X.mg x = some (.ref g)) (hk : PySem.W.keepIn X.K (.ref g) = true) (hb : Binds X.K fd ps []) (hx : Passes CX X E) (hr : Room k X.A) (hgd : X.A.guards = some []) (hN : X.N[i]? = some a) (hv : Vis X.env.scope a)
    (hdb : (x == ("__debug__" : Str)) = false := by decide) (hd : (a == ("__debug__" : Str)) = false := by decide) (hcd : (a == ("__classdict__" : Str)) = false := by decide)
    (he : starEach [.Name a p'] X.env = (false, eval (.Name a p') X.env) :: starEach [] X.env := by rfl) (hpl : (backTo pos (starEach [] X.env)).any (·.1) = false := by rfl) :
    PE X (.Call (.Name x p) [.Name a p'] [] pos) (fun σ H Q => ∃ l ∈ lams, ∃ f c' : Addr, σ[i]? = some (some (.ref f)) ∧ H f = some (LamO X.env l.params l.body l.scope f c') ∧ H c' = some (CodeO c' (X.env.qual ++ "<lambda>")) ∧
      sp f (fun HZ => HZ f = some (LamO X.env l.params l.body l.scope f c') ∧ HZ c' = some (CodeO c' (X.env.qual ++ "<lambda>"))) (fun E H Q => l.t E σ H Q) [.ref f] H Q E) := by
  refine ⟨fun pins s σ H Q I h => ?_⟩
  obtain ⟨l, hl, f, c', hs, hf, hc, q⟩ := h
  have O := ok l hl
  refine wpAny_Call_Name_kw (ld_glob I hg hm ?_ hdb)
  refine PySem.W.callWith_K (h₀ := X.base) I.ok.mod.kin hk ?_ he hpl
  rw [he]
  refine Calls.spliced_cons (thn ((pe_var (pos := p') (i := i) hN hv hd hcd).run pins s σ H (fun v H1 => v = .ref f ∧ H1 = H) I ⟨.ref f, hs, rfl, rfl⟩) fun u s1 ⟨v, H1, I1, r1, q1⟩ => ?_)
  obtain ⟨rfl, rfl⟩ := q1
  obtain rfl : u = Value.ref f := r1
  refine Calls.spliced_nil ⟨I1.kIn, ?_⟩
  have Wk := work_ofL (tb := l.t) (f := f) (c' := c') I1 O.L O.bind (fun A outer s2 HZ E hr2 => O.run A outer s2 HZ E f c' hr2)
  have F := FW H1 s1.heap f _ _ Wk
  have hlen : [Value.ref f].length = ps.length := by
    have := F.len _ _ _ _ q
    exact this
  have bt := hb s1 [.ref f] I1.kIn (by simpa using hlen)
  rw [List.append_nil] at bt
  refine wpAny_call (codeAny_mono (F.run X.A X.stack s1 H1 ⟨[.ref f], []⟩ [.ref f] [.ref f] Q E hr hgd I1.env0 (Un.kept fun _ _ z => z) (fun b hb => .inl hb) bt (.cons rfl .nil) q) fun rr s3 hq => ?_)
  match rr, hq with
  | .error e, hq => exact hx pins σ H1 s1 e s3 I1 hq
  | .ok (.ret u), hq => exact I1.after hq
  | .ok .next, hq => exact False.elim hq
  | .ok .brk, hq => exact False.elim hq
  | .ok .cont, hq => exact False.elim hq
end KL
namespace K04
open PySem PySem.Spec PyProof.Rows L2 PySem.W LamX KA
def top (i : Nat) : Stmt := PySem.Challenge.pw_pricedreels_k04_blocks_cells_and_covers.main.body.getD i (.Pass ⟨0, 0, 0, 0⟩)
abbrev s_is_number : Stmt := top 1
theorem sc_is_number : FnScope ["thing"] ["thing"] (defScope s_is_number) := ⟨rfl, rfl, rfl, by decide +kernel, rfl, by decide +kernel, by decide +kernel⟩
abbrev s_is_within : Stmt := top 2
theorem sc_is_within : FnScope ["thing", "low", "high"] ["thing", "low", "high"] (defScope s_is_within) := ⟨rfl, rfl, rfl, by decide +kernel, rfl, by decide +kernel, by decide +kernel⟩
abbrev s_is_tuple_of : Stmt := top 3
theorem sc_is_tuple_of : FnScope ["thing", "many"] ["thing", "many"] (defScope s_is_tuple_of) := ⟨rfl, rfl, rfl, by decide +kernel, rfl, by decide +kernel, by decide +kernel⟩
abbrev s_is_block : Stmt := top 15
theorem sc_is_block : FnScope ["shape", "thing"] ["shape", "thing"] (defScope s_is_block) := ⟨rfl, rfl, rfl, by decide +kernel, rfl, by decide +kernel, by decide +kernel⟩
abbrev s_spots : Stmt := top 16
theorem sc_spots : FnScope ["shape", "block"] ["shape", "block"] (defScope s_spots) := ⟨rfl, rfl, rfl, by decide +kernel, rfl, by decide +kernel, by decide +kernel⟩
abbrev s_roots : Stmt := top 17
theorem sc_roots : FnScope ["shape"] ["shape"] (defScope s_roots) := ⟨rfl, rfl, rfl, by decide +kernel, rfl, by decide +kernel, by decide +kernel⟩
abbrev s_cells : Stmt := top 18
theorem sc_cells : FnScope ["shape"] ["shape"] (defScope s_cells) := ⟨rfl, rfl, rfl, by decide +kernel, rfl, by decide +kernel, by decide +kernel⟩
abbrev s_quarters : Stmt := top 19
theorem sc_quarters : FnScope ["shape", "block"] ["shape", "block"] (defScope s_quarters) := ⟨rfl, rfl, rfl, by decide +kernel, rfl, by decide +kernel, by decide +kernel⟩
abbrev s_place_of : Stmt := top 20
theorem sc_place_of : FnScope ["shape", "block"] ["shape", "block"] (defScope s_place_of) := ⟨rfl, rfl, rfl, by decide +kernel, rfl, by decide +kernel, by decide +kernel⟩
abbrev s_blocks_at : Stmt := top 21
theorem sc_blocks_at : FnScope ["shape", "place", "all_cells", "top", "left", "_", "size"] ["shape", "place"] (defScope s_blocks_at) := ⟨rfl, rfl, rfl, by decide +kernel, rfl, by decide +kernel, by decide +kernel⟩
abbrev s_is_cover : Stmt := top 22
theorem sc_is_cover : FnScope ["shape", "thing"] ["shape", "thing"] (defScope s_is_cover) := ⟨rfl, rfl, rfl, by decide +kernel, rfl, by decide +kernel, by decide +kernel⟩
abbrev s_many_covers : Stmt := top 23
theorem sc_many_covers : FnScope ["shape"] ["shape"] (defScope s_many_covers) := ⟨rfl, rfl, rfl, by decide +kernel, rfl, by decide +kernel, by decide +kernel⟩
abbrev s_check_shape : Stmt := top 24
theorem sc_check_shape : FnScope ["shape"] ["shape"] (defScope s_check_shape) := ⟨rfl, rfl, rfl, by decide +kernel, rfl, by decide +kernel, by decide +kernel⟩
abbrev s_check_block : Stmt := top 25
theorem sc_check_block : FnScope ["shape", "block"] ["shape", "block"] (defScope s_check_block) := ⟨rfl, rfl, rfl, by decide +kernel, rfl, by decide +kernel, by decide +kernel⟩
abbrev s_is_block_of : Stmt := top 26
theorem sc_is_block_of : FnScope ["shape", "thing", "top", "left", "size"] ["shape", "thing"] (defScope s_is_block_of) := ⟨rfl, rfl, rfl, by decide +kernel, rfl, by decide +kernel, by decide +kernel⟩
abbrev s_rows_of : Stmt := top 27
theorem sc_rows_of : FnScope ["shape", "block"] ["shape", "block"] (defScope s_rows_of) := ⟨rfl, rfl, rfl, by decide +kernel, rfl, by decide +kernel, by decide +kernel⟩
abbrev s_columns_of : Stmt := top 28
theorem sc_columns_of : FnScope ["shape", "block"] ["shape", "block"] (defScope s_columns_of) := ⟨rfl, rfl, rfl, by decide +kernel, rfl, by decide +kernel, by decide +kernel⟩
abbrev s_spots_of : Stmt := top 29
theorem sc_spots_of : FnScope ["shape", "block", "y", "x"] ["shape", "block"] (defScope s_spots_of) := ⟨rfl, rfl, rfl, by decide +kernel, rfl, by decide +kernel, by decide +kernel⟩
abbrev s_roots_of : Stmt := top 30
theorem sc_roots_of : FnScope ["shape", "top", "left"] ["shape"] (defScope s_roots_of) := ⟨rfl, rfl, rfl, by decide +kernel, rfl, by decide +kernel, by decide +kernel⟩
abbrev s_quarters_of : Stmt := top 31
theorem sc_quarters_of : FnScope ["shape", "block", "top", "left", "size", "half", "y", "x"] ["shape", "block"] (defScope s_quarters_of) := ⟨rfl, rfl, rfl, by decide +kernel, rfl, by decide +kernel, by decide +kernel⟩
abbrev s_cells_in : Stmt := top 32
theorem sc_cells_in : FnScope ["shape", "block", "quarter", "cell"] ["shape", "block"] (defScope s_cells_in) := ⟨rfl, rfl, rfl, by decide +kernel, rfl, by decide +kernel, by decide +kernel⟩
abbrev s_cells_of : Stmt := top 33
theorem sc_cells_of : FnScope ["shape", "root", "cell"] ["shape"] (defScope s_cells_of) := ⟨rfl, rfl, rfl, by decide +kernel, rfl, by decide +kernel, by decide +kernel⟩
abbrev s_many_cells : Stmt := top 34
theorem sc_many_cells : FnScope ["shape", "block"] ["shape", "block"] (defScope s_many_cells) := ⟨rfl, rfl, rfl, by decide +kernel, rfl, by decide +kernel, by decide +kernel⟩
abbrev s_place_and_end : Stmt := top 35
theorem sc_place_and_end : FnScope ["shape", "block", "place"] ["shape", "block"] (defScope s_place_and_end) := ⟨rfl, rfl, rfl, by decide +kernel, rfl, by decide +kernel, by decide +kernel⟩
abbrev s_sizes_at : Stmt := top 36
theorem sc_sizes_at : FnScope ["top", "left", "size"] ["top", "left"] (defScope s_sizes_at) := ⟨rfl, rfl, rfl, by decide +kernel, rfl, by decide +kernel, by decide +kernel⟩
abbrev s_are_cover : Stmt := top 37
theorem sc_are_cover : FnScope ["shape", "blocks", "all_cells", "reached", "block"] ["shape", "blocks"] (defScope s_are_cover) := ⟨rfl, rfl, rfl, by decide +kernel, rfl, by decide +kernel, by decide +kernel⟩
abbrev s_many_together : Stmt := top 38
theorem sc_many_together : FnScope ["shape", "blocks", "ways", "block", "parts"] ["shape", "blocks"] (defScope s_many_together) := ⟨rfl, rfl, rfl, by decide +kernel, rfl, by decide +kernel, by decide +kernel⟩
abbrev s__law_begun : Stmt := top 40
theorem sc__law_begun : FnScope ["script", "cells_here", "large", "cell"] ["script"] (defScope s__law_begun) := ⟨rfl, rfl, rfl, by decide +kernel, rfl, by decide +kernel, by decide +kernel⟩
abbrev s__law_draw : Stmt := top 41
theorem sc__law_draw : FnScope ["state", "size_here", "found", "turn", "cell", "mixed"] ["state", "size_here"] (defScope s__law_draw) := ⟨rfl, rfl, rfl, by decide +kernel, rfl, by decide +kernel, by decide +kernel⟩
abbrev s__law_pick : Stmt := top 42
theorem sc__law_pick : FnScope ["state", "several"] ["state", "several"] (defScope s__law_pick) := ⟨rfl, rfl, rfl, by decide +kernel, rfl, by decide +kernel, by decide +kernel⟩
abbrev s__law_mixed : Stmt := top 43
theorem sc__law_mixed : FnScope ["state", "several", "left", "found"] ["state", "several"] (defScope s__law_mixed) := ⟨rfl, rfl, rfl, by decide +kernel, rfl, by decide +kernel, by decide +kernel⟩
abbrev s__law_caught : Stmt := top 44
theorem sc__law_caught : FnScope ["work", "caught", "error"] ["work"] (defScope s__law_caught) := ⟨rfl, rfl, rfl, by decide +kernel, rfl, by decide +kernel, by decide +kernel⟩
abbrev s__law_scope : Stmt := top 45
theorem sc__law_scope : FnScope ["state", "some", "tall", "wide", "least", "most"] ["state"] (defScope s__law_scope) := ⟨rfl, rfl, rfl, by decide +kernel, rfl, by decide +kernel, by decide +kernel⟩
abbrev s__law_form : Stmt := top 46
theorem sc__law_form : FnScope ["scope"] ["scope"] (defScope s__law_form) := ⟨rfl, rfl, rfl, by decide +kernel, rfl, by decide +kernel, by decide +kernel⟩
abbrev s__law_roots : Stmt := top 47
theorem sc__law_roots : FnScope ["scope", "found", "top", "left"] ["scope"] (defScope s__law_roots) := ⟨rfl, rfl, rfl, by decide +kernel, rfl, by decide +kernel, by decide +kernel⟩
abbrev s__law_parts : Stmt := top 48
theorem sc__law_parts : FnScope ["scope", "square", "top", "left", "side", "half", "some", "part"] ["scope", "square"] (defScope s__law_parts) := ⟨rfl, rfl, rfl, by decide +kernel, rfl, by decide +kernel, by decide +kernel⟩
abbrev s__law_cells : Stmt := top 49
theorem sc__law_cells : FnScope ["scope", "square", "found", "part"] ["scope", "square"] (defScope s__law_cells) := ⟨rfl, rfl, rfl, by decide +kernel, rfl, by decide +kernel, by decide +kernel⟩
abbrev s__law_all_cells : Stmt := top 50
theorem sc__law_all_cells : FnScope ["scope", "found", "root"] ["scope"] (defScope s__law_all_cells) := ⟨rfl, rfl, rfl, by decide +kernel, rfl, by decide +kernel, by decide +kernel⟩
abbrev s__law_ends : Stmt := top 51
theorem sc__law_ends : FnScope ["scope", "square", "inner", "every"] ["scope", "square"] (defScope s__law_ends) := ⟨rfl, rfl, rfl, by decide +kernel, rfl, by decide +kernel, by decide +kernel⟩
abbrev s__law_dots : Stmt := top 52
theorem sc__law_dots : FnScope ["scope", "square", "top", "left", "side", "found", "y", "x"] ["scope", "square"] (defScope s__law_dots) := ⟨rfl, rfl, rfl, by decide +kernel, rfl, by decide +kernel, by decide +kernel⟩
abbrev s__law_squares : Stmt := top 53
theorem sc__law_squares : FnScope ["scope", "found", "left", "square"] ["scope"] (defScope s__law_squares) := ⟨rfl, rfl, rfl, by decide +kernel, rfl, by decide +kernel, by decide +kernel⟩
abbrev s__law_cover : Stmt := top 54
theorem sc__law_cover : FnScope ["state", "scope", "found", "left", "square"] ["state", "scope"] (defScope s__law_cover) := ⟨rfl, rfl, rfl, by decide +kernel, rfl, by decide +kernel, by decide +kernel⟩
abbrev s__law_wide_scope : Stmt := top 55
theorem sc__law_wide_scope : FnScope ["state", "scope"] ["state"] (defScope s__law_wide_scope) := ⟨rfl, rfl, rfl, by decide +kernel, rfl, by decide +kernel, by decide +kernel⟩
abbrev s__law_count : Stmt := top 56
theorem sc__law_count : FnScope ["scope", "square", "parts", "found", "part"] ["scope", "square"] (defScope s__law_count) := ⟨rfl, rfl, rfl, by decide +kernel, rfl, by decide +kernel, by decide +kernel⟩
abbrev s__law_covers : Stmt := top 57
theorem sc__law_covers : FnScope ["scope", "item", "every", "spot", "square", "one"] ["scope", "item"] (defScope s__law_covers) := ⟨rfl, rfl, rfl, by decide +kernel, rfl, by decide +kernel, by decide +kernel⟩
abbrev s__law_bent : Stmt := top 58
theorem sc__law_bent : FnScope ["state", "scope", "cover", "found", "fashion", "spot"] ["state", "scope", "cover"] (defScope s__law_bent) := ⟨rfl, rfl, rfl, by decide +kernel, rfl, by decide +kernel, by decide +kernel⟩
abbrev s__law_is_square : Stmt := top 59
theorem sc__law_is_square : FnScope ["scope", "item", "square"] ["scope", "item"] (defScope s__law_is_square) := ⟨rfl, rfl, rfl, by decide +kernel, rfl, by decide +kernel, by decide +kernel⟩
abbrev s__law_square_right : Stmt := top 60
theorem sc__law_square_right : FnScope ["scope", "form", "square", "ends", "every", "told", "top", "left", "dots", "dot", "y", "x"] ["scope", "form", "square"] (defScope s__law_square_right) := ⟨rfl, rfl, rfl, by decide +kernel, rfl, by decide +kernel, by decide +kernel⟩
abbrev s__law_refused : Stmt := top 61
theorem sc__law_refused : FnScope ["state", "form", "scope", "work", "caught", "wrong"] ["state", "form", "scope"] (defScope s__law_refused) := ⟨rfl, rfl, rfl, by decide +kernel, rfl, by decide +kernel, by decide +kernel⟩
abbrev s_law : Stmt := top 62
theorem sc_law : FnScope ["script", "state", "turn", "scope", "every", "square", "bent", "due", "spot", "root", "cover", "lap", "form", "item", "one"] ["script"] (defScope s_law) := ⟨rfl, rfl, rfl, by decide +kernel, rfl, by decide +kernel, by decide +kernel⟩
/-- what stands in a class -/
def inClass (st : Stmt) (i : Nat) : Stmt := match st with
  | .ClassDef _ _ _ body _ _ _ _ _ _ _ => body.getD i (.Pass ⟨0, 0, 0, 0⟩)
  | _ => .Pass ⟨0, 0, 0, 0⟩
abbrev s_Shape_init : Stmt := inClass (top 14) 0
theorem sc_Shape_init : FnScope ["self", "height", "width", "low", "high"] ["self", "height", "width", "low", "high"] (defScope s_Shape_init) := ⟨rfl, rfl, rfl, by decide +kernel, rfl, by decide +kernel, by decide +kernel⟩
/-- what the top has written -/
structure Top (K : PySem.W.Frag) (mg : Str → Option Value) where
  reel : ReelT K mg
  BadBlock : ExcT K mg "BadBlock" reel.C
  BadPlace : ExcT K mg "BadPlace" reel.C
  is_number : DefT K mg "is_number" s_is_number
  is_within : DefT K mg "is_within" s_is_within
  is_tuple_of : DefT K mg "is_tuple_of" s_is_tuple_of
  is_block : DefT K mg "is_block" s_is_block
  spots : DefT K mg "spots" s_spots
  roots : DefT K mg "roots" s_roots
  cells : DefT K mg "cells" s_cells
  quarters : DefT K mg "quarters" s_quarters
  place_of : DefT K mg "place_of" s_place_of
  blocks_at : DefT K mg "blocks_at" s_blocks_at
  is_cover : DefT K mg "is_cover" s_is_cover
  many_covers : DefT K mg "many_covers" s_many_covers
  check_shape : DefT K mg "check_shape" s_check_shape
  check_block : DefT K mg "check_block" s_check_block
  is_block_of : DefT K mg "is_block_of" s_is_block_of
  rows_of : DefT K mg "rows_of" s_rows_of
  columns_of : DefT K mg "columns_of" s_columns_of
  spots_of : DefT K mg "spots_of" s_spots_of
  roots_of : DefT K mg "roots_of" s_roots_of
  quarters_of : DefT K mg "quarters_of" s_quarters_of
  cells_in : DefT K mg "cells_in" s_cells_in
  cells_of : DefT K mg "cells_of" s_cells_of
  many_cells : DefT K mg "many_cells" s_many_cells
  place_and_end : DefT K mg "place_and_end" s_place_and_end
  sizes_at : DefT K mg "sizes_at" s_sizes_at
  are_cover : DefT K mg "are_cover" s_are_cover
  many_together : DefT K mg "many_together" s_many_together
  _law_begun : DefT K mg "_law_begun" s__law_begun
  _law_draw : DefT K mg "_law_draw" s__law_draw
  _law_pick : DefT K mg "_law_pick" s__law_pick
  _law_mixed : DefT K mg "_law_mixed" s__law_mixed
  _law_caught : DefT K mg "_law_caught" s__law_caught
  _law_scope : DefT K mg "_law_scope" s__law_scope
  _law_form : DefT K mg "_law_form" s__law_form
  _law_roots : DefT K mg "_law_roots" s__law_roots
  _law_parts : DefT K mg "_law_parts" s__law_parts
  _law_cells : DefT K mg "_law_cells" s__law_cells
  _law_all_cells : DefT K mg "_law_all_cells" s__law_all_cells
  _law_ends : DefT K mg "_law_ends" s__law_ends
  _law_dots : DefT K mg "_law_dots" s__law_dots
  _law_squares : DefT K mg "_law_squares" s__law_squares
  _law_cover : DefT K mg "_law_cover" s__law_cover
  _law_wide_scope : DefT K mg "_law_wide_scope" s__law_wide_scope
  _law_count : DefT K mg "_law_count" s__law_count
  _law_covers : DefT K mg "_law_covers" s__law_covers
  _law_bent : DefT K mg "_law_bent" s__law_bent
  _law_is_square : DefT K mg "_law_is_square" s__law_is_square
  _law_square_right : DefT K mg "_law_square_right" s__law_square_right
  _law_refused : DefT K mg "_law_refused" s__law_refused
  law : DefT K mg "law" s_law
  cLOWEST : CstT mg "LOWEST" (-512)
  cHIGHEST : CstT mg "HIGHEST" (511)
  cMOST_SPOTS : CstT mg "MOST_SPOTS" (16)
  b_isinstance : mg "isinstance" = none
  b_int : mg "int" = none
  b_bool : mg "bool" = none
  b_len : mg "len" = none
  b_abs : mg "abs" = none
  b_range : mg "range" = none
  b_min : mg "min" = none
  b_repr : mg "repr" = none
  b_list : mg "list" = none
  b_tuple : mg "tuple" = none
  b_sorted : mg "sorted" = none
  b_ValueError : mg "ValueError" = none
section
variable {K : PySem.W.Frag} {mg : Str → Option Value}
theorem bd_is_number (T : Top K mg) : Binds K T.is_number.d ["thing"] [] := T.is_number.f.binds fun _ _ _ _ _ _ us hl => match us, hl with | [_], _ => rfl
theorem bd_is_within (T : Top K mg) : Binds K T.is_within.d ["thing", "low", "high"] [] := T.is_within.f.binds fun _ _ _ _ _ _ us hl => match us, hl with | [_, _, _], _ => rfl
theorem bd_is_tuple_of (T : Top K mg) : Binds K T.is_tuple_of.d ["thing", "many"] [] := T.is_tuple_of.f.binds fun _ _ _ _ _ _ us hl => match us, hl with | [_, _], _ => rfl
theorem bd_is_block (T : Top K mg) : Binds K T.is_block.d ["shape", "thing"] [] := T.is_block.f.binds fun _ _ _ _ _ _ us hl => match us, hl with | [_, _], _ => rfl
theorem bd_spots (T : Top K mg) : Binds K T.spots.d ["shape", "block"] [] := T.spots.f.binds fun _ _ _ _ _ _ us hl => match us, hl with | [_, _], _ => rfl
theorem bd_roots (T : Top K mg) : Binds K T.roots.d ["shape"] [] := T.roots.f.binds fun _ _ _ _ _ _ us hl => match us, hl with | [_], _ => rfl
theorem bd_cells (T : Top K mg) : Binds K T.cells.d ["shape"] [] := T.cells.f.binds fun _ _ _ _ _ _ us hl => match us, hl with | [_], _ => rfl
theorem bd_quarters (T : Top K mg) : Binds K T.quarters.d ["shape", "block"] [] := T.quarters.f.binds fun _ _ _ _ _ _ us hl => match us, hl with | [_, _], _ => rfl
theorem bd_place_of (T : Top K mg) : Binds K T.place_of.d ["shape", "block"] [] := T.place_of.f.binds fun _ _ _ _ _ _ us hl => match us, hl with | [_, _], _ => rfl
theorem bd_blocks_at (T : Top K mg) : Binds K T.blocks_at.d ["shape", "place"] [] := T.blocks_at.f.binds fun _ _ _ _ _ _ us hl => match us, hl with | [_, _], _ => rfl
theorem bd_is_cover (T : Top K mg) : Binds K T.is_cover.d ["shape", "thing"] [] := T.is_cover.f.binds fun _ _ _ _ _ _ us hl => match us, hl with | [_, _], _ => rfl
theorem bd_many_covers (T : Top K mg) : Binds K T.many_covers.d ["shape"] [] := T.many_covers.f.binds fun _ _ _ _ _ _ us hl => match us, hl with | [_], _ => rfl
theorem bd_check_shape (T : Top K mg) : Binds K T.check_shape.d ["shape"] [] := T.check_shape.f.binds fun _ _ _ _ _ _ us hl => match us, hl with | [_], _ => rfl
theorem bd_check_block (T : Top K mg) : Binds K T.check_block.d ["shape", "block"] [] := T.check_block.f.binds fun _ _ _ _ _ _ us hl => match us, hl with | [_, _], _ => rfl
theorem bd_is_block_of (T : Top K mg) : Binds K T.is_block_of.d ["shape", "thing"] [] := T.is_block_of.f.binds fun _ _ _ _ _ _ us hl => match us, hl with | [_, _], _ => rfl
theorem bd_rows_of (T : Top K mg) : Binds K T.rows_of.d ["shape", "block"] [] := T.rows_of.f.binds fun _ _ _ _ _ _ us hl => match us, hl with | [_, _], _ => rfl
theorem bd_columns_of (T : Top K mg) : Binds K T.columns_of.d ["shape", "block"] [] := T.columns_of.f.binds fun _ _ _ _ _ _ us hl => match us, hl with | [_, _], _ => rfl
theorem bd_spots_of (T : Top K mg) : Binds K T.spots_of.d ["shape", "block"] [] := T.spots_of.f.binds fun _ _ _ _ _ _ us hl => match us, hl with | [_, _], _ => rfl
theorem bd_roots_of (T : Top K mg) : Binds K T.roots_of.d ["shape"] [] := T.roots_of.f.binds fun _ _ _ _ _ _ us hl => match us, hl with | [_], _ => rfl
theorem bd_quarters_of (T : Top K mg) : Binds K T.quarters_of.d ["shape", "block"] [] := T.quarters_of.f.binds fun _ _ _ _ _ _ us hl => match us, hl with | [_, _], _ => rfl
theorem bd_cells_in (T : Top K mg) : Binds K T.cells_in.d ["shape", "block"] [] := T.cells_in.f.binds fun _ _ _ _ _ _ us hl => match us, hl with | [_, _], _ => rfl
theorem bd_cells_of (T : Top K mg) : Binds K T.cells_of.d ["shape"] [] := T.cells_of.f.binds fun _ _ _ _ _ _ us hl => match us, hl with | [_], _ => rfl
theorem bd_many_cells (T : Top K mg) : Binds K T.many_cells.d ["shape", "block"] [] := T.many_cells.f.binds fun _ _ _ _ _ _ us hl => match us, hl with | [_, _], _ => rfl
theorem bd_place_and_end (T : Top K mg) : Binds K T.place_and_end.d ["shape", "block"] [] := T.place_and_end.f.binds fun _ _ _ _ _ _ us hl => match us, hl with | [_, _], _ => rfl
theorem bd_sizes_at (T : Top K mg) : Binds K T.sizes_at.d ["top", "left"] [] := T.sizes_at.f.binds fun _ _ _ _ _ _ us hl => match us, hl with | [_, _], _ => rfl
theorem bd_are_cover (T : Top K mg) : Binds K T.are_cover.d ["shape", "blocks"] [] := T.are_cover.f.binds fun _ _ _ _ _ _ us hl => match us, hl with | [_, _], _ => rfl
theorem bd_many_together (T : Top K mg) : Binds K T.many_together.d ["shape", "blocks"] [] := T.many_together.f.binds fun _ _ _ _ _ _ us hl => match us, hl with | [_, _], _ => rfl
theorem bd__law_begun (T : Top K mg) : Binds K T._law_begun.d ["script"] [] := T._law_begun.f.binds fun _ _ _ _ _ _ us hl => match us, hl with | [_], _ => rfl
theorem bd__law_draw (T : Top K mg) : Binds K T._law_draw.d ["state", "size_here"] [] := T._law_draw.f.binds fun _ _ _ _ _ _ us hl => match us, hl with | [_, _], _ => rfl
theorem bd__law_pick (T : Top K mg) : Binds K T._law_pick.d ["state", "several"] [] := T._law_pick.f.binds fun _ _ _ _ _ _ us hl => match us, hl with | [_, _], _ => rfl
theorem bd__law_mixed (T : Top K mg) : Binds K T._law_mixed.d ["state", "several"] [] := T._law_mixed.f.binds fun _ _ _ _ _ _ us hl => match us, hl with | [_, _], _ => rfl
theorem bd__law_caught (T : Top K mg) : Binds K T._law_caught.d ["work"] [] := T._law_caught.f.binds fun _ _ _ _ _ _ us hl => match us, hl with | [_], _ => rfl
theorem bd__law_scope (T : Top K mg) : Binds K T._law_scope.d ["state"] [] := T._law_scope.f.binds fun _ _ _ _ _ _ us hl => match us, hl with | [_], _ => rfl
theorem bd__law_form (T : Top K mg) : Binds K T._law_form.d ["scope"] [] := T._law_form.f.binds fun _ _ _ _ _ _ us hl => match us, hl with | [_], _ => rfl
theorem bd__law_roots (T : Top K mg) : Binds K T._law_roots.d ["scope"] [] := T._law_roots.f.binds fun _ _ _ _ _ _ us hl => match us, hl with | [_], _ => rfl
theorem bd__law_parts (T : Top K mg) : Binds K T._law_parts.d ["scope", "square"] [] := T._law_parts.f.binds fun _ _ _ _ _ _ us hl => match us, hl with | [_, _], _ => rfl
theorem bd__law_cells (T : Top K mg) : Binds K T._law_cells.d ["scope", "square"] [] := T._law_cells.f.binds fun _ _ _ _ _ _ us hl => match us, hl with | [_, _], _ => rfl
theorem bd__law_all_cells (T : Top K mg) : Binds K T._law_all_cells.d ["scope"] [] := T._law_all_cells.f.binds fun _ _ _ _ _ _ us hl => match us, hl with | [_], _ => rfl
theorem bd__law_ends (T : Top K mg) : Binds K T._law_ends.d ["scope", "square"] [] := T._law_ends.f.binds fun _ _ _ _ _ _ us hl => match us, hl with | [_, _], _ => rfl
theorem bd__law_dots (T : Top K mg) : Binds K T._law_dots.d ["scope", "square"] [] := T._law_dots.f.binds fun _ _ _ _ _ _ us hl => match us, hl with | [_, _], _ => rfl
theorem bd__law_squares (T : Top K mg) : Binds K T._law_squares.d ["scope"] [] := T._law_squares.f.binds fun _ _ _ _ _ _ us hl => match us, hl with | [_], _ => rfl
theorem bd__law_cover (T : Top K mg) : Binds K T._law_cover.d ["state", "scope"] [] := T._law_cover.f.binds fun _ _ _ _ _ _ us hl => match us, hl with | [_, _], _ => rfl
theorem bd__law_wide_scope (T : Top K mg) : Binds K T._law_wide_scope.d ["state"] [] := T._law_wide_scope.f.binds fun _ _ _ _ _ _ us hl => match us, hl with | [_], _ => rfl
theorem bd__law_count (T : Top K mg) : Binds K T._law_count.d ["scope", "square"] [] := T._law_count.f.binds fun _ _ _ _ _ _ us hl => match us, hl with | [_, _], _ => rfl
theorem bd__law_covers (T : Top K mg) : Binds K T._law_covers.d ["scope", "item"] [] := T._law_covers.f.binds fun _ _ _ _ _ _ us hl => match us, hl with | [_, _], _ => rfl
theorem bd__law_bent (T : Top K mg) : Binds K T._law_bent.d ["state", "scope", "cover"] [] := T._law_bent.f.binds fun _ _ _ _ _ _ us hl => match us, hl with | [_, _, _], _ => rfl
theorem bd__law_is_square (T : Top K mg) : Binds K T._law_is_square.d ["scope", "item"] [] := T._law_is_square.f.binds fun _ _ _ _ _ _ us hl => match us, hl with | [_, _], _ => rfl
theorem bd__law_square_right (T : Top K mg) : Binds K T._law_square_right.d ["scope", "form", "square"] [] := T._law_square_right.f.binds fun _ _ _ _ _ _ us hl => match us, hl with | [_, _, _], _ => rfl
theorem bd__law_refused (T : Top K mg) : Binds K T._law_refused.d ["state", "form", "scope"] [] := T._law_refused.f.binds fun _ _ _ _ _ _ us hl => match us, hl with | [_, _, _], _ => rfl
theorem bd_law (T : Top K mg) : Binds K T.law.d ["script"] [] := T.law.f.binds fun _ _ _ _ _ _ us hl => match us, hl with | [_], _ => rfl
end
end K04
namespace KA
open PySem
/-! ### numbers in bits: the mathematics -/
/-- n in k bits, as codes -/
def bitsL : Nat → Nat → List Nat
  | 0, _ => []
  | k + 1, n => bitsL k (n / 2) ++ [48 + n % 2]
theorem bitsL_len : ∀ k n, (bitsL k n).length = k
  | 0, _ => rfl
  | k + 1, n => by simp [bitsL, bitsL_len k]
def binL (n : Nat) : List Nat := (Nat.toDigits 2 n).map Char.toNat
theorem binL_lt {n : Nat} (h : n < 2) : binL n = [48 + n] := by
  unfold binL
  rw [Nat.toDigits_of_lt_base h]
  have : n = 0 ∨ n = 1 := by omega
  rcases this with rfl | rfl <;> rfl
theorem binL_ge {n : Nat} (h : 2 ≤ n) : binL n = binL (n / 2) ++ [48 + n % 2] := by
  unfold binL
  rw [Nat.toDigits_of_base_le (by decide) h, List.map_append]
  have : n % 2 = 0 ∨ n % 2 = 1 := by omega
  rcases this with e | e <;> rw [e] <;> rfl
/-- the digits behind the first one -/
def tailL (n : Nat) : List Nat := (binL n).drop 1
theorem binL_ne (n : Nat) : binL n ≠ [] := by
  unfold binL
  intro h
  exact Nat.toDigits_ne_nil (List.map_eq_nil_iff.mp h)
theorem tailL_lt {n : Nat} (h : n < 2) : tailL n = [] := by
  unfold tailL
  rw [binL_lt h]
  rfl
theorem tailL_ge {n : Nat} (h : 2 ≤ n) : tailL n = tailL (n / 2) ++ [48 + n % 2] := by
  unfold tailL
  rw [binL_ge h, List.drop_append_of_le_length]
  have := List.length_pos_iff.mpr (binL_ne (n / 2))
  omega
theorem binL_head : ∀ (n : Nat), 1 ≤ n → binL n = 49 :: tailL n := by
  intro n
  induction n using Nat.strongRecOn with
  | _ n ih =>
    intro h
    by_cases h2 : n < 2
    · have : n = 1 := by omega
      subst this
      rfl
    · rw [tailL_ge (by omega), binL_ge (by omega), ih (n / 2) (by omega) (by omega)]
      rfl
theorem binL_le : ∀ (k n : Nat), 0 < k → n < 2 ^ k → (binL n).length ≤ k
  | 0, _, h, _ => by omega
  | k + 1, n, _, h => by
    by_cases h2 : n < 2
    · rw [binL_lt h2]
      simp
    · rw [binL_ge (by omega), List.length_append]
      have hk : 0 < k := by
        rcases Nat.eq_zero_or_pos k with e | e
        · subst e
          simp at h
          omega
        · exact e
      have := binL_le k (n / 2) hk (by rw [Nat.pow_succ] at h; omega)
      simp
      omega
theorem bitsL_bin : ∀ (k n : Nat), 0 < k → n < 2 ^ k → List.replicate (k - (binL n).length) 48 ++ binL n = bitsL k n
  | 0, _, h, _ => by omega
  | k + 1, n, _, h => by
    rw [bitsL]
    by_cases h2 : n < 2
    · rw [binL_lt h2]
      have e : n / 2 = 0 := by omega
      have e2 : n % 2 = n := by omega
      rw [e, e2]
      have z : ∀ j, bitsL j 0 = List.replicate j 48 := fun j => by
        induction j with
        | zero => rfl
        | succ j ih => rw [bitsL, Nat.zero_div, ih, List.replicate_succ']
      rw [z]
      simp
    · have hk : 0 < k := by
        rcases Nat.eq_zero_or_pos k with e | e
        · subst e
          simp at h
          omega
        · exact e
      have hd : n / 2 < 2 ^ k := by
        rw [Nat.pow_succ] at h
        omega
      rw [← bitsL_bin k (n / 2) hk hd, binL_ge (by omega), List.length_append]
      have e : k + 1 - ((binL (n / 2)).length + [48 + n % 2].length) = k - (binL (n / 2)).length := by simp
      rw [e, List.append_assoc]
theorem binText_eq (n : Nat) : binText n = ⟨(binL n).toArray⟩ := rfl
theorem binText_len (n : Nat) : (binText n).length = (binL n).length := by simp [binText, binL, Str.length]
/-- n in m bits, as a text -/
def twosT (m n : Nat) : Str := ⟨(bitsL m n).toArray⟩
theorem zfill_bin {m n : Nat} (hm : 0 < m) (h : n < 2 ^ m) : Txt.zfill (binText n) (m : Int) = twosT m n := by
  have hl := binL_le m n hm h
  have hb := bitsL_bin m n hm h
  unfold Txt.zfill
  rw [binText_len]
  by_cases e : (m : Int) ≤ ((binL n).length : Nat)
  · rw [if_pos e]
    have : m - (binL n).length = 0 := by omega
    rw [this] at hb
    simp only [List.replicate_zero, List.nil_append] at hb
    rw [binText_eq, hb]
    rfl
  · rw [if_neg e]
    have h0 : (binText n).cps[0]? = some 48 ∨ (binText n).cps[0]? = some 49 := by
      rw [binText_eq]
      rcases Nat.eq_zero_or_pos n with z | z
      · subst z
        exact .inl rfl
      · rw [binL_head n z]
        exact .inr rfl
    have e2 : zfilled (binText n) ((m : Int).toNat - (binL n).length) = Builtin.Str.padded (binText n) ((m : Int).toNat - (binL n).length) 0 48 := by
      unfold zfilled
      rcases h0 with z | z
      · rw [z]
        rfl
      · rw [z]
        rfl
    rw [e2]
    unfold Builtin.Str.padded twosT
    rw [← hb, binText_eq]
    congr 1
    apply Array.toList_inj.mp
    simp
/-- n ones -/
def onesT (n : Nat) : Str := ⟨(List.replicate n 49).toArray⟩
theorem onesT_len (n : Nat) : (onesT n).length = n := by simp [onesT, Str.length]
theorem fold_ones (n : Nat) : ∀ acc : Array Nat, (List.replicate n (#[49] : Array Nat)).foldl (· ++ ·) acc = acc ++ (List.replicate n 49).toArray := by
  induction n with
  | zero => intro acc; simp
  | succ n ih =>
    intro acc
    rw [List.replicate_succ, List.foldl_cons, ih, List.replicate_succ]
    apply Array.toList_inj.mp
    simp
theorem mul_ones (n : Nat) : Txt.mul "1" (n : Int) = onesT n := by
  unfold Txt.mul
  by_cases h : (n : Int) < 1
  · rw [if_pos h]
    have : n = 0 := by omega
    subst this
    rfl
  · rw [if_neg h]
    by_cases h1 : n = 1
    · subst h1
      rfl
    · rw [if_neg (by
        have e : ((n : Int) == 1) = false := by
          rw [beq_eq_false_iff_ne]
          omega
        rw [e]
        decide)]
      show (⟨(List.replicate (n : Int).toNat (#[49] : Array Nat)).foldl (· ++ ·) #[]⟩ : Str) = _
      rw [Int.toNat_natCast, fold_ones]
      unfold onesT
      congr 1
      apply Array.toList_inj.mp
      simp
end KA
namespace K04
open PySem PySem.Spec PyProof.Rows L2 PySem.W LamX KA
/-! ### the promises -/
/-- a value whose type isinstance can tell; whether it is a number -/
inductive Pl (K : PySem.W.Frag) (H : Hp) : V → Bool → Prop where
  | int (i : Int) : Pl K H (.int i) true
  | bl (b : Bool) : Pl K H (.bl b) false
  | str (s : Str) : Pl K H (.str s) false
  | non : Pl K H .non false
  | tup {a : Addr} {xs : List V} (e : H a = some (.tup xs)) : Pl K H (.ref a) false
  | lst {a : Addr} {xs : List V} (e : H a = some (.lst xs)) : Pl K H (.ref a) false
  | dK {a : Addr} {kvs : List (Key × V)} (e : H a = some (.dK kvs)) : Pl K H (.ref a) false
theorem Pl.ty {K : PySem.W.Frag} {H : Hp} {x : V} {b : Bool} (h : Pl K H x b) : ∃ t : String, TyX K H x (.type t) ∧ kitB t "int" = some (b || (t == "bool")) ∧ kitB t "bool" = some (t == "bool") ∧ ((b || (t == "bool")) && !(t == "bool")) = b := by
  cases h with
  | int i => exact ⟨"int", .base (.int i), by decide +kernel, by decide +kernel, by decide⟩
  | bl i => exact ⟨"bool", .base (.bl i), by decide +kernel, by decide +kernel, by decide⟩
  | str i => exact ⟨"str", .base (.str i), by decide +kernel, by decide +kernel, by decide⟩
  | non => exact ⟨"NoneType", .base .non, by decide +kernel, by decide +kernel, by decide⟩
  | tup e => exact ⟨"tuple", .base (.tup e), by decide +kernel, by decide +kernel, by decide⟩
  | lst e => exact ⟨"list", .base (.lst e), by decide +kernel, by decide +kernel, by decide⟩
  | dK e => exact ⟨"dict", .base (.dK e), by decide +kernel, by decide +kernel, by decide⟩
def within (x : V) (lo hi : Int) : Bool := match x with
  | .int i => decide (lo ≤ i) && decide (i ≤ hi)
  | _ => false
def spNumber (K : PySem.W.Frag) : Sp := fun vs H Q _ => ∃ x b, vs = [x] ∧ Pl K H x b ∧ Q (.bl b) H
def spWithin (K : PySem.W.Frag) : Sp := fun vs H Q _ => ∃ x b lo hi, vs = [x, .int lo, .int hi] ∧ Pl K H x b ∧ Q (.bl (within x lo hi)) H
section
variable {P : Program} {w : World} {K : PySem.W.Frag} {mg : Str → Option Value} {base : Heap} (T : Top K mg)
abbrev pInt {X : Cx} {pos : Pos} (hg : Gl X "int") (hm : X.mg "int" = none) : PE X (.Name "int" pos) (tC (.ty "int")) := pe_bltn hg hm PyProof.Rows.boot_int rfl
theorem q_bl {Q : VK} {H : Hp} {a b : Bool} (k : Q (.bl b) H) (e : a = b) : Q (.bl a) H := e ▸ k
theorem q_int {Q : VK} {H : Hp} {a b : Int} (k : Q (.int b) H) (e : a = b) : Q (.int a) H := e ▸ k
theorem q_str {Q : VK} {H : Hp} {a b : Str} (k : Q (.str b) H) (e : a = b) : Q (.str a) H := e ▸ k
theorem ok_is_number : FnOk P w K mg base (L2.CX P w) 1 T.is_number.a T.is_number.d ["thing"] (spNumber K) := by
  refine T.is_number.f.okX sc_is_number (fun vs H Q E h => ?_) (fun cdv A outer s H vs Q E hr h => ?_)
  · obtain ⟨x, b, rfl, _⟩ := h
    rfl
  · obtain ⟨x, b, rfl, hp, k⟩ := h
    refine ⟨_, pss_one (ps_ret (pe_and
      (pe_callB call_isi (by rfl) T.b_isinstance PyProof.Rows.boot_isinstance (pa_cons (pv 0) (pa_cons (pe_bltn (v := .ty "int") (by rfl) T.b_int PyProof.Rows.boot_int rfl) pa_nil)))
      (pe_one (pe_not (pe_callB call_isi (by rfl) T.b_isinstance PyProof.Rows.boot_isinstance (pa_cons (pv 0) (pa_cons (pe_bltn (v := .ty "bool") (by rfl) T.b_bool (by decide +kernel) rfl) pa_nil))))))), ?_⟩
    obtain ⟨t, ht, h1, h2, h3⟩ := hp.ty
    refine ⟨_, rfl, x, _, _, _, _, rfl, .ty "int", ht, kit_ty h1, _, rfl, ?_⟩
    cases e : (b || (t == "bool"))
    · rw [e] at h3
      refine iteF ?_
      exact q_bl k h3
    · rw [e] at h3
      refine iteT ?_
      refine ⟨_, rfl, x, _, _, _, _, rfl, .ty "bool", ht, kit_ty h2, _, rfl, ?_⟩
      exact q_bl k (by simpa using h3)
theorem ok_is_within : FnOk P w K mg base (L2.CX P w) 2 T.is_within.a T.is_within.d ["thing", "low", "high"] (spWithin K) := by
  refine T.is_within.f.okX sc_is_within (fun vs H Q E h => ?_) (fun cdv A outer s H vs Q E hr h => ?_)
  · obtain ⟨x, b, lo, hi, rfl, _⟩ := h
    rfl
  · obtain ⟨x, b, lo, hi, rfl, hp, k⟩ := h
    refine ⟨_, pss_one (ps_ret (pe_and (pe_call (ok_is_number T) hr (by rfl) T.is_number.m T.is_number.f.kp (bd_is_number T) .nil passE (pa_cons (pv 0) pa_nil))
      (pe_one (pe_chain op_le op_le (pv 1) (pv 0) (pv 2))))), ?_⟩
    refine ⟨_, rfl, x, b, rfl, hp, b, rfl, ?_⟩
    cases hp with
    | int i =>
      refine iteT ⟨_, rfl, _, rfl, lo, i, rfl, rfl, _, rfl, ?_⟩
      by_cases h1 : lo ≤ i
      · rw [decide_eq_true h1]
        refine iteT ⟨_, rfl, i, hi, rfl, rfl, ?_⟩
        exact q_bl k (by simp [within, h1])
      · rw [decide_eq_false h1]
        refine iteF ?_
        exact q_bl k (by simp [within, h1])
    | _ => exact iteF k
def foldI (i : Int) : Int := if i > 0 then 2 * i - 1 else -2 * i
def spFold : Sp := fun vs H Q _ => ∃ i : Int, vs = [.int i] ∧ Q (.int (foldI i)) H
def unfoldI (n : Int) : Int := if Builtin.bitAnd n 1 != 0 then (n + 1) / 2 else -(n / 2)
def spUnfold : Sp := fun vs H Q _ => ∃ i : Int, vs = [.int i] ∧ Q (.int (unfoldI i)) H
/-- n in m bits, as the program writes it -/
theorem padOk {m : Int} (h0 : 0 ≤ m) (h1 : m ≤ 100) : PadOk m = true := by
  unfold PadOk fitsSsize Builtin.Str.tooLong
  have e : sizeLine = 16777216 := rfl
  rw [e]
  simp
  omega
def inBits (n m : Int) : Str := if m = 0 then "" else Txt.zfill (binText n.natAbs) m
def spInBits : Sp := fun vs H Q _ => ∃ n m : Int, vs = [.int n, .int m] ∧ 0 ≤ n ∧ (binText n.natAbs).length ≤ 100 ∧ 0 ≤ m ∧ m ≤ 100 ∧ Q (.str (inBits n m)) H
def spIsTold (K : PySem.W.Frag) : Sp := fun vs H Q _ => ∃ x b, vs = [x] ∧ Pl K H x b ∧ Q (.bl (within x (-32767) 32767)) H
/-- a check: nothing, or an error of the class at C -/
def spCheck (K : PySem.W.Frag) (lo hi : Int) (C : Addr) : Sp := fun vs H Q E => ∃ x b, vs = [x] ∧ Pl K H x b ∧ (within x lo hi = true → Q .non H) ∧ (within x lo hi = false → E (.ref C) none H)
theorem iteNot {A B : Prop} {b : Bool} (h1 : b = false → A) (h2 : b = true → B) : if (!b) = true then A else B := by
  cases b
  · exact h1 rfl
  · exact h2 rfl
theorem passX {X : Cx} {E : XK} (hs : X.stack = X.env :: X.outer) (hf : X.env.frame = some X.env.locals) (hex : X.ex = []) (hx : X.xe = fun e s' => wpAny (model X.prog X.w) X.A (leaving X.env e) (fun _ s'' => L2.CX X.prog X.w X.outer X.H_0 X.s_0 E e s'') (fun e' s'' => L2.CX X.prog X.w X.outer X.H_0 X.s_0 E e' s'') s') :
    Passes (L2.CX X.prog X.w) X E := passes_call (takes_of hs hf hex hx) fun _ _ _ _ h => h
theorem within_int {x : V} {lo hi : Int} (h : within x lo hi = true) : ∃ i, x = .int i ∧ lo ≤ i ∧ i ≤ hi := by
  cases x with
  | int i =>
    simp only [within, Bool.and_eq_true, decide_eq_true_eq] at h
    exact ⟨i, rfl, h⟩
  | _ => cases h
def spFolded (K : PySem.W.Frag) (C : Addr) : Sp := fun vs H Q E => ∃ x b, vs = [x] ∧ Pl K H x b ∧ (∀ i, x = .int i → -32767 ≤ i → i ≤ 32767 → Q (.int (foldI i)) H) ∧ (within x (-32767) 32767 = false → E (.ref C) none H)
def spUnfolded (K : PySem.W.Frag) (C : Addr) : Sp := fun vs H Q E => ∃ x b, vs = [x] ∧ Pl K H x b ∧ (∀ i, x = .int i → 0 ≤ i → i ≤ 65534 → Q (.int (unfoldI i)) H) ∧ (within x 0 65534 = false → E (.ref C) none H)
end
end K04
namespace K04
open PySem PySem.Spec PyProof.Rows L2 PySem.W LamX KA
section
variable {P : Program} {w : World} {K : PySem.W.Frag} {mg : Str → Option Value} {base : Heap} (T : Top K mg)
def isStr (x : V) : Bool := match x with
  | .str _ => true
  | _ => false
theorem Pl.str? {K : PySem.W.Frag} {H : Hp} {x : V} {b : Bool} (h : Pl K H x b) : ∃ t : String, TyX K H x (.type t) ∧ kitB t "str" = some (isStr x) := by
  cases h with
  | int i => exact ⟨"int", .base (.int i), (by decide +kernel : kitB "int" "str" = some false)⟩
  | bl i => exact ⟨"bool", .base (.bl i), (by decide +kernel : kitB "bool" "str" = some false)⟩
  | str i => exact ⟨"str", .base (.str i), (by decide +kernel : kitB "str" "str" = some true)⟩
  | non => exact ⟨"NoneType", .base .non, by decide +kernel⟩
  | tup e => exact ⟨"tuple", .base (.tup e), (by decide +kernel : kitB "tuple" "str" = some false)⟩
  | lst e => exact ⟨"list", .base (.lst e), (by decide +kernel : kitB "list" "str" = some false)⟩
  | dK e => exact ⟨"dict", .base (.dK e), (by decide +kernel : kitB "dict" "str" = some false)⟩
def isBits (x : V) : Bool := match x with
  | .str s => decide (V.str (Txt.stripChars s "01") = V.str "")
  | _ => false
def spIsBits (K : PySem.W.Frag) : Sp := fun vs H Q _ => ∃ x b, vs = [x] ∧ Pl K H x b ∧ (∀ s, x = .str s → s.length ≤ 1000) ∧ Q (.bl (isBits x)) H
def spFixed (K : PySem.W.Frag) (CM CN : Addr) : Sp := fun vs H Q E => ∃ x bx y «by», vs = [x, y] ∧ Pl K H x bx ∧ Pl K H y «by» ∧ (within y 1 16 = false → E (.ref CM) none H) ∧
  ∀ m : Nat, y = .int m → 1 ≤ m → m ≤ 16 → (within x 0 (2 ^ m - 1) = false → E (.ref CN) none H) ∧ ∀ n : Nat, x = .int n → n < 2 ^ m → Q (.str (twosT m n)) H
theorem pow16 {m : Nat} (h : m ≤ 16) : 2 ^ m ≤ 65536 := by
  have := Nat.pow_le_pow_right (n := 2) (by decide) h
  exact this
theorem binText_small {n : Nat} (h : n < 65536) : (binText n).length ≤ 100 := by
  rw [binText_len]
  have := binL_le 16 n (by decide) h
  omega
theorem inBits_eq {m n : Nat} (hm : 0 < m) (h : n < 2 ^ m) : inBits (n : Int) (m : Int) = twosT m n := by
  unfold inBits
  rw [if_neg (by omega), Int.natAbs_natCast]
  exact zfill_bin hm h
theorem cut_one {z : Str} (h : 1 ≤ z.length) : cutS z (some 1) none = ⟨(z.cps.toList.drop 1).toArray⟩ := by
  have e1 : HT.sIx z.length 0 (some 1) = 1 := (HT.sIx_nat z.length 0 1).trans (by omega)
  unfold cutS
  rw [e1, HT.sIx_none, List.take_of_length_le]
  simp [Str.length]
theorem len_app (x y : Str) : (x ++ y).length = x.length + y.length := Array.size_append
def longT (f : Nat) : Str := onesT (tailL (f + 1)).length ++ "0" ++ ⟨(tailL (f + 1)).toArray⟩
theorem foldI_nat {i : Int} (h1 : -32767 ≤ i) (h2 : i ≤ 32767) : ∃ f : Nat, foldI i = f ∧ f < 65535 := by
  refine ⟨(foldI i).toNat, ?_, ?_⟩ <;> (unfold foldI; split <;> omega)
def spLong (K : PySem.W.Frag) (C : Addr) : Sp := fun vs H Q E => ∃ x b, vs = [x] ∧ Pl K H x b ∧ (∀ i (f : Nat), x = .int i → foldI i = f → f < 65535 → Q (.str (longT f)) H) ∧ (within x (-32767) 32767 = false → E (.ref C) none H)
def gradeT (f g : Nat) : Str := if 12 ≤ f / 2 ^ g then onesT 12 ++ twosT 16 f else onesT (f / 2 ^ g) ++ "0" ++ twosT g (f % 2 ^ g)
theorem twosT_len (m n : Nat) : (twosT m n).length = m := by
  show ((bitsL m n).toArray).size = m
  simp [bitsL_len]
def spGrade (K : PySem.W.Frag) (CN CG : Addr) : Sp := fun vs H Q E => ∃ x b y yb, vs = [x, y] ∧ Pl K H x b ∧ Pl K H y yb ∧ (within x (-32767) 32767 = false → E (.ref CN) none H) ∧
  ∀ i (f : Nat), x = .int i → foldI i = f → f < 65535 → (within y 0 7 = false → E (.ref CG) none H) ∧ ∀ g : Nat, y = .int g → g ≤ 7 → Q (.str (gradeT f g)) H
end
end K04
namespace K04
open PySem PySem.Spec PyProof.Rows L2 PySem.W LamX KA
section
variable {P : Program} {w : World} {K : PySem.W.Frag} {mg : Str → Option Value} {base : Heap} (T : Top K mg)
def spTwo : Sp := fun vs H Q _ => ∃ n : Nat, vs = [.int n] ∧ n ≤ 1000 ∧ Q (.int ((2 ^ n : Nat) : Int)) H
theorem bitsL_front : ∀ (k n : Nat), bitsL (k + 1) n = (48 + (n / 2 ^ k) % 2) :: bitsL k n
  | 0, n => by simp [bitsL]
  | k + 1, n => by
    rw [bitsL, bitsL_front k (n / 2), Nat.div_div_eq_div_mul, ← Nat.pow_succ']
    simp [bitsL]
theorem bit_str (n : Nat) : (Str.ofString (toString ((n : Int) % 2)) : Str) = ⟨#[48 + n % 2]⟩ := by
  have h : (n : Int) % 2 = 0 ∧ n % 2 = 0 ∨ (n : Int) % 2 = 1 ∧ n % 2 = 1 := by omega
  rcases h with ⟨e1, e2⟩ | ⟨e1, e2⟩
  · rw [e1, e2]
    rfl
  · rw [e1, e2]
    rfl
theorem bit_log (n : Nat) : ((n : Int) % 2).natAbs.log2 < 1920 := by
  have h : (n : Int) % 2 = 0 ∨ (n : Int) % 2 = 1 := by omega
  rcases h with e | e <;> rw [e] <;> decide
theorem cons_str (d : Nat) (l : List Nat) : ((⟨#[d]⟩ : Str) ++ ⟨l.toArray⟩) = ⟨(d :: l).toArray⟩ := by
  show (⟨#[d] ++ l.toArray⟩ : Str) = _
  congr 1
  apply Array.toList_inj.mp
  simp
def spTwos : Sp := fun vs H Q _ => ∃ n m : Nat, vs = [.int n, .int m] ∧ m ≤ 100 ∧ Q (.str (twosT m n)) H
def spLLong : Sp := fun vs H Q _ => ∃ (i : Int) (f : Nat), vs = [.int i] ∧ foldI i = f ∧ f < 65535 ∧ Q (.str (longT f)) H
theorem tail_small {f : Nat} (h : f < 65536) : (tailL f).length ≤ 16 := by
  rcases Nat.eq_zero_or_pos f with z | z
  · subst z
    decide
  · have := binL_le 16 f (by decide) h
    rw [binL_head f z] at this
    simp at this
    omega
def spLGraded : Sp := fun vs H Q _ => ∃ (i : Int) (f g : Nat), vs = [.int i, .int g] ∧ foldI i = f ∧ f < 65535 ∧ g ≤ 7 ∧ Q (.str (gradeT f g)) H
end
end K04
namespace K04
open PySem PySem.Spec PyProof.Rows L2 PySem.W LamX KA
open Evl (pss_cut tCut)
def spDraw : Sp := fun vs H Q _ => ∃ (st lg cl : Addr) (n m : Nat), vs = [.ref st, .int n] ∧ 0 < n ∧ n < 2 ^ 100 ∧ m ≤ 1000000 ∧ StAt H st lg cl m ∧
  ∀ (r : Nat) (H' : Hp), r < n → StAt H' st lg cl (m + 1) → Kp st lg H H' → Q (.int r) H'
section
variable {P : Program} {w : World} {K : PySem.W.Frag} {mg : Str → Option Value} {base : Heap} (T : Top K mg)
theorem draw_div {n : Nat} (h0 : 0 < n) (h : n < 2 ^ 100) {i : Int} : CDivW i (n : Int) := wide_div (b := 100) (by omega) (by simpa using h) (by decide) (by decide)
theorem ok_draw : FnOk P w K mg base (L2.CX P w) 1 T._law_draw.a T._law_draw.d ["state", "size_here"] spDraw := by
  refine T._law_draw.f.okX sc__law_draw (fun vs H Q E h => ?_) (fun cdv A outer s H vs Q E hr h => ?_)
  · obtain ⟨st, lg, cl, n, m, rfl, _⟩ := h
    rfl
  · obtain ⟨st, lg, cl, n, m, rfl, hn, hn2, hm, ⟨large, cells, left, turn, S, ht⟩, k⟩ := h
    have hu := hu_of hr
    refine ⟨_, pss_cut (ps_while (passes_of rfl) (PW.pt (pw_and (pt_cmpR op_eq (pe_dget hu (pv 0) pe_str (fun _ _ => rfl)) pe_int (nomark _)) (pw_and1 (pt_cmpR (op_neD hr.units) (pe_dget hu (pv 0) pe_str (fun _ _ => rfl)) (pe_lst pa_nil) (nomark _)))))
        (pss_one (ps_dput hu (pv 0) pe_str (pe_bm PySem.F.plainAttrs_list PySem.F.slot_list_pop PySem.F.type_list_pop mt_popAt (pe_dget hu (pv 0) pe_str (fun _ _ => rfl)) (pa_cons pe_int pa_nil)) rfl)))
      (pss_cons (ps_if (pt_cmpR op_gt (pe_dget hu (pv 0) pe_str (fun _ _ => rfl)) pe_int (nomark _))
        (pss_cons (ps_set (i := 2) sc__law_draw.nd rfl (.inl rfl) (pe_op op_mod (pe_callTy call_int1 (by rfl) T.b_int PyProof.Rows.boot_int (pa_cons (pe_dget hu (pv 0) pe_str (fun _ _ => rfl)) pa_nil)) (pv 1)))
        (pss_cons (ps_dput hu (pv 0) pe_str (pe_op op_fdivW (pe_dget hu (pv 0) pe_str (fun _ _ => rfl)) (pv 1)) rfl)
        (pss_one (ps_ret (pv 2))))) pss_nil)
      (pss_cons (ps_set (i := 3) sc__law_draw.nd rfl (.inl rfl) (pe_op op_add (pe_dget hu (pv 0) pe_str (fun _ _ => rfl)) pe_int))
      (pss_cons (ps_dput hu (pv 0) pe_str (pv 3) rfl)
      (pss_cut (ps_set (i := 4) sc__law_draw.nd rfl (.inl rfl) (pe_ifExp (pt_cmpR (op_neD hr.units) (pe_dget hu (pv 0) pe_str (fun _ _ => rfl)) (pe_lst pa_nil) (nomark _))
        (pe_ix ix_list (pe_dget hu (pv 0) pe_str (fun _ _ => rfl)) (pe_op op_mod (pe_callTy call_int1 (by rfl) T.b_int PyProof.Rows.boot_int (pa_cons (pv 3) pa_nil)) (pe_callB call_len_seq (by rfl) T.b_len PySem.boot_len (pa_cons (pe_dget hu (pv 0) pe_str (fun _ _ => rfl)) pa_nil))) (fun _ _ => rfl))
        pe_int))
      (pss_cons (ps_set (i := 5) sc__law_draw.nd rfl (.inl rfl) (pe_op op_mod (pe_callTy call_int1 (by rfl) T.b_int PyProof.Rows.boot_int (pa_cons (pe_op op_pow (pe_op op_add (pe_op op_add (pe_op op_mod (pe_callTy call_int1 (by rfl) T.b_int PyProof.Rows.boot_int (pa_cons (pv 4) pa_nil)) pe_int) (pe_op op_mul pe_int (pv 3))) pe_int) pe_int) pa_nil)) pe_int))
      (pss_one (ps_ret (pe_op op_mod (pe_callTy call_int1 (by rfl) T.b_int PyProof.Rows.boot_int (pa_cons (pe_op op_fdiv (pe_op op_mod (pe_callTy call_int1 (by rfl) T.b_int PyProof.Rows.boot_int (pa_cons (pe_op op_pow (pe_op op_add (pv 5) (pe_op op_mul pe_int (pv 3))) pe_int) pa_nil)) pe_int) pe_int) pa_nil)) (pv 1))))))))), ?_⟩
    -- the while
    refine ⟨fun σ' H' => σ' = [some (.ref st), some (.int n), none, none, none, none] ∧ ∃ large' left', StD H' st lg cl large' cells left' turn ∧ Kp st lg H H', ?_, ?_⟩
    · refine ⟨fun μ σ' H' => σ' = [some (.ref st), some (.int n), none, none, none, none] ∧ ∃ large' left', large'.length = μ ∧ StD H' st lg cl large' cells left' turn ∧ Kp st lg H H',
        ⟨large.length, rfl, large, left, rfl, S, Kp.refl⟩, ?_⟩
      rintro μ σ' H1 ⟨rfl, large', left', hμ, S1, kp1⟩
      refine ⟨_, rfl, st, _, rfl, (show DGet H1 st (kV kLeft) _ from st_left ▸ DGet.k S1.d), rfl, _, rfl, ?_⟩
      by_cases c1 : left' = 0
      · subst c1
        refine iteT ⟨_, rfl, st, _, rfl, (show DGet H1 st (kV kLarge) _ from st_large ▸ DGet.k S1.d), by decide, fun p hp => ?_⟩
        have S2 := S1.same (Same.new (o := .lst []) hp)
        have kp2 := kp1.trans (Kp.same (Same.new (o := .lst []) hp))
        refine ⟨_, _, dp_int_list S2.l, dp_nil upd_same, shaped_is _, shaped_nil, _, rfl, ?_⟩
        rw [eqv_ints_nil]
        cases large' with
        | nil => exact iteF ⟨rfl, [], 0, S2, kp2⟩
        | cons x rest =>
          refine iteT ⟨fun σ' H' => σ' = [some (.ref st), some (.int n), none, none, none, none] ∧ ∃ large' left', large'.length = rest.length ∧ StD H' st lg cl large' cells left' turn ∧ Kp st lg H H',
            fun σ' H' ⟨e, l', lf, e2, r⟩ => ⟨rest.length, by rw [← hμ]; exact Nat.lt_succ_self _, e, l', lf, e2, r⟩, ?_⟩
          refine ⟨_, rfl, st, .ref lg, rfl, (show DGet _ st (kV kLarge) _ from st_large ▸ DGet.k S2.d), .inl ⟨rfl, _, SqL.of S2.l⟩, lg, _, 0, 0, .int x, rfl, rfl, S2.l, by decide, by decide, by simp [seqIndex?], rfl, ?_⟩
          have S3 : StD (upd (upd H1 p (.lst [])) lg (.lst (rest.map V.int))) st lg cl rest cells 0 turn :=
            { d := (upd_ne S2.st_lg).trans S2.d, l := upd_same, c := (upd_ne S2.ne.symm).trans S2.c, ne := S2.ne, pl := fun y hy => S2.pl y (List.mem_cons_of_mem _ hy), p0 := S2.p0 }
          have hx : 0 ≤ x := S2.pl x List.mem_cons_self
          refine ⟨_, rfl, st, _, rfl, (show DPut _ st (kV kLeft) _ _ from DPut.k S3.d (by show 4 < sizeLine; decide)), ?_⟩
          rw [st_put_left]
          exact ⟨rfl, rest, x, rfl, S3.put hx, (kp2.trans Kp.put2).trans Kp.put⟩
      · rw [show decide (V.int left' = V.int 0) = false from decide_eq_false fun z => c1 (V.int.inj z)]
        exact iteF ⟨rfl, large', left', S1, kp1⟩
    · rintro σ' H1 ⟨rfl, large', left', S1, kp1⟩
      refine ⟨_, rfl, st, _, rfl, (show DGet H1 st (kV kLeft) _ from st_left ▸ DGet.k S1.d), _, _, rfl, rfl, _, rfl, ?_⟩
      by_cases c1 : 0 < left'
      · rw [show decide ((0 : Int) < left') = true from decide_eq_true c1]
        refine iteT ⟨_, rfl, st, _, rfl, (show DGet H1 st (kV kLeft) _ from st_left ▸ DGet.k S1.d), .inl ⟨_, rfl, _, rfl, _, _, rfl, rfl, (by show (0 : Int) < (n : Int); omega), ?_⟩⟩
        refine ⟨_, rfl, st, _, rfl, (show DGet H1 st (kV kLeft) _ from st_left ▸ DGet.k S1.d), _, rfl, _, _, rfl, rfl, draw_div hn hn2, _, rfl, st, _, rfl, (show DPut _ st (kV kLeft) _ _ from DPut.k S1.d (by show 4 < sizeLine; decide)), ?_⟩
        rw [st_put_left]
        have hr0 := Int.emod_nonneg left' (show (n : Int) ≠ 0 by omega)
        have hr1 := Int.emod_lt_of_pos left' (show (0 : Int) < n by omega)
        have S3 := S1.put (t := turn) (l := left' / (n : Int)) (Int.ediv_nonneg (by omega) (by omega))
        exact ⟨_, rfl, q_int (k (left' % (n : Int)).toNat _ (by omega) ⟨_, _, _, _, S3, by omega⟩ (kp1.trans Kp.put)) (by omega)⟩
      · rw [show decide ((0 : Int) < left') = false from decide_eq_false c1]
        refine iteF ⟨_, rfl, st, _, rfl, (show DGet H1 st (kV kTurn) _ from st_turn ▸ DGet.k S1.d), _, _, rfl, rfl, _, rfl, _, rfl, st, _, rfl, (show DPut _ st (kV kTurn) _ _ from DPut.k S1.d (by show 4 < sizeLine; decide)), ?_⟩
        rw [st_put_turn]
        have S2 : StD (upd H1 st (.dK (stKv lg cl left' ((turn + 1 : Nat) : Int)))) st lg cl large' cells left' (turn + 1) := S1.put S1.p0
        have kp2 : Kp st lg H (upd H1 st (.dK (stKv lg cl left' ((turn + 1 : Nat) : Int)))) := kp1.trans Kp.put
        have e1 : ((turn : Int) + 1) = ((turn + 1 : Nat) : Int) := by omega
        rw [e1]
        generalize upd H1 st (.dK (stKv lg cl left' ((turn + 1 : Nat) : Int))) = H2 at S2 kp2 ⊢
        refine ⟨fun σ' H' => ∃ c : Int, σ' = [some (.ref st), some (.int n), none, some (.int ((turn + 1 : Nat) : Int)), some (.int c), none] ∧ StD H' st lg cl large' cells left' (turn + 1) ∧ Kp st lg H H', ?_, ?_⟩
        · refine ⟨_, rfl, st, .ref cl, rfl, (show DGet H2 st (kV kCells) _ from st_cells ▸ DGet.k S2.d), by decide, fun p hp => ?_⟩
          have S3 := S2.same (Same.new (o := .lst []) hp)
          have kp3 := kp2.trans (Kp.same (Same.new (o := .lst []) hp))
          refine ⟨_, _, dp_int_list S3.c, dp_nil upd_same, shaped_is _, shaped_nil, _, rfl, ?_⟩
          rw [eqv_ints_nil]
          generalize upd H2 p (.lst []) = H3 at S3 kp3 ⊢
          cases cells with
          | nil => exact iteF ⟨0, rfl, S3, kp3⟩
          | cons y ys =>
            refine iteT ⟨_, rfl, st, .ref cl, rfl, (show DGet H3 st (kV kCells) _ from st_cells ▸ DGet.k S3.d), _, rfl, .inl ⟨_, rfl, _, rfl, st, .ref cl, rfl, (show DGet H3 st (kV kCells) _ from st_cells ▸ DGet.k S3.d), cl, _, rfl, .inl (SqL.of S3.c), _, _, rfl, rfl, ?_, ?_⟩⟩
            · show (0 : Int) < ((((y :: ys).map V.int).length : Nat) : Int)
              simp
            · have hlen : ((y :: ys).map V.int).length = (y :: ys).length := List.length_map _
              have hz : (turn + 1) % (y :: ys).length < (y :: ys).length := Nat.mod_lt _ (by simp)
              obtain ⟨c, hc⟩ : ∃ c, (y :: ys)[(turn + 1) % (y :: ys).length]? = some c := ⟨_, List.getElem?_eq_getElem hz⟩
              refine ⟨cl, _, _, .int c, rfl, rfl, SqL.of S3.c, ?_, c, rfl, S3, kp3⟩
              rw [hlen, show (((turn : Int) + 1) % (((y :: ys).length : Nat) : Int)) = (((turn + 1) % (y :: ys).length : Nat) : Int) from rfl]
              exact atI_nat (by rw [List.getElem?_map, hc]; rfl)
        · rintro σ' H3 ⟨c, rfl, S3, kp3⟩
          have h1 := Int.emod_nonneg c (show (2147483563 : Int) ≠ 0 by decide)
          have h2 := Int.emod_lt_of_pos c (show (0 : Int) < 2147483563 by decide)
          refine ⟨_, rfl, .inl ⟨_, rfl, _, _, rfl, rfl, (by show (0 : Int) < 2147483563; decide), _, rfl, _, _, rfl, rfl, .inl ⟨by decide, by decide⟩, _, _, rfl, rfl, _, _, rfl, rfl, _, _, rfl, rfl, ⟨by decide, by decide, ?_⟩, .inl ⟨_, rfl, _, _, rfl, rfl, (by show (0 : Int) < 2147483629; decide), ?_⟩⟩⟩
          · generalize c % 2147483563 = c' at h1 h2 ⊢
            omega
          generalize (c % 2147483563 + 40692 * ((turn + 1 : Nat) : Int) + 24681) ^ (3 : Int).toNat = z
          have h3 := Int.emod_nonneg z (show (2147483629 : Int) ≠ 0 by decide)
          have h4 := Int.emod_lt_of_pos z (show (0 : Int) < 2147483629 by decide)
          dsimp only
          generalize z % 2147483629 = y at h3 h4 ⊢
          refine ⟨_, rfl, _, rfl, _, _, rfl, rfl, .inl ⟨by decide, by decide⟩, _, _, rfl, rfl, _, _, rfl, rfl, ⟨by decide, by decide, by omega⟩, .inl ⟨_, rfl, _, _, rfl, rfl, (by show (0 : Int) < 2147483579; decide), _, _, rfl, rfl, ⟨by decide, by decide⟩, .inl ⟨_, rfl, _, rfl, _, _, rfl, rfl, (by show (0 : Int) < (n : Int); omega), ?_⟩⟩⟩
          generalize (y + 104917 * ((turn + 1 : Nat) : Int)) ^ (5 : Int).toNat % 2147483579 / 29 = x
          have h5 := Int.emod_nonneg x (show (n : Int) ≠ 0 by omega)
          have h6 := Int.emod_lt_of_pos x (show (0 : Int) < n by omega)
          exact q_int (k (x % (n : Int)).toNat _ (by omega) ⟨_, _, _, _, S3, by omega⟩ kp3) (by omega)
end
end K04
namespace K04
open PySem PySem.Spec PyProof.Rows L2 PySem.W LamX KA
open Evl (pss_cut tCut)
def spPick : Sp := fun vs H Q _ => ∃ (st lg cl a : Addr) (xs : List V) (m : Nat), vs = [.ref st, .ref a] ∧ H a = some (.lst xs) ∧ a ≠ lg ∧ 0 < xs.length ∧ xs.length ≤ 1000 ∧ m ≤ 1000000 ∧ StAt H st lg cl m ∧
  ∀ (x : V) (H' : Hp), x ∈ xs → StAt H' st lg cl (m + 1) → Kp st lg H H' → Q x H'
section
variable {P : Program} {w : World} {K : PySem.W.Frag} {mg : Str → Option Value} {base : Heap} (T : Top K mg)
theorem ok_pick : FnOk P w K mg base (L2.CX P w) 2 T._law_pick.a T._law_pick.d ["state", "several"] spPick := by
  refine T._law_pick.f.okX sc__law_pick (fun vs H Q E h => ?_) (fun cdv A outer s H vs Q E hr h => ?_)
  · obtain ⟨st, lg, cl, a, xs, m, rfl, _⟩ := h
    rfl
  · obtain ⟨st, lg, cl, a, xs, m, rfl, ha, hal, h0, h1, hm, S, k⟩ := h
    have has : a ≠ st := by
      obtain ⟨_, _, _, _, S', _⟩ := S
      exact ne_of ha S'.d (by intro z; cases z)
    refine ⟨_, pss_one (ps_ret (pe_ix ix_list (pv 1) (pe_call (ok_draw T) hr (by rfl) T._law_draw.m T._law_draw.f.kp (bd__law_draw T) .nil passE (pa_cons (pv 0) (pa_cons (pe_callB call_len_seq (by rfl) T.b_len PySem.boot_len (pa_cons (pv 1) pa_nil)) pa_nil))) (fun _ _ => rfl))), ?_⟩
    refine ⟨_, rfl, _, rfl, _, rfl, a, xs, rfl, .inl (SqL.of ha), st, lg, cl, xs.length, m, rfl, h0, ?_, hm, S, fun r H' hr' S' kp => ?_⟩
    · exact Nat.lt_of_le_of_lt h1 (by decide)
    · obtain ⟨x, hx⟩ : ∃ x, xs[r]? = some x := ⟨_, List.getElem?_eq_getElem hr'⟩
      exact ⟨a, xs, _, x, rfl, rfl, SqL.of (kp a _ ha has hal), atI_nat hx, k x H' (List.mem_of_getElem? hx) S' kp⟩
def spBegun (K : PySem.W.Frag) : Sp := fun vs H Q _ => ∃ (a : Addr) (ns : List Int), vs = [.ref a] ∧ SqL K H a (ns.map V.int) ∧ ns.length ≤ 63 ∧
  ∀ (st lg cl : Addr) (H' : Hp), StAt H' st lg cl 0 → Same H H' → H st = none → H lg = none → Q (.ref st) H'
theorem ok_begun : FnOk P w K mg base (L2.CX P w) 1 T._law_begun.a T._law_begun.d ["script"] (spBegun K) := by
  refine T._law_begun.f.okX sc__law_begun (fun vs H Q E h => ?_) (fun cdv A outer s H vs Q E hr h => ?_)
  · obtain ⟨a, ns, rfl, _⟩ := h
    rfl
  · obtain ⟨a, ns, rfl, hS, hl, k⟩ := h
    refine ⟨_, pss_cons (ps_setLc (i := 1) (own := [("cell", 3)]) (g := gName 3) (tt := tYes) rfl sc__law_begun.nd rfl rfl (sw_true rfl rfl rfl (by decide +kernel)) (pi_list (pv 0)) (blkOk_by (own := [("cell", 3)]) (N := ["script", "cells_here", "large", "cell"]) (sc := defScope s__law_begun) (by decide +kernel))
        (fun _ _ _ _ _ => pg_name (i := 3) sc__law_begun.nd rfl (Or.inl rfl)) (fun _ _ _ _ _ => pts_nil) (fun _ _ _ _ _ => pe_callB call_abs (by rfl) T.b_abs (by decide +kernel) (pa_cons (pv 3) pa_nil)))
      (pss_cons (ps_setLc (i := 2) (own := [("cell", 3)]) (g := gName 3) rfl sc__law_begun.nd rfl rfl (sw_true rfl rfl rfl (by decide +kernel)) (pi_list (pv 1)) (blkOk_by (own := [("cell", 3)]) (N := ["script", "cells_here", "large", "cell"]) (sc := defScope s__law_begun) (by decide +kernel))
        (fun _ _ _ _ _ => pg_name (i := 3) sc__law_begun.nd rfl (Or.inl rfl)) (fun _ _ _ _ _ => pts_one (pt_cmpR op_ge (pv 3) (pe_op op_pow pe_int pe_int) (nomark _))) (fun _ _ _ _ _ => pe_op op_sub (pv 3) (pe_op op_pow pe_int pe_int)))
      (pss_one (ps_ret (pe_disp (pps_cons pe_str (pv 2) (pps_cons pe_str (pv 1) (pps_cons pe_str pe_int (pps_cons pe_str pe_int pps_nil)))) (by rfl) (by rfl) (fun z => by cases z) (by decide))))), ?_⟩
    refine ⟨_, rfl, a, rfl, ⟨_, hS⟩, fun cl hcl => lc_list (K := K) (a := a) (xs := ns.map V.int) (fun i H' => H' cl = some (.lst ((ns.take i).map fun n => V.int (if n < 0 then -n else n))) ∧ Same H H') ⟨upd_same, Same.new hcl⟩ (fun i H' _ h => h.2.seq hS) ?_ ?_⟩
    · rintro i x H' hx ⟨h1, h2⟩
      obtain ⟨n, hn, rfl⟩ : ∃ n, ns[i]? = some n ∧ x = V.int n := by
        rw [List.getElem?_map] at hx
        cases e : ns[i]? with
        | none => rw [e] at hx; cases hx
        | some n => rw [e] at hx; exact ⟨n, rfl, (Option.some.inj hx).symm⟩
      refine ⟨rfl, ?_⟩
      dsimp only [tYes]
      rw [if_pos rfl]
      refine ⟨_, rfl, n, rfl, _, h1, ?_, ?_, ?_⟩
      · rw [List.length_map, List.length_take]
        exact Nat.lt_of_le_of_lt (Nat.min_le_right _ _) (Nat.lt_of_le_of_lt hl (by decide))
      · rw [upd_same, take_map_snoc _ _ _ _ hn]
      · intro b o e
        rw [upd_ne (ne_of_none e hcl)]
        exact h2 b o e
    rintro H1 ⟨h1, h2⟩
    rw [List.length_map, List.take_length] at h1
    have h1 : H1 cl = some (.lst ((ns.map fun n => if n < 0 then -n else n).map V.int)) := by rw [h1, List.map_map]; rfl
    have hlc : (ns.map fun n => if n < 0 then -n else n).length ≤ 63 := by rw [List.length_map]; exact hl
    generalize (ns.map fun n => if n < 0 then -n else n) = cells at h1 hlc
    refine ⟨_, rfl, cl, rfl, ⟨_, SqL.of h1⟩, fun lg hlg => lc_list (K := K) (a := cl) (xs := cells.map V.int) (fun i H' => H' lg = some (.lst ((((cells.take i).filter fun c => decide ((1000000000000000000 : Int) ≤ c)).map fun c => c - 1000000000000000000).map V.int)) ∧ Same H1 H') ⟨upd_same, Same.new hlg⟩ (fun i H' _ h => h.2.seq (SqL.of h1)) ?_ ?_⟩
    · rintro i x H' hx ⟨h3, h4⟩
      obtain ⟨n, hn, rfl⟩ : ∃ n, cells[i]? = some n ∧ x = V.int n := by
        rw [List.getElem?_map] at hx
        cases e : cells[i]? with
        | none => rw [e] at hx; cases hx
        | some n => rw [e] at hx; exact ⟨n, rfl, (Option.some.inj hx).symm⟩
      have et : cells.take (i + 1) = cells.take i ++ [n] := by rw [List.take_add_one, hn]; rfl
      refine ⟨rfl, _, rfl, _, _, rfl, rfl, ⟨by decide, by decide, by decide⟩, _, _, rfl, rfl, _, rfl, ?_⟩
      rw [show ((10 : Int) ^ (18 : Int).toNat) = 1000000000000000000 by decide, et, List.filter_append]
      by_cases c : (1000000000000000000 : Int) ≤ n
      · rw [show decide ((1000000000000000000 : Int) ≤ n) = true from decide_eq_true c]
        dsimp only
        rw [if_pos rfl]
        refine ⟨_, rfl, _, _, rfl, rfl, ⟨by decide, by decide, by decide⟩, _, _, rfl, rfl, _, h3, ?_, ?_, ?_⟩
        · rw [List.length_map, List.length_map]
          refine Nat.lt_of_le_of_lt (Nat.le_trans (List.length_filter_le _ _) ?_) (show 63 < sizeLine by decide)
          rw [List.length_take]
          omega
        · rw [upd_same]
          simp [c]
        · intro b o e
          rw [upd_ne (ne_of_none e hlg)]
          exact h4 b o e
      · rw [show decide ((1000000000000000000 : Int) ≤ n) = false from decide_eq_false c]
        dsimp only
        rw [if_neg Bool.false_ne_true]
        refine ⟨?_, h4⟩
        simpa [c] using h3
    rintro H2 ⟨h3, h4⟩
    intro st hst
    refine ⟨_, rfl, _, rfl, upd_same, stKv lg cl 0 0, rfl, (by show 4 ≤ 15; decide), ?_⟩
    rw [st_merge]
    have hne : cl ≠ lg := ne_of_none h1 hlg
    have h5 := h4 cl _ h1
    rw [List.length_map, List.take_length] at h3
    have hp : ∀ x ∈ (cells.filter fun c => decide ((1000000000000000000 : Int) ≤ c)).map (fun c => c - 1000000000000000000), 0 ≤ x := by
      intro x hx
      obtain ⟨c, hc, rfl⟩ := List.mem_map.mp hx
      have := (List.mem_filter.mp hc).2
      simp at this
      omega
    generalize (cells.filter fun c => decide ((1000000000000000000 : Int) ≤ c)).map (fun c => c - 1000000000000000000) = large at h3 hp
    have n1 : lg ≠ st := ne_of_none h3 hst
    have n2 : cl ≠ st := ne_of_none h5 hst
    have same : Same H (upd (upd H2 st (.dK [])) st (.dK (stKv lg cl 0 0))) := fun b o e => by
      have e2 := h4 b o (h2 b o e)
      rw [upd_upd, upd_ne (ne_of_none e2 hst)]
      exact e2
    refine k st lg cl _ ⟨large, cells, 0, 0, ⟨upd_same, ?_, ?_, hne.symm, hp, Int.le_refl _⟩, Nat.le_refl _⟩ same ((h2.trans h4).free hst) (h2.free hlg)
    · rw [upd_upd, upd_ne n1]
      exact h3
    · rw [upd_upd, upd_ne n2]
      exact h5
end
end K04
namespace KT
open PySem PySem.Spec PyProof.Rows L2 PySem.W LamX KA KW
/-! ### min(t), max(t) of a tuple of ints; t[::-1]; t * n, n from 1 on -/
theorem alike_ints (ns : List Int) : AlikeAll (ns.map PyData.int) := by
  refine ⟨fun x hx y hy => ?_, fun x hx => ?_⟩
  · obtain ⟨i, _, rfl⟩ := List.mem_map.mp hx
    obtain ⟨j, _, rfl⟩ := List.mem_map.mp hy
    simp [alike]
  · obtain ⟨i, _, rfl⟩ := List.mem_map.mp hx
    exact fun z => by cases z
theorem dp_ints {K : PySem.W.Frag} {H : Hp} : ∀ ns : List Int, DpAll K H (ns.map V.int) (ns.map PyData.int)
  | [] => .nil
  | i :: ns => .cons (.int i) (dp_ints ns)
theorem depth_ints : ∀ ns : List Int, PyData.depthAll (ns.map PyData.int) ≤ 1
  | [] => by simp [PyData.depthAll]
  | i :: ns => by
    have := depth_ints ns
    simp only [List.map_cons, PyData.depthAll, PyData.depth]
    omega
theorem reads_int {h : Heap} {v : Value} {i : Int} {as : List Addr} (r : Reads h v (.int i) as) : ∃ t, v = .int i t := by
  cases r
  exact ⟨_, rfl⟩
theorem foldl_min_mem (n : Int) : ∀ ns : List Int, ns.foldl min n ∈ n :: ns := by
  intro ns
  induction ns generalizing n with
  | nil => simp
  | cons k r ih =>
    rw [List.foldl_cons]
    rcases List.mem_cons.mp (ih (min n k)) with e | e
    · rw [e]
      rcases Int.le_total n k with h | h
      · rw [Int.min_eq_left h]; exact List.mem_cons_self
      · rw [Int.min_eq_right h]; exact List.mem_cons_of_mem _ List.mem_cons_self
    · exact List.mem_cons_of_mem _ (List.mem_cons_of_mem _ e)
theorem foldl_min_le (n : Int) : ∀ (ns : List Int) (y : Int), y ∈ n :: ns → ns.foldl min n ≤ y := by
  intro ns
  induction ns generalizing n with
  | nil => intro y hy; simp at hy; subst hy; exact Int.le_refl _
  | cons k r ih =>
    intro y hy
    rw [List.foldl_cons]
    have h0 := ih (min n k) (min n k) List.mem_cons_self
    rcases List.mem_cons.mp hy with e | e
    · subst e; omega
    · rcases List.mem_cons.mp e with e | e
      · subst e; omega
      · exact ih (min n k) y (List.mem_cons_of_mem _ e)
theorem foldl_max_mem (n : Int) : ∀ ns : List Int, ns.foldl max n ∈ n :: ns := by
  intro ns
  induction ns generalizing n with
  | nil => simp
  | cons k r ih =>
    rw [List.foldl_cons]
    rcases List.mem_cons.mp (ih (max n k)) with e | e
    · rw [e]
      rcases Int.le_total n k with h | h
      · rw [Int.max_eq_right h]; exact List.mem_cons_of_mem _ List.mem_cons_self
      · rw [Int.max_eq_left h]; exact List.mem_cons_self
    · exact List.mem_cons_of_mem _ (List.mem_cons_of_mem _ e)
theorem foldl_max_ge (n : Int) : ∀ (ns : List Int) (y : Int), y ∈ n :: ns → y ≤ ns.foldl max n := by
  intro ns
  induction ns generalizing n with
  | nil => intro y hy; simp at hy; subst hy; exact Int.le_refl _
  | cons k r ih =>
    intro y hy
    rw [List.foldl_cons]
    have h0 := ih (max n k) (max n k) List.mem_cons_self
    rcases List.mem_cons.mp hy with e | e
    · subst e; omega
    · rcases List.mem_cons.mp e with e | e
      · subst e; omega
      · exact ih (max n k) y (List.mem_cons_of_mem _ e)
def rMinT (K : PySem.W.Frag) : List V → Hp → VK → Prop := fun vs H Q => ∃ (a : Addr) (ns : List Int), vs = [V.ref a] ∧ SqT K H a (ns.map V.int) ∧ 0 < ns.length ∧ ∀ m, m ∈ ns → (∀ y, y ∈ ns → m ≤ y) → Q (.int m) H
def rMaxT (K : PySem.W.Frag) : List V → Hp → VK → Prop := fun vs H Q => ∃ (a : Addr) (ns : List Int), vs = [V.ref a] ∧ SqT K H a (ns.map V.int) ∧ 0 < ns.length ∧ ∀ m, m ∈ ns → (∀ y, y ∈ ns → y ≤ m) → Q (.int m) H
section
variable {X : Cx}
theorem cr_minT (hc : X.calm = true) (hu : X.A.units + 2 < cLine) : CallR X (.builtin "min") (rMinT X.K) := by
  intro pins s σ H vs us Q I r h
  obtain ⟨a, ns, rfl, hs, hne, q⟩ := h
  obtain ⟨its, rv, hl, _⟩ := I.tuple hs
  rw [Vals.ref1 r]
  cases ns with
  | nil => cases hne
  | cons n ns =>
    obtain ⟨as, hr⟩ := Dp.readsAll I _ _ its (dp_ints (n :: ns)) rv
    refine min_tuple_data (x := .int n) (xs := ns.map .int) (I.ok.hd hc) hl hr (alike_ints (n :: ns)) ?_ fun i v h' tk bs _ rd hk => ?_
    · have := depth_ints (n :: ns)
      rw [List.map_cons] at this
      omega
    · rw [minD_ints] at rd
      obtain ⟨t, rfl⟩ := reads_int rd
      exact ⟨.int _, H, I.kept hk, ⟨_, rfl⟩, q _ (foldl_min_mem n ns) (foldl_min_le n ns)⟩
theorem cr_maxT (hc : X.calm = true) (hu : X.A.units + 2 < cLine) : CallR X (.builtin "max") (rMaxT X.K) := by
  intro pins s σ H vs us Q I r h
  obtain ⟨a, ns, rfl, hs, hne, q⟩ := h
  obtain ⟨its, rv, hl, _⟩ := I.tuple hs
  rw [Vals.ref1 r]
  cases ns with
  | nil => cases hne
  | cons n ns =>
    obtain ⟨as, hr⟩ := Dp.readsAll I _ _ its (dp_ints (n :: ns)) rv
    refine max_tuple_data (x := .int n) (xs := ns.map .int) (I.ok.hd hc) hl hr (alike_ints (n :: ns)) ?_ fun i v h' tk bs _ rd hk => ?_
    · have := depth_ints (n :: ns)
      rw [List.map_cons] at this
      omega
    · rw [maxD_ints] at rd
      obtain ⟨t, rfl⟩ := reads_int rd
      exact ⟨.int _, H, I.kept hk, ⟨_, rfl⟩, q _ (foldl_max_mem n ns) (foldl_max_ge n ns)⟩
/-- one call name, either a list or a tuple -/
def rOrC (r r' : List V → Hp → VK → Prop) : List V → Hp → VK → Prop := fun vs H Q => r vs H Q ∨ r' vs H Q
theorem cr_or {f : Value} {r r' : List V → Hp → VK → Prop} (h : CallR X f r) (h' : CallR X f r') : CallR X f (rOrC r r') := fun pins s σ H vs us Q I rv q => q.elim (h pins s σ H vs us Q I rv) (h' pins s σ H vs us Q I rv)
end
section
variable {prog : Program} {w : World} {A : Around} {E : Value → Shared → Prop} {s : Shared}
theorem adjust_rev (n : Nat) : Builtin.Slice.sliceAdjust none none (-1) (n : Int) = ((n : Int) - 1, -1) := rfl
theorem places_rev (n : Nat) : Builtin.Slice.slicePlaces ((n : Int) - 1) (-1) (-1) = n := by
  unfold Builtin.Slice.slicePlaces
  have h1 : ¬ ((-1 : Int) > 0) := by omega
  have h2 : (- -1 : Int) = 1 := by decide
  simp only [h1, if_false, h2, Int.ediv_one]
  split <;> omega
theorem sliceApplied_rev {sl : Addr} {vl vu vs : Value} {n : Nat} {Q : Int × Int × Nat → Shared → Prop} (hs : s.heap.IsSliceOf sl vl vu vs) (pl : IsPart vl none) (pu : IsPart vu none) (ps : IsPart vs (some (-1)))
    (h : Q ((n : Int) - 1, -1, n) s) : wpAny (model prog w) A (Builtin.Slice.sliceApplied (.ref sl) (pure (n : Int))) Q E s := by
  obtain ⟨os, hos, hcs, hds⟩ := id hs
  unfold Builtin.Slice.sliceApplied Builtin.Slice.sliceFields
  refine wpAny_bind (wpAny_bind (wpAny_field hos hds (x := vl) rfl (wpAny_bind (wpAny_field hos hds (x := vu) rfl (wpAny_bind (wpAny_field hos hds (x := vs) rfl (wpAny_pure ?_)))))))
  refine wpAny_bind (HT.slicePart_ ps ?_)
  show wpAny _ _ (if ((-1 : Int) == 0) = true then _ else _) _ _ s
  rw [if_neg (by decide)]
  refine wpAny_bind (HT.slicePart_ pl (wpAny_bind (HT.slicePart_ pu (wpAny_bind (wpAny_pure ?_)))))
  show wpAny _ _ (match Builtin.Slice.sliceAdjust none none (-1) (n : Int) with | (lo, hi) => pure (lo, (-1 : Int), Builtin.Slice.slicePlaces lo hi (-1))) _ _ s
  rw [adjust_rev n]
  show wpAny _ _ (pure ((n : Int) - 1, (-1 : Int), Builtin.Slice.slicePlaces ((n : Int) - 1) (-1) (-1))) _ _ s
  rw [places_rev]
  exact wpAny_pure h
theorem fm_congr {α β : Type} {f g : α → Option β} : ∀ {l : List α}, (∀ x, x ∈ l → f x = g x) → l.filterMap f = l.filterMap g
  | [], _ => rfl
  | x :: l, h => by
    have ih := fm_congr (l := l) fun y hy => h y (List.mem_cons_of_mem _ hy)
    rw [List.filterMap_cons, List.filterMap_cons, h x List.mem_cons_self, ih]
theorem pick_rev (xs : Array Value) : ((List.range xs.size).filterMap fun (m : Nat) => xs[(((xs.size : Int) - 1) + (m : Int) * (-1)).toNat]?).toArray = xs.toList.reverse.toArray := by
  have h := krv_pick xs
  unfold slicePick at h
  rw [krv_bounds] at h
  rw [← h]
  show _ = ((sliceRange ((xs.size : Int) - 1) (-1) (-1)).filterMap (xs[·]?)).toArray
  rw [krv_sliceRange, List.filterMap_map]
  congr 1
  apply fm_congr
  intro m hm
  have := List.mem_range.mp hm
  have e : (((xs.size : Int) - 1) + (m : Int) * (-1)).toNat = xs.size - 1 - m := by omega
  show xs[(((xs.size : Int) - 1) + (m : Int) * (-1)).toNat]? = xs[xs.size - 1 - m]?
  rw [e]
theorem getItem_tuple_rev {t sl : Addr} {items : Array Value} {vl vu vs : Value} {Q : Value → Shared → Prop} (ht : IsTup s.heap t items) (hs : s.heap.IsSliceOf sl vl vu vs) (pl : IsPart vl none) (pu : IsPart vu none) (ps : IsPart vs (some (-1)))
    (h : Q (.ref s.heap.objs.size) { s with heap := s.heap.push { cls := .type "tuple", data := .seq items.toList.reverse.toArray } })
    (hsz : items.size ≤ sizeLine) : wpAny (model prog w) A (getItem (.ref t) (.ref sl)) Q E s := by
  have htake : sizeOk (.seq items.toList.reverse.toArray) := by
    show items.toList.reverse.toArray.size ≤ sizeLine
    rw [List.size_toArray, List.length_reverse, Array.length_toList]
    exact hsz
  obtain ⟨os, hos, hcs, hds⟩ := id hs
  have hTs : s.TypeIs (.ref sl) "slice" := ⟨os, hos, hcs⟩
  unfold getItem
  try with_reducible refine wpAny_holding ?_
  first | refine wpAny_bind (wpAny_pure ?_) | skip
  refine wpAny_bind (wpAny_sequenceKey ht.typeIs (by decide) ?_)
  refine wpAny_bind (wpAny_callSpecial?_slot (name := Str.ofString "__getitem__") ht.typeIs PyProof.Rows.slot_tuple_getitem
    (wpAny_call_entry PyProof.Rows.slot_tuple_getitem ht.typeIs entry_tuple_getitem ?_ (args_tuple_getitem _ _)))
  show wpAny _ _ (Builtin.Tuple.tupleItemsOf (.ref t) >>= _) _ _ s
  refine wpAny_bind (tupleItemsOf_ ht ?_)
  refine wpAny_bind (wpAny_typeOf hTs ?_)
  rw [if_pos (by decide)]
  refine wpAny_bind (sliceApplied_rev hs pl pu ps ?_)
  have hno : ¬ ((((items.size : Int) - 1) == 0 && (-1 : Int) == 1 && items.size == items.size) = true) := by
    intro q
    rw [Bool.and_eq_true, Bool.and_eq_true] at q
    exact absurd q.1.2 (by decide)
  show wpAny _ _ (if (((items.size : Int) - 1) == 0 && (-1 : Int) == 1 && items.size == items.size) = true then _ else _) _ _ s
  rw [if_neg hno, pick_rev]
  first
    | exact wpAny_bind (m := Builtin.Tuple.tupleExact _) (wpAny_newObj_type (wpAny_pure ⟨_, rfl, wpAny_pure h⟩) htake)
    | exact wpAny_bind (m := Builtin.Tuple.tupleExact _) (wpAny_newObj_type (wpAny_bind (wpAny_pure (wpAny_pure ⟨_, rfl, wpAny_pure h⟩))) htake)
    | exact wpAny_bind (wpAny_bind (m := Builtin.Tuple.tupleExact _) (wpAny_newObj_type (wpAny_pure (wpAny_pure ⟨_, rfl, wpAny_pure h⟩)) htake))
    | exact wpAny_bind (wpAny_bind (m := Builtin.Tuple.tupleExact _) (wpAny_newObj_type (wpAny_pure ⟨_, rfl, wpAny_pure h⟩) htake))
end
section
variable {X : Cx}
def tRevT (K : PySem.W.Frag) (te : TE) : TE := fun σ H Q => te σ H fun x H1 => ∃ a xs, x = .ref a ∧ SqT K H1 a xs ∧ ∀ p, H1 p = none → Q (.ref p) (upd H1 p (.tup xs.reverse))
theorem pe_revT {e : Expr} {te : TE} {k : Nat} {p1 p2 p3 pos : Pos} (he : PE X e te) : PE X (.Subscript e (.Slice none none (some (.UnaryOp .USub (.Constant (.int 1) k p1) p2)) p3) pos) (tRevT X.K te) := by
  refine ⟨fun pins s σ H Q I h => ?_⟩
  refine Subscript_ (thn (he.run pins s σ H _ I h) fun v s1 ⟨x, H1, I1, r1, q1⟩ => ?_)
  obtain ⟨a, xs, ex, hx, q⟩ := q1
  subst ex
  cases r1
  have hst : PO X (some (.UnaryOp .USub (.Constant (.int 1) k p1) p2)) (tPart (tUn (rU fun i => .int (-i)) (tC (.int 1)))) := po_some (pe_un un_neg pe_int)
  refine wpAny_Slice (thn (po_none.run pins s1 σ H1 (fun o H2 => o = none ∧ H2 = H1) I1 ⟨rfl, rfl⟩) fun vl s2 ⟨l, H2, I2, pl, el, e2⟩ => ?_)
  subst el e2
  refine thn (po_none.run pins s2 σ H2 (fun o H3 => o = none ∧ H3 = H2) I2 ⟨rfl, rfl⟩) fun vu s3 ⟨u, H3, I3, pu, eu, e3⟩ => ?_
  subst eu e3
  refine thn (hst.run pins s3 σ H3 (fun o H4 => o = some (-1) ∧ H4 = H3) I3 ⟨1, rfl, -1, rfl, rfl, rfl⟩) fun vs s4 ⟨o, H4, I4, ps, eo, e4⟩ => ?_
  subst eo e4
  have I5 : Inv X pins σ H4 { s4 with heap := s4.heap.push { cls := .type "slice", data := .fields #[vl, vu, vs] } } := I4.kept (t' := s4.toks) fun b ob q => Heap.get?_push_of_some _ q
  obtain ⟨its, r, ht, hz⟩ := I5.tuple hx
  have hlen := r.length
  show wpAny (model X.prog X.w) X.A (subscriptTail e (.Slice none none (some (.UnaryOp .USub (.Constant (.int 1) k p1) p2)) p3) (.ref a) (.ref s4.heap.objs.size)) (EP X pins σ Q) X.xe { s4 with heap := s4.heap.push { cls := .type "slice", data := .fields #[vl, vu, vs] } }
  refine tail_any (ops := [.ref a, .ref s4.heap.objs.size]) ht.typeIs (PyProof.Rows.slot_tuple_getitem.lookup) ?_ (by with_unfolding_all rfl)
  refine getItem_tuple_rev ht (Heap.IsSliceOf.new _ vl vu vs) pl pu ps ?_ (by rw [List.size_toArray]; omega)
  refine ⟨.ref _, _, I5.laid (t' := s4.toks) (o := .tup xs.reverse) (fun b ob q => Heap.get?_push_of_some _ q) (Nat.le_refl _) ?_, rfl, q _ (I5.hok.fresh (Nat.le_refl _))⟩
  exact ⟨by rw [List.length_reverse]; exact hz, _, r.reverse, IsTup.new _ _⟩
end
section
theorem tuple_mul_one (l : Addr) (items : Array Value) (n : Nat) (dd : Option Addr) (sl : Array (Option Value)) (u : Tok) :
    Meets (Builtin.«tuple.__mul__» ⟨[.ref l, .int 1 u], []⟩) (fun _ R s => s.heap.get? l = some { cls := .type "tuple", dict := dd, data := .seq items n, slots := sl } ∧ R (.ok (.ret (Value.ref l))) s) :=
  .of_wp fun prog w A R s h => by
    obtain ⟨hp, g, d, tk, os⟩ := s
    obtain ⟨hl, h⟩ := h
    have f1 := AutoSeq1.idx_int
    have c0 : (decide ((1 : Int) < -(2 ^ 63)) || decide ((1 : Int) ≥ 2 ^ 63)) = false := by decide
    have c1 : (items.isEmpty || (1 : Int) == 1) = true := by
      cases items.isEmpty <;> rfl
    wp_walk using wpAny_loadPart' hl
    repeat (first
      | (refine wpAny_ite_false (decide_eq_false (by rw [c0]; exact Bool.false_ne_true)) ?_; wp_walk using wpAny_loadPart' hl)
      | (refine wpAny_ite_true (decide_eq_true c1) ?_; wp_walk using wpAny_loadPart' hl))
    exact ⟨_, rfl, h⟩
/-- t * k, k from 1 on: of 1 it is t itself -/
def rRepA (K : PySem.W.Frag) : R2 := fun x y H Q => ∃ l k xs, x = .ref l ∧ y = .int k ∧ SqT K H l xs ∧ xs ≠ [] ∧ 1 ≤ k ∧ k ≤ 1000 ∧ xs.length ≤ 1000 ∧ (k = 1 → Q (.ref l) H) ∧ (2 ≤ k → ∀ p, H p = none → Q (.ref p) (upd H p (.tup (List.replicate k.toNat xs).flatten)))
variable {X : Cx}
theorem op_repA : OpR X (binaryOp .Mult) (rRepA X.K) := by
  intro pins s σ H x y v u Q I rx ry h
  obtain ⟨l, k, xs, rfl, rfl, hT, hne, h1, h2, hz, q1, q2⟩ := h
  by_cases hk : k = 1
  · subst hk
    cases rx
    obtain ⟨t, rfl⟩ := ry
    obtain ⟨its, r, ⟨⟨cls, dd, data, sl⟩, ho, hc, n, hd⟩, hs⟩ := I.tuple hT
    simp only at hc hd
    subst hc hd
    refine wpAny_binaryOp_repeat_ref (T := "tuple") (U := "int") (by decide) ⟨_, ho, rfl⟩ (fun s' => typeIs_int s' 1 t) noFill_tuple_mul F.fills_int_mul F.slot_int_rmul repeat_tuple F.slot_int_index.lookup
      (call_meets F.slot_int_rmul (typeIs_int s 1 t) F.entry_int_rmul (F.args_int_rmul_2 _ _) (int_rmul_tuple 1 t l its.toArray n dd sl)
        ⟨ho, rfl, ⟨_, ho, rfl⟩, call_meets F.slot_tuple_mul ⟨_, ho, rfl⟩ F.entry_tuple_mul (F.args_tuple_mul_2 _ _) (tuple_mul_one l its.toArray n dd sl t) ⟨ho, ?_⟩⟩)
    exact ⟨.ref l, H, I, rfl, q1 rfl⟩
  · exact op_repT pins s σ H _ _ v u Q I rx ry ⟨l, k, xs, rfl, rfl, hT, hne, by omega, h2, hz, q2 (by omega)⟩
end
end KT
namespace KY
open PySem PySem.Spec PyProof.Rows L2 PySem.W LamX KA KW
/-! ### x == y, x != y, where x is an instance whose class writes __eq__ and no __ne__ -/
section
variable {X : Cx} {CX : CXT} {n : Nat} {C f : Addr} {fd : FuncData} {ps : List Str} {sp : Sp} {E : XK}
theorem own_call {A : Around} {pins : List (Addr × Obj)} {σ : L2.St} {H : Hp} {s : Shared} {x y : V} {v u : Value} {R : Bool → Hp → Prop} (sb : L2.Sub X n A) (F : FnOk X.prog X.w X.K X.mg X.base CX n f fd ps sp) (hb : Binds X.K fd ps []) (hx : Passes CX X E)
    (I : Inv X pins σ H s) (rx : RelV x v) (ry : RelV y u) (hsp : sp [x, y] H (fun v H' => ∃ b, v = .bl b ∧ R b H') E) :
    wpAny (model X.prog X.w) A (call (.ref f) [v, u]) (fun r s' => ∃ b, r = .bool b ∧ ∃ H', Inv X pins σ H' s' ∧ R b H') X.xe s := by
  have e0 : Env0 X.prog X.w X.K X.mg X.base A X.stack s H := by
    have e := I.env0
    exact ⟨by rw [sb.fr]; exact e.frames, e.mod, e.bs, e.bsz, e.funs, e.frf, e.hok, e.bare⟩
  have hl := F.len _ _ _ _ hsp
  have r2 : L2.Vals [x, y] [v, u] := .cons rx (.cons ry .nil)
  refine wpAny_call (codeAny_mono (F.run A X.stack s H ⟨[v, u], []⟩ [v, u] [x, y] _ E sb.room e0 (by
    have := hb s [v, u] I.kIn (by simpa using hl)
    simpa using this) r2 hsp) fun r s' hq => ?_)
  cases r with
  | error e => exact hx pins σ H s e s' I hq
  | ok fl =>
    cases fl with
    | ret w =>
      obtain ⟨z, H', I', rz, b, ez, ex⟩ := I.after hq
      subst ez
      cases rz
      exact ⟨b, rfl, H', I', ex⟩
    | next => exact False.elim hq
    | brk => exact False.elim hq
    | cont => exact False.elim hq
def rEqI (K : PySem.W.Frag) (C : Addr) (sp : Sp) (E : XK) (g : Bool → Bool) : R2 := fun x y H Q => ∃ a dx fs tb, x = .ref a ∧ H a = some (.ins C dx fs) ∧ TyX K H y tb ∧ PySem.W.notFirst K C tb = true ∧ sp [x, y] H (fun v H' => ∃ b, v = .bl b ∧ Q (.bl (g b)) H') E
theorem op_eqI (F : FnOk X.prog X.w X.K X.mg X.base CX n f fd ps sp) (hr : Room n X.A) (hs : PySem.W.findIn X.K (.ref C) "__eq__" = some (some (.ref f))) (hf : PySem.W.isFn X.K (.ref f) = true) (hb : Binds X.K fd ps []) (hx : Passes CX X E) :
    OpR X (compareOp .Eq) (rEqI X.K C sp E fun b => b) := by
  intro pins s σ H x y v u Q I rx ry h
  obtain ⟨a, dx, fs, tb, rfl, ha, ty, nf, hsp⟩ := h
  cases rx
  obtain ⟨mA, J, _⟩ := ins_get I.hok ha
  obtain ⟨od, J, _⟩ := J.look
  obtain ⟨Pk, Z, pk, _⟩ := kit_of I ry ty
  obtain ⟨m, hF⟩ := I.fr
  show wpAny (model X.prog X.w) X.A (richCompare .Eq (.ref a) u) (EP X pins σ Q) X.xe s
  refine PySem.W.cmp_K (op := .Eq) hr.units0 hF I.ok.mod.kin J (Z.ty _ _ I.kIn pk) nf hs hf ?_
  refine wpAny_mono (own_call ⟨hr, rfl⟩ F hb hx I (x := .ref a) (show L2.RelV (.ref a) (.ref a) from rfl) ry hsp) (fun r s' hq => ?_) fun _ _ e => e
  obtain ⟨b, rfl, H', I', q⟩ := hq
  exact ⟨.bl b, H', I', rfl, q⟩
section
variable {M : Model} {prog : Program} {w : World} {A : Around} {E' : Value → Shared → Prop} {s : Shared} {K : PySem.W.Frag} {x : Addr} {ox : Obj} {od : Option Obj}
theorem ifBound_objNe {args : List Value} {Q : Option Value → Shared → Prop} (X : K.In s.heap) (I : PySem.W.InstAt s.heap x ox C od) (hs : PySem.W.findIn K (.ref C) "__ne__" = some (some (.builtin "object.__ne__")))
    (h : wpAny M A (call (.builtin "object.__ne__") (.ref x :: args)) (fun v => Q (some v)) E' s) : wpAny M A (callSpecialIfBound? (.ref x) "__ne__" args) Q E' s := by
  simp only [callSpecialIfBound?, bindSpecialIfBound?]
  refine wpAny_holding (wpAny_bind (wpAny_bind (wpAny_bind (I.type.here ((PySem.W.looks_findIn X hs).here ?_)))))
  refine wpAny_bind (wpAny_askSetting (wpAny_ite ?_))
  have fin : wpAny M A (call (.builtin "object.__ne__") ([.ref x] ++ args) >>= fun v => pure (some v)) Q E' s := wpAny_bind (wpAny_mono h (fun v s' h' => wpAny_pure h') fun _ _ h' => h')
  split
  · exact wpAny_bind (wpAny_of_eq (F.cmp_object.ne.bind _) (wpAny_pure (by exact fin)))
  · exact wpAny_tryCatch (wpAny_bind (wpAny_of_eq (F.cmp_object.ne.bind _) (wpAny_pure (by exact fin))))
theorem entry_ne {y : Value} {Q : Fin → Shared → Prop} (hu : A.units < cLine) (X : K.In s.heap) (I : PySem.W.InstAt s.heap x ox C od) (hs : PySem.W.findIn K (.ref C) "__eq__" = some (some (.ref f))) (hf : PySem.W.isFn K (.ref f) = true)
    (hcall : wpAny (model prog w) A (call (.ref f) [.ref x, y]) (fun v s' => ∃ b, v = .bool b ∧ Q (.done (.ret (.bool (!b)))) s') E' s) :
    wpAny (model prog w) A (Builtin.«object.__ne__» ⟨[.ref x, y], []⟩) Q E' s := by
  unfold Builtin.«object.__ne__»
  repeat (first
    | with_reducible refine wpAny_cRoomFor hu ?_
    | (refine wpAny_bind (m := callSpecialIfBound? (.ref x) (Str.ofString "__eq__") [y])
        (PySem.W.ifBound_K X I hs hf (wpAny_mono hcall (fun r s' hr => by
          obtain ⟨b, rfl, hq⟩ := hr
          repeat (first | exact hq | exact wpAny_pure hq | exact wpAny_truthy_bool hq | (refine wpAny_bind (m := truthy (.bool _)) (wpAny_truthy_bool ?_)) | wp_step)) fun _ _ e => e)))
    | wp_step)
theorem ne_K {L : Addr} {h₀ : Heap} {m : Str → Option Value} {b tb : Value} {Q : Value → Shared → Prop} (hu : A.units + 1 < cLine) (hF : Fr h₀ L s.heap m) (X₀ : K.In h₀) (I : PySem.W.InstAt s.heap x ox C od) (hb : PySem.W.Looks (model prog w) s.heap (typeOf b) tb) (hn : PySem.W.notFirst K C tb = true)
    (hne : PySem.W.findIn K (.ref C) "__ne__" = some (some (.builtin "object.__ne__"))) (hm : PySem.W.mroIn K C (.type "object") = some true) (hs : PySem.W.findIn K (.ref C) "__eq__" = some (some (.ref f))) (hf : PySem.W.isFn K (.ref f) = true)
    (h : wpAny (model prog w) A.in1 (call (.ref f) [.ref x, b]) (fun v s' => ∃ c, v = .bool c ∧ Q (.bool (!c)) s') E' s) : wpAny (model prog w) A (richCompare .NotEq (.ref x) b) Q E' s := by
  have X := X₀.keeps hF.keep
  have one : wpAny (model prog w) A (tryCompare (.ref x) "__ne__" b) (fun r s' => ∃ v, r = some v ∧ Q v s') E' s := by
    unfold tryCompare
    refine wpAny_bind (ifBound_objNe X I hne ?_)
    refine wpAny_call (codeAny_call_builtin F.cmp_object.ne.plain F.cmpEntry_ne (PySem.W.check_slot F.cmpKind_ne F.cmpSplit_ne (I.type.andThen (PySem.W.looks_mroIn X hm)) (F.cmpArgs_ne _ _) (entry_ne (A := A.in1) (by show A.units + 1 < cLine; exact hu) X I hs hf (wpAny_mono h (fun r s' hr => ?_) fun _ _ e => e))))
    obtain ⟨c, rfl, q⟩ := hr
    refine ⟨c, rfl, ?_⟩
    first
      | exact wpAny_pure ⟨_, rfl, q⟩
      | exact ⟨_, rfl, q⟩
  unfold richCompare
  simp only [oneThing_ref]
  refine wpAny_holding (wpAny_bind (wpAny_cRoomFor (by omega) ?_))
  refine wpAny_bind (I.type.here (wpAny_bind (hb.here ?_)))
  split
  · rename_i q
    have e : subIn K tb (.ref C) = some false := by
      rcases Bool.or_eq_true_iff.mp hn with e | e
      · rw [beq_iff_eq.mp e] at q; simp at q
      · exact beq_iff_eq.mp e
    refine wpAny_bind ((looks_subIn X e).here ?_)
    simp only [Bool.false_eq_true, if_false]
    refine wpAny_bind (wpAny_mono one (fun r s' z => ?_) fun _ _ e => e)
    obtain ⟨v, rfl, hq⟩ := z
    exact wpAny_pure hq
  · refine wpAny_bind (wpAny_pure ?_)
    simp only [Bool.false_eq_true, if_false]
    refine wpAny_bind (wpAny_mono one (fun r s' z => ?_) fun _ _ e => e)
    obtain ⟨v, rfl, hq⟩ := z
    exact wpAny_pure hq
end
theorem op_neI (F : FnOk X.prog X.w X.K X.mg X.base CX n f fd ps sp) (hr : Room (n + 1) X.A) (hs : PySem.W.findIn X.K (.ref C) "__eq__" = some (some (.ref f))) (hne : PySem.W.findIn X.K (.ref C) "__ne__" = some (some (.builtin "object.__ne__"))) (hm : PySem.W.mroIn X.K C (.type "object") = some true)
    (hf : PySem.W.isFn X.K (.ref f) = true) (hb : Binds X.K fd ps []) (hx : Passes CX X E) :
    OpR X (compareOp .NotEq) (rEqI X.K C sp E fun b => !b) := by
  intro pins s σ H x y v u Q I rx ry h
  obtain ⟨a, dx, fs, tb, rfl, ha, ty, nf, hsp⟩ := h
  cases rx
  obtain ⟨mA, J, _⟩ := ins_get I.hok ha
  obtain ⟨od, J, _⟩ := J.look
  obtain ⟨Pk, Z, pk, _⟩ := kit_of I ry ty
  obtain ⟨m, hF⟩ := I.fr
  show wpAny (model X.prog X.w) X.A (richCompare .NotEq (.ref a) u) (EP X pins σ Q) X.xe s
  have hu : X.A.units + 1 < cLine := by
    have := hr.units
    omega
  refine ne_K hu hF I.ok.mod.kin J (Z.ty _ _ I.kIn pk) nf hne hm hs hf ?_
  refine wpAny_mono (own_call (L2.Sub.in1 ⟨hr, rfl⟩) F hb hx I (x := .ref a) (show L2.RelV (.ref a) (.ref a) from rfl) ry hsp) (fun r s' hq => ?_) fun _ _ e => e
  obtain ⟨b, rfl, H', I', q⟩ := hq
  exact ⟨b, rfl, .bl (!b), H', I', rfl, q⟩
end
end KY
namespace KDT
open PySem PySem.Spec PyProof.Rows L2
/-! {(a, ..): v}: a display of one pair, its key a tuple of ints and texts -/
def tDisp1T (tk tv : TE) : TE := fun σ H Q => ∀ p, H p = none → tk σ (upd H p (.dT [])) fun x H1 => tv σ H1 fun y H2 => ∃ (k : List L2.Key) (b : Addr), x = .ref b ∧ H2 b = some (.tup (k.map kV)) ∧ H2 p = some (.dT []) ∧ Q (.ref p) (upd H2 p (.dT [(k, y)]))
theorem pe_disp1T {X : Cx} {pos : Pos} {key value : PySem.Expr} {tk tv : TE} (hu : X.A.units + 1 < cLine) (hk : PE X key tk) (hv : PE X value tv) : PE X (.Dict [some key] [value] pos) (tDisp1T tk tv) := by
  refine ⟨fun pins s σ H Q I q => ?_⟩
  have hn := I.hok.fresh (Nat.le_refl s.heap.objs.size)
  have I1 := I.laid (a := s.heap.objs.size) (o := .dT []) (h' := s.heap.push { cls := .type "dict", data := .dict #[] }) (t' := s.toks) (fun _ _ q => Heap.get?_push_of_some _ q) (Nat.le_refl _) (dt_empty s.heap I.big)
  have q1 := q s.heap.objs.size hn
  rw [arm_eval_Dict, zip_pairTrees [some key] [value] X.env pos rfl rfl, dictDisplay_pairs (pairTrees [some key] [value] X.env pos) (by intro z; cases z) (by show 1 < 17; decide)]
  refine wpAny_bind (wpAny_standAt (wpAny_bind (wpAny_subDictH (knd := tupleKind (mixKind X.prog X.w)) (Q := fun d s' => wpAny (model X.prog X.w) X.A (pure (Value.ref d)) (EP X pins σ Q) X.xe s') ?_ (by show 1 ≤ 15; decide) ?_)))
  · show X.A.units < cLine
    omega
  · refine pairTrees_cons_walk (thn (hk.run pins _ σ _ _ I1 q1) fun u s1 ⟨x, H1, I2, rx, q2⟩ => thn (hv.run pins s1 σ H1 _ I2 q2) fun w2 s2 ⟨y, H2, I3, ry, q3⟩ => pairTrees_nil_walk ?_)
    obtain ⟨k, b, ex, eb, ed, q4⟩ := q3
    subst ex
    cases (show u = Value.ref b from rx)
    obtain ⟨z, hd, xs, rel, dd⟩ := dt_of I3.hok ed
    cases rel
    refine ⟨[(k, b, w2)], ⟨rfl, rfl, key_of I3.hok eb, trivial⟩, dd, fun h' tk dd' hs => wpAny_pure ⟨.ref s.heap.objs.size, _, ?_, rfl, q4⟩⟩
    obtain ⟨o, es, ep, hq, h2, h3, h4, _, h5⟩ := dd'
    refine d_write I3 (by rw [ed]; exact True.intro) hs ⟨o, hq⟩ ⟨(by show 1 ≤ sizeLine; decide), hd, [(k, b, w2)], .cons ⟨rfl, ?_, ry⟩ .nil, o, es, ep, hq, h2, h3, h4, h5⟩
    rw [upd_ne (ne_of eb ed (fun z => nomatch z))]
    exact eb
end KDT
namespace KDU
open PySem PySem.Spec PyProof.Rows L2
/-! d.update(other): both dicts of ints and texts -/
def rUpdate : V → List V → Hp → VK → Prop := fun x xs H Q => ∃ (a o : Addr) (kvs more : List (L2.Key × V)), x = .ref a ∧ xs = [.ref o] ∧ H a = some (.dK kvs) ∧ H o = some (.dK more) ∧ a ≠ o ∧ kvs.length + more.length ≤ sizeLine ∧ Q .non (upd H a (.dK (mergeK kvs more)))
theorem mt_update {X : Cx} : MtR X "dict.update" rUpdate := by
  intro pins s σ H x xs v us Q I rx rxs h
  obtain ⟨a, o, kvs, more, rfl, rfl, ha, ho, hne, hz, q⟩ := h
  cases rx
  obtain ⟨u, rfl, ru⟩ := rxs.one
  cases ru
  obtain ⟨z, hd, vs, rel, dd⟩ := dk_of I.hok ha
  obtain ⟨z2, hd2, vs2, rel2, dd2⟩ := dk_of I.hok ho
  refine call_meetsIn PySem.F.slot_dict_update dd.typeIs PySem.F.entry_dict_update (PySem.F.args_dict_update_2 _ _) (meets_dict_update (mixKind X.prog X.w) a o hne hd2)
    ⟨vs, vs2, dd, dd2, by rw [← rel.length, ← rel2.length]; exact hz, fun h' dd' _ hs => ?_⟩
  have he : ∃ q, h'.get? a = some q := let ⟨q, _, _, hq, _⟩ := dd'; ⟨q, hq⟩
  refine ⟨.non, _, d_write (t' := s.toks) I (by rw [ha]; exact True.intro) hs he (dk_new (Nat.le_trans (length_mergeK more kvs) hz) hd (KV.merge rel2 rel) dd'), rfl, q⟩
end KDU
namespace K04
open PySem PySem.Spec PyProof.Rows L2 PySem.W LamX KA KW KU KL
/-! ### the class of shapes, its error -/
structure BadShapeT (P : Program) (w : World) (K : PySem.W.Frag) (mg : Str → Option Value) (R : Addr) where
  C : Addr
  fI : Addr
  cda : Addr
  cc : Addr
  e : Expr
  g : mg "BadShape" = some (.ref C)
  u : UpTxt P K C fI cda cc "BadShape.__init__" "part" e
  r : PySem.W.subIn K (.ref C) (.ref R) = some true
  x : ExcC K C
  sayN : Text P w fI cda cc "BadShape.__init__" "part" e .none
  sayS : ∀ (y : Str) (t : Tok), y.length ≤ 1000 → Text P w fI cda cc "BadShape.__init__" "part" e (.str y t)
theorem exd_exm {P : Program} {w : World} {K : PySem.W.Frag} {mg : Str → Option Value} (R : ReelT K mg) (S : BadShapeT P w K mg R.C) : PySem.W.exmOne K (.ref S.C) (.ref R.C) = some true := PySem.W.exm_ref R.b R.d R.t S.r
structure ShapeT (K : PySem.W.Frag) (mg : Str → Option Value) where
  C : Addr
  f : Addr
  d : FuncData
  F : Fun K "__init__" "Shape.__init__" s_Shape_init f d
  M : Mk K C f
  g : mg "Shape" = some (.ref C)
  i : C8.InsC K C
  n1 : NoAttr K C "height"
  n2 : NoAttr K C "width"
  n3 : NoAttr K C "low"
  n4 : NoAttr K C "high"
  n5 : NoAttr K C "middle"
  kI : PySem.W.kitOne K (.type "int") (.ref C) = some false
  kS : PySem.W.kitOne K (.type "str") (.ref C) = some false
  kN : PySem.W.kitOne K (.type "NoneType") (.ref C) = some false
def shapeFs (h w lo hi : Int) : List (Str × V) := [("height", .int h), ("width", .int w), ("low", .int lo), ("high", .int hi), ("middle", .int ((lo + hi) / 2))]
/-- x is a shape with the ends lo and hi -/
def ShV (C : Addr) (H : Hp) (x : V) (lo hi : Int) : Prop := ∃ (a dx : Addr) (h w : Int), x = .ref a ∧ H a = some (.ins C dx (shapeFs h w lo hi)) ∧ -512 ≤ lo ∧ lo ≤ hi ∧ hi ≤ 511
theorem ShV.keep {C : Addr} {H H' : Hp} {x : V} {lo hi : Int} (h : ShV C H x lo hi) (e : ∀ a o, x = .ref a → H a = some o → H' a = some o) : ShV C H' x lo hi := by
  obtain ⟨a, dx, h, w, rfl, h1, h2⟩ := h
  exact ⟨a, dx, h, w, rfl, e a _ rfl h1, h2⟩
/-- no shape, and of a kind that isinstance tells -/
inductive OddS : V → Prop where
  | int (i : Int) : OddS (.int i)
  | str (s : Str) : OddS (.str s)
  | non : OddS .non
theorem OddS.ty {K : PySem.W.Frag} {mg : Str → Option Value} {H : Hp} {x : V} (S : ShapeT K mg) (h : OddS x) : ∃ t, TyX K H x t ∧ PySem.W.kitOne K t (.ref S.C) = some false := by
  cases h with
  | int i => exact ⟨_, .base (.int i), S.kI⟩
  | str i => exact ⟨_, .base (.str i), S.kS⟩
  | non => exact ⟨_, .base .non, S.kN⟩
theorem ShV.ty {K : PySem.W.Frag} {mg : Str → Option Value} {H : Hp} {x : V} {lo hi : Int} (S : ShapeT K mg) (h : ShV S.C H x lo hi) : TyX K H x (.ref S.C) := by
  obtain ⟨a, dx, _, _, rfl, h1, _⟩ := h
  exact .base (.ins h1 S.i.cl S.i.ha S.i.hn S.i.htk S.i.hm)
def clipI (lo hi n : Int) : Int := if (if hi < n then hi else n) > lo then (if hi < n then hi else n) else lo
theorem clip_eq {lo hi n : Int} (h : lo ≤ hi) : clipI lo hi n = if n < lo then lo else if hi < n then hi else n := by
  unfold clipI
  split <;> (repeat' split) <;> omega
def levelI (r l : Int) : Int := if 0 ≤ r then ((if r < 0 then -r else r) + l) / (2 * l + 1) else -(((if r < 0 then -r else r) + l) / (2 * l + 1))
section
variable {P : Program} {w : World} {K : PySem.W.Frag} {mg : Str → Option Value} {base : Heap} (T : Top K mg) (SH : ShapeT K mg) (BE : BadShapeT P w K mg T.reel.C)
/-- clipped -/
def spClip : Sp := fun vs H Q _ => ∃ n lo hi : Int, vs = [.int n, .int lo, .int hi] ∧ Q (.int (clipI lo hi n)) H
def spStep : Sp := fun vs H Q _ => ∃ l : Int, vs = [.int l] ∧ 0 ≤ l ∧ l ≤ 1000 ∧ Q (.int (2 * l + 1)) H
def spLevelFor : Sp := fun vs H Q _ => ∃ r l : Int, vs = [.int r, .int l] ∧ 0 ≤ l ∧ l ≤ 1000 ∧ Q (.int (levelI r l)) H
/-- a guess against a shape -/
def spCheckG (C CG : Addr) : Sp := fun vs H Q E => ∃ x y yb lo hi, vs = [x, y] ∧ ShV C H x lo hi ∧ Pl K H y yb ∧ (within y lo hi = true → Q .non H) ∧ (within y lo hi = false → E (.ref CG) none H)
/-- what comes of no shape -/
def noShape (CB : Addr) (H : Hp) (E : XK) : Prop := ∀ d, H d = none → E (.ref CB) (some d) (upd H d (.xd [("part", .non)]))
def spCheckS (C CB : Addr) : Sp := fun vs H Q E => ∃ x, vs = [x] ∧ ((∃ lo hi, ShV C H x lo hi ∧ Q .non H) ∨ (OddS x ∧ noShape CB H E))
theorem ok_check_shape : FnOk P w K mg base (L2.CX P w) 4 T.check_shape.a T.check_shape.d ["shape"] (spCheckS SH.C BE.C) := by
  refine T.check_shape.f.okX sc_check_shape (fun vs H Q E h => ?_) (fun cdv A outer s H vs Q E hr h => ?_)
  · obtain ⟨x, rfl, _⟩ := h
    rfl
  · obtain ⟨x, rfl, h⟩ := h
    refine ⟨_, pss_one (ps_if (pt_not (pt_val (pe_callB call_isi (by rfl) T.b_isinstance PyProof.Rows.boot_isinstance (pa_cons (pv 0) (pa_cons (pe_glob (v := .ref SH.C) (by rfl) SH.g rfl) pa_nil)))))
      (pss_one (ps_raiseUp rfl BE.u BE.g hr (takes_of rfl rfl rfl rfl) (pa_cons pe_non pa_nil) (by rfl))) pss_nil), ?_⟩
    rcases h with ⟨lo, hi, hs, k⟩ | ⟨ho, k⟩
    · exact ⟨_, rfl, x, _, _, _, true, rfl, .own _, hs.ty SH, SH.i.me, _, rfl, iteF k⟩
    · obtain ⟨t, ht, hk⟩ := ho.ty (H := H) SH
      refine ⟨_, rfl, x, _, _, _, false, rfl, .own _, ht, hk, _, rfl, iteT ⟨_, rfl, fun v' r => ?_, k⟩⟩
      cases r
      exact BE.sayN
end
end K04
namespace K04
open PySem PySem.Spec PyProof.Rows L2 PySem.W LamX KA KW KU KL
open Evl (pss_cut tCut)
section
variable {P : Program} {w : World} {K : PySem.W.Frag} {mg : Str → Option Value} {base : Heap} (T : Top K mg) (SH : ShapeT K mg) (BE : BadShapeT P w K mg T.reel.C)
/-! ### levels -/
def spLevelOf (K : PySem.W.Frag) (CN CL : Addr) : Sp := fun vs H Q E => ∃ x y xb yb, vs = [x, y] ∧ Pl K H x xb ∧ Pl K H y yb ∧ (within x (-32767) 32767 = false → E (.ref CN) none H) ∧
  (∀ r, x = .int r → -32767 ≤ r → r ≤ 32767 → (within y 0 7 = false → E (.ref CL) none H) ∧ ∀ l, y = .int l → 0 ≤ l → l ≤ 7 → Q (.int (levelI r l)) H)
/-- a shape and a guess, then as told -/
def spShG (K : PySem.W.Frag) (C CB CG : Addr) (sp : Int → Int → Int → Hp → VK → XK → Prop) : V → V → Hp → VK → XK → Prop := fun x y H Q E => ∃ yb, Pl K H y yb ∧ ((OddS x ∧ noShape CB H E) ∨ ∃ lo hi, ShV C H x lo hi ∧ (within y lo hi = false → E (.ref CG) none H) ∧
  ∀ g, y = .int g → lo ≤ g → g ≤ hi → sp lo hi g H Q E)
def spRebuilt (K : PySem.W.Frag) (C CB CG CN CL : Addr) : Sp := fun vs H Q E => ∃ x y u v ub vb, vs = [x, y, u, v] ∧ Pl K H u ub ∧ Pl K H v vb ∧ spShG K C CB CG (fun lo hi g H Q E => (within u (-32767) 32767 = false → E (.ref CN) none H) ∧
  ∀ m, u = .int m → -32767 ≤ m → m ≤ 32767 → (within v 0 7 = false → E (.ref CL) none H) ∧ ∀ l, v = .int l → 0 ≤ l → l ≤ 7 → Q (.int (clipI lo hi (g + m * (2 * l + 1)))) H) x y H Q E
def leastI (lo g s l : Int) : Int := if s = lo then -32767 else -((g - s) / (2 * l + 1))
def greatI (hi g s l : Int) : Int := if s = hi then 32767 else (s - g) / (2 * l + 1)
/-- the span of levels, None or a pair -/
def SpanQ (a b : Int) (H : Hp) (Q : VK) : Prop := (a ≤ b → ∀ p, H p = none → Q (.ref p) (upd H p (.tup [.int a, .int b]))) ∧ (b < a → Q .non H)
def spLevels (K : PySem.W.Frag) (C CB CG CN CL : Addr) : Sp := fun vs H Q E => ∃ x y u v ub vb, vs = [x, y, u, v] ∧ Pl K H u ub ∧ Pl K H v vb ∧ spShG K C CB CG (fun lo hi g H Q E => (within u lo hi = false → E (.ref CN) none H) ∧
  ∀ m, u = .int m → lo ≤ m → m ≤ hi → (within v 0 7 = false → E (.ref CL) none H) ∧ ∀ l, v = .int l → 0 ≤ l → l ≤ 7 → SpanQ (leastI lo g m l) (greatI hi g m l) H Q) x y H Q E
/-! ### a shape is made -/
def spInit (C : Addr) : Sp := fun vs H Q _ => ∃ (a dx : Addr) (h w lo hi : Int), vs = [.ref a, .int h, .int w, .int lo, .int hi] ∧ 1 ≤ h ∧ h ≤ 16 ∧ 1 ≤ w ∧ w ≤ 16 ∧ -512 ≤ lo ∧ lo ≤ hi ∧ hi ≤ 511 ∧ H a = some (.ins C dx []) ∧
  ∀ H', H' a = some (.ins C dx (shapeFs h w lo hi)) → (∀ b, b ≠ a → H' b = H b) → Q .non H'
include T BE in
theorem ok_init : FnOk P w K mg base (L2.CX P w) 4 SH.f SH.d ["self", "height", "width", "low", "high"] (spInit SH.C) := by
  refine SH.F.okX sc_Shape_init (fun vs H Q E h => ?_) (fun cdv A outer s H vs Q E hr h => ?_)
  · obtain ⟨a, dx, ht, wd, lo, hi, rfl, _⟩ := h
    rfl
  · obtain ⟨a, dx, ht, wd, lo, hi, rfl, h1, h2, h3, h4, h5, h6, h7, ha, k⟩ := h
    obtain ⟨t1, hc1⟩ := T.cMOST_SPOTS
    obtain ⟨t2, hc2⟩ := T.cLOWEST
    obtain ⟨t3, hc3⟩ := T.cHIGHEST
    refine ⟨_, pss_cons (ps_if (pt_not (pt_val (pe_call (ok_is_within T) (hr.mono (by decide)) (by rfl) T.is_within.m T.is_within.f.kp (bd_is_within T) .nil passE (pa_cons (pv 1) (pa_cons pe_int (pa_cons (pe_glob (v := .int 16) (by rfl) hc1 ⟨_, rfl⟩) pa_nil))))))
        (pss_one (ps_raiseUp rfl BE.u BE.g hr (takes_of rfl rfl rfl rfl) (pa_cons pe_str pa_nil) (by rfl))) pss_nil)
      (pss_cons (ps_if (pt_not (pt_val (pe_call (ok_is_within T) (hr.mono (by decide)) (by rfl) T.is_within.m T.is_within.f.kp (bd_is_within T) .nil passE (pa_cons (pv 2) (pa_cons pe_int (pa_cons (pe_glob (v := .int 16) (by rfl) hc1 ⟨_, rfl⟩) pa_nil))))))
        (pss_one (ps_raiseUp rfl BE.u BE.g hr (takes_of rfl rfl rfl rfl) (pa_cons pe_str pa_nil) (by rfl))) pss_nil)
      (pss_cons (ps_if (pt_not (pt_val (pe_call (ok_is_within T) (hr.mono (by decide)) (by rfl) T.is_within.m T.is_within.f.kp (bd_is_within T) .nil passE (pa_cons (pv 3) (pa_cons (pe_glob (v := .int (-512)) (by rfl) hc2 ⟨_, rfl⟩) (pa_cons (pe_glob (v := .int 511) (by rfl) hc3 ⟨_, rfl⟩) pa_nil))))))
        (pss_one (ps_raiseUp rfl BE.u BE.g hr (takes_of rfl rfl rfl rfl) (pa_cons pe_str pa_nil) (by rfl))) pss_nil)
      (pss_cons (ps_if (pt_not (pt_val (pe_call (ok_is_within T) (hr.mono (by decide)) (by rfl) T.is_within.m T.is_within.f.kp (bd_is_within T) .nil passE (pa_cons (pv 4) (pa_cons (pv 3) (pa_cons (pe_glob (v := .int 511) (by rfl) hc3 ⟨_, rfl⟩) pa_nil))))))
        (pss_one (ps_raiseUp rfl BE.u BE.g hr (takes_of rfl rfl rfl rfl) (pa_cons pe_str pa_nil) (by rfl))) pss_nil)
      (pss_cons (ps_fld (pv 0) (pv 1) rfl) (pss_cons (ps_fld (pv 0) (pv 2) rfl) (pss_cons (ps_fld (pv 0) (pv 3) rfl) (pss_cons (ps_fld (pv 0) (pv 4) rfl)
      (pss_one (ps_fld (pv 0) (pe_op op_fdiv (pe_op op_add (pv 3) (pv 4)) pe_int) rfl))))))))), ?_⟩
    have in_range : ∀ {i lo hi : Int}, lo ≤ i → i ≤ hi → within (.int i) lo hi = true := fun h1 h2 => by simp [within, h1, h2]
    refine ⟨_, rfl, _, true, _, _, rfl, .int ht, _, rfl, ?_⟩
    rw [in_range h1 h2]
    refine iteF ⟨_, rfl, _, true, _, _, rfl, .int wd, _, rfl, ?_⟩
    rw [in_range h3 h4]
    refine iteF ⟨_, rfl, _, true, _, _, rfl, .int lo, _, rfl, ?_⟩
    rw [in_range h5 (by omega)]
    refine iteF ⟨_, rfl, _, rfl, _, true, _, _, rfl, .int hi, _, rfl, ?_⟩
    rw [in_range h6 h7]
    refine iteF ⟨_, rfl, _, rfl, a, SH.C, dx, [], rfl, ha, SH.i.cl, SH.n1, by decide, _, rfl, _, rfl, a, SH.C, dx, _, rfl, upd_same, SH.i.cl, SH.n2, (by show 1 < 1000; decide), _, rfl, _, rfl, a, SH.C, dx, _, rfl, upd_same, SH.i.cl, SH.n3, (by show 2 < 1000; decide),
      _, rfl, _, rfl, a, SH.C, dx, _, rfl, upd_same, SH.i.cl, SH.n4, (by show 3 < 1000; decide), _, rfl, _, rfl, _, _, rfl, rfl, _, _, rfl, rfl, ⟨by decide, by decide⟩, _, rfl, a, SH.C, dx, _, rfl, upd_same, SH.i.cl, SH.n5, (by show 4 < 1000; decide), ?_⟩
    refine k _ upd_same fun b hb => ?_
    rw [upd_ne hb, upd_ne hb, upd_ne hb, upd_ne hb, upd_ne hb]
end
end K04
namespace K04
open PySem PySem.Spec PyProof.Rows L2 PySem.W LamX KA KW KU KL
open Evl (pss_cut tCut)
/-! ### the law's scope: a dict of sides and ends -/
abbrev kTall : Key := Sum.inr "tall"
abbrev kWide : Key := Sum.inr "wide"
abbrev kLeast : Key := Sum.inr "least"
abbrev kMost : Key := Sum.inr "most"
def scKv (t w lo hi : Int) : List (Key × V) := [(kTall, .int t), (kWide, .int w), (kLeast, .int lo), (kMost, .int hi)]
section
variable {t w lo hi : Int}
theorem kTW : ¬ kTall = kWide := by decide +kernel
theorem kTL : ¬ kTall = kLeast := by decide +kernel
theorem kTM : ¬ kTall = kMost := by decide +kernel
theorem kWL : ¬ kWide = kLeast := by decide +kernel
theorem kWM : ¬ kWide = kMost := by decide +kernel
theorem kLM : ¬ kLeast = kMost := by decide +kernel
theorem sc_tall : valV (scKv t w lo hi) kTall = some (.int t) := valV_pos rfl
theorem sc_wide : valV (scKv t w lo hi) kWide = some (.int w) := (valV_neg kTW).trans (valV_pos rfl)
theorem sc_least : valV (scKv t w lo hi) kLeast = some (.int lo) := (valV_neg kTL).trans ((valV_neg kWL).trans (valV_pos rfl))
theorem sc_most : valV (scKv t w lo hi) kMost = some (.int hi) := (valV_neg kTM).trans ((valV_neg kWM).trans ((valV_neg kLM).trans (valV_pos rfl)))
theorem sc_merge : mergeK [] (scKv t w lo hi) = scKv t w lo hi := by
  unfold scKv mergeK
  simp only [List.foldl_cons, List.foldl_nil]
  rw [putK_new (kvs := []) _ valV_nil, List.nil_append]
  rw [putK_new (k := kWide) _ ((valV_neg (show ¬ kTall = kWide from kTW)).trans valV_nil), List.cons_append, List.nil_append]
  rw [putK_new (k := kLeast) _ ((valV_neg (show ¬ kTall = kLeast from kTL)).trans ((valV_neg (show ¬ kWide = kLeast from kWL)).trans valV_nil)), List.cons_append, List.cons_append, List.nil_append]
  rw [putK_new (k := kMost) _ ((valV_neg (show ¬ kTall = kMost from kTM)).trans ((valV_neg (show ¬ kWide = kMost from kWM)).trans ((valV_neg (show ¬ kLeast = kMost from kLM)).trans valV_nil)))]
  rfl
end
/-- x is such a dict -/
structure ScV (H : Hp) (a : Addr) (t w lo hi : Int) : Prop where
  d : H a = some (.dK (scKv t w lo hi))
  t1 : 1 ≤ t
  t2 : t ≤ 16
  w1 : 1 ≤ w
  w2 : w ≤ 16
  l1 : -512 ≤ lo
  l2 : lo ≤ hi
  l3 : hi ≤ 511
theorem ScV.keep {H H' : Hp} {a : Addr} {t w lo hi : Int} (h : ScV H a t w lo hi) (e : ∀ o, H a = some o → H' a = some o) : ScV H' a t w lo hi := { h with d := e _ h.d }
def withI (lo hi n : Int) : Int := if hi < (if lo > n then lo else n) then hi else (if lo > n then lo else n)
theorem with_eq {lo hi n : Int} (h : lo ≤ hi) : withI lo hi n = if n < lo then lo else if hi < n then hi else n := by
  unfold withI
  split <;> (repeat' split) <;> omega
section
variable {P : Program} {w : World} {K : PySem.W.Frag} {mg : Str → Option Value} {base : Heap} (T : Top K mg) (SH : ShapeT K mg) (BE : BadShapeT P w K mg T.reel.C)
def spWithinL : Sp := fun vs H Q _ => ∃ (a : Addr) (t w lo hi n : Int), vs = [.ref a, .int n] ∧ ScV H a t w lo hi ∧ Q (.int (withI lo hi n)) H
def spGrain : Sp := fun vs H Q _ => ∃ (st lg cl a : Addr) (t w lo hi : Int) (m : Nat), vs = [.ref st, .ref a] ∧ ScV H a t w lo hi ∧ m ≤ 990000 ∧ StAt H st lg cl m ∧
  ∀ (i : Int) (H' : Hp), lo ≤ i → i ≤ hi → StAt H' st lg cl (m + 1) → Kp st lg H H' → Q (.int i) H'
def spLLevel : Sp := fun vs H Q _ => ∃ r l : Int, vs = [.int r, .int l] ∧ 0 ≤ l ∧ l ≤ 1000 ∧ Q (.int (levelI r l)) H
def spBuilt : Sp := fun vs H Q _ => ∃ (a : Addr) (t w lo hi g n l : Int), vs = [.ref a, .int g, .int n, .int l] ∧ ScV H a t w lo hi ∧ 0 ≤ l ∧ l ≤ 1000 ∧ Q (.int (withI lo hi (g + n * (2 * l + 1)))) H
/-- a shape by the scope -/
def spForm (C : Addr) : Sp := fun vs H Q _ => ∃ (a : Addr) (t w lo hi : Int), vs = [.ref a] ∧ ScV H a t w lo hi ∧ ∀ (x : Addr) (H' : Hp), ShV C H' (.ref x) lo hi → H x = none → Same H H' → (∀ tb, H' x ≠ some (.tbl tb)) → Q (.ref x) H'
include BE in
theorem ok_form : FnOk P w K mg base (L2.CX P w) 7 T._law_form.a T._law_form.d ["scope"] (spForm SH.C) := by
  refine T._law_form.f.okX sc__law_form (fun vs H Q E h => ?_) (fun cdv A outer s H vs Q E hr h => ?_)
  · obtain ⟨a, t, w, lo, hi, rfl, _⟩ := h
    rfl
  · obtain ⟨a, t, w, lo, hi, rfl, h, k⟩ := h
    have hu := hu_of hr
    refine ⟨_, pss_one (ps_ret (pe_make SH.M (ok_init T SH BE) (hr.mono (by decide)) (by rfl) SH.g (SH.F.binds fun _ _ _ _ _ _ us hl => match us, hl with | [_, _, _, _, _], _ => rfl) .nil passE (pa_cons (pe_dget hu (pv 0) pe_str (fun _ _ => rfl)) (pa_cons (pe_dget hu (pv 0) pe_str (fun _ _ => rfl)) (pa_cons (pe_dget hu (pv 0) pe_str (fun _ _ => rfl)) (pa_cons (pe_dget hu (pv 0) pe_str (fun _ _ => rfl)) pa_nil)))))), ?_⟩
    refine ⟨_, rfl, a, _, rfl, (show DGet H a (kV kTall) _ from sc_tall ▸ DGet.k h.d), _, rfl, a, _, rfl, (show DGet H a (kV kWide) _ from sc_wide ▸ DGet.k h.d), _, rfl, a, _, rfl, (show DGet H a (kV kLeast) _ from sc_least ▸ DGet.k h.d), _, rfl, a, _, rfl, (show DGet H a (kV kMost) _ from sc_most ▸ DGet.k h.d), fun x dx hx hdx ne => ?_⟩
    refine ⟨x, dx, t, w, lo, hi, rfl, h.t1, h.t2, h.w1, h.w2, h.l1, h.l2, h.l3, upd_same, fun H' e1 e2 => ⟨rfl, k x H' ⟨x, dx, t, w, rfl, e1, h.l1, h.l2, h.l3⟩ hx (fun b o e => ?_) (fun tb z => ?_)⟩⟩
    · have n1 : b ≠ x := ne_of_none e hx
      have n2 : b ≠ dx := ne_of_none e hdx
      rw [e2 b n1, upd_ne n1, upd_ne n2]
      exact e
    · rw [e1] at z
      cases z
end
end K04
namespace K04
open PySem PySem.Spec PyProof.Rows L2 PySem.W LamX KA KW KU KL
open Evl (pss_cut tCut)
/-! ### pairs of whole numbers in a list display -/
def tPairs0 : List (Int × Int) → TA
  | [] => tNil
  | c :: r => tCons (tTup (tCons (tC (.int c.1)) (tCons (tC (.int c.2)) tNil))) (tPairs0 r)
/-- the same, kept shut: what it is only these two rows tell -/
structure Shut where
  t : List (Int × Int) → TA
  nil : t [] = tNil
  cons : ∀ c r, t (c :: r) = tCons (tTup (tCons (tC (.int c.1)) (tCons (tC (.int c.2)) tNil))) (t r)
theorem shut_ex : Nonempty Shut := ⟨⟨tPairs0, rfl, fun _ _ => rfl⟩⟩
noncomputable def shut : Shut := Classical.choice shut_ex
noncomputable abbrev tPairs (l : List (Int × Int)) : TA := shut.t l
theorem pairs_read : ∀ (l : List (Int × Int)) (σ : L2.St) (H : Hp) (Q : List V → Hp → Prop), (∀ (ps : List Addr) (H' : Hp), Same H H' → ps.length = l.length → (∀ p ∈ ps, ∃ c ∈ l, H' p = some (.tup [.int c.1, .int c.2])) → Q (ps.map V.ref) H') → tPairs l σ H Q
  | [], σ, H, Q, k => by
    show shut.t [] σ H Q
    rw [shut.nil]
    exact k [] H (fun _ _ e => e) rfl fun p hp => nomatch hp
  | c :: r, σ, H, Q, k => by
    show shut.t (c :: r) σ H Q
    rw [shut.cons]
    refine ⟨(by show 2 ≤ sizeLine; decide), fun p hp => pairs_read r σ _ _ fun ps H' s hl h => k (p :: ps) H' ((Same.new hp).trans s) (by simp [hl]) fun q hq => ?_⟩
    rcases List.mem_cons.mp hq with e | e
    · subst e
      exact ⟨c, List.mem_cons_self, s _ _ upd_same⟩
    · obtain ⟨c', h1, h2⟩ := h q e
      exact ⟨c', List.mem_cons_of_mem _ h1, h2⟩
theorem pa_pair0 {X : Cx} : PA X [] (tPairs []) := by
  show PA X [] (shut.t [])
  rw [shut.nil]
  exact pa_nil
theorem pa_pair {X : Cx} {e : Expr} {es : List Expr} {a b : Int} {l : List (Int × Int)} (he : PE X e (tTup (tCons (tC (.int a)) (tCons (tC (.int b)) tNil)))) (h : PA X es (tPairs l)) (hs : starEach (e :: es) X.env = (false, eval e X.env) :: starEach es X.env := by rfl) : PA X (e :: es) (tPairs ((a, b) :: l)) := by
  show PA X (e :: es) (shut.t ((a, b) :: l))
  rw [shut.cons]
  exact pa_cons he h hs
section
variable {P : Program} {w : World} {K : PySem.W.Frag} {mg : Str → Option Value} {base : Heap} (T : Top K mg)
def spScope : Sp := fun vs H Q _ => ∃ (st lg cl : Addr) (m : Nat), vs = [.ref st] ∧ m ≤ 990000 ∧ StAt H st lg cl m ∧
  ∀ (a : Addr) (t w lo hi : Int) (H' : Hp), ScV H' a t w lo hi → a ≠ st → a ≠ lg → StAt H' st lg cl (m + 4) → Kp st lg H H' → Q (.ref a) H'
theorem ok_scope : FnOk P w K mg base (L2.CX P w) 3 T._law_scope.a T._law_scope.d ["state"] spScope := by
  refine T._law_scope.f.okX sc__law_scope (fun vs H Q E h => ?_) (fun cdv A outer s H vs Q E hr h => ?_)
  · obtain ⟨st, lg, cl, m, rfl, _⟩ := h
    rfl
  · obtain ⟨st, lg, cl, m, rfl, hm, S, k⟩ := h
    refine ⟨_, pss_cons (ps_set (i := 1) sc__law_scope.nd rfl (.inl rfl) (pe_lst (pa_pair (pe_tup (pa_cons pe_int (pa_cons pe_int pa_nil))) (pa_pair (pe_tup (pa_cons pe_int (pa_cons pe_int pa_nil))) (pa_pair (pe_tup (pa_cons pe_int (pa_cons pe_int pa_nil))) (pa_pair (pe_tup (pa_cons pe_int (pa_cons pe_int pa_nil))) (pa_pair (pe_tup (pa_cons pe_int (pa_cons pe_int pa_nil))) (pa_pair (pe_tup (pa_cons pe_int (pa_cons pe_int pa_nil))) (pa_pair (pe_tup (pa_cons pe_int (pa_cons pe_int pa_nil))) (pa_pair (pe_tup (pa_cons pe_int (pa_cons pe_int pa_nil))) (pa_pair (pe_tup (pa_cons pe_int (pa_cons pe_int pa_nil))) (pa_pair (pe_tup (pa_cons pe_int (pa_cons pe_int pa_nil))) (pa_pair (pe_tup (pa_cons pe_int (pa_cons pe_int pa_nil))) pa_pair0)))))))))))))
      (pss_cut (ps_set (i := 1) sc__law_scope.nd rfl (.inl rfl) (pe_ifExp (pt_cmpR op_gt (pe_call (ok_draw T) (hr.mono (by decide)) (by rfl) T._law_draw.m T._law_draw.f.kp (bd__law_draw T) .nil passE (pa_cons (pv 0) (pa_cons pe_int pa_nil))) pe_int (nomark _)) (pv 1) (pe_lst (pa_pair (pe_tup (pa_cons pe_int (pa_cons pe_int pa_nil))) (pa_pair (pe_tup (pa_cons pe_int (pa_cons pe_int pa_nil))) (pa_pair (pe_tup (pa_cons pe_int (pa_cons pe_int pa_nil))) (pa_pair (pe_tup (pa_cons pe_int (pa_cons pe_int pa_nil))) pa_pair0)))))))
      (pss_cons (ps_asg (pe_call (ok_pick T) (hr.mono (by decide)) (by rfl) T._law_pick.m T._law_pick.f.kp (bd__law_pick T) .nil passE (pa_cons (pv 0) (pa_cons (pv 1) pa_nil))) (pg_tup rfl (pgs_cons (pg_name (i := 2) sc__law_scope.nd rfl (.inl rfl)) (pgs_cons (pg_name (i := 3) sc__law_scope.nd rfl (.inl rfl)) pgs_nil))))
      (pss_cons (ps_set (i := 4) sc__law_scope.nd rfl (.inl rfl) (pe_call (ok_pick T) (hr.mono (by decide)) (by rfl) T._law_pick.m T._law_pick.f.kp (bd__law_pick T) .nil passE (pa_cons (pv 0) (pa_cons (pe_lst (pa_cons pe_int (pa_cons pe_int (pa_cons pe_int (pa_cons (pe_un un_neg pe_int) (pa_cons (pe_un un_neg pe_int) (pa_cons pe_int pa_nil))))))) pa_nil))))
      (pss_cons (ps_set (i := 5) sc__law_scope.nd rfl (.inl rfl) (pe_callB (call_min2 rfl) (by rfl) T.b_min PyProof.Rows.boot_min (pa_cons pe_int (pa_cons (pe_op op_add (pv 4) (pe_call (ok_pick T) (hr.mono (by decide)) (by rfl) T._law_pick.m T._law_pick.f.kp (bd__law_pick T) .nil passE (pa_cons (pv 0) (pa_cons (pe_lst (pa_cons pe_int (pa_cons pe_int (pa_cons pe_int (pa_cons pe_int (pa_cons pe_int (pa_cons pe_int (pa_cons pe_int pa_nil)))))))) pa_nil)))) pa_nil))))
      (pss_one (ps_ret (pe_disp (pps_cons pe_str (pv 2) (pps_cons pe_str (pv 3) (pps_cons pe_str (pv 4) (pps_cons pe_str (pv 5) pps_nil)))) (by rfl) (by rfl) (fun z => by cases z) (by decide)))))))), ?_⟩
    have ok1 : ∀ c ∈ [(1, 1), (2, 2), (2, 3), (3, 2), (4, 4), (1, 5), (5, 1), (3, 4), (2, 6), (5, 6), (9, 2)] ++ [(2, 10), (3, 16), (8, 8), (10, 9)], (1 : Int) ≤ c.1 ∧ c.1 ≤ 16 ∧ (1 : Int) ≤ c.2 ∧ c.2 ≤ 16 := by decide
    refine pairs_read [(1, 1), (2, 2), (2, 3), (3, 2), (4, 4), (1, 5), (5, 1), (3, 4), (2, 6), (5, 6), (9, 2)] _ H _ fun ps H1 s1 hl1 hp1 => ⟨?_, fun b hb => ?_⟩
    · rw [List.length_map, hl1]
      decide
    have S1 := (S.same s1).same (Same.new (o := .lst (ps.map V.ref)) hb)
    have kp1 : Kp st lg H (upd H1 b (.lst (ps.map V.ref))) := (Kp.same s1).trans (Kp.same (Same.new hb))
    have hp1 : ∀ p ∈ ps, ∃ c ∈ [(1, 1), (2, 2), (2, 3), (3, 2), (4, 4), (1, 5), (5, 1), (3, 4), (2, 6), (5, 6), (9, 2)] ++ [(2, 10), (3, 16), (8, 8), (10, 9)], (upd H1 b (.lst (ps.map V.ref))) p = some (.tup [V.int c.1, .int c.2]) := fun p hp => by
      obtain ⟨c, h1, h2⟩ := hp1 p hp
      exact ⟨c, List.mem_append_left _ h1, (Same.new hb) _ _ h2⟩
    have hb1 : (upd H1 b (.lst (ps.map V.ref))) b = some (.lst (ps.map V.ref)) := upd_same
    have nb := (S.same s1).off hb
    have lp : 0 < ps.length ∧ ps.length ≤ 11 := by
      rw [hl1]
      decide
    generalize upd H1 b (.lst (ps.map V.ref)) = H2 at S1 kp1 hp1 hb1 ⊢
    clear hb s1 hl1
    refine ⟨fun σ' H' => ∃ (b : Addr) (ps : List Addr), σ' = [some (.ref st), some (.ref b), none, none, none, none] ∧ StAt H' st lg cl (m + 1) ∧ Kp st lg H H' ∧ (∀ p ∈ ps, ∃ c ∈ [(1, 1), (2, 2), (2, 3), (3, 2), (4, 4), (1, 5), (5, 1), (3, 4), (2, 6), (5, 6), (9, 2)] ++ [(2, 10), (3, 16), (8, 8), (10, 9)], H' p = some (.tup [V.int c.1, .int c.2])) ∧ H' b = some (.lst (ps.map V.ref)) ∧ (b ≠ st ∧ b ≠ lg) ∧ 0 < ps.length ∧ ps.length ≤ 11, ?_, ?_⟩
    · refine ⟨_, rfl, st, lg, cl, 6, m, rfl, by decide, by decide, by omega, S1, fun r H3 hr3 S3 kp3 => ⟨_, _, rfl, rfl, _, rfl, ?_⟩⟩
      by_cases c : (0 : Int) < (r : Nat)
      · rw [decide_eq_true c]
        refine iteT ⟨_, rfl, b, ps, rfl, S3, kp1.trans kp3, fun p hp => ?_, kp3 _ _ hb1 nb.1 nb.2, nb, lp⟩
        obtain ⟨c, h1, h2⟩ := hp1 p hp
        have off : p ≠ st ∧ p ≠ lg := by
          obtain ⟨_, _, _, _, S', _⟩ := S1
          exact ⟨ne_of h2 S'.d (by intro z; cases z), ne_of h2 S'.l (by intro z; cases z)⟩
        exact ⟨c, h1, kp3 _ _ h2 off.1 off.2⟩
      · rw [decide_eq_false c]
        refine iteF (pairs_read [(2, 10), (3, 16), (8, 8), (10, 9)] _ H3 _ fun ps2 H4 s4 hl2 hp2 => ⟨?_, fun b2 hb2 => ⟨b2, ps2, rfl, (S3.same s4).same (Same.new hb2), ((kp1.trans kp3).trans (Kp.same s4)).trans (Kp.same (Same.new hb2)), fun p hp => ?_, upd_same, (S3.same s4).off hb2, ?_⟩⟩)
        · rw [List.length_map, hl2]
          decide
        · obtain ⟨c, h1, h2⟩ := hp2 p hp
          exact ⟨c, List.mem_append_right _ h1, (Same.new hb2) _ _ h2⟩
        · rw [hl2]
          decide
    clear S1 kp1 hp1 hb1 nb lp H2
    rintro σ H2 ⟨b, ps, rfl, S2, kp2, hp2, hb2, nb, lp1, lp2⟩
    -- tall, wide
    refine ⟨_, rfl, _, rfl, st, lg, cl, b, _, m + 1, rfl, hb2, nb.2, ?_, ?_, by omega, S2, fun x H3 hx S3 kp3 => ?_⟩
    · rw [List.length_map]
      exact lp1
    · rw [List.length_map]
      omega
    obtain ⟨p, hp, rfl⟩ := List.mem_map.mp hx
    obtain ⟨c, hc, h3⟩ := hp2 p hp
    obtain ⟨c1, c2, c3, c4⟩ := ok1 c hc
    have off : p ≠ st ∧ p ≠ lg := by
      obtain ⟨_, _, _, _, S', _⟩ := S2
      exact ⟨ne_of h3 S'.d (by intro z; cases z), ne_of h3 S'.l (by intro z; cases z)⟩
    have h4 := kp3 _ _ h3 off.1 off.2
    have kpA := kp2.trans kp3
    refine ⟨p, _, rfl, SqT.of h4, rfl, _, _, rfl, _, _, rfl, rfl, ?_⟩
    -- least
    refine ⟨_, rfl, _, rfl, _, rfl, (by show 6 ≤ sizeLine; decide), fun q hq => ⟨st, lg, cl, q, _, m + 2, rfl, upd_same, (S3.off hq).2, (by show 0 < 6; decide), (by show 6 ≤ 1000; decide), by omega, S3.same (Same.new hq), fun x H4 hx4 S4 kp4 => ?_⟩⟩
    obtain ⟨lo, rfl, lo1, lo2⟩ : ∃ lo : Int, x = .int lo ∧ -512 ≤ lo ∧ lo ≤ 3 := by
      simp only [List.mem_cons, List.not_mem_nil, or_false] at hx4
      rcases hx4 with h | h | h | h | h | h <;> exact ⟨_, h, by decide, by decide⟩
    have kpB := (kpA.trans (Kp.same (Same.new hq))).trans kp4
    -- most
    refine ⟨_, rfl, _, rfl, (by show 7 ≤ sizeLine; decide), fun q2 hq2 => ⟨st, lg, cl, q2, _, m + 3, rfl, upd_same, (S4.off hq2).2, (by show 0 < 7; decide), (by show 7 ≤ 1000; decide), by omega, S4.same (Same.new hq2), fun y H5 hx5 S5 kp5 => ?_⟩⟩
    obtain ⟨d, rfl, d1, d2⟩ : ∃ d : Int, y = .int d ∧ 0 ≤ d ∧ d ≤ 1023 := by
      simp only [List.mem_cons, List.not_mem_nil, or_false] at hx5
      rcases hx5 with h | h | h | h | h | h | h <;> exact ⟨_, h, by decide, by decide⟩
    have kpC := (kpB.trans (Kp.same (Same.new hq2))).trans kp5
    refine ⟨_, _, rfl, rfl, _, _, rfl, ?_⟩
    generalize hmost : (if lo + d < 511 then lo + d else (511 : Int)) = hi
    have hi1 : lo ≤ hi ∧ hi ≤ 511 := by
      rw [← hmost]
      split <;> omega
    -- the dict
    intro dt hdt
    refine ⟨_, rfl, _, rfl, _, rfl, _, rfl, upd_same, scKv c.1 c.2 lo hi, rfl, (by show 4 ≤ 15; decide), ?_⟩
    rw [sc_merge]
    have sm : Same H5 (upd (upd H5 dt (.dK [])) dt (.dK (scKv c.1 c.2 lo hi))) := fun b o e => by
      rw [upd_upd, upd_ne (ne_of_none e hdt)]
      exact e
    have nd := S5.off hdt
    exact k dt c.1 c.2 lo hi _ ⟨upd_same, c1, c2, c3, c4, lo1, hi1.1, hi1.2⟩ nd.1 nd.2 (S5.same sm) (kpC.trans (Kp.same sm))
end
end K04
namespace K04
open PySem PySem.Spec PyProof.Rows L2 PySem.W LamX KA KW KU KL KT
open Evl (pss_cut tCut)
/-! ### rows and planes of any values -/
def isNum : V → Bool
  | .int _ => true
  | _ => false
theorem Pl.num {K : PySem.W.Frag} {H : Hp} {x : V} {b : Bool} (h : Pl K H x b) : isNum x = b := by cases h <;> rfl
theorem Pl.keep {K : PySem.W.Frag} {H H' : Hp} {x : V} {b : Bool} (h : Pl K H x b) (s : Same H H') : Pl K H' x b := by
  cases h with
  | int i => exact .int i
  | bl i => exact .bl i
  | str i => exact .str i
  | non => exact .non
  | tup e => exact .tup (s _ _ e)
  | lst e => exact .lst (s _ _ e)
  | dK e => exact .dK (s _ _ e)
/-- no tuple -/
inductive Nt (H : Hp) : V → Prop where
  | int (i : Int) : Nt H (.int i)
  | bl (b : Bool) : Nt H (.bl b)
  | str (s : Str) : Nt H (.str s)
  | non : Nt H .non
  | lst {a : Addr} {xs : List V} (e : H a = some (.lst xs)) : Nt H (.ref a)
  | dK {a : Addr} {kvs : List (Key × V)} (e : H a = some (.dK kvs)) : Nt H (.ref a)
theorem Nt.ty {K : PySem.W.Frag} {H : Hp} {x : V} (h : Nt H x) : ∃ t : String, TyX K H x (.type t) ∧ kitB t "tuple" = some false := by
  cases h with
  | int i => exact ⟨"int", .base (.int i), by decide +kernel⟩
  | bl i => exact ⟨"bool", .base (.bl i), by decide +kernel⟩
  | str i => exact ⟨"str", .base (.str i), by decide +kernel⟩
  | non => exact ⟨"NoneType", .base .non, by decide +kernel⟩
  | lst e => exact ⟨"list", .base (.lst e), by decide +kernel⟩
  | dK e => exact ⟨"dict", .base (.dK e), by decide +kernel⟩
theorem Nt.keep {H H' : Hp} {x : V} (h : Nt H x) (s : Same H H') : Nt H' x := by
  cases h with
  | int i => exact .int i
  | bl i => exact .bl i
  | str i => exact .str i
  | non => exact .non
  | lst e => exact .lst (s _ _ e)
  | dK e => exact .dK (s _ _ e)
theorem take_map_snoc' (xs : List V) (f : V → Bool) (i : Nat) (x : V) (h : xs[i]? = some x) : ((xs.take (i + 1)).map f).map V.bl = ((xs.take i).map f).map V.bl ++ [V.bl (f x)] := by
  rw [List.take_add_one, h, List.map_append, List.map_append]
  rfl
/-- a value as a row: its items, if it is a tuple -/
inductive Rw (K : PySem.W.Frag) (H : Hp) : V → Option (List V) → Prop where
  | no {x : V} (h : Nt H x) : Rw K H x none
  | tup {a : Addr} {xs : List V} (e : H a = some (.tup xs)) (p : ∀ x ∈ xs, ∃ b, Pl K H x b) (l : xs.length ≤ 1000) : Rw K H (.ref a) (some xs)
theorem Rw.keep {K : PySem.W.Frag} {H H' : Hp} {x : V} {o : Option (List V)} (h : Rw K H x o) (s : Same H H') : Rw K H' x o := by
  cases h with
  | no h => exact .no (h.keep s)
  | tup e p l => exact .tup (s _ _ e) (fun x hx => (p x hx).imp fun b h => h.keep s) l
def rowB : Option (List V) → Bool
  | none => false
  | some xs => decide (1 ≤ xs.length) && decide (xs.length ≤ 16) && xs.all isNum
def spRow (K : PySem.W.Frag) : Sp := fun vs H Q _ => ∃ x o, vs = [x] ∧ Rw K H x o ∧ ∀ H', Same H H' → Q (.bl (rowB o)) H'
section
variable {P : Program} {w : World} {K : PySem.W.Frag} {mg : Str → Option Value} {base : Heap} (T : Top K mg)
end
end K04
namespace K04
/-! ### blocks: the mathematics -/
structure Bk where
  t : Nat
  l : Nat
  s : Nat
  deriving DecidableEq
def rootsL (h w : Nat) : List Bk := ((List.range ((h + 7) / 8)).map fun i => (List.range ((w + 7) / 8)).map fun j => (⟨8 * i, 8 * j, 8⟩ : Bk)).flatten
def fourL (b : Bk) : List Bk := [⟨b.t, b.l, b.s / 2⟩, ⟨b.t, b.l + b.s / 2, b.s / 2⟩, ⟨b.t + b.s / 2, b.l, b.s / 2⟩, ⟨b.t + b.s / 2, b.l + b.s / 2, b.s / 2⟩]
def inSh (h w : Nat) (b : Bk) : Bool := decide (b.t < h) && decide (b.l < w)
def partsL (h w : Nat) (b : Bk) : List Bk := if b.s = 2 then [] else (fourL b).filter (inSh h w)
def cellsB (h w : Nat) : Nat → Bk → List Bk
  | 0, b => [b]
  | n + 1, b => (partsL h w b).flatMap (cellsB h w n)
def lev (b : Bk) : Nat := if b.s = 8 then 2 else if b.s = 4 then 1 else 0
def cellsOf (h w : Nat) (b : Bk) : List Bk := cellsB h w (lev b) b
def cellsL (h w : Nat) : List Bk := (rootsL h w).flatMap (cellsOf h w)
/-- a block of the shape -/
structure Vb (h w : Nat) (b : Bk) : Prop where
  s : b.s = 8 ∨ b.s = 4 ∨ b.s = 2
  mt : b.t % b.s = 0
  ml : b.l % b.s = 0
  lt : b.t < h
  ll : b.l < w
theorem roots_mem {h w : Nat} {b : Bk} : b ∈ rootsL h w ↔ b.s = 8 ∧ b.t % 8 = 0 ∧ b.l % 8 = 0 ∧ b.t < h ∧ b.l < w := by
  unfold rootsL
  rw [List.mem_flatten]
  constructor
  · rintro ⟨L, hL, hb⟩
    obtain ⟨i, hi, rfl⟩ := List.mem_map.mp hL
    obtain ⟨j, hj, rfl⟩ := List.mem_map.mp hb
    have := List.mem_range.mp hi
    have := List.mem_range.mp hj
    dsimp only
    omega
  · rintro ⟨a, b1, c, d, e⟩
    refine ⟨_, List.mem_map.mpr ⟨b.t / 8, List.mem_range.mpr (by omega), rfl⟩, List.mem_map.mpr ⟨b.l / 8, List.mem_range.mpr (by omega), ?_⟩⟩
    obtain ⟨t, l, s⟩ := b
    dsimp only at *
    congr 1 <;> omega
theorem roots_vb {h w : Nat} {b : Bk} (m : b ∈ rootsL h w) : Vb h w b := by
  obtain ⟨a, b1, c, d, e⟩ := roots_mem.mp m
  exact ⟨.inl a, by rw [a]; exact b1, by rw [a]; exact c, d, e⟩
theorem parts_mem {h w : Nat} {b p : Bk} (s2 : b.s ≠ 2) : p ∈ partsL h w b ↔ p.s = b.s / 2 ∧ (p.t = b.t ∨ p.t = b.t + b.s / 2) ∧ (p.l = b.l ∨ p.l = b.l + b.s / 2) ∧ p.t < h ∧ p.l < w := by
  unfold partsL fourL inSh
  rw [if_neg s2, List.mem_filter]
  obtain ⟨t, l, s⟩ := p
  simp only [List.mem_cons, Bk.mk.injEq, List.not_mem_nil, or_false, Bool.and_eq_true, decide_eq_true_eq]
  omega
theorem parts_none {h w : Nat} {b : Bk} (s2 : b.s = 2) : partsL h w b = [] := by
  unfold partsL
  rw [if_pos s2]
theorem parts_vb {h w : Nat} {b p : Bk} (v : Vb h w b) (m : p ∈ partsL h w b) : Vb h w p ∧ p.s * 2 = b.s ∧ lev b = lev p + 1 := by
  by_cases s2 : b.s = 2
  · rw [parts_none s2] at m
    cases m
  obtain ⟨a, c, d, e, f⟩ := (parts_mem s2).mp m
  have vs := v.s
  have vt := v.mt
  have vl := v.ml
  unfold lev
  rcases vs with z | z | z
  · rw [z] at a c d vt vl ⊢
    refine ⟨⟨.inr (.inl a), ?_, ?_, e, f⟩, ?_, ?_⟩
    · rw [a]; omega
    · rw [a]; omega
    · rw [a]
    · rw [a]; rfl
  · rw [z] at a c d vt vl ⊢
    refine ⟨⟨.inr (.inr a), ?_, ?_, e, f⟩, ?_, ?_⟩
    · rw [a]; omega
    · rw [a]; omega
    · rw [a]
    · rw [a]; rfl
  · exact absurd z s2
theorem parts_some {h w : Nat} {b : Bk} (v : Vb h w b) (s2 : b.s ≠ 2) : partsL h w b ≠ [] := fun z => by
  have : (⟨b.t, b.l, b.s / 2⟩ : Bk) ∈ partsL h w b := (parts_mem s2).mpr ⟨rfl, .inl rfl, .inl rfl, v.lt, v.ll⟩
  rw [z] at this
  cases this
theorem cells_step {h w : Nat} {b : Bk} (v : Vb h w b) (s2 : b.s ≠ 2) : cellsOf h w b = (partsL h w b).flatMap (cellsOf h w) := by
  have e : ∃ n, lev b = n + 1 := by
    unfold lev
    rcases v.s with z | z | z
    · exact ⟨1, by rw [z]; rfl⟩
    · exact ⟨0, by rw [z]; rfl⟩
    · exact absurd z s2
  obtain ⟨n, e⟩ := e
  unfold cellsOf
  rw [e]
  show (partsL h w b).flatMap (cellsB h w n) = _
  rw [List.flatMap_def, List.flatMap_def]
  congr 1
  refine List.map_congr_left fun p hp => ?_
  have := (parts_vb v hp).2.2
  rw [show lev p = n by omega]
theorem cells_one {h w : Nat} {b : Bk} (s2 : b.s = 2) : cellsOf h w b = [b] := by
  unfold cellsOf lev
  rw [s2]
  rfl
/-- downwards by halves -/
theorem vb_ind {h w : Nat} {p : Bk → Prop} (h1 : ∀ b, Vb h w b → b.s = 2 → p b) (h2 : ∀ b, Vb h w b → b.s ≠ 2 → (∀ q ∈ partsL h w b, p q) → p b) : ∀ b, Vb h w b → p b := by
  have go : ∀ n b, lev b = n → Vb h w b → p b := by
    intro n
    induction n with
    | zero =>
      intro b e v
      refine h1 b v ?_
      unfold lev at e
      rcases v.s with z | z | z
      · rw [z] at e; cases e
      · rw [z] at e; cases e
      · exact z
    | succ n ih =>
      intro b e v
      refine h2 b v (fun z => by rw [lev, z] at e; cases e) fun q hq => ?_
      obtain ⟨vq, _, lq⟩ := parts_vb v hq
      exact ih q (by omega) vq
  exact fun b v => go _ b rfl v
theorem cells_in {h w : Nat} : ∀ b, Vb h w b → ∀ c ∈ cellsOf h w b, Vb h w c ∧ c.s = 2 ∧ b.t ≤ c.t ∧ c.t < b.t + b.s ∧ b.l ≤ c.l ∧ c.l < b.l + b.s := by
  refine vb_ind (fun b v e c hc => ?_) fun b v e ih c hc => ?_
  · rw [cells_one e] at hc
    rw [List.mem_singleton.mp hc]
    exact ⟨v, e, by omega⟩
  · rw [cells_step v e] at hc
    obtain ⟨q, hq, hc⟩ := List.mem_flatMap.mp hc
    obtain ⟨a1, a2, a3, a4, a5, a6⟩ := ih q hq c hc
    obtain ⟨vq, sq, _⟩ := parts_vb v hq
    obtain ⟨b1, b2, b3, _⟩ := (parts_mem e).mp hq
    exact ⟨a1, a2, by omega⟩
theorem four_pair (b : Bk) (hs : 2 ≤ b.s) : (fourL b).Pairwise fun p q => p.t + b.s / 2 ≤ q.t ∨ p.l + b.s / 2 ≤ q.l ∨ q.l + b.s / 2 ≤ p.l := by
  unfold fourL
  simp only [List.pairwise_cons, List.mem_cons, List.not_mem_nil, or_false, forall_eq_or_imp, forall_eq, List.Pairwise.nil, and_true]
  refine ⟨⟨by omega, by omega, by omega⟩, ⟨by omega, by omega⟩, by omega, fun _ z => z.elim⟩
theorem cells_nodup {h w : Nat} : ∀ b, Vb h w b → (cellsOf h w b).Nodup := by
  refine vb_ind (fun b v e => ?_) fun b v e ih => ?_
  · rw [cells_one e]
    simp
  · rw [cells_step v e]
    unfold List.Nodup
    rw [List.pairwise_flatMap]
    refine ⟨fun q hq => ih q hq, ?_⟩
    have s2 : 2 ≤ b.s := by have := v.s; omega
    have P : (partsL h w b).Pairwise fun p q => p.t + b.s / 2 ≤ q.t ∨ p.l + b.s / 2 ≤ q.l ∨ q.l + b.s / 2 ≤ p.l := by
      unfold partsL
      rw [if_neg e]
      exact (four_pair b s2).filter _
    refine P.imp_of_mem fun {p q} hp hq r x hx y hy z => ?_
    subst z
    obtain ⟨vp, sp, _⟩ := parts_vb v hp
    obtain ⟨vq, sq, _⟩ := parts_vb v hq
    have a := cells_in p vp x hx
    have c := cells_in q vq x hy
    omega
theorem all_nodup {h w : Nat} : (cellsL h w).Nodup := by
  unfold cellsL List.Nodup
  rw [List.pairwise_flatMap]
  refine ⟨fun q hq => cells_nodup q (roots_vb hq), ?_⟩
  have P : (rootsL h w).Pairwise fun p q => p.t + 8 ≤ q.t ∨ p.l + 8 ≤ q.l := by
    unfold rootsL
    rw [List.pairwise_flatten]
    constructor
    · intro L hL
      obtain ⟨i, hi, rfl⟩ := List.mem_map.mp hL
      rw [List.pairwise_map]
      exact List.pairwise_lt_range.imp fun {a c} z => .inr (by dsimp only; omega)
    · rw [List.pairwise_map]
      refine List.pairwise_lt_range.imp fun {a c} z x hx y hy => ?_
      obtain ⟨j, _, rfl⟩ := List.mem_map.mp hx
      obtain ⟨k, _, rfl⟩ := List.mem_map.mp hy
      exact .inl (by dsimp only; omega)
  refine P.imp_of_mem fun {p q} hp hq r x hx y hy z => ?_
  subst z
  have ap := (roots_mem.mp hp).1
  have aq := (roots_mem.mp hq).1
  have a := cells_in p (roots_vb hp) x hx
  have c := cells_in q (roots_vb hq) x hy
  omega
theorem flatMap_split {α β : Type} {f : α → List β} {L : List α} {a : α} (m : a ∈ L) : ∃ pre post, L.flatMap f = pre ++ f a ++ post := by
  obtain ⟨s, t, rfl⟩ := List.append_of_mem m
  exact ⟨s.flatMap f, t.flatMap f, by simp⟩
/-- every block is a root or comes of one -/
theorem up_ind {h w : Nat} {p : Bk → Prop} (h1 : ∀ b ∈ rootsL h w, p b) (h2 : ∀ b q, Vb h w b → p b → q ∈ partsL h w b → p q) : ∀ b, Vb h w b → p b := by
  have eight : ∀ b, Vb h w b → b.s = 8 → p b := fun b v e => h1 b (roots_mem.mpr ⟨e, e ▸ v.mt, e ▸ v.ml, v.lt, v.ll⟩)
  have four : ∀ b, Vb h w b → b.s = 4 → p b := fun b v e => by
    have mt := v.mt
    have ml := v.ml
    have lt := v.lt
    have ll := v.ll
    rw [e] at mt ml
    have vq : Vb h w ⟨b.t / 8 * 8, b.l / 8 * 8, 8⟩ := ⟨.inl rfl, by show b.t / 8 * 8 % 8 = 0; omega, by show b.l / 8 * 8 % 8 = 0; omega, by show b.t / 8 * 8 < h; omega, by show b.l / 8 * 8 < w; omega⟩
    refine h2 _ b vq (eight _ vq rfl) ((parts_mem (by show ¬ 8 = 2; decide)).mpr ⟨by dsimp only; omega, ?_, ?_, lt, ll⟩)
    · dsimp only; omega
    · dsimp only; omega
  intro b v
  rcases v.s with e | e | e
  · exact eight b v e
  · exact four b v e
  · have mt := v.mt
    have ml := v.ml
    have lt := v.lt
    have ll := v.ll
    rw [e] at mt ml
    have vq : Vb h w ⟨b.t / 4 * 4, b.l / 4 * 4, 4⟩ := ⟨.inr (.inl rfl), by show b.t / 4 * 4 % 4 = 0; omega, by show b.l / 4 * 4 % 4 = 0; omega, by show b.t / 4 * 4 < h; omega, by show b.l / 4 * 4 < w; omega⟩
    refine h2 _ b vq (four _ vq rfl) ((parts_mem (by show ¬ 4 = 2; decide)).mpr ⟨by dsimp only; omega, ?_, ?_, lt, ll⟩)
    · dsimp only; omega
    · dsimp only; omega
/-- a block's cells stand together -/
theorem cells_part {h w : Nat} : ∀ b, Vb h w b → ∃ pre post, cellsL h w = pre ++ cellsOf h w b ++ post := by
  refine up_ind (fun b hb => flatMap_split hb) fun b q v ⟨pre, post, e⟩ hq => ?_
  have s2 : b.s ≠ 2 := fun z => by rw [parts_none z] at hq; cases hq
  rw [cells_step v s2] at e
  obtain ⟨p2, q2, e2⟩ := flatMap_split (f := cellsOf h w) hq
  exact ⟨pre ++ p2, q2 ++ post, by rw [e, e2]; simp⟩
theorem cells_first {h w : Nat} : ∀ b, Vb h w b → ∃ r, cellsOf h w b = ⟨b.t, b.l, 2⟩ :: r := by
  refine vb_ind (fun b v e => ⟨[], ?_⟩) fun b v e ih => ?_
  · rw [cells_one e]
    obtain ⟨t, l, s⟩ := b
    cases e
    rfl
  · have hm : (⟨b.t, b.l, b.s / 2⟩ : Bk) ∈ partsL h w b := (parts_mem e).mpr ⟨rfl, .inl rfl, .inl rfl, v.lt, v.ll⟩
    obtain ⟨r, er⟩ := ih _ hm
    have : ∃ R, partsL h w b = ⟨b.t, b.l, b.s / 2⟩ :: R := by
      unfold partsL fourL
      rw [if_neg e, List.filter_cons, if_pos (by unfold inSh; simp [v.lt, v.ll])]
      exact ⟨_, rfl⟩
    obtain ⟨R, eR⟩ := this
    rw [cells_step v e, eR, List.flatMap_cons, er]
    exact ⟨_, rfl⟩
def rowsN (h : Nat) (b : Bk) : Nat := min (b.t + b.s) h - b.t
def colsN (w : Nat) (b : Bk) : Nat := min (b.l + b.s) w - b.l
def manyC (h w : Nat) (b : Bk) : Nat := (rowsN h b + 1) / 2 * ((colsN w b + 1) / 2)
theorem cells_many {h w : Nat} : ∀ b, Vb h w b → (cellsOf h w b).length = manyC h w b := by
  refine vb_ind (fun b v e => ?_) fun b v e ih => ?_
  · rw [cells_one e]
    unfold manyC rowsN colsN
    have := v.lt
    have := v.ll
    rw [e]
    have e1 : (min (b.t + 2) h - b.t + 1) / 2 = 1 := by omega
    have e2 : (min (b.l + 2) w - b.l + 1) / 2 = 1 := by omega
    rw [e1, e2]
    rfl
  · rw [cells_step v e, List.length_flatMap, List.map_congr_left (g := manyC h w) ih]
    obtain ⟨u, hu⟩ : ∃ u, b.s = 4 * u ∧ 1 ≤ u := by
      rcases v.s with z | z | z
      · exact ⟨2, z, by decide⟩
      · exact ⟨1, z, by decide⟩
      · exact absurd z e
    have mt := v.mt
    have ml := v.ml
    have lt := v.lt
    have ll := v.ll
    unfold partsL fourL
    rw [if_neg e]
    have hf : b.s / 2 = 2 * u := by omega
    rw [hf]
    have ss : ∀ c : Bool, ∀ (x : Bk) (L : List Bk), ((if c = true then x :: L else L).map (manyC h w)).sum = (if c = true then manyC h w x else 0) + (L.map (manyC h w)).sum := fun c x L => by
      cases c <;> simp
    simp only [List.filter_cons, List.filter_nil]
    rw [ss, ss, ss, ss]
    unfold manyC inSh rowsN colsN
    rw [hu.1]
    dsimp only
    -- rows and columns by halves
    have R : (min (b.t + 4 * u) h - b.t + 1) / 2 = (min (b.t + 2 * u) h - b.t + 1) / 2 + (if b.t + 2 * u < h then (min (b.t + 2 * u + 2 * u) h - (b.t + 2 * u) + 1) / 2 else 0) := by
      split <;> omega
    have C : (min (b.l + 4 * u) w - b.l + 1) / 2 = (min (b.l + 2 * u) w - b.l + 1) / 2 + (if b.l + 2 * u < w then (min (b.l + 2 * u + 2 * u) w - (b.l + 2 * u) + 1) / 2 else 0) := by
      split <;> omega
    rw [R, C]
    generalize (min (b.t + 2 * u) h - b.t + 1) / 2 = r1
    generalize (min (b.t + 2 * u + 2 * u) h - (b.t + 2 * u) + 1) / 2 = r2
    generalize (min (b.l + 2 * u) w - b.l + 1) / 2 = c1
    generalize (min (b.l + 2 * u + 2 * u) w - (b.l + 2 * u) + 1) / 2 = c2
    by_cases x1 : b.t + 2 * u < h <;> by_cases x2 : b.l + 2 * u < w <;> simp [lt, ll, x1, x2, Nat.add_mul, Nat.mul_add] <;> omega
/-- the place where a block begins -/
def placeB (h w : Nat) (b : Bk) : Nat := (cellsL h w).idxOf ⟨b.t, b.l, 2⟩
theorem idx_of {α : Type} [DecidableEq α] {L : List α} (n : L.Nodup) {i : Nat} {x : α} (e : L[i]? = some x) : L.idxOf x = i := by
  obtain ⟨hi, hx⟩ := List.getElem?_eq_some_iff.mp e
  have m : x ∈ L := hx ▸ List.getElem_mem hi
  have q := List.idxOf_lt_length_of_mem m
  exact (List.getElem?_inj q n).mp (by rw [List.getElem?_eq_getElem q, List.getElem_idxOf, e])
theorem place_at {h w : Nat} {b : Bk} (v : Vb h w b) : ∀ i x, (cellsOf h w b)[i]? = some x → (cellsL h w)[placeB h w b + i]? = some x := fun i x e => by
  obtain ⟨pre, post, ea⟩ := cells_part b v
  obtain ⟨r, er⟩ := cells_first b v
  have p : placeB h w b = pre.length := idx_of all_nodup (by rw [ea, er]; simp)
  have hi := (List.getElem?_eq_some_iff.mp e).1
  rw [p, ea, List.append_assoc, List.getElem?_append_right (by omega), Nat.add_sub_cancel_left, List.getElem?_append_left hi]
  exact e
theorem place_le {h w : Nat} {b : Bk} (v : Vb h w b) : placeB h w b + manyC h w b ≤ (cellsL h w).length := by
  obtain ⟨pre, post, ea⟩ := cells_part b v
  obtain ⟨r, er⟩ := cells_first b v
  have p : placeB h w b = pre.length := idx_of all_nodup (by rw [ea, er]; simp)
  rw [← cells_many b v, ea, p, List.length_append, List.length_append]
  omega
theorem many_pos {h w : Nat} {b : Bk} (v : Vb h w b) : 1 ≤ manyC h w b := by
  obtain ⟨r, er⟩ := cells_first b v
  rw [← cells_many b v, er]
  simp
end K04
namespace K04
open PySem PySem.Spec PyProof.Rows L2 PySem.W LamX KA KW KU KL KT
open Evl (pss_cut tCut)
/-! ### blocks of any values -/
def bkV (b : Bk) : List V := [.int (b.t : Int), .int (b.l : Int), .int (b.s : Int)]
/-- x is a shape of h rows and w columns -/
def Shp (C : Addr) (H : Hp) (x : V) (h w : Nat) : Prop := ∃ (a dx : Addr) (lo hi : Int), x = .ref a ∧ H a = some (.ins C dx (shapeFs (h : Int) (w : Int) lo hi)) ∧ 1 ≤ h ∧ h ≤ 16 ∧ 1 ≤ w ∧ w ≤ 16 ∧ -512 ≤ lo ∧ lo ≤ hi ∧ hi ≤ 511
theorem Shp.keep {C : Addr} {H H' : Hp} {x : V} {h w : Nat} (p : Shp C H x h w) (s : Same H H') : Shp C H' x h w := by
  obtain ⟨a, dx, lo, hi, rfl, e, q⟩ := p
  exact ⟨a, dx, lo, hi, rfl, s _ _ e, q⟩
theorem Shp.v {C : Addr} {H : Hp} {x : V} {h w : Nat} (p : Shp C H x h w) : ∃ lo hi, ShV C H x lo hi := by
  obtain ⟨a, dx, lo, hi, rfl, e, _, _, _, _, q⟩ := p
  exact ⟨lo, hi, a, dx, _, _, rfl, e, q⟩
theorem Shp.b {C : Addr} {H : Hp} {x : V} {h w : Nat} (p : Shp C H x h w) : 1 ≤ h ∧ h ≤ 16 ∧ 1 ≤ w ∧ w ≤ 16 := by
  obtain ⟨a, dx, lo, hi, rfl, e, a1, a2, a3, a4, _⟩ := p
  exact ⟨a1, a2, a3, a4⟩
/-- the sizes that the top has written -/
structure SzT (K : PySem.W.Frag) (mg : Str → Option Value) where
  a : Addr
  m : mg "SIZES" = some (.ref a)
  q : ∀ H, SqT K H a [.int 8, .int 4, .int 2]
def tupOf (o : Option (List V)) (n : Nat) : Bool := match o with
  | some xs => decide (xs.length = n)
  | none => false
def modB : V → V → Bool
  | .int a, .int c => decide (a % c = 0)
  | _, _ => false
def inSz (z : V) : Bool := inV z [.int 8, .int 4, .int 2]
def blkB (h w : Nat) (o : Option (List V)) : Bool := match o with
  | some [x, y, z] => within z 2 8 && inSz z && (within x 0 ((h : Int) - 1) && within y 0 ((w : Int) - 1)) && (modB x z && modB y z)
  | _ => false
theorem inSz_int {c : Int} : inSz (.int c) = decide (c = 8 ∨ c = 4 ∨ c = 2) := by
  unfold inSz inV
  simp only [List.any_cons, List.any_nil, Bool.or_false]
  have e : ∀ k : Int, eqV (.int k) (.int c) = decide (k = c) := fun k => by
    show decide (k = c) = _
    rfl
  rw [e, e, e]
  rw [← Bool.decide_or, ← Bool.decide_or]
  exact decide_eq_decide.mpr (by omega)
theorem blkB_iff {h w : Nat} {o : Option (List V)} : blkB h w o = true ↔ ∃ b, Vb h w b ∧ o = some (bkV b) := by
  constructor
  · intro e
    unfold blkB at e
    split at e
    · next x y z =>
      simp only [Bool.and_eq_true] at e
      obtain ⟨⟨⟨e1, e2⟩, e3, e4⟩, e5, e6⟩ := e
      obtain ⟨c, rfl, c1, c2⟩ := within_int e1
      obtain ⟨a, rfl, a1, a2⟩ := within_int e3
      obtain ⟨b, rfl, b1, b2⟩ := within_int e4
      rw [inSz_int, decide_eq_true_eq] at e2
      unfold modB at e5 e6
      dsimp only at e5 e6
      rw [decide_eq_true_eq] at e5 e6
      refine ⟨⟨a.toNat, b.toNat, c.toNat⟩, ⟨by dsimp only; omega, ?_, ?_, by dsimp only; omega, by dsimp only; omega⟩, ?_⟩
      · dsimp only
        rcases e2 with z | z | z <;> subst z
        · show a.toNat % 8 = 0
          omega
        · show a.toNat % 4 = 0
          omega
        · show a.toNat % 2 = 0
          omega
      · dsimp only
        rcases e2 with z | z | z <;> subst z
        · show b.toNat % 8 = 0
          omega
        · show b.toNat % 4 = 0
          omega
        · show b.toNat % 2 = 0
          omega
      · unfold bkV
        rw [show ((a.toNat : Nat) : Int) = a by omega, show ((b.toNat : Nat) : Int) = b by omega, show ((c.toNat : Nat) : Int) = c by omega]
    · cases e
  · rintro ⟨b, v, rfl⟩
    have s := v.s
    have mt := v.mt
    have ml := v.ml
    have lt := v.lt
    have ll := v.ll
    show (within (.int (b.s : Int)) 2 8 && inSz (.int (b.s : Int)) && (within (.int (b.t : Int)) 0 ((h : Int) - 1) && within (.int (b.l : Int)) 0 ((w : Int) - 1)) && (modB (.int (b.t : Int)) (.int (b.s : Int)) && modB (.int (b.l : Int)) (.int (b.s : Int)))) = true
    have wi : ∀ i lo hi : Int, within (.int i) lo hi = (decide (lo ≤ i) && decide (i ≤ hi)) := fun _ _ _ => rfl
    have mo : ∀ i j : Int, modB (.int i) (.int j) = decide (i % j = 0) := fun _ _ => rfl
    rw [wi, wi, wi, mo, mo, inSz_int]
    simp only [Bool.and_eq_true, decide_eq_true_eq]
    refine ⟨⟨⟨⟨by omega, by omega⟩, by omega⟩, ⟨by omega, by omega⟩, by omega, by omega⟩, ?_, ?_⟩
    · rw [← Int.natCast_emod, mt]; rfl
    · rw [← Int.natCast_emod, ml]; rfl
def spTupOf (K : PySem.W.Frag) : Sp := fun vs H Q _ => ∃ (x : V) (o : Option (List V)) (n : Nat), vs = [x, .int (n : Int)] ∧ Rw K H x o ∧ Q (.bl (tupOf o n)) H
def spIsBlk (K : PySem.W.Frag) (C : Addr) : Sp := fun vs H Q _ => ∃ (sh x : V) (o : Option (List V)) (h w : Nat), vs = [sh, x] ∧ Shp C H sh h w ∧ Rw K H x o ∧ Q (.bl (blkB h w o)) H
def spChkBlk (K : PySem.W.Frag) (C CB : Addr) : Sp := fun vs H Q E => ∃ (sh x : V) (o : Option (List V)) (h w : Nat), vs = [sh, x] ∧ Shp C H sh h w ∧ Rw K H x o ∧ (blkB h w o = true → Q .non H) ∧ (blkB h w o = false → E (.ref CB) none H)
section
variable {P : Program} {w : World} {K : PySem.W.Frag} {mg : Str → Option Value} {base : Heap} (T : Top K mg) (SH : ShapeT K mg) (Z : SzT K mg)
theorem ok_is_tuple_of : FnOk P w K mg base (L2.CX P w) 1 T.is_tuple_of.a T.is_tuple_of.d ["thing", "many"] (spTupOf K) := by
  refine T.is_tuple_of.f.okX sc_is_tuple_of (fun vs H Q E h => ?_) (fun cdv A outer s H vs Q E hr h => ?_)
  · obtain ⟨x, o, n, rfl, _⟩ := h
    rfl
  · obtain ⟨x, o, n, rfl, hp, k⟩ := h
    refine ⟨_, pss_one (ps_ret (pe_and (pe_callB call_isi (by rfl) T.b_isinstance PyProof.Rows.boot_isinstance (pa_cons (pv 0) (pa_cons (pe_bltn (v := .ty "tuple") (by rfl) T.b_tuple (by decide +kernel) rfl) pa_nil)))
      (pe_one (pe_cmpR op_eq (pe_callB call_len_seq (by rfl) T.b_len PySem.boot_len (pa_cons (pv 0) pa_nil)) (pv 1) (nomark _))))), ?_⟩
    cases hp with
    | no hn =>
      obtain ⟨t, ht, h1⟩ := hn.ty (K := K)
      refine ⟨_, rfl, x, _, _, _, _, rfl, .ty "tuple", ht, kit_ty h1, _, rfl, ?_⟩
      exact iteF k
    | @tup a xs e p l =>
      refine ⟨_, rfl, _, _, _, _, true, rfl, .ty "tuple", .base (.tup e), kit_ty (by decide +kernel), _, rfl, iteT ⟨_, rfl, a, xs, rfl, .inr (SqT.of e), _, rfl, rfl, ?_⟩⟩
      refine q_bl k ?_
      show decide (V.int ((xs.length : Nat) : Int) = V.int ((n : Nat) : Int)) = decide (xs.length = n)
      exact decide_eq_decide.mpr ⟨fun z => by have := V.int.inj z; omega, fun z => by rw [z]⟩
include Z in
theorem ok_is_block_of : FnOk P w K mg base (L2.CX P w) 4 T.is_block_of.a T.is_block_of.d ["shape", "thing"] (spIsBlk K SH.C) := by
  refine T.is_block_of.f.okX sc_is_block_of (fun vs H Q E h => ?_) (fun cdv A outer s H vs Q E hr h => ?_)
  · obtain ⟨sh, x, o, h, w, rfl, _⟩ := h
    rfl
  · obtain ⟨sh, x, o, h, wn, rfl, shp, hp, k⟩ := h
    refine ⟨_, pss_cons (ps_if (pt_not (pt_val (pe_call (ok_is_tuple_of T) (hr.mono (by decide)) (by rfl) T.is_tuple_of.m T.is_tuple_of.f.kp (bd_is_tuple_of T) .nil passE (pa_cons (pv 1) (pa_cons pe_int pa_nil))))) (pss_one (ps_ret pe_bl)) pss_nil)
      (pss_cons (ps_asg (pv 1) (pg_tup rfl (pgs_cons (pg_name (i := 2) sc_is_block_of.nd rfl (.inl rfl)) (pgs_cons (pg_name (i := 3) sc_is_block_of.nd rfl (.inl rfl)) (pgs_cons (pg_name (i := 4) sc_is_block_of.nd rfl (.inl rfl)) pgs_nil)))))
      (pss_cons (ps_if (PW.pt (pw_or (pt_not (pt_val (pe_call (ok_is_within T) (hr.mono (by decide)) (by rfl) T.is_within.m T.is_within.f.kp (bd_is_within T) .nil passE (pa_cons (pv 4) (pa_cons pe_int (pa_cons pe_int pa_nil))))))
        (pw_or1 (pt_cmpR op_notIn_seq (pv 4) (pe_glob (v := .ref Z.a) (by rfl) Z.m rfl) (by rfl))))) (pss_one (ps_ret pe_bl)) pss_nil)
      (pss_cons (ps_if (PW.pt (pw_or (pt_not (pt_val (pe_call (ok_is_within T) (hr.mono (by decide)) (by rfl) T.is_within.m T.is_within.f.kp (bd_is_within T) .nil passE (pa_cons (pv 2) (pa_cons pe_int (pa_cons (pe_op op_sub (pe_fld (pv 0) rfl) pe_int) pa_nil))))))
        (pw_or1 (pt_not (pt_val (pe_call (ok_is_within T) (hr.mono (by decide)) (by rfl) T.is_within.m T.is_within.f.kp (bd_is_within T) .nil passE (pa_cons (pv 3) (pa_cons pe_int (pa_cons (pe_op op_sub (pe_fld (pv 0) rfl) pe_int) pa_nil))))))))) (pss_one (ps_ret pe_bl)) pss_nil)
      (pss_one (ps_ret (pe_and (pe_cmpR op_eq (pe_op op_mod (pv 2) (pv 4)) pe_int (nomark _)) (pe_one (pe_cmpR op_eq (pe_op op_mod (pv 3) (pv 4)) pe_int (nomark _))))))))), ?_⟩
    refine ⟨_, rfl, x, o, 3, rfl, hp, _, rfl, ?_⟩
    cases ht : tupOf o 3
    · refine iteT (q_bl k ?_)
      unfold tupOf at ht
      unfold blkB
      split at ht
      · next xs =>
        rw [decide_eq_false_iff_not] at ht
        split
        · next e => cases e; exact absurd rfl ht
        · rfl
      · rfl
    refine iteF ?_
    obtain ⟨a, ex, ey, ez, rfl, rfl, ea, pl⟩ : ∃ (a : Addr) (ex ey ez : V), x = .ref a ∧ o = some [ex, ey, ez] ∧ H a = some (.tup [ex, ey, ez]) ∧ ∀ x ∈ [ex, ey, ez], ∃ b, Pl K H x b := by
      cases hp with
      | no hn => cases ht
      | @tup a xs e p l =>
        have lx : xs.length = 3 := of_decide_eq_true ht
        match xs, lx, e, p with
        | [ex, ey, ez], _, e, p => exact ⟨a, ex, ey, ez, rfl, rfl, e, p⟩
    obtain ⟨bx, px⟩ := pl ex (by simp)
    obtain ⟨by', py⟩ := pl ey (by simp)
    obtain ⟨bz, pz⟩ := pl ez (by simp)
    obtain ⟨sa, dx, lo, hi, rfl, es, h1, h2, w1, w2, _⟩ := shp
    have kk : ∀ c, c = blkB h wn (some [ex, ey, ez]) → Q (.bl c) H := fun c e => q_bl k e
    have e0 : blkB h wn (some [ex, ey, ez]) = (within ez 2 8 && inSz ez && (within ex 0 ((h : Int) - 1) && within ey 0 ((wn : Int) - 1)) && (modB ex ez && modB ey ez)) := rfl
    rw [e0] at kk
    refine ⟨_, rfl, a, _, rfl, SqT.of ea, rfl, _, _, rfl, _, _, rfl, _, _, rfl, rfl, ?_⟩
    refine ⟨_, rfl, _, bz, _, _, rfl, pz, _, rfl, ?_⟩
    cases c1 : within ez 2 8
    · exact iteT (iteT (kk _ (by rw [c1]; rfl)))
    obtain ⟨z, rfl, z1, z2⟩ := within_int c1
    refine iteF ⟨_, rfl, Z.a, _, rfl, .inr (Z.q H), rfl, rfl, _, rfl, ?_⟩
    cases c2 : inSz (.int z)
    · rw [show (if true = true then !inV (V.int z) [V.int 8, .int 4, .int 2] else inV (V.int z) [V.int 8, .int 4, .int 2]) = true by unfold inSz at c2; rw [c2]; rfl]
      exact iteT (kk _ (by rw [c1, c2]; rfl))
    rw [show (if true = true then !inV (V.int z) [V.int 8, .int 4, .int 2] else inV (V.int z) [V.int 8, .int 4, .int 2]) = false by unfold inSz at c2; rw [c2]; rfl]
    refine iteF ?_
    refine ⟨_, rfl, _, rfl, sa, SH.C, dx, _, _, rfl, es, SH.i.cl, SH.n1, rfl, _, _, rfl, rfl, _, bx, _, _, rfl, px, _, rfl, ?_⟩
    cases c3 : within ex 0 ((h : Int) - 1)
    · exact iteT (iteT (kk _ (by rw [c1, c2, c3]; rfl)))
    obtain ⟨i, rfl, i1, i2⟩ := within_int c3
    refine iteF ⟨_, rfl, _, rfl, sa, SH.C, dx, _, _, rfl, es, SH.i.cl, SH.n2, rfl, _, _, rfl, rfl, _, by', _, _, rfl, py, _, rfl, ?_⟩
    cases c4 : within ey 0 ((wn : Int) - 1)
    · exact iteT (kk _ (by rw [c1, c2, c3, c4]; rfl))
    obtain ⟨j, rfl, j1, j2⟩ := within_int c4
    rw [c1, c2, c3, c4] at kk
    refine iteF ?_
    have zp : 0 < z := by omega
    have sc : ∀ i j : Int, decide (V.int i = V.int j) = decide (i = j) := fun i j => decide_eq_decide.mpr ⟨fun z => V.int.inj z, fun z => by rw [z]⟩
    refine ⟨_, rfl, _, rfl, _, _, rfl, rfl, zp, rfl, _, rfl, ?_⟩
    rw [sc]
    cases c5 : decide (i % z = 0)
    · exact iteF (kk _ (by show false = (true && (decide (i % z = 0) && _)); rw [c5]; rfl))
    refine iteT ⟨_, rfl, _, rfl, _, _, rfl, rfl, zp, rfl, ?_⟩
    rw [sc]
    exact kk _ (by show decide (j % z = 0) = (true && (decide (i % z = 0) && decide (j % z = 0))); rw [c5]; rfl)
end
end K04
namespace K04
open PySem PySem.Spec PyProof.Rows L2 PySem.W LamX KA KW KU KL KT
open Evl (pss_cut tCut)
/-! ### lists of new tuples, loops within loops -/
/-- tuples stay -/
def Tp (H H' : Hp) : Prop := ∀ b xs, H b = some (.tup xs) → H' b = some (.tup xs)
theorem Tp.same {H H' : Hp} (s : Same H H') : Tp H H' := fun b xs e => s _ _ e
theorem Tp.trans {H H1 H2 : Hp} (a : Tp H H1) (b : Tp H1 H2) : Tp H H2 := fun c xs e => b _ _ (a _ _ e)
theorem Tp.put {H : Hp} {D : Addr} {xs : List V} {o : HO} (h : H D = some (.lst xs)) : Tp H (upd H D o) := fun b ys e => by
  rw [upd_ne (fun z => by rw [z, h] at e; cases e)]
  exact e
theorem Tp.kp {st lg cl : Addr} {m : Nat} {H H' : Hp} (S : StAt H st lg cl m) (k : Kp st lg H H') : Tp H H' := fun b xs e => by
  obtain ⟨_, _, _, _, s, _⟩ := S
  exact k _ _ e (ne_of e s.d (by intro z; cases z)) (ne_of e s.l (by intro z; cases z))
theorem Same.put {H H' : Hp} {D : Addr} {o : HO} (s : Same H H') (hD : H D = none) : Same H (upd H' D o) := fun b u e => by
  rw [upd_ne (fun z => by rw [z, hD] at e; cases e)]
  exact s _ _ e
/-- v is the tuple of these values -/
def TupAt (H : Hp) (v : V) (xs : List V) : Prop := ∃ p, v = .ref p ∧ H p = some (.tup xs)
theorem TupAt.tp {H H' : Hp} {v : V} {xs : List V} (h : TupAt H v xs) (t : Tp H H') : TupAt H' v xs := by
  obtain ⟨p, e, q⟩ := h
  exact ⟨p, e, t _ _ q⟩
/-- these are tuples, as f tells -/
def RL {α : Type} (f : α → List V) (H : Hp) (vs : List V) (as : List α) : Prop := vs.length = as.length ∧ ∀ (i : Nat) (v : V), vs[i]? = some v → ∃ a, as[i]? = some a ∧ TupAt H v (f a)
section
variable {α : Type} {f : α → List V} {H H' : Hp} {vs us : List V} {as bs : List α}
theorem RL.nil : RL f H [] [] := ⟨rfl, fun i v h => by simp at h⟩
theorem RL.tp (r : RL f H vs as) (t : Tp H H') : RL f H' vs as := ⟨r.1, fun i v h => by
  obtain ⟨a, e, q⟩ := r.2 i v h
  exact ⟨a, e, q.tp t⟩⟩
theorem RL.same (r : RL f H vs as) (t : Same H H') : RL f H' vs as := r.tp (Tp.same t)
theorem RL.append (r : RL f H vs as) (q : RL f H us bs) : RL f H (vs ++ us) (as ++ bs) := ⟨by rw [List.length_append, List.length_append, r.1, q.1], fun i v h => by
  by_cases c : i < vs.length
  · rw [List.getElem?_append_left c] at h
    obtain ⟨a, e, z⟩ := r.2 i v h
    exact ⟨a, by rw [List.getElem?_append_left (by rw [← r.1]; exact c)]; exact e, z⟩
  · rw [List.getElem?_append_right (by omega)] at h
    obtain ⟨a, e, z⟩ := q.2 _ v h
    exact ⟨a, by rw [List.getElem?_append_right (by rw [← r.1]; omega), ← r.1]; exact e, z⟩⟩
theorem RL.one {v : V} {a : α} (h : TupAt H v (f a)) : RL f H [v] [a] := ⟨rfl, fun i u e => by
  match i, e with
  | 0, e => exact ⟨a, rfl, (Option.some.inj e) ▸ h⟩⟩
theorem RL.get (r : RL f H vs as) {i : Nat} {v : V} (h : vs[i]? = some v) : ∃ p a, v = .ref p ∧ as[i]? = some a ∧ H p = some (.tup (f a)) := by
  obtain ⟨a, e, p, q, z⟩ := r.2 i v h
  exact ⟨p, a, q, e, z⟩
theorem RL.at_ (r : RL f H vs as) {i : Nat} {a : α} (h : as[i]? = some a) : ∃ p, vs[i]? = some (.ref p) ∧ H p = some (.tup (f a)) := by
  have l := (List.getElem?_eq_some_iff.mp h).1
  obtain ⟨p, a', e1, e2, e3⟩ := r.get (List.getElem?_eq_getElem (l := vs) (i := i) (by rw [r.1]; exact l))
  rw [h] at e2
  cases e2
  exact ⟨p, by rw [List.getElem?_eq_getElem (by rw [r.1]; exact l), e1], e3⟩
end
/-- the list at D, made since H1 -/
def NI {α : Type} (f : α → List V) (H1 : Hp) (D : Addr) (as : List α) (H : Hp) : Prop := ∃ ws, H D = some (.lst ws) ∧ RL f H ws as ∧ Same H1 H
section
variable {α : Type} {f : α → List V} {H1 H H' : Hp} {D : Addr} {as bs : List α}
theorem NI.new (hD : H1 D = none) : NI f H1 D [] (upd H1 D (.lst [])) := ⟨[], upd_same, .nil, Same.new hD⟩
theorem NI.same (n : NI f H1 D as H) (s : Same H H') : NI f H1 D as H' := by
  obtain ⟨ws, a, b, c⟩ := n
  exact ⟨ws, s _ _ a, b.same s, c.trans s⟩
theorem NI.s (n : NI f H1 D as H) : Same H1 H := n.elim fun _ q => q.2.2
theorem NI.push {v : V} {a : α} (n : NI f H1 D as H) (hD : H1 D = none) (l : as.length < 100000) (q : TupAt H v (f a)) : ∃ acc, H D = some (.lst acc) ∧ acc.length < sizeLine ∧ NI f H1 D (as ++ [a]) (upd H D (.lst (acc ++ [v]))) := by
  obtain ⟨ws, e, r, s⟩ := n
  refine ⟨ws, e, Nat.lt_trans (by rw [r.1]; exact l) (by decide), ws ++ [v], upd_same, (r.append (.one q)).tp (Tp.put e), K04.Same.put s hD⟩
end
theorem walk_core {J : It} {n : Nat} {G : Hp → Prop} {Y : Nat → Hp → V → Hp → Prop} (w : Walk J n G Y) {H1 : Hp} {Stop : Hp → Prop} {Body : (Hp → Prop) → V → Hp → Prop} (Pv : Nat → Hp → Prop) (h0 : Pv 0 H1) (hG : ∀ i H, i ≤ n → Pv i H → G H)
    (hs : ∀ i x H H', i < n → Pv i H → Y i H x H' → Body (Pv (i + 1)) x H') (hd : ∀ H, Pv n H → Stop H) :
    ∃ W : Nat → Nat → Hp → Prop, (∃ m, W 0 m H1) ∧ ∀ i m H, W i m H → (J.stop i H ∧ Stop H) ∨ (J.go i H ∧ ∃ Nx : Hp → Prop, (∀ H', Nx H' → ∃ m', m' < m ∧ W (i + 1) m' H') ∧ ∀ x H', J.yld i H x H' → Body Nx x H') := by
  refine ⟨fun i m H => m = n - i ∧ i ≤ n ∧ Pv i H, ⟨n, by simp, Nat.zero_le _, h0⟩, ?_⟩
  rintro i m H ⟨rfl, hi, p⟩
  have q := hG i H hi p
  by_cases hlt : i < n
  · exact .inr ⟨w.goes i H hlt q, Pv (i + 1), fun H' p' => ⟨n - (i + 1), by omega, rfl, hlt, p'⟩, fun x H' y => hs i x H H' hlt p (w.yields i H x H' hlt q y)⟩
  · have e : i = n := by omega
    subst e
    exact .inl ⟨w.stops H q, hd H p⟩
/-- the inner loop of two, the list at D growing -/
theorem inn_it {J : It} {n : Nat} {G : Hp → Prop} {Y : Nat → Hp → V → Hp → Prop} (w : Walk J n G Y) {g : TG} {tt : TT} {te : TE} {vs : List Nat} {σ : L2.St} {H4 : Hp} {D : Addr} {Nx : Hp → Prop} (Pv : Nat → Hp → Prop) (h0 : Pv 0 H4) (hG : ∀ i H, i ≤ n → Pv i H → G H)
    (hs : ∀ i x H H', i < n → Pv i H → Y i H x H' → g x (wipe σ vs) H' fun σ3 H5 => wipe σ3 vs = wipe σ vs ∧ tt σ3 H5 fun b H6 => if b = true then te σ3 H6 fun y H7 => ∃ acc, H7 D = some (.lst acc) ∧ acc.length < sizeLine ∧ Pv (i + 1) (upd H7 D (.lst (acc ++ [y]))) else Pv (i + 1) H6)
    (hd : ∀ H, Pv n H → Nx H) :
    ∃ W1 : Nat → Nat → Hp → Prop, (∃ m, W1 0 m H4) ∧ ∀ j k H, W1 j k H → (J.stop j H ∧ Nx H) ∨ (J.go j H ∧ ∃ Nx1 : Hp → Prop, (∀ H', Nx1 H' → ∃ k', k' < k ∧ W1 (j + 1) k' H') ∧ ∀ x H', J.yld j H x H' → g x (wipe σ vs) H' fun σ3 H5 => wipe σ3 vs = wipe σ vs ∧ tt σ3 H5 fun b H6 =>
        if b = true then te σ3 H6 fun y H7 => ∃ acc, H7 D = some (.lst acc) ∧ acc.length < sizeLine ∧ Nx1 (upd H7 D (.lst (acc ++ [y]))) else Nx1 H6) :=
  walk_core w (Body := fun Nx1 x H' => g x (wipe σ vs) H' fun σ3 H5 => wipe σ3 vs = wipe σ vs ∧ tt σ3 H5 fun b H6 => if b = true then te σ3 H6 fun y H7 => ∃ acc, H7 D = some (.lst acc) ∧ acc.length < sizeLine ∧ Nx1 (upd H7 D (.lst (acc ++ [y]))) else Nx1 H6) Pv h0 hG hs hd
/-- the outer one -/
theorem out_it {J : It} {n : Nat} {G : Hp → Prop} {Y : Nat → Hp → V → Hp → Prop} (w : Walk J n G Y) {g : TG} {tt : TT} {wi1 : TI} {g1 : TG} {tt1 : TT} {te : TE} {vs vs1 : List Nat} {σ : L2.St} {H1 : Hp} {D : Addr} {Qd : Hp → Prop} (Pv : Nat → Hp → Prop) (h0 : Pv 0 (upd H1 D (.lst []))) (hG : ∀ i H, i ≤ n → Pv i H → G H)
    (hs : ∀ i x H H', i < n → Pv i H → Y i H x H' → g x (wipe σ vs) H' fun σ2 H2 => wipe σ2 vs = wipe σ vs ∧ tt σ2 H2 fun b H3 =>
      if b = true then wi1 σ2 H3 fun J1 H4 => ∃ W1 : Nat → Nat → Hp → Prop, (∃ m, W1 0 m H4) ∧ ∀ j k H, W1 j k H →
      (J1.stop j H ∧ Pv (i + 1) H) ∨ (J1.go j H ∧ ∃ Nx1 : Hp → Prop, (∀ H', Nx1 H' → ∃ k', k' < k ∧ W1 (j + 1) k' H') ∧ ∀ x H', J1.yld j H x H' → g1 x (wipe σ2 vs1) H' fun σ3 H5 => wipe σ3 vs1 = wipe σ2 vs1 ∧ tt1 σ3 H5 fun b H6 =>
        if b = true then te σ3 H6 fun y H7 => ∃ acc, H7 D = some (.lst acc) ∧ acc.length < sizeLine ∧ Nx1 (upd H7 D (.lst (acc ++ [y]))) else Nx1 H6) else Pv (i + 1) H3) (hd : ∀ H, Pv n H → Qd H) :
    ∃ W : Nat → Nat → Hp → Prop, (∃ m, W 0 m (upd H1 D (.lst []))) ∧ ∀ i m H, W i m H → (J.stop i H ∧ Qd H) ∨ (J.go i H ∧ ∃ Nx : Hp → Prop, (∀ H', Nx H' → ∃ m', m' < m ∧ W (i + 1) m' H') ∧ ∀ x H', J.yld i H x H' → g x (wipe σ vs) H' fun σ2 H2 => wipe σ2 vs = wipe σ vs ∧ tt σ2 H2 fun b H3 =>
      if b = true then wi1 σ2 H3 fun J1 H4 => ∃ W1 : Nat → Nat → Hp → Prop, (∃ m, W1 0 m H4) ∧ ∀ j k H, W1 j k H →
      (J1.stop j H ∧ Nx H) ∨ (J1.go j H ∧ ∃ Nx1 : Hp → Prop, (∀ H', Nx1 H' → ∃ k', k' < k ∧ W1 (j + 1) k' H') ∧ ∀ x H', J1.yld j H x H' → g1 x (wipe σ2 vs1) H' fun σ3 H5 => wipe σ3 vs1 = wipe σ2 vs1 ∧ tt1 σ3 H5 fun b H6 =>
        if b = true then te σ3 H6 fun y H7 => ∃ acc, H7 D = some (.lst acc) ∧ acc.length < sizeLine ∧ Nx1 (upd H7 D (.lst (acc ++ [y]))) else Nx1 H6) else Nx H3) :=
  walk_core w (Body := fun Nx x H' => g x (wipe σ vs) H' fun σ2 H2 => wipe σ2 vs = wipe σ vs ∧ tt σ2 H2 fun b H3 =>
      if b = true then wi1 σ2 H3 fun J1 H4 => ∃ W1 : Nat → Nat → Hp → Prop, (∃ m, W1 0 m H4) ∧ ∀ j k H, W1 j k H →
      (J1.stop j H ∧ Nx H) ∨ (J1.go j H ∧ ∃ Nx1 : Hp → Prop, (∀ H', Nx1 H' → ∃ k', k' < k ∧ W1 (j + 1) k' H') ∧ ∀ x H', J1.yld j H x H' → g1 x (wipe σ2 vs1) H' fun σ3 H5 => wipe σ3 vs1 = wipe σ2 vs1 ∧ tt1 σ3 H5 fun b H6 =>
        if b = true then te σ3 H6 fun y H7 => ∃ acc, H7 D = some (.lst acc) ∧ acc.length < sizeLine ∧ Nx1 (upd H7 D (.lst (acc ++ [y]))) else Nx1 H6) else Nx H3) Pv h0 hG hs hd
/-! ### rows, columns, spots -/
def dotV (d : Nat × Nat) : List V := [.int (d.1 : Int), .int (d.2 : Int)]
def dotsB (h w : Nat) (b : Bk) : List (Nat × Nat) := ((List.range (rowsN h b)).map fun i => (List.range (colsN w b)).map fun j => (b.t + i, b.l + j)).flatten
def rgN (a n : Nat) : List V := (List.range n).map fun i => V.int (((a + i : Nat)) : Int)
theorem rgV_N {a b : Nat} (h : a ≤ b) : rgV (a : Int) (b : Int) = rgN a (b - a) := by
  unfold rgV rgN
  rw [show ((b : Int) - (a : Int)).toNat = b - a by omega]
  refine List.map_congr_left fun i _ => ?_
  rw [Int.natCast_add]
theorem rgN_at {a n i : Nat} (h : i < n) : (rgN a n)[i]? = some (.int ((a + i : Nat) : Int)) := by
  unfold rgN
  rw [List.getElem?_map, List.getElem?_range h]
  rfl
theorem rgN_len {a n : Nat} : (rgN a n).length = n := by
  unfold rgN
  rw [List.length_map, List.length_range]
def spRowsOf (C : Addr) : Sp := fun vs H Q _ => ∃ (sh : V) (p : Addr) (b : Bk) (h w : Nat), vs = [sh, .ref p] ∧ Shp C H sh h w ∧ H p = some (.tup (bkV b)) ∧ Vb h w b ∧ ∀ q H', Same H H' → H q = none → H' q = some (.lst (rgN b.t (rowsN h b))) → Q (.ref q) H'
def spColsOf (C : Addr) : Sp := fun vs H Q _ => ∃ (sh : V) (p : Addr) (b : Bk) (h w : Nat), vs = [sh, .ref p] ∧ Shp C H sh h w ∧ H p = some (.tup (bkV b)) ∧ Vb h w b ∧ ∀ q H', Same H H' → H q = none → H' q = some (.lst (rgN b.l (colsN w b))) → Q (.ref q) H'
def spSpotsOf (C : Addr) : Sp := fun vs H Q _ => ∃ (sh : V) (p : Addr) (b : Bk) (h w : Nat), vs = [sh, .ref p] ∧ Shp C H sh h w ∧ H p = some (.tup (bkV b)) ∧ Vb h w b ∧ ∀ q us H', Same H H' → H q = none → H' q = some (.lst us) → RL dotV H' us (dotsB h w b) → Q (.ref q) H'
section
variable {P : Program} {w : World} {K : PySem.W.Frag} {mg : Str → Option Value} {base : Heap} (T : Top K mg) (SH : ShapeT K mg)
theorem ok_rows_of : FnOk P w K mg base (L2.CX P w) 1 T.rows_of.a T.rows_of.d ["shape", "block"] (spRowsOf SH.C) := by
  refine T.rows_of.f.okX sc_rows_of (fun vs H Q E h => ?_) (fun cdv A outer s H vs Q E hr h => ?_)
  · obtain ⟨sh, p, b, h, w, rfl, _⟩ := h
    rfl
  · obtain ⟨sh, p, b, h, wn, rfl, shp, hp, v, k⟩ := h
    refine ⟨_, pss_one (ps_ret (pe_listRg rfl (by rfl) T.b_list (prg_2 (by rfl) T.b_range (pe_ix ix_tup (pv 1) pe_int (fun _ _ => rfl)) (pe_callB (call_min2 rfl) (by rfl) T.b_min PyProof.Rows.boot_min (pa_cons (pe_op op_add (pe_ix ix_tup (pv 1) pe_int (fun _ _ => rfl)) (pe_ix ix_tup (pv 1) pe_int (fun _ _ => rfl))) (pa_cons (pe_fld (pv 0) rfl) pa_nil)))))), ?_⟩
    obtain ⟨sa, dx, lo, hi, rfl, es, h1, h2, w1, w2, _⟩ := shp
    have lt := v.lt
    have vs := v.s
    refine ⟨_, rfl, p, _, 0, _, rfl, rfl, SqT.of hp, atI_nat (j := 0) rfl, _, rfl, p, _, 0, _, rfl, rfl, SqT.of hp, atI_nat (j := 0) rfl, _, rfl, p, _, 2, _, rfl, rfl, SqT.of hp, atI_nat (j := 2) rfl, _, _, rfl, rfl, _, rfl, sa, SH.C, dx, _, _, rfl, es, SH.i.cl, SH.n1, rfl, _, _, rfl, _, _, rfl, rfl, ?_⟩
    have e : (if (h : Int) < (b.t : Int) + (b.s : Int) then (h : Int) else (b.t : Int) + (b.s : Int)) = ((min (b.t + b.s) h : Nat) : Int) := by
      split <;> omega
    rw [e]
    refine ⟨RgOk.of_le (by omega) (by omega) (by omega) (by omega), fun q hq => ?_⟩
    rw [rgV_N (by omega)]
    exact k q _ (Same.new hq) hq upd_same
theorem ok_cols_of : FnOk P w K mg base (L2.CX P w) 1 T.columns_of.a T.columns_of.d ["shape", "block"] (spColsOf SH.C) := by
  refine T.columns_of.f.okX sc_columns_of (fun vs H Q E h => ?_) (fun cdv A outer s H vs Q E hr h => ?_)
  · obtain ⟨sh, p, b, h, w, rfl, _⟩ := h
    rfl
  · obtain ⟨sh, p, b, h, wn, rfl, shp, hp, v, k⟩ := h
    refine ⟨_, pss_one (ps_ret (pe_listRg rfl (by rfl) T.b_list (prg_2 (by rfl) T.b_range (pe_ix ix_tup (pv 1) pe_int (fun _ _ => rfl)) (pe_callB (call_min2 rfl) (by rfl) T.b_min PyProof.Rows.boot_min (pa_cons (pe_op op_add (pe_ix ix_tup (pv 1) pe_int (fun _ _ => rfl)) (pe_ix ix_tup (pv 1) pe_int (fun _ _ => rfl))) (pa_cons (pe_fld (pv 0) rfl) pa_nil)))))), ?_⟩
    obtain ⟨sa, dx, lo, hi, rfl, es, h1, h2, w1, w2, _⟩ := shp
    have ll := v.ll
    have vs := v.s
    refine ⟨_, rfl, p, _, 1, _, rfl, rfl, SqT.of hp, atI_nat (j := 1) rfl, _, rfl, p, _, 1, _, rfl, rfl, SqT.of hp, atI_nat (j := 1) rfl, _, rfl, p, _, 2, _, rfl, rfl, SqT.of hp, atI_nat (j := 2) rfl, _, _, rfl, rfl, _, rfl, sa, SH.C, dx, _, _, rfl, es, SH.i.cl, SH.n2, rfl, _, _, rfl, _, _, rfl, rfl, ?_⟩
    have e : (if (wn : Int) < (b.l : Int) + (b.s : Int) then (wn : Int) else (b.l : Int) + (b.s : Int)) = ((min (b.l + b.s) wn : Nat) : Int) := by
      split <;> omega
    rw [e]
    refine ⟨RgOk.of_le (by omega) (by omega) (by omega) (by omega), fun q hq => ?_⟩
    rw [rgV_N (by omega)]
    exact k q _ (Same.new hq) hq upd_same
end
end K04
namespace K04
open PySem PySem.Spec PyProof.Rows L2 PySem.W LamX KA KW KU KL KT
open Evl (pss_cut tCut)
/-! ### spots, roots, quarters -/
theorem rg8 : ∀ h : Nat, h ≤ 16 → RgC 0 (h : Int) 8 ((h + 7) / 8) := by
  have q : ∀ h : Fin 17, Builtin.Range.small 0 ((h.val : Nat) : Int) 8 = true ∧ Builtin.Range.rangeSize 0 ((h.val : Nat) : Int) 8 = ((((h.val + 7) / 8 : Nat)) : Int) := by decide +kernel
  intro h hh
  obtain ⟨a, b⟩ := q ⟨h, by omega⟩
  exact ⟨by decide, by decide, a, b⟩
theorem flat_snoc {α : Type} (f : Nat → List α) (i : Nat) : ((List.range (i + 1)).map f).flatten = ((List.range i).map f).flatten ++ f i := by
  rw [List.range_succ, List.map_append, List.flatten_append]
  simp
theorem flat_le {α : Type} {f : Nat → List α} {m : Nat} (hf : ∀ i, (f i).length ≤ m) : ∀ n, (((List.range n).map f).flatten).length ≤ n * m
  | 0 => by simp
  | n + 1 => by
    rw [flat_snoc, List.length_append, Nat.succ_mul]
    have := flat_le hf n
    have := hf n
    omega
theorem two_int (a b : Nat) : V.int ((a : Int) + (b : Int)) = V.int (((a + b : Nat)) : Int) := by rw [Int.natCast_add]
def spRootsOf (C : Addr) : Sp := fun vs H Q _ => ∃ (sh : V) (h w : Nat), vs = [sh] ∧ Shp C H sh h w ∧ ∀ q us H', Same H H' → H q = none → H' q = some (.lst us) → RL bkV H' us (rootsL h w) → Q (.ref q) H'
def spQuartersOf (C : Addr) : Sp := fun vs H Q _ => ∃ (sh : V) (p : Addr) (b : Bk) (h w : Nat), vs = [sh, .ref p] ∧ Shp C H sh h w ∧ H p = some (.tup (bkV b)) ∧ Vb h w b ∧ ∀ q us H', Same H H' → H q = none → H' q = some (.lst us) → RL bkV H' us (partsL h w b) → Q (.ref q) H'
section
variable {P : Program} {w : World} {K : PySem.W.Frag} {mg : Str → Option Value} {base : Heap} (T : Top K mg) (SH : ShapeT K mg)
theorem ok_spots_of : FnOk P w K mg base (L2.CX P w) 2 T.spots_of.a T.spots_of.d ["shape", "block"] (spSpotsOf SH.C) := by
  refine T.spots_of.f.okX sc_spots_of (fun vs H Q E h => ?_) (fun cdv A outer s H vs Q E hr h => ?_)
  · obtain ⟨sh, p, b, h, w, rfl, _⟩ := h
    rfl
  · obtain ⟨sh, p, b, h, wn, rfl, shp, hp, v, k⟩ := h
    refine ⟨_, pss_one (ps_ret (show PE _ _ (tLc2 (iList K (tCall (spRowsOf SH.C) [] E0 (tCons (tVar 0) (tCons (tVar 1) tNil)))) (gName 2) tYes (iList K (tCall (spColsOf SH.C) [] E0 (tCons (tVar 0) (tCons (tVar 1) tNil)))) (gName 3) tYes (tTup (tCons (tVar 2) (tCons (tVar 3) tNil))) [2, 3] [3]) from pe_lc2 (wi1 := (iList K (tCall (spColsOf SH.C) [] E0 (tCons (tVar 0) (tCons (tVar 1) tNil))))) (te := (tTup (tCons (tVar 2) (tCons (tVar 3) tNil)))) (tt1 := tYes) (own := [("y", 2), ("x", 3)]) (vs1 := [3]) (g := gName 2) (g1 := gName 3) (tt := tYes) rfl sc_spots_of.nd (pi_list (pe_call (ok_rows_of T SH) (hr.mono (by decide)) (by rfl) T.rows_of.m T.rows_of.f.kp (bd_rows_of T) .nil passE (pa_cons (pv 0) (pa_cons (pv 1) pa_nil)))) (blkOk_by (own := [("y", 2), ("x", 3)]) (N := ["shape", "block", "y", "x"]) (sc := defScope s_spots_of) (by decide +kernel)) (by decide)
      (fun _ _ _ _ _ => pg_name (i := 2) sc_spots_of.nd rfl (Or.inl rfl)) (fun _ _ _ _ _ => pts_nil) (fun _ _ _ _ _ => pi_list (pe_call (ok_cols_of T SH) (hr.mono (by decide)) (by rfl) T.columns_of.m T.columns_of.f.kp (bd_columns_of T) .nil passE (pa_cons (pv 0) (pa_cons (pv 1) pa_nil)))) (fun _ _ _ _ _ => pg_name (i := 3) sc_spots_of.nd rfl (Or.inl rfl)) (fun _ _ _ _ _ => pts_nil) (fun _ _ _ _ _ => pe_tup (pa_cons (pv 2) (pa_cons (pv 3) pa_nil))))), ?_⟩
    have hb := shp.b
    have rn : rowsN h b ≤ 8 := by
      unfold rowsN
      have := v.s
      omega
    have cn : colsN wn b ≤ 8 := by
      unfold colsN
      have := v.s
      omega
    refine ⟨_, rfl, _, rfl, sh, p, b, h, wn, rfl, shp, hp, v, fun q H1 s1 nq lq => ⟨q, rfl, ⟨_, SqL.of lq⟩, fun D hD => ?_⟩⟩
    refine out_it walk_list (fun i H' => NI dotV H1 D (((List.range i).map fun i => (List.range (colsN wn b)).map fun j => (b.t + i, b.l + j)).flatten) H') (NI.new hD) (fun _ H' _ q' => SqL.of (q'.s _ _ lq)) ?_ ?_
    · rintro i x H3 H2 hi n ⟨rfl, hx⟩
      rw [rgN_len] at hi
      rw [rgN_at hi] at hx
      cases hx
      have s13 := s1.trans n.s
      refine ⟨rfl, ?_⟩
      dsimp only [tYes]
      rw [if_pos rfl]
      refine ⟨_, rfl, _, rfl, sh, p, b, h, wn, rfl, shp.keep s13, s13 _ _ hp, v, fun q2 H4 s4 nq2 lq2 => ⟨q2, rfl, ⟨_, SqL.of lq2⟩, ?_⟩⟩
      have nD : q2 ≠ D := fun z => by
        obtain ⟨ws, e, _⟩ := n
        rw [z, e] at nq2
        cases nq2
      rw [flat_snoc]
      have al := flat_le (f := fun i => (List.range (colsN wn b)).map fun j => (b.t + i, b.l + j)) (m := 8) (fun i => by simpa using cn) i
      generalize ((List.range i).map fun i => (List.range (colsN wn b)).map fun j => (b.t + i, b.l + j)).flatten = A at n al ⊢
      refine inn_it walk_list (g := gName 3) (tt := tYes) (te := tTup (tCons (tVar 2) (tCons (tVar 3) tNil))) (vs := [3]) (fun j H' => NI dotV H1 D (A ++ (List.range j).map fun j => (b.t + i, b.l + j)) H' ∧ H' q2 = some (.lst (rgN b.l (colsN wn b)))) ⟨by simpa using n.same s4, lq2⟩ (fun _ H' _ q' => SqL.of q'.2) ?_ ?_
      · rintro j y H6 H5 hj ⟨n5, l5⟩ ⟨rfl, hy⟩
        rw [rgN_len] at hj
        rw [rgN_at hj] at hy
        cases hy
        refine ⟨rfl, ?_⟩
        dsimp only [tYes]
        rw [if_pos rfl]
        refine ⟨_, rfl, _, rfl, (by show 2 ≤ sizeLine; decide), fun z hz => ?_⟩
        have tz := Same.new (o := .tup [V.int (((b.t + i : Nat)) : Int), .int (((b.l + j : Nat)) : Int)]) hz
        obtain ⟨acc, e1, e2, e3⟩ := (n5.same tz).push (a := (b.t + i, b.l + j)) hD (by rw [List.length_append, List.length_map, List.length_range]; omega) ⟨z, rfl, upd_same⟩
        refine ⟨acc, e1, e2, ?_, by rw [upd_ne nD]; exact tz _ _ l5⟩
        rw [List.range_succ, List.map_append, ← List.append_assoc]
        exact e3
      · rintro H5 ⟨n5, _⟩
        rw [rgN_len] at n5
        exact n5
    · rintro H2 ⟨ws, e, r, s2⟩
      rw [rgN_len] at r
      exact k D ws H2 (s1.trans s2) (s1.free hD) e r
theorem ok_roots_of : FnOk P w K mg base (L2.CX P w) 1 T.roots_of.a T.roots_of.d ["shape"] (spRootsOf SH.C) := by
  refine T.roots_of.f.okX sc_roots_of (fun vs H Q E h => ?_) (fun cdv A outer s H vs Q E hr h => ?_)
  · obtain ⟨sh, h, w, rfl, _⟩ := h
    rfl
  · obtain ⟨sh, h, wn, rfl, shp, k⟩ := h
    refine ⟨_, pss_one (ps_ret (show PE _ _ (tLc2 (iRng3 (tCons (tC (.int 0)) (tCons (tFld K (tVar 0) "height") (tCons (tC (.int 8)) tNil)))) (gName 1) tYes (iRng3 (tCons (tC (.int 0)) (tCons (tFld K (tVar 0) "width") (tCons (tC (.int 8)) tNil)))) (gName 2) tYes (tTup (tCons (tVar 1) (tCons (tVar 2) (tCons (tC (.int 8)) tNil)))) [1, 2] [2]) from pe_lc2 (wi1 := (iRng3 (tCons (tC (.int 0)) (tCons (tFld K (tVar 0) "width") (tCons (tC (.int 8)) tNil))))) (te := (tTup (tCons (tVar 1) (tCons (tVar 2) (tCons (tC (.int 8)) tNil))))) (tt1 := tYes) (own := [("top", 1), ("left", 2)]) (vs1 := [2]) (g := gName 1) (g1 := gName 2) (tt := tYes) rfl sc_roots_of.nd (pi_range3 (by rfl) T.b_range (pa_cons pe_int (pa_cons (pe_fld (pv 0) rfl) (pa_cons pe_int pa_nil)))) (blkOk_by (own := [("top", 1), ("left", 2)]) (N := ["shape", "top", "left"]) (sc := defScope s_roots_of) (by decide +kernel)) (by decide)
      (fun _ _ _ _ _ => pg_name (i := 1) sc_roots_of.nd rfl (Or.inl rfl)) (fun _ _ _ _ _ => pts_nil) (fun _ _ _ _ _ => pi_range3 (by rfl) T.b_range (pa_cons pe_int (pa_cons (pe_fld (pv 0) rfl) (pa_cons pe_int pa_nil)))) (fun _ _ _ _ _ => pg_name (i := 2) sc_roots_of.nd rfl (Or.inl rfl)) (fun _ _ _ _ _ => pts_nil) (fun _ _ _ _ _ => pe_tup (pa_cons (pv 1) (pa_cons (pv 2) (pa_cons pe_int pa_nil)))))), ?_⟩
    obtain ⟨sa, dx, lo, hi, rfl, es, h1, h2, w1, w2, _⟩ := shp
    refine ⟨_, rfl, sa, SH.C, dx, _, _, rfl, es, SH.i.cl, SH.n1, rfl, _, _, _, _, rfl, rg8 h h2, fun D hD => ?_⟩
    refine out_it walk_rangeC (fun i H' => NI bkV H D (((List.range i).map fun i => (List.range ((wn + 7) / 8)).map fun j => (⟨8 * i, 8 * j, 8⟩ : Bk)).flatten) H') (NI.new hD) (fun _ _ _ _ => trivial) ?_ ?_
    · rintro i x H3 H2 hi n ⟨rfl, rfl⟩
      refine ⟨rfl, ?_⟩
      dsimp only [tYes]
      rw [if_pos rfl]
      refine ⟨_, rfl, sa, SH.C, dx, _, _, rfl, n.s _ _ es, SH.i.cl, SH.n2, rfl, _, _, _, _, rfl, rg8 wn w2, ?_⟩
      rw [flat_snoc]
      have al := flat_le (f := fun i => (List.range ((wn + 7) / 8)).map fun j => (⟨8 * i, 8 * j, 8⟩ : Bk)) (m := 2) (fun i => by simp; omega) i
      generalize ((List.range i).map fun i => (List.range ((wn + 7) / 8)).map fun j => (⟨8 * i, 8 * j, 8⟩ : Bk)).flatten = A at n al ⊢
      refine inn_it walk_rangeC (g := gName 2) (tt := tYes) (te := tTup (tCons (tVar 1) (tCons (tVar 2) (tCons (tC (.int 8)) tNil)))) (vs := [2]) (fun j H' => NI bkV H D (A ++ (List.range j).map fun j => (⟨8 * i, 8 * j, 8⟩ : Bk)) H') (by simpa using n) (fun _ _ _ _ => trivial) ?_ fun H5 n5 => n5
      rintro j y H6 H5 hj n5 ⟨rfl, rfl⟩
      refine ⟨rfl, ?_⟩
      dsimp only [tYes]
      rw [if_pos rfl]
      refine ⟨_, rfl, _, rfl, (by show 3 ≤ sizeLine; decide), fun z hz => ?_⟩
      have tz := Same.new (o := .tup [V.int (0 + ((i : Nat) : Int) * 8), .int (0 + ((j : Nat) : Int) * 8), .int 8]) hz
      obtain ⟨acc, e1, e2, e3⟩ := (n5.same tz).push (a := (⟨8 * i, 8 * j, 8⟩ : Bk)) hD (by rw [List.length_append, List.length_map, List.length_range]; omega) ⟨z, rfl, by
        rw [upd_same]
        show some (HO.tup [V.int (0 + ((i : Nat) : Int) * 8), .int (0 + ((j : Nat) : Int) * 8), .int 8]) = some (HO.tup [V.int (((8 * i : Nat)) : Int), .int (((8 * j : Nat)) : Int), .int ((8 : Nat) : Int)])
        rw [show (0 : Int) + ((i : Nat) : Int) * 8 = ((8 * i : Nat) : Int) by omega, show (0 : Int) + ((j : Nat) : Int) * 8 = ((8 * j : Nat) : Int) by omega]
        rfl⟩
      refine ⟨acc, e1, e2, ?_⟩
      rw [List.range_succ, List.map_append, ← List.append_assoc]
      exact e3
    · rintro H2 ⟨ws, e, r, s2⟩
      exact k D ws H2 s2 hD e r
theorem filt_one {α : Type} (p : α → Bool) (a : α) : [a].filter p = if p a = true then [a] else [] := by
  cases h : p a <;> simp [h]
theorem ok_quarters_of : FnOk P w K mg base (L2.CX P w) 1 T.quarters_of.a T.quarters_of.d ["shape", "block"] (spQuartersOf SH.C) := by
  refine T.quarters_of.f.okX sc_quarters_of (fun vs H Q E h => ?_) (fun cdv A outer s H vs Q E hr h => ?_)
  · obtain ⟨sh, p, b, h, w, rfl, _⟩ := h
    rfl
  · obtain ⟨sh, p, b, h, wn, rfl, shp, hp, v, k⟩ := h
    refine ⟨_, pss_cons (ps_asg (pv 1) (pg_tup rfl (pgs_cons (pg_name (i := 2) sc_quarters_of.nd rfl (by first | exact .inl rfl | exact .inr rfl)) (pgs_cons (pg_name (i := 3) sc_quarters_of.nd rfl (by first | exact .inl rfl | exact .inr rfl)) (pgs_cons (pg_name (i := 4) sc_quarters_of.nd rfl (by first | exact .inl rfl | exact .inr rfl)) pgs_nil)))))
      (pss_cons (ps_if (pt_cmpR op_eq (pv 4) pe_int (nomark _)) (pss_one (ps_ret (pe_lst pa_nil))) pss_nil)
      (pss_cons (ps_set (i := 5) sc_quarters_of.nd rfl (by first | exact .inl rfl | exact .inr rfl) (pe_op op_fdiv (pv 4) pe_int))
      (pss_one (ps_ret (show PE _ _ (tLc2 (iTup K (tTup (tCons (tVar 2) (tCons (tOp (rI0 fun i j => V.int (i + j)) (tVar 2) (tVar 5)) tNil)))) (gName 6) tYes (iTup K (tTup (tCons (tVar 3) (tCons (tOp (rI0 fun i j => V.int (i + j)) (tVar 3) (tVar 5)) tNil)))) (gName 7) (tAnd (tTest (tOp (rI0 fun i j => V.bl (decide (i < j))) (tVar 6) (tFld K (tVar 0) "height"))) (tTest (tOp (rI0 fun i j => V.bl (decide (i < j))) (tVar 7) (tFld K (tVar 0) "width")))) (tTup (tCons (tVar 6) (tCons (tVar 7) (tCons (tVar 5) tNil)))) [6, 7] [7]) from pe_lc2 (wi1 := (iTup K (tTup (tCons (tVar 3) (tCons (tOp (rI0 fun i j => V.int (i + j)) (tVar 3) (tVar 5)) tNil))))) (te := (tTup (tCons (tVar 6) (tCons (tVar 7) (tCons (tVar 5) tNil))))) (tt1 := (tAnd (tTest (tOp (rI0 fun i j => V.bl (decide (i < j))) (tVar 6) (tFld K (tVar 0) "height"))) (tTest (tOp (rI0 fun i j => V.bl (decide (i < j))) (tVar 7) (tFld K (tVar 0) "width"))))) (own := [("y", 6), ("x", 7)]) (vs1 := [7]) (g := gName 6) (g1 := gName 7) (tt := tYes) rfl sc_quarters_of.nd (pi_tup (pe_tup (pa_cons (pv 2) (pa_cons (pe_op op_add (pv 2) (pv 5)) pa_nil)))) (blkOk_by (own := [("y", 6), ("x", 7)]) (N := ["shape", "block", "top", "left", "size", "half", "y", "x"]) (sc := defScope s_quarters_of) (by decide +kernel)) (by decide)
        (fun _ _ _ _ _ => pg_name (i := 6) sc_quarters_of.nd rfl (Or.inl rfl)) (fun _ _ _ _ _ => pts_nil) (fun _ _ _ _ _ => pi_tup (pe_tup (pa_cons (pv 3) (pa_cons (pe_op op_add (pv 3) (pv 5)) pa_nil)))) (fun _ _ _ _ _ => pg_name (i := 7) sc_quarters_of.nd rfl (Or.inl rfl))
        (fun _ _ _ _ _ => pts_one (PW.pt (pw_and (pt_cmpR op_lt (pv 6) (pe_fld (pv 0) rfl) (nomark _)) (pw_and1 (pt_cmpR op_lt (pv 7) (pe_fld (pv 0) rfl) (nomark _)))))) (fun _ _ _ _ _ => pe_tup (pa_cons (pv 6) (pa_cons (pv 7) (pa_cons (pv 5) pa_nil))))))))), ?_⟩
    obtain ⟨sa, dx, lo, hi, rfl, es, h1, h2, w1, w2, _⟩ := shp
    refine ⟨_, rfl, p, _, rfl, SqT.of hp, rfl, _, _, rfl, _, _, rfl, _, _, rfl, rfl, ?_⟩
    refine ⟨_, rfl, rfl, _, rfl, ?_⟩
    by_cases s2 : b.s = 2
    · rw [decide_eq_true (show V.int ((b.s : Nat) : Int) = V.int 2 by rw [s2]; rfl)]
      refine iteT ⟨(by show 0 ≤ sizeLine; decide), fun q hq => k q [] _ (Same.new hq) hq upd_same (by rw [parts_none s2]; exact .nil)⟩
    rw [decide_eq_false (fun z => s2 (by have := V.int.inj z; omega))]
    refine iteF ⟨_, rfl, _, _, rfl, rfl, ⟨by decide, by decide⟩, ?_⟩
    dsimp only
    rw [show ((b.s : Nat) : Int) / 2 = ((b.s / 2 : Nat) : Int) by omega]
    refine ⟨_, rfl, _, rfl, _, rfl, _, _, rfl, rfl, (by show 2 ≤ sizeLine; decide), fun z hz => ⟨z, rfl, ⟨_, SqT.of upd_same⟩, fun D hD => ?_⟩⟩
    have tz := Same.new (o := .tup [V.int (b.t : Int), .int ((b.t : Int) + ((b.s / 2 : Nat) : Int))]) hz
    have ez : (upd H z (.tup [V.int (b.t : Int), .int ((b.t : Int) + ((b.s / 2 : Nat) : Int))])) z = some (.tup [V.int (b.t : Int), .int ((b.t : Int) + ((b.s / 2 : Nat) : Int))]) := upd_same
    have es1 := tz _ _ es
    generalize hfe : b.s / 2 = hf at *
    generalize upd H z (.tup [V.int (b.t : Int), .int ((b.t : Int) + ((hf : Nat) : Int))]) = H1 at tz ez hD es1 ⊢
    refine out_it walk_tup (fun i H' => NI bkV H1 D (([b.t, b.t + hf].take i).flatMap fun y => ([b.l, b.l + hf].map fun x => (⟨y, x, hf⟩ : Bk)).filter (inSh h wn)) H') (NI.new hD) (fun _ H' _ q' => SqT.of (q'.s _ _ ez)) ?_ ?_
    · rintro i x H3 H2 hi n ⟨rfl, hx⟩
      obtain ⟨y, hy, rfl⟩ : ∃ y : Nat, [b.t, b.t + hf][i]? = some y ∧ x = V.int ((y : Nat) : Int) := by
        match i, hx with
        | 0, hx => exact ⟨b.t, rfl, (Option.some.inj hx).symm⟩
        | 1, hx => exact ⟨b.t + hf, rfl, by rw [Int.natCast_add]; exact (Option.some.inj hx).symm⟩
        | i + 2, hx => simp at hx
      refine ⟨rfl, ?_⟩
      dsimp only [tYes]
      rw [if_pos rfl]
      refine ⟨_, rfl, _, rfl, _, rfl, _, _, rfl, rfl, (by show 2 ≤ sizeLine; decide), fun u hu => ⟨u, rfl, ⟨_, SqT.of upd_same⟩, ?_⟩⟩
      have tu := Same.new (o := .tup [V.int (b.l : Int), .int ((b.l : Int) + ((hf : Nat) : Int))]) hu
      have eu : (upd H2 u (.tup [V.int (b.l : Int), .int ((b.l : Int) + ((hf : Nat) : Int))])) u = some (.tup [V.int (b.l : Int), .int ((b.l : Int) + ((hf : Nat) : Int))]) := upd_same
      have n4 := n.same tu
      have nD : u ≠ D := fun z => by
        obtain ⟨ws, e, _⟩ := n
        rw [z, e] at hu
        cases hu
      rw [List.take_add_one, hy, List.flatMap_append]
      have al : ((([b.t, b.t + hf].take i).flatMap fun y => ([b.l, b.l + hf].map fun x => (⟨y, x, hf⟩ : Bk)).filter (inSh h wn))).length ≤ 8 := by
        match i, hy with
        | 0, _ => simp
        | 1, _ =>
          refine Nat.le_trans (?_ : _ ≤ 2) (by decide)
          simp only [List.take_succ_cons, List.take_zero, List.flatMap_cons, List.flatMap_nil, List.append_nil]
          exact List.length_filter_le _ _
        | i + 2, hy => simp at hy
      have eo : (some y).toList.flatMap (fun y => ([b.l, b.l + hf].map fun x => (⟨y, x, hf⟩ : Bk)).filter (inSh h wn)) = ([b.l, b.l + hf].map fun x => (⟨y, x, hf⟩ : Bk)).filter (inSh h wn) := by simp
      rw [eo]
      generalize (([b.t, b.t + hf].take i).flatMap fun y => ([b.l, b.l + hf].map fun x => (⟨y, x, hf⟩ : Bk)).filter (inSh h wn)) = A at n4 al ⊢
      generalize upd H2 u (.tup [V.int (b.l : Int), .int ((b.l : Int) + ((hf : Nat) : Int))]) = H4 at tu eu n4 ⊢
      refine inn_it walk_tup (g := gName 7) (tt := tAnd (tTest (tOp (rI0 fun i j => V.bl (decide (i < j))) (tVar 6) (tFld K (tVar 0) "height"))) (tTest (tOp (rI0 fun i j => V.bl (decide (i < j))) (tVar 7) (tFld K (tVar 0) "width")))) (te := tTup (tCons (tVar 6) (tCons (tVar 7) (tCons (tVar 5) tNil)))) (vs := [7])
        (fun j H' => NI bkV H1 D (A ++ (([b.l, b.l + hf].take j).map fun x => (⟨y, x, hf⟩ : Bk)).filter (inSh h wn)) H' ∧ H' u = some (.tup [V.int (b.l : Int), .int ((b.l : Int) + ((hf : Nat) : Int))])) ⟨by simpa using n4, eu⟩ (fun _ H' _ q' => SqT.of q'.2) ?_ fun H5 n5 => n5.1
      rintro j x H6 H5 hj ⟨n5, e5⟩ ⟨rfl, hx'⟩
      obtain ⟨xx, hxx, rfl⟩ : ∃ y : Nat, [b.l, b.l + hf][j]? = some y ∧ x = V.int ((y : Nat) : Int) := by
        match j, hx' with
        | 0, hx => exact ⟨b.l, rfl, (Option.some.inj hx).symm⟩
        | 1, hx => exact ⟨b.l + hf, rfl, by rw [Int.natCast_add]; exact (Option.some.inj hx).symm⟩
        | i + 2, hx => simp at hx
      have es5 := n5.s _ _ es1
      have bl : ((([b.l, b.l + hf].take j).map fun x => (⟨y, x, hf⟩ : Bk)).filter (inSh h wn)).length ≤ 2 := by
        refine Nat.le_trans (List.length_filter_le _ _) ?_
        rw [List.length_map, List.length_take]
        exact Nat.min_le_right _ _
      rw [List.take_add_one, hxx, List.map_append, List.filter_append]
      have e1 : (((some xx).toList.map fun x => (⟨y, x, hf⟩ : Bk)).filter (inSh h wn)) = if inSh h wn ⟨y, xx, hf⟩ = true then [⟨y, xx, hf⟩] else [] := filt_one _ _
      rw [e1, ← List.append_assoc]
      have Bl : (A ++ (([b.l, b.l + hf].take j).map fun x => (⟨y, x, hf⟩ : Bk)).filter (inSh h wn)).length ≤ 10 := by
        rw [List.length_append]
        omega
      generalize A ++ (([b.l, b.l + hf].take j).map fun x => (⟨y, x, hf⟩ : Bk)).filter (inSh h wn) = B at n5 Bl ⊢
      refine ⟨rfl, ?_⟩
      have no : inSh h wn ⟨y, xx, hf⟩ = false → NI bkV H1 D (B ++ (if inSh h wn ⟨y, xx, hf⟩ = true then [⟨y, xx, hf⟩] else [])) H5 ∧ H5 u = some (.tup [V.int (b.l : Int), .int ((b.l : Int) + ((hf : Nat) : Int))]) := fun z => by
        rw [z, if_neg Bool.false_ne_true, List.append_nil]
        exact ⟨n5, e5⟩
      refine ⟨_, rfl, _, rfl, sa, SH.C, dx, _, _, rfl, es5, SH.i.cl, SH.n1, rfl, _, _, rfl, rfl, _, rfl, ?_⟩
      by_cases c1 : y < h
      case neg =>
        rw [decide_eq_false (show ¬ ((y : Nat) : Int) < ((h : Nat) : Int) by omega)]
        exact iteF (iteF (no (by unfold inSh; rw [decide_eq_false c1]; rfl)))
      rw [decide_eq_true (show ((y : Nat) : Int) < ((h : Nat) : Int) by omega)]
      refine iteT ⟨_, rfl, _, rfl, sa, SH.C, dx, _, _, rfl, es5, SH.i.cl, SH.n2, rfl, _, _, rfl, rfl, _, rfl, ?_⟩
      by_cases c2 : xx < wn
      case neg =>
        rw [decide_eq_false (show ¬ ((xx : Nat) : Int) < ((wn : Nat) : Int) by omega)]
        exact iteF (no (by unfold inSh; rw [decide_eq_false (show ¬ (⟨y, xx, hf⟩ : Bk).l < wn from c2), Bool.and_false]))
      rw [decide_eq_true (show ((xx : Nat) : Int) < ((wn : Nat) : Int) by omega)]
      refine iteT ⟨_, rfl, _, rfl, _, rfl, (by show 3 ≤ sizeLine; decide), fun z3 hz3 => ?_⟩
      have t3 := Same.new (o := .tup [V.int ((y : Nat) : Int), .int ((xx : Nat) : Int), .int ((hf : Nat) : Int)]) hz3
      obtain ⟨acc, e1, e2, e3⟩ := (n5.same t3).push (a := (⟨y, xx, hf⟩ : Bk)) hD (by omega) ⟨z3, rfl, upd_same⟩
      refine ⟨acc, e1, e2, ?_, by rw [upd_ne nD]; exact t3 _ _ e5⟩
      rw [show inSh h wn ⟨y, xx, hf⟩ = true by unfold inSh; simp [c1, c2], if_pos rfl]
      exact e3
    · rintro H2 ⟨ws, e, r, s2'⟩
      refine k D ws H2 (tz.trans s2') (tz.free hD) e ?_
      have : (([b.t, b.t + hf].take [V.int (b.t : Int), V.int ((b.t : Int) + ((hf : Nat) : Int))].length).flatMap fun y => ([b.l, b.l + hf].map fun x => (⟨y, x, hf⟩ : Bk)).filter (inSh h wn)) = partsL h wn b := by
        unfold partsL fourL
        rw [if_neg s2, hfe]
        show (([⟨b.t, b.l, hf⟩, ⟨b.t, b.l + hf, hf⟩] : List Bk).filter (inSh h wn)) ++ ((([⟨b.t + hf, b.l, hf⟩, ⟨b.t + hf, b.l + hf, hf⟩] : List Bk).filter (inSh h wn)) ++ []) = _
        rw [List.append_nil, ← List.filter_append]
        rfl
      rw [← this]
      exact r
end
end K04
namespace K04
open PySem PySem.Spec PyProof.Rows L2 PySem.W LamX KA KW KU KL KT
open Evl (pss_cut tCut)
/-! ### cells -/
theorem cells_le {h w : Nat} {b : Bk} (v : Vb h w b) : (cellsOf h w b).length ≤ 16 := by
  rw [cells_many b v]
  unfold manyC rowsN colsN
  have s := v.s
  have a : (min (b.t + b.s) h - b.t + 1) / 2 ≤ 4 := by omega
  have c : (min (b.l + b.s) w - b.l + 1) / 2 ≤ 4 := by omega
  exact Nat.mul_le_mul a c
theorem take_le {h w : Nat} : ∀ (bs : List Bk), (∀ b ∈ bs, (cellsOf h w b).length ≤ 16) → bs.length ≤ 4 → ∀ i, ((bs.take i).flatMap (cellsOf h w)).length ≤ 64 := fun bs hb lb i => by
  have : ∀ (L : List Bk), (∀ b ∈ L, (cellsOf h w b).length ≤ 16) → (L.flatMap (cellsOf h w)).length ≤ L.length * 16 := fun L => by
    induction L with
    | nil => intro _; simp
    | cons a L ih =>
      intro q
      rw [List.flatMap_cons, List.length_append, List.length_cons, Nat.succ_mul]
      have := ih fun b hb => q b (List.mem_cons_of_mem _ hb)
      have := q a List.mem_cons_self
      omega
  refine Nat.le_trans (this _ fun b hb' => hb b (List.mem_of_mem_take hb')) ?_
  rw [List.length_take]
  omega
theorem parts_len {h w : Nat} {b : Bk} : (partsL h w b).length ≤ 4 := by
  unfold partsL
  split
  · simp
  · exact List.length_filter_le _ (fourL b)
theorem roots_len {h w : Nat} (hh : h ≤ 16) (hw : w ≤ 16) : (rootsL h w).length ≤ 4 := by
  unfold rootsL
  refine Nat.le_trans (flat_le (m := 2) (fun i => by simp; omega) ((h + 7) / 8)) ?_
  have : (h + 7) / 8 ≤ 2 := by omega
  omega
theorem roots_lev {h w : Nat} {b : Bk} (m : b ∈ rootsL h w) : lev b = 2 := by
  unfold lev
  rw [(roots_mem.mp m).1]
  rfl
theorem all_le {h w : Nat} (hh : h ≤ 16) (hw : w ≤ 16) : (cellsL h w).length ≤ 64 := by
  have := take_le (h := h) (w := w) (rootsL h w) (fun b hb => cells_le (roots_vb hb)) (roots_len hh hw) 4
  rw [List.take_of_length_le (roots_len hh hw)] at this
  exact this
/-- a def that is never called -/
def spNever : Sp := fun _ _ _ _ => False
theorem ok_never {P : Program} {w : World} {K : PySem.W.Frag} {mg : Str → Option Value} {base : Heap} {CX : CXT} {k : Nat} {f : Addr} {fd : FuncData} {ps : List Str} : FnOk P w K mg base CX k f fd ps spNever :=
  ⟨fun _ _ _ _ h => h.elim, fun _ _ _ _ _ _ _ _ _ _ _ _ _ h => h.elim⟩
def spCellsIn (C : Addr) (n : Nat) : Sp := fun vs H Q _ => ∃ (sh : V) (p : Addr) (b : Bk) (h w : Nat), vs = [sh, .ref p] ∧ Shp C H sh h w ∧ H p = some (.tup (bkV b)) ∧ Vb h w b ∧ lev b = n ∧ ∀ q us H', Same H H' → H q = none → H' q = some (.lst us) → RL bkV H' us (cellsOf h w b) → Q (.ref q) H'
def spCellsOf (C : Addr) : Sp := fun vs H Q _ => ∃ (sh : V) (h w : Nat), vs = [sh] ∧ Shp C H sh h w ∧ ∀ q us H', Same H H' → H q = none → H' q = some (.lst us) → RL bkV H' us (cellsL h w) → Q (.ref q) H'
section
variable {P : Program} {w : World} {K : PySem.W.Frag} {mg : Str → Option Value} {base : Heap} (T : Top K mg) (SH : ShapeT K mg)
theorem cells_zero : FnOk P w K mg base (L2.CX P w) 2 T.cells_in.a T.cells_in.d ["shape", "block"] (spCellsIn SH.C 0) := by
  refine T.cells_in.f.okX sc_cells_in (fun vs H Q E h => ?_) (fun cdv A outer s H vs Q E hr h => ?_)
  · obtain ⟨sh, p, b, h, w, rfl, _⟩ := h
    rfl
  · obtain ⟨sh, p, b, h, wn, rfl, shp, hp, v, lb, k⟩ := h
    refine ⟨_, pss_cons (ps_if (pt_cmpR op_eq (pe_ix ix_tup (pv 1) pe_int (fun _ _ => rfl)) pe_int (nomark _)) (pss_one (ps_ret (pe_lst (pa_cons (pv 1) pa_nil)))) pss_nil)
      (pss_one (ps_ret (show PE _ _ (tLc2 (iList K (tCall (spQuartersOf SH.C) [] E0 (tCons (tVar 0) (tCons (tVar 1) tNil)))) (gName 2) tYes (iList K (tCall spNever [] E0 (tCons (tVar 0) (tCons (tVar 2) tNil)))) (gName 3) tYes (tVar 3) [2, 3] [3]) from pe_lc2 (wi1 := (iList K (tCall spNever [] E0 (tCons (tVar 0) (tCons (tVar 2) tNil))))) (te := tVar 3) (tt1 := tYes) (own := [("quarter", 2), ("cell", 3)]) (vs1 := [3]) (g := gName 2) (g1 := gName 3) (tt := tYes) rfl sc_cells_in.nd (pi_list (pe_call (ok_quarters_of T SH) (hr.mono (by decide)) (by rfl) T.quarters_of.m T.quarters_of.f.kp (bd_quarters_of T) .nil passE (pa_cons (pv 0) (pa_cons (pv 1) pa_nil)))) (blkOk_by (own := [("quarter", 2), ("cell", 3)]) (N := ["shape", "block", "quarter", "cell"]) (sc := defScope s_cells_in) (by decide +kernel)) (by decide)
      (fun _ _ _ _ _ => pg_name (i := 2) sc_cells_in.nd rfl (Or.inl rfl)) (fun _ _ _ _ _ => pts_nil) (fun _ _ _ _ _ => pi_list (pe_call (sp := spNever) (ok_never) hr (by rfl) T.cells_in.m T.cells_in.f.kp (bd_cells_in T) .nil passE (pa_cons (pv 0) (pa_cons (pv 2) pa_nil)))) (fun _ _ _ _ _ => pg_name (i := 3) sc_cells_in.nd rfl (Or.inl rfl)) (fun _ _ _ _ _ => pts_nil) (fun _ _ _ _ _ => pv 3)))), ?_⟩
    have s2 : b.s = 2 := by
      unfold lev at lb
      rcases v.s with z | z | z
      · rw [z] at lb; cases lb
      · rw [z] at lb; cases lb
      · exact z
    refine ⟨_, rfl, p, _, 2, _, rfl, rfl, SqT.of hp, atI_nat (j := 2) rfl, rfl, _, rfl, ?_⟩
    rw [decide_eq_true (show V.int ((b.s : Nat) : Int) = V.int 2 by rw [s2]; rfl)]
    refine iteT ⟨_, rfl, (by show 1 ≤ sizeLine; decide), fun q hq => k q [.ref p] _ (Same.new hq) hq upd_same ?_⟩
    rw [cells_one s2]
    exact .one ⟨p, rfl, Same.new hq _ _ hp⟩
theorem cells_more {n k' : Nat} (hk : 1 ≤ k') (F : FnOk P w K mg base (L2.CX P w) k' T.cells_in.a T.cells_in.d ["shape", "block"] (spCellsIn SH.C n)) : FnOk P w K mg base (L2.CX P w) (k' + 1) T.cells_in.a T.cells_in.d ["shape", "block"] (spCellsIn SH.C (n + 1)) := by
  refine T.cells_in.f.okX sc_cells_in (fun vs H Q E h => ?_) (fun cdv A outer s H vs Q E hr h => ?_)
  · obtain ⟨sh, p, b, h, w, rfl, _⟩ := h
    rfl
  · obtain ⟨sh, p, b, h, wn, rfl, shp, hp, v, lb, k⟩ := h
    refine ⟨_, pss_cons (ps_if (pt_cmpR op_eq (pe_ix ix_tup (pv 1) pe_int (fun _ _ => rfl)) pe_int (nomark _)) (pss_one (ps_ret (pe_lst (pa_cons (pv 1) pa_nil)))) pss_nil)
      (pss_one (ps_ret (show PE _ _ (tLc2 (iList K (tCall (spQuartersOf SH.C) [] E0 (tCons (tVar 0) (tCons (tVar 1) tNil)))) (gName 2) tYes (iList K (tCall (spCellsIn SH.C n) [] E0 (tCons (tVar 0) (tCons (tVar 2) tNil)))) (gName 3) tYes (tVar 3) [2, 3] [3]) from pe_lc2 (wi1 := (iList K (tCall (spCellsIn SH.C n) [] E0 (tCons (tVar 0) (tCons (tVar 2) tNil))))) (te := tVar 3) (tt1 := tYes) (own := [("quarter", 2), ("cell", 3)]) (vs1 := [3]) (g := gName 2) (g1 := gName 3) (tt := tYes) rfl sc_cells_in.nd (pi_list (pe_call (ok_quarters_of T SH) (hr.mono hk) (by rfl) T.quarters_of.m T.quarters_of.f.kp (bd_quarters_of T) .nil passE (pa_cons (pv 0) (pa_cons (pv 1) pa_nil)))) (blkOk_by (own := [("quarter", 2), ("cell", 3)]) (N := ["shape", "block", "quarter", "cell"]) (sc := defScope s_cells_in) (by decide +kernel)) (by decide)
      (fun _ _ _ _ _ => pg_name (i := 2) sc_cells_in.nd rfl (Or.inl rfl)) (fun _ _ _ _ _ => pts_nil) (fun _ _ _ _ _ => pi_list (pe_call (sp := (spCellsIn SH.C n)) (F) hr (by rfl) T.cells_in.m T.cells_in.f.kp (bd_cells_in T) .nil passE (pa_cons (pv 0) (pa_cons (pv 2) pa_nil)))) (fun _ _ _ _ _ => pg_name (i := 3) sc_cells_in.nd rfl (Or.inl rfl)) (fun _ _ _ _ _ => pts_nil) (fun _ _ _ _ _ => pv 3)))), ?_⟩
    have s2 : b.s ≠ 2 := fun z => by
      unfold lev at lb
      rw [z] at lb
      cases lb
    refine ⟨_, rfl, p, _, 2, _, rfl, rfl, SqT.of hp, atI_nat (j := 2) rfl, rfl, _, rfl, ?_⟩
    rw [decide_eq_false (fun z => s2 (by have := V.int.inj z; omega))]
    refine iteF ⟨_, rfl, _, rfl, sh, p, b, h, wn, rfl, shp, hp, v, fun q us H1 s1 nq lq r0 => ⟨q, rfl, ⟨_, SqL.of lq⟩, fun D hD => ?_⟩⟩
    have sub : ∀ b' ∈ partsL h wn b, Vb h wn b' ∧ lev b' = n := fun b' hb' => by
      obtain ⟨a1, _, a3⟩ := parts_vb v hb'
      exact ⟨a1, by omega⟩
    refine out_it walk_list (fun i H' => NI bkV H1 D (((partsL h wn b).take i).flatMap (cellsOf h wn)) H') (NI.new hD) (fun _ H' _ q' => SqL.of (q'.s _ _ lq)) ?_ ?_
    · rintro i x H3 H2 hi n ⟨rfl, hx⟩
      obtain ⟨pb, b', rfl, hb', eb'⟩ := (r0.same n.s).get hx
      obtain ⟨vb', lb'⟩ := sub b' (List.mem_of_getElem? hb')
      have s12 := s1.trans n.s
      refine ⟨rfl, ?_⟩
      dsimp only [tYes]
      rw [if_pos rfl]
      refine ⟨_, rfl, _, rfl, sh, pb, b', h, wn, rfl, shp.keep s12, eb', vb', lb', fun q2 us2 H4 s4 nq2 lq2 r2 => ⟨q2, rfl, ⟨_, SqL.of lq2⟩, ?_⟩⟩
      have nD : q2 ≠ D := fun z => by
        obtain ⟨ws, e, _⟩ := n
        rw [z, e] at nq2
        cases nq2
      rw [List.take_add_one, hb', List.flatMap_append]
      have eo : (some b').toList.flatMap (cellsOf h wn) = cellsOf h wn b' := by simp
      rw [eo]
      have cl := cells_le vb'
      have al : (((partsL h wn b).take i).flatMap (cellsOf h wn)).length ≤ 64 := take_le _ (fun b hb => cells_le (sub b hb).1) parts_len i
      generalize ((partsL h wn b).take i).flatMap (cellsOf h wn) = A at n al ⊢
      refine inn_it walk_list (g := gName 3) (tt := tYes) (te := tVar 3) (vs := [3]) (fun j H' => NI bkV H1 D (A ++ (cellsOf h wn b').take j) H' ∧ H' q2 = some (.lst us2) ∧ RL bkV H' us2 (cellsOf h wn b')) ⟨by simpa using n.same s4, lq2, r2⟩ (fun _ H' _ q' => SqL.of q'.2.1) ?_ ?_
      · rintro j y H6 H5 hj ⟨n5, l5, r5⟩ ⟨rfl, hy⟩
        obtain ⟨pc, cc, rfl, hc, ec⟩ := r5.get hy
        refine ⟨rfl, ?_⟩
        dsimp only [tYes]
        rw [if_pos rfl]
        obtain ⟨acc, e1, e2, e3⟩ := n5.push (a := cc) hD (by rw [List.length_append, List.length_take]; omega) ⟨pc, rfl, ec⟩
        refine ⟨_, rfl, acc, e1, e2, ?_, by rw [upd_ne nD]; exact l5, r5.tp (Tp.put e1)⟩
        rw [List.take_add_one, hc, ← List.append_assoc]
        exact e3
      · rintro H5 ⟨n5, _⟩
        rw [List.take_of_length_le (by rw [r2.1]; exact Nat.le_refl _)] at n5
        exact n5
    · rintro H2 ⟨ws, e, r, s2'⟩
      rw [List.take_of_length_le (by rw [r0.1]; exact Nat.le_refl _)] at r
      rw [← cells_step v s2] at r
      exact k D ws H2 (s1.trans s2') (s1.free hD) e r
theorem ok_cells_in : FnOk P w K mg base (L2.CX P w) 4 T.cells_in.a T.cells_in.d ["shape", "block"] (spCellsIn SH.C 2) :=
  cells_more T SH (k' := 3) (by decide) (cells_more T SH (k' := 2) (by decide) (cells_zero T SH))
theorem ok_cells_of : FnOk P w K mg base (L2.CX P w) 5 T.cells_of.a T.cells_of.d ["shape"] (spCellsOf SH.C) := by
  refine T.cells_of.f.okX sc_cells_of (fun vs H Q E h => ?_) (fun cdv A outer s H vs Q E hr h => ?_)
  · obtain ⟨sh, h, w, rfl, _⟩ := h
    rfl
  · obtain ⟨sh, h, wn, rfl, shp, k⟩ := h
    refine ⟨_, pss_one (ps_ret (show PE _ _ (tLc2 (iList K (tCall (spRootsOf SH.C) [] E0 (tCons (tVar 0) tNil))) (gName 1) tYes (iList K (tCall (spCellsIn SH.C 2) [] E0 (tCons (tVar 0) (tCons (tVar 1) tNil)))) (gName 2) tYes (tVar 2) [1, 2] [2]) from pe_lc2 (wi1 := (iList K (tCall (spCellsIn SH.C 2) [] E0 (tCons (tVar 0) (tCons (tVar 1) tNil))))) (te := tVar 2) (tt1 := tYes) (own := [("root", 1), ("cell", 2)]) (vs1 := [2]) (g := gName 1) (g1 := gName 2) (tt := tYes) rfl sc_cells_of.nd (pi_list (pe_call (ok_roots_of T SH) (hr.mono (by decide)) (by rfl) T.roots_of.m T.roots_of.f.kp (bd_roots_of T) .nil passE (pa_cons (pv 0) pa_nil))) (blkOk_by (own := [("root", 1), ("cell", 2)]) (N := ["shape", "root", "cell"]) (sc := defScope s_cells_of) (by decide +kernel)) (by decide)
      (fun _ _ _ _ _ => pg_name (i := 1) sc_cells_of.nd rfl (Or.inl rfl)) (fun _ _ _ _ _ => pts_nil) (fun _ _ _ _ _ => pi_list (pe_call (ok_cells_in T SH) hr (by rfl) T.cells_in.m T.cells_in.f.kp (bd_cells_in T) .nil passE (pa_cons (pv 0) (pa_cons (pv 1) pa_nil)))) (fun _ _ _ _ _ => pg_name (i := 2) sc_cells_of.nd rfl (Or.inl rfl)) (fun _ _ _ _ _ => pts_nil) (fun _ _ _ _ _ => pv 2))), ?_⟩
    have hb := shp.b
    refine ⟨_, rfl, sh, h, wn, rfl, shp, fun q us H1 s1 nq lq r0 => ⟨q, rfl, ⟨_, SqL.of lq⟩, fun D hD => ?_⟩⟩
    have sub : ∀ b' ∈ rootsL h wn, Vb h wn b' ∧ lev b' = 2 := fun b' hb' => ⟨roots_vb hb', roots_lev hb'⟩
    refine out_it walk_list (fun i H' => NI bkV H1 D (((rootsL h wn).take i).flatMap (cellsOf h wn)) H') (NI.new hD) (fun _ H' _ q' => SqL.of (q'.s _ _ lq)) ?_ ?_
    · rintro i x H3 H2 hi n ⟨rfl, hx⟩
      obtain ⟨pb, b', rfl, hb', eb'⟩ := (r0.same n.s).get hx
      obtain ⟨vb', lb'⟩ := sub b' (List.mem_of_getElem? hb')
      have s12 := s1.trans n.s
      refine ⟨rfl, ?_⟩
      dsimp only [tYes]
      rw [if_pos rfl]
      refine ⟨_, rfl, _, rfl, sh, pb, b', h, wn, rfl, shp.keep s12, eb', vb', lb', fun q2 us2 H4 s4 nq2 lq2 r2 => ⟨q2, rfl, ⟨_, SqL.of lq2⟩, ?_⟩⟩
      have nD : q2 ≠ D := fun z => by
        obtain ⟨ws, e, _⟩ := n
        rw [z, e] at nq2
        cases nq2
      rw [List.take_add_one, hb', List.flatMap_append]
      have eo : (some b').toList.flatMap (cellsOf h wn) = cellsOf h wn b' := by simp
      rw [eo]
      have cl := cells_le vb'
      have al : (((rootsL h wn).take i).flatMap (cellsOf h wn)).length ≤ 64 := take_le _ (fun b hb => cells_le (sub b hb).1) (roots_len hb.2.1 hb.2.2.2) i
      generalize ((rootsL h wn).take i).flatMap (cellsOf h wn) = A at n al ⊢
      refine inn_it walk_list (g := gName 2) (tt := tYes) (te := tVar 2) (vs := [2]) (fun j H' => NI bkV H1 D (A ++ (cellsOf h wn b').take j) H' ∧ H' q2 = some (.lst us2) ∧ RL bkV H' us2 (cellsOf h wn b')) ⟨by simpa using n.same s4, lq2, r2⟩ (fun _ H' _ q' => SqL.of q'.2.1) ?_ ?_
      · rintro j y H6 H5 hj ⟨n5, l5, r5⟩ ⟨rfl, hy⟩
        obtain ⟨pc, cc, rfl, hc, ec⟩ := r5.get hy
        refine ⟨rfl, ?_⟩
        dsimp only [tYes]
        rw [if_pos rfl]
        obtain ⟨acc, e1, e2, e3⟩ := n5.push (a := cc) hD (by rw [List.length_append, List.length_take]; omega) ⟨pc, rfl, ec⟩
        refine ⟨_, rfl, acc, e1, e2, ?_, by rw [upd_ne nD]; exact l5, r5.tp (Tp.put e1)⟩
        rw [List.take_add_one, hc, ← List.append_assoc]
        exact e3
      · rintro H5 ⟨n5, _⟩
        rw [List.take_of_length_le (by rw [r2.1]; exact Nat.le_refl _)] at n5
        exact n5
    · rintro H2 ⟨ws, e, r, s2'⟩
      rw [List.take_of_length_le (by rw [r0.1]; exact Nat.le_refl _)] at r
      exact k D ws H2 (s1.trans s2') (s1.free hD) e r
end
end K04
namespace K04
open PySem PySem.Spec PyProof.Rows L2 PySem.W LamX KA KW KU KL KT
open Evl (pss_cut tCut)
/-! ### places -/
def bkD (b : Bk) : PyData := .tuple [.int (b.t : Int), .int (b.l : Int), .int (b.s : Int)]
theorem eqv_bk (a b : Bk) : PyData.eqv (bkD a) (bkD b) = decide (a = b) := by
  show PyData.eqvAll [.int (a.t : Int), .int (a.l : Int), .int (a.s : Int)] [.int (b.t : Int), .int (b.l : Int), .int (b.s : Int)] = _
  show (((a.t : Int) == (b.t : Int)) && (((a.l : Int) == (b.l : Int)) && (((a.s : Int) == (b.s : Int)) && true))) = _
  obtain ⟨t, l, s⟩ := a
  obtain ⟨t', l', s'⟩ := b
  rw [Bool.and_true, Bool.beq_eq_decide_eq, Bool.beq_eq_decide_eq, Bool.beq_eq_decide_eq, ← Bool.decide_and, ← Bool.decide_and]
  refine decide_eq_decide.mpr ⟨fun z => ?_, fun z => ?_⟩
  · dsimp only at z
    congr 1 <;> omega
  · cases z
    exact ⟨rfl, rfl, rfl⟩
theorem dp_bk {K : PySem.W.Frag} {H : Hp} {p : Addr} {b : Bk} (e : H p = some (.tup (bkV b))) : Dp K H (.ref p) (bkD b) := .tup (SqT.of e) (.cons (.int _) (.cons (.int _) (.cons (.int _) .nil)))
theorem dp_bks {K : PySem.W.Frag} {H : Hp} : ∀ {us : List V} {bs : List Bk}, RL bkV H us bs → DpAll K H us (bs.map bkD)
  | [], [], _ => .nil
  | [], _ :: _, r => by cases r.1
  | _ :: _, [], r => by cases r.1
  | u :: us, b :: bs, r => by
    obtain ⟨p, a, e1, e2, e3⟩ := r.get (i := 0) (v := u) rfl
    have : b = a := Option.some.inj e2
    subst this e1
    refine .cons (dp_bk e3) (dp_bks ⟨by simpa using r.1, fun j v e => ?_⟩)
    exact r.2 (j + 1) v (by simpa using e)
theorem bk_lay (b : Bk) : (bkD b).canLay0 = true ∧ (bkD b).depth ≤ 2 := by
  refine ⟨by simp [bkD, PyData.canLay0, PyData.canLayAll0], by simp [bkD, PyData.depth, PyData.depthAll]⟩
theorem bks_lay (bs : List Bk) : SeqAt.shaped (.list (bs.map bkD)) = true := by
  have all : ∀ bs : List Bk, PyData.canLayAll0 (bs.map bkD) = true ∧ PyData.depthAll (bs.map bkD) ≤ 2 := fun bs => by
    induction bs with
    | nil => exact ⟨rfl, Nat.zero_le _⟩
    | cons b bs ih =>
      obtain ⟨a, c⟩ := bk_lay b
      refine ⟨by simp [PyData.canLayAll0, a, ih.1], ?_⟩
      simp only [List.map_cons, PyData.depthAll]
      omega
  obtain ⟨h1, h2⟩ := all bs
  simp [SeqAt.shaped, PyData.canLay0, PyData.depth, h1]
  omega
theorem bk_shaped (b : Bk) : SeqAt.shaped (bkD b) = true := by
  obtain ⟨a, c⟩ := bk_lay b
  simp [SeqAt.shaped, a]
  omega
theorem hu65 {k : Nat} {A : Around} (r : Room k A) : A.units + 65 < cLine := by have := r.un; omega
def sizesL (t l : Nat) : List Nat := [8, 4, 2].filter fun s => decide (t % s = 0) && decide (l % s = 0)
def spMany (C : Addr) : Sp := fun vs H Q _ => ∃ (sh : V) (p : Addr) (b : Bk) (h w : Nat), vs = [sh, .ref p] ∧ Shp C H sh h w ∧ H p = some (.tup (bkV b)) ∧ Vb h w b ∧ ∀ H', Same H H' → Q (.int (manyC h w b : Nat)) H'
def spPlaceEnd (C : Addr) : Sp := fun vs H Q _ => ∃ (sh : V) (p : Addr) (b : Bk) (h w : Nat), vs = [sh, .ref p] ∧ Shp C H sh h w ∧ H p = some (.tup (bkV b)) ∧ Vb h w b ∧ ∀ q H', Same H H' → H' q = some (.tup [.int (placeB h w b : Nat), .int ((placeB h w b + manyC h w b : Nat) : Int)]) → Q (.ref q) H'
def spSizesAt : Sp := fun vs H Q _ => ∃ t l : Nat, vs = [.int (t : Int), .int (l : Int)] ∧ ∀ q H', Same H H' → H' q = some (.lst ((sizesL t l).map fun s => V.int ((s : Nat) : Int))) → Q (.ref q) H'
section
variable {P : Program} {w : World} {K : PySem.W.Frag} {mg : Str → Option Value} {base : Heap} (T : Top K mg) (SH : ShapeT K mg) (Z : SzT K mg)
theorem ok_many_cells : FnOk P w K mg base (L2.CX P w) 2 T.many_cells.a T.many_cells.d ["shape", "block"] (spMany SH.C) := by
  refine T.many_cells.f.okX sc_many_cells (fun vs H Q E h => ?_) (fun cdv A outer s H vs Q E hr h => ?_)
  · obtain ⟨sh, p, b, h, w, rfl, _⟩ := h
    rfl
  · obtain ⟨sh, p, b, h, wn, rfl, shp, hp, v, k⟩ := h
    refine ⟨_, pss_one (ps_ret (pe_op op_mul (pe_op op_fdiv (pe_op op_add (pe_callB call_len_seq (by rfl) T.b_len PySem.boot_len (pa_cons (pe_call (ok_rows_of T SH) (hr.mono (by decide)) (by rfl) T.rows_of.m T.rows_of.f.kp (bd_rows_of T) .nil passE (pa_cons (pv 0) (pa_cons (pv 1) pa_nil))) pa_nil)) pe_int) pe_int)
      (pe_op op_fdiv (pe_op op_add (pe_callB call_len_seq (by rfl) T.b_len PySem.boot_len (pa_cons (pe_call (ok_cols_of T SH) (hr.mono (by decide)) (by rfl) T.columns_of.m T.columns_of.f.kp (bd_columns_of T) .nil passE (pa_cons (pv 0) (pa_cons (pv 1) pa_nil))) pa_nil)) pe_int) pe_int))), ?_⟩
    have vs' := v.s
    have rn : rowsN h b ≤ 8 := by unfold rowsN; omega
    have cn : colsN wn b ≤ 8 := by unfold colsN; omega
    refine ⟨_, rfl, _, rfl, sh, p, b, h, wn, rfl, shp, hp, v, fun q H1 s1 nq lq => ⟨q, _, rfl, .inl (SqL.of lq), _, _, rfl, rfl, _, _, rfl, rfl, ⟨by decide, by decide⟩, ?_⟩⟩
    refine ⟨_, rfl, _, rfl, sh, p, b, h, wn, rfl, shp.keep s1, s1 _ _ hp, v, fun q2 H2 s2 nq2 lq2 => ⟨q2, _, rfl, .inl (SqL.of lq2), _, _, rfl, rfl, _, _, rfl, rfl, ⟨by decide, by decide⟩, _, _, rfl, rfl, ?_⟩⟩
    rw [rgN_len, rgN_len]
    refine ⟨.inl ⟨by omega, by omega⟩, ?_⟩
    refine q_int (k H2 (s1.trans s2)) ?_
    unfold manyC
    rw [Int.natCast_mul]
    rfl
theorem ok_place_end : FnOk P w K mg base (L2.CX P w) 6 T.place_and_end.a T.place_and_end.d ["shape", "block"] (spPlaceEnd SH.C) := by
  refine T.place_and_end.f.okX sc_place_and_end (fun vs H Q E h => ?_) (fun cdv A outer s H vs Q E hr h => ?_)
  · obtain ⟨sh, p, b, h, w, rfl, _⟩ := h
    rfl
  · obtain ⟨sh, p, b, h, wn, rfl, shp, hp, v, k⟩ := h
    have hu := hu_of hr
    refine ⟨_, pss_cons (ps_set (i := 2) sc_place_and_end.nd rfl (.inl rfl) (pe_bm PySem.F.plainAttrs_list PySem.F.slot_list_index PySem.F.type_list_index (mt_indexD (hu65 hr)) (pe_call (ok_cells_of T SH) (hr.mono (by decide)) (by rfl) T.cells_of.m T.cells_of.f.kp (bd_cells_of T) .nil passE (pa_cons (pv 0) pa_nil)) (pa_cons (pe_tup (pa_cons (pe_ix ix_tup (pv 1) pe_int (fun _ _ => rfl)) (pa_cons (pe_ix ix_tup (pv 1) pe_int (fun _ _ => rfl)) (pa_cons pe_int pa_nil)))) pa_nil)))
      (pss_one (ps_ret (pe_tup (pa_cons (pv 2) (pa_cons (pe_op op_add (pv 2) (pe_call (ok_many_cells T SH) (hr.mono (by decide)) (by rfl) T.many_cells.m T.many_cells.f.kp (bd_many_cells T) .nil passE (pa_cons (pv 0) (pa_cons (pv 1) pa_nil)))) pa_nil))))), ?_⟩
    refine ⟨_, rfl, sh, h, wn, rfl, shp, fun q us H1 s1 nq lq r1 => ?_⟩
    refine ⟨.inl ⟨rfl, _, SqL.of lq⟩, _, rfl, p, _, 0, _, rfl, rfl, SqT.of (s1 _ _ hp), atI_nat (j := 0) rfl, _, rfl, p, _, 1, _, rfl, rfl, SqT.of (s1 _ _ hp), atI_nat (j := 1) rfl, (by show 3 ≤ sizeLine; decide), fun z hz => ?_⟩
    have tz := Same.new (o := .tup [V.int (b.t : Int), .int (b.l : Int), .int 2]) hz
    have pa : (cellsL h wn)[placeB h wn b]? = some ⟨b.t, b.l, 2⟩ := by
      obtain ⟨rr, er⟩ := cells_first b v
      exact place_at v 0 _ (by rw [er]; rfl)
    refine ⟨q, .ref z, bkD ⟨b.t, b.l, 2⟩, (cellsL h wn).map bkD, placeB h wn b, bkD ⟨b.t, b.l, 2⟩, rfl, rfl, .lst (SqL.of (tz _ _ lq)) (dp_bks (r1.same tz)), dp_bk (b := ⟨b.t, b.l, 2⟩) upd_same, bks_lay _, bk_shaped _, by rw [List.getElem?_map, pa]; rfl, by rw [eqv_bk]; exact decide_eq_true rfl, fun m z' hm hz' => ?_, ?_⟩
    · rw [List.getElem?_map] at hz'
      cases ec : (cellsL h wn)[m]? with
      | none => rw [ec] at hz'; cases hz'
      | some c =>
        rw [ec] at hz'
        have : z' = bkD c := (Option.some.inj hz').symm
        rw [this, eqv_bk]
        refine decide_eq_false fun e => ?_
        rw [e] at ec
        have := idx_of all_nodup ec
        have := idx_of all_nodup pa
        omega
    have s2 := s1.trans tz
    refine ⟨_, rfl, _, rfl, _, rfl, _, rfl, sh, p, b, h, wn, rfl, shp.keep s2, s2 _ _ hp, v, fun H3 s3 => ⟨_, _, rfl, rfl, (by show 2 ≤ sizeLine; decide), fun u hu' => ?_⟩⟩
    refine k u _ ((s2.trans s3).trans (Same.new hu')) ?_
    rw [upd_same, Int.natCast_add]
include Z in
theorem ok_check_block : FnOk P w K mg base (L2.CX P w) 5 T.check_block.a T.check_block.d ["shape", "block"] (spChkBlk K SH.C T.BadBlock.C) := by
  refine T.check_block.f.okX sc_check_block (fun vs H Q E h => ?_) (fun cdv A outer s H vs Q E hr h => ?_)
  · obtain ⟨sh, x, o, h, w, rfl, _⟩ := h
    rfl
  · obtain ⟨sh, x, o, h, wn, rfl, shp, hx, k1, k2⟩ := h
    refine ⟨_, pss_one (ps_if (pt_not (pt_val (pe_call (ok_is_block_of T SH Z) (hr.mono (by decide)) (by rfl) T.is_block_of.m T.is_block_of.f.kp (bd_is_block_of T) .nil passE (pa_cons (pv 0) (pa_cons (pv 1) pa_nil))))) (pss_one (ps_raiseT rfl rfl T.BadBlock (by rfl) rfl (takes_of rfl rfl rfl rfl))) pss_nil), ?_⟩
    refine ⟨_, rfl, _, rfl, sh, x, o, h, wn, rfl, shp, hx, _, rfl, ?_⟩
    cases e : blkB h wn o
    · exact iteT (k2 e)
    · exact iteF (k1 e)
include Z in
theorem ok_sizes_at : FnOk P w K mg base (L2.CX P w) 1 T.sizes_at.a T.sizes_at.d ["top", "left"] spSizesAt := by
  refine T.sizes_at.f.okX sc_sizes_at (fun vs H Q E h => ?_) (fun cdv A outer s H vs Q E hr h => ?_)
  · obtain ⟨t, l, rfl, _⟩ := h
    rfl
  · obtain ⟨t, l, rfl, k⟩ := h
    refine ⟨_, pss_one (ps_ret (pe_lc (own := [("size", 2)]) (g := gName 2) rfl sc_sizes_at.nd (pi_tup (pe_glob (v := .ref Z.a) (by rfl) Z.m rfl)) (blkOk_by (own := [("size", 2)]) (N := ["top", "left", "size"]) (sc := defScope s_sizes_at) (by decide +kernel))
      (fun _ _ _ _ _ => pg_name (i := 2) sc_sizes_at.nd rfl (Or.inl rfl)) (fun _ _ _ _ _ => pts_one (PW.pt (pw_and (pt_cmpR op_eq (pe_op op_mod (pv 0) (pv 2)) pe_int (nomark _)) (pw_and1 (pt_cmpR op_eq (pe_op op_mod (pv 1) (pv 2)) pe_int (nomark _)))))) (fun _ _ _ _ _ => pv 2))), ?_⟩
    have sc : ∀ i j : Int, decide (V.int i = V.int j) = decide (i = j) := fun i j => decide_eq_decide.mpr ⟨fun z => V.int.inj z, fun z => by rw [z]⟩
    refine ⟨Z.a, rfl, ⟨_, Z.q H⟩, fun D hD => lc_it walk_tup (fun i H' => H' D = some (.lst ((([8, 4, 2].take i).filter fun s => decide (t % s = 0) && decide (l % s = 0)).map fun s => V.int ((s : Nat) : Int))) ∧ Same H H') ⟨upd_same, Same.new hD⟩ (fun _ H' _ _ => Z.q H') ?_ ?_⟩
    · rintro i x H3 H2 hi ⟨a1, a2⟩ ⟨rfl, hx⟩
      obtain ⟨c, hc, rfl, hp⟩ : ∃ c : Nat, [8, 4, 2][i]? = some c ∧ x = V.int ((c : Nat) : Int) ∧ 0 < c := by
        match i, hx with
        | 0, hx => exact ⟨8, rfl, (Option.some.inj hx).symm, by decide⟩
        | 1, hx => exact ⟨4, rfl, (Option.some.inj hx).symm, by decide⟩
        | 2, hx => exact ⟨2, rfl, (Option.some.inj hx).symm, by decide⟩
        | i + 3, hx => simp at hx
      have ln : (([8, 4, 2].take i).filter fun s => decide (t % s = 0) && decide (l % s = 0)).length ≤ 3 := by
        refine Nat.le_trans (List.length_filter_le _ _) ?_
        rw [List.length_take]
        exact Nat.min_le_right _ _
      rw [List.take_add_one, hc, List.filter_append]
      have e1 : ((some c).toList.filter fun s => decide (t % s = 0) && decide (l % s = 0)) = if (decide (t % c = 0) && decide (l % c = 0)) = true then [c] else [] := filt_one (fun s => decide (t % s = 0) && decide (l % s = 0)) c
      rw [e1]
      generalize (([8, 4, 2].take i).filter fun s => decide (t % s = 0) && decide (l % s = 0)) = B at a1 ln ⊢
      refine ⟨rfl, ?_⟩
      refine ⟨_, rfl, _, rfl, _, _, rfl, rfl, (by show (0 : Int) < ((c : Nat) : Int); omega), rfl, _, rfl, ?_⟩
      rw [sc]
      by_cases c1 : t % c = 0
      case neg =>
        rw [decide_eq_false (show ¬ ((t : Nat) : Int) % ((c : Nat) : Int) = 0 by rw [← Int.natCast_emod]; omega)]
        refine iteF (iteF ?_)
        rw [decide_eq_false c1, Bool.false_and, if_neg Bool.false_ne_true, List.append_nil]
        exact ⟨a1, a2⟩
      rw [decide_eq_true (show ((t : Nat) : Int) % ((c : Nat) : Int) = 0 by rw [← Int.natCast_emod]; omega)]
      refine iteT ⟨_, rfl, _, rfl, _, _, rfl, rfl, (by show (0 : Int) < ((c : Nat) : Int); omega), rfl, _, rfl, ?_⟩
      rw [sc]
      by_cases c2 : l % c = 0
      case neg =>
        rw [decide_eq_false (show ¬ ((l : Nat) : Int) % ((c : Nat) : Int) = 0 by rw [← Int.natCast_emod]; omega)]
        refine iteF ?_
        rw [decide_eq_false c2, Bool.and_false, if_neg Bool.false_ne_true, List.append_nil]
        exact ⟨a1, a2⟩
      rw [decide_eq_true (show ((l : Nat) : Int) % ((c : Nat) : Int) = 0 by rw [← Int.natCast_emod]; omega)]
      refine iteT ⟨_, rfl, _, a1, ?_, ?_, K04.Same.put a2 hD⟩
      · rw [List.length_map]
        exact Nat.lt_of_le_of_lt ln (by decide)
      · rw [upd_same, decide_eq_true c1, decide_eq_true c2, show (true && true) = true from rfl, if_pos rfl, List.map_append]
        rfl
    · rintro H2 ⟨a1, a2⟩
      exact k D H2 a2 a1
end
end K04
namespace K04
open PySem PySem.Spec PyProof.Rows L2 PySem.W LamX KA KW KU KL KT
open Evl (pss_cut tCut)
/-! ### covers -/
theorem pi_or {X : Cx} {tg e : Expr} {w1 w2 : TI} (h1 : PI X tg e w1) (h2 : PI X tg e w2) : PI X tg e (fun σ H R => w1 σ H R ∨ w2 σ H R) := ⟨fun pins s σ H R I h => h.elim (h1.run pins s σ H R I) (h2.run pins s σ H R I)⟩
def bkOf : Option (List V) → Bk
  | some [.int a, .int b, .int c] => ⟨a.toNat, b.toNat, c.toNat⟩
  | _ => ⟨0, 0, 0⟩
theorem bkOf_V (b : Bk) : bkOf (some (bkV b)) = b := rfl
/-- whether these values cover the shape, r places are reached -/
def coverR (h w : Nat) : Nat → List (Option (List V)) → Bool
  | r, [] => decide (r = (cellsL h w).length)
  | r, o :: os => if decide (r = (cellsL h w).length) = true ∨ blkB h w o = false then false else if (cellsL h w)[r]? = some ⟨(bkOf o).t, (bkOf o).l, 2⟩ then coverR h w (r + manyC h w (bkOf o)) os else false
theorem cover_place {h w r : Nat} {b : Bk} (v : Vb h w b) : (cellsL h w)[r]? = some ⟨b.t, b.l, 2⟩ ↔ placeB h w b = r := by
  obtain ⟨rr, er⟩ := cells_first b v
  have pa := place_at v 0 _ (by rw [er]; rfl)
  constructor
  · intro e
    exact idx_of all_nodup e
  · intro e
    rw [← e]
    exact pa
/-- values in a list or a tuple -/
def RwL (K : PySem.W.Frag) (H : Hp) (vs : List V) (os : List (Option (List V))) : Prop := vs.length = os.length ∧ ∀ (i : Nat) (v : V), vs[i]? = some v → ∃ o, os[i]? = some o ∧ Rw K H v o
theorem RwL.keep {K : PySem.W.Frag} {H H' : Hp} {vs : List V} {os : List (Option (List V))} (r : RwL K H vs os) (s : Same H H') : RwL K H' vs os := ⟨r.1, fun i v e => by
  obtain ⟨o, a, b⟩ := r.2 i v e
  exact ⟨o, a, b.keep s⟩⟩
def spAreCover (K : PySem.W.Frag) (C : Addr) : Sp := fun vs H Q _ => ∃ (sh : V) (q : Addr) (us : List V) (os : List (Option (List V))) (h w : Nat), vs = [sh, .ref q] ∧ Shp C H sh h w ∧ (H q = some (.lst us) ∨ H q = some (.tup us)) ∧ RwL K H us os ∧ ∀ H', Same H H' → Q (.bl (coverR h w 0 os)) H'
section
variable {P : Program} {w : World} {K : PySem.W.Frag} {mg : Str → Option Value} {base : Heap} (T : Top K mg) (SH : ShapeT K mg) (Z : SzT K mg)
include Z in
theorem ok_are_cover : FnOk P w K mg base (L2.CX P w) 6 T.are_cover.a T.are_cover.d ["shape", "blocks"] (spAreCover K SH.C) := by
  refine T.are_cover.f.okX sc_are_cover (fun vs H Q E h => ?_) (fun cdv A outer s H vs Q E hr h => ?_)
  · obtain ⟨sh, q, us, os, h, w, rfl, _⟩ := h
    rfl
  · obtain ⟨sh, q, us, os, h, wn, rfl, shp, hq, ro, k⟩ := h
    refine ⟨_, pss_cons (ps_set (i := 2) sc_are_cover.nd rfl (.inl rfl) (pe_call (ok_cells_of T SH) (hr.mono (by decide)) (by rfl) T.cells_of.m T.cells_of.f.kp (bd_cells_of T) .nil passE (pa_cons (pv 0) pa_nil)))
      (pss_cons (ps_set (i := 3) sc_are_cover.nd rfl (.inl rfl) pe_int)
      (pss_cons (ps_for (passes_of rfl) rfl (pi_or (pi_list (pv 1)) (pi_tup (pv 1))) (pg_name (i := 4) sc_are_cover.nd rfl (.inl rfl))
        (pss_cons (ps_if (PW.pt (pw_or (pt_cmpR op_eq (pv 3) (pe_callB call_len_seq (by rfl) T.b_len PySem.boot_len (pa_cons (pv 2) pa_nil)) (nomark _)) (pw_or1 (pt_not (pt_val (pe_call (ok_is_block_of T SH Z) (hr.mono (by decide)) (by rfl) T.is_block_of.m T.is_block_of.f.kp (bd_is_block_of T) .nil passE (pa_cons (pv 0) (pa_cons (pv 4) pa_nil)))))))) (pss_one (ps_ret pe_bl)) pss_nil)
        (pss_cons (ps_if (pt_cmpR (op_neD hr.units) (pe_ix ix_list (pv 2) (pv 3) (fun _ _ => rfl)) (pe_tup (pa_cons (pe_ix ix_tup (pv 4) pe_int (fun _ _ => rfl)) (pa_cons (pe_ix ix_tup (pv 4) pe_int (fun _ _ => rfl)) (pa_cons pe_int pa_nil)))) (nomark _)) (pss_one (ps_ret pe_bl)) pss_nil)
        (pss_one (ps_aug (i := 3) sc_are_cover.nd rfl (.inl rfl) (pe_call (ok_many_cells T SH) (hr.mono (by decide)) (by rfl) T.many_cells.m T.many_cells.f.kp (bd_many_cells T) .nil passE (pa_cons (pv 0) (pa_cons (pv 4) pa_nil))) ip_add)))))
      (pss_one (ps_ret (pe_cmpR op_eq (pv 3) (pe_callB call_len_seq (by rfl) T.b_len PySem.boot_len (pa_cons (pv 2) pa_nil)) (nomark _)))))), ?_⟩
    refine ⟨_, rfl, sh, h, wn, rfl, shp, fun qc uc H1 s1 nq lq rc => ?_⟩
    have ul := ro.1
    have cl : uc.length = (cellsL h wn).length := rc.1
    have sc : ∀ i j : Int, decide (V.int i = V.int j) = decide (i = j) := fun i j => decide_eq_decide.mpr ⟨fun z => V.int.inj z, fun z => by rw [z]⟩
    have scN : ∀ i j : Nat, decide (V.int ((i : Nat) : Int) = V.int ((j : Nat) : Int)) = decide (i = j) := fun i j => decide_eq_decide.mpr ⟨fun z => by have := V.int.inj z; omega, fun z => by rw [z]⟩
    -- what is left of the values
    have inv0 : ∀ {J : It} {G : Hp → Prop}, Walk J us.length G (YAt us) → (∀ H', Same H1 H' → G H') → ∀ {g : TG} {tb : TS} {D : Ends}, g = gName 4 →
        (∀ (n r : Nat) (o : Option (List V)) (v : V) (v4 : Option V) (H3 : Hp) (N : L2.St → Hp → Prop), Same H1 H3 → us[n]? = some v → os[n]? = some o → Rw K H3 v o → r ≤ (cellsL h wn).length → coverR h wn 0 os = coverR h wn r (os.drop n) →
          (∀ r' v4' H4, Same H1 H4 → r' ≤ (cellsL h wn).length → coverR h wn 0 os = coverR h wn r' (os.drop (n + 1)) → N [some sh, some (.ref q), some (.ref qc), some (.int ((r' : Nat) : Int)), v4'] H4) →
          tb { D with nx := N, ct := N, bk := D.nx } [some sh, some (.ref q), some (.ref qc), some (.int ((r : Nat) : Int)), some v] H3) →
        (∀ (r : Nat) (v4 : Option V) (H3 : Hp), Same H1 H3 → coverR h wn 0 os = decide (r = (cellsL h wn).length) → D.nx [some sh, some (.ref q), some (.ref qc), some (.int ((r : Nat) : Int)), v4] H3) →
        ∃ W : Nat → Nat → L2.St → Hp → Prop, (∃ m, W 0 m [some sh, some (.ref q), some (.ref qc), some (.int 0), none] H1) ∧ ∀ i m σ H, W i m σ H →
          (J.stop i H ∧ D.nx σ H) ∨ (J.go i H ∧ ∃ N : L2.St → Hp → Prop, (∀ σ' H', N σ' H' → ∃ m', m' < m ∧ W (i + 1) m' σ' H') ∧ ∀ x H', J.yld i H x H' → g x σ H' fun σ2 H2 => tb { D with nx := N, ct := N, bk := D.nx } σ2 H2) := by
      intro J G wk hG g tb D eg body done
      subst eg
      refine for_it wk (fun n σ H' => ∃ (r : Nat) (v4 : Option V), σ = [some sh, some (.ref q), some (.ref qc), some (.int ((r : Nat) : Int)), v4] ∧ Same H1 H' ∧ r ≤ (cellsL h wn).length ∧ coverR h wn 0 os = coverR h wn r (os.drop n)) ⟨0, none, rfl, Same.refl _, Nat.zero_le _, rfl⟩ (fun _ _ H' _ q' => by
        obtain ⟨_, _, _, s, _⟩ := q'
        exact hG H' s) ?_ fun σ H' q' => ?_
      · rintro n x σ H3 H2 hn ⟨r, v4, rfl, s3, rl, e⟩ ⟨rfl, hx⟩
        obtain ⟨o, ho, hr'⟩ := ro.2 n x hx
        exact body n r o x v4 H2 _ s3 hx ho (hr'.keep (s1.trans s3)) rl e fun r' v4' H4 s4 rl' e' => ⟨r', v4', rfl, s4, rl', e'⟩
      · obtain ⟨r, v4, rfl, s3, rl, e⟩ := q'
        rw [List.drop_of_length_le (by rw [ul]; exact Nat.le_refl _)] at e
        exact done r v4 H' s3 e
    rcases hq with eq | eq
    · refine .inl ⟨_, rfl, q, rfl, ⟨_, SqL.of (s1 _ _ eq)⟩, inv0 walk_list (fun H' s => SqL.of ((s1.trans s) _ _ eq)) rfl ?_ ?_⟩
      · intro n r o v v4 H3 N s3 hv ho hrw rl e nx
        have s13 := s1.trans s3
        have lq3 := s3 _ _ lq
        have rc3 := rc.same s3
        have dr : os.drop n = o :: os.drop (n + 1) := by
          rw [← List.getElem_cons_drop (List.getElem?_eq_some_iff.mp ho).1]
          rw [(List.getElem?_eq_some_iff.mp ho).2]
        rw [dr] at e
        have e1 : coverR h wn r (o :: os.drop (n + 1)) = if decide (r = (cellsL h wn).length) = true ∨ blkB h wn o = false then false else if (cellsL h wn)[r]? = some ⟨(bkOf o).t, (bkOf o).l, 2⟩ then coverR h wn (r + manyC h wn (bkOf o)) (os.drop (n + 1)) else false := rfl
        rw [e1] at e
        refine ⟨_, rfl, _, rfl, qc, uc, rfl, .inl (SqL.of lq3), rfl, _, rfl, ?_⟩
        rw [cl, scN]
        cases c1 : decide (r = (cellsL h wn).length)
        case true =>
          refine iteT (iteT (q_bl (k H3 s13) ?_))
          rw [e, if_pos (.inl c1)]
        refine iteF ⟨_, rfl, _, rfl, sh, v, o, h, wn, rfl, shp.keep s13, hrw, _, rfl, ?_⟩
        cases c2 : blkB h wn o
        · refine iteT (q_bl (k H3 s13) ?_)
          rw [e, if_pos (.inr c2)]
        rw [if_neg (by rw [c1, c2]; simp)] at e
        obtain ⟨b, vb, rfl⟩ := blkB_iff.mp c2
        rw [bkOf_V] at e
        obtain ⟨pb, rfl, eb⟩ : ∃ pb, v = .ref pb ∧ H3 pb = some (.tup (bkV b)) := by
          cases hrw with
          | tup e' _ _ => exact ⟨_, rfl, e'⟩
        have rlt : r < (cellsL h wn).length := by
          have := of_decide_eq_false c1
          omega
        obtain ⟨cc, hcc⟩ : ∃ c, (cellsL h wn)[r]? = some c := ⟨_, List.getElem?_eq_getElem rlt⟩
        obtain ⟨pc, hpc, epc⟩ := rc3.at_ hcc
        refine iteF ⟨_, rfl, _, rfl, qc, uc, _, _, rfl, rfl, SqL.of lq3, atI_nat hpc, _, rfl, pb, _, 0, _, rfl, rfl, SqT.of eb, atI_nat (j := 0) rfl, _, rfl, pb, _, 1, _, rfl, rfl, SqT.of eb, atI_nat (j := 1) rfl, (by show 3 ≤ sizeLine; decide), fun z hz => ?_⟩
        have tz := Same.new (o := .tup [V.int (b.t : Int), .int (b.l : Int), .int 2]) hz
        refine ⟨bkD cc, bkD ⟨b.t, b.l, 2⟩, dp_bk (tz _ _ epc), dp_bk (b := ⟨b.t, b.l, 2⟩) upd_same, bk_shaped _, bk_shaped _, _, rfl, ?_⟩
        rw [eqv_bk]
        have s13 := s13.trans tz
        by_cases c3 : cc = ⟨b.t, b.l, 2⟩
        case neg =>
          rw [decide_eq_false c3]
          refine iteT (q_bl (k _ s13) ?_)
          rw [e, hcc, if_neg (fun z => c3 (Option.some.inj z))]
        rw [decide_eq_true c3]
        rw [c3] at hcc
        rw [hcc, if_pos rfl] at e
        have hpl := (cover_place vb).mp hcc
        have hle := place_le vb
        refine iteF ⟨_, rfl, _, rfl, _, rfl, sh, pb, b, h, wn, rfl, shp.keep s13, tz _ _ eb, vb, fun H5 s5 => ⟨_, _, rfl, rfl, ?_⟩⟩
        have nx := nx (r + manyC h wn b) (some (.ref pb)) H5 ((s3.trans tz).trans s5) (by omega) e
        rw [Int.natCast_add] at nx
        exact nx
      · intro r v4 H3 s3 e
        refine ⟨_, rfl, _, rfl, qc, uc, rfl, .inl (SqL.of (s3 _ _ lq)), rfl, ?_⟩
        refine q_bl (k H3 (s1.trans s3)) ?_
        rw [cl, scN, e]
    · refine .inr ⟨_, rfl, q, rfl, ⟨_, SqT.of (s1 _ _ eq)⟩, inv0 walk_tup (fun H' s => SqT.of ((s1.trans s) _ _ eq)) rfl ?_ ?_⟩
      · intro n r o v v4 H3 N s3 hv ho hrw rl e nx
        have s13 := s1.trans s3
        have lq3 := s3 _ _ lq
        have rc3 := rc.same s3
        have dr : os.drop n = o :: os.drop (n + 1) := by
          rw [← List.getElem_cons_drop (List.getElem?_eq_some_iff.mp ho).1]
          rw [(List.getElem?_eq_some_iff.mp ho).2]
        rw [dr] at e
        have e1 : coverR h wn r (o :: os.drop (n + 1)) = if decide (r = (cellsL h wn).length) = true ∨ blkB h wn o = false then false else if (cellsL h wn)[r]? = some ⟨(bkOf o).t, (bkOf o).l, 2⟩ then coverR h wn (r + manyC h wn (bkOf o)) (os.drop (n + 1)) else false := rfl
        rw [e1] at e
        refine ⟨_, rfl, _, rfl, qc, uc, rfl, .inl (SqL.of lq3), rfl, _, rfl, ?_⟩
        rw [cl, scN]
        cases c1 : decide (r = (cellsL h wn).length)
        case true =>
          refine iteT (iteT (q_bl (k H3 s13) ?_))
          rw [e, if_pos (.inl c1)]
        refine iteF ⟨_, rfl, _, rfl, sh, v, o, h, wn, rfl, shp.keep s13, hrw, _, rfl, ?_⟩
        cases c2 : blkB h wn o
        · refine iteT (q_bl (k H3 s13) ?_)
          rw [e, if_pos (.inr c2)]
        rw [if_neg (by rw [c1, c2]; simp)] at e
        obtain ⟨b, vb, rfl⟩ := blkB_iff.mp c2
        rw [bkOf_V] at e
        obtain ⟨pb, rfl, eb⟩ : ∃ pb, v = .ref pb ∧ H3 pb = some (.tup (bkV b)) := by
          cases hrw with
          | tup e' _ _ => exact ⟨_, rfl, e'⟩
        have rlt : r < (cellsL h wn).length := by
          have := of_decide_eq_false c1
          omega
        obtain ⟨cc, hcc⟩ : ∃ c, (cellsL h wn)[r]? = some c := ⟨_, List.getElem?_eq_getElem rlt⟩
        obtain ⟨pc, hpc, epc⟩ := rc3.at_ hcc
        refine iteF ⟨_, rfl, _, rfl, qc, uc, _, _, rfl, rfl, SqL.of lq3, atI_nat hpc, _, rfl, pb, _, 0, _, rfl, rfl, SqT.of eb, atI_nat (j := 0) rfl, _, rfl, pb, _, 1, _, rfl, rfl, SqT.of eb, atI_nat (j := 1) rfl, (by show 3 ≤ sizeLine; decide), fun z hz => ?_⟩
        have tz := Same.new (o := .tup [V.int (b.t : Int), .int (b.l : Int), .int 2]) hz
        refine ⟨bkD cc, bkD ⟨b.t, b.l, 2⟩, dp_bk (tz _ _ epc), dp_bk (b := ⟨b.t, b.l, 2⟩) upd_same, bk_shaped _, bk_shaped _, _, rfl, ?_⟩
        rw [eqv_bk]
        have s13 := s13.trans tz
        by_cases c3 : cc = ⟨b.t, b.l, 2⟩
        case neg =>
          rw [decide_eq_false c3]
          refine iteT (q_bl (k _ s13) ?_)
          rw [e, hcc, if_neg (fun z => c3 (Option.some.inj z))]
        rw [decide_eq_true c3]
        rw [c3] at hcc
        rw [hcc, if_pos rfl] at e
        have hpl := (cover_place vb).mp hcc
        have hle := place_le vb
        refine iteF ⟨_, rfl, _, rfl, _, rfl, sh, pb, b, h, wn, rfl, shp.keep s13, tz _ _ eb, vb, fun H5 s5 => ⟨_, _, rfl, rfl, ?_⟩⟩
        have nx := nx (r + manyC h wn b) (some (.ref pb)) H5 ((s3.trans tz).trans s5) (by omega) e
        rw [Int.natCast_add] at nx
        exact nx
      · intro r v4 H3 s3 e
        refine ⟨_, rfl, _, rfl, qc, uc, rfl, .inl (SqL.of (s3 _ _ lq)), rfl, ?_⟩
        refine q_bl (k H3 (s1.trans s3)) ?_
        rw [cl, scN, e]
end
end K04
namespace K04
open PySem PySem.Spec PyProof.Rows L2 PySem.W LamX KA KW KU KL KT
open Evl (pss_cut tCut)
/-! ### how many covers -/
def prodL (f : Bk → Nat) : List Bk → Nat
  | [] => 1
  | b :: bs => f b * prodL f bs
def waysB (h w : Nat) : Nat → Bk → Nat
  | 0, _ => 1
  | n + 1, b => 1 + prodL (waysB h w n) (partsL h w b)
def waysOf (h w : Nat) (b : Bk) : Nat := waysB h w (lev b) b
theorem prodL_congr {f g : Bk → Nat} : ∀ {bs : List Bk}, (∀ b ∈ bs, f b = g b) → prodL f bs = prodL g bs
  | [], _ => rfl
  | b :: bs, e => by
    show f b * prodL f bs = g b * prodL g bs
    rw [e b List.mem_cons_self, prodL_congr fun b hb => e b (List.mem_cons_of_mem _ hb)]
theorem prodL_snoc {f : Bk → Nat} : ∀ (bs : List Bk) (b : Bk), prodL f (bs ++ [b]) = prodL f bs * f b
  | [], b => by show f b * 1 = 1 * f b; omega
  | a :: bs, b => by
    show f a * prodL f (bs ++ [b]) = f a * prodL f bs * f b
    rw [prodL_snoc bs b, Nat.mul_assoc]
theorem ways_one {h w : Nat} {b : Bk} (s2 : b.s = 2) : waysOf h w b = 1 := by
  unfold waysOf lev
  rw [s2]
  rfl
theorem ways_step {h w : Nat} {b : Bk} (v : Vb h w b) (s2 : b.s ≠ 2) : waysOf h w b = 1 + prodL (waysOf h w) (partsL h w b) := by
  obtain ⟨n, e⟩ : ∃ n, lev b = n + 1 := by
    unfold lev
    rcases v.s with z | z | z
    · exact ⟨1, by rw [z]; rfl⟩
    · exact ⟨0, by rw [z]; rfl⟩
    · exact absurd z s2
  unfold waysOf
  rw [e]
  show 1 + prodL (waysB h w n) (partsL h w b) = _
  congr 1
  refine prodL_congr fun p hp => ?_
  have := (parts_vb v hp).2.2
  rw [show lev p = n by omega]
theorem prodL_le {f : Bk → Nat} {m : Nat} (hm : 1 ≤ m) : ∀ {bs : List Bk} {n : Nat}, (∀ b ∈ bs, f b ≤ m) → bs.length ≤ n → prodL f bs ≤ m ^ n
  | [], n, _, _ => Nat.one_le_pow _ _ hm
  | b :: bs, 0, _, l => by simp at l
  | b :: bs, n + 1, e, l => by
    show f b * prodL f bs ≤ m ^ (n + 1)
    rw [Nat.pow_succ, Nat.mul_comm (m ^ n)]
    exact Nat.mul_le_mul (e b List.mem_cons_self) (prodL_le hm (fun b hb => e b (List.mem_cons_of_mem _ hb)) (by simpa using l))
theorem ways_le {h w : Nat} {b : Bk} (v : Vb h w b) : waysOf h w b ≤ 17 := by
  have le2 : ∀ b, Vb h w b → lev b = 0 → waysOf h w b = 1 := fun b v e => by unfold waysOf; rw [e]; rfl
  have le4 : ∀ b, Vb h w b → lev b = 1 → waysOf h w b ≤ 2 := fun b v e => by
    have s2 : b.s ≠ 2 := fun z => by unfold lev at e; rw [z] at e; cases e
    rw [ways_step v s2]
    have : prodL (waysOf h w) (partsL h w b) ≤ 1 ^ 4 := prodL_le (by decide) (fun p hp => by
      obtain ⟨a1, _, a3⟩ := parts_vb v hp
      rw [le2 p a1 (by omega)]
      exact Nat.le_refl _) parts_len
    omega
  by_cases s2 : b.s = 2
  · rw [ways_one s2]
    decide
  rw [ways_step v s2]
  have l2 : lev b ≤ 2 := by
    unfold lev
    split
    · exact Nat.le_refl _
    · split <;> decide
  have : prodL (waysOf h w) (partsL h w b) ≤ 2 ^ 4 := prodL_le (by decide) (fun p hp => by
    obtain ⟨a1, _, a3⟩ := parts_vb v hp
    by_cases z : lev p = 0
    · rw [le2 p a1 z]
      decide
    · exact le4 p a1 (by omega)) parts_len
  omega
def spTogether (C : Addr) (n : Nat) : Sp := fun vs H Q _ => ∃ (sh : V) (q : Addr) (us : List V) (bs : List Bk) (h w : Nat), vs = [sh, .ref q] ∧ Shp C H sh h w ∧ H q = some (.lst us) ∧ RL bkV H us bs ∧ (∀ b ∈ bs, Vb h w b ∧ lev b = n) ∧ bs.length ≤ 4 ∧ ∀ H', Same H H' → Q (.int (prodL (waysOf h w) bs : Nat)) H'
section
variable {P : Program} {w : World} {K : PySem.W.Frag} {mg : Str → Option Value} {base : Heap} (T : Top K mg) (SH : ShapeT K mg)
theorem together_zero : FnOk P w K mg base (L2.CX P w) 2 T.many_together.a T.many_together.d ["shape", "blocks"] (spTogether SH.C 0) := by
  refine T.many_together.f.okX sc_many_together (fun vs H Q E h => ?_) (fun cdv A outer s H vs Q E hr h => ?_)
  · obtain ⟨sh, q, us, bs, h, w, rfl, _⟩ := h
    rfl
  · obtain ⟨sh, q, us, bs, h, wn, rfl, shp, hq, rb, vb, lb, k⟩ := h
    refine ⟨_, pss_cons (ps_set (i := 2) sc_many_together.nd rfl (.inl rfl) pe_int)
      (pss_cons (ps_for (passes_of rfl) rfl (pi_list (pv 1)) (pg_name (i := 3) sc_many_together.nd rfl (.inl rfl))
        (pss_cons (ps_set (i := 4) sc_many_together.nd rfl (.inl rfl) (pe_call (ok_quarters_of T SH) (hr.mono (by decide)) (by rfl) T.quarters_of.m T.quarters_of.f.kp (bd_quarters_of T) .nil passE (pa_cons (pv 0) (pa_cons (pv 3) pa_nil))))
        (pss_one (ps_set (i := 2) sc_many_together.nd rfl (.inl rfl) (pe_op op_mul (pv 2) (pe_ifExp (pt_truth (pv 4) (fun _ => rfl)) (pe_op op_add pe_int (pe_call (sp := spNever) (ok_never) hr (by rfl) T.many_together.m T.many_together.f.kp (bd_many_together T) .nil passE (pa_cons (pv 0) (pa_cons (pv 4) pa_nil)))) pe_int))))))
      (pss_one (ps_ret (pv 2)))), ?_⟩
    refine ⟨_, rfl, q, rfl, ⟨_, SqL.of hq⟩, for_it walk_list (fun n σ H' => (∃ v3 v4, σ = [some sh, some (.ref q), some (.int ((prodL (waysOf h wn) (bs.take n) : Nat) : Int)), v3, v4]) ∧ Same H H') ⟨⟨none, none, rfl⟩, Same.refl _⟩ (fun _ _ H' _ q' => SqL.of (q'.2 _ _ hq)) ?_ fun σ H' q' => ?_⟩
    · rintro i x σ H3 H2 hi ⟨⟨v3, v4, rfl⟩, s2⟩ ⟨rfl, hx⟩
      obtain ⟨pb, b, rfl, hb, eb⟩ := (rb.same s2).get hx
      obtain ⟨vb', lb'⟩ := vb b (List.mem_of_getElem? hb)
      have bd : prodL (waysOf h wn) (bs.take i) ≤ 17 ^ 4 := prodL_le (by decide) (fun b hb => ways_le (vb b (List.mem_of_mem_take hb)).1) (by rw [List.length_take]; omega)
      have e17 : (17 : Nat) ^ 4 = 83521 := by decide
      have es : prodL (waysOf h wn) (bs.take (i + 1)) = prodL (waysOf h wn) (bs.take i) * waysOf h wn b := by
        rw [List.take_add_one, hb]
        exact prodL_snoc _ _
      refine ⟨_, rfl, _, rfl, sh, pb, b, h, wn, rfl, shp.keep s2, eb, vb', fun q2 us2 H4 s4 nq2 lq2 r2 => ⟨_, rfl, _, rfl, !us2.isEmpty, .inl ⟨us2, SqL.of lq2, rfl⟩, ?_⟩⟩
      have s2' : b.s = 2 := by
        unfold lev at lb'
        rcases vb'.s with z | z | z
        · rw [z] at lb'; cases lb'
        · rw [z] at lb'; cases lb'
        · exact z
      rw [parts_none s2'] at r2
      have : us2 = [] := List.eq_nil_of_length_eq_zero r2.1
      subst this
      have ev : ((prodL (waysOf h wn) (bs.take i) : Nat) : Int) * 1 = ((prodL (waysOf h wn) (bs.take (i + 1)) : Nat) : Int) := by
        rw [es, ways_one s2']
        omega
      exact iteF ⟨_, _, rfl, rfl, .inl ⟨by omega, by omega⟩, ⟨some (.ref pb), some (.ref q2), by rw [← ev]; rfl⟩, s2.trans s4⟩
    · obtain ⟨⟨v3, v4, rfl⟩, s2⟩ := q'
      rw [List.take_of_length_le (by rw [rb.1]; exact Nat.le_refl _)]
      exact ⟨_, rfl, k H' s2⟩
theorem together_more {n k' : Nat} (hk : 1 ≤ k') (F : FnOk P w K mg base (L2.CX P w) k' T.many_together.a T.many_together.d ["shape", "blocks"] (spTogether SH.C n)) : FnOk P w K mg base (L2.CX P w) (k' + 1) T.many_together.a T.many_together.d ["shape", "blocks"] (spTogether SH.C (n + 1)) := by
  refine T.many_together.f.okX sc_many_together (fun vs H Q E h => ?_) (fun cdv A outer s H vs Q E hr h => ?_)
  · obtain ⟨sh, q, us, bs, h, w, rfl, _⟩ := h
    rfl
  · obtain ⟨sh, q, us, bs, h, wn, rfl, shp, hq, rb, vb, lb, k⟩ := h
    refine ⟨_, pss_cons (ps_set (i := 2) sc_many_together.nd rfl (.inl rfl) pe_int)
      (pss_cons (ps_for (passes_of rfl) rfl (pi_list (pv 1)) (pg_name (i := 3) sc_many_together.nd rfl (.inl rfl))
        (pss_cons (ps_set (i := 4) sc_many_together.nd rfl (.inl rfl) (pe_call (ok_quarters_of T SH) (hr.mono hk) (by rfl) T.quarters_of.m T.quarters_of.f.kp (bd_quarters_of T) .nil passE (pa_cons (pv 0) (pa_cons (pv 3) pa_nil))))
        (pss_one (ps_set (i := 2) sc_many_together.nd rfl (.inl rfl) (pe_op op_mul (pv 2) (pe_ifExp (pt_truth (pv 4) (fun _ => rfl)) (pe_op op_add pe_int (pe_call (sp := (spTogether SH.C n)) (F) hr (by rfl) T.many_together.m T.many_together.f.kp (bd_many_together T) .nil passE (pa_cons (pv 0) (pa_cons (pv 4) pa_nil)))) pe_int))))))
      (pss_one (ps_ret (pv 2)))), ?_⟩
    refine ⟨_, rfl, q, rfl, ⟨_, SqL.of hq⟩, for_it walk_list (fun n σ H' => (∃ v3 v4, σ = [some sh, some (.ref q), some (.int ((prodL (waysOf h wn) (bs.take n) : Nat) : Int)), v3, v4]) ∧ Same H H') ⟨⟨none, none, rfl⟩, Same.refl _⟩ (fun _ _ H' _ q' => SqL.of (q'.2 _ _ hq)) ?_ fun σ H' q' => ?_⟩
    · rintro i x σ H3 H2 hi ⟨⟨v3, v4, rfl⟩, s2⟩ ⟨rfl, hx⟩
      obtain ⟨pb, b, rfl, hb, eb⟩ := (rb.same s2).get hx
      obtain ⟨vb', lb'⟩ := vb b (List.mem_of_getElem? hb)
      have bd : prodL (waysOf h wn) (bs.take i) ≤ 17 ^ 4 := prodL_le (by decide) (fun b hb => ways_le (vb b (List.mem_of_mem_take hb)).1) (by rw [List.length_take]; omega)
      have e17 : (17 : Nat) ^ 4 = 83521 := by decide
      have es : prodL (waysOf h wn) (bs.take (i + 1)) = prodL (waysOf h wn) (bs.take i) * waysOf h wn b := by
        rw [List.take_add_one, hb]
        exact prodL_snoc _ _
      refine ⟨_, rfl, _, rfl, sh, pb, b, h, wn, rfl, shp.keep s2, eb, vb', fun q2 us2 H4 s4 nq2 lq2 r2 => ⟨_, rfl, _, rfl, !us2.isEmpty, .inl ⟨us2, SqL.of lq2, rfl⟩, ?_⟩⟩
      have s2' : b.s ≠ 2 := fun z => by
        unfold lev at lb'
        rw [z] at lb'
        cases lb'
      have ne : us2.isEmpty = false := by
        have := parts_some vb' s2'
        cases us2 with
        | nil => exact absurd (List.eq_nil_of_length_eq_zero (r2.1.symm)) this
        | cons _ _ => rfl
      rw [ne]
      refine iteT ⟨_, rfl, _, rfl, sh, q2, us2, _, h, wn, rfl, (shp.keep s2).keep s4, lq2, r2, fun p hp => ?_, parts_len, fun H5 s5 => ?_⟩
      · obtain ⟨a1, _, a3⟩ := parts_vb vb' hp
        exact ⟨a1, by omega⟩
      have ev : ((prodL (waysOf h wn) (bs.take i) : Nat) : Int) * (1 + ((prodL (waysOf h wn) (partsL h wn b) : Nat) : Int)) = ((prodL (waysOf h wn) (bs.take (i + 1)) : Nat) : Int) := by
        rw [es, ways_step vb' s2', Int.natCast_mul, Int.natCast_add]
        rfl
      exact ⟨_, _, rfl, rfl, _, _, rfl, rfl, .inl ⟨by omega, by omega⟩, ⟨some (.ref pb), some (.ref q2), by rw [← ev]; rfl⟩, (s2.trans s4).trans s5⟩
    · obtain ⟨⟨v3, v4, rfl⟩, s2⟩ := q'
      rw [List.take_of_length_le (by rw [rb.1]; exact Nat.le_refl _)]
      exact ⟨_, rfl, k H' s2⟩
theorem ok_together : FnOk P w K mg base (L2.CX P w) 4 T.many_together.a T.many_together.d ["shape", "blocks"] (spTogether SH.C 2) :=
  together_more T SH (k' := 3) (by decide) (together_more T SH (k' := 2) (by decide) (together_zero T SH))
end
end K04
namespace K04
open PySem PySem.Spec PyProof.Rows L2 PySem.W LamX KA KW KU KL KT
open Evl (pss_cut tCut)
/-! ### what the law calls -/
/-- a shape, or what raises that it is none -/
def ShOr (C CB : Addr) (good : Nat → Nat → Prop) (x : V) (H : Hp) (E : XK) : Prop := (∃ h w, Shp C H x h w ∧ good h w) ∨ (OddS x ∧ noShape CB H E)
/-- neither list nor tuple -/
inductive Nl (H : Hp) : V → Prop where
  | int (i : Int) : Nl H (.int i)
  | str (s : Str) : Nl H (.str s)
  | non : Nl H .non
  | dK {a : Addr} {kvs : List (Key × V)} (e : H a = some (.dK kvs)) : Nl H (.ref a)
theorem Nl.keep {H H' : Hp} {x : V} (h : Nl H x) (s : Same H H') : Nl H' x := by
  cases h with
  | int i => exact .int i
  | str i => exact .str i
  | non => exact .non
  | dK e => exact .dK (s _ _ e)
theorem Nl.ty {K : PySem.W.Frag} {H : Hp} {x : V} (h : Nl H x) : ∃ t : String, TyX K H x (.type t) ∧ kitB t "list" = some false ∧ kitB t "tuple" = some false := by
  cases h with
  | int i => exact ⟨"int", .base (.int i), by decide +kernel, by decide +kernel⟩
  | str i => exact ⟨"str", .base (.str i), by decide +kernel, by decide +kernel⟩
  | non => exact ⟨"NoneType", .base .non, by decide +kernel, by decide +kernel⟩
  | dK e => exact ⟨"dict", .base (.dK e), by decide +kernel, by decide +kernel⟩
theorem kit_two {K : PySem.W.Frag} {t a b : String} {x y : Bool} (e1 : kitB t a = some x) (e2 : kitB t b = some y) : PySem.W.kitAny K (.type t) [.type a, .type b] = some (x || y) := by
  unfold PySem.W.kitAny
  rw [kit_ty e1]
  cases x
  · show (match PySem.W.kitOne K (.type t) (.type b) with | some true => some true | some false => some false | none => none) = _
    rw [kit_ty e2]
    cases y <;> rfl
  · rfl
/-- a list or a tuple of values, or another value -/
inductive CvT (K : PySem.W.Frag) (H : Hp) : V → Option (List (Option (List V))) → Prop where
  | no {x : V} (t : Nl H x) : CvT K H x none
  | some {q : Addr} {us : List V} {os : List (Option (List V))} (e : H q = some (.lst us) ∨ H q = some (.tup us)) (r : RwL K H us os) : CvT K H (.ref q) (some os)
def cvB (h w : Nat) : Option (List (Option (List V))) → Bool
  | none => false
  | some os => coverR h w 0 os
def spIsBlock (K : PySem.W.Frag) (C CB : Addr) : Sp := fun vs H Q E => ∃ x y, vs = [x, y] ∧ ShOr C CB (fun h w => ∃ o, Rw K H y o ∧ Q (.bl (blkB h w o)) H) x H E
def spBlkFn {α : Type} (K : PySem.W.Frag) (C CB CK : Addr) (f : α → List V) (g : Nat → Nat → Bk → List α) : Sp := fun vs H Q E => ∃ x y, vs = [x, y] ∧ ShOr C CB (fun h w => ∃ o, Rw K H y o ∧ (blkB h w o = false → E (.ref CK) none H) ∧
  ∀ p b, y = .ref p → H p = some (.tup (bkV b)) → Vb h w b → ∀ q us H', Same H H' → H q = none → H' q = some (.lst us) → RL f H' us (g h w b) → Q (.ref q) H') x H E
def spPlaceOf (K : PySem.W.Frag) (C CB CK : Addr) : Sp := fun vs H Q E => ∃ x y, vs = [x, y] ∧ ShOr C CB (fun h w => ∃ o, Rw K H y o ∧ (blkB h w o = false → E (.ref CK) none H) ∧
  ∀ p b, y = .ref p → H p = some (.tup (bkV b)) → Vb h w b → ∀ q H', Same H H' → H' q = some (.tup [.int (placeB h w b : Nat), .int ((placeB h w b + manyC h w b : Nat) : Int)]) → Q (.ref q) H') x H E
def spShFn (C CB : Addr) (g : Nat → Nat → List Bk) : Sp := fun vs H Q E => ∃ x, vs = [x] ∧ ShOr C CB (fun h w => ∀ q us H', Same H H' → H q = none → H' q = some (.lst us) → RL bkV H' us (g h w) → Q (.ref q) H') x H E
def spIsCover (K : PySem.W.Frag) (C CB : Addr) : Sp := fun vs H Q E => ∃ x y, vs = [x, y] ∧ ShOr C CB (fun h w => ∃ cv, CvT K H y cv ∧ ∀ H', Same H H' → Q (.bl (cvB h w cv)) H') x H E
def spManyCov (C CB : Addr) : Sp := fun vs H Q E => ∃ x, vs = [x] ∧ ShOr C CB (fun h w => ∀ H', Same H H' → Q (.int (prodL (waysOf h w) (rootsL h w) : Nat)) H') x H E
theorem rw_bk {K : PySem.W.Frag} {H : Hp} {y : V} {b : Bk} (r : Rw K H y (some (bkV b))) : ∃ p, y = .ref p ∧ H p = some (.tup (bkV b)) := by
  cases r with
  | tup e _ _ => exact ⟨_, rfl, e⟩
section
variable {P : Program} {w : World} {K : PySem.W.Frag} {mg : Str → Option Value} {base : Heap} (T : Top K mg) (SH : ShapeT K mg) (BE : BadShapeT P w K mg T.reel.C) (Z : SzT K mg)
include BE
include Z in
theorem ok_is_block : FnOk P w K mg base (L2.CX P w) 6 T.is_block.a T.is_block.d ["shape", "thing"] (spIsBlock K SH.C BE.C) := by
  refine T.is_block.f.okX sc_is_block (fun vs H Q E h => ?_) (fun cdv A outer s H vs Q E hr h => ?_)
  · obtain ⟨x, y, rfl, _⟩ := h
    rfl
  · obtain ⟨x, y, rfl, h⟩ := h
    refine ⟨_, pss_cons (ps_expr (pe_call (ok_check_shape T SH BE) (hr.mono (by decide)) (by rfl) T.check_shape.m T.check_shape.f.kp (bd_check_shape T) .nil (passX rfl rfl rfl rfl) (pa_cons (pv 0) pa_nil)))
      (pss_one (ps_ret (pe_call (ok_is_block_of T SH Z) (hr.mono (by decide)) (by rfl) T.is_block_of.m T.is_block_of.f.kp (bd_is_block_of T) .nil passE (pa_cons (pv 0) (pa_cons (pv 1) pa_nil))))), ?_⟩
    rcases h with ⟨h, wn, shp, k⟩ | ⟨os, k⟩
    case inr => exact ⟨_, rfl, x, rfl, .inr ⟨os, k⟩⟩
    obtain ⟨lo, hi, sv⟩ := shp.v
    refine ⟨_, rfl, x, rfl, .inl ⟨lo, hi, sv, ?_⟩⟩
    obtain ⟨o, ro, k⟩ := k
    exact ⟨_, rfl, _, rfl, x, y, o, h, wn, rfl, shp, ro, k⟩
include Z in
theorem ok_spots : FnOk P w K mg base (L2.CX P w) 6 T.spots.a T.spots.d ["shape", "block"] (spBlkFn K SH.C BE.C T.BadBlock.C dotV (fun h w b => dotsB h w b)) := by
  refine T.spots.f.okX sc_spots (fun vs H Q E h => ?_) (fun cdv A outer s H vs Q E hr h => ?_)
  · obtain ⟨x, y, rfl, _⟩ := h
    rfl
  · obtain ⟨x, y, rfl, h⟩ := h
    refine ⟨_, pss_cons (ps_expr (pe_call (ok_check_shape T SH BE) (hr.mono (by decide)) (by rfl) T.check_shape.m T.check_shape.f.kp (bd_check_shape T) .nil (passX rfl rfl rfl rfl) (pa_cons (pv 0) pa_nil)))
      (pss_cons (ps_expr (pe_call (ok_check_block T SH Z) (hr.mono (by decide)) (by rfl) T.check_block.m T.check_block.f.kp (bd_check_block T) .nil (passX rfl rfl rfl rfl) (pa_cons (pv 0) (pa_cons (pv 1) pa_nil))))
      (pss_one (ps_ret (pe_call (ok_spots_of T SH) (hr.mono (by decide)) (by rfl) T.spots_of.m T.spots_of.f.kp (bd_spots_of T) .nil passE (pa_cons (pv 0) (pa_cons (pv 1) pa_nil)))))), ?_⟩
    rcases h with ⟨h, wn, shp, k⟩ | ⟨os, k⟩
    case inr => exact ⟨_, rfl, x, rfl, .inr ⟨os, k⟩⟩
    obtain ⟨lo, hi, sv⟩ := shp.v
    refine ⟨_, rfl, x, rfl, .inl ⟨lo, hi, sv, ?_⟩⟩
    obtain ⟨o, ro, k1, k2⟩ := k
    refine ⟨_, rfl, _, rfl, x, y, o, h, wn, rfl, shp, ro, fun e => ?_, k1⟩
    obtain ⟨b, vb, rfl⟩ := blkB_iff.mp e
    obtain ⟨p, rfl, ep⟩ := rw_bk ro
    exact ⟨_, rfl, _, rfl, x, p, b, h, wn, rfl, shp, ep, vb, fun q us H' s n l r => k2 p b rfl ep vb q us H' s n l r⟩
include Z in
theorem ok_quarters : FnOk P w K mg base (L2.CX P w) 6 T.quarters.a T.quarters.d ["shape", "block"] (spBlkFn K SH.C BE.C T.BadBlock.C bkV (fun h w b => partsL h w b)) := by
  refine T.quarters.f.okX sc_quarters (fun vs H Q E h => ?_) (fun cdv A outer s H vs Q E hr h => ?_)
  · obtain ⟨x, y, rfl, _⟩ := h
    rfl
  · obtain ⟨x, y, rfl, h⟩ := h
    refine ⟨_, pss_cons (ps_expr (pe_call (ok_check_shape T SH BE) (hr.mono (by decide)) (by rfl) T.check_shape.m T.check_shape.f.kp (bd_check_shape T) .nil (passX rfl rfl rfl rfl) (pa_cons (pv 0) pa_nil)))
      (pss_cons (ps_expr (pe_call (ok_check_block T SH Z) (hr.mono (by decide)) (by rfl) T.check_block.m T.check_block.f.kp (bd_check_block T) .nil (passX rfl rfl rfl rfl) (pa_cons (pv 0) (pa_cons (pv 1) pa_nil))))
      (pss_one (ps_ret (pe_call (ok_quarters_of T SH) (hr.mono (by decide)) (by rfl) T.quarters_of.m T.quarters_of.f.kp (bd_quarters_of T) .nil passE (pa_cons (pv 0) (pa_cons (pv 1) pa_nil)))))), ?_⟩
    rcases h with ⟨h, wn, shp, k⟩ | ⟨os, k⟩
    case inr => exact ⟨_, rfl, x, rfl, .inr ⟨os, k⟩⟩
    obtain ⟨lo, hi, sv⟩ := shp.v
    refine ⟨_, rfl, x, rfl, .inl ⟨lo, hi, sv, ?_⟩⟩
    obtain ⟨o, ro, k1, k2⟩ := k
    refine ⟨_, rfl, _, rfl, x, y, o, h, wn, rfl, shp, ro, fun e => ?_, k1⟩
    obtain ⟨b, vb, rfl⟩ := blkB_iff.mp e
    obtain ⟨p, rfl, ep⟩ := rw_bk ro
    exact ⟨_, rfl, _, rfl, x, p, b, h, wn, rfl, shp, ep, vb, fun q us H' s n l r => k2 p b rfl ep vb q us H' s n l r⟩
include Z in
theorem ok_place_of : FnOk P w K mg base (L2.CX P w) 7 T.place_of.a T.place_of.d ["shape", "block"] (spPlaceOf K SH.C BE.C T.BadBlock.C) := by
  refine T.place_of.f.okX sc_place_of (fun vs H Q E h => ?_) (fun cdv A outer s H vs Q E hr h => ?_)
  · obtain ⟨x, y, rfl, _⟩ := h
    rfl
  · obtain ⟨x, y, rfl, h⟩ := h
    refine ⟨_, pss_cons (ps_expr (pe_call (ok_check_shape T SH BE) (hr.mono (by decide)) (by rfl) T.check_shape.m T.check_shape.f.kp (bd_check_shape T) .nil (passX rfl rfl rfl rfl) (pa_cons (pv 0) pa_nil)))
      (pss_cons (ps_expr (pe_call (ok_check_block T SH Z) (hr.mono (by decide)) (by rfl) T.check_block.m T.check_block.f.kp (bd_check_block T) .nil (passX rfl rfl rfl rfl) (pa_cons (pv 0) (pa_cons (pv 1) pa_nil))))
      (pss_one (ps_ret (pe_call (ok_place_end T SH) (hr.mono (by decide)) (by rfl) T.place_and_end.m T.place_and_end.f.kp (bd_place_and_end T) .nil passE (pa_cons (pv 0) (pa_cons (pv 1) pa_nil)))))), ?_⟩
    rcases h with ⟨h, wn, shp, k⟩ | ⟨os, k⟩
    case inr => exact ⟨_, rfl, x, rfl, .inr ⟨os, k⟩⟩
    obtain ⟨lo, hi, sv⟩ := shp.v
    refine ⟨_, rfl, x, rfl, .inl ⟨lo, hi, sv, ?_⟩⟩
    obtain ⟨o, ro, k1, k2⟩ := k
    refine ⟨_, rfl, _, rfl, x, y, o, h, wn, rfl, shp, ro, fun e => ?_, k1⟩
    obtain ⟨b, vb, rfl⟩ := blkB_iff.mp e
    obtain ⟨p, rfl, ep⟩ := rw_bk ro
    exact ⟨_, rfl, _, rfl, x, p, b, h, wn, rfl, shp, ep, vb, fun q H' s l => k2 p b rfl ep vb q H' s l⟩
theorem ok_roots : FnOk P w K mg base (L2.CX P w) 6 T.roots.a T.roots.d ["shape"] (spShFn SH.C BE.C (fun h w => rootsL h w)) := by
  refine T.roots.f.okX sc_roots (fun vs H Q E h => ?_) (fun cdv A outer s H vs Q E hr h => ?_)
  · obtain ⟨x, rfl, _⟩ := h
    rfl
  · obtain ⟨x, rfl, h⟩ := h
    refine ⟨_, pss_cons (ps_expr (pe_call (ok_check_shape T SH BE) (hr.mono (by decide)) (by rfl) T.check_shape.m T.check_shape.f.kp (bd_check_shape T) .nil (passX rfl rfl rfl rfl) (pa_cons (pv 0) pa_nil)))
      (pss_one (ps_ret (pe_call (ok_roots_of T SH) (hr.mono (by decide)) (by rfl) T.roots_of.m T.roots_of.f.kp (bd_roots_of T) .nil passE (pa_cons (pv 0) pa_nil)))), ?_⟩
    rcases h with ⟨h, wn, shp, k⟩ | ⟨os, k⟩
    case inr => exact ⟨_, rfl, x, rfl, .inr ⟨os, k⟩⟩
    obtain ⟨lo, hi, sv⟩ := shp.v
    refine ⟨_, rfl, x, rfl, .inl ⟨lo, hi, sv, ?_⟩⟩
    exact ⟨_, rfl, x, h, wn, rfl, shp, fun q us H' s n l r => k q us H' s n l r⟩
theorem ok_cells : FnOk P w K mg base (L2.CX P w) 6 T.cells.a T.cells.d ["shape"] (spShFn SH.C BE.C (fun h w => cellsL h w)) := by
  refine T.cells.f.okX sc_cells (fun vs H Q E h => ?_) (fun cdv A outer s H vs Q E hr h => ?_)
  · obtain ⟨x, rfl, _⟩ := h
    rfl
  · obtain ⟨x, rfl, h⟩ := h
    refine ⟨_, pss_cons (ps_expr (pe_call (ok_check_shape T SH BE) (hr.mono (by decide)) (by rfl) T.check_shape.m T.check_shape.f.kp (bd_check_shape T) .nil (passX rfl rfl rfl rfl) (pa_cons (pv 0) pa_nil)))
      (pss_one (ps_ret (pe_call (ok_cells_of T SH) (hr.mono (by decide)) (by rfl) T.cells_of.m T.cells_of.f.kp (bd_cells_of T) .nil passE (pa_cons (pv 0) pa_nil)))), ?_⟩
    rcases h with ⟨h, wn, shp, k⟩ | ⟨os, k⟩
    case inr => exact ⟨_, rfl, x, rfl, .inr ⟨os, k⟩⟩
    obtain ⟨lo, hi, sv⟩ := shp.v
    refine ⟨_, rfl, x, rfl, .inl ⟨lo, hi, sv, ?_⟩⟩
    exact ⟨_, rfl, x, h, wn, rfl, shp, fun q us H' s n l r => k q us H' s n l r⟩
theorem ok_many_covers : FnOk P w K mg base (L2.CX P w) 6 T.many_covers.a T.many_covers.d ["shape"] (spManyCov SH.C BE.C) := by
  refine T.many_covers.f.okX sc_many_covers (fun vs H Q E h => ?_) (fun cdv A outer s H vs Q E hr h => ?_)
  · obtain ⟨x, rfl, _⟩ := h
    rfl
  · obtain ⟨x, rfl, h⟩ := h
    refine ⟨_, pss_cons (ps_expr (pe_call (ok_check_shape T SH BE) (hr.mono (by decide)) (by rfl) T.check_shape.m T.check_shape.f.kp (bd_check_shape T) .nil (passX rfl rfl rfl rfl) (pa_cons (pv 0) pa_nil)))
      (pss_one (ps_ret (pe_call (ok_together T SH) (hr.mono (by decide)) (by rfl) T.many_together.m T.many_together.f.kp (bd_many_together T) .nil passE (pa_cons (pv 0) (pa_cons (pe_call (ok_roots_of T SH) (hr.mono (by decide)) (by rfl) T.roots_of.m T.roots_of.f.kp (bd_roots_of T) .nil passE (pa_cons (pv 0) pa_nil)) pa_nil))))), ?_⟩
    rcases h with ⟨h, wn, shp, k⟩ | ⟨os, k⟩
    case inr => exact ⟨_, rfl, x, rfl, .inr ⟨os, k⟩⟩
    obtain ⟨lo, hi, sv⟩ := shp.v
    refine ⟨_, rfl, x, rfl, .inl ⟨lo, hi, sv, ?_⟩⟩
    have hb := shp.b
    exact ⟨_, rfl, _, rfl, x, h, wn, rfl, shp, fun q us H1 s1 _ l1 r1 => ⟨x, q, us, rootsL h wn, h, wn, rfl, shp.keep s1, l1, r1, fun b hb' => ⟨roots_vb hb', roots_lev hb'⟩, roots_len hb.2.1 hb.2.2.2, fun H' s => k H' (s1.trans s)⟩⟩
include Z in
theorem ok_is_cover : FnOk P w K mg base (L2.CX P w) 7 T.is_cover.a T.is_cover.d ["shape", "thing"] (spIsCover K SH.C BE.C) := by
  refine T.is_cover.f.okX sc_is_cover (fun vs H Q E h => ?_) (fun cdv A outer s H vs Q E hr h => ?_)
  · obtain ⟨x, y, rfl, _⟩ := h
    rfl
  · obtain ⟨x, y, rfl, h⟩ := h
    refine ⟨_, pss_cons (ps_expr (pe_call (ok_check_shape T SH BE) (hr.mono (by decide)) (by rfl) T.check_shape.m T.check_shape.f.kp (bd_check_shape T) .nil (passX rfl rfl rfl rfl) (pa_cons (pv 0) pa_nil)))
      (pss_one (ps_ret (pe_and (pe_callB call_isiT (by rfl) T.b_isinstance PyProof.Rows.boot_isinstance (pa_cons (pv 1) (pa_cons (pe_tup (pa_cons (pe_bltn (v := .ty "list") (by rfl) T.b_list (by decide +kernel) rfl) (pa_cons (pe_bltn (v := .ty "tuple") (by rfl) T.b_tuple (by decide +kernel) rfl) pa_nil))) pa_nil)))
      (pe_one (pe_call (ok_are_cover T SH Z) (hr.mono (by decide)) (by rfl) T.are_cover.m T.are_cover.f.kp (bd_are_cover T) .nil passE (pa_cons (pv 0) (pa_cons (pv 1) pa_nil))))))), ?_⟩
    rcases h with ⟨h, wn, shp, k⟩ | ⟨os, k⟩
    case inr => exact ⟨_, rfl, x, rfl, .inr ⟨os, k⟩⟩
    obtain ⟨lo, hi, sv⟩ := shp.v
    refine ⟨_, rfl, x, rfl, .inl ⟨lo, hi, sv, ?_⟩⟩
    obtain ⟨cv, hcv, k⟩ := k
    refine ⟨_, rfl, (by show 2 ≤ sizeLine; decide), fun z hz => ?_⟩
    have tz := Same.new (o := .tup [V.ty "list", .ty "tuple"]) hz
    cases hcv with
    | no n =>
      obtain ⟨t, ht, e1, e2⟩ := (n.keep tz).ty (K := K)
      refine ⟨y, z, _, _, _, _, rfl, upd_same, .cons (.ty "list") (.cons (.ty "tuple") .nil), ht, kit_two e1 e2, _, rfl, ?_⟩
      exact iteF (k _ tz)
    | @some q us os e r =>
      have go : spAreCover K SH.C [x, .ref q] (upd H z (.tup [V.ty "list", .ty "tuple"])) Q (fun _ _ _ => False) := ⟨x, q, us, os, h, wn, rfl, shp.keep tz, e.imp (fun e => tz _ _ e) fun e => tz _ _ e, r.keep tz, fun H' s => k H' (tz.trans s)⟩
      rcases e with e | e
      · refine ⟨.ref q, z, _, _, _, _, rfl, upd_same, .cons (.ty "list") (.cons (.ty "tuple") .nil), .base (.lst (tz _ _ e)), kit_two (x := true) (y := false) (by decide +kernel) (by decide +kernel), _, rfl, ?_⟩
        exact iteT ⟨_, rfl, _, rfl, go⟩
      · refine ⟨.ref q, z, _, _, _, _, rfl, upd_same, .cons (.ty "list") (.cons (.ty "tuple") .nil), .base (.tup (tz _ _ e)), kit_two (x := false) (y := true) (by decide +kernel) (by decide +kernel), _, rfl, ?_⟩
        exact iteT ⟨_, rfl, _, rfl, go⟩
end
end K04
namespace K04
open PySem PySem.Spec PyProof.Rows L2 PySem.W LamX KA KW KU KL KT
open Evl (pss_cut tCut)
/-! ### blocks at a place -/
def blocksAt (c : Bk) : List Bk := (sizesL c.t c.l).map fun s => (⟨c.t, c.l, s⟩ : Bk)
def spBlocksAt (K : PySem.W.Frag) (C CB CP : Addr) : Sp := fun vs H Q E => ∃ x y, vs = [x, y] ∧ ShOr C CB (fun h w => ∃ pb, Pl K H y pb ∧ (within y 0 (((cellsL h w).length : Int) - 1) = false → ∀ H', Same H H' → E (.ref CP) none H') ∧
  ∀ (i : Nat) (c : Bk), y = .int (i : Int) → (cellsL h w)[i]? = some c → ∀ q us H', Same H H' → H q = none → H' q = some (.lst us) → RL bkV H' us (blocksAt c) → Q (.ref q) H') x H E
section
variable {P : Program} {w : World} {K : PySem.W.Frag} {mg : Str → Option Value} {base : Heap} (T : Top K mg) (SH : ShapeT K mg) (BE : BadShapeT P w K mg T.reel.C) (Z : SzT K mg)
include BE Z
theorem ok_blocks_at : FnOk P w K mg base (L2.CX P w) 6 T.blocks_at.a T.blocks_at.d ["shape", "place"] (spBlocksAt K SH.C BE.C T.BadPlace.C) := by
  refine T.blocks_at.f.okX sc_blocks_at (fun vs H Q E h => ?_) (fun cdv A outer s H vs Q E hr h => ?_)
  · obtain ⟨x, y, rfl, _⟩ := h
    rfl
  · obtain ⟨x, y, rfl, h⟩ := h
    refine ⟨_, pss_cons (ps_expr (pe_call (ok_check_shape T SH BE) (hr.mono (by decide)) (by rfl) T.check_shape.m T.check_shape.f.kp (bd_check_shape T) .nil (passX rfl rfl rfl rfl) (pa_cons (pv 0) pa_nil)))
      (pss_cons (ps_set (i := 2) sc_blocks_at.nd rfl (.inl rfl) (pe_call (ok_cells_of T SH) (hr.mono (by decide)) (by rfl) T.cells_of.m T.cells_of.f.kp (bd_cells_of T) .nil passE (pa_cons (pv 0) pa_nil)))
      (pss_cons (ps_if (pt_not (pt_val (pe_call (ok_is_within T) (hr.mono (by decide)) (by rfl) T.is_within.m T.is_within.f.kp (bd_is_within T) .nil passE (pa_cons (pv 1) (pa_cons pe_int (pa_cons (pe_op op_sub (pe_callB call_len_seq (by rfl) T.b_len PySem.boot_len (pa_cons (pv 2) pa_nil)) pe_int) pa_nil)))))) (pss_one (ps_raiseT rfl rfl T.BadPlace (by rfl) rfl (takes_of rfl rfl rfl rfl))) pss_nil)
      (pss_cons (ps_asg (pe_ix ix_list (pv 2) (pv 1) (fun _ _ => rfl)) (pg_tup rfl (pgs_cons (pg_name (i := 3) sc_blocks_at.nd rfl (by first | exact .inl rfl | exact .inr rfl)) (pgs_cons (pg_name (i := 4) sc_blocks_at.nd rfl (by first | exact .inl rfl | exact .inr rfl)) (pgs_cons (pg_name (i := 5) sc_blocks_at.nd rfl (by first | exact .inl rfl | exact .inr rfl)) pgs_nil)))))
      (pss_one (ps_ret (pe_lc (own := [("size", 6)]) (g := gName 6) (tt := tYes) rfl sc_blocks_at.nd (pi_list (pe_call (ok_sizes_at T Z) (hr.mono (by decide)) (by rfl) T.sizes_at.m T.sizes_at.f.kp (bd_sizes_at T) .nil passE (pa_cons (pv 3) (pa_cons (pv 4) pa_nil)))) (blkOk_by (own := [("size", 6)]) (N := ["shape", "place", "all_cells", "top", "left", "_", "size"]) (sc := defScope s_blocks_at) (by decide +kernel))
        (fun _ _ _ _ _ => pg_name (i := 6) sc_blocks_at.nd rfl (Or.inl rfl)) (fun _ _ _ _ _ => pts_nil) (fun _ _ _ _ _ => pe_tup (pa_cons (pv 3) (pa_cons (pv 4) (pa_cons (pv 6) pa_nil)))))))))), ?_⟩
    rcases h with ⟨h, wn, shp, k⟩ | ⟨os, k⟩
    case inr => exact ⟨_, rfl, x, rfl, .inr ⟨os, k⟩⟩
    obtain ⟨lo, hi, sv⟩ := shp.v
    obtain ⟨pb, py, k1, k2⟩ := k
    refine ⟨_, rfl, x, rfl, .inl ⟨lo, hi, sv, _, rfl, x, h, wn, rfl, shp, fun qc uc H1 s1 nq lq rc => ?_⟩⟩
    have cl : uc.length = (cellsL h wn).length := rc.1
    refine ⟨_, rfl, _, rfl, qc, uc, rfl, .inl (SqL.of lq), _, _, rfl, rfl, y, pb, _, _, rfl, py.keep s1, _, rfl, ?_⟩
    rw [cl]
    cases c1 : within y 0 (((cellsL h wn).length : Int) - 1)
    · exact iteT (k1 c1 H1 s1)
    obtain ⟨i, rfl, i1, i2⟩ := within_int c1
    obtain ⟨n, rfl⟩ : ∃ n : Nat, i = n := ⟨i.toNat, by omega⟩
    obtain ⟨c, hc⟩ : ∃ c, (cellsL h wn)[n]? = some c := ⟨_, List.getElem?_eq_getElem (by omega)⟩
    obtain ⟨pc, hpc, epc⟩ := rc.at_ hc
    refine iteF ⟨_, rfl, _, rfl, qc, uc, _, _, rfl, rfl, SqL.of lq, atI_nat hpc, pc, _, rfl, SqT.of epc, rfl, _, _, rfl, _, _, rfl, _, _, rfl, rfl, ?_⟩
    refine ⟨_, rfl, _, rfl, c.t, c.l, rfl, fun q H2 s2 l2 => ⟨q, rfl, ⟨_, SqL.of l2⟩, fun D hD => lc_it walk_list (fun i H' => NI bkV H2 D (((sizesL c.t c.l).take i).map fun s => (⟨c.t, c.l, s⟩ : Bk)) H') (NI.new hD) (fun _ H' _ q' => SqL.of (q'.s _ _ l2)) ?_ ?_⟩⟩
    · rintro i x H4 H3 hi n ⟨rfl, hx⟩
      have sl : (sizesL c.t c.l).length ≤ 3 := List.length_filter_le _ [8, 4, 2]
      rw [List.getElem?_map] at hx
      cases es : (sizesL c.t c.l)[i]? with
      | none => rw [es] at hx; cases hx
      | some sz =>
        rw [es] at hx
        have : x = V.int ((sz : Nat) : Int) := (Option.some.inj hx).symm
        subst this
        refine ⟨rfl, ?_⟩
        dsimp only [tYes]
        rw [if_pos rfl]
        refine ⟨_, rfl, _, rfl, _, rfl, (by show 3 ≤ sizeLine; decide), fun z hz => ?_⟩
        have tz := Same.new (o := .tup [V.int (c.t : Int), .int (c.l : Int), .int ((sz : Nat) : Int)]) hz
        obtain ⟨acc, e1, e2, e3⟩ := (n.same tz).push (a := (⟨c.t, c.l, sz⟩ : Bk)) hD (by rw [List.length_map, List.length_take]; omega) ⟨z, rfl, upd_same⟩
        refine ⟨acc, e1, e2, ?_⟩
        rw [List.take_add_one, es, List.map_append]
        exact e3
    · rintro H3 ⟨ws, e, r, s3⟩
      rw [List.length_map, List.take_length] at r
      exact k2 n c rfl hc D ws H3 ((s1.trans s2).trans s3) ((s1.trans s2).free hD) e r
end
end K04
namespace K04
/-! ### a block and all that come of it -/
def descB (h w : Nat) : Nat → Bk → List Bk
  | 0, b => [b]
  | n + 1, b => b :: (partsL h w b).flatMap (descB h w n)
def descOf (h w : Nat) (b : Bk) : List Bk := descB h w (lev b) b
def everyL (h w : Nat) : List Bk := (rootsL h w).flatMap (descOf h w)
theorem desc_step {h w : Nat} {b : Bk} (v : Vb h w b) : descOf h w b = b :: (partsL h w b).flatMap (descOf h w) := by
  by_cases s2 : b.s = 2
  · rw [parts_none s2]
    unfold descOf lev
    rw [s2]
    rfl
  have e : ∃ n, lev b = n + 1 := by
    unfold lev
    rcases v.s with z | z | z
    · exact ⟨1, by rw [z]; rfl⟩
    · exact ⟨0, by rw [z]; rfl⟩
    · exact absurd z s2
  obtain ⟨n, e⟩ := e
  unfold descOf
  rw [e]
  show b :: (partsL h w b).flatMap (descB h w n) = _
  rw [List.flatMap_def, List.flatMap_def]
  congr 2
  refine List.map_congr_left fun p hp => ?_
  have := (parts_vb v hp).2.2
  rw [show lev p = n by omega]
theorem desc_self {h w : Nat} {b : Bk} (v : Vb h w b) : b ∈ descOf h w b := by
  rw [desc_step v]
  exact List.mem_cons_self
theorem desc_in {h w : Nat} : ∀ b, Vb h w b → ∀ c ∈ descOf h w b, Vb h w c ∧ c.s ≤ b.s ∧ b.t ≤ c.t ∧ c.t < b.t + b.s ∧ b.l ≤ c.l ∧ c.l < b.l + b.s := by
  refine vb_ind (fun b v e c hc => ?_) fun b v e ih c hc => ?_
  · rw [desc_step v, parts_none e] at hc
    rw [List.mem_singleton.mp hc]
    exact ⟨v, by omega, by omega, by omega, by omega, by omega⟩
  · rw [desc_step v] at hc
    rcases List.mem_cons.mp hc with rfl | hc
    · have := v.s
      exact ⟨v, by omega, by omega, by omega, by omega, by omega⟩
    obtain ⟨q, hq, hc⟩ := List.mem_flatMap.mp hc
    obtain ⟨a1, a2, a3, a4, a5, a6⟩ := ih q hq c hc
    obtain ⟨vq, sq, _⟩ := parts_vb v hq
    obtain ⟨b1, b2, b3, _⟩ := (parts_mem e).mp hq
    exact ⟨a1, by omega, by omega, by omega, by omega, by omega⟩
theorem desc_trans {h w : Nat} {a : Bk} : ∀ b, Vb h w b → b ∈ descOf h w a → Vb h w a → ∀ q ∈ partsL h w b, q ∈ descOf h w a := by
  have : ∀ a, Vb h w a → ∀ b, Vb h w b → b ∈ descOf h w a → ∀ q ∈ partsL h w b, q ∈ descOf h w a := by
    refine vb_ind (fun a va e b vb hb q hq => ?_) fun a va e ih b vb hb q hq => ?_
    · rw [desc_step va, parts_none e] at hb
      rw [List.mem_singleton.mp hb, parts_none e] at hq
      cases hq
    · rw [desc_step va] at hb ⊢
      rcases List.mem_cons.mp hb with rfl | hb
      · exact List.mem_cons_of_mem _ (List.mem_flatMap.mpr ⟨q, hq, desc_self (parts_vb va hq).1⟩)
      · obtain ⟨c, hc, hb⟩ := List.mem_flatMap.mp hb
        exact List.mem_cons_of_mem _ (List.mem_flatMap.mpr ⟨c, hc, ih c hc b vb hb q hq⟩)
  exact fun b vb hb va => this a va b vb hb
theorem every_mem {h w : Nat} {b : Bk} : b ∈ everyL h w ↔ Vb h w b := by
  constructor
  · intro m
    obtain ⟨r, hr, hb⟩ := List.mem_flatMap.mp m
    exact (desc_in r (roots_vb hr) b hb).1
  · refine fun v => up_ind (p := fun b => b ∈ everyL h w) (fun b hb => List.mem_flatMap.mpr ⟨b, hb, desc_self (roots_vb hb)⟩) (fun b q v hb hq => ?_) b v
    obtain ⟨r, hr, hb⟩ := List.mem_flatMap.mp hb
    exact List.mem_flatMap.mpr ⟨r, hr, desc_trans b v hb (roots_vb hr) q hq⟩
theorem desc_len {h w : Nat} {b : Bk} (v : Vb h w b) : (descOf h w b).length ≤ 21 := by
  have flat : ∀ (L : List Bk) (m : Nat), (∀ p ∈ L, (descOf h w p).length ≤ m) → (L.flatMap (descOf h w)).length ≤ L.length * m := by
    intro L m
    induction L with
    | nil => intro _; simp
    | cons a L ih =>
      intro e
      rw [List.flatMap_cons, List.length_append, List.length_cons, Nat.add_one_mul]
      have := e a List.mem_cons_self
      have := ih fun p hp => e p (List.mem_cons_of_mem _ hp)
      omega
  have pl : ∀ b, (partsL h w b).length ≤ 4 := fun b => by
    unfold partsL
    split
    · exact Nat.zero_le _
    · exact Nat.le_trans (List.length_filter_le _ _) (by show 4 ≤ 4; decide)
  have l0 : ∀ b, Vb h w b → lev b = 0 → (descOf h w b).length = 1 := fun b v e => by unfold descOf; rw [e]; rfl
  have l1 : ∀ b, Vb h w b → lev b ≤ 1 → (descOf h w b).length ≤ 5 := fun b v e => by
    by_cases z : lev b = 0
    · rw [l0 b v z]; decide
    rw [desc_step v, List.length_cons]
    have := flat (partsL h w b) 1 fun p hp => by
      have := (parts_vb v hp).2.2
      rw [l0 p (parts_vb v hp).1 (by omega)]
      decide
    have := pl b
    omega
  by_cases z : lev b ≤ 1
  · have := l1 b v z
    omega
  · have l2 : lev b ≤ 2 := by
      unfold lev
      split
      · decide
      · split <;> decide
    rw [desc_step v, List.length_cons]
    have := flat (partsL h w b) 5 fun p hp => by
      have := (parts_vb v hp).2.2
      exact l1 p (parts_vb v hp).1 (by omega)
    have := pl b
    omega
theorem desc_pos {h w : Nat} {b : Bk} (v : Vb h w b) : 1 ≤ (descOf h w b).length := by
  rw [desc_step v, List.length_cons]
  omega
theorem four_nodup (b : Bk) (hs : 2 ≤ b.s) : (fourL b).Nodup := by
  unfold fourL
  simp only [List.nodup_cons, List.mem_cons, Bk.mk.injEq, List.not_mem_nil, or_false, not_or, not_false_eq_true, List.nodup_nil, and_true]
  omega
theorem parts_nodup {h w : Nat} {b : Bk} (v : Vb h w b) : (partsL h w b).Nodup := by
  unfold partsL
  split
  · exact List.nodup_nil
  · exact (four_nodup b (by have := v.s; omega)).filter _
theorem flat_nodup {α β : Type} {f : α → List β} : ∀ {L : List α}, (∀ a ∈ L, (f a).Nodup) → (L.Pairwise fun a b => ∀ x, x ∈ f a → x ∈ f b → False) → (L.flatMap f).Nodup
  | [], _, _ => List.nodup_nil
  | a :: L, e, p => by
    rw [List.flatMap_cons, List.nodup_append]
    refine ⟨e a List.mem_cons_self, flat_nodup (fun b hb => e b (List.mem_cons_of_mem _ hb)) (List.pairwise_cons.mp p).2, fun x hx y hy z => ?_⟩
    obtain ⟨b, hb, hy⟩ := List.mem_flatMap.mp hy
    exact (List.pairwise_cons.mp p).1 b hb x hx (z ▸ hy)
theorem desc_nodup {h w : Nat} : ∀ b, Vb h w b → (descOf h w b).Nodup := by
  refine vb_ind (fun b v e => ?_) fun b v e ih => ?_
  · rw [desc_step v, parts_none e]
    exact List.nodup_cons.mpr ⟨by simp, List.nodup_nil⟩
  · rw [desc_step v, List.nodup_cons]
    refine ⟨fun m => ?_, flat_nodup ih ?_⟩
    · obtain ⟨q, hq, hm⟩ := List.mem_flatMap.mp m
      obtain ⟨vq, sq, _⟩ := parts_vb v hq
      have := (desc_in q vq b hm).2.1
      have := v.s
      omega
    · refine List.Pairwise.imp_of_mem (R := fun a b => a ≠ b) (fun {a c} ha hc ne x hx hy => ?_) (parts_nodup v)
      obtain ⟨va, sa, _⟩ := parts_vb v ha
      obtain ⟨vc, sc, _⟩ := parts_vb v hc
      obtain ⟨_, _, a1, a2, a3, a4⟩ := desc_in a va x hx
      obtain ⟨_, _, c1, c2, c3, c4⟩ := desc_in c vc x hy
      obtain ⟨p1, p2, p3, _⟩ := (parts_mem e).mp ha
      obtain ⟨q1, q2, q3, _⟩ := (parts_mem e).mp hc
      have vs := v.s
      refine ne ?_
      obtain ⟨t, l, s⟩ := a
      obtain ⟨t', l', s'⟩ := c
      dsimp only at *
      have : t = t' := by omega
      have : l = l' := by omega
      have : s = s' := by omega
      subst_vars
      rfl
theorem roots_nodup {h w : Nat} : (rootsL h w).Nodup := by
  unfold rootsL
  rw [← List.flatMap_def]
  refine flat_nodup (fun i _ => ?_) ?_
  · refine List.Pairwise.map _ (fun a b ne e => ne ?_) List.nodup_range
    have := congrArg Bk.l e
    dsimp only at this
    omega
  · refine List.Pairwise.imp (fun {a b} ne x hx hy => ne ?_) (List.nodup_range (n := (h + 7) / 8))
    obtain ⟨i, _, rfl⟩ := List.mem_map.mp hx
    obtain ⟨j, _, e⟩ := List.mem_map.mp hy
    have := congrArg Bk.t e
    dsimp only at this
    omega
theorem every_nodup {h w : Nat} : (everyL h w).Nodup := by
  refine flat_nodup (fun b hb => desc_nodup b (roots_vb hb)) ?_
  refine List.Pairwise.imp_of_mem (R := fun a b => a ≠ b) (fun {a c} ha hc ne x hx hy => ne ?_) roots_nodup
  obtain ⟨_, _, a1, a2, a3, a4⟩ := desc_in a (roots_vb ha) x hx
  obtain ⟨_, _, c1, c2, c3, c4⟩ := desc_in c (roots_vb hc) x hy
  obtain ⟨p1, p2, p3, _⟩ := roots_mem.mp ha
  obtain ⟨q1, q2, q3, _⟩ := roots_mem.mp hc
  obtain ⟨t, l, s⟩ := a
  obtain ⟨t', l', s'⟩ := c
  dsimp only at *
  have : t = t' := by omega
  have : l = l' := by omega
  have : s = s' := by omega
  subst_vars
  rfl
theorem every_len {h w : Nat} (hh : h ≤ 16) (hw : w ≤ 16) : (everyL h w).length ≤ 84 := by
  have rl : (rootsL h w).length ≤ 4 := by
    unfold rootsL
    rw [← List.flatMap_def, List.length_flatMap]
    simp only [List.length_map, List.length_range]
    have a : (h + 7) / 8 ≤ 2 := by omega
    have b : (w + 7) / 8 ≤ 2 := by omega
    generalize (h + 7) / 8 = m at a
    generalize (w + 7) / 8 = n at b
    have : ((List.range m).map fun _ => n).sum = m * n := by
      rw [List.map_const', List.sum_replicate_nat, List.length_range]
    rw [this]
    exact Nat.mul_le_mul a b
  have flat : ∀ (L : List Bk) (m : Nat), (∀ p ∈ L, (descOf h w p).length ≤ m) → (L.flatMap (descOf h w)).length ≤ L.length * m := by
    intro L m
    induction L with
    | nil => intro _; simp
    | cons a L ih =>
      intro e
      rw [List.flatMap_cons, List.length_append, List.length_cons, Nat.add_one_mul]
      have := e a List.mem_cons_self
      have := ih fun p hp => e p (List.mem_cons_of_mem _ hp)
      omega
  have := flat (rootsL h w) 21 fun p hp => desc_len (roots_vb hp)
  unfold everyL
  omega
/-- one more is found, what comes of it is left -/
theorem perm_step {h w : Nat} {F L : List Bk} {b : Bk} (v : Vb h w b) : ((F ++ [b]) ++ (L ++ partsL h w b).flatMap (descOf h w)).Perm (F ++ (L ++ [b]).flatMap (descOf h w)) := by
  rw [List.flatMap_append, List.flatMap_append, List.flatMap_cons, List.flatMap_nil, List.append_nil, desc_step v, List.append_assoc]
  refine List.Perm.append_left F ?_
  show (b :: (L.flatMap (descOf h w) ++ (partsL h w b).flatMap (descOf h w))).Perm _
  exact List.perm_middle.symm
end K04
namespace K04
/-! ### what lies left of and above a block is ahead of it -/
def zkey (t l : Nat) : Nat := (t / 8 * 2 + l / 8) * 16 + ((t / 4 % 2) * 2 + l / 4 % 2) * 4 + ((t / 2 % 2) * 2 + l / 2 % 2)
def zk (c : Bk) : Nat := zkey c.t c.l
theorem flat_pair {α β : Type} {f : α → List β} {R : β → β → Prop} : ∀ {L : List α}, (∀ a ∈ L, (f a).Pairwise R) → (L.Pairwise fun a b => ∀ x ∈ f a, ∀ y ∈ f b, R x y) → (L.flatMap f).Pairwise R
  | [], _, _ => .nil
  | a :: L, e, p => by
    rw [List.flatMap_cons, List.pairwise_append]
    refine ⟨e a List.mem_cons_self, flat_pair (fun b hb => e b (List.mem_cons_of_mem _ hb)) (List.pairwise_cons.mp p).2, fun x hx y hy => ?_⟩
    obtain ⟨b, hb, hy⟩ := List.mem_flatMap.mp hy
    exact (List.pairwise_cons.mp p).1 b hb x hx y hy
def lexB (p q : Bk) : Prop := p.t < q.t ∨ (p.t = q.t ∧ p.l < q.l)
theorem roots_lex {h w : Nat} : (rootsL h w).Pairwise lexB := by
  unfold rootsL
  rw [← List.flatMap_def]
  refine flat_pair (fun i _ => ?_) ?_
  · refine List.Pairwise.map _ (fun a b lt => .inr ⟨rfl, ?_⟩) List.pairwise_lt_range
    show 8 * a < 8 * b
    omega
  · refine List.Pairwise.imp (fun {a b} lt x hx y hy => .inl ?_) (List.pairwise_lt_range (n := (h + 7) / 8))
    obtain ⟨i, _, rfl⟩ := List.mem_map.mp hx
    obtain ⟨j, _, rfl⟩ := List.mem_map.mp hy
    show 8 * a < 8 * b
    omega
theorem four_lex (b : Bk) (hs : 2 ≤ b.s) : (fourL b).Pairwise lexB := by
  have h2 : 1 ≤ b.s / 2 := by omega
  unfold fourL
  refine .cons (fun q hq => ?_) (.cons (fun q hq => ?_) (.cons (fun q hq => ?_) (.cons (fun q hq => by cases hq) .nil)))
  · simp only [List.mem_cons, List.not_mem_nil, or_false] at hq
    rcases hq with rfl | rfl | rfl
    · exact .inr ⟨rfl, by show b.l < b.l + b.s / 2; omega⟩
    · exact .inl (by show b.t < b.t + b.s / 2; omega)
    · exact .inl (by show b.t < b.t + b.s / 2; omega)
  · simp only [List.mem_cons, List.not_mem_nil, or_false] at hq
    rcases hq with rfl | rfl
    · exact .inl (by show b.t < b.t + b.s / 2; omega)
    · exact .inl (by show b.t < b.t + b.s / 2; omega)
  · simp only [List.mem_cons, List.not_mem_nil, or_false] at hq
    rcases hq with rfl
    exact .inr ⟨rfl, by show b.l < b.l + b.s / 2; omega⟩
theorem parts_lex {h w : Nat} {b : Bk} (v : Vb h w b) : (partsL h w b).Pairwise lexB := by
  unfold partsL
  split
  · exact .nil
  · exact (four_lex b (by have := v.s; omega)).filter _
theorem cells_key {h w : Nat} : ∀ b, Vb h w b → (cellsOf h w b).Pairwise fun x y => zk x < zk y := by
  refine vb_ind (fun b v e => ?_) fun b v e ih => ?_
  · rw [cells_one e]
    exact List.pairwise_singleton _ _
  · rw [cells_step v e]
    refine flat_pair ih ?_
    refine List.Pairwise.imp_of_mem (fun {p q} hp hq lx x hx y hy => ?_) (parts_lex v)
    obtain ⟨vp, sp, _⟩ := parts_vb v hp
    obtain ⟨vq, sq, _⟩ := parts_vb v hq
    obtain ⟨p1, p2, p3, _⟩ := (parts_mem e).mp hp
    obtain ⟨q1, q2, q3, _⟩ := (parts_mem e).mp hq
    obtain ⟨vx, x2, xa, xb, xc, xd⟩ := cells_in p vp x hx
    obtain ⟨vy, y2, ya, yb, yc, yd⟩ := cells_in q vq y hy
    have mt := v.mt
    have ml := v.ml
    unfold lexB at lx
    unfold zk zkey
    rcases v.s with z | z | z
    · rw [z] at mt ml p1 p2 p3 q1 q2 q3
      have s4 : p.s = 4 := by omega
      have s4' : q.s = 4 := by omega
      rw [s4] at xb xd
      rw [s4'] at yb yd
      have e1 : x.t / 8 = b.t / 8 := by omega
      have e2 : y.t / 8 = b.t / 8 := by omega
      have e3 : x.l / 8 = b.l / 8 := by omega
      have e4 : y.l / 8 = b.l / 8 := by omega
      have e5 : x.t / 4 = p.t / 4 := by omega
      have e6 : y.t / 4 = q.t / 4 := by omega
      have e7 : x.l / 4 = p.l / 4 := by omega
      have e8 : y.l / 4 = q.l / 4 := by omega
      rw [e1, e2, e3, e4, e5, e6, e7, e8]
      have f1 : (p.t / 4 % 2) * 2 + p.l / 4 % 2 < (q.t / 4 % 2) * 2 + q.l / 4 % 2 := by
        rcases p2 with a | a <;> rcases p3 with c | c <;> rcases q2 with d | d <;> rcases q3 with f | f <;> omega
      omega
    · rw [z] at mt ml p1 p2 p3 q1 q2 q3
      have s4 : p.s = 2 := by omega
      have s4' : q.s = 2 := by omega
      rw [s4] at xb xd
      rw [s4'] at yb yd
      have e1 : x.t / 8 = b.t / 8 := by omega
      have e2 : y.t / 8 = b.t / 8 := by omega
      have e3 : x.l / 8 = b.l / 8 := by omega
      have e4 : y.l / 8 = b.l / 8 := by omega
      have e5 : x.t / 4 = b.t / 4 := by omega
      have e6 : y.t / 4 = b.t / 4 := by omega
      have e7 : x.l / 4 = b.l / 4 := by omega
      have e8 : y.l / 4 = b.l / 4 := by omega
      have g5 : x.t / 2 = p.t / 2 := by omega
      have g6 : y.t / 2 = q.t / 2 := by omega
      have g7 : x.l / 2 = p.l / 2 := by omega
      have g8 : y.l / 2 = q.l / 2 := by omega
      rw [e1, e2, e3, e4, e5, e6, e7, e8, g5, g6, g7, g8]
      have f1 : (p.t / 2 % 2) * 2 + p.l / 2 % 2 < (q.t / 2 % 2) * 2 + q.l / 2 % 2 := by
        rcases p2 with a | a <;> rcases p3 with c | c <;> rcases q2 with d | d <;> rcases q3 with f | f <;> omega
      omega
    · exact absurd z e
theorem all_key {h w : Nat} (hw : w ≤ 16) : (cellsL h w).Pairwise fun x y => zk x < zk y := by
  refine flat_pair (fun b hb => cells_key b (roots_vb hb)) ?_
  refine List.Pairwise.imp_of_mem (fun {p q} hp hq lx x hx y hy => ?_) roots_lex
  obtain ⟨p1, p2, p3, _, p5⟩ := roots_mem.mp hp
  obtain ⟨q1, q2, q3, _, q5⟩ := roots_mem.mp hq
  obtain ⟨vx, x2, xa, xb, xc, xd⟩ := cells_in p (roots_vb hp) x hx
  obtain ⟨vy, y2, ya, yb, yc, yd⟩ := cells_in q (roots_vb hq) y hy
  unfold lexB at lx
  unfold zk zkey
  have e1 : x.t / 8 = p.t / 8 := by omega
  have e2 : y.t / 8 = q.t / 8 := by omega
  have e3 : x.l / 8 = p.l / 8 := by omega
  have e4 : y.l / 8 = q.l / 8 := by omega
  rw [e1, e2, e3, e4]
  have f1 : p.t / 8 * 2 + p.l / 8 < q.t / 8 * 2 + q.l / 8 := by
    rcases lx with a | ⟨a, c⟩ <;> omega
  omega
theorem key_idx {L : List Bk} (p : L.Pairwise fun x y => zk x < zk y) {i j : Nat} {x y : Bk} (hx : L[i]? = some x) (hy : L[j]? = some y) (lt : zk x < zk y) : i < j := by
  obtain ⟨hi, rfl⟩ := List.getElem?_eq_some_iff.mp hx
  obtain ⟨hj, rfl⟩ := List.getElem?_eq_some_iff.mp hy
  rcases Nat.lt_trichotomy i j with a | a | a
  · exact a
  · subst a
    omega
  · have := List.pairwise_iff_getElem.mp p j i hj hi a
    omega
theorem key_lt {t l s y x : Nat} (hs : s = 8 ∨ s = 4 ∨ s = 2) (mt : t % s = 0) (ml : l % s = 0) (h1 : y < t + s) (h2 : x < l + s) (h3 : y < t ∨ x < l) : zkey (y / 2 * 2) (x / 2 * 2) < zkey t l := by
  unfold zkey
  have a1 : y / 2 * 2 / 8 = y / 8 := by omega
  have a2 : y / 2 * 2 / 4 = y / 4 := by omega
  have a3 : y / 2 * 2 / 2 = y / 2 := by omega
  have b1 : x / 2 * 2 / 8 = x / 8 := by omega
  have b2 : x / 2 * 2 / 4 = x / 4 := by omega
  have b3 : x / 2 * 2 / 2 = x / 2 := by omega
  rw [a1, a2, a3, b1, b2, b3]
  have c1 : y / 8 ≤ t / 8 := by
    rcases hs with rfl | rfl | rfl <;> omega
  have c2 : x / 8 ≤ l / 8 := by
    rcases hs with rfl | rfl | rfl <;> omega
  have m1 := Nat.mod_lt (y / 4) (show 0 < 2 by decide)
  have m2 := Nat.mod_lt (x / 4) (show 0 < 2 by decide)
  have m3 := Nat.mod_lt (y / 2) (show 0 < 2 by decide)
  have m4 := Nat.mod_lt (x / 2) (show 0 < 2 by decide)
  by_cases d8 : y / 8 = t / 8 ∧ x / 8 = l / 8
  case neg => omega
  obtain ⟨d1, d2⟩ := d8
  rw [d1, d2]
  rcases hs with rfl | rfl | rfl
  · omega
  · have c3 : y / 4 ≤ t / 4 := by omega
    have c4 : x / 4 ≤ l / 4 := by omega
    have c5 : y / 4 < t / 4 ∨ x / 4 < l / 4 := by omega
    have e1 : y / 4 % 2 ≤ t / 4 % 2 := by omega
    have e2 : x / 4 % 2 ≤ l / 4 % 2 := by omega
    have e3 : y / 4 % 2 < t / 4 % 2 ∨ x / 4 % 2 < l / 4 % 2 := by omega
    omega
  · have c3 : y / 4 ≤ t / 4 := by omega
    have c4 : x / 4 ≤ l / 4 := by omega
    have e1 : y / 4 % 2 ≤ t / 4 % 2 := by omega
    have e2 : x / 4 % 2 ≤ l / 4 % 2 := by omega
    by_cases d4 : y / 4 = t / 4 ∧ x / 4 = l / 4
    case neg =>
      have e3 : y / 4 % 2 < t / 4 % 2 ∨ x / 4 % 2 < l / 4 % 2 := by omega
      omega
    obtain ⟨d5, d6⟩ := d4
    rw [d5, d6]
    have c5 : y / 2 ≤ t / 2 := by omega
    have c6 : x / 2 ≤ l / 2 := by omega
    have c7 : y / 2 < t / 2 ∨ x / 2 < l / 2 := by omega
    have e5 : y / 2 % 2 ≤ t / 2 % 2 := by omega
    have e6 : x / 2 % 2 ≤ l / 2 % 2 := by omega
    have e7 : y / 2 % 2 < t / 2 % 2 ∨ x / 2 % 2 < l / 2 % 2 := by omega
    omega
/-- the cell of a spot stands in the list, ahead of the block -/
theorem ahead {h w : Nat} {b : Bk} (v : Vb h w b) (hw : w ≤ 16) {y x : Nat} (hy : y < h) (hx : x < w) (h1 : y < b.t + b.s) (h2 : x < b.l + b.s) (h3 : y < b.t ∨ x < b.l) : ∃ i, (cellsL h w)[i]? = some ⟨y / 2 * 2, x / 2 * 2, 2⟩ ∧ i < placeB h w b := by
  have vc : Vb h w ⟨y / 2 * 2, x / 2 * 2, 2⟩ := ⟨.inr (.inr rfl), by show y / 2 * 2 % 2 = 0; omega, by show x / 2 * 2 % 2 = 0; omega, by show y / 2 * 2 < h; omega, by show x / 2 * 2 < w; omega⟩
  obtain ⟨r, er⟩ := cells_first _ vc
  have p1 := place_at vc 0 _ (by rw [er]; rfl)
  obtain ⟨r2, er2⟩ := cells_first b v
  have p2 := place_at v 0 _ (by rw [er2]; rfl)
  exact ⟨_, p1, key_idx (all_key hw) p1 p2 (key_lt v.s v.mt v.ml h1 h2 h3)⟩
end K04
namespace K04
open PySem PySem.Spec PyProof.Rows L2 PySem.W LamX KA KW KU KL KT
open Evl (pss_cut tCut)
/-! ### the law's own blocks -/
/-- a scope of h rows and w columns -/
def ScW (H : Hp) (a : Addr) (h w : Nat) : Prop := ∃ lo hi, ScV H a (h : Int) (w : Int) lo hi
theorem ScW.keep {H H' : Hp} {a : Addr} {h w : Nat} (p : ScW H a h w) (s : Same H H') : ScW H' a h w := by
  obtain ⟨lo, hi, q⟩ := p
  exact ⟨lo, hi, q.keep fun o e => s _ _ e⟩
theorem ScW.b {H : Hp} {a : Addr} {h w : Nat} (p : ScW H a h w) : 1 ≤ h ∧ h ≤ 16 ∧ 1 ≤ w ∧ w ≤ 16 := by
  obtain ⟨lo, hi, q⟩ := p
  have := q.t1
  have := q.t2
  have := q.w1
  have := q.w2
  omega
theorem ScW.tall {H : Hp} {a : Addr} {h w : Nat} (p : ScW H a h w) : DGet H a (.str "tall") (some (.int (h : Int))) := by
  obtain ⟨lo, hi, q⟩ := p
  exact (show DGet H a (kV kTall) _ from sc_tall ▸ DGet.k q.d)
theorem ScW.wide {H : Hp} {a : Addr} {h w : Nat} (p : ScW H a h w) : DGet H a (.str "wide") (some (.int (w : Int))) := by
  obtain ⟨lo, hi, q⟩ := p
  exact (show DGet H a (kV kWide) _ from sc_wide ▸ DGet.k q.d)
def spLFn {α : Type} (f : α → List V) (g : Nat → Nat → List α) : Sp := fun vs H Q _ => ∃ (a : Addr) (h w : Nat), vs = [.ref a] ∧ ScW H a h w ∧ ∀ q us H', Same H H' → H q = none → H' q = some (.lst us) → RL f H' us (g h w) → Q (.ref q) H'
def spLBk {α : Type} (f : α → List V) (g : Nat → Nat → Bk → List α) : Sp := fun vs H Q _ => ∃ (a p : Addr) (b : Bk) (h w : Nat), vs = [.ref a, .ref p] ∧ ScW H a h w ∧ H p = some (.tup (bkV b)) ∧ Vb h w b ∧ ∀ q us H', Same H H' → H q = none → H' q = some (.lst us) → RL f H' us (g h w b) → Q (.ref q) H'
/-- a list that grows by lists -/
def Gr {α : Type} (f : α → List V) (H : Hp) (fa : Addr) (as : List α) (H' : Hp) : Prop := ∃ us, Same H H' ∧ H fa = none ∧ H' fa = some (.lst us) ∧ RL f H' us as
theorem Gr.same {α : Type} {f : α → List V} {H H1 H2 : Hp} {fa : Addr} {as : List α} (g : Gr f H fa as H1) (s : Same H1 H2) : Gr f H fa as H2 := by
  obtain ⟨us, a, b, c, d⟩ := g
  exact ⟨us, a.trans s, b, s _ _ c, d.same s⟩
theorem Gr.s {α : Type} {f : α → List V} {H H1 : Hp} {fa : Addr} {as : List α} (g : Gr f H fa as H1) : Same H H1 := g.elim fun _ q => q.1
section
variable {P : Program} {w : World} {K : PySem.W.Frag} {mg : Str → Option Value} {base : Heap} (T : Top K mg)
theorem ok_lroots : FnOk P w K mg base (L2.CX P w) 1 T._law_roots.a T._law_roots.d ["scope"] (spLFn bkV rootsL) := by
  refine T._law_roots.f.okX sc__law_roots (fun vs H Q E h => ?_) (fun cdv A outer s H vs Q E hr h => ?_)
  · obtain ⟨a, h, w, rfl, _⟩ := h
    rfl
  · obtain ⟨a, h, wn, rfl, sc, k⟩ := h
    have hu := hu_of hr
    refine ⟨_, pss_cons (ps_set (i := 1) sc__law_roots.nd rfl (.inl rfl) (pe_lst pa_nil))
      (pss_cons (ps_for (passes_of rfl) rfl (pi_range3 (by rfl) T.b_range (pa_cons pe_int (pa_cons (pe_dget hu (pv 0) pe_str (fun _ _ => rfl)) (pa_cons pe_int pa_nil)))) (pg_name (i := 2) sc__law_roots.nd rfl (by first | exact .inl rfl | exact .inr rfl))
        (pss_one (ps_set (i := 1) sc__law_roots.nd rfl (.inl rfl) (pe_op op_cat (pv 1) (pe_lc (own := [("left", 3)]) (g := gName 3) (tt := tYes) rfl sc__law_roots.nd (pi_range3 (by rfl) T.b_range (pa_cons pe_int (pa_cons (pe_dget hu (pv 0) pe_str (fun _ _ => rfl)) (pa_cons pe_int pa_nil)))) (blkOk_by (own := [("left", 3)]) (N := ["scope", "found", "top", "left"]) (sc := defScope s__law_roots) (by decide +kernel))
          (fun _ _ _ _ _ => pg_name (i := 3) sc__law_roots.nd rfl (Or.inl rfl)) (fun _ _ _ _ _ => pts_nil) (fun _ _ _ _ _ => pe_tup (pa_cons (pv 2) (pa_cons (pv 3) (pa_cons pe_int pa_nil)))))))))
      (pss_one (ps_ret (pv 1)))), ?_⟩
    have hb := sc.b
    refine ⟨(by show 0 ≤ sizeLine; decide), fun f0 hf0 => ?_⟩
    have t0 := Same.new (o := .lst []) hf0
    have g0 : Gr bkV H f0 ([] : List Bk) (upd H f0 (.lst [])) := ⟨[], t0, hf0, upd_same, .nil⟩
    generalize upd H f0 (.lst []) = H1 at t0 g0 ⊢
    refine ⟨_, rfl, a, _, rfl, (sc.keep t0).tall, _, _, _, _, rfl, rg8 h hb.2.1, for_it walk_rangeC (fun i σ H' => ∃ fa v2, σ = [some (.ref a), some (.ref fa), v2, none] ∧ Gr bkV H fa (((List.range i).map fun i => (List.range ((wn + 7) / 8)).map fun j => (⟨8 * i, 8 * j, 8⟩ : Bk)).flatten) H') ⟨f0, none, rfl, g0⟩ (fun _ _ _ _ _ => trivial) ?_ fun σ H' q' => ?_⟩
    · rintro i x σ H3 H2 hi ⟨fa, v2, rfl, gr⟩ ⟨rfl, rfl⟩
      refine ⟨_, rfl, _, rfl, a, _, rfl, (sc.keep gr.s).wide, _, _, _, _, rfl, rg8 wn hb.2.2.2, fun D hD => lc_it walk_rangeC (fun j H' => NI bkV H2 D ((List.range j).map fun j => (⟨8 * i, 8 * j, 8⟩ : Bk)) H') (NI.new hD) (fun _ _ _ _ => trivial) ?_ ?_⟩
      · rintro j y H5 H4 hj n ⟨rfl, rfl⟩
        refine ⟨rfl, ?_⟩
        dsimp only [tYes]
        rw [if_pos rfl]
        refine ⟨_, rfl, _, rfl, (by show 3 ≤ sizeLine; decide), fun z hz => ?_⟩
        have tz := Same.new (o := .tup [V.int (0 + ((i : Nat) : Int) * 8), .int (0 + ((j : Nat) : Int) * 8), .int 8]) hz
        obtain ⟨acc, e1, e2, e3⟩ := (n.same tz).push (a := (⟨8 * i, 8 * j, 8⟩ : Bk)) hD (by rw [List.length_map, List.length_range]; omega) ⟨z, rfl, by
          rw [upd_same]
          show some (HO.tup [V.int (0 + ((i : Nat) : Int) * 8), .int (0 + ((j : Nat) : Int) * 8), .int 8]) = some (HO.tup [V.int (((8 * i : Nat)) : Int), .int (((8 * j : Nat)) : Int), .int ((8 : Nat) : Int)])
          rw [show (0 : Int) + ((i : Nat) : Int) * 8 = ((8 * i : Nat) : Int) by omega, show (0 : Int) + ((j : Nat) : Int) * 8 = ((8 * j : Nat) : Int) by omega]
          rfl⟩
        refine ⟨acc, e1, e2, ?_⟩
        rw [List.range_succ, List.map_append]
        exact e3
      · rintro H4 ⟨ws, e, r, s4⟩
        obtain ⟨us, a1, a2, a3, a4⟩ := gr
        have al := flat_le (f := fun i => (List.range ((wn + 7) / 8)).map fun j => (⟨8 * i, 8 * j, 8⟩ : Bk)) (m := 2) (fun i => by simp; omega) i
        refine ⟨fa, D, us, ws, rfl, rfl, s4 _ _ a3, e, ?_, fun g hg => ⟨g, _, rfl, us ++ ws, (a1.trans s4).trans (Same.new hg), (a1.trans s4).free hg, upd_same, ?_⟩⟩
        · rw [a4.1, r.1, List.length_map, List.length_range]
          exact Nat.le_trans (show _ ≤ 300 by omega) (by decide)
        · rw [flat_snoc]
          exact ((a4.same s4).append r).same (Same.new hg)
    · obtain ⟨fa, v2, rfl, us, a1, a2, a3, a4⟩ := q'
      exact ⟨_, rfl, k fa us H' a1 a2 a3 a4⟩
theorem ok_lparts : FnOk P w K mg base (L2.CX P w) 1 T._law_parts.a T._law_parts.d ["scope", "square"] (spLBk bkV partsL) := by
  refine T._law_parts.f.okX sc__law_parts (fun vs H Q E h => ?_) (fun cdv A outer s H vs Q E hr h => ?_)
  · obtain ⟨a, p, b, h, w, rfl, _⟩ := h
    rfl
  · obtain ⟨a, p, b, h, wn, rfl, sc, hp, v, k⟩ := h
    have hu := hu_of hr
    refine ⟨_, pss_cons (ps_asg (pv 1) (pg_tup rfl (pgs_cons (pg_name (i := 2) sc__law_parts.nd rfl (by first | exact .inl rfl | exact .inr rfl)) (pgs_cons (pg_name (i := 3) sc__law_parts.nd rfl (by first | exact .inl rfl | exact .inr rfl)) (pgs_cons (pg_name (i := 4) sc__law_parts.nd rfl (by first | exact .inl rfl | exact .inr rfl)) pgs_nil)))))
      (pss_cons (ps_set (i := 5) sc__law_parts.nd rfl (by first | exact .inl rfl | exact .inr rfl) (pe_op op_fdiv (pv 4) pe_int))
      (pss_cons (ps_set (i := 6) sc__law_parts.nd rfl (by first | exact .inl rfl | exact .inr rfl) (pe_lst (pa_cons (pe_tup (pa_cons (pv 2) (pa_cons (pv 3) (pa_cons (pv 5) pa_nil)))) (pa_cons (pe_tup (pa_cons (pv 2) (pa_cons (pe_op op_add (pv 3) (pv 5)) (pa_cons (pv 5) pa_nil)))) (pa_cons (pe_tup (pa_cons (pe_op op_add (pv 2) (pv 5)) (pa_cons (pv 3) (pa_cons (pv 5) pa_nil)))) (pa_cons (pe_tup (pa_cons (pe_op op_add (pv 2) (pv 5)) (pa_cons (pe_op op_add (pv 3) (pv 5)) (pa_cons (pv 5) pa_nil)))) pa_nil))))))
      (pss_one (ps_ret (pe_lc (own := [("part", 7)]) (g := gName 7) rfl sc__law_parts.nd (pi_list (pv 6)) (blkOk_by (own := [("part", 7)]) (N := ["scope", "square", "top", "left", "side", "half", "some", "part"]) (sc := defScope s__law_parts) (by decide +kernel))
        (fun _ _ _ _ _ => pg_name (i := 7) sc__law_parts.nd rfl (Or.inl rfl)) (fun _ _ _ _ _ => pts_one (PW.pt (pw_and (pt_cmpR op_gt (pv 4) pe_int (nomark _)) (pw_and (pt_cmpR op_lt (pe_ix (show IxR _ (rIxT K) from ix_tup) (pv 7) pe_int (fun _ _ => rfl)) (pe_dget hu (pv 0) pe_str (fun _ _ => rfl)) (nomark _)) (pw_and1 (pt_cmpR op_lt (pe_ix (show IxR _ (rIxT K) from ix_tup) (pv 7) pe_int (fun _ _ => rfl)) (pe_dget hu (pv 0) pe_str (fun _ _ => rfl)) (nomark _))))))) (fun _ _ _ _ _ => pv 7)))))), ?_⟩
    refine ⟨_, rfl, p, _, rfl, SqT.of hp, rfl, _, _, rfl, _, _, rfl, _, _, rfl, rfl, ?_⟩
    refine ⟨_, rfl, _, _, rfl, rfl, ⟨by decide, by decide⟩, ?_⟩
    dsimp only
    rw [show ((b.s : Nat) : Int) / 2 = ((b.s / 2 : Nat) : Int) by omega]
    have i1 : ((b.l : Nat) : Int) + ((b.s / 2 : Nat) : Int) = ((b.l + b.s / 2 : Nat) : Int) := by omega
    have i2 : ((b.t : Nat) : Int) + ((b.s / 2 : Nat) : Int) = ((b.t + b.s / 2 : Nat) : Int) := by omega
    refine ⟨_, rfl, _, rfl, _, rfl, (by show 3 ≤ sizeLine; decide), fun y1 v1 => ⟨_, rfl, _, rfl, _, rfl, _, _, rfl, rfl, _, rfl, (by show 3 ≤ sizeLine; decide), fun y2 v2 => ?_⟩⟩
    dsimp only
    rw [i1]
    refine ⟨_, rfl, _, rfl, _, _, rfl, rfl, _, rfl, _, rfl, (by show 3 ≤ sizeLine; decide), fun y3 v3 => ?_⟩
    dsimp only
    rw [i2]
    refine ⟨_, rfl, _, rfl, _, _, rfl, rfl, _, rfl, _, rfl, _, _, rfl, rfl, _, rfl, (by show 3 ≤ sizeLine; decide), fun y4 v4 => ⟨(by show 4 ≤ sizeLine; decide), fun y5 v5 => ?_⟩⟩
    dsimp only
    rw [i1, i2]
    have u1 := Same.new (o := .tup (bkV ⟨b.t, b.l, b.s / 2⟩)) v1
    have u2 := Same.new (o := .tup (bkV ⟨b.t, b.l + b.s / 2, b.s / 2⟩)) v2
    have u3 := Same.new (o := .tup (bkV ⟨b.t + b.s / 2, b.l, b.s / 2⟩)) v3
    have u4 := Same.new (o := .tup (bkV ⟨b.t + b.s / 2, b.l + b.s / 2, b.s / 2⟩)) v4
    have u5 := Same.new (o := .lst [V.ref y1, .ref y2, .ref y3, .ref y4]) v5
    have d1 := (u2.trans (u3.trans (u4.trans u5))) y1 _ upd_same
    have d2 := (u3.trans (u4.trans u5)) y2 _ upd_same
    have d3 := (u4.trans u5) y3 _ upd_same
    have d4 := u5 y4 _ upd_same
    have rl := (RL.one (f := bkV) (a := (⟨b.t, b.l, b.s / 2⟩ : Bk)) ⟨y1, rfl, d1⟩).append ((RL.one (f := bkV) (a := (⟨b.t, b.l + b.s / 2, b.s / 2⟩ : Bk)) ⟨y2, rfl, d2⟩).append ((RL.one (f := bkV) (a := (⟨b.t + b.s / 2, b.l, b.s / 2⟩ : Bk)) ⟨y3, rfl, d3⟩).append (RL.one (f := bkV) (a := (⟨b.t + b.s / 2, b.l + b.s / 2, b.s / 2⟩ : Bk)) ⟨y4, rfl, d4⟩)))
    have s05 := ((u1.trans u2).trans u3).trans (u4.trans u5)
    refine ⟨_, rfl, y5, rfl, ⟨_, SqL.of upd_same⟩, fun D hD => lc_it walk_list (fun i H' => NI bkV _ D (((fourL b).take i).filter fun c => decide (2 < b.s) && inSh h wn c) H') (NI.new hD) (fun _ H' _ q' => SqL.of (q'.s _ _ upd_same)) ?_ ?_⟩
    · rintro i x H4 H3 hi n ⟨rfl, hx⟩
      obtain ⟨pc, c, rfl, hc, ec⟩ := (rl.same n.s).get hx
      have hc : (fourL b)[i]? = some c := hc
      have sck := (sc.keep s05).keep n.s
      have al : ((((fourL b).take i).filter fun c => decide (2 < b.s) && inSh h wn c)).length ≤ 4 := by
        refine Nat.le_trans (List.length_filter_le _ _) ?_
        rw [List.length_take]
        exact Nat.min_le_right _ _
      rw [List.take_add_one, hc, List.filter_append]
      have e1 : ((some c).toList.filter fun c => decide (2 < b.s) && inSh h wn c) = if (decide (2 < b.s) && inSh h wn c) = true then [c] else [] := filt_one (fun c => decide (2 < b.s) && inSh h wn c) c
      rw [e1]
      generalize ((fourL b).take i).filter (fun c => decide (2 < b.s) && inSh h wn c) = B at n al ⊢
      have no : (decide (2 < b.s) && inSh h wn c) = false → NI bkV _ D (B ++ (if (decide (2 < b.s) && inSh h wn c) = true then [c] else [])) H3 := fun z => by
        rw [z, if_neg Bool.false_ne_true, List.append_nil]
        exact n
      refine ⟨rfl, ?_⟩
      refine ⟨_, rfl, _, _, rfl, rfl, _, rfl, ?_⟩
      by_cases c0 : 2 < b.s
      case neg =>
        rw [decide_eq_false (show ¬ (2 : Int) < ((b.s : Nat) : Int) by omega)]
        exact iteF (iteF (no (by rw [decide_eq_false c0]; rfl)))
      rw [decide_eq_true (show (2 : Int) < ((b.s : Nat) : Int) by omega)]
      refine iteT ⟨_, rfl, pc, _, 0, _, rfl, rfl, SqT.of ec, atI_nat (j := 0) rfl, _, rfl, a, _, rfl, sck.tall, _, _, rfl, rfl, _, rfl, ?_⟩
      by_cases c1 : c.t < h
      case neg =>
        rw [decide_eq_false (show ¬ ((c.t : Nat) : Int) < ((h : Nat) : Int) by omega)]
        exact iteF (iteF (no (by unfold inSh; rw [decide_eq_false c1, Bool.false_and, Bool.and_false])))
      rw [decide_eq_true (show ((c.t : Nat) : Int) < ((h : Nat) : Int) by omega)]
      refine iteT ⟨_, rfl, pc, _, 1, _, rfl, rfl, SqT.of ec, atI_nat (j := 1) rfl, _, rfl, a, _, rfl, sck.wide, _, _, rfl, rfl, _, rfl, ?_⟩
      by_cases c2 : c.l < wn
      case neg =>
        rw [decide_eq_false (show ¬ ((c.l : Nat) : Int) < ((wn : Nat) : Int) by omega)]
        exact iteF (no (by unfold inSh; rw [decide_eq_false c2, Bool.and_false, Bool.and_false]))
      rw [decide_eq_true (show ((c.l : Nat) : Int) < ((wn : Nat) : Int) by omega)]
      have yes : (decide (2 < b.s) && inSh h wn c) = true := by unfold inSh; simp [c0, c1, c2]
      obtain ⟨acc, e1', e2', e3'⟩ := n.push (a := c) hD (by omega) ⟨pc, rfl, ec⟩
      refine iteT ⟨_, rfl, acc, e1', e2', ?_⟩
      rw [yes, if_pos rfl]
      exact e3'
    · rintro H4 ⟨ws, e, r, s4⟩
      refine k D ws H4 (s05.trans s4) (s05.free hD) e ?_
      have : ((fourL b).take 4).filter (fun c => decide (2 < b.s) && inSh h wn c) = partsL h wn b := by
        unfold partsL
        by_cases s2 : b.s = 2
        · rw [if_pos s2, s2]
          simp
        · rw [if_neg s2]
          have : decide (2 < b.s) = true := decide_eq_true (by have := v.s; omega)
          rw [this]
          simp only [Bool.true_and]
          rfl
      rw [← this]
      exact r
end
end K04
namespace K04
open PySem PySem.Spec PyProof.Rows L2 PySem.W LamX KA KW KU KL KT
open Evl (pss_cut tCut)
/-! ### the law's own cells -/
def spLCells (n : Nat) : Sp := fun vs H Q _ => ∃ (a p : Addr) (b : Bk) (h w : Nat), vs = [.ref a, .ref p] ∧ ScW H a h w ∧ H p = some (.tup (bkV b)) ∧ Vb h w b ∧ lev b = n ∧ ∀ q us H', Same H H' → H q = none → H' q = some (.lst us) → RL bkV H' us (cellsOf h w b) → Q (.ref q) H'
def spLCount (n : Nat) : Sp := fun vs H Q _ => ∃ (a p : Addr) (b : Bk) (h w : Nat), vs = [.ref a, .ref p] ∧ ScW H a h w ∧ H p = some (.tup (bkV b)) ∧ Vb h w b ∧ lev b = n ∧ ∀ H', Same H H' → Q (.int (waysOf h w b : Nat)) H'
theorem lev_two {h w : Nat} {b : Bk} (v : Vb h w b) : lev b ≤ 2 := by
  unfold lev
  split
  · exact Nat.le_refl _
  · split <;> decide
section
variable {P : Program} {w : World} {K : PySem.W.Frag} {mg : Str → Option Value} {base : Heap} (T : Top K mg)
theorem lcells_zero : FnOk P w K mg base (L2.CX P w) 2 T._law_cells.a T._law_cells.d ["scope", "square"] (spLCells 0) := by
  refine T._law_cells.f.okX sc__law_cells (fun vs H Q E h => ?_) (fun cdv A outer s H vs Q E hr h => ?_)
  · obtain ⟨a, p, b, h, w, rfl, _⟩ := h
    rfl
  · obtain ⟨a, p, b, h, wn, rfl, sc, hp, v, lb, k⟩ := h
    refine ⟨_, pss_cons (ps_if (pt_cmpR op_eq (pe_ix ix_tup (pv 1) pe_int (fun _ _ => rfl)) pe_int (nomark _)) (pss_one (ps_ret (pe_lst (pa_cons (pv 1) pa_nil)))) pss_nil)
      (pss_cons (ps_set (i := 2) sc__law_cells.nd rfl (.inl rfl) (pe_lst pa_nil))
      (pss_cons (ps_for (passes_of rfl) rfl (pi_list (pe_call (ok_lparts T) (hr.mono (by decide)) (by rfl) T._law_parts.m T._law_parts.f.kp (bd__law_parts T) .nil passE (pa_cons (pv 0) (pa_cons (pv 1) pa_nil)))) (pg_name (i := 3) sc__law_cells.nd rfl (.inl rfl))
        (pss_one (ps_set (i := 2) sc__law_cells.nd rfl (.inl rfl) (pe_op op_cat (pv 2) (pe_call (sp := spNever) (ok_never) hr (by rfl) T._law_cells.m T._law_cells.f.kp (bd__law_cells T) .nil passE (pa_cons (pv 0) (pa_cons (pv 3) pa_nil)))))))
      (pss_one (ps_ret (pv 2))))), ?_⟩
    have s2 : b.s = 2 := by
      unfold lev at lb
      rcases v.s with z | z | z
      · rw [z] at lb; cases lb
      · rw [z] at lb; cases lb
      · exact z
    refine ⟨_, rfl, p, _, 2, _, rfl, rfl, SqT.of hp, atI_nat (j := 2) rfl, rfl, _, rfl, ?_⟩
    rw [decide_eq_true (show V.int ((b.s : Nat) : Int) = V.int 2 by rw [s2]; rfl)]
    refine iteT ⟨_, rfl, (by show 1 ≤ sizeLine; decide), fun q hq => k q [.ref p] _ (Same.new hq) hq upd_same ?_⟩
    rw [cells_one s2]
    exact .one ⟨p, rfl, Same.new hq _ _ hp⟩
theorem lcells_more {n k' : Nat} (hk : 1 ≤ k') (F : FnOk P w K mg base (L2.CX P w) k' T._law_cells.a T._law_cells.d ["scope", "square"] (spLCells n)) : FnOk P w K mg base (L2.CX P w) (k' + 1) T._law_cells.a T._law_cells.d ["scope", "square"] (spLCells (n + 1)) := by
  refine T._law_cells.f.okX sc__law_cells (fun vs H Q E h => ?_) (fun cdv A outer s H vs Q E hr h => ?_)
  · obtain ⟨a, p, b, h, w, rfl, _⟩ := h
    rfl
  · obtain ⟨a, p, b, h, wn, rfl, sc, hp, v, lb, k⟩ := h
    refine ⟨_, pss_cons (ps_if (pt_cmpR op_eq (pe_ix ix_tup (pv 1) pe_int (fun _ _ => rfl)) pe_int (nomark _)) (pss_one (ps_ret (pe_lst (pa_cons (pv 1) pa_nil)))) pss_nil)
      (pss_cons (ps_set (i := 2) sc__law_cells.nd rfl (.inl rfl) (pe_lst pa_nil))
      (pss_cons (ps_for (passes_of rfl) rfl (pi_list (pe_call (ok_lparts T) (hr.mono hk) (by rfl) T._law_parts.m T._law_parts.f.kp (bd__law_parts T) .nil passE (pa_cons (pv 0) (pa_cons (pv 1) pa_nil)))) (pg_name (i := 3) sc__law_cells.nd rfl (.inl rfl))
        (pss_one (ps_set (i := 2) sc__law_cells.nd rfl (.inl rfl) (pe_op op_cat (pv 2) (pe_call (sp := (spLCells n)) (F) hr (by rfl) T._law_cells.m T._law_cells.f.kp (bd__law_cells T) .nil passE (pa_cons (pv 0) (pa_cons (pv 3) pa_nil)))))))
      (pss_one (ps_ret (pv 2))))), ?_⟩
    have s2' : b.s ≠ 2 := fun z => by
      unfold lev at lb
      rw [z] at lb
      cases lb
    refine ⟨_, rfl, p, _, 2, _, rfl, rfl, SqT.of hp, atI_nat (j := 2) rfl, rfl, _, rfl, ?_⟩
    rw [decide_eq_false (fun z => s2' (by have := V.int.inj z; omega))]
    refine iteF ⟨(by show 0 ≤ sizeLine; decide), fun f0 hf0 => ?_⟩
    have t0 := Same.new (o := .lst []) hf0
    have g0 : Gr bkV H f0 ([] : List Bk) (upd H f0 (.lst [])) := ⟨[], t0, hf0, upd_same, .nil⟩
    generalize upd H f0 (.lst []) = H0 at t0 g0 ⊢
    refine ⟨_, rfl, _, rfl, a, p, b, h, wn, rfl, sc.keep t0, t0 _ _ hp, v, fun q us H1 s1 nq lq r0 => ?_⟩
    have sub : ∀ b' ∈ partsL h wn b, Vb h wn b' ∧ lev b' = n := fun b' hb' => by
      obtain ⟨a1, _, a3⟩ := parts_vb v hb'
      exact ⟨a1, by omega⟩
    refine ⟨q, rfl, ⟨_, SqL.of lq⟩, for_it walk_list (fun i σ H' => (∃ fa v, σ = [some (.ref a), some (.ref p), some (.ref fa), v] ∧ Gr bkV H fa (((partsL h wn b).take i).flatMap (cellsOf h wn)) H') ∧ Same H1 H') ⟨⟨f0, _, rfl, g0.same s1⟩, Same.refl _⟩ (fun _ _ H' _ q' => SqL.of (q'.2 _ _ lq)) ?_ fun σ H' q' => ?_⟩
    · rintro i x σ H3 H2 hi ⟨⟨fa, v3, rfl, gr⟩, s2⟩ ⟨rfl, hx⟩
      obtain ⟨pb, b', rfl, hb', eb'⟩ := (r0.same s2).get hx
      obtain ⟨vb', lb'⟩ := sub b' (List.mem_of_getElem? hb')
      refine ⟨_, rfl, _, rfl, _, rfl, a, pb, b', h, wn, rfl, sc.keep ((t0.trans s1).trans s2), eb', vb', lb', fun q2 us2 H4 s4 nq2 lq2 r2 => ?_⟩
      obtain ⟨us3, a1, a2, a3, a4⟩ := gr
      have al : (((partsL h wn b).take i).flatMap (cellsOf h wn)).length ≤ 64 := take_le _ (fun b hb => cells_le (sub b hb).1) parts_len i
      have cl := cells_le vb'
      refine ⟨fa, q2, us3, us2, rfl, rfl, s4 _ _ a3, lq2, ?_, fun g hg => ⟨⟨g, _, rfl, us3 ++ us2, (a1.trans s4).trans (Same.new hg), (a1.trans s4).free hg, upd_same, ?_⟩, (s2.trans s4).trans (Same.new hg)⟩⟩
      · rw [a4.1, r2.1]
        exact Nat.le_trans (show _ ≤ 300 by omega) (by decide)
      · rw [List.take_add_one, hb', List.flatMap_append]
        have eo : (some b').toList.flatMap (cellsOf h wn) = cellsOf h wn b' := by simp
        rw [eo]
        exact ((a4.same s4).append r2).same (Same.new hg)
    · obtain ⟨⟨fa, v3, rfl, us3, a1, a2, a3, a4⟩, s2⟩ := q'
      rw [List.take_of_length_le (by rw [r0.1]; exact Nat.le_refl _)] at a4
      rw [← cells_step v s2'] at a4
      exact ⟨_, rfl, k fa us3 H' a1 a2 a3 a4⟩
def spLCellsA : Sp := fun vs H Q _ => ∃ (a p : Addr) (b : Bk) (h w : Nat), vs = [.ref a, .ref p] ∧ ScW H a h w ∧ H p = some (.tup (bkV b)) ∧ Vb h w b ∧ ∀ q us H', Same H H' → H q = none → H' q = some (.lst us) → RL bkV H' us (cellsOf h w b) → Q (.ref q) H'
theorem ok_lcells : FnOk P w K mg base (L2.CX P w) 4 T._law_cells.a T._law_cells.d ["scope", "square"] spLCellsA := by
  have F0 := lcells_zero T (P := P) (w := w) (base := base)
  have F1 := lcells_more T (k' := 2) (by decide) F0
  have F2 := lcells_more T (k' := 3) (by decide) F1
  refine ⟨fun vs H Q E h => ?_, fun A outer s H args us vs Q E hr he hb r h => ?_⟩
  · obtain ⟨a, p, b, h, w, rfl, _⟩ := h
    rfl
  · obtain ⟨a, p, b, h, wn, rfl, sc, hp, v, k⟩ := h
    have := lev_two v
    rcases (show lev b = 0 ∨ lev b = 1 ∨ lev b = 2 by omega) with e | e | e
    · exact F0.run A outer s H args us _ Q E (hr.mono (by decide)) he hb r ⟨a, p, b, h, wn, rfl, sc, hp, v, e, k⟩
    · exact F1.run A outer s H args us _ Q E (hr.mono (by decide)) he hb r ⟨a, p, b, h, wn, rfl, sc, hp, v, e, k⟩
    · exact F2.run A outer s H args us _ Q E hr he hb r ⟨a, p, b, h, wn, rfl, sc, hp, v, e, k⟩
theorem ok_lall : FnOk P w K mg base (L2.CX P w) 5 T._law_all_cells.a T._law_all_cells.d ["scope"] (spLFn bkV cellsL) := by
  refine T._law_all_cells.f.okX sc__law_all_cells (fun vs H Q E h => ?_) (fun cdv A outer s H vs Q E hr h => ?_)
  · obtain ⟨a, h, w, rfl, _⟩ := h
    rfl
  · obtain ⟨a, h, wn, rfl, sc, k⟩ := h
    refine ⟨_, pss_cons (ps_set (i := 1) sc__law_all_cells.nd rfl (.inl rfl) (pe_lst pa_nil))
      (pss_cons (ps_for (passes_of rfl) rfl (pi_list (pe_call (ok_lroots T) (hr.mono (by decide)) (by rfl) T._law_roots.m T._law_roots.f.kp (bd__law_roots T) .nil passE (pa_cons (pv 0) pa_nil))) (pg_name (i := 2) sc__law_all_cells.nd rfl (.inl rfl))
        (pss_one (ps_set (i := 1) sc__law_all_cells.nd rfl (.inl rfl) (pe_op op_cat (pv 1) (pe_call (ok_lcells T) (hr.mono (by decide)) (by rfl) T._law_cells.m T._law_cells.f.kp (bd__law_cells T) .nil passE (pa_cons (pv 0) (pa_cons (pv 2) pa_nil)))))))
      (pss_one (ps_ret (pv 1)))), ?_⟩
    have hb := sc.b
    refine ⟨(by show 0 ≤ sizeLine; decide), fun f0 hf0 => ?_⟩
    have t0 := Same.new (o := .lst []) hf0
    have g0 : Gr bkV H f0 ([] : List Bk) (upd H f0 (.lst [])) := ⟨[], t0, hf0, upd_same, .nil⟩
    generalize upd H f0 (.lst []) = H0 at t0 g0 ⊢
    refine ⟨_, rfl, a, h, wn, rfl, sc.keep t0, fun q us H1 s1 nq lq r0 => ?_⟩
    have sub : ∀ b' ∈ rootsL h wn, Vb h wn b' ∧ lev b' = 2 := fun b' hb' => ⟨roots_vb hb', roots_lev hb'⟩
    refine ⟨q, rfl, ⟨_, SqL.of lq⟩, for_it walk_list (fun i σ H' => (∃ fa v, σ = [some (.ref a), some (.ref fa), v] ∧ Gr bkV H fa (((rootsL h wn).take i).flatMap (cellsOf h wn)) H') ∧ Same H1 H') ⟨⟨f0, _, rfl, g0.same s1⟩, Same.refl _⟩ (fun _ _ H' _ q' => SqL.of (q'.2 _ _ lq)) ?_ fun σ H' q' => ?_⟩
    · rintro i x σ H3 H2 hi ⟨⟨fa, v3, rfl, gr⟩, s2⟩ ⟨rfl, hx⟩
      obtain ⟨pb, b', rfl, hb', eb'⟩ := (r0.same s2).get hx
      obtain ⟨vb', lb'⟩ := sub b' (List.mem_of_getElem? hb')
      refine ⟨_, rfl, _, rfl, _, rfl, a, pb, b', h, wn, rfl, sc.keep ((t0.trans s1).trans s2), eb', vb', fun q2 us2 H4 s4 nq2 lq2 r2 => ?_⟩
      obtain ⟨us3, a1, a2, a3, a4⟩ := gr
      have al : (((rootsL h wn).take i).flatMap (cellsOf h wn)).length ≤ 64 := take_le _ (fun b hb => cells_le (sub b hb).1) (roots_len hb.2.1 hb.2.2.2) i
      have cl := cells_le vb'
      refine ⟨fa, q2, us3, us2, rfl, rfl, s4 _ _ a3, lq2, ?_, fun g hg => ⟨⟨g, _, rfl, us3 ++ us2, (a1.trans s4).trans (Same.new hg), (a1.trans s4).free hg, upd_same, ?_⟩, (s2.trans s4).trans (Same.new hg)⟩⟩
      · rw [a4.1, r2.1]
        exact Nat.le_trans (show _ ≤ 300 by omega) (by decide)
      · rw [List.take_add_one, hb', List.flatMap_append]
        have eo : (some b').toList.flatMap (cellsOf h wn) = cellsOf h wn b' := by simp
        rw [eo]
        exact ((a4.same s4).append r2).same (Same.new hg)
    · obtain ⟨⟨fa, v3, rfl, us3, a1, a2, a3, a4⟩, s2⟩ := q'
      rw [List.take_of_length_le (by rw [r0.1]; exact Nat.le_refl _)] at a4
      exact ⟨_, rfl, k fa us3 H' a1 a2 a3 a4⟩
end
end K04
namespace K04
open PySem PySem.Spec PyProof.Rows L2 PySem.W LamX KA KW KU KL KT
open Evl (pss_cut tCut)
/-! ### the law's own places, spots, numbers of covers -/
theorem index_all {K : PySem.W.Frag} {H : Hp} {q p : Addr} {us : List V} {h w i : Nat} {c : Bk} {Q : VK} (lq : H q = some (.lst us)) (r : RL bkV H us (cellsL h w)) (ep : H p = some (.tup (bkV c))) (hc : (cellsL h w)[i]? = some c) (k : Q (.int ((i : Nat) : Int)) H) : rIndexD K (.ref q) [.ref p] H Q := by
  refine ⟨q, .ref p, bkD c, (cellsL h w).map bkD, i, bkD c, rfl, rfl, .lst (SqL.of lq) (dp_bks r), dp_bk ep, bks_lay _, bk_shaped _, by rw [List.getElem?_map, hc]; rfl, by rw [eqv_bk]; exact decide_eq_true rfl, fun m z' hm hz' => ?_, k⟩
  rw [List.getElem?_map] at hz'
  cases ec : (cellsL h w)[m]? with
  | none => rw [ec] at hz'; cases hz'
  | some c' =>
    rw [ec] at hz'
    have : z' = bkD c' := (Option.some.inj hz').symm
    rw [this, eqv_bk]
    refine decide_eq_false fun e => ?_
    rw [e] at ec
    have := idx_of all_nodup ec
    have := idx_of all_nodup hc
    omega
theorem atI_end {α : Type} {xs : List α} {v : α} {n : Nat} (l : xs.length = n) (hn : 1 ≤ n) (h : xs[n - 1]? = some v) : atI xs (-1) = some v := by
  have : xs = xs.take (n - 1) ++ [v] := by
    obtain ⟨hl, hv⟩ := List.getElem?_eq_some_iff.mp h
    rw [← hv, List.take_append_getElem hl]
    rw [List.take_of_length_le (by omega)]
  rw [this]
  exact atI_last _ _
def spLEnds : Sp := fun vs H Q _ => ∃ (a p : Addr) (b : Bk) (h w : Nat), vs = [.ref a, .ref p] ∧ ScW H a h w ∧ H p = some (.tup (bkV b)) ∧ Vb h w b ∧ ∀ q H', Same H H' → H' q = some (.tup [.int (placeB h w b : Nat), .int ((placeB h w b + manyC h w b : Nat) : Int)]) → Q (.ref q) H'
def spForm4 (C : Addr) : Sp := fun vs H Q _ => ∃ (a : Addr) (h w : Nat), vs = [.ref a] ∧ ScW H a h w ∧ ∀ (x : Addr) (H' : Hp), Shp C H' (.ref x) h w → H x = none → Same H H' → (∀ tb, H' x ≠ some (.tbl tb)) → Q (.ref x) H'
section
variable {P : Program} {w : World} {K : PySem.W.Frag} {mg : Str → Option Value} {base : Heap} (T : Top K mg) (SH : ShapeT K mg) (BE : BadShapeT P w K mg T.reel.C)
theorem ok_ends : FnOk P w K mg base (L2.CX P w) 6 T._law_ends.a T._law_ends.d ["scope", "square"] spLEnds := by
  refine T._law_ends.f.okX sc__law_ends (fun vs H Q E h => ?_) (fun cdv A outer s H vs Q E hr h => ?_)
  · obtain ⟨a, p, b, h, w, rfl, _⟩ := h
    rfl
  · obtain ⟨a, p, b, h, wn, rfl, sc, hp, v, k⟩ := h
    refine ⟨_, pss_cons (ps_par (i := 2) (j := 3) rfl sc__law_ends.nd rfl rfl (by decide) rfl rfl (pa_cons (pe_call (ok_lcells T) (hr.mono (by decide)) (by rfl) T._law_cells.m T._law_cells.f.kp (bd__law_cells T) .nil passE (pa_cons (pv 0) (pa_cons (pv 1) pa_nil))) (pa_cons (pe_call (ok_lall T) (hr.mono (by decide)) (by rfl) T._law_all_cells.m T._law_all_cells.f.kp (bd__law_all_cells T) .nil passE (pa_cons (pv 0) pa_nil)) pa_nil)) (by rfl))
      (pss_one (ps_ret (pe_tup (pa_cons (pe_bm PySem.F.plainAttrs_list PySem.F.slot_list_index PySem.F.type_list_index (mt_indexD (hu65 hr)) (pv 3) (pa_cons (pe_ix ix_list (pv 2) pe_int (fun _ _ => rfl)) pa_nil))
        (pa_cons (pe_op op_add (pe_bm PySem.F.plainAttrs_list PySem.F.slot_list_index PySem.F.type_list_index (mt_indexD (hu65 hr)) (pv 3) (pa_cons (pe_ix ix_list (pv 2) (pe_un un_neg pe_int) (fun _ _ => rfl)) pa_nil)) pe_int) pa_nil))))), ?_⟩
    refine ⟨_, rfl, _, rfl, a, p, b, h, wn, rfl, sc, hp, v, fun qi ui H1 s1 ni li ri => ⟨_, rfl, a, h, wn, rfl, sc.keep s1, fun qe ue H2 s2 ne le re => ⟨_, _, rfl, ?_⟩⟩⟩
    have ri := ri.same s2
    have li := s2 _ _ li
    obtain ⟨rr, er⟩ := cells_first b v
    have mp := many_pos v
    have cm := cells_many b v
    obtain ⟨p0, hp0, ep0⟩ := ri.at_ (i := 0) (a := ⟨b.t, b.l, 2⟩) (by rw [er]; rfl)
    have c0 := place_at v 0 ⟨b.t, b.l, 2⟩ (by rw [er]; rfl)
    obtain ⟨cz, hcz⟩ : ∃ c, (cellsOf h wn b)[manyC h wn b - 1]? = some c := ⟨_, List.getElem?_eq_getElem (by omega)⟩
    obtain ⟨pz, hpz, epz⟩ := ri.at_ hcz
    have c9 := place_at v _ _ hcz
    have ul : ui.length = manyC h wn b := by rw [ri.1, cm]
    refine ⟨_, rfl, .inl ⟨rfl, _, SqL.of le⟩, _, rfl, qi, _, _, _, rfl, rfl, SqL.of li, atI_nat (j := 0) hp0, ?_⟩
    show tNil _ H2 _
    unfold tNil
    show rIndexD K (.ref qe) [.ref p0] H2 _
    refine index_all le re ep0 c0 ?_
    refine ⟨_, rfl, .inl ⟨rfl, _, SqL.of le⟩, _, rfl, _, rfl, qi, _, _, .ref pz, rfl, rfl, SqL.of li, ?_, ?_⟩
    · exact atI_end ul mp hpz
    · show rIndexD K (.ref qe) [.ref pz] H2 _
      refine index_all le re epz c9 ⟨_, _, rfl, rfl, (by show 2 ≤ sizeLine; decide), fun z hz => ?_⟩
      refine k z _ ((s1.trans s2).trans (Same.new hz)) ?_
      rw [upd_same]
      show some (HO.tup [V.int ((placeB h wn b + 0 : Nat) : Int), V.int (((placeB h wn b + (manyC h wn b - 1) : Nat) : Int) + 1)]) = _
      rw [show ((placeB h wn b + (manyC h wn b - 1) : Nat) : Int) + 1 = ((placeB h wn b + manyC h wn b : Nat) : Int) by omega]
      rfl
include BE in
theorem ok_form4 : FnOk P w K mg base (L2.CX P w) 7 T._law_form.a T._law_form.d ["scope"] (spForm4 SH.C) := by
  refine T._law_form.f.okX sc__law_form (fun vs H Q E h => ?_) (fun cdv A outer s H vs Q E hr h => ?_)
  · obtain ⟨a, h, w, rfl, _⟩ := h
    rfl
  · obtain ⟨a, ht, wd, rfl, sc, k⟩ := h
    have hu := hu_of hr
    have hb := sc.b
    have t1 := sc.tall
    have t2 := sc.wide
    obtain ⟨lo, hi, h⟩ := sc
    refine ⟨_, pss_one (ps_ret (pe_make SH.M (ok_init T SH BE) (hr.mono (by decide)) (by rfl) SH.g (SH.F.binds fun _ _ _ _ _ _ us hl => match us, hl with | [_, _, _, _, _], _ => rfl) .nil passE (pa_cons (pe_dget hu (pv 0) pe_str (fun _ _ => rfl)) (pa_cons (pe_dget hu (pv 0) pe_str (fun _ _ => rfl)) (pa_cons (pe_dget hu (pv 0) pe_str (fun _ _ => rfl)) (pa_cons (pe_dget hu (pv 0) pe_str (fun _ _ => rfl)) pa_nil)))))), ?_⟩
    refine ⟨_, rfl, a, _, rfl, t1, _, rfl, a, _, rfl, t2, _, rfl, a, _, rfl, (show DGet H a (kV kLeast) _ from sc_least ▸ DGet.k h.d), _, rfl, a, _, rfl, (show DGet H a (kV kMost) _ from sc_most ▸ DGet.k h.d), fun x dx hx hdx ne => ?_⟩
    refine ⟨x, dx, _, _, lo, hi, rfl, h.t1, h.t2, h.w1, h.w2, h.l1, h.l2, h.l3, upd_same, fun H' e1 e2 => ⟨rfl, k x H' ⟨x, dx, lo, hi, rfl, e1, hb.1, hb.2.1, hb.2.2.1, hb.2.2.2, h.l1, h.l2, h.l3⟩ hx (fun b o e => ?_) (fun tb z => ?_)⟩⟩
    · have n1 : b ≠ x := ne_of_none e hx
      have n2 : b ≠ dx := ne_of_none e hdx
      rw [e2 b n1, upd_ne n1, upd_ne n2]
      exact e
    · rw [e1] at z
      cases z
end
end K04
namespace K04
open PySem PySem.Spec PyProof.Rows L2 PySem.W LamX KA KW KU KL KT
open Evl (pss_cut tCut)
/-! ### the law's own spots and numbers of covers -/
section
variable {P : Program} {w : World} {K : PySem.W.Frag} {mg : Str → Option Value} {base : Heap} (T : Top K mg)
theorem ok_ldots : FnOk P w K mg base (L2.CX P w) 1 T._law_dots.a T._law_dots.d ["scope", "square"] (spLBk dotV dotsB) := by
  refine T._law_dots.f.okX sc__law_dots (fun vs H Q E h => ?_) (fun cdv A outer s H vs Q E hr h => ?_)
  · obtain ⟨a, p, b, h, w, rfl, _⟩ := h
    rfl
  · obtain ⟨a, p, b, h, wn, rfl, sc, hp, v, k⟩ := h
    have hu := hu_of hr
    refine ⟨_, pss_cons (ps_asg (pv 1) (pg_tup rfl (pgs_cons (pg_name (i := 2) sc__law_dots.nd rfl (by first | exact .inl rfl | exact .inr rfl)) (pgs_cons (pg_name (i := 3) sc__law_dots.nd rfl (by first | exact .inl rfl | exact .inr rfl)) (pgs_cons (pg_name (i := 4) sc__law_dots.nd rfl (by first | exact .inl rfl | exact .inr rfl)) pgs_nil)))))
      (pss_cons (ps_set (i := 5) sc__law_dots.nd rfl (.inl rfl) (pe_lst pa_nil))
      (pss_cons (ps_for (passes_of rfl) rfl (pi_range2 (by rfl) T.b_range (pa_cons (pv 2) (pa_cons (pe_callB (call_min2 rfl) (by rfl) T.b_min PyProof.Rows.boot_min (pa_cons (pe_op op_add (pv 2) (pv 4)) (pa_cons (pe_dget hu (pv 0) pe_str (fun _ _ => rfl)) pa_nil))) pa_nil))) (pg_name (i := 6) sc__law_dots.nd rfl (by first | exact .inl rfl | exact .inr rfl))
        (pss_one (ps_set (i := 5) sc__law_dots.nd rfl (.inl rfl) (pe_op op_cat (pv 5) (pe_lc (own := [("x", 7)]) (g := gName 7) (tt := tYes) rfl sc__law_dots.nd (pi_range2 (by rfl) T.b_range (pa_cons (pv 3) (pa_cons (pe_callB (call_min2 rfl) (by rfl) T.b_min PyProof.Rows.boot_min (pa_cons (pe_op op_add (pv 3) (pv 4)) (pa_cons (pe_dget hu (pv 0) pe_str (fun _ _ => rfl)) pa_nil))) pa_nil))) (blkOk_by (own := [("x", 7)]) (N := ["scope", "square", "top", "left", "side", "found", "y", "x"]) (sc := defScope s__law_dots) (by decide +kernel))
          (fun _ _ _ _ _ => pg_name (i := 7) sc__law_dots.nd rfl (Or.inl rfl)) (fun _ _ _ _ _ => pts_nil) (fun _ _ _ _ _ => pe_tup (pa_cons (pv 6) (pa_cons (pv 7) pa_nil))))))))
      (pss_one (ps_ret (pv 5))))), ?_⟩
    have hb := sc.b
    have vs' := v.s
    have lt := v.lt
    have ll := v.ll
    refine ⟨_, rfl, p, _, rfl, SqT.of hp, rfl, _, _, rfl, _, _, rfl, _, _, rfl, rfl, ?_⟩
    refine ⟨(by show 0 ≤ sizeLine; decide), fun f0 hf0 => ?_⟩
    have t0 := Same.new (o := .lst []) hf0
    have g0 : Gr dotV H f0 ([] : List (Nat × Nat)) (upd H f0 (.lst [])) := ⟨[], t0, hf0, upd_same, .nil⟩
    generalize upd H f0 (.lst []) = H1 at t0 g0 ⊢
    have e1 : (if (h : Int) < (b.t : Int) + (b.s : Int) then (h : Int) else (b.t : Int) + (b.s : Int)) = ((min (b.t + b.s) h : Nat) : Int) := by
      split <;> omega
    have e2 : (if (wn : Int) < (b.l : Int) + (b.s : Int) then (wn : Int) else (b.l : Int) + (b.s : Int)) = ((min (b.l + b.s) wn : Nat) : Int) := by
      split <;> omega
    have rn : rowsN h b ≤ 8 := by unfold rowsN; omega
    have cn : colsN wn b ≤ 8 := by unfold colsN; omega
    refine ⟨_, rfl, _, rfl, _, rfl, _, _, rfl, rfl, _, rfl, a, _, rfl, (sc.keep t0).tall, _, _, rfl, ?_⟩
    rw [e1]
    have n1 : (((min (b.t + b.s) h : Nat) : Int) - (b.t : Int)).toNat = rowsN h b := by unfold rowsN; omega
    have n2 : (((min (b.l + b.s) wn : Nat) : Int) - (b.l : Int)).toNat = colsN wn b := by unfold colsN; omega
    refine ⟨_, _, rfl, ⟨by omega, by omega, by omega, by omega⟩, for_it walk_range (fun i σ H' => ∃ fa v6, σ = [some (.ref a), some (.ref p), some (.int (b.t : Int)), some (.int (b.l : Int)), some (.int (b.s : Int)), some (.ref fa), v6, none] ∧ Gr dotV H fa (((List.range i).map fun i => (List.range (colsN wn b)).map fun j => (b.t + i, b.l + j)).flatten) H') ⟨f0, none, rfl, g0⟩ (fun _ _ _ _ _ => trivial) ?_ fun σ H' q' => ?_⟩
    · rintro i x σ H3 H2 hi ⟨fa, v2, rfl, gr⟩ ⟨rfl, rfl⟩
      rw [n1] at hi
      refine ⟨_, rfl, _, rfl, _, rfl, _, rfl, _, _, rfl, rfl, _, rfl, a, _, rfl, (sc.keep gr.s).wide, _, _, rfl, ?_⟩
      rw [e2]
      refine ⟨_, _, rfl, ⟨by omega, by omega, by omega, by omega⟩, fun D hD => lc_it walk_range (fun j H' => NI dotV H2 D ((List.range j).map fun j => (b.t + i, b.l + j)) H') (NI.new hD) (fun _ _ _ _ => trivial) ?_ ?_⟩
      · rintro j y H5 H4 hj n ⟨rfl, rfl⟩
        rw [n2] at hj
        refine ⟨rfl, ?_⟩
        dsimp only [tYes]
        rw [if_pos rfl]
        refine ⟨_, rfl, _, rfl, (by show 2 ≤ sizeLine; decide), fun z hz => ?_⟩
        have tz := Same.new (o := .tup [V.int ((b.t : Int) + ((i : Nat) : Int)), .int ((b.l : Int) + ((j : Nat) : Int))]) hz
        obtain ⟨acc, e1, e2, e3⟩ := (n.same tz).push (a := (b.t + i, b.l + j)) hD (by rw [List.length_map, List.length_range]; omega) ⟨z, rfl, by
          rw [upd_same]
          unfold dotV
          rw [Int.natCast_add, Int.natCast_add]⟩
        refine ⟨acc, e1, e2, ?_⟩
        rw [List.range_succ, List.map_append]
        exact e3
      · rintro H4 ⟨ws, e, r, s4⟩
        rw [n2] at r
        obtain ⟨us, a1, a2, a3, a4⟩ := gr
        have al := flat_le (f := fun i => (List.range (colsN wn b)).map fun j => (b.t + i, b.l + j)) (m := 8) (fun i => by simpa using cn) i
        refine ⟨fa, D, us, ws, rfl, rfl, s4 _ _ a3, e, ?_, fun g hg => ⟨g, _, rfl, us ++ ws, (a1.trans s4).trans (Same.new hg), (a1.trans s4).free hg, upd_same, ?_⟩⟩
        · rw [a4.1, r.1, List.length_map, List.length_range]
          exact Nat.le_trans (show _ ≤ 300 by omega) (by decide)
        · rw [flat_snoc]
          exact ((a4.same s4).append r).same (Same.new hg)
    · obtain ⟨fa, v2, rfl, us, a1, a2, a3, a4⟩ := q'
      rw [n1] at a4
      exact ⟨_, rfl, k fa us H' a1 a2 a3 a4⟩
end
end K04
namespace K04
open PySem PySem.Spec PyProof.Rows L2 PySem.W LamX KA KW KU KL KT
open Evl (pss_cut tCut)
/-! ### the law's own squares -/
theorem eqv_bks_nil (bs : List Bk) : PyData.eqv (.list (bs.map bkD)) (.list []) = bs.isEmpty := by
  cases bs <;> rfl
theorem RL.snoc_inv {α : Type} {f : α → List V} {H : Hp} {vs : List V} {as : List α} {a : α} (r : RL f H vs (as ++ [a])) : ∃ us p, vs = us ++ [.ref p] ∧ RL f H us as ∧ H p = some (.tup (f a)) := by
  obtain ⟨l, e⟩ := r
  rw [List.length_append, List.length_singleton] at l
  have : vs = vs.take as.length ++ vs.drop as.length := (List.take_append_drop _ _).symm
  obtain ⟨v, hv⟩ : ∃ v, vs.drop as.length = [v] := by
    have : (vs.drop as.length).length = 1 := by rw [List.length_drop]; omega
    exact List.length_eq_one_iff.mp this
  rw [hv] at this
  generalize hu : vs.take as.length = us at this
  have lu : us.length = as.length := by rw [← hu, List.length_take]; omega
  subst this
  have hl := e as.length v (by rw [List.getElem?_append_right (by omega), lu, Nat.sub_self]; rfl)
  rw [List.getElem?_append_right (Nat.le_refl _), Nat.sub_self] at hl
  obtain ⟨a', ea, p, rfl, hp⟩ := hl
  cases ea
  refine ⟨us, p, rfl, ⟨lu, fun i u hi => ?_⟩, hp⟩
  have hil := (List.getElem?_eq_some_iff.mp hi).1
  obtain ⟨b, eb, q⟩ := e i u (by rw [List.getElem?_append_left hil]; exact hi)
  rw [List.getElem?_append_left (by omega)] at eb
  exact ⟨b, eb, q⟩
theorem last_snoc {α : Type} (us : List α) (v : α) : (us ++ [v])[(us ++ [v]).length - 1]? = some v := by
  rw [List.length_append, List.length_singleton, Nat.add_sub_cancel, List.getElem?_append_right (Nat.le_refl _), Nat.sub_self]
  rfl
theorem snoc_of {α : Type} {l : List α} (h : l ≠ []) : ∃ r a, l = r ++ [a] := ⟨l.dropLast, l.getLast h, (List.dropLast_concat_getLast h).symm⟩
theorem isEmpty_snoc {α : Type} (l : List α) (a : α) : (l ++ [a]).isEmpty = false := by cases l <;> rfl
def spLSquares : Sp := fun vs H Q _ => ∃ (a : Addr) (h w : Nat), vs = [.ref a] ∧ ScW H a h w ∧ ∀ q us bs H', Same H H' → H q = none → H' q = some (.lst us) → RL bkV H' us bs → bs.Perm (everyL h w) → Q (.ref q) H'
section
variable {P : Program} {w : World} {K : PySem.W.Frag} {mg : Str → Option Value} {base : Heap} (T : Top K mg)
theorem ok_lsquares : FnOk P w K mg base (L2.CX P w) 2 T._law_squares.a T._law_squares.d ["scope"] spLSquares := by
  refine T._law_squares.f.okX sc__law_squares (fun vs H Q E h => ?_) (fun cdv A outer s H vs Q E hr h => ?_)
  · obtain ⟨a, h, w, rfl, _⟩ := h
    rfl
  · obtain ⟨a, h, wn, rfl, sc, k⟩ := h
    refine ⟨_, pss_cons (ps_par (i := 1) (j := 2) rfl sc__law_squares.nd rfl rfl (by decide) rfl rfl (pa_cons (pe_lst pa_nil) (pa_cons (pe_call (ok_lroots T) (hr.mono (by decide)) (by rfl) T._law_roots.m T._law_roots.f.kp (bd__law_roots T) .nil passE (pa_cons (pv 0) pa_nil)) pa_nil)) (by rfl))
      (pss_cons (ps_while (passes_of rfl) (pt_cmpR (op_neD hr.units) (pv 2) (pe_lst pa_nil) (nomark _))
        (pss_cons (ps_set (i := 3) sc__law_squares.nd rfl (.inl rfl) (pe_bm0 PySem.F.plainAttrs_list PySem.F.slot_list_pop PySem.F.type_list_pop mt_pop (pv 2)))
        (pss_cons (ps_expr (pe_bm PySem.F.plainAttrs_list PySem.F.slot_list_append PySem.F.type_list_append mt_append (pv 1) (pa_cons (pv 3) pa_nil)))
        (pss_one (ps_set (i := 2) sc__law_squares.nd rfl (.inl rfl) (pe_op op_cat (pv 2) (pe_call (ok_lparts T) (hr.mono (by decide)) (by rfl) T._law_parts.m T._law_parts.f.kp (bd__law_parts T) .nil passE (pa_cons (pv 0) (pa_cons (pv 3) pa_nil)))))))))
      (pss_one (ps_ret (pv 1)))), ?_⟩
    have hb := sc.b
    refine ⟨(by show 0 ≤ sizeLine; decide), fun f0 hf0 => ?_⟩
    have t0 := Same.new (o := .lst []) hf0
    have v0 : (upd H f0 (.lst [])) f0 = some (.lst []) := upd_same
    generalize upd H f0 (.lst []) = H0 at t0 v0 ⊢
    refine ⟨_, rfl, a, h, wn, rfl, sc.keep t0, fun q us H1 s1 nq lq r0 => ⟨_, _, rfl, ?_⟩⟩
    refine ⟨fun μ σ' Hx => ∃ (la : Addr) (v3 : Option V) (us ws : List V) (F L : List Bk), σ' = [some (.ref a), some (.ref f0), some (.ref la), v3] ∧ Same H Hx ∧ H la = none ∧ f0 ≠ la ∧ Hx f0 = some (.lst us) ∧ Hx la = some (.lst ws) ∧ RL bkV Hx us F ∧ RL bkV Hx ws L ∧ (∀ b ∈ L, Vb h wn b) ∧ (F ++ L.flatMap (descOf h wn)).Perm (everyL h wn) ∧ (L.flatMap (descOf h wn)).length = μ,
      ⟨_, q, _, [], us, [], rootsL h wn, rfl, t0.trans s1, t0.free nq, ne_of_none v0 nq, s1 _ _ v0, lq, .nil, r0, fun b hb => roots_vb hb, List.Perm.refl _, rfl⟩, ?_⟩
    rintro μ σ' Hx ⟨la, v3, us', ws, F, L, rfl, sx, nla, nfl, ef, el, rf, rl, vb, pm, eμ⟩
    refine ⟨_, rfl, (by show 0 ≤ sizeLine; decide), fun p hp => ?_⟩
    have tp := Same.new (o := .lst []) hp
    have e0 : (upd Hx p (.lst [])) p = some (.lst []) := upd_same
    generalize upd Hx p (.lst []) = Hy at tp e0 ⊢
    have sy := sx.trans tp
    have ef := tp _ _ ef
    have el := tp _ _ el
    have rf := rf.same tp
    have rl := rl.same tp
    refine ⟨_, _, .lst (SqL.of el) (dp_bks rl), dp_nil e0, bks_lay _, shaped_nil, _, rfl, ?_⟩
    rw [eqv_bks_nil]
    have len := pm.length_eq
    rw [List.length_append] at len
    have el84 := every_len (h := h) (w := wn) hb.2.1 hb.2.2.2
    by_cases c : L = []
    · subst c
      rw [List.flatMap_nil, List.append_nil] at pm
      exact iteF ⟨_, rfl, k f0 us' F Hy sy hf0 ef rf pm⟩
    obtain ⟨L0, b, rfl⟩ := snoc_of c
    rw [isEmpty_snoc]
    obtain ⟨ws0, pb, rfl, rl0, epb⟩ := rl.snoc_inv
    have vbb := vb b (List.mem_append_right _ List.mem_cons_self)
    have pm2 := (perm_step (F := F) (L := L0) vbb).trans pm
    have dl := desc_pos vbb
    have lL : (L0.flatMap (descOf h wn)).length + (descOf h wn b).length = μ := by
      rw [← eμ, List.flatMap_append, List.length_append, List.flatMap_cons, List.flatMap_nil, List.append_nil]
    have fl : F.length + μ ≤ 84 := by omega
    have l0 : L0.length ≤ (L0.flatMap (descOf h wn)).length := by
      have : ∀ (M : List Bk), (∀ b ∈ M, Vb h wn b) → M.length ≤ (M.flatMap (descOf h wn)).length := by
        intro M
        induction M with
        | nil => intro _; exact Nat.zero_le _
        | cons m M ih =>
          intro e
          rw [List.flatMap_cons, List.length_append, List.length_cons]
          have := desc_pos (e m List.mem_cons_self)
          have := ih fun b hb => e b (List.mem_cons_of_mem _ hb)
          omega
      exact this L0 fun b hb => vb b (List.mem_append_left _ hb)
    have s84 : 84 + 84 < sizeLine := by decide
    refine iteT ⟨fun σ' H' => ∃ (la : Addr) (v3 : Option V) (us ws : List V) (F L : List Bk), σ' = [some (.ref a), some (.ref f0), some (.ref la), v3] ∧ Same H H' ∧ H la = none ∧ f0 ≠ la ∧ H' f0 = some (.lst us) ∧ H' la = some (.lst ws) ∧ RL bkV H' us F ∧ RL bkV H' ws L ∧ (∀ b ∈ L, Vb h wn b) ∧ (F ++ L.flatMap (descOf h wn)).Perm (everyL h wn) ∧ (L.flatMap (descOf h wn)).length + 1 = μ,
      fun σ' H' ⟨la, v3, us, ws, F, L, z1, z2, z3, z4, z5, z6, z7, z8, z9, z10, z11⟩ => ⟨_, by omega, la, v3, us, ws, F, L, z1, z2, z3, z4, z5, z6, z7, z8, z9, z10, rfl⟩, ?_⟩
    refine ⟨_, rfl, .inl ⟨rfl, _, SqL.of el⟩, la, _, .ref pb, rfl, rfl, el, last_snoc _ _, ?_⟩
    rw [List.dropLast_concat]
    have tq := Tp.put (o := .lst ws0) el
    have sz := K04.Same.put (D := la) (o := .lst ws0) sy nla
    have ef2 : (upd Hy la (.lst ws0)) f0 = some (.lst us') := (upd_ne nfl).trans ef
    have el2 : (upd Hy la (.lst ws0)) la = some (.lst ws0) := upd_same
    have rf2 := rf.tp tq
    have rl2 := rl0.tp tq
    have ep2 := tq _ _ epb
    generalize upd Hy la (.lst ws0) = Hz at sz ef2 el2 rf2 rl2 ep2 ⊢
    refine ⟨_, rfl, .inl ⟨rfl, _, SqL.of ef2⟩, _, rfl, f0, us', .ref pb, rfl, rfl, ef2, by rw [rf2.1]; omega, ?_⟩
    have tw := Tp.put (o := .lst (us' ++ [.ref pb])) ef2
    have sw := K04.Same.put (D := f0) (o := .lst (us' ++ [.ref pb])) sz hf0
    have ef3 : (upd Hz f0 (.lst (us' ++ [.ref pb]))) f0 = some (.lst (us' ++ [.ref pb])) := upd_same
    have el3 : (upd Hz f0 (.lst (us' ++ [.ref pb]))) la = some (.lst ws0) := (upd_ne nfl.symm).trans el2
    have rf3 := (rf2.tp tw).append (RL.one (f := bkV) (a := b) ⟨pb, rfl, tw _ _ ep2⟩)
    have rl3 := rl2.tp tw
    have ep3 := tw _ _ ep2
    generalize upd Hz f0 (.lst (us' ++ [.ref pb])) = Hw at sw ef3 el3 rf3 rl3 ep3 ⊢
    refine ⟨_, rfl, _, rfl, _, rfl, a, pb, b, h, wn, rfl, sc.keep sw, ep3, vbb, fun q2 us2 H4 s4 nq2 lq2 r2 => ?_⟩
    have pl := parts_len (h := h) (w := wn) (b := b)
    refine ⟨la, q2, ws0, us2, rfl, rfl, s4 _ _ el3, lq2, by rw [rl3.1, r2.1]; omega, fun g hg => ?_⟩
    have tg := Same.new (o := .lst (ws0 ++ us2)) hg
    have s4g := s4.trans tg
    refine ⟨g, _, us' ++ [.ref pb], ws0 ++ us2, F ++ [b], L0 ++ partsL h wn b, rfl, sw.trans s4g, (sw.trans s4).free hg, ne_of_none (s4 _ _ ef3) hg, s4g _ _ ef3, upd_same, rf3.same s4g, ((rl3.same s4).append r2).same tg, fun b' hb' => ?_, pm2, ?_⟩
    · rcases List.mem_append.mp hb' with z | z
      · exact vb b' (List.mem_append_left _ z)
      · exact (parts_vb vbb z).1
    · rw [List.flatMap_append, List.length_append, ← lL, desc_step vbb, List.length_cons]
      omega
end
end K04
namespace K04
open PySem PySem.Spec PyProof.Rows L2 PySem.W LamX KA KW KU KL KT
open Evl (pss_cut tCut)
/-! ### the law's own number of covers -/
section
variable {P : Program} {w : World} {K : PySem.W.Frag} {mg : Str → Option Value} {base : Heap} (T : Top K mg)
theorem lcount_zero : FnOk P w K mg base (L2.CX P w) 2 T._law_count.a T._law_count.d ["scope", "square"] (spLCount 0) := by
  refine T._law_count.f.okX sc__law_count (fun vs H Q E h => ?_) (fun cdv A outer s H vs Q E hr h => ?_)
  · obtain ⟨a, p, b, h, w, rfl, _⟩ := h
    rfl
  · obtain ⟨a, p, b, h, wn, rfl, sc, hp, v, lb, k⟩ := h
    refine ⟨_, pss_cons (ps_par (i := 2) (j := 3) rfl sc__law_count.nd rfl rfl (by decide) rfl rfl (pa_cons (pe_call (ok_lparts T) (hr.mono (by decide)) (by rfl) T._law_parts.m T._law_parts.f.kp (bd__law_parts T) .nil passE (pa_cons (pv 0) (pa_cons (pv 1) pa_nil))) (pa_cons pe_int pa_nil)) (by rfl))
      (pss_cons (ps_for (passes_of rfl) rfl (pi_list (pv 2)) (pg_name (i := 4) sc__law_count.nd rfl (.inl rfl))
        (pss_one (ps_set (i := 3) sc__law_count.nd rfl (.inl rfl) (pe_op op_mul (pv 3) (pe_call (sp := spNever) (ok_never) hr (by rfl) T._law_count.m T._law_count.f.kp (bd__law_count T) .nil passE (pa_cons (pv 0) (pa_cons (pv 4) pa_nil)))))))
      (pss_one (ps_ret (pe_ifExp (pt_cmpR (op_neD hr.units) (pv 2) (pe_lst pa_nil) (nomark _)) (pe_op op_add (pv 3) pe_int) pe_int)))), ?_⟩
    refine ⟨_, rfl, _, rfl, a, p, b, h, wn, rfl, sc, hp, v, fun q us H1 s1 nq lq r0 => ⟨_, _, rfl, ?_⟩⟩
    have sub : ∀ b' ∈ partsL h wn b, Vb h wn b' ∧ lev b' + 1 = lev b := fun b' hb' => by
      obtain ⟨a1, _, a3⟩ := parts_vb v hb'
      exact ⟨a1, by omega⟩
    refine ⟨_, rfl, q, rfl, ⟨_, SqL.of lq⟩, for_it walk_list (fun i σ H' => (∃ v4, σ = [some (.ref a), some (.ref p), some (.ref q), some (.int ((prodL (waysOf h wn) ((partsL h wn b).take i) : Nat) : Int)), v4]) ∧ Same H1 H') ⟨⟨none, rfl⟩, Same.refl _⟩ (fun _ _ H' _ q' => SqL.of (q'.2 _ _ lq)) ?_ fun σ H' q' => ?_⟩
    · rintro i x σ H3 H2 hi ⟨⟨v4, rfl⟩, s2⟩ ⟨rfl, hx⟩
      obtain ⟨pb, b', rfl, hb', eb'⟩ := (r0.same s2).get hx
      obtain ⟨vb', lb'⟩ := sub b' (List.mem_of_getElem? hb')
      omega
    · obtain ⟨⟨v4, rfl⟩, s2⟩ := q'
      rw [List.take_of_length_le (by rw [r0.1]; exact Nat.le_refl _)]
      refine ⟨_, rfl, (by show 0 ≤ sizeLine; decide), fun z hz => ?_⟩
      have tz := Same.new (o := .lst []) hz
      have e0 : (upd H' z (.lst [])) z = some (.lst []) := upd_same
      generalize upd H' z (.lst []) = H5 at tz e0 ⊢
      have s15 := s2.trans tz
      refine ⟨_, _, .lst (SqL.of (s15 _ _ lq)) (dp_bks (r0.same s15)), dp_nil e0, bks_lay _, shaped_nil, _, rfl, ?_⟩
      rw [eqv_bks_nil]
      by_cases c : b.s = 2
      · have hk := k H5 (s1.trans s15)
        rw [ways_one c] at hk
        rw [parts_none c]
        exact iteF hk
      · have hk := k H5 (s1.trans s15)
        rw [ways_step v c] at hk
        have ne := parts_some v c
        have : (partsL h wn b).isEmpty = false := by
          cases e : partsL h wn b with
          | nil => exact absurd e ne
          | cons _ _ => rfl
        rw [this]
        refine iteT ⟨_, rfl, _, _, rfl, rfl, ?_⟩
        rw [show ((1 + prodL (waysOf h wn) (partsL h wn b) : Nat) : Int) = ((prodL (waysOf h wn) (partsL h wn b) : Nat) : Int) + 1 by omega] at hk
        exact hk
theorem lcount_more {n k' : Nat} (hk : 1 ≤ k') (F : FnOk P w K mg base (L2.CX P w) k' T._law_count.a T._law_count.d ["scope", "square"] (spLCount n)) : FnOk P w K mg base (L2.CX P w) (k' + 1) T._law_count.a T._law_count.d ["scope", "square"] (spLCount (n + 1)) := by
  refine T._law_count.f.okX sc__law_count (fun vs H Q E h => ?_) (fun cdv A outer s H vs Q E hr h => ?_)
  · obtain ⟨a, p, b, h, w, rfl, _⟩ := h
    rfl
  · obtain ⟨a, p, b, h, wn, rfl, sc, hp, v, lb, k⟩ := h
    refine ⟨_, pss_cons (ps_par (i := 2) (j := 3) rfl sc__law_count.nd rfl rfl (by decide) rfl rfl (pa_cons (pe_call (ok_lparts T) (hr.mono hk) (by rfl) T._law_parts.m T._law_parts.f.kp (bd__law_parts T) .nil passE (pa_cons (pv 0) (pa_cons (pv 1) pa_nil))) (pa_cons pe_int pa_nil)) (by rfl))
      (pss_cons (ps_for (passes_of rfl) rfl (pi_list (pv 2)) (pg_name (i := 4) sc__law_count.nd rfl (.inl rfl))
        (pss_one (ps_set (i := 3) sc__law_count.nd rfl (.inl rfl) (pe_op op_mul (pv 3) (pe_call (sp := (spLCount n)) (F) hr (by rfl) T._law_count.m T._law_count.f.kp (bd__law_count T) .nil passE (pa_cons (pv 0) (pa_cons (pv 4) pa_nil)))))))
      (pss_one (ps_ret (pe_ifExp (pt_cmpR (op_neD hr.units) (pv 2) (pe_lst pa_nil) (nomark _)) (pe_op op_add (pv 3) pe_int) pe_int)))), ?_⟩
    refine ⟨_, rfl, _, rfl, a, p, b, h, wn, rfl, sc, hp, v, fun q us H1 s1 nq lq r0 => ⟨_, _, rfl, ?_⟩⟩
    have sub : ∀ b' ∈ partsL h wn b, Vb h wn b' ∧ lev b' + 1 = lev b := fun b' hb' => by
      obtain ⟨a1, _, a3⟩ := parts_vb v hb'
      exact ⟨a1, by omega⟩
    refine ⟨_, rfl, q, rfl, ⟨_, SqL.of lq⟩, for_it walk_list (fun i σ H' => (∃ v4, σ = [some (.ref a), some (.ref p), some (.ref q), some (.int ((prodL (waysOf h wn) ((partsL h wn b).take i) : Nat) : Int)), v4]) ∧ Same H1 H') ⟨⟨none, rfl⟩, Same.refl _⟩ (fun _ _ H' _ q' => SqL.of (q'.2 _ _ lq)) ?_ fun σ H' q' => ?_⟩
    · rintro i x σ H3 H2 hi ⟨⟨v4, rfl⟩, s2⟩ ⟨rfl, hx⟩
      obtain ⟨pb, b', rfl, hb', eb'⟩ := (r0.same s2).get hx
      obtain ⟨vb', lb'⟩ := sub b' (List.mem_of_getElem? hb')
      have bd : prodL (waysOf h wn) ((partsL h wn b).take i) ≤ 17 ^ 4 := prodL_le (by decide) (fun b hb => ways_le (sub b (List.mem_of_mem_take hb)).1) (by have := parts_len (h := h) (w := wn) (b := b); rw [List.length_take]; omega)
      have e17 : (17 : Nat) ^ 4 = 83521 := by decide
      have w17 := ways_le vb'
      refine ⟨_, rfl, _, rfl, _, rfl, a, pb, b', h, wn, rfl, (sc.keep s1).keep s2, eb', vb', by omega, fun H4 s4 => ?_⟩
      have ev : ((prodL (waysOf h wn) ((partsL h wn b).take i) : Nat) : Int) * ((waysOf h wn b' : Nat) : Int) = ((prodL (waysOf h wn) ((partsL h wn b).take (i + 1)) : Nat) : Int) := by
        rw [List.take_add_one, hb', ← Int.natCast_mul]
        exact congrArg _ (prodL_snoc _ _).symm
      exact ⟨_, _, rfl, rfl, .inl ⟨by omega, by omega⟩, ⟨some (.ref pb), by rw [← ev]; rfl⟩, s2.trans s4⟩
    · obtain ⟨⟨v4, rfl⟩, s2⟩ := q'
      rw [List.take_of_length_le (by rw [r0.1]; exact Nat.le_refl _)]
      refine ⟨_, rfl, (by show 0 ≤ sizeLine; decide), fun z hz => ?_⟩
      have tz := Same.new (o := .lst []) hz
      have e0 : (upd H' z (.lst [])) z = some (.lst []) := upd_same
      generalize upd H' z (.lst []) = H5 at tz e0 ⊢
      have s15 := s2.trans tz
      refine ⟨_, _, .lst (SqL.of (s15 _ _ lq)) (dp_bks (r0.same s15)), dp_nil e0, bks_lay _, shaped_nil, _, rfl, ?_⟩
      rw [eqv_bks_nil]
      by_cases c : b.s = 2
      · have hk := k H5 (s1.trans s15)
        rw [ways_one c] at hk
        rw [parts_none c]
        exact iteF hk
      · have hk := k H5 (s1.trans s15)
        rw [ways_step v c] at hk
        have ne := parts_some v c
        have : (partsL h wn b).isEmpty = false := by
          cases e : partsL h wn b with
          | nil => exact absurd e ne
          | cons _ _ => rfl
        rw [this]
        refine iteT ⟨_, rfl, _, _, rfl, rfl, ?_⟩
        rw [show ((1 + prodL (waysOf h wn) (partsL h wn b) : Nat) : Int) = ((prodL (waysOf h wn) (partsL h wn b) : Nat) : Int) + 1 by omega] at hk
        exact hk
def spLCountA : Sp := fun vs H Q _ => ∃ (a p : Addr) (b : Bk) (h w : Nat), vs = [.ref a, .ref p] ∧ ScW H a h w ∧ H p = some (.tup (bkV b)) ∧ Vb h w b ∧ ∀ H', Same H H' → Q (.int (waysOf h w b : Nat)) H'
theorem ok_lcount : FnOk P w K mg base (L2.CX P w) 4 T._law_count.a T._law_count.d ["scope", "square"] spLCountA := by
  have F0 := lcount_zero T (P := P) (w := w) (base := base)
  have F1 := lcount_more T (k' := 2) (by decide) F0
  have F2 := lcount_more T (k' := 3) (by decide) F1
  refine ⟨fun vs H Q E h => ?_, fun A outer s H args us vs Q E hr he hb r h => ?_⟩
  · obtain ⟨a, p, b, h, w, rfl, _⟩ := h
    rfl
  · obtain ⟨a, p, b, h, wn, rfl, sc, hp, v, k⟩ := h
    have := lev_two v
    rcases (show lev b = 0 ∨ lev b = 1 ∨ lev b = 2 by omega) with e | e | e
    · exact F0.run A outer s H args us _ Q E (hr.mono (by decide)) he hb r ⟨a, p, b, h, wn, rfl, sc, hp, v, e, k⟩
    · exact F1.run A outer s H args us _ Q E (hr.mono (by decide)) he hb r ⟨a, p, b, h, wn, rfl, sc, hp, v, e, k⟩
    · exact F2.run A outer s H args us _ Q E hr he hb r ⟨a, p, b, h, wn, rfl, sc, hp, v, e, k⟩
end
end K04
namespace K04
open PySem PySem.Spec PyProof.Rows L2 PySem.W LamX KA KW KU KL KT
open Evl (pss_cut tCut)
/-! ### the law's own covers -/
theorem RL.rev {α : Type} {f : α → List V} {H : Hp} {vs : List V} {as : List α} (r : RL f H vs as) : RL f H vs.reverse as.reverse := by
  obtain ⟨l, e⟩ := r
  refine ⟨by rw [List.length_reverse, List.length_reverse, l], fun i v hi => ?_⟩
  have hl := (List.getElem?_eq_some_iff.mp hi).1
  rw [List.length_reverse] at hl
  rw [List.getElem?_reverse hl] at hi
  obtain ⟨a, ea, q⟩ := e _ v hi
  exact ⟨a, by rw [List.getElem?_reverse (by omega), ← l]; exact ea, q⟩
theorem flat_rev_len {α β : Type} (f : α → List β) : ∀ L : List α, (L.reverse.flatMap f).length = (L.flatMap f).length
  | [] => rfl
  | a :: L => by
    rw [List.reverse_cons, List.flatMap_append, List.length_append, List.flatMap_cons, List.flatMap_cons, List.flatMap_nil, List.append_nil, List.length_append, flat_rev_len f L]
    omega
theorem ScW.kp {H H' : Hp} {a st lg : Addr} {h w : Nat} (p : ScW H a h w) (k : Kp st lg H H') (n1 : a ≠ st) (n2 : a ≠ lg) : ScW H' a h w := by
  obtain ⟨lo, hi, q⟩ := p
  exact ⟨lo, hi, q.keep fun o e => k _ _ e n1 n2⟩
theorem Kp.put3 {st lg D : Addr} {H H' : Hp} {o : HO} (k : Kp st lg H H') (hD : H D = none) : Kp st lg H (upd H' D o) := fun b u e n1 n2 => by
  rw [upd_ne (fun z => by rw [z, hD] at e; cases e)]
  exact k _ _ e n1 n2
theorem offc {H : Hp} {st lg cl p : Addr} {n : Nat} (S : StAt H st lg cl n) (hp : H p = none) : p ≠ cl := by
  obtain ⟨_, _, _, _, S', _⟩ := S
  exact (ne_of_none S'.c hp).symm
theorem stAt_put {H : Hp} {st lg cl e : Addr} {n : Nat} {ys : List V} (S : StAt H st lg cl n) (h1 : e ≠ st) (h2 : e ≠ lg) (h3 : e ≠ cl) : StAt (upd H e (.lst ys)) st lg cl n := by
  obtain ⟨a, b, c, d, s, h'⟩ := S
  exact ⟨a, b, c, d, { s with d := (upd_ne h1.symm).trans s.d, l := (upd_ne h2.symm).trans s.l, c := (upd_ne h3.symm).trans s.c }, h'⟩
theorem StAt.here {H : Hp} {st lg cl p : Addr} {n : Nat} (S : StAt H st lg cl n) {k : Hp} (kp : Kp st lg H k) (hp : k p = none) (n1 : p ≠ st) (n2 : p ≠ lg) : H p = none := by
  cases z : H p with
  | none => rfl
  | some o =>
    have := kp p o z n1 n2
    rw [hp] at this
    cases this
theorem desc_le {h w : Nat} : ∀ (M : List Bk), (∀ b ∈ M, Vb h w b) → M.length ≤ (M.flatMap (descOf h w)).length := by
  intro M
  induction M with
  | nil => intro _; exact Nat.zero_le _
  | cons m M ih =>
    intro e
    rw [List.flatMap_cons, List.length_append, List.length_cons]
    have := desc_pos (e m List.mem_cons_self)
    have := ih fun b hb => e b (List.mem_cons_of_mem _ hb)
    omega
def spLCover : Sp := fun vs H Q _ => ∃ (st lg cl a : Addr) (h w m : Nat), vs = [.ref st, .ref a] ∧ ScW H a h w ∧ a ≠ st ∧ a ≠ lg ∧ m ≤ 900000 ∧ StAt H st lg cl m ∧
  ∀ q us bs H', StAt H' st lg cl (m + 84) → Kp st lg H H' → H q = none → H' q = some (.lst us) → RL bkV H' us bs → (∀ b ∈ bs, Vb h w b) → bs.flatMap (cellsOf h w) = cellsL h w → bs.length ≤ 84 → Q (.ref q) H'
/-- what stands at the head of each turn -/
structure Cov (H : Hp) (st lg cl a f0 : Addr) (h w m : Nat) (la : Addr) (us ws : List V) (F L : List Bk) (Hx : Hp) : Prop where
  kp : Kp st lg H Hx
  nla : H la = none
  ne : f0 ≠ la
  ef : Hx f0 = some (.lst us)
  el : Hx la = some (.lst ws)
  rf : RL bkV Hx us F
  rl : RL bkV Hx ws L
  vf : ∀ b ∈ F, Vb h w b
  vl : ∀ b ∈ L, Vb h w b
  ce : F.flatMap (cellsOf h w) ++ L.reverse.flatMap (cellsOf h w) = cellsL h w
  le : F.length + (L.flatMap (descOf h w)).length ≤ 84
  S : StAt Hx st lg cl (m + (84 - (L.flatMap (descOf h w)).length))
section
variable {P : Program} {w : World} {K : PySem.W.Frag} {mg : Str → Option Value} {base : Heap} (T : Top K mg)
theorem ok_lcover : FnOk P w K mg base (L2.CX P w) 2 T._law_cover.a T._law_cover.d ["state", "scope"] spLCover := by
  refine T._law_cover.f.okX sc__law_cover (fun vs H Q E h => ?_) (fun cdv A outer s H vs Q E hr h => ?_)
  · obtain ⟨st, lg, cl, a, h, w, m, rfl, _⟩ := h
    rfl
  · obtain ⟨st, lg, cl, a, h, wn, m, rfl, sc, as, al, hm, S, k⟩ := h
    refine ⟨_, pss_cons (ps_par (i := 2) (j := 3) rfl sc__law_cover.nd rfl rfl (by decide) rfl rfl (pa_cons (pe_lst pa_nil) (pa_cons (pe_revL (pe_call (ok_lroots T) (hr.mono (by decide)) (by rfl) T._law_roots.m T._law_roots.f.kp (bd__law_roots T) .nil passE (pa_cons (pv 1) pa_nil))) pa_nil)) (by rfl))
      (pss_cons (ps_while (passes_of rfl) (pt_cmpR (op_neD hr.units) (pv 3) (pe_lst pa_nil) (nomark _))
        (pss_cons (ps_set (i := 4) sc__law_cover.nd rfl (.inl rfl) (pe_bm0 PySem.F.plainAttrs_list PySem.F.slot_list_pop PySem.F.type_list_pop mt_pop (pv 3)))
        (pss_one (ps_if (PW.pt (pw_and (pt_cmpR op_gt (pe_ix ix_tup (pv 4) pe_int (fun _ _ => rfl)) pe_int (nomark _)) (pw_and1 (pt_cmpR op_gt (pe_call (ok_draw T) (hr.mono (by decide)) (by rfl) T._law_draw.m T._law_draw.f.kp (bd__law_draw T) .nil passE (pa_cons (pv 0) (pa_cons pe_int pa_nil))) pe_int (nomark _)))))
          (pss_one (ps_set (i := 3) sc__law_cover.nd rfl (.inl rfl) (pe_op op_cat (pv 3) (pe_revL (pe_call (ok_lparts T) (hr.mono (by decide)) (by rfl) T._law_parts.m T._law_parts.f.kp (bd__law_parts T) .nil passE (pa_cons (pv 1) (pa_cons (pv 4) pa_nil)))))))
          (pss_one (ps_expr (pe_bm PySem.F.plainAttrs_list PySem.F.slot_list_append PySem.F.type_list_append mt_append (pv 2) (pa_cons (pv 4) pa_nil))))))))
      (pss_one (ps_ret (pv 2)))), ?_⟩
    have hb := sc.b
    have el84 := every_len (h := h) (w := wn) hb.2.1 hb.2.2.2
    refine ⟨(by show 0 ≤ sizeLine; decide), fun f0 hf0 => ?_⟩
    have t0 := Same.new (o := .lst []) hf0
    have v0 : (upd H f0 (.lst [])) f0 = some (.lst []) := upd_same
    obtain ⟨fs, fl⟩ := S.off hf0
    have fc := offc S hf0
    generalize upd H f0 (.lst []) = H0 at t0 v0 ⊢
    refine ⟨_, rfl, a, h, wn, rfl, sc.keep t0, fun q us H1 s1 nq lq r0 => ⟨q, us, rfl, SqL.of lq, fun la hla => ⟨_, _, rfl, ?_⟩⟩⟩
    have t01 := t0.trans s1
    have tl := Same.new (o := .lst us.reverse) hla
    have elr := flat_rev_len (descOf h wn) (rootsL h wn)
    have ele : ((rootsL h wn).flatMap (descOf h wn)).length ≤ 84 := el84
    have sp84 : 84 + 84 < sizeLine := by decide
    refine ⟨fun μ σ' Hx => ∃ (la : Addr) (v4 : Option V) (us ws : List V) (F L : List Bk), σ' = [some (.ref st), some (.ref a), some (.ref f0), some (.ref la), v4] ∧ Cov H st lg cl a f0 h wn m la us ws F L Hx ∧ (L.flatMap (descOf h wn)).length = μ,
      ⟨_, la, _, [], us.reverse, [], (rootsL h wn).reverse, rfl, ⟨Kp.same (t01.trans tl), t01.free hla, ne_of_none (s1 _ _ v0) hla, tl _ _ (s1 _ _ v0), upd_same, .nil, r0.rev.same tl, (fun b hb => by cases hb), (fun b hb => roots_vb (List.mem_reverse.mp hb)), (by rw [List.reverse_reverse]; rfl), (by rw [elr]; simpa using ele), (S.same (t01.trans tl)).mono (by omega)⟩, rfl⟩, ?_⟩
    clear tl hla r0 lq nq
    rintro μ σ' Hx ⟨la, v4, us', ws, F, L, rfl, C, eμ⟩
    refine ⟨_, rfl, (by show 0 ≤ sizeLine; decide), fun p hp => ?_⟩
    have tp := Same.new (o := .lst []) hp
    have e0 : (upd Hx p (.lst [])) p = some (.lst []) := upd_same
    generalize upd Hx p (.lst []) = Hy at tp e0 ⊢
    have C : Cov H st lg cl a f0 h wn m la us' ws F L Hy := { C with kp := C.kp.trans (Kp.same tp), ef := tp _ _ C.ef, el := tp _ _ C.el, rf := C.rf.same tp, rl := C.rl.same tp, S := C.S.same tp }
    refine ⟨_, _, .lst (SqL.of C.el) (dp_bks C.rl), dp_nil e0, bks_lay _, shaped_nil, _, rfl, ?_⟩
    rw [eqv_bks_nil]
    have cle := C.le
    by_cases c : L = []
    · subst c
      have ce := C.ce
      rw [List.reverse_nil, List.flatMap_nil, List.append_nil] at ce
      exact iteF ⟨_, rfl, k f0 us' F Hy (C.S.mono (by omega)) C.kp hf0 C.ef C.rf C.vf ce (by omega)⟩
    obtain ⟨L0, b, rfl⟩ := snoc_of c
    rw [isEmpty_snoc]
    obtain ⟨ws0, pb, rfl, rl0, epb⟩ := C.rl.snoc_inv
    have vbb := C.vl b (List.mem_append_right _ List.mem_cons_self)
    have vl0 : ∀ b ∈ L0, Vb h wn b := fun b hb => C.vl b (List.mem_append_left _ hb)
    have dl := desc_pos vbb
    have lL : (L0.flatMap (descOf h wn)).length + (descOf h wn b).length = μ := by
      rw [← eμ, List.flatMap_append, List.length_append, List.flatMap_cons, List.flatMap_nil, List.append_nil]
    have SS := C.S
    rw [eμ] at cle SS
    have ll0 := desc_le L0 vl0
    have ce := C.ce
    rw [List.reverse_append, List.reverse_singleton, List.singleton_append, List.flatMap_cons] at ce
    obtain ⟨ls, ll⟩ := S.off C.nla
    have lc := offc S C.nla
    have nfl := C.ne
    have elx := C.el
    have efx := C.ef
    refine iteT ⟨fun σ' H' => ∃ (la : Addr) (v4 : Option V) (us ws : List V) (F L : List Bk), σ' = [some (.ref st), some (.ref a), some (.ref f0), some (.ref la), v4] ∧ Cov H st lg cl a f0 h wn m la us ws F L H' ∧ (L.flatMap (descOf h wn)).length < μ,
      fun σ' H' ⟨la, v4, us, ws, F, L, z1, z2, z3⟩ => ⟨_, z3, la, v4, us, ws, F, L, z1, z2, rfl⟩, ?_⟩
    refine ⟨_, rfl, .inl ⟨rfl, _, SqL.of elx⟩, la, _, .ref pb, rfl, rfl, elx, last_snoc _ _, ?_⟩
    rw [List.dropLast_concat]
    have tq := Tp.put (o := .lst ws0) elx
    have kz := Kp.put3 (o := .lst ws0) C.kp C.nla
    have ef2 : (upd Hy la (.lst ws0)) f0 = some (.lst us') := (upd_ne nfl).trans efx
    have el2 : (upd Hy la (.lst ws0)) la = some (.lst ws0) := upd_same
    have rf2 := C.rf.tp tq
    have rl2 := rl0.tp tq
    have ep2 := tq _ _ epb
    have S2 := stAt_put (ys := ws0) SS ls ll lc
    have CF := C.vf
    have nla := C.nla
    clear C
    generalize upd Hy la (.lst ws0) = Hz at kz ef2 el2 rf2 rl2 ep2 S2 ⊢
    -- it is found
    have found : ∀ Hw mm, Kp st lg H Hw → Hw f0 = some (.lst us') → Hw la = some (.lst ws0) → RL bkV Hw us' F → RL bkV Hw ws0 L0 → Hw pb = some (.tup (bkV b)) → StAt Hw st lg cl mm → mm ≤ m + (84 - μ) + 1 →
        Cov H st lg cl a f0 h wn m la (us' ++ [.ref pb]) ws0 (F ++ [b]) L0 (upd Hw f0 (.lst (us' ++ [.ref pb]))) := fun Hw mm kw ef3 el3 rf3 rl3 ep3 S3 hm3 => by
      have tw := Tp.put (o := .lst (us' ++ [.ref pb])) ef3
      refine ⟨Kp.put3 kw hf0, nla, nfl, upd_same, (upd_ne nfl.symm).trans el3, (rf3.tp tw).append (RL.one (f := bkV) (a := b) ⟨pb, rfl, tw _ _ ep3⟩), rl3.tp tw, fun b' hb' => ?_, vl0, ?_, ?_, (stAt_put S3 fs fl fc).mono (by omega)⟩
      · rcases List.mem_append.mp hb' with z | z
        · exact CF b' z
        · rw [List.mem_singleton.mp z]; exact vbb
      · rw [List.flatMap_append, List.flatMap_cons, List.flatMap_nil, List.append_nil, List.append_assoc]
        exact ce
      · rw [List.length_append, List.length_singleton]
        omega
    refine ⟨_, rfl, pb, _, 2, _, rfl, rfl, SqT.of ep2, atI_nat (j := 2) rfl, _, _, rfl, rfl, _, rfl, ?_⟩
    by_cases c2 : 2 < b.s
    case neg =>
      rw [decide_eq_false (show ¬ (2 : Int) < ((b.s : Nat) : Int) by omega)]
      refine iteF (iteF ?_)
      exact ⟨_, rfl, .inl ⟨rfl, _, SqL.of ef2⟩, _, rfl, f0, us', .ref pb, rfl, rfl, ef2, by rw [rf2.1]; omega, la, _, _, _, _, _, rfl, found Hz _ kz ef2 el2 rf2 rl2 ep2 S2 (by omega), by omega⟩
    rw [decide_eq_true (show (2 : Int) < ((b.s : Nat) : Int) by omega)]
    refine iteT ⟨_, rfl, st, lg, cl, 3, _, rfl, by decide, by decide, by omega, S2, fun d H3 hd S3 kp3 => ⟨_, _, rfl, rfl, _, rfl, ?_⟩⟩
    have ef3 := kp3 _ _ ef2 fs fl
    have el3 := kp3 _ _ el2 ls ll
    have t3 := Tp.kp S2 kp3
    have rf3 := rf2.tp t3
    have rl3 := rl2.tp t3
    have ep3 := t3 _ _ ep2
    have kz3 := kz.trans kp3
    by_cases c3 : 0 < d
    case neg =>
      rw [decide_eq_false (show ¬ (0 : Int) < ((d : Nat) : Int) by omega)]
      refine iteF ?_
      exact ⟨_, rfl, .inl ⟨rfl, _, SqL.of ef3⟩, _, rfl, f0, us', .ref pb, rfl, rfl, ef3, by rw [rf3.1]; omega, la, _, _, _, _, _, rfl, found H3 _ kz3 ef3 el3 rf3 rl3 ep3 S3 (by omega), by omega⟩
    rw [decide_eq_true (show (0 : Int) < ((d : Nat) : Int) by omega)]
    refine iteT ?_
    refine ⟨_, rfl, _, rfl, _, rfl, a, pb, b, h, wn, rfl, sc.kp kz3 as al, ep3, vbb, fun q2 us2 H4 s4 nq2 lq2 r2 => ⟨q2, us2, rfl, SqL.of lq2, fun x hx => ?_⟩⟩
    have tx := Same.new (o := .lst us2.reverse) hx
    have s4x := s4.trans tx
    have pl := parts_len (h := h) (w := wn) (b := b)
    have rr := (r2.rev).same tx
    have ex : (upd H4 x (.lst us2.reverse)) x = some (.lst us2.reverse) := upd_same
    generalize upd H4 x (.lst us2.reverse) = H5 at tx s4x rr ex ⊢
    refine ⟨la, x, ws0, us2.reverse, rfl, rfl, s4x _ _ el3, ex, by rw [rl3.1, List.length_reverse, r2.1]; omega, fun g hg => ?_⟩
    have tg := Same.new (o := .lst (ws0 ++ us2.reverse)) hg
    have s5 := s4x.trans tg
    have k5 := kz3.trans (Kp.same s4x)
    have S5 := S3.same s4x
    obtain ⟨gs, gl⟩ := S5.off hg
    have s2' : b.s ≠ 2 := by omega
    have dlen : ((L0 ++ (partsL h wn b).reverse).flatMap (descOf h wn)).length + 1 = μ := by
      rw [List.flatMap_append, List.length_append, flat_rev_len, ← lL, desc_step vbb, List.length_cons]
      omega
    refine ⟨g, _, us', ws0 ++ us2.reverse, F, L0 ++ (partsL h wn b).reverse, rfl, ⟨kz3.trans (Kp.same s5), K04.StAt.here S k5 hg gs gl, ne_of_none (s4x _ _ ef3) hg, s5 _ _ ef3, upd_same, rf3.same s5, ((rl3.same s4x).append rr).same tg, CF, fun b' hb' => ?_, ?_, by omega, (S3.same s5).mono (by omega)⟩, by omega⟩
    · rcases List.mem_append.mp hb' with z | z
      · exact vl0 b' z
      · exact (parts_vb vbb (List.mem_reverse.mp z)).1
    · rw [List.reverse_append, List.reverse_reverse, List.flatMap_append, ← cells_step vbb s2']
      exact ce
end
end K04
namespace K04
open PySem PySem.Spec PyProof.Rows L2 PySem.W LamX KA KW KU KL KT
open Evl (pss_cut tCut)
/-! ### the law's own mixing -/
/-- a number or a block -/
def El (H : Hp) (v : V) : Prop := (∃ i, v = .int i) ∨ ∃ p b, v = .ref p ∧ H p = some (.tup (bkV b))
theorem El.tp {H H' : Hp} {v : V} (e : El H v) (t : Tp H H') : El H' v := by
  rcases e with z | ⟨p, b, z, q⟩
  · exact .inl z
  · exact .inr ⟨p, b, z, t _ _ q⟩
theorem dp_els {K : PySem.W.Frag} {H : Hp} : ∀ {us : List V}, (∀ v ∈ us, El H v) → ∃ ds, DpAll K H us ds ∧ PyData.canLayAll0 ds = true ∧ PyData.depthAll ds ≤ 2 ∧ ds.isEmpty = us.isEmpty
  | [], _ => ⟨[], .nil, rfl, Nat.zero_le _, rfl⟩
  | u :: us, e => by
    obtain ⟨ds, a, b, c, _⟩ := dp_els (us := us) fun v hv => e v (List.mem_cons_of_mem _ hv)
    rcases e u List.mem_cons_self with ⟨i, rfl⟩ | ⟨p, bk, rfl, q⟩
    · exact ⟨.int i :: ds, .cons (.int i) a, by simp [PyData.canLayAll0, PyData.canLay0, b], by simp only [PyData.depthAll, PyData.depth]; omega, rfl⟩
    · obtain ⟨l1, l2⟩ := bk_lay bk
      exact ⟨bkD bk :: ds, .cons (dp_bk q) a, by simp [PyData.canLayAll0, l1, b], by simp only [PyData.depthAll]; omega, rfl⟩
theorem els_shaped {ds : List PyData} (h1 : PyData.canLayAll0 ds = true) (h2 : PyData.depthAll ds ≤ 2) : SeqAt.shaped (.list ds) = true := by
  simp [SeqAt.shaped, PyData.canLay0, PyData.depth, h1]
  omega
theorem eqv_list_nil (ds : List PyData) : PyData.eqv (.list ds) (.list []) = ds.isEmpty := by
  cases ds <;> rfl
section
variable {P : Program} {w : World} {K : PySem.W.Frag} {mg : Str → Option Value} {base : Heap} (T : Top K mg)
def spMixed (K : PySem.W.Frag) : Sp := fun vs H Q _ => ∃ (st lg cl a : Addr) (is : List V) (m : Nat), vs = [.ref st, .ref a] ∧ SqL K H a is ∧ is.length ≤ 1000 ∧ (∀ v ∈ is, El H v) ∧ m ≤ 900000 ∧ StAt H st lg cl m ∧
  ∀ (p : Addr) (js : List V) (H' : Hp), (∀ j ∈ js, j ∈ is) → js.length = is.length → H' p = some (.lst js) → H p = none → StAt H' st lg cl (m + is.length) → Kp st lg H H' → Q (.ref p) H'
theorem ok_mixed : FnOk P w K mg base (L2.CX P w) 2 T._law_mixed.a T._law_mixed.d ["state", "several"] (spMixed K) := by
  refine T._law_mixed.f.okX sc__law_mixed (fun vs H Q E h => ?_) (fun cdv A outer s H vs Q E hr h => ?_)
  · obtain ⟨st, lg, cl, a, is, m, rfl, _⟩ := h
    rfl
  · obtain ⟨st, lg, cl, a, is, m, rfl, ha, hl, hel, hm, S, k⟩ := h
    refine ⟨_, pss_cons (ps_par (i := 2) (j := 3) rfl sc__law_mixed.nd rfl rfl (by decide) rfl rfl (pa_cons (pe_callTy call_list_of (by rfl) T.b_list (by decide +kernel) (pa_cons (pv 1) pa_nil)) (pa_cons (pe_lst pa_nil) pa_nil)) (by rfl))
      (pss_cons (ps_while (passes_of rfl) (pt_cmpR (op_neD hr.units) (pv 2) (pe_lst pa_nil) (nomark _))
        (pss_one (ps_expr (pe_bm PySem.F.plainAttrs_list PySem.F.slot_list_append PySem.F.type_list_append mt_append (pv 3) (pa_cons (pe_bm PySem.F.plainAttrs_list PySem.F.slot_list_pop PySem.F.type_list_pop mt_popAt (pv 2)
          (pa_cons (pe_call (ok_draw T) hr (by rfl) T._law_draw.m T._law_draw.f.kp (bd__law_draw T) .nil passE (pa_cons (pv 0) (pa_cons (pe_callB call_len_seq (by rfl) T.b_len PySem.boot_len (pa_cons (pv 2) pa_nil)) pa_nil))) pa_nil)) pa_nil)))))
      (pss_one (ps_ret (pv 3)))), ?_⟩
    refine ⟨_, rfl, a, _, rfl, .inl ha, fun q hq => ⟨(by show 0 ≤ sizeLine; decide), fun r hr' => ⟨_, _, rfl, ?_⟩⟩⟩
    have sq := Same.new (o := .lst is) hq
    have S1 := S.same sq
    have sr := Same.new (o := .lst []) hr'
    have S2 := S1.same sr
    have q1 := (S.off hq).1
    have q2 := (S.off hq).2
    have q3 := offc S hq
    have r1 := (S1.off hr').1
    have r2 := (S1.off hr').2
    have r3 := offc S1 hr'
    have qr : q ≠ r := ne_of_none upd_same hr'
    have hr0 : H r = none := sq.free hr'
    refine ⟨fun μ σ' H1 => σ' = [some (.ref st), some (.ref a), some (.ref q), some (.ref r)] ∧ ∃ (L M : List V), L.length = μ ∧ L.length + M.length = is.length ∧ (∀ j ∈ L, j ∈ is) ∧ (∀ j ∈ M, j ∈ is) ∧ H1 q = some (.lst L) ∧ H1 r = some (.lst M) ∧ StAt H1 st lg cl (m + M.length) ∧
      Kp st lg H H1, ⟨is.length, rfl, is, [], rfl, by simp, fun j h => h, (fun j h => by cases h), (upd_ne qr).trans upd_same, upd_same, S2, (Kp.same sq).trans (Kp.same sr)⟩, ?_⟩
    clear S1 S2 sr hr'
    rintro μ σ' H1 ⟨rfl, L, M, rfl, e1, e2, e3, e4, e5, S1, kp⟩
    refine ⟨_, rfl, (by show 0 ≤ sizeLine; decide), fun p hp => ?_⟩
    have nq : q ≠ p := ne_of_none e4 hp
    have nr : r ≠ p := ne_of_none e5 hp
    have e4' : (upd H1 p (.lst [])) q = some (.lst L) := (upd_ne nq).trans e4
    have e5' : (upd H1 p (.lst [])) r = some (.lst M) := (upd_ne nr).trans e5
    have S2 := S1.same (Same.new (o := .lst []) hp)
    have kp2 := kp.trans (Kp.same (Same.new (o := .lst []) hp))
    have tt := Tp.kp S kp2
    obtain ⟨ds, d1, d2, d3, d4⟩ := dp_els (K := K) (H := upd H1 p (.lst [])) (us := L) fun v hv => (hel v (e2 v hv)).tp tt
    refine ⟨_, _, .lst (SqL.of e4') d1, dp_nil upd_same, els_shaped d2 d3, shaped_nil, _, rfl, ?_⟩
    rw [eqv_list_nil, d4]
    clear d1 d2 d3 d4 tt
    generalize upd H1 p (.lst []) = H2 at e4' e5' S2 kp2
    cases L with
    | nil =>
      refine iteF ⟨_, rfl, ?_⟩
      have : M.length = is.length := by simpa using e1
      exact k r M H2 e3 this e5' hr0 (this ▸ S2) kp2
    | cons x rest =>
      refine iteT ⟨fun σ' H' => σ' = [some (.ref st), some (.ref a), some (.ref q), some (.ref r)] ∧ ∃ (L' M' : List V), L'.length = rest.length ∧ L'.length + M'.length = is.length ∧ (∀ j ∈ L', j ∈ is) ∧ (∀ j ∈ M', j ∈ is) ∧ H' q = some (.lst L') ∧ H' r = some (.lst M') ∧ StAt H' st lg cl (m + M'.length) ∧ Kp st lg H H',
        fun σ' H' ⟨e, L', M', f1, f2⟩ => ⟨rest.length, by simp, e, L', M', f1, f2⟩, ?_⟩
      refine ⟨_, rfl, .inl ⟨rfl, _, SqL.of e5'⟩, _, rfl, .inl ⟨rfl, _, SqL.of e4'⟩, _, rfl, _, rfl, q, _, rfl, .inl (SqL.of e4'), st, lg, cl, (x :: rest).length, m + M.length, rfl, by simp, ?_, ?_, S2, fun d H3 hd S3 kp3 => ?_⟩
      · exact Nat.lt_of_le_of_lt (show _ ≤ 1000 from by omega) (by decide)
      · omega
      have g4 := kp3 q _ e4' q1 q2
      have g5 := kp3 r _ e5' r1 r2
      obtain ⟨y, hy⟩ : ∃ y, (x :: rest)[d]? = some y := ⟨_, List.getElem?_eq_getElem hd⟩
      have le : d < 1001 := by omega
      refine ⟨q, _, (d : Int), d, y, rfl, rfl, g4, by omega, by omega, ?_, hy, ?_⟩
      · have hd2 : d < rest.length + 1 := by simpa using hd
        unfold seqIndex?
        rw [if_neg (show ¬ (d : Int) < 0 by omega), if_pos ?_, Int.toNat_natCast]
        rw [Bool.and_eq_true, decide_eq_true_eq, decide_eq_true_eq, List.length_cons]
        omega
      have g6 : (upd H3 q (.lst ((x :: rest).eraseIdx d))) r = some (.lst M) := (upd_ne qr.symm).trans g5
      refine ⟨r, _, y, rfl, rfl, g6, ?_, rfl, (x :: rest).eraseIdx d, M ++ [y], ?_, ?_, ?_, ?_, ?_, ?_, ?_, ?_⟩
      · exact Nat.lt_of_le_of_lt (show M.length ≤ 1000 by omega) (by decide)
      · rw [List.length_eraseIdx_of_lt hd]
        simp
      · rw [List.length_eraseIdx_of_lt hd, List.length_append]
        simp at e1 ⊢
        omega
      · exact fun j hj => e2 j (List.mem_of_mem_eraseIdx hj)
      · intro j hj
        rcases List.mem_append.mp hj with z | z
        · exact e3 j z
        · rw [List.mem_singleton.mp z]
          exact e2 y (List.mem_of_getElem? hy)
      · rw [upd_ne qr, upd_same]
      · exact upd_same
      · have := stAt_put (ys := M ++ [y]) (stAt_put (ys := (x :: rest).eraseIdx d) S3 q1 q2 q3) r1 r2 r3
        rw [List.length_append]
        exact this
      · exact Kp.put3 (Kp.put3 (kp2.trans kp3) (by first | exact hq)) hr0
end
end K04
namespace K04
open PySem PySem.Spec PyProof.Rows L2 PySem.W LamX KA KW KU KL
open Evl (pss_cut tCut)
/-! ### the law's own scopes, wide -/
section
variable {P : Program} {w : World} {K : PySem.W.Frag} {mg : Str → Option Value} {base : Heap} (T : Top K mg)
def spScopeF : Sp := fun vs H Q _ => ∃ (st lg cl : Addr) (m : Nat), vs = [.ref st] ∧ m ≤ 990000 ∧ StAt H st lg cl m ∧
  ∀ (a : Addr) (t w lo hi : Int) (H' : Hp), ScV H' a t w lo hi → H a = none → a ≠ st → a ≠ lg → StAt H' st lg cl (m + 4) → Kp st lg H H' → Q (.ref a) H'
theorem ok_scopeF : FnOk P w K mg base (L2.CX P w) 3 T._law_scope.a T._law_scope.d ["state"] spScopeF := by
  refine T._law_scope.f.okX sc__law_scope (fun vs H Q E h => ?_) (fun cdv A outer s H vs Q E hr h => ?_)
  · obtain ⟨st, lg, cl, m, rfl, _⟩ := h
    rfl
  · obtain ⟨st, lg, cl, m, rfl, hm, S, k⟩ := h
    refine ⟨_, pss_cons (ps_set (i := 1) sc__law_scope.nd rfl (.inl rfl) (pe_lst (pa_pair (pe_tup (pa_cons pe_int (pa_cons pe_int pa_nil))) (pa_pair (pe_tup (pa_cons pe_int (pa_cons pe_int pa_nil))) (pa_pair (pe_tup (pa_cons pe_int (pa_cons pe_int pa_nil))) (pa_pair (pe_tup (pa_cons pe_int (pa_cons pe_int pa_nil))) (pa_pair (pe_tup (pa_cons pe_int (pa_cons pe_int pa_nil))) (pa_pair (pe_tup (pa_cons pe_int (pa_cons pe_int pa_nil))) (pa_pair (pe_tup (pa_cons pe_int (pa_cons pe_int pa_nil))) (pa_pair (pe_tup (pa_cons pe_int (pa_cons pe_int pa_nil))) (pa_pair (pe_tup (pa_cons pe_int (pa_cons pe_int pa_nil))) (pa_pair (pe_tup (pa_cons pe_int (pa_cons pe_int pa_nil))) (pa_pair (pe_tup (pa_cons pe_int (pa_cons pe_int pa_nil))) pa_pair0)))))))))))))
      (pss_cut (ps_set (i := 1) sc__law_scope.nd rfl (.inl rfl) (pe_ifExp (pt_cmpR op_gt (pe_call (ok_draw T) (hr.mono (by decide)) (by rfl) T._law_draw.m T._law_draw.f.kp (bd__law_draw T) .nil passE (pa_cons (pv 0) (pa_cons pe_int pa_nil))) pe_int (nomark _)) (pv 1) (pe_lst (pa_pair (pe_tup (pa_cons pe_int (pa_cons pe_int pa_nil))) (pa_pair (pe_tup (pa_cons pe_int (pa_cons pe_int pa_nil))) (pa_pair (pe_tup (pa_cons pe_int (pa_cons pe_int pa_nil))) (pa_pair (pe_tup (pa_cons pe_int (pa_cons pe_int pa_nil))) pa_pair0)))))))
      (pss_cons (ps_asg (pe_call (ok_pick T) (hr.mono (by decide)) (by rfl) T._law_pick.m T._law_pick.f.kp (bd__law_pick T) .nil passE (pa_cons (pv 0) (pa_cons (pv 1) pa_nil))) (pg_tup rfl (pgs_cons (pg_name (i := 2) sc__law_scope.nd rfl (.inl rfl)) (pgs_cons (pg_name (i := 3) sc__law_scope.nd rfl (.inl rfl)) pgs_nil))))
      (pss_cons (ps_set (i := 4) sc__law_scope.nd rfl (.inl rfl) (pe_call (ok_pick T) (hr.mono (by decide)) (by rfl) T._law_pick.m T._law_pick.f.kp (bd__law_pick T) .nil passE (pa_cons (pv 0) (pa_cons (pe_lst (pa_cons pe_int (pa_cons pe_int (pa_cons pe_int (pa_cons (pe_un un_neg pe_int) (pa_cons (pe_un un_neg pe_int) (pa_cons pe_int pa_nil))))))) pa_nil))))
      (pss_cons (ps_set (i := 5) sc__law_scope.nd rfl (.inl rfl) (pe_callB (call_min2 rfl) (by rfl) T.b_min PyProof.Rows.boot_min (pa_cons pe_int (pa_cons (pe_op op_add (pv 4) (pe_call (ok_pick T) (hr.mono (by decide)) (by rfl) T._law_pick.m T._law_pick.f.kp (bd__law_pick T) .nil passE (pa_cons (pv 0) (pa_cons (pe_lst (pa_cons pe_int (pa_cons pe_int (pa_cons pe_int (pa_cons pe_int (pa_cons pe_int (pa_cons pe_int (pa_cons pe_int pa_nil)))))))) pa_nil)))) pa_nil))))
      (pss_one (ps_ret (pe_disp (pps_cons pe_str (pv 2) (pps_cons pe_str (pv 3) (pps_cons pe_str (pv 4) (pps_cons pe_str (pv 5) pps_nil)))) (by rfl) (by rfl) (fun z => by cases z) (by decide)))))))), ?_⟩
    have ok1 : ∀ c ∈ [(1, 1), (2, 2), (2, 3), (3, 2), (4, 4), (1, 5), (5, 1), (3, 4), (2, 6), (5, 6), (9, 2)] ++ [(2, 10), (3, 16), (8, 8), (10, 9)], (1 : Int) ≤ c.1 ∧ c.1 ≤ 16 ∧ (1 : Int) ≤ c.2 ∧ c.2 ≤ 16 := by decide
    refine pairs_read [(1, 1), (2, 2), (2, 3), (3, 2), (4, 4), (1, 5), (5, 1), (3, 4), (2, 6), (5, 6), (9, 2)] _ H _ fun ps H1 s1 hl1 hp1 => ⟨?_, fun b hb => ?_⟩
    · rw [List.length_map, hl1]
      decide
    have S1 := (S.same s1).same (Same.new (o := .lst (ps.map V.ref)) hb)
    have kp1 : Kp st lg H (upd H1 b (.lst (ps.map V.ref))) := (Kp.same s1).trans (Kp.same (Same.new hb))
    have hp1 : ∀ p ∈ ps, ∃ c ∈ [(1, 1), (2, 2), (2, 3), (3, 2), (4, 4), (1, 5), (5, 1), (3, 4), (2, 6), (5, 6), (9, 2)] ++ [(2, 10), (3, 16), (8, 8), (10, 9)], (upd H1 b (.lst (ps.map V.ref))) p = some (.tup [V.int c.1, .int c.2]) := fun p hp => by
      obtain ⟨c, h1, h2⟩ := hp1 p hp
      exact ⟨c, List.mem_append_left _ h1, (Same.new hb) _ _ h2⟩
    have hb1 : (upd H1 b (.lst (ps.map V.ref))) b = some (.lst (ps.map V.ref)) := upd_same
    have nb := (S.same s1).off hb
    have lp : 0 < ps.length ∧ ps.length ≤ 11 := by
      rw [hl1]
      decide
    generalize upd H1 b (.lst (ps.map V.ref)) = H2 at S1 kp1 hp1 hb1 ⊢
    clear hb s1 hl1
    refine ⟨fun σ' H' => ∃ (b : Addr) (ps : List Addr), σ' = [some (.ref st), some (.ref b), none, none, none, none] ∧ StAt H' st lg cl (m + 1) ∧ Kp st lg H H' ∧ (∀ p ∈ ps, ∃ c ∈ [(1, 1), (2, 2), (2, 3), (3, 2), (4, 4), (1, 5), (5, 1), (3, 4), (2, 6), (5, 6), (9, 2)] ++ [(2, 10), (3, 16), (8, 8), (10, 9)], H' p = some (.tup [V.int c.1, .int c.2])) ∧ H' b = some (.lst (ps.map V.ref)) ∧ (b ≠ st ∧ b ≠ lg) ∧ 0 < ps.length ∧ ps.length ≤ 11, ?_, ?_⟩
    · refine ⟨_, rfl, st, lg, cl, 6, m, rfl, by decide, by decide, by omega, S1, fun r H3 hr3 S3 kp3 => ⟨_, _, rfl, rfl, _, rfl, ?_⟩⟩
      by_cases c : (0 : Int) < (r : Nat)
      · rw [decide_eq_true c]
        refine iteT ⟨_, rfl, b, ps, rfl, S3, kp1.trans kp3, fun p hp => ?_, kp3 _ _ hb1 nb.1 nb.2, nb, lp⟩
        obtain ⟨c, h1, h2⟩ := hp1 p hp
        have off : p ≠ st ∧ p ≠ lg := by
          obtain ⟨_, _, _, _, S', _⟩ := S1
          exact ⟨ne_of h2 S'.d (by intro z; cases z), ne_of h2 S'.l (by intro z; cases z)⟩
        exact ⟨c, h1, kp3 _ _ h2 off.1 off.2⟩
      · rw [decide_eq_false c]
        refine iteF (pairs_read [(2, 10), (3, 16), (8, 8), (10, 9)] _ H3 _ fun ps2 H4 s4 hl2 hp2 => ⟨?_, fun b2 hb2 => ⟨b2, ps2, rfl, (S3.same s4).same (Same.new hb2), ((kp1.trans kp3).trans (Kp.same s4)).trans (Kp.same (Same.new hb2)), fun p hp => ?_, upd_same, (S3.same s4).off hb2, ?_⟩⟩)
        · rw [List.length_map, hl2]
          decide
        · obtain ⟨c, h1, h2⟩ := hp2 p hp
          exact ⟨c, List.mem_append_right _ h1, (Same.new hb2) _ _ h2⟩
        · rw [hl2]
          decide
    clear S1 kp1 hp1 hb1 nb lp H2
    rintro σ H2 ⟨b, ps, rfl, S2, kp2, hp2, hb2, nb, lp1, lp2⟩
    -- tall, wide
    refine ⟨_, rfl, _, rfl, st, lg, cl, b, _, m + 1, rfl, hb2, nb.2, ?_, ?_, by omega, S2, fun x H3 hx S3 kp3 => ?_⟩
    · rw [List.length_map]
      exact lp1
    · rw [List.length_map]
      omega
    obtain ⟨p, hp, rfl⟩ := List.mem_map.mp hx
    obtain ⟨c, hc, h3⟩ := hp2 p hp
    obtain ⟨c1, c2, c3, c4⟩ := ok1 c hc
    have off : p ≠ st ∧ p ≠ lg := by
      obtain ⟨_, _, _, _, S', _⟩ := S2
      exact ⟨ne_of h3 S'.d (by intro z; cases z), ne_of h3 S'.l (by intro z; cases z)⟩
    have h4 := kp3 _ _ h3 off.1 off.2
    have kpA := kp2.trans kp3
    refine ⟨p, _, rfl, SqT.of h4, rfl, _, _, rfl, _, _, rfl, rfl, ?_⟩
    -- least
    refine ⟨_, rfl, _, rfl, _, rfl, (by show 6 ≤ sizeLine; decide), fun q hq => ⟨st, lg, cl, q, _, m + 2, rfl, upd_same, (S3.off hq).2, (by show 0 < 6; decide), (by show 6 ≤ 1000; decide), by omega, S3.same (Same.new hq), fun x H4 hx4 S4 kp4 => ?_⟩⟩
    obtain ⟨lo, rfl, lo1, lo2⟩ : ∃ lo : Int, x = .int lo ∧ -512 ≤ lo ∧ lo ≤ 3 := by
      simp only [List.mem_cons, List.not_mem_nil, or_false] at hx4
      rcases hx4 with h | h | h | h | h | h <;> exact ⟨_, h, by decide, by decide⟩
    have kpB := (kpA.trans (Kp.same (Same.new hq))).trans kp4
    -- most
    refine ⟨_, rfl, _, rfl, (by show 7 ≤ sizeLine; decide), fun q2 hq2 => ⟨st, lg, cl, q2, _, m + 3, rfl, upd_same, (S4.off hq2).2, (by show 0 < 7; decide), (by show 7 ≤ 1000; decide), by omega, S4.same (Same.new hq2), fun y H5 hx5 S5 kp5 => ?_⟩⟩
    obtain ⟨d, rfl, d1, d2⟩ : ∃ d : Int, y = .int d ∧ 0 ≤ d ∧ d ≤ 1023 := by
      simp only [List.mem_cons, List.not_mem_nil, or_false] at hx5
      rcases hx5 with h | h | h | h | h | h | h <;> exact ⟨_, h, by decide, by decide⟩
    have kpC := (kpB.trans (Kp.same (Same.new hq2))).trans kp5
    refine ⟨_, _, rfl, rfl, _, _, rfl, ?_⟩
    generalize hmost : (if lo + d < 511 then lo + d else (511 : Int)) = hi
    have hi1 : lo ≤ hi ∧ hi ≤ 511 := by
      rw [← hmost]
      split <;> omega
    -- the dict
    intro dt hdt
    refine ⟨_, rfl, _, rfl, _, rfl, _, rfl, upd_same, scKv c.1 c.2 lo hi, rfl, (by show 4 ≤ 15; decide), ?_⟩
    rw [sc_merge]
    have sm : Same H5 (upd (upd H5 dt (.dK [])) dt (.dK (scKv c.1 c.2 lo hi))) := fun b o e => by
      rw [upd_upd, upd_ne (ne_of_none e hdt)]
      exact e
    have nd := S5.off hdt
    exact k dt c.1 c.2 lo hi _ ⟨upd_same, c1, c2, c3, c4, lo1, hi1.1, hi1.2⟩ (K04.StAt.here S kpC hdt nd.1 nd.2) nd.1 nd.2 (S5.same sm) (kpC.trans (Kp.same sm))
theorem sc_put_tall {t w lo hi x : Int} : putK (scKv t w lo hi) kTall (.int x) = scKv x w lo hi := by
  unfold putK
  rw [valV_any, sc_tall, Option.isSome_some, if_pos rfl]
  simp only [scKv, List.map_cons, List.map_nil, if_neg (Ne.symm kTW), if_neg (Ne.symm kTL), if_neg (Ne.symm kTM), if_true]
theorem sc_put_wide {t w lo hi x : Int} : putK (scKv t w lo hi) kWide (.int x) = scKv t x lo hi := by
  unfold putK
  rw [valV_any, sc_wide, Option.isSome_some, if_pos rfl]
  simp only [scKv, List.map_cons, List.map_nil, if_neg kTW, if_neg (Ne.symm kWL), if_neg (Ne.symm kWM), if_true]
theorem two_merge {x y : Int} : mergeK [] [(kTall, V.int x), (kWide, V.int y)] = [(kTall, V.int x), (kWide, V.int y)] := by
  unfold mergeK
  simp only [List.foldl_cons, List.foldl_nil]
  rw [putK_new (kvs := []) _ valV_nil, List.nil_append]
  rw [putK_new (k := kWide) _ ((valV_neg (show ¬ kTall = kWide from kTW)).trans valV_nil)]
  rfl
theorem sc_merge2 {t w lo hi x y : Int} : mergeK (scKv t w lo hi) [(kTall, V.int x), (kWide, V.int y)] = scKv x y lo hi := by
  unfold mergeK
  simp only [List.foldl_cons, List.foldl_nil]
  rw [sc_put_tall, sc_put_wide]
theorem stAt_putO {H : Hp} {st lg cl e : Addr} {n : Nat} {o : HO} (S : StAt H st lg cl n) (h1 : e ≠ st) (h2 : e ≠ lg) (h3 : e ≠ cl) : StAt (upd H e o) st lg cl n := by
  obtain ⟨a, b, c, d, s, h'⟩ := S
  exact ⟨a, b, c, d, { s with d := (upd_ne h1.symm).trans s.d, l := (upd_ne h2.symm).trans s.l, c := (upd_ne h3.symm).trans s.c }, h'⟩
def spWide : Sp := fun vs H Q _ => ∃ (st lg cl : Addr) (m : Nat), vs = [.ref st] ∧ m ≤ 980000 ∧ StAt H st lg cl m ∧
  ∀ (a : Addr) (h w : Nat) (H' : Hp), ScW H' a h w → H a = none → a ≠ st → a ≠ lg → StAt H' st lg cl (m + 7) → Kp st lg H H' → Q (.ref a) H'
theorem ok_wide : FnOk P w K mg base (L2.CX P w) 4 T._law_wide_scope.a T._law_wide_scope.d ["state"] spWide := by
  refine T._law_wide_scope.f.okX sc__law_wide_scope (fun vs H Q E h => ?_) (fun cdv A outer s H vs Q E hr h => ?_)
  · obtain ⟨st, lg, cl, m, rfl, _⟩ := h
    rfl
  · obtain ⟨st, lg, cl, m, rfl, hm, S, k⟩ := h
    refine ⟨_, pss_cons (ps_set (i := 1) sc__law_wide_scope.nd rfl (.inl rfl) (pe_call (ok_scopeF T) (hr.mono (by decide)) (by rfl) T._law_scope.m T._law_scope.f.kp (bd__law_scope T) .nil passE (pa_cons (pv 0) pa_nil)))
      (pss_cons (ps_if (pt_cmpR op_eq (pe_call (ok_draw T) (hr.mono (by decide)) (by rfl) T._law_draw.m T._law_draw.f.kp (bd__law_draw T) .nil passE (pa_cons (pv 0) (pa_cons pe_int pa_nil))) pe_int (nomark _))
        (pss_one (ps_expr (pe_bm PySem.F.plainAttrs_dict PySem.F.slot_dict_update PySem.F.type_dict_update KDU.mt_update (pv 1) (pa_cons (pe_disp (pps_cons pe_str (pe_op op_add pe_int (pe_call (ok_draw T) (hr.mono (by decide)) (by rfl) T._law_draw.m T._law_draw.f.kp (bd__law_draw T) .nil passE (pa_cons (pv 0) (pa_cons pe_int pa_nil))))
          (pps_cons pe_str (pe_op op_add pe_int (pe_call (ok_draw T) (hr.mono (by decide)) (by rfl) T._law_draw.m T._law_draw.f.kp (bd__law_draw T) .nil passE (pa_cons (pv 0) (pa_cons pe_int pa_nil)))) pps_nil)) (by rfl) (by rfl) (fun z => by cases z) (by decide)) pa_nil)))) pss_nil)
      (pss_one (ps_ret (pv 1)))), ?_⟩
    refine ⟨_, rfl, st, lg, cl, m, rfl, by omega, S, fun a t wd lo hi H1 sc na as al S1 kp1 => ?_⟩
    have scw : ∀ H2, (∀ o, H1 a = some o → H2 a = some o) → ScW H2 a t.toNat wd.toNat := fun H2 e => by
      have h1 := sc.t1
      have h2 := sc.w1
      have e1 : ((t.toNat : Nat) : Int) = t := by omega
      have e2 : ((wd.toNat : Nat) : Int) = wd := by omega
      refine ⟨lo, hi, ?_⟩
      rw [e1, e2]
      exact sc.keep e
    refine ⟨_, rfl, st, lg, cl, 3, _, rfl, by decide, by decide, by omega, S1, fun r H2 hr2 S2 kp2 => ⟨rfl, _, rfl, ?_⟩⟩
    have sc2 := sc.keep (H' := H2) fun o e => kp2 _ _ e as al
    by_cases c : r = 0
    case neg =>
      rw [decide_eq_false (fun z => c (by have := V.int.inj z; omega))]
      exact iteF ⟨_, rfl, k a _ _ H2 (scw H2 fun o e => kp2 _ _ e as al) na as al (S2.mono (by omega)) (kp1.trans kp2)⟩
    rw [decide_eq_true (by rw [c]; rfl)]
    refine iteT ⟨_, rfl, .inr (.inr (.inl ⟨rfl, .inl ⟨_, sc2.d⟩⟩)), fun dt hdt => ?_⟩
    have td := Same.new (o := .dK []) hdt
    have ed : (upd H2 dt (.dK [])) dt = some (.dK []) := upd_same
    obtain ⟨ds, dl⟩ := S2.off hdt
    have ad : a ≠ dt := ne_of_none sc2.d hdt
    have S3 := S2.same td
    have sc3 := sc2.keep (H' := upd H2 dt (.dK [])) fun o e => td _ _ e
    have kpd : ∀ H' o, Kp st lg (upd H2 dt (.dK [])) H' → Kp st lg H2 (upd H' dt o) := fun H' o kk b u e n1 n2 => by
      rw [upd_ne (ne_of_none e hdt)]
      exact kk _ _ (td _ _ e) n1 n2
    have kpt := Kp.same (st := st) (lg := lg) td
    generalize upd H2 dt (.dK []) = H3 at td ed S3 sc3 kpd kpt ⊢
    refine ⟨_, rfl, st, lg, cl, 16, _, rfl, by decide, by decide, by omega, S3, fun x H4 hx S4 kp4 => ⟨_, _, rfl, rfl, ?_⟩⟩
    refine ⟨_, rfl, st, lg, cl, 16, _, rfl, by decide, by decide, by omega, S4, fun y H5 hy S5 kp5 => ⟨_, _, rfl, rfl, ?_⟩⟩
    have kp45 := kp4.trans kp5
    have ed5 := kp45 _ _ ed ds dl
    have sc5 := sc3.keep (H' := H5) fun o e => kp45 _ _ e as al
    refine ⟨ed5, [(kTall, .int (1 + ((x : Nat) : Int))), (kWide, .int (1 + ((y : Nat) : Int)))], rfl, (by show 2 ≤ 15; decide), ?_⟩
    rw [two_merge]
    have dc : dt ≠ cl := by
      obtain ⟨_, _, _, _, S', _⟩ := S5
      exact ne_of ed5 S'.c (by intro z; cases z)
    have ac : a ≠ cl := by
      obtain ⟨_, _, _, _, S', _⟩ := S5
      exact ne_of sc5.d S'.c (by intro z; cases z)
    have k6 := kpd H5 (.dK [(kTall, V.int (1 + ((x : Nat) : Int))), (kWide, .int (1 + ((y : Nat) : Int)))]) kp45
    have S6 := stAt_putO (o := .dK [(kTall, V.int (1 + ((x : Nat) : Int))), (kWide, .int (1 + ((y : Nat) : Int)))]) S5 ds dl dc
    have a6 : (upd H5 dt (.dK [(kTall, V.int (1 + ((x : Nat) : Int))), (kWide, .int (1 + ((y : Nat) : Int)))])) a = some (.dK (scKv t wd lo hi)) := (upd_ne ad).trans sc5.d
    refine ⟨a, dt, _, _, rfl, rfl, a6, upd_same, ad, (by show 4 + 2 ≤ sizeLine; decide), ?_⟩
    rw [sc_merge2]
    generalize upd H5 dt (.dK [(kTall, V.int (1 + ((x : Nat) : Int))), (kWide, .int (1 + ((y : Nat) : Int)))]) = H6 at k6 S6 a6 ⊢
    refine ⟨_, rfl, k a (1 + x) (1 + y) _ ⟨lo, hi, ?_⟩ na as al ((stAt_putO S6 as al ac).mono (by omega)) (Kp.put3 ((kp1.trans kp2).trans k6) na)⟩
    have e1 : ((1 + x : Nat) : Int) = 1 + ((x : Nat) : Int) := by omega
    have e2 : ((1 + y : Nat) : Int) = 1 + ((y : Nat) : Int) := by omega
    rw [e1, e2]
    exact ⟨upd_same, by omega, by omega, by omega, by omega, sc.l1, sc.l2, sc.l3⟩
end
end K04
namespace K04
open PySem PySem.Spec PyProof.Rows L2 PySem.W LamX KA KW KU KL KT
/-! ### what repr shows of a block, it shows of nothing else -/
def jn : List (List Nat) → List Nat
  | [] => []
  | [a] => a
  | a :: b :: r => a ++ 44 :: 32 :: jn (b :: r)
theorem join_jn : ∀ ts : List Str, (Str.join ", " ts).cps.toList = jn (ts.map fun t => t.cps.toList)
  | [] => rfl
  | [a] => rfl
  | a :: b :: r => by
    have e : ((", " : String) : Str).cps.toList = [44, 32] := by decide
    rw [show Str.join ", " (a :: b :: r) = a ++ ((", " : String) : Str) ++ Str.join ", " (b :: r) from rfl, cps_toList_append, cps_toList_append, join_jn (b :: r), e]
    show a.cps.toList ++ [44, 32] ++ _ = a.cps.toList ++ 44 :: 32 :: _
    rw [List.append_assoc]
    rfl
theorem cut_at {k : Nat} : ∀ {a a' x x' : List Nat}, k ∉ a → k ∉ a' → a ++ k :: x = a' ++ k :: x' → a = a' ∧ x = x'
  | [], [], _, _, _, _, e => ⟨rfl, (List.cons.inj e).2⟩
  | [], c :: _, _, _, _, h, e => absurd ((List.cons.inj e).1 ▸ List.mem_cons_self) h
  | c :: _, [], _, _, h, _, e => absurd ((List.cons.inj e).1 ▸ List.mem_cons_self) h
  | c :: a, d :: a', x, x', h, h', e => by
    obtain ⟨e1, e2⟩ := List.cons.inj e
    obtain ⟨r1, r2⟩ := cut_at (fun z => h (List.mem_cons_of_mem _ z)) (fun z => h' (List.mem_cons_of_mem _ z)) e2
    exact ⟨by rw [e1, r1], r2⟩
theorem jn_inj : ∀ {ts us : List (List Nat)}, (∀ t ∈ ts, 44 ∉ t) → (∀ u ∈ us, 44 ∉ u) → ts ≠ [] → us ≠ [] → jn ts = jn us → ts = us
  | [], _, _, _, h, _, _ => absurd rfl h
  | _, [], _, _, _, h, _ => absurd rfl h
  | [a], [b], _, _, _, _, e => congrArg (fun x => [x]) e
  | [a], b :: c :: r, h, _, _, _, e => by
    have : 44 ∈ a := by
      rw [show a = b ++ 44 :: 32 :: jn (c :: r) from e]
      simp
    exact absurd this (h a List.mem_cons_self)
  | b :: c :: r, [a], _, h, _, _, e => by
    have : 44 ∈ a := by
      rw [show a = b ++ 44 :: 32 :: jn (c :: r) from e.symm]
      simp
    exact absurd this (h a List.mem_cons_self)
  | a :: b :: r, a' :: b' :: r', h, h', _, _, e => by
    obtain ⟨e1, e2⟩ := cut_at (h a List.mem_cons_self) (h' a' List.mem_cons_self) (show a ++ 44 :: (32 :: jn (b :: r)) = a' ++ 44 :: (32 :: jn (b' :: r')) from e)
    have := jn_inj (ts := b :: r) (us := b' :: r') (fun t ht => h t (List.mem_cons_of_mem _ ht)) (fun t ht => h' t (List.mem_cons_of_mem _ ht)) (by simp) (by simp) (List.cons.inj e2).2
    rw [e1, this]
def txt (d : PyData) : List Nat := d.shown.cps.toList
/-- a small number, True, False, None, or the text 2 -/
def At (d : PyData) : Prop := (∃ i : Int, d = .int i ∧ -8 ≤ i ∧ i ≤ 16) ∨ (∃ b, d = .bool b) ∨ d = .none ∨ d = .str "2"
theorem txt_two : txt (.str "2") = [39, 50, 39] := by decide +kernel
theorem at_free {d : PyData} (h : At d) : 44 ∉ txt d := by
  rcases h with ⟨i, rfl, _⟩ | ⟨b, rfl⟩ | rfl | rfl
  · exact shown_int_free' ⟨by decide, by decide⟩ i
  · exact shown_bool_free (by decide) b
  · exact shown_none_free (by decide)
  · rw [txt_two]
    decide
theorem int_txt : ∀ i ∈ List.range 25, ∀ j ∈ List.range 25, txt (.int ((i : Int) - 8)) = txt (.int ((j : Int) - 8)) → i = j := by decide +kernel
theorem at_int {d : PyData} {j : Int} (h : At d) (h1 : -8 ≤ j) (h2 : j ≤ 16) (e : txt d = txt (.int j)) : d = .int j := by
  rcases h with ⟨i, rfl, i1, i2⟩ | ⟨b, rfl⟩ | rfl | rfl
  · have := int_txt (i + 8).toNat (List.mem_range.mpr (by omega)) (j + 8).toNat (List.mem_range.mpr (by omega)) (by
      rw [show (((i + 8).toNat : Nat) : Int) - 8 = i by omega, show (((j + 8).toNat : Nat) : Int) - 8 = j by omega]
      exact e)
    rw [show i = j by omega]
  · have m : 101 ∈ txt (.bool b) := by
      cases b <;> decide +kernel
    rw [e] at m
    exact absurd m (shown_int_free' ⟨by decide, by decide⟩ j)
  · have m : 101 ∈ txt .none := by decide +kernel
    rw [e] at m
    exact absurd m (shown_int_free' ⟨by decide, by decide⟩ j)
  · have m : 39 ∈ txt (.str "2") := by rw [txt_two]; decide
    rw [e] at m
    exact absurd m (shown_int_free' ⟨by decide, by decide⟩ j)
theorem all_map : ∀ xs : List PyData, (PyData.shownAll xs).map (fun t => t.cps.toList) = xs.map txt
  | [] => rfl
  | x :: xs => by
    show txt x :: (PyData.shownAll xs).map (fun t => t.cps.toList) = txt x :: xs.map txt
    rw [all_map xs]
theorem txt_list (xs : List PyData) : ∃ r, txt (.list xs) = 91 :: r := by
  refine ⟨(Str.join ", " (PyData.shownAll xs)).cps.toList ++ [93], ?_⟩
  unfold txt
  rw [PyData.shown_list, cps_toList_append, cps_toList_append]
  rfl
theorem txt_tuple {xs : List PyData} (h : xs.length ≠ 1) : txt (.tuple xs) = 40 :: (jn (xs.map txt) ++ [41]) := by
  unfold txt
  rw [PyData.shown_tuple, if_neg (by simpa using h), cps_toList_append, cps_toList_append, join_jn, all_map]
  rfl
theorem txt_none : txt .none = [78, 111, 110, 101] := by decide +kernel
/-- what the law compares with its blocks -/
def Itm (d : PyData) : Prop := d = .none ∨ (∃ xs, d = .list xs) ∨ ∃ xs, d = .tuple xs ∧ xs.length ≠ 1 ∧ ∀ x ∈ xs, At x
structure Sml (b : Bk) : Prop where
  t : b.t ≤ 16
  l : b.l ≤ 16
  s : b.s ≤ 16
theorem at_nat {n : Nat} (h : n ≤ 16) : At (.int (n : Int)) := .inl ⟨n, rfl, by omega, by omega⟩
theorem txt_bk {d : PyData} {b : Bk} (h : Itm d) (s : Sml b) (e : txt d = txt (bkD b)) : d = bkD b := by
  have eb : txt (bkD b) = 40 :: (jn ([PyData.int (b.t : Int), .int (b.l : Int), .int (b.s : Int)].map txt) ++ [41]) := txt_tuple (by show ¬ 3 = 1; decide)
  rw [eb] at e
  rcases h with rfl | ⟨xs, rfl⟩ | ⟨xs, rfl, hl, ha⟩
  · rw [txt_none] at e
    cases e
  · obtain ⟨r, er⟩ := txt_list xs
    rw [er] at e
    cases e
  · rw [txt_tuple hl] at e
    have e2 := List.append_cancel_right (List.cons.inj e).2
    have nx : xs ≠ [] := fun z => by
      rw [z] at e2
      have : ([] : List Nat) = txt (.int (b.t : Int)) ++ 44 :: 32 :: jn ([PyData.int (b.l : Int), .int (b.s : Int)].map txt) := e2
      have := congrArg List.length this
      rw [List.length_append] at this
      simp at this
    have e3 := jn_inj (fun t ht => by
      obtain ⟨x, hx, rfl⟩ := List.mem_map.mp ht
      exact at_free (ha x hx)) (fun t ht => by
      obtain ⟨x, hx, rfl⟩ := List.mem_map.mp ht
      simp only [List.mem_cons, List.not_mem_nil, or_false] at hx
      rcases hx with rfl | rfl | rfl
      · exact at_free (at_nat s.t)
      · exact at_free (at_nat s.l)
      · exact at_free (at_nat s.s)) (by simpa using nx) (by simp) e2
    have l3 := congrArg List.length e3
    rw [List.length_map] at l3
    match xs, l3, ha, e3 with
    | [x, y, z], _, ha, e3 =>
      simp only [List.map_cons, List.map_nil, List.cons.injEq, and_true] at e3
      obtain ⟨a1, a2, a3⟩ := e3
      have st := s.t
      have sl := s.l
      have ss := s.s
      rw [at_int (ha x (by simp)) (by omega) (by omega) a1, at_int (ha y (by simp)) (by omega) (by omega) a2, at_int (ha z (by simp)) (by omega) (by omega) a3]
      rfl
theorem shown_bk {d : PyData} {b : Bk} (h : Itm d) (s : Sml b) : d.shown = (bkD b).shown ↔ d = bkD b :=
  ⟨fun e => txt_bk h s (by unfold txt; rw [e]), fun e => by rw [e]⟩
end K04
namespace K04
open PySem PySem.Spec PyProof.Rows L2 PySem.W LamX KA KW KU KL KT
open Evl (pss_cut tCut)
/-! ### data small enough to be shown and compared; repr of any value -/
structure Sm (n z : Nat) (d : PyData) : Prop where
  l : d.leavesShort 13 = true
  w : d.weight ≤ n
  s : d.showable = true
  n : d.hasDict = false
  z : d.depth ≤ z
  c : d.canLay0 = true
theorem small_fits {d : PyData} (hl : d.leavesShort 13 = true) (hw : d.weight ≤ 2 ^ 20) : d.shown.length ≤ sizeLine := PyData.shown_fits (by decide) (by decide) hl hw
theorem int_small {i : Int} (h1 : -65535 ≤ i) (h2 : i ≤ 65535) : (PyData.int i).leavesShort 13 = true ∧ (PyData.int i).weight ≤ 17 ∧ (PyData.int i).showable = true := by
  have hn : i.natAbs < 2 ^ 17 := by omega
  have hl : i.natAbs.log2 ≤ 17 := by
    rcases Nat.eq_zero_or_pos i.natAbs with z | z
    · rw [z]
      decide
    · exact Nat.le_of_lt ((Nat.log2_lt (by omega)).mpr hn)
  have hl2 : i.natAbs.log2 < 17 ∨ i.natAbs = 0 := by
    rcases Nat.eq_zero_or_pos i.natAbs with z | z
    · exact .inr z
    · exact .inl ((Nat.log2_lt (by omega)).mpr hn)
  refine ⟨?_, ?_, ?_⟩
  · simp only [PyData.leavesShort, decide_eq_true_eq]
    exact PyData.shown_int_le (by omega)
  · simp only [PyData.weight]
    split
    · omega
    · rename_i c
      rcases hl2 with q | q
      · omega
      · exact absurd (by simpa using q) c
  · simp only [PyData.showable, decide_eq_true_eq]
    omega
theorem Sm.mono {n m z y : Nat} {d : PyData} (h : Sm n z d) (h1 : n ≤ m) (h2 : z ≤ y) : Sm m y d := ⟨h.l, Nat.le_trans h.w h1, h.s, h.n, Nat.le_trans h.z h2, h.c⟩
theorem sm_int {i : Int} (h1 : -65535 ≤ i) (h2 : i ≤ 65535) : Sm 17 0 (.int i) := by
  obtain ⟨a, b, c⟩ := int_small h1 h2
  exact ⟨a, b, c, rfl, Nat.le_refl _, rfl⟩
theorem sm_bool {b : Bool} : Sm 17 0 (.bool b) := ⟨rfl, Nat.zero_le _, rfl, rfl, Nat.le_refl _, rfl⟩
theorem sm_all {n z : Nat} : ∀ ds : List PyData, (∀ d ∈ ds, Sm n z d) → PyData.leavesShortAll 13 ds = true ∧ PyData.weightAll ds ≤ (n + 1) * ds.length ∧ PyData.showableAll ds = true ∧ PyData.hasDictAll ds = false ∧ PyData.depthAll ds ≤ z ∧ PyData.canLayAll0 ds = true
  | [], _ => ⟨rfl, Nat.zero_le _, rfl, rfl, Nat.zero_le _, rfl⟩
  | d :: r, h => by
    obtain ⟨a, b, c, e, f, g⟩ := sm_all r fun x hx => h x (List.mem_cons_of_mem _ hx)
    obtain ⟨a', b', c', e', f', g'⟩ := h d List.mem_cons_self
    refine ⟨by simp [PyData.leavesShortAll, a, a'], ?_, by simp [PyData.showableAll, c, c'], by simp [PyData.hasDictAll, e, e'], ?_, by simp [PyData.canLayAll0, g, g']⟩
    · simp only [PyData.weightAll, List.length_cons, Nat.mul_add, Nat.mul_one]
      omega
    · simp only [PyData.depthAll]
      omega
theorem sm_tuple {n z k : Nat} {ds : List PyData} (h : ∀ d ∈ ds, Sm n z d) (hl : ds.length ≤ k) : Sm ((n + 1) * k) (z + 1) (.tuple ds) := by
  obtain ⟨a, b, c, e, f, g⟩ := sm_all ds h
  have hk : (n + 1) * ds.length ≤ (n + 1) * k := Nat.mul_le_mul_left _ hl
  refine ⟨by simpa only [PyData.leavesShort] using a, ?_, by simpa only [PyData.showable] using c, by simpa only [PyData.hasDict] using e, ?_, by simpa only [PyData.canLay0] using g⟩
  · simp only [PyData.weight]
    omega
  · simp only [PyData.depth]
    omega
theorem sm_list {n z k : Nat} {ds : List PyData} (h : ∀ d ∈ ds, Sm n z d) (hl : ds.length ≤ k) : Sm ((n + 1) * k) (z + 1) (.list ds) := by
  obtain ⟨a, b, c, e, f, g⟩ := sm_all ds h
  have hk : (n + 1) * ds.length ≤ (n + 1) * k := Nat.mul_le_mul_left _ hl
  refine ⟨by simpa only [PyData.leavesShort] using a, ?_, by simpa only [PyData.showable] using c, by simpa only [PyData.hasDict] using e, ?_, by simpa only [PyData.canLay0] using g⟩
  · simp only [PyData.weight]
    omega
  · simp only [PyData.depth]
    omega
theorem Sm.repr {n z : Nat} {d : PyData} (h : Sm n z d) (h1 : n ≤ 2 ^ 20) (h2 : z ≤ 60) : d.showable = true ∧ d.hasDict = false ∧ d.depth ≤ 60 ∧ d.shown.length ≤ sizeLine := ⟨h.s, h.n, Nat.le_trans h.z h2, small_fits h.l (Nat.le_trans h.w h1)⟩
theorem Sm.shaped {n z : Nat} {d : PyData} (h : Sm n z d) (h2 : z ≤ 60) : SeqAt.shaped d = true := by
  unfold SeqAt.shaped
  rw [h.c, Bool.true_and, decide_eq_true_eq]
  exact Nat.le_trans h.z (Nat.le_trans h2 (by decide))
theorem sm_none : Sm 17 0 .none := ⟨rfl, Nat.zero_le _, rfl, rfl, Nat.le_refl _, rfl⟩
theorem sm_two : Sm 17 0 (.str "2") := ⟨by decide +kernel, by decide +kernel, rfl, rfl, Nat.le_refl _, by decide +kernel⟩
theorem sm_at {d : PyData} (h : At d) : Sm 17 0 d := by
  rcases h with ⟨i, rfl, h1, h2⟩ | ⟨b, rfl⟩ | rfl | rfl
  · exact sm_int (by omega) (by omega)
  · exact sm_bool
  · exact sm_none
  · exact sm_two
/-- a small item: None, or up to four small values in a list or a tuple -/
def ItS (d : PyData) : Prop := d = .none ∨ (∃ xs, d = .list xs ∧ xs.length ≤ 4 ∧ ∀ x ∈ xs, At x) ∨ ∃ xs, d = .tuple xs ∧ xs.length ≠ 1 ∧ xs.length ≤ 4 ∧ ∀ x ∈ xs, At x
theorem ItS.itm {d : PyData} (h : ItS d) : Itm d := by
  rcases h with z | ⟨xs, z, _⟩ | ⟨xs, z, a, _, b⟩
  · exact .inl z
  · exact .inr (.inl ⟨xs, z⟩)
  · exact .inr (.inr ⟨xs, z, a, b⟩)
theorem ItS.sm {d : PyData} (h : ItS d) : Sm 72 1 d := by
  rcases h with rfl | ⟨xs, rfl, l, a⟩ | ⟨xs, rfl, _, l, a⟩
  · exact sm_none.mono (by decide) (by decide)
  · exact sm_list (n := 17) (z := 0) (k := 4) (fun d hd => sm_at (a d hd)) l
  · exact sm_tuple (n := 17) (z := 0) (k := 4) (fun d hd => sm_at (a d hd)) l
theorem its_bk {b : Bk} (s : Sml b) : ItS (bkD b) := .inr (.inr ⟨_, rfl, by show ¬ 3 = 1; decide, by show 3 ≤ 4; decide, fun x hx => by
  simp only [List.mem_cons, List.not_mem_nil, or_false] at hx
  rcases hx with rfl | rfl | rfl
  · exact at_nat s.t
  · exact at_nat s.l
  · exact at_nat s.s⟩)
theorem vb_sml {h w : Nat} {b : Bk} (v : Vb h w b) (hh : h ≤ 16) (hw : w ≤ 16) : Sml b := by
  have := v.lt
  have := v.ll
  have := v.s
  exact ⟨by omega, by omega, by omega⟩
/-- repr of data, or of None -/
def rReprA (K : PySem.W.Frag) : List V → Hp → VK → Prop := fun xs H Q => ∃ (x : V) (d : PyData), xs = [x] ∧ ((∃ p, x = .ref p) ∨ x = .non) ∧ Dp K H x d ∧ d.showable = true ∧ d.hasDict = false ∧ d.depth ≤ 60 ∧ d.shown.length ≤ sizeLine ∧ Q (.str d.shown) H
theorem call_reprA {X : Cx} {k : Nat} (hg : X.A.guards = some []) (hr : Room k X.A) : CallR X (.builtin "repr") (rReprA X.K) := by
  intro pins s σ H xs us Q I r h
  obtain ⟨x, d, rfl, kind, hd, hs, hn, hz, hl, q⟩ := h
  rcases kind with ⟨p, rfl⟩ | rfl
  · exact call_repr hg hr pins s σ H [.ref p] us Q I r ⟨p, d, rfl, hd, hs, hn, hz, hl, q⟩
  · obtain ⟨u1, rfl, r1⟩ := vals1 r
    cases (show u1 = Value.none from r1)
    cases hd
    refine PySem.P.repr_of_none ⟨.str "None", H, I.tok _, ⟨_, rfl⟩, ?_⟩
    rw [PyData.shown_none] at q
    exact q
theorem sm_repr {K : PySem.W.Frag} {H : Hp} {x : V} {d : PyData} {n z : Nat} {Q : VK} (kind : (∃ p, x = .ref p) ∨ x = .non) (hd : Dp K H x d) (s : Sm n z d) (h1 : n ≤ 2 ^ 20) (h2 : z ≤ 60) (q : Q (.str d.shown) H) : rReprA K [x] H Q := by
  obtain ⟨a, b, c, e⟩ := s.repr h1 h2
  exact ⟨x, d, rfl, kind, hd, a, b, c, e, q⟩
end K04
namespace K04
open PySem PySem.Spec PyProof.Rows L2 PySem.W LamX KA KW KU KL KT
open Evl (pss_cut tCut)
/-! ### the law's own word whether an item is a block -/
/-- an item: as a row and as data -/
structure ItV (K : PySem.W.Frag) (H : Hp) (x : V) (o : Option (List V)) (d : PyData) : Prop where
  r : Rw K H x o
  k : (∃ p, x = .ref p) ∨ x = .non
  dp : Dp K H x d
  s : ItS d
  e : ∀ b, d = bkD b ↔ o = some (bkV b)
def bkS (b : Bk) : V := .str (bkD b).shown
theorem inV_bk {K : PySem.W.Frag} {H : Hp} {x : V} {o : Option (List V)} {d : PyData} {h w : Nat} {bs : List Bk} (I : ItV K H x o d) (pm : bs.Perm (everyL h w)) (hh : h ≤ 16) (hw : w ≤ 16) : inV (.str d.shown) (bs.map bkS) = blkB h w o := by
  rw [Bool.eq_iff_iff, blkB_iff]
  unfold inV
  rw [List.any_eq_true]
  constructor
  · rintro ⟨y, hy, e⟩
    obtain ⟨b, hb, rfl⟩ := List.mem_map.mp hy
    have v := every_mem.mp (pm.mem_iff.mp hb)
    have e : (bkD b).shown = d.shown := of_decide_eq_true e
    have := (shown_bk I.s.itm (vb_sml v hh hw)).mp e.symm
    exact ⟨b, v, (I.e b).mp this⟩
  · rintro ⟨b, v, e⟩
    refine ⟨bkS b, List.mem_map.mpr ⟨b, pm.mem_iff.mpr (every_mem.mpr v), rfl⟩, ?_⟩
    have := (I.e b).mpr e
    rw [this]
    show decide ((bkD b).shown = (bkD b).shown) = true
    exact decide_eq_true rfl
def spIsSq (K : PySem.W.Frag) : Sp := fun vs H Q _ => ∃ (a : Addr) (h w : Nat) (x : V) (o : Option (List V)) (d : PyData), vs = [.ref a, x] ∧ ScW H a h w ∧ ItV K H x o d ∧ ∀ H', Same H H' → Q (.bl (blkB h w o)) H'
section
variable {P : Program} {w : World} {K : PySem.W.Frag} {mg : Str → Option Value} {base : Heap} (T : Top K mg)
theorem ok_is_sq : FnG P w K mg base (L2.CX P w) 3 T._law_is_square.a T._law_is_square.d ["scope", "item"] (spIsSq K) := by
  refine fnG_of T._law_is_square.f sc__law_is_square (fun vs H Q E h => ?_) (fun cdv A outer s H vs Q E hr hg h => ?_)
  · obtain ⟨a, h, w, x, o, d, rfl, _⟩ := h
    rfl
  · obtain ⟨a, h, wn, x, o, d, rfl, sc, I, k⟩ := h
    refine ⟨_, pss_one (ps_ret (pe_cmpR op_in_seq (pe_callB (call_reprA hg hr) (by rfl) T.b_repr (by decide +kernel) (pa_cons (pv 1) pa_nil))
      (pe_lc (own := [("square", 2)]) (g := gName 2) (tt := tYes) rfl sc__law_is_square.nd (pi_list (pe_call (ok_lsquares T) (hr.mono (by decide)) (by rfl) T._law_squares.m T._law_squares.f.kp (bd__law_squares T) .nil passE (pa_cons (pv 0) pa_nil))) (blkOk_by (own := [("square", 2)]) (N := ["scope", "item", "square"]) (sc := defScope s__law_is_square) (by decide +kernel))
        (fun _ _ _ _ _ => pg_name (i := 2) sc__law_is_square.nd rfl (Or.inl rfl)) (fun _ _ _ _ _ => pts_nil) (fun _ _ _ _ _ => pe_callB (show CallR _ _ (rReprA K) from call_reprA hg hr) (by rfl) T.b_repr (by decide +kernel) (pa_cons (pv 2) pa_nil))) (by rfl))), ?_⟩
    have hb := sc.b
    refine ⟨_, rfl, ?_⟩
    show tNil _ H _
    unfold tNil
    show rReprA K [x] H _
    refine sm_repr I.k I.dp I.s.sm (by decide) (by decide) ?_
    refine ⟨_, rfl, a, h, wn, rfl, sc, fun q us bs H1 s1 nq lq rl pm => ?_⟩
    refine ⟨q, rfl, ⟨_, SqL.of lq⟩, fun D hD => lc_it walk_list (fun i H' => H' D = some (.lst ((bs.take i).map bkS)) ∧ Same H1 H') ⟨upd_same, Same.new hD⟩ (fun _ H' _ q' => SqL.of (q'.2 _ _ lq)) ?_ ?_⟩
    · rintro i y H4 H3 hi ⟨ed, s3⟩ ⟨rfl, hx⟩
      obtain ⟨pb, b, rfl, hb', eb⟩ := (rl.same s3).get hx
      have v := every_mem.mp (pm.mem_iff.mp (List.mem_of_getElem? hb'))
      refine ⟨rfl, ?_⟩
      dsimp only [tYes]
      rw [if_pos rfl]
      refine ⟨_, rfl, ?_⟩
      show rReprA K [.ref pb] H3 _
      refine sm_repr (.inl ⟨_, rfl⟩) (dp_bk eb) (its_bk (vb_sml v hb.2.1 hb.2.2.2)).sm (by decide) (by decide) ?_
      have bl := pm.length_eq
      have e84 := every_len (h := h) (w := wn) hb.2.1 hb.2.2.2
      have s84 : 84 < sizeLine := by decide
      refine ⟨_, ed, ?_, ?_, K04.Same.put s3 hD⟩
      · rw [List.length_map, List.length_take]
        exact Nat.lt_of_le_of_lt (show _ ≤ 84 by omega) s84
      · rw [upd_same, List.take_add_one, hb', List.map_append]
        rfl
    · rintro H4 ⟨ed, s4⟩
      rw [List.take_of_length_le (by rw [rl.1]; exact Nat.le_refl _)] at ed
      refine ⟨D, _, rfl, .inl (SqL.of ed), rfl, ?_, ?_⟩
      · rw [List.all_eq_true]
        intro y hy
        obtain ⟨b, _, rfl⟩ := List.mem_map.mp hy
        rfl
      · show Q (.bl (inV (.str d.shown) (bs.map bkS))) H4
        rw [inV_bk I pm hb.2.1 hb.2.2.2]
        exact k H4 (s1.trans s4)
end
end K04
namespace K04
open PySem PySem.Spec PyProof.Rows L2 PySem.W LamX KA KW KU KL KT
open Evl (pss_cut tCut)
/-! ### the law's own word whether an item is a cover -/
inductive CvI (K : PySem.W.Frag) (H : Hp) : V → Option (List (Option (List V))) → Prop
  | no {x : V} (t : Nl H x) : CvI K H x none
  | some {q : Addr} {us : List V} {os : List (Option (List V))} (e : H q = some (.lst us) ∨ H q = some (.tup us)) (l : us.length = os.length) (r : ∀ (i : Nat) (v : V), us[i]? = some v → ∃ o d, os[i]? = some o ∧ ∀ H', Same H H' → ItV K H' v o d) : CvI K H (.ref q) (some os)
theorem CvI.keep {K : PySem.W.Frag} {H H' : Hp} {x : V} {cv : Option (List (Option (List V)))} (c : CvI K H x cv) (s : Same H H') : CvI K H' x cv := by
  cases c with
  | no t => exact .no (t.keep s)
  | some e l r =>
    exact .some (e.imp (fun e => s _ _ e) fun e => s _ _ e) l fun i v hv => by
      obtain ⟨o, d, a, b⟩ := r i v hv
      exact ⟨o, d, a, fun H2 s2 => b H2 (s.trans s2)⟩
theorem CvI.t {K : PySem.W.Frag} {H : Hp} {x : V} {cv : Option (List (Option (List V)))} (c : CvI K H x cv) : CvT K H x cv := by
  cases c with
  | no t => exact .no t
  | some e l r =>
    exact .some e ⟨l, fun i v hv => by
      obtain ⟨o, d, a, b⟩ := r i v hv
      exact ⟨o, a, (b H (Same.refl _)).r⟩⟩
/-- one value more -/
theorem cover_no {h w r : Nat} {o : Option (List V)} {os : List (Option (List V))} (c : blkB h w o = false) : coverR h w r (o :: os) = false := by
  show (if decide (r = (cellsL h w).length) = true ∨ blkB h w o = false then false else _) = false
  rw [if_pos (.inr c)]
theorem cover_off {h w r : Nat} {b : Bk} {os : List (Option (List V))} (v : Vb h w b) (c : placeB h w b ≠ r) : coverR h w r (some (bkV b) :: os) = false := by
  show (if decide (r = (cellsL h w).length) = true ∨ blkB h w (some (bkV b)) = false then false else if (cellsL h w)[r]? = some ⟨b.t, b.l, 2⟩ then _ else false) = false
  rw [if_neg (fun z => c ((cover_place v).mp z))]
  split <;> rfl
theorem cover_on {h w : Nat} {b : Bk} {os : List (Option (List V))} (v : Vb h w b) : coverR h w (placeB h w b) (some (bkV b) :: os) = coverR h w (placeB h w b + manyC h w b) os := by
  show (if decide (placeB h w b = (cellsL h w).length) = true ∨ blkB h w (some (bkV b)) = false then false else if (cellsL h w)[placeB h w b]? = some ⟨b.t, b.l, 2⟩ then coverR h w (placeB h w b + manyC h w b) os else false) = _
  have p1 := place_le v
  have p2 := many_pos v
  have bt : blkB h w (some (bkV b)) = true := blkB_iff.mpr ⟨b, v, rfl⟩
  rw [if_neg (by rw [bt, decide_eq_true_eq]; rintro (z | z); omega; cases z), if_pos ((cover_place v).mpr rfl)]
def spCovers (K : PySem.W.Frag) : Sp := fun vs H Q _ => ∃ (a : Addr) (h w : Nat) (x : V) (cv : Option (List (Option (List V)))), vs = [.ref a, x] ∧ ScW H a h w ∧ CvI K H x cv ∧ ∀ H', Same H H' → Q (.bl (cvB h w cv)) H'
section
variable {P : Program} {w : World} {K : PySem.W.Frag} {mg : Str → Option Value} {base : Heap} (T : Top K mg)
theorem ok_covers : FnG P w K mg base (L2.CX P w) 8 T._law_covers.a T._law_covers.d ["scope", "item"] (spCovers K) := by
  refine fnG_of T._law_covers.f sc__law_covers (fun vs H Q E h => ?_) (fun cdv A outer s H vs Q E hr hg h => ?_)
  · obtain ⟨a, h, w, x, cv, rfl, _⟩ := h
    rfl
  · obtain ⟨a, h, wn, x, cv, rfl, sc, hcv, k⟩ := h
    refine ⟨_, pss_cons (ps_par (i := 2) (j := 3) rfl sc__law_covers.nd rfl rfl (by decide) rfl rfl (pa_cons (pe_call (ok_lsquares T) (hr.mono (by decide)) (by rfl) T._law_squares.m T._law_squares.f.kp (bd__law_squares T) .nil passE (pa_cons (pv 0) pa_nil)) (pa_cons pe_int pa_nil)) (by rfl))
      (pss_cons (ps_if (pt_not (pt_val (pe_callB call_isiT (by rfl) T.b_isinstance PyProof.Rows.boot_isinstance (pa_cons (pv 1) (pa_cons (pe_tup (pa_cons (pe_bltn (v := .ty "list") (by rfl) T.b_list (by decide +kernel) rfl) (pa_cons (pe_bltn (v := .ty "tuple") (by rfl) T.b_tuple (by decide +kernel) rfl) pa_nil))) pa_nil))))) (pss_one (ps_ret pe_bl)) pss_nil)
      (pss_cons (ps_for (passes_of rfl) rfl (pi_or (pi_list (pv 1)) (pi_tup (pv 1))) (pg_name (i := 4) sc__law_covers.nd rfl (.inl rfl))
        (pss_cons (ps_if (PW.pt (pw_or (pt_cmpR op_notIn_seq (pe_callB (call_reprA hg hr) (by rfl) T.b_repr (by decide +kernel) (pa_cons (pv 4) pa_nil))
            (pe_lc (own := [("one", 5)]) (g := gName 5) (tt := tYes) rfl sc__law_covers.nd (pi_list (pv 2)) (blkOk_by (own := [("one", 5)]) (N := ["scope", "item", "every", "spot", "square", "one"]) (sc := defScope s__law_covers) (by decide +kernel))
              (fun _ _ _ _ _ => pg_name (i := 5) sc__law_covers.nd rfl (Or.inl rfl)) (fun _ _ _ _ _ => pts_nil) (fun _ _ _ _ _ => pe_callB (show CallR _ _ (rReprA K) from call_reprA hg hr) (by rfl) T.b_repr (by decide +kernel) (pa_cons (pv 5) pa_nil))) (by rfl))
          (pw_or1 (pt_cmpR op_ne (pe_ix ix_tup (pe_call (ok_ends T) (hr.mono (by decide)) (by rfl) T._law_ends.m T._law_ends.f.kp (bd__law_ends T) .nil passE (pa_cons (pv 0) (pa_cons (pv 4) pa_nil))) pe_int (fun _ _ => rfl)) (pv 3) (nomark _))))) (pss_one (ps_ret pe_bl)) pss_nil)
        (pss_one (ps_set (i := 3) sc__law_covers.nd rfl (.inl rfl) (pe_ix ix_tup (pe_call (ok_ends T) (hr.mono (by decide)) (by rfl) T._law_ends.m T._law_ends.f.kp (bd__law_ends T) .nil passE (pa_cons (pv 0) (pa_cons (pv 4) pa_nil))) pe_int (fun _ _ => rfl))))))
      (pss_one (ps_ret (pe_cmpR op_eq (pv 3) (pe_callB call_len_seq (by rfl) T.b_len PySem.boot_len (pa_cons (pe_call (ok_lall T) (hr.mono (by decide)) (by rfl) T._law_all_cells.m T._law_all_cells.f.kp (bd__law_all_cells T) .nil passE (pa_cons (pv 0) pa_nil)) pa_nil)) (nomark _)))))), ?_⟩
    have hb := sc.b
    have scN : ∀ i j : Nat, decide (V.int ((i : Nat) : Int) = V.int ((j : Nat) : Int)) = decide (i = j) := fun i j => decide_eq_decide.mpr ⟨fun z => by have := V.int.inj z; omega, fun z => by rw [z]⟩
    refine ⟨_, rfl, a, h, wn, rfl, sc, fun qe ue bs H1 s1 nq lq rl pm => ⟨_, _, rfl, ?_⟩⟩
    have hcv := hcv.keep s1
    have sc := sc.keep s1
    have k : ∀ H', Same H1 H' → Q (.bl (cvB h wn cv)) H' := fun H' s => k H' (s1.trans s)
    refine ⟨_, rfl, (by show 2 ≤ sizeLine; decide), fun z hz => ?_⟩
    have tz := Same.new (o := .tup [V.ty "list", .ty "tuple"]) hz
    have ez : (upd H1 z (.tup [V.ty "list", .ty "tuple"])) z = some (.tup [V.ty "list", .ty "tuple"]) := upd_same
    generalize upd H1 z (.tup [V.ty "list", .ty "tuple"]) = H2 at tz ez ⊢
    have hcv := hcv.keep tz
    have sc := sc.keep tz
    have k : ∀ H', Same H2 H' → Q (.bl (cvB h wn cv)) H' := fun H' s => k H' (tz.trans s)
    have lq := tz _ _ lq
    have rl := rl.same tz
    clear tz s1 nq
    cases hcv with
    | no n =>
      obtain ⟨t, ht, e1, e2⟩ := n.ty (K := K)
      refine ⟨_, z, _, _, _, _, rfl, ez, .cons (.ty "list") (.cons (.ty "tuple") .nil), ht, kit_two e1 e2, _, rfl, ?_⟩
      exact iteT (k _ (Same.refl _))
    | @some q us os e l r =>
      rcases e with eq | eq
      · refine ⟨.ref q, z, _, _, _, _, rfl, ez, .cons (.ty "list") (.cons (.ty "tuple") .nil), .base (.lst eq), kit_two (x := true) (y := false) (by decide +kernel) (by decide +kernel), _, rfl, ?_⟩
        refine iteF (.inl ⟨_, rfl, q, rfl, ⟨_, SqL.of eq⟩, for_it walk_list (fun n σ H' => ∃ (r' : Nat) (v4 : Option V), σ = [some (.ref a), some (.ref q), some (.ref qe), some (.int ((r' : Nat) : Int)), v4, none] ∧ Same H2 H' ∧ coverR h wn 0 os = coverR h wn r' (os.drop n)) ⟨0, none, rfl, Same.refl _, rfl⟩ (fun _ _ H' _ q' => by
          obtain ⟨_, _, _, s, _⟩ := q'
          exact SqL.of (s _ _ eq)) ?_ fun σ H' q' => ?_⟩)
        · rintro n v σ H4 H3 hn ⟨r', v4, rfl, s3, e⟩ ⟨rfl, hv⟩
          obtain ⟨o, d, ho, it⟩ := r n v hv
          have I := it H3 s3
          have dr : os.drop n = o :: os.drop (n + 1) := by
            rw [← List.getElem_cons_drop (List.getElem?_eq_some_iff.mp ho).1]
            rw [(List.getElem?_eq_some_iff.mp ho).2]
          rw [dr] at e
          have lq3 := s3 _ _ lq
          have rl3 := rl.same s3
          refine ⟨_, rfl, ?_⟩
          show tNil _ H3 _
          unfold tNil
          show rReprA K [v] H3 _
          refine sm_repr I.k I.dp I.s.sm (by decide) (by decide) ?_
          refine ⟨_, rfl, qe, rfl, ⟨_, SqL.of lq3⟩, fun D hD => lc_it walk_list (fun i H' => H' D = some (.lst ((bs.take i).map bkS)) ∧ Same H3 H') ⟨upd_same, Same.new hD⟩ (fun _ H' _ q' => SqL.of (q'.2 _ _ lq3)) ?_ ?_⟩
          · rintro i y H5 H4 hi ⟨ed, s4⟩ ⟨rfl, hx⟩
            obtain ⟨pb, b, rfl, hb', eb⟩ := (rl3.same s4).get hx
            have vb := every_mem.mp (pm.mem_iff.mp (List.mem_of_getElem? hb'))
            refine ⟨rfl, ?_⟩
            dsimp only [tYes]
            rw [if_pos rfl]
            refine ⟨_, rfl, ?_⟩
            show rReprA K [.ref pb] H4 _
            refine sm_repr (.inl ⟨_, rfl⟩) (dp_bk eb) (its_bk (vb_sml vb hb.2.1 hb.2.2.2)).sm (by decide) (by decide) ?_
            have bl := pm.length_eq
            have e84 := every_len (h := h) (w := wn) hb.2.1 hb.2.2.2
            have s84 : 84 < sizeLine := by decide
            refine ⟨_, ed, ?_, ?_, K04.Same.put s4 hD⟩
            · rw [List.length_map, List.length_take]
              exact Nat.lt_of_le_of_lt (show _ ≤ 84 by omega) s84
            · rw [upd_same, List.take_add_one, hb', List.map_append]
              rfl
          rintro H4 ⟨ed, s4⟩
          rw [List.take_of_length_le (by rw [rl.1]; exact Nat.le_refl _)] at ed
          refine ⟨D, _, rfl, .inl (SqL.of ed), rfl, ?_, ?_⟩
          · rw [List.all_eq_true]
            intro y hy
            obtain ⟨b, _, rfl⟩ := List.mem_map.mp hy
            rfl
          refine ⟨!inV (.str d.shown) (bs.map bkS), rfl, ?_⟩
          rw [inV_bk I pm hb.2.1 hb.2.2.2]
          have s24 := s3.trans s4
          cases c2 : blkB h wn o
          · rw [cover_no c2] at e
            refine iteT (iteT (q_bl (k H4 s24) ?_))
            exact e.symm
          obtain ⟨b, vb, rfl⟩ := blkB_iff.mp c2
          obtain ⟨pb, rfl, eb⟩ := rw_bk (it H4 s24).r
          refine iteF ⟨_, rfl, _, rfl, a, pb, b, h, wn, rfl, sc.keep s24, eb, vb, fun qd H5 s5 ed5 => ⟨qd, _, 0, _, rfl, rfl, SqT.of ed5, atI_nat (j := 0) rfl, _, rfl, rfl, _, rfl, ?_⟩⟩
          have s25 := s24.trans s5
          by_cases c3 : placeB h wn b = r'
          case neg =>
            rw [cover_off vb c3] at e
            rw [scN, decide_eq_false c3]
            exact iteT (q_bl (k H5 s25) e.symm)
          subst c3
          rw [cover_on vb] at e
          rw [scN, decide_eq_true rfl]
          refine iteF ⟨_, rfl, _, rfl, a, pb, b, h, wn, rfl, sc.keep s25, s5 _ _ eb, vb, fun qd H6 s6 ed6 => ⟨qd, _, 1, _, rfl, rfl, SqT.of ed6, atI_nat (j := 1) rfl, ?_⟩⟩
          refine ⟨placeB h wn b + manyC h wn b, some (.ref pb), ?_, s25.trans s6, e⟩
          rw [Int.natCast_add]
          rfl
        · obtain ⟨r', v4, rfl, s3, e⟩ := q'
          rw [List.drop_of_length_le (by rw [l]; exact Nat.le_refl _)] at e
          refine ⟨_, rfl, _, rfl, a, h, wn, rfl, sc.keep s3, fun qc uc H4 s4 nqc lqc rc => ⟨qc, uc, rfl, .inl (SqL.of lqc), rfl, ?_⟩⟩
          refine q_bl (k H4 (s3.trans s4)) ?_
          rw [rc.1, scN]
          exact e.symm
      · refine ⟨.ref q, z, _, _, _, _, rfl, ez, .cons (.ty "list") (.cons (.ty "tuple") .nil), .base (.tup eq), kit_two (x := false) (y := true) (by decide +kernel) (by decide +kernel), _, rfl, ?_⟩
        refine iteF (.inr ⟨_, rfl, q, rfl, ⟨_, SqT.of eq⟩, for_it walk_tup (fun n σ H' => ∃ (r' : Nat) (v4 : Option V), σ = [some (.ref a), some (.ref q), some (.ref qe), some (.int ((r' : Nat) : Int)), v4, none] ∧ Same H2 H' ∧ coverR h wn 0 os = coverR h wn r' (os.drop n)) ⟨0, none, rfl, Same.refl _, rfl⟩ (fun _ _ H' _ q' => by
          obtain ⟨_, _, _, s, _⟩ := q'
          exact SqT.of (s _ _ eq)) ?_ fun σ H' q' => ?_⟩)
        · rintro n v σ H4 H3 hn ⟨r', v4, rfl, s3, e⟩ ⟨rfl, hv⟩
          obtain ⟨o, d, ho, it⟩ := r n v hv
          have I := it H3 s3
          have dr : os.drop n = o :: os.drop (n + 1) := by
            rw [← List.getElem_cons_drop (List.getElem?_eq_some_iff.mp ho).1]
            rw [(List.getElem?_eq_some_iff.mp ho).2]
          rw [dr] at e
          have lq3 := s3 _ _ lq
          have rl3 := rl.same s3
          refine ⟨_, rfl, ?_⟩
          show tNil _ H3 _
          unfold tNil
          show rReprA K [v] H3 _
          refine sm_repr I.k I.dp I.s.sm (by decide) (by decide) ?_
          refine ⟨_, rfl, qe, rfl, ⟨_, SqL.of lq3⟩, fun D hD => lc_it walk_list (fun i H' => H' D = some (.lst ((bs.take i).map bkS)) ∧ Same H3 H') ⟨upd_same, Same.new hD⟩ (fun _ H' _ q' => SqL.of (q'.2 _ _ lq3)) ?_ ?_⟩
          · rintro i y H5 H4 hi ⟨ed, s4⟩ ⟨rfl, hx⟩
            obtain ⟨pb, b, rfl, hb', eb⟩ := (rl3.same s4).get hx
            have vb := every_mem.mp (pm.mem_iff.mp (List.mem_of_getElem? hb'))
            refine ⟨rfl, ?_⟩
            dsimp only [tYes]
            rw [if_pos rfl]
            refine ⟨_, rfl, ?_⟩
            show rReprA K [.ref pb] H4 _
            refine sm_repr (.inl ⟨_, rfl⟩) (dp_bk eb) (its_bk (vb_sml vb hb.2.1 hb.2.2.2)).sm (by decide) (by decide) ?_
            have bl := pm.length_eq
            have e84 := every_len (h := h) (w := wn) hb.2.1 hb.2.2.2
            have s84 : 84 < sizeLine := by decide
            refine ⟨_, ed, ?_, ?_, K04.Same.put s4 hD⟩
            · rw [List.length_map, List.length_take]
              exact Nat.lt_of_le_of_lt (show _ ≤ 84 by omega) s84
            · rw [upd_same, List.take_add_one, hb', List.map_append]
              rfl
          rintro H4 ⟨ed, s4⟩
          rw [List.take_of_length_le (by rw [rl.1]; exact Nat.le_refl _)] at ed
          refine ⟨D, _, rfl, .inl (SqL.of ed), rfl, ?_, ?_⟩
          · rw [List.all_eq_true]
            intro y hy
            obtain ⟨b, _, rfl⟩ := List.mem_map.mp hy
            rfl
          refine ⟨!inV (.str d.shown) (bs.map bkS), rfl, ?_⟩
          rw [inV_bk I pm hb.2.1 hb.2.2.2]
          have s24 := s3.trans s4
          cases c2 : blkB h wn o
          · rw [cover_no c2] at e
            refine iteT (iteT (q_bl (k H4 s24) ?_))
            exact e.symm
          obtain ⟨b, vb, rfl⟩ := blkB_iff.mp c2
          obtain ⟨pb, rfl, eb⟩ := rw_bk (it H4 s24).r
          refine iteF ⟨_, rfl, _, rfl, a, pb, b, h, wn, rfl, sc.keep s24, eb, vb, fun qd H5 s5 ed5 => ⟨qd, _, 0, _, rfl, rfl, SqT.of ed5, atI_nat (j := 0) rfl, _, rfl, rfl, _, rfl, ?_⟩⟩
          have s25 := s24.trans s5
          by_cases c3 : placeB h wn b = r'
          case neg =>
            rw [cover_off vb c3] at e
            rw [scN, decide_eq_false c3]
            exact iteT (q_bl (k H5 s25) e.symm)
          subst c3
          rw [cover_on vb] at e
          rw [scN, decide_eq_true rfl]
          refine iteF ⟨_, rfl, _, rfl, a, pb, b, h, wn, rfl, sc.keep s25, s5 _ _ eb, vb, fun qd H6 s6 ed6 => ⟨qd, _, 1, _, rfl, rfl, SqT.of ed6, atI_nat (j := 1) rfl, ?_⟩⟩
          refine ⟨placeB h wn b + manyC h wn b, some (.ref pb), ?_, s25.trans s6, e⟩
          rw [Int.natCast_add]
          rfl
        · obtain ⟨r', v4, rfl, s3, e⟩ := q'
          rw [List.drop_of_length_le (by rw [l]; exact Nat.le_refl _)] at e
          refine ⟨_, rfl, _, rfl, a, h, wn, rfl, sc.keep s3, fun qc uc H4 s4 nqc lqc rc => ⟨qc, uc, rfl, .inl (SqL.of lqc), rfl, ?_⟩⟩
          refine q_bl (k H4 (s3.trans s4)) ?_
          rw [rc.1, scN]
          exact e.symm
end
end K04
namespace K04
open PySem PySem.Spec PyProof.Rows L2 PySem.W LamX KA KW KU KL KT
open Evl (pss_cut tCut)
/-! ### items of any kind -/
def dV : V → PyData
  | .int i => .int i
  | .bl b => .bool b
  | .str s => .str s
  | _ => .none
/-- a small number, a bool, None, or the text 2 -/
def AtV (x : V) : Prop := (∃ i : Int, x = .int i ∧ -8 ≤ i ∧ i ≤ 16) ∨ (∃ b, x = .bl b) ∨ x = .non ∨ x = .str "2"
theorem AtV.at_ {x : V} (h : AtV x) : At (dV x) := by
  rcases h with ⟨i, rfl, h1, h2⟩ | ⟨b, rfl⟩ | rfl | rfl
  · exact .inl ⟨i, rfl, h1, h2⟩
  · exact .inr (.inl ⟨b, rfl⟩)
  · exact .inr (.inr (.inl rfl))
  · exact .inr (.inr (.inr rfl))
theorem AtV.dp {K : PySem.W.Frag} {H : Hp} {x : V} (h : AtV x) : Dp K H x (dV x) := by
  rcases h with ⟨i, rfl, h1, h2⟩ | ⟨b, rfl⟩ | rfl | rfl
  · exact .int i
  · exact .bl b
  · exact .non
  · exact .str _
theorem AtV.pl {K : PySem.W.Frag} {H : Hp} {x : V} (h : AtV x) : ∃ b, Pl K H x b := by
  rcases h with ⟨i, rfl, h1, h2⟩ | ⟨b, rfl⟩ | rfl | rfl
  · exact ⟨_, .int i⟩
  · exact ⟨_, .bl b⟩
  · exact ⟨_, .non⟩
  · exact ⟨_, .str _⟩
theorem AtV.int {x : V} {j : Int} (h : AtV x) (e : dV x = .int j) : x = .int j := by
  rcases h with ⟨i, rfl, h1, h2⟩ | ⟨b, rfl⟩ | rfl | rfl
  · cases e; rfl
  · cases e
  · cases e
  · cases e
theorem atv_dps {K : PySem.W.Frag} {H : Hp} : ∀ {xs : List V}, (∀ x ∈ xs, AtV x) → DpAll K H xs (xs.map dV)
  | [], _ => .nil
  | x :: xs, h => .cons (h x List.mem_cons_self).dp (atv_dps fun y hy => h y (List.mem_cons_of_mem _ hy))
theorem atv_int {i : Int} (h1 : -8 ≤ i) (h2 : i ≤ 16) : AtV (.int i) := .inl ⟨i, rfl, h1, h2⟩
theorem atv_nat {n : Nat} (h : n ≤ 16) : AtV (.int (n : Int)) := atv_int (by omega) (by omega)
theorem it_tup {K : PySem.W.Frag} {H : Hp} {p : Addr} {xs : List V} (e : H p = some (.tup xs)) (l1 : xs.length ≠ 1) (l4 : xs.length ≤ 4) (h : ∀ x ∈ xs, AtV x) : ItV K H (.ref p) (some xs) (.tuple (xs.map dV)) := by
  refine ⟨.tup e (fun x hx => (h x hx).pl) (by omega), .inl ⟨p, rfl⟩, .tup (SqT.of e) (atv_dps h), .inr (.inr ⟨_, rfl, by rw [List.length_map]; exact l1, by rw [List.length_map]; exact l4, fun d hd => ?_⟩), fun b => ⟨fun z => ?_, fun z => ?_⟩⟩
  · obtain ⟨x, hx, rfl⟩ := List.mem_map.mp hd
    exact (h x hx).at_
  · have z2 : xs.map dV = [PyData.int (b.t : Int), .int (b.l : Int), .int (b.s : Int)] := PyData.tuple.inj z
    have l3 := congrArg List.length z2
    rw [List.length_map] at l3
    match xs, l3, h, z2 with
    | [x, y, w], _, h, z2 =>
      simp only [List.map_cons, List.map_nil, List.cons.injEq, and_true] at z2
      obtain ⟨a1, a2, a3⟩ := z2
      rw [(h x (by simp)).int a1, (h y (by simp)).int a2, (h w (by simp)).int a3]
      rfl
  · rw [Option.some.inj z]
    rfl
theorem it_lst {K : PySem.W.Frag} {H : Hp} {p : Addr} {xs : List V} (e : H p = some (.lst xs)) (l4 : xs.length ≤ 4) (h : ∀ x ∈ xs, AtV x) : ItV K H (.ref p) none (.list (xs.map dV)) := by
  refine ⟨.no (.lst e), .inl ⟨p, rfl⟩, .lst (SqL.of e) (atv_dps h), .inr (.inl ⟨_, rfl, by rw [List.length_map]; exact l4, fun d hd => ?_⟩), fun b => ⟨fun z => ?_, fun z => ?_⟩⟩
  · obtain ⟨x, hx, rfl⟩ := List.mem_map.mp hd
    exact (h x hx).at_
  · cases z
  · cases z
theorem it_non {K : PySem.W.Frag} {H : Hp} : ItV K H .non none .none := ⟨.no .non, .inr rfl, .non, .inl rfl, fun b => ⟨fun z => (by cases z), fun z => (by cases z)⟩⟩
/-- an item that stays -/
def EI (K : PySem.W.Frag) (H : Hp) (v : V) : Prop := ∃ o d, ∀ H', Same H H' → ItV K H' v o d
theorem ei_tup {K : PySem.W.Frag} {H : Hp} {p : Addr} {xs : List V} (e : H p = some (.tup xs)) (l1 : xs.length ≠ 1) (l4 : xs.length ≤ 4) (h : ∀ x ∈ xs, AtV x) : EI K H (.ref p) := ⟨_, _, fun H' s => it_tup (s _ _ e) l1 l4 h⟩
theorem ei_lst {K : PySem.W.Frag} {H : Hp} {p : Addr} {xs : List V} (e : H p = some (.lst xs)) (l4 : xs.length ≤ 4) (h : ∀ x ∈ xs, AtV x) : EI K H (.ref p) := ⟨_, _, fun H' s => it_lst (s _ _ e) l4 h⟩
theorem ei_non {K : PySem.W.Frag} {H : Hp} : EI K H .non := ⟨_, _, fun H' s => it_non⟩
theorem bk_atv {b : Bk} (s : Sml b) : ∀ x ∈ bkV b, AtV x := fun x hx => by
  unfold bkV at hx
  simp only [List.mem_cons, List.not_mem_nil, or_false] at hx
  rcases hx with rfl | rfl | rfl
  · exact atv_nat s.t
  · exact atv_nat s.l
  · exact atv_nat s.s
/-- a block's tuple -/
def BkE (H : Hp) (v : V) : Prop := ∃ p b, v = .ref p ∧ H p = some (.tup (bkV b)) ∧ Sml b
theorem BkE.tp {H H' : Hp} {v : V} (e : BkE H v) (t : Tp H H') : BkE H' v := by
  obtain ⟨p, b, a, c, d⟩ := e
  exact ⟨p, b, a, t _ _ c, d⟩
theorem BkE.ei {K : PySem.W.Frag} {H : Hp} {v : V} (e : BkE H v) : EI K H v := by
  obtain ⟨p, b, rfl, c, d⟩ := e
  exact ei_tup c (by show ¬ 3 = 1; decide) (by show 3 ≤ 4; decide) (bk_atv d)
theorem rl_bke {h w : Nat} {H : Hp} {us : List V} {bs : List Bk} (r : RL bkV H us bs) (v : ∀ b ∈ bs, Vb h w b) (hh : h ≤ 16) (hw : w ≤ 16) : ∀ u ∈ us, BkE H u := fun u hu => by
  obtain ⟨i, hi, e⟩ := List.mem_iff_getElem.mp hu
  obtain ⟨p, b, rfl, hb, eb⟩ := r.get (i := i) (by rw [List.getElem?_eq_getElem hi, e])
  exact ⟨p, b, rfl, eb, vb_sml (v b (List.mem_of_getElem? hb)) hh hw⟩
theorem cvi_of {K : PySem.W.Frag} {H : Hp} {q : Addr} {us : List V} (e : H q = some (.lst us) ∨ H q = some (.tup us)) (h : ∀ v ∈ us, EI K H v) : ∃ cv, CvI K H (.ref q) cv := by
  have : ∀ us : List V, (∀ v ∈ us, EI K H v) → ∃ os : List (Option (List V)), us.length = os.length ∧ ∀ (i : Nat) (v : V), us[i]? = some v → ∃ o d, os[i]? = some o ∧ ∀ H', Same H H' → ItV K H' v o d := by
    intro us
    induction us with
    | nil => intro _; exact ⟨[], rfl, fun i v z => by simp at z⟩
    | cons u us ih =>
      intro h
      obtain ⟨os, l, r⟩ := ih fun v hv => h v (List.mem_cons_of_mem _ hv)
      obtain ⟨o, d, q⟩ := h u List.mem_cons_self
      refine ⟨o :: os, by simp [l], fun i v z => ?_⟩
      cases i with
      | zero =>
        have : u = v := by simpa using z
        subst this
        exact ⟨o, d, rfl, q⟩
      | succ i => exact r i v (by simpa using z)
  obtain ⟨os, l, r⟩ := this us h
  exact ⟨some os, .some e l r⟩
end K04
namespace K04
open PySem PySem.Spec PyProof.Rows L2 PySem.W LamX KA KW KU KL KT
open Evl (pss_cut tCut)
/-! ### the law's own bent covers -/
theorem cat_any {K : PySem.W.Frag} {a b : Addr} {xs ys : List V} {H : Hp} {Q : VK} (ea : H a = some (.tup xs)) (eb : H b = some (.tup ys)) (l : xs.length + ys.length ≤ 4000) (k : ∀ c H', Same H H' → H' c = some (.tup (xs ++ ys)) → Q (.ref c) H') : rCatA K (.ref a) (.ref b) H Q := by
  refine ⟨a, b, xs, ys, rfl, rfl, SqT.of ea, SqT.of eb, Nat.le_trans l (by decide), fun z => ?_, fun _ z => ?_, fun _ _ p hp => k p _ (Same.new hp) upd_same⟩
  · exact k b H (fun _ _ e => e) (by rw [z, List.nil_append]; exact eb)
  · exact k a H (fun _ _ e => e) (by rw [z, List.append_nil]; exact ea)
theorem two_any {K : PySem.W.Frag} {a : Addr} {x y z : V} {H : Hp} {Q : VK} (ea : H a = some (.tup [x, y, z])) (k : ∀ c H', Same H H' → H' c = some (.tup [x, y]) → Q (.ref c) H') : rSlA K (.ref a) none (some 2) H Q :=
  ⟨a, _, rfl, SqT.of ea, fun q => absurd q.2 (by show ¬ 2 = 3; decide), fun _ p hp => k p _ (Same.new hp) (by rw [upd_same]; rfl)⟩
theorem ei_keep {K : PySem.W.Frag} {H H' : Hp} {v : V} (h : EI K H v) (s : Same H H') : EI K H' v := by
  obtain ⟨o, d, q⟩ := h
  exact ⟨o, d, fun H2 s2 => q H2 (s.trans s2)⟩
/-- a thing that may be put into what is found at f -/
inductive FI (st lg f : Addr) (H : Hp) : V → Prop
  | tup {p : Addr} {xs : List V} (e : H p = some (.tup xs)) (l1 : xs.length ≠ 1) (l4 : xs.length ≤ 4) (h : ∀ x ∈ xs, AtV x) : FI st lg f H (.ref p)
  | lst {p : Addr} {xs : List V} (n1 : p ≠ st) (n2 : p ≠ lg) (n3 : p ≠ f) (e : H p = some (.lst xs)) (l4 : xs.length ≤ 4) (h : ∀ x ∈ xs, AtV x) : FI st lg f H (.ref p)
  | non : FI st lg f H .non
theorem FI.kp {st lg cl f : Addr} {m : Nat} {H H' : Hp} {x : V} (h : FI st lg f H x) (S : StAt H st lg cl m) (k : Kp st lg H H') : FI st lg f H' x := by
  cases h with
  | tup e l1 l4 h => exact .tup (Tp.kp S k _ _ e) l1 l4 h
  | lst n1 n2 n3 e l4 h => exact .lst n1 n2 n3 (k _ _ e n1 n2) l4 h
  | non => exact .non
theorem FI.same {st lg f : Addr} {H H' : Hp} {x : V} (h : FI st lg f H x) (s : Same H H') : FI st lg f H' x := by
  cases h with
  | tup e l1 l4 h => exact .tup (s _ _ e) l1 l4 h
  | lst n1 n2 n3 e l4 h => exact .lst n1 n2 n3 (s _ _ e) l4 h
  | non => exact .non
theorem FI.put {st lg f : Addr} {H : Hp} {x : V} {us ys : List V} (h : FI st lg f H x) (e : H f = some (.lst us)) : FI st lg f (upd H f (.lst ys)) x := by
  cases h with
  | tup e' l1 l4 h => exact .tup (Tp.put e _ _ e') l1 l4 h
  | lst n1 n2 n3 e' l4 h => exact .lst n1 n2 n3 ((upd_ne n3).trans e') l4 h
  | non => exact .non
theorem FI.ei {st lg f : Addr} {K : PySem.W.Frag} {H : Hp} {x : V} (h : FI st lg f H x) : EI K H x := by
  cases h with
  | tup e l1 l4 h => exact ei_tup e l1 l4 h
  | lst n1 n2 n3 e l4 h => exact ei_lst e l4 h
  | non => exact ei_non
theorem BkE.fi {st lg f : Addr} {H : Hp} {x : V} (h : BkE H x) : FI st lg f H x := by
  obtain ⟨p, b, rfl, e, s⟩ := h
  exact .tup e (by show ¬ 3 = 1; decide) (by show 3 ≤ 4; decide) (bk_atv s)
theorem ixN_nat {n t : Nat} (h : t < n) : ixN n ((t : Nat) : Int) = some t := by
  unfold ixN
  rw [if_pos (by omega), if_pos (by omega), Int.toNat_natCast]
def spBent (K : PySem.W.Frag) : Sp := fun vs H Q _ => ∃ (st lg cl a q : Addr) (h w m : Nat) (us : List V), vs = [.ref st, .ref a, .ref q] ∧ ScW H a h w ∧ a ≠ st ∧ a ≠ lg ∧ m ≤ 900000 ∧ StAt H st lg cl m ∧ H q = some (.lst us) ∧ (∀ u ∈ us, BkE H u) ∧ 0 < us.length ∧ us.length ≤ 84 ∧
  ∀ x cv H', CvI K H' x cv → StAt H' st lg cl (m + 3) → Kp st lg H H' → Q x H'
section
variable {P : Program} {w : World} {K : PySem.W.Frag} {mg : Str → Option Value} {base : Heap} (T : Top K mg)
theorem ok_bent : FnOk P w K mg base (L2.CX P w) 4 T._law_bent.a T._law_bent.d ["state", "scope", "cover"] (spBent K) := by
  refine T._law_bent.f.okX sc__law_bent (fun vs H Q E h => ?_) (fun cdv A outer s H vs Q E hr h => ?_)
  · obtain ⟨st, lg, cl, a, q, h, w, m, us, rfl, _⟩ := h
    rfl
  · obtain ⟨st, lg, cl, a, q, h, wn, m, us, rfl, sc, as, al, hm, S, hq, bu, l0, l84, k⟩ := h
    refine ⟨_, pss_cons (ps_par (i := 3) (j := 4) rfl sc__law_bent.nd rfl rfl (by decide) rfl rfl (pa_cons (pe_callTy call_list_of (by rfl) T.b_list (by decide +kernel) (pa_cons (pv 2) pa_nil)) (pa_cons (pe_call (ok_draw T) (hr.mono (by decide)) (by rfl) T._law_draw.m T._law_draw.f.kp (bd__law_draw T) .nil passE (pa_cons (pv 0) (pa_cons pe_int pa_nil))) pa_nil)) (by rfl))
      (pss_cons (ps_set (i := 5) sc__law_bent.nd rfl (.inl rfl) (pe_call (ok_draw T) (hr.mono (by decide)) (by rfl) T._law_draw.m T._law_draw.f.kp (bd__law_draw T) .nil passE (pa_cons (pv 0) (pa_cons (pe_callB call_len_seq (by rfl) T.b_len PySem.boot_len (pa_cons (pv 3) pa_nil)) pa_nil))))
      (pss_cons (ps_if (pt_cmpR op_eq (pv 4) pe_int (nomark _)) (pss_one (ps_expr (pe_bm PySem.F.plainAttrs_list PySem.F.slot_list_pop PySem.F.type_list_pop mt_popAt (pv 3) (pa_cons (pv 5) pa_nil)))) (pss_one (ps_if (pt_cmpR op_eq (pv 4) pe_int (nomark _)) (pss_one (ps_expr (pe_bm PySem.F.plainAttrs_list PySem.F.slot_list_insert PySem.F.type_list_insert L2.mt_insert (pv 3) (pa_cons (pv 5) (pa_cons (pe_ix ix_list (pv 3) (pv 5) (fun _ _ => rfl)) pa_nil))))) (pss_one (ps_if (pt_cmpR op_eq (pv 4) pe_int (nomark _)) (pss_one (ps_set (i := 3) sc__law_bent.nd rfl (.inl rfl) (pe_revL (pv 3)))) (pss_one (ps_if (pt_cmpR op_eq (pv 4) pe_int (nomark _)) (pss_one (ps_asg (pe_call (ok_pick T) (hr.mono (by decide)) (by rfl) T._law_pick.m T._law_pick.f.kp (bd__law_pick T) .nil passE (pa_cons (pv 0) (pa_cons (pe_call (ok_lsquares T) (hr.mono (by decide)) (by rfl) T._law_squares.m T._law_squares.f.kp (bd__law_squares T) .nil passE (pa_cons (pv 1) pa_nil)) pa_nil))) (pg_sub (pv 3) (pv 5) set_list))) (pss_one (ps_if (pt_cmpR op_eq (pv 4) pe_int (nomark _)) (pss_one (ps_asg (pe_call (ok_pick T) (hr.mono (by decide)) (by rfl) T._law_pick.m T._law_pick.f.kp (bd__law_pick T) .nil passE (pa_cons (pv 0) (pa_cons (pe_lst (pa_cons (pe_callTy call_list_of (by rfl) T.b_list (by decide +kernel) (pa_cons (pe_ix ix_list (pv 3) (pv 5) (fun _ _ => rfl)) pa_nil)) (pa_cons (pe_slice sl_tupA (pe_ix ix_list (pv 3) (pv 5) (fun _ _ => rfl)) po_none (po_some pe_int)) (pa_cons pe_non (pa_cons (pe_op op_catA (pe_ix ix_list (pv 3) (pv 5) (fun _ _ => rfl)) (pe_tup (pa_cons pe_int pa_nil))) (pa_cons (pe_tup (pa_cons pe_int (pa_cons pe_int (pa_cons pe_int pa_nil)))) pa_nil)))))) pa_nil))) (pg_sub (pv 3) (pv 5) set_list))) (pss_one (ps_if (pt_cmpR op_eq (pv 4) pe_int (nomark _)) (pss_one (ps_ret (pe_call (ok_pick T) (hr.mono (by decide)) (by rfl) T._law_pick.m T._law_pick.f.kp (bd__law_pick T) .nil passE (pa_cons (pv 0) (pa_cons (pe_lst (pa_cons pe_non (pa_cons pe_dnewK (pa_cons pe_str (pa_cons (pe_tup pa_nil) (pa_cons (pe_lst pa_nil) (pa_cons pe_int pa_nil))))))) pa_nil))))) (pss_one (ps_asg (pe_call (ok_pick T) (hr.mono (by decide)) (by rfl) T._law_pick.m T._law_pick.f.kp (bd__law_pick T) .nil passE (pa_cons (pv 0) (pa_cons (pe_lst (pa_cons (pe_tup (pa_cons pe_bl (pa_cons pe_int (pa_cons (pe_ix ix_tup (pe_ix ix_list (pv 3) pe_int (fun _ _ => rfl)) pe_int (fun _ _ => rfl)) pa_nil)))) (pa_cons (pe_tup (pa_cons pe_int (pa_cons pe_bl (pa_cons (pe_ix ix_tup (pe_ix ix_list (pv 3) pe_int (fun _ _ => rfl)) pe_int (fun _ _ => rfl)) pa_nil)))) (pa_cons (pe_ix ix_list (pv 3) pe_int (fun _ _ => rfl)) pa_nil)))) pa_nil))) (pg_sub (pv 3) pe_int set_list))))))))))))))
      (pss_one (ps_ret (pv 3))))), ?_⟩
    have hb := sc.b
    have s84 : 84 + 84 < sizeLine := by decide
    have e84 := every_len (h := h) (w := wn) hb.2.1 hb.2.2.2
    refine ⟨_, rfl, q, us, rfl, .inl (SqL.of hq), fun f0 hf0 => ?_⟩
    have t0 := Same.new (o := .lst us) hf0
    have v0 : (upd H f0 (.lst us)) f0 = some (.lst us) := upd_same
    obtain ⟨fs, fl⟩ := S.off hf0
    have fc := offc S hf0
    have S0 := S.same t0
    generalize upd H f0 (.lst us) = H0 at t0 v0 S0 ⊢
    refine ⟨_, rfl, st, lg, cl, 7, m, rfl, by decide, by decide, by omega, S0, fun wy H1 hwy S1 kp1 => ⟨_, _, rfl, ?_⟩⟩
    have v1 := kp1 _ _ v0 fs fl
    refine ⟨_, rfl, _, rfl, f0, us, rfl, .inl (SqL.of v1), st, lg, cl, us.length, m + 1, rfl, l0, Nat.lt_of_le_of_lt l84 (by decide), by omega, S1, fun t H2 ht S2 kp2 => ?_⟩
    have v2 := kp2 _ _ v1 fs fl
    have k2 := ((Kp.same (st := st) (lg := lg) t0).trans kp1).trans kp2
    have tp2 := Tp.kp S k2
    have bu2 : ∀ u ∈ us, BkE H2 u := fun u hu => (bu u hu).tp tp2
    have sc2 := sc.kp k2 as al
    clear t0 v0 S0 kp1 v1 S1 kp2 hq bu H0 H1
    -- what is found at the end
    have done : ∀ fa H' us', H' fa = some (.lst us') → (∀ v ∈ us', EI K H' v) → StAt H' st lg cl (m + 3) → Kp st lg H H' → Q (.ref fa) H' := fun fa H' us' e1 e2 e3 e4 => by
      obtain ⟨cv, c⟩ := cvi_of (.inl e1) e2
      exact k _ cv H' c e3 e4
    have wt : ∀ k : Int, ((wy : Nat) : Int) = k → decide (V.int ((wy : Nat) : Int) = V.int k) = true := fun k e => decide_eq_true (by rw [e])
    have wf : ∀ k : Int, ((wy : Nat) : Int) ≠ k → decide (V.int ((wy : Nat) : Int) = V.int k) = false := fun k e => decide_eq_false fun z => e (V.int.inj z)
    obtain ⟨u, hu⟩ : ∃ u, us[t]? = some u := ⟨_, List.getElem?_eq_getElem ht⟩
    have mu := List.mem_of_getElem? hu
    obtain ⟨pb, b, rfl, eb, sb⟩ := bu2 u mu
    have bound : ((t : Nat) : Int) < 2 ^ 63 := by
      have : (2 : Int) ^ 63 = 9223372036854775808 := by decide
      omega
    have six : seqIndex? ((t : Nat) : Int) us.length = some t := by
      unfold seqIndex?
      rw [if_neg (show ¬ ((t : Nat) : Int) < 0 by omega), if_pos ?_, Int.toNat_natCast]
      rw [Bool.and_eq_true, decide_eq_true_eq, decide_eq_true_eq]
      omega
    -- one is put in another's place
    have putin : ∀ (j : Nat) (x : V) (H4 : Hp), Kp st lg H2 H4 → StAt H4 st lg cl (m + 3) → FI st lg f0 H4 x → Q (.ref f0) (upd H4 f0 (.lst (us.set j x))) := fun j x H4 k4 S4 fx => by
      have v4 := k4 _ _ v2 fs fl
      refine done f0 _ _ upd_same (fun v hv => ?_) (stAt_put S4 fs fl fc) (Kp.put3 (k2.trans k4) hf0)
      rcases List.mem_or_eq_of_mem_set hv with z | z
      · exact ((((bu2 v z).tp (Tp.kp S2 k4)).fi (st := st) (lg := lg) (f := f0)).put v4).ei
      · rw [z]
        exact (fx.put v4).ei
    refine ⟨_, rfl, rfl, _, rfl, ?_⟩
    by_cases c0 : wy = 0
    · rw [wt 0 (by omega)]
      refine iteT ⟨_, rfl, .inl ⟨rfl, _, SqL.of v2⟩, _, rfl, f0, us, _, t, .ref pb, rfl, rfl, v2, by omega, bound, six, hu, ?_⟩
      exact ⟨_, rfl, done f0 _ _ upd_same (fun v hv => ((bu2 v (List.mem_of_mem_eraseIdx hv)).tp (Tp.put v2)).ei) ((stAt_put S2 fs fl fc).mono (by omega)) (Kp.put3 k2 hf0)⟩
    rw [wf 0 (by omega)]
    refine iteF ⟨_, rfl, rfl, _, rfl, ?_⟩
    by_cases c1 : wy = 1
    · rw [wt 1 (by omega)]
      refine iteT ⟨_, rfl, .inl ⟨rfl, _, SqL.of v2⟩, _, rfl, _, rfl, _, rfl, f0, us, _, _, rfl, rfl, SqL.of v2, atI_nat hu, f0, us, _, .ref pb, rfl, rfl, v2, by omega, by omega, bound, ?_⟩
      refine ⟨_, rfl, done f0 _ _ upd_same (fun v hv => ?_) ((stAt_put S2 fs fl fc).mono (by omega)) (Kp.put3 k2 hf0)⟩
      have : v ∈ us := by
        rcases List.mem_append.mp hv with z | z
        · rcases List.mem_append.mp z with z | z
          · exact List.mem_of_mem_take z
          · rw [List.mem_singleton.mp z]
            exact mu
        · exact List.mem_of_mem_drop z
      exact ((bu2 v this).tp (Tp.put v2)).ei
    rw [wf 1 (by omega)]
    refine iteF ⟨_, rfl, rfl, _, rfl, ?_⟩
    by_cases c2 : wy = 2
    · rw [wt 2 (by omega)]
      refine iteT ⟨_, rfl, f0, us, rfl, SqL.of v2, fun p hp => ?_⟩
      have tn := Same.new (o := .lst us.reverse) hp
      exact ⟨_, rfl, done p _ _ upd_same (fun v hv => ((bu2 v (List.mem_reverse.mp hv)).tp (Tp.same tn)).ei) ((S2.same tn).mono (by omega)) (k2.trans (Kp.same tn))⟩
    rw [wf 2 (by omega)]
    refine iteF ⟨_, rfl, rfl, _, rfl, ?_⟩
    by_cases c3 : wy = 3
    · rw [wt 3 (by omega)]
      refine iteT ⟨_, rfl, _, rfl, a, h, wn, rfl, sc2, fun qe ue bs H3 s3 nq lq rl pm => ?_⟩
      have vb : ∀ b ∈ bs, Vb h wn b := fun b hb => every_mem.mp (pm.mem_iff.mp hb)
      have pos : 0 < ue.length := by
        rw [rl.1, pm.length_eq]
        refine List.length_pos_of_mem (every_mem.mpr (show Vb h wn ⟨0, 0, 8⟩ from ⟨.inl rfl, rfl, rfl, ?_, ?_⟩))
        · exact hb.1
        · exact hb.2.2.1
      refine ⟨st, lg, cl, qe, ue, m + 2, rfl, lq, (S2.off nq).2, pos, by rw [rl.1, pm.length_eq]; omega, by omega, S2.same s3, fun x H4 hx S4 kp4 => ?_⟩
      have k4 := (Kp.same (st := st) (lg := lg) s3).trans kp4
      refine ⟨_, rfl, _, rfl, f0, us, _, t, rfl, rfl, k4 _ _ v2 fs fl, ixN_nat ht, ?_⟩
      exact ⟨_, rfl, putin t x H4 k4 S4 ((rl_bke rl vb hb.2.1 hb.2.2.2 x hx).tp (Tp.kp (S2.same s3) kp4)).fi⟩
    rw [wf 3 (by omega)]
    refine iteF ⟨_, rfl, rfl, _, rfl, ?_⟩
    by_cases c4 : wy = 4
    · rw [wt 4 (by omega)]
      refine iteT ⟨_, rfl, ?_⟩
      refine ⟨_, rfl, _, rfl, f0, us, _, _, rfl, rfl, SqL.of v2, atI_nat hu, pb, bkV b, rfl, .inr (SqT.of eb), fun y1 hy1 => ?_⟩
      have t1 := Same.new (o := .lst (bkV b)) hy1
      have e1 : (upd H2 y1 (.lst (bkV b))) y1 = some (.lst (bkV b)) := upd_same
      have o1 := S2.off hy1
      have f1 : y1 ≠ f0 := (ne_of_none v2 hy1).symm
      generalize upd H2 y1 (.lst (bkV b)) = H3 at t1 e1 ⊢
      refine ⟨_, rfl, _, rfl, f0, us, _, _, rfl, rfl, SqL.of (t1 _ _ v2), atI_nat hu, _, rfl, two_any (t1 _ _ eb) fun y2 H4 t2 e2 => ?_⟩
      have t12 := t1.trans t2
      refine ⟨_, rfl, _, rfl, f0, us, _, _, rfl, rfl, SqL.of (t12 _ _ v2), atI_nat hu, (by show 1 ≤ sizeLine; decide), fun z hz => cat_any ((Same.new hz) _ _ (t12 _ _ eb)) upd_same (by show 3 + 1 ≤ 4000; decide) fun y3 H5 t3 e3 => ?_⟩
      have t23 := (Same.new (o := .tup [V.int 0]) hz).trans t3
      refine ⟨(by show 3 ≤ sizeLine; decide), fun y4 hy4 => ?_⟩
      have t4 := Same.new (o := .tup [V.int 0, .int 0, .int 1]) hy4
      have e4 : (upd H5 y4 (.tup [V.int 0, .int 0, .int 1])) y4 = some (.tup [V.int 0, .int 0, .int 1]) := upd_same
      generalize upd H5 y4 (.tup [V.int 0, .int 0, .int 1]) = H6 at t4 e4 ⊢
      refine ⟨(by show 5 ≤ sizeLine; decide), fun L hL => ?_⟩
      have t5 := Same.new (o := .lst [V.ref y1, .ref y2, .non, .ref y3, .ref y4]) hL
      have s6 := t12.trans (t23.trans t4)
      have s7 := s6.trans t5
      have S6 := S2.same s7
      refine ⟨st, lg, cl, L, _, m + 2, rfl, upd_same, ((S2.same s6).off hL).2, (by show 0 < 5; decide), (by show 5 ≤ 1000; decide), by omega, S6, fun x H8 hx S8 kp8 => ?_⟩
      have k8 := (Kp.same (st := st) (lg := lg) s7).trans kp8
      have fx : FI st lg f0 (upd H6 L (.lst [V.ref y1, .ref y2, .non, .ref y3, .ref y4])) x := by
        simp only [List.mem_cons, List.not_mem_nil, or_false] at hx
        have ab := bk_atv sb
        rcases hx with rfl | rfl | rfl | rfl | rfl
        · exact .lst o1.1 o1.2 f1 ((t2.trans (t23.trans (t4.trans t5))) _ _ e1) (by show 3 ≤ 4; decide) ab
        · exact .tup ((t23.trans (t4.trans t5)) _ _ e2) (by show ¬ 2 = 1; decide) (by show 2 ≤ 4; decide) fun x hx => ab x (by
            simp only [List.mem_cons, List.not_mem_nil, or_false] at hx
            rcases hx with rfl | rfl <;> simp [bkV])
        · exact .non
        · exact .tup ((t4.trans t5) _ _ e3) (by show ¬ 4 = 1; decide) (by show 4 ≤ 4; decide) fun x hx => by
            rcases List.mem_append.mp hx with z | z
            · exact ab x z
            · rw [List.mem_singleton.mp z]
              exact atv_int (by decide) (by decide)
        · exact .tup (t5 _ _ e4) (by show ¬ 3 = 1; decide) (by show 3 ≤ 4; decide) fun x hx => by
            simp only [List.mem_cons, List.not_mem_nil, or_false] at hx
            rcases hx with rfl | rfl | rfl <;> exact atv_int (by decide) (by decide)
      refine ⟨_, rfl, _, rfl, f0, us, _, t, rfl, rfl, k8 _ _ v2 fs fl, ixN_nat ht, ?_⟩
      exact ⟨_, rfl, putin t x H8 k8 S8 (fx.kp S6 kp8)⟩
    rw [wf 4 (by omega)]
    refine iteF ⟨_, rfl, rfl, _, rfl, ?_⟩
    by_cases c5 : wy = 5
    · rw [wt 5 (by omega)]
      refine iteT ⟨_, rfl, fun y1 hy1 => ?_⟩
      have t1 := Same.new (o := .dK []) hy1
      have e1 : (upd H2 y1 (.dK [])) y1 = some (.dK []) := upd_same
      have o1 := S2.off hy1
      generalize upd H2 y1 (.dK []) = H3 at t1 e1 ⊢
      refine ⟨(by show 0 ≤ sizeLine; decide), fun y2 hy2 => ?_⟩
      have t2 := Same.new (o := .tup []) hy2
      have e2 : (upd H3 y2 (.tup [])) y2 = some (.tup []) := upd_same
      have o2 := (S2.same t1).off hy2
      generalize upd H3 y2 (.tup []) = H4 at t2 e2 ⊢
      have t12 := t1.trans t2
      refine ⟨(by show 0 ≤ sizeLine; decide), fun y3 hy3 => ?_⟩
      have t3 := Same.new (o := .lst []) hy3
      have e3 : (upd H4 y3 (.lst [])) y3 = some (.lst []) := upd_same
      have o3 := (S2.same t12).off hy3
      generalize upd H4 y3 (.lst []) = H5 at t3 e3 ⊢
      have s5 := t12.trans t3
      refine ⟨(by show 6 ≤ sizeLine; decide), fun L hL => ?_⟩
      have t5 := Same.new (o := .lst [V.non, .ref y1, .str "cover", .ref y2, .ref y3, .int 5]) hL
      have S6 := S2.same (s5.trans t5)
      refine ⟨st, lg, cl, L, _, m + 2, rfl, upd_same, ((S2.same s5).off hL).2, (by show 0 < 6; decide), (by show 6 ≤ 1000; decide), by omega, S6, fun x H8 hx S8 kp8 => ?_⟩
      have k8 := k2.trans ((Kp.same (st := st) (lg := lg) (s5.trans t5)).trans kp8)
      simp only [List.mem_cons, List.not_mem_nil, or_false] at hx
      rcases hx with rfl | rfl | rfl | rfl | rfl | rfl
      · exact k _ _ H8 (.no .non) S8 k8
      · exact k _ _ H8 (.no (.dK (kp8 _ _ ((t2.trans (t3.trans t5)) _ _ e1) o1.1 o1.2))) S8 k8
      · exact k _ _ H8 (.no (.str _)) S8 k8
      · exact k _ (some []) H8 (.some (us := []) (.inr (kp8 _ _ ((t3.trans t5) _ _ e2) o2.1 o2.2)) rfl fun i v z => by simp at z) S8 k8
      · exact k _ (some []) H8 (.some (us := []) (.inl (kp8 _ _ (t5 _ _ e3) o3.1 o3.2)) rfl fun i v z => by simp at z) S8 k8
      · exact k _ _ H8 (.no (.int _)) S8 k8
    rw [wf 5 (by omega)]
    obtain ⟨u0, hu0⟩ : ∃ u, us[0]? = some u := ⟨_, List.getElem?_eq_getElem l0⟩
    obtain ⟨p0, b0, rfl, eb0, sb0⟩ := bu2 u0 (List.mem_of_getElem? hu0)
    refine iteF ⟨_, rfl, ?_⟩
    refine ⟨_, rfl, f0, us, 0, _, rfl, rfl, SqL.of v2, atI_nat (j := 0) hu0, p0, _, 2, _, rfl, rfl, SqT.of eb0, atI_nat (j := 2) rfl, (by show 3 ≤ sizeLine; decide), fun y1 hy1 => ?_⟩
    have t1 := Same.new (o := .tup [V.bl false, .int 0, .int (b0.s : Int)]) hy1
    have e1 : (upd H2 y1 (.tup [V.bl false, .int 0, .int (b0.s : Int)])) y1 = some (.tup [V.bl false, .int 0, .int (b0.s : Int)]) := upd_same
    generalize upd H2 y1 (.tup [V.bl false, .int 0, .int (b0.s : Int)]) = H3 at t1 e1 ⊢
    refine ⟨_, rfl, f0, us, 0, _, rfl, rfl, SqL.of (t1 _ _ v2), atI_nat (j := 0) hu0, p0, _, 2, _, rfl, rfl, SqT.of (t1 _ _ eb0), atI_nat (j := 2) rfl, (by show 3 ≤ sizeLine; decide), fun y2 hy2 => ?_⟩
    have t2 := Same.new (o := .tup [V.int 0, .bl false, .int (b0.s : Int)]) hy2
    have e2 : (upd H3 y2 (.tup [V.int 0, .bl false, .int (b0.s : Int)])) y2 = some (.tup [V.int 0, .bl false, .int (b0.s : Int)]) := upd_same
    generalize upd H3 y2 (.tup [V.int 0, .bl false, .int (b0.s : Int)]) = H4 at t2 e2 ⊢
    have t12 := t1.trans t2
    refine ⟨_, rfl, f0, us, 0, _, rfl, rfl, SqL.of (t12 _ _ v2), atI_nat (j := 0) hu0, (by show 3 ≤ sizeLine; decide), fun L hL => ?_⟩
    have t5 := Same.new (o := .lst [V.ref y1, .ref y2, .ref p0]) hL
    have s7 := t12.trans t5
    have S6 := S2.same s7
    refine ⟨st, lg, cl, L, _, m + 2, rfl, upd_same, ((S2.same t12).off hL).2, (by show 0 < 3; decide), (by show 3 ≤ 1000; decide), by omega, S6, fun x H8 hx S8 kp8 => ?_⟩
    have k8 := (Kp.same (st := st) (lg := lg) s7).trans kp8
    have fx : FI st lg f0 (upd H4 L (.lst [V.ref y1, .ref y2, .ref p0])) x := by
      simp only [List.mem_cons, List.not_mem_nil, or_false] at hx
      rcases hx with rfl | rfl | rfl
      · exact .tup ((t2.trans t5) _ _ e1) (by show ¬ 3 = 1; decide) (by show 3 ≤ 4; decide) fun x hx => by
          simp only [List.mem_cons, List.not_mem_nil, or_false] at hx
          rcases hx with rfl | rfl | rfl
          · exact .inr (.inl ⟨_, rfl⟩)
          · exact atv_int (by decide) (by decide)
          · exact atv_nat sb0.s
      · exact .tup (t5 _ _ e2) (by show ¬ 3 = 1; decide) (by show 3 ≤ 4; decide) fun x hx => by
          simp only [List.mem_cons, List.not_mem_nil, or_false] at hx
          rcases hx with rfl | rfl | rfl
          · exact atv_int (by decide) (by decide)
          · exact .inr (.inl ⟨_, rfl⟩)
          · exact atv_nat sb0.s
      · exact .tup (s7 _ _ eb0) (by show ¬ 3 = 1; decide) (by show 3 ≤ 4; decide) (bk_atv sb0)
    refine ⟨_, rfl, f0, us, 0, 0, rfl, rfl, k8 _ _ v2 fs fl, ixN_nat (t := 0) l0, ?_⟩
    exact ⟨_, rfl, putin 0 x H8 k8 S8 (fx.kp S6 kp8)⟩
end
end K04
namespace K04
open PySem PySem.Spec PyProof.Rows L2 PySem.W LamX KA KW KU KL KT
open Evl (pss_cut tCut)
/-! ### the law's own word of one block -/
theorem hu2 {k : Nat} {A : Around} (r : Room k A) : A.units + 2 < cLine := by have := r.un; omega
def dotD (d : Nat × Nat) : PyData := .tuple [.int (d.1 : Int), .int (d.2 : Int)]
theorem dp_rl {α : Type} {K : PySem.W.Frag} {H : Hp} {f : α → List V} {g : α → PyData} (hfg : ∀ p a, H p = some (.tup (f a)) → Dp K H (.ref p) (g a)) : ∀ {us : List V} {as : List α}, RL f H us as → DpAll K H us (as.map g)
  | [], [], _ => .nil
  | [], _ :: _, r => by cases r.1
  | _ :: _, [], r => by cases r.1
  | u :: us, b :: bs, r => by
    obtain ⟨p, a, e1, e2, e3⟩ := r.get (i := 0) (v := u) rfl
    have : b = a := Option.some.inj e2
    subst this e1
    refine .cons (hfg _ _ e3) (dp_rl hfg ⟨by simpa using r.1, fun j v e => ?_⟩)
    exact r.2 (j + 1) v (by simpa using e)
theorem dp_dot {K : PySem.W.Frag} {H : Hp} (p : Addr) (d : Nat × Nat) (e : H p = some (.tup (dotV d))) : Dp K H (.ref p) (dotD d) := .tup (SqT.of e) (.cons (.int _) (.cons (.int _) .nil))
def toldD (h w : Nat) (b : Bk) : PyData := .list [.list ((dotsB h w b).map dotD), .list ((partsL h w b).map bkD), .tuple [.int ((placeB h w b : Nat) : Int), .int ((placeB h w b + manyC h w b : Nat) : Int)]]
theorem dots_in {h w : Nat} {b : Bk} (v : Vb h w b) {d : Nat × Nat} (m : d ∈ dotsB h w b) : b.t ≤ d.1 ∧ d.1 < b.t + b.s ∧ d.1 < h ∧ b.l ≤ d.2 ∧ d.2 < b.l + b.s ∧ d.2 < w := by
  unfold dotsB at m
  obtain ⟨L, hL, hd⟩ := List.mem_flatten.mp m
  obtain ⟨i, hi, rfl⟩ := List.mem_map.mp hL
  obtain ⟨j, hj, rfl⟩ := List.mem_map.mp hd
  have hi := List.mem_range.mp hi
  have hj := List.mem_range.mp hj
  unfold rowsN at hi
  unfold colsN at hj
  dsimp only
  omega
theorem dots_len {h w : Nat} {b : Bk} (v : Vb h w b) : (dotsB h w b).length ≤ 64 := by
  have vs := v.s
  have e : (dotsB h w b).length = rowsN h b * colsN w b := by
    unfold dotsB
    rw [← List.flatMap_def, List.length_flatMap]
    simp only [List.length_map, List.length_range]
    rw [List.map_const', List.sum_replicate_nat, List.length_range]
  rw [e]
  have a : rowsN h b ≤ 8 := by unfold rowsN; omega
  have c : colsN w b ≤ 8 := by unfold colsN; omega
  exact Nat.mul_le_mul a c
theorem cells_all_len {h w : Nat} (hh : h ≤ 16) (hw : w ≤ 16) : (cellsL h w).length ≤ 300 := by
  have flat : ∀ (L : List Bk), (∀ p ∈ L, (cellsOf h w p).length ≤ 16) → (L.flatMap (cellsOf h w)).length ≤ L.length * 16 := by
    intro L
    induction L with
    | nil => intro _; simp
    | cons a L ih =>
      intro e
      rw [List.flatMap_cons, List.length_append, List.length_cons, Nat.add_one_mul]
      have := e a List.mem_cons_self
      have := ih fun p hp => e p (List.mem_cons_of_mem _ hp)
      omega
  have := flat (rootsL h w) fun p hp => cells_le (roots_vb hp)
  have := roots_len hh hw
  unfold cellsL
  omega
theorem told_sm {h w : Nat} {b : Bk} (v : Vb h w b) (hh : h ≤ 16) (hw : w ≤ 16) : Sm 8000 3 (toldD h w b) := by
  have pl := place_le v
  have cl := cells_all_len hh hw
  refine (sm_list (n := 2500) (z := 2) (k := 3) (fun d hd => ?_) (by show 3 ≤ 3; decide)).mono (by decide) (by decide)
  simp only [List.mem_cons, List.not_mem_nil, or_false] at hd
  rcases hd with rfl | rfl | rfl
  · refine (sm_list (n := 36) (z := 1) (k := 64) (fun d hd => ?_) (by rw [List.length_map]; exact dots_len v)).mono (by decide) (by decide)
    obtain ⟨e, he, rfl⟩ := List.mem_map.mp hd
    have := dots_in v he
    refine sm_tuple (n := 17) (z := 0) (k := 2) (fun d hd => ?_) (by show 2 ≤ 2; decide)
    simp only [List.mem_cons, List.not_mem_nil, or_false] at hd
    rcases hd with rfl | rfl <;> exact sm_int (by omega) (by omega)
  · refine (sm_list (n := 72) (z := 1) (k := 4) (fun d hd => ?_) (by rw [List.length_map]; exact parts_len)).mono (by decide) (by decide)
    obtain ⟨e, he, rfl⟩ := List.mem_map.mp hd
    exact (its_bk (vb_sml (parts_vb v he).1 hh hw)).sm
  · refine (sm_tuple (n := 17) (z := 0) (k := 2) (fun d hd => ?_) (by show 2 ≤ 2; decide)).mono (by decide) (by decide)
    simp only [List.mem_cons, List.not_mem_nil, or_false] at hd
    rcases hd with rfl | rfl <;> exact sm_int (by omega) (by omega)
theorem told_dp {K : PySem.W.Frag} {H : Hp} {L q1 q2 q3 : Addr} {u1 u2 : List V} {h w : Nat} {b : Bk} (eL : H L = some (.lst [.ref q1, .ref q2, .ref q3])) (l1 : H q1 = some (.lst u1)) (r1 : RL dotV H u1 (dotsB h w b)) (l2 : H q2 = some (.lst u2)) (r2 : RL bkV H u2 (partsL h w b)) (e3 : H q3 = some (.tup [.int (placeB h w b : Nat), .int ((placeB h w b + manyC h w b : Nat) : Int)])) : Dp K H (.ref L) (toldD h w b) :=
  .lst (SqL.of eL) (.cons (.lst (SqL.of l1) (dp_rl dp_dot r1)) (.cons (.lst (SqL.of l2) (dp_bks r2)) (.cons (.tup (SqT.of e3) (.cons (.int _) (.cons (.int _) .nil))) .nil)))
theorem bkV_inj {a b : Bk} (e : bkV a = bkV b) : a = b := by
  have : bkOf (some (bkV a)) = bkOf (some (bkV b)) := by rw [e]
  exact this
theorem rw_of {K : PySem.W.Frag} {H : Hp} {p : Addr} {b : Bk} (e : H p = some (.tup (bkV b))) : Rw K H (.ref p) (some (bkV b)) := .tup e (fun x hx => by
  unfold bkV at hx
  simp only [List.mem_cons, List.not_mem_nil, or_false] at hx
  rcases hx with rfl | rfl | rfl <;> exact ⟨_, .int _⟩) (by show 3 ≤ 1000; decide)
theorem blk_no {h w : Nat} {b : Bk} {A : Prop} (v : Vb h w b) (c : blkB h w (some (bkV b)) = false) : A := by
  rw [blkB_iff.mpr ⟨b, v, rfl⟩] at c
  cases c
theorem blk_same {H : Hp} {p p' : Addr} {b b' : Bk} (hp : H p = some (.tup (bkV b))) (e1 : V.ref p = .ref p') (e2 : H p' = some (.tup (bkV b'))) : b = b' := by
  cases e1
  rw [hp] at e2
  exact bkV_inj (HO.tup.inj (Option.some.inj e2))
def idV (d : Int × Int) : List V := [.int d.1, .int d.2]
/-- the spots left of and above a block -/
def besides (h w : Nat) (b : Bk) : List (Int × Int) := ((dotsB h w b).map fun d => ((d.1 : Int), ((b.l : Nat) : Int) - 1)) ++ ((dotsB h w b).map fun d => (((b.t : Nat) : Int) - 1, (d.2 : Int))) ++ [(((b.t : Nat) : Int) - 1, ((b.l : Nat) : Int) - 1)]
def inB (d : Int × Int) : Bool := decide (0 ≤ d.1 ∧ 0 ≤ d.2)
theorem besides_ahead {h w : Nat} {b : Bk} (v : Vb h w b) (hw : w ≤ 16) {d : Int × Int} (m : d ∈ (besides h w b).filter inB) : ∃ y x i : Nat, d = ((y : Int), (x : Int)) ∧ y ≤ 16 * h ∧ x ≤ 16 * w ∧ (cellsL h w)[i]? = some ⟨y / 2 * 2, x / 2 * 2, 2⟩ ∧ i < placeB h w b := by
  obtain ⟨m1, m2⟩ := List.mem_filter.mp m
  unfold inB at m2
  rw [decide_eq_true_eq] at m2
  have lt := v.lt
  have ll := v.ll
  have vs := v.s
  have go : ∀ y x : Nat, d = ((y : Int), (x : Int)) → y < h → x < w → y < b.t + b.s → x < b.l + b.s → (y < b.t ∨ x < b.l) → ∃ y x i : Nat, d = ((y : Int), (x : Int)) ∧ y ≤ 16 * h ∧ x ≤ 16 * w ∧ (cellsL h w)[i]? = some ⟨y / 2 * 2, x / 2 * 2, 2⟩ ∧ i < placeB h w b := fun y x e a1 a2 a3 a4 a5 => by
    obtain ⟨i, e1, e2⟩ := ahead v hw a1 a2 a3 a4 a5
    exact ⟨y, x, i, e, by omega, by omega, e1, e2⟩
  unfold besides at m1
  rcases List.mem_append.mp m1 with m1 | m1
  · rcases List.mem_append.mp m1 with m1 | m1
    · obtain ⟨c, hc, rfl⟩ := List.mem_map.mp m1
      have := dots_in v hc
      dsimp only at m2
      exact go c.1 (b.l - 1) (by rw [show ((b.l - 1 : Nat) : Int) = ((b.l : Nat) : Int) - 1 by omega]) (by omega) (by omega) (by omega) (by omega) (.inr (by omega))
    · obtain ⟨c, hc, rfl⟩ := List.mem_map.mp m1
      have := dots_in v hc
      dsimp only at m2
      exact go (b.t - 1) c.2 (by rw [show ((b.t - 1 : Nat) : Int) = ((b.t : Nat) : Int) - 1 by omega]) (by omega) (by omega) (by omega) (by omega) (.inl (by omega))
  · have e := List.mem_singleton.mp m1
    subst e
    dsimp only at m2
    exact go (b.t - 1) (b.l - 1) (by rw [show ((b.t - 1 : Nat) : Int) = ((b.t : Nat) : Int) - 1 by omega, show ((b.l - 1 : Nat) : Int) = ((b.l : Nat) : Int) - 1 by omega]) (by omega) (by omega) (by omega) (by omega) (.inl (by omega))
def spRight (K : PySem.W.Frag) (C : Addr) : Sp := fun vs H Q _ => ∃ (a p : Addr) (f : V) (b : Bk) (h w : Nat), vs = [.ref a, f, .ref p] ∧ ScW H a h w ∧ Shp C H f h w ∧ H p = some (.tup (bkV b)) ∧ Vb h w b ∧ ∀ H', Same H H' → Q (.bl true) H'
section
variable {P : Program} {w : World} {K : PySem.W.Frag} {mg : Str → Option Value} {base : Heap} (T : Top K mg) (SH : ShapeT K mg) (BE : BadShapeT P w K mg T.reel.C) (Z : SzT K mg)
include BE Z
theorem ok_right : FnG P w K mg base (L2.CX P w) 10 T._law_square_right.a T._law_square_right.d ["scope", "form", "square"] (spRight K SH.C) := by
  refine fnG_of T._law_square_right.f sc__law_square_right (fun vs H Q E h => ?_) (fun cdv A outer s H vs Q E hr hg h => ?_)
  · obtain ⟨a, p, f, b, h, w, rfl, _⟩ := h
    rfl
  · obtain ⟨a, p, f, b, h, wn, rfl, sc, shp, hp, v, k⟩ := h
    refine ⟨_, pss_cons (ps_par (i := 3) (j := 4) rfl sc__law_square_right.nd rfl rfl (by decide) rfl rfl (pa_cons (pe_call (ok_ends T) (hr.mono (by decide)) (by rfl) T._law_ends.m T._law_ends.f.kp (bd__law_ends T) .nil passE (pa_cons (pv 0) (pa_cons (pv 2) pa_nil))) (pa_cons (pe_call (ok_lall T) (hr.mono (by decide)) (by rfl) T._law_all_cells.m T._law_all_cells.f.kp (bd__law_all_cells T) .nil passE (pa_cons (pv 0) pa_nil)) pa_nil)) (by rfl))
      (pss_cons (ps_set (i := 5) sc__law_square_right.nd rfl (.inl rfl) (pe_lst (pa_cons (pe_call (ok_spots T SH BE Z ) (hr.mono (by decide)) (by rfl) T.spots.m T.spots.f.kp (bd_spots T) .nil passE (pa_cons (pv 1) (pa_cons (pv 2) pa_nil))) (pa_cons (pe_call (ok_quarters T SH BE Z ) (hr.mono (by decide)) (by rfl) T.quarters.m T.quarters.f.kp (bd_quarters T) .nil passE (pa_cons (pv 1) (pa_cons (pv 2) pa_nil))) (pa_cons (pe_call (ok_place_of T SH BE Z ) (hr.mono (by decide)) (by rfl) T.place_of.m T.place_of.f.kp (bd_place_of T) .nil passE (pa_cons (pv 1) (pa_cons (pv 2) pa_nil))) pa_nil)))))
      (pss_cons (ps_if (pt_cmpR op_ne (pe_callB (show CallR _ _ (rRepr K) from call_repr hg hr) (by rfl) T.b_repr (by decide +kernel) (pa_cons (pv 5) pa_nil)) (pe_callB (show CallR _ _ (rRepr K) from call_repr hg hr) (by rfl) T.b_repr (by decide +kernel) (pa_cons (pe_lst (pa_cons (pe_call (ok_ldots T) (hr.mono (by decide)) (by rfl) T._law_dots.m T._law_dots.f.kp (bd__law_dots T) .nil passE (pa_cons (pv 0) (pa_cons (pv 2) pa_nil))) (pa_cons (pe_call (ok_lparts T) (hr.mono (by decide)) (by rfl) T._law_parts.m T._law_parts.f.kp (bd__law_parts T) .nil passE (pa_cons (pv 0) (pa_cons (pv 2) pa_nil))) (pa_cons (pv 3) pa_nil)))) pa_nil)) (nomark _)) (pss_one (ps_ret pe_bl)) pss_nil)
      (pss_cons (ps_expr (pe_bm PySem.F.plainAttrs_list PySem.F.slot_list_append PySem.F.type_list_append mt_append (pe_ix ix_list (pv 5) pe_int (fun _ _ => rfl)) (pa_cons pe_non pa_nil)))
      (pss_cons (ps_expr (pe_bm PySem.F.plainAttrs_list PySem.F.slot_list_append PySem.F.type_list_append mt_append (pe_ix ix_list (pv 5) pe_int (fun _ _ => rfl)) (pa_cons pe_non pa_nil)))
      (pss_cons (ps_set (i := 5) sc__law_square_right.nd rfl (.inl rfl) (pe_lst (pa_cons (pe_kw (ok_spots T SH BE Z) (hr.mono (by decide)) (by rfl) T.spots.m T.spots.f.kp (KA.Fun.kw2 T.spots.f fun _ _ _ _ _ _ _ _ => rfl) passE (pk_cons (pv 2) (pk_cons (pv 1) pk_nil))) (pa_cons (pe_kw (ok_quarters T SH BE Z) (hr.mono (by decide)) (by rfl) T.quarters.m T.quarters.f.kp (KA.Fun.kw2 T.quarters.f fun _ _ _ _ _ _ _ _ => rfl) passE (pk_cons (pv 2) (pk_cons (pv 1) pk_nil))) (pa_cons (pe_kw (ok_place_of T SH BE Z) (hr.mono (by decide)) (by rfl) T.place_of.m T.place_of.f.kp (KA.Fun.kw2 T.place_of.f fun _ _ _ _ _ _ _ _ => rfl) passE (pk_cons (pv 2) (pk_cons (pv 1) pk_nil))) pa_nil)))))
      (pss_cons (ps_if (pt_cmpR op_ne (pe_callB (show CallR _ _ (rRepr K) from call_repr hg hr) (by rfl) T.b_repr (by decide +kernel) (pa_cons (pv 5) pa_nil)) (pe_callB (show CallR _ _ (rRepr K) from call_repr hg hr) (by rfl) T.b_repr (by decide +kernel) (pa_cons (pe_lst (pa_cons (pe_call (ok_ldots T) (hr.mono (by decide)) (by rfl) T._law_dots.m T._law_dots.f.kp (bd__law_dots T) .nil passE (pa_cons (pv 0) (pa_cons (pv 2) pa_nil))) (pa_cons (pe_call (ok_lparts T) (hr.mono (by decide)) (by rfl) T._law_parts.m T._law_parts.f.kp (bd__law_parts T) .nil passE (pa_cons (pv 0) (pa_cons (pv 2) pa_nil))) (pa_cons (pv 3) pa_nil)))) pa_nil)) (nomark _)) (pss_one (ps_ret pe_bl)) pss_nil)
      (pss_cons (ps_asg (pe_tup (pa_cons (pe_ix ix_tup (pv 2) pe_int (fun _ _ => rfl)) (pa_cons (pe_ix ix_tup (pv 2) pe_int (fun _ _ => rfl)) pa_nil))) (pg_tup rfl (pgs_cons (pg_name (i := 6) sc__law_square_right.nd rfl (by first | exact .inl rfl | exact .inr rfl)) (pgs_cons (pg_name (i := 7) sc__law_square_right.nd rfl (by first | exact .inl rfl | exact .inr rfl)) pgs_nil))))
      (pss_cons (ps_set (i := 8) sc__law_square_right.nd rfl (.inl rfl) (pe_op op_cat (pe_lc (own := [("y", 10), ("x", 11)]) (g := gTup K 2 (gCons (gName 10) (gCons (gName 11) gNil))) (tt := tYes) rfl sc__law_square_right.nd (pi_list (pe_call (ok_ldots T) (hr.mono (by decide)) (by rfl) T._law_dots.m T._law_dots.f.kp (bd__law_dots T) .nil passE (pa_cons (pv 0) (pa_cons (pv 2) pa_nil)))) (blkOk_by (own := [("y", 10), ("x", 11)]) (N := ["scope", "form", "square", "ends", "every", "told", "top", "left", "dots", "dot", "y", "x"]) (sc := defScope s__law_square_right) (by decide +kernel)) (fun _ _ _ _ _ => pg_tup rfl (pgs_cons (pg_name (i := 10) sc__law_square_right.nd rfl (Or.inl rfl)) (pgs_cons (pg_name (i := 11) sc__law_square_right.nd rfl (Or.inl rfl)) pgs_nil))) (fun _ _ _ _ _ => pts_nil) (fun _ _ _ _ _ => pe_tup (pa_cons (pv 10) (pa_cons (pe_op (show OpR _ _ (rI0 fun i j => .int (i - j)) from op_sub) (pv 7) pe_int) pa_nil)))) (pe_lc (own := [("y", 10), ("x", 11)]) (g := gTup K 2 (gCons (gName 10) (gCons (gName 11) gNil))) (tt := tYes) rfl sc__law_square_right.nd (pi_list (pe_call (ok_ldots T) (hr.mono (by decide)) (by rfl) T._law_dots.m T._law_dots.f.kp (bd__law_dots T) .nil passE (pa_cons (pv 0) (pa_cons (pv 2) pa_nil)))) (blkOk_by (own := [("y", 10), ("x", 11)]) (N := ["scope", "form", "square", "ends", "every", "told", "top", "left", "dots", "dot", "y", "x"]) (sc := defScope s__law_square_right) (by decide +kernel)) (fun _ _ _ _ _ => pg_tup rfl (pgs_cons (pg_name (i := 10) sc__law_square_right.nd rfl (Or.inl rfl)) (pgs_cons (pg_name (i := 11) sc__law_square_right.nd rfl (Or.inl rfl)) pgs_nil))) (fun _ _ _ _ _ => pts_nil) (fun _ _ _ _ _ => pe_tup (pa_cons (pe_op (show OpR _ _ (rI0 fun i j => .int (i - j)) from op_sub) (pv 6) pe_int) (pa_cons (pv 11) pa_nil))))))
      (pss_cons (ps_for (passes_of rfl) rfl (pi_list (pe_lc (own := [("dot", 9)]) (g := gName 9) rfl sc__law_square_right.nd (pi_list (pe_op op_cat (pv 8) (pe_lst (pa_cons (pe_tup (pa_cons (pe_op op_sub (pv 6) pe_int) (pa_cons (pe_op op_sub (pv 7) pe_int) pa_nil))) pa_nil)))) (blkOk_by (own := [("dot", 9)]) (N := ["scope", "form", "square", "ends", "every", "told", "top", "left", "dots", "dot", "y", "x"]) (sc := defScope s__law_square_right) (by decide +kernel))
          (fun _ _ _ _ _ => pg_name (i := 9) sc__law_square_right.nd rfl (Or.inl rfl)) (fun _ _ _ _ _ => pts_one (pt_cmpR op_ge (pe_callB (show CallR _ _ (rMinT K) from cr_minT rfl (hu2 hr)) (by rfl) T.b_min PyProof.Rows.boot_min (pa_cons (pv 9) pa_nil)) pe_int (nomark _))) (fun _ _ _ _ _ => pv 9))) (pg_name (i := 9) sc__law_square_right.nd rfl (by first | exact .inl rfl | exact .inr rfl))
        (pss_one (ps_if (pt_cmpR op_ge (pe_bm PySem.F.plainAttrs_list PySem.F.slot_list_index PySem.F.type_list_index (mt_indexD (hu65 hr)) (pv 4) (pa_cons (pe_tup (pa_cons (pe_op op_mul (pe_op op_fdiv (pe_ix ix_tup (pv 9) pe_int (fun _ _ => rfl)) pe_int) pe_int) (pa_cons (pe_op op_mul (pe_op op_fdiv (pe_ix ix_tup (pv 9) pe_int (fun _ _ => rfl)) pe_int) pe_int) (pa_cons pe_int pa_nil)))) pa_nil)) (pe_ix ix_tup (pv 3) pe_int (fun _ _ => rfl)) (nomark _)) (pss_one (ps_ret pe_bl)) pss_nil)))
      (pss_one (ps_ret pe_bl))))))))))), ?_⟩
    have hb := sc.b
    obtain ⟨z1, z2, z3, z4⟩ := (told_sm v hb.2.1 hb.2.2.2).repr (by decide) (by decide)
    have s64 : 300 < sizeLine := by decide
    have dl := dots_len v
    have pl := parts_len (h := h) (w := wn) (b := b)
    refine ⟨_, rfl, _, rfl, a, p, b, h, wn, rfl, sc, hp, v, fun qd H1 s1 ed => ⟨_, rfl, a, h, wn, rfl, sc.keep s1, fun qe ue H2 s2 ne le re => ⟨_, _, rfl, ?_⟩⟩⟩
    have s12 := s1.trans s2
    have sc := sc.keep s12
    have shp := shp.keep s12
    have hp := s12 _ _ hp
    have ed := s2 _ _ ed
    have k : ∀ H', Same H2 H' → Q (.bl true) H' := fun H' s => k H' (s12.trans s)
    have s0 := Same.refl H2
    clear s12 s1 s2 ne
    -- told, A
    refine ⟨_, rfl, _, rfl, f, .ref p, rfl, .inl ⟨h, wn, shp.keep s0, some (bkV b), rw_of (s0 _ _ hp), blk_no v, fun p' b' e1 e2 _ => ?_⟩⟩
    obtain rfl := blk_same (s0 _ _ hp) e1 e2
    clear e1 e2 p'
    intro q1A u1A HaA saA n1A l1A r1A
    have sb0 := s0.trans saA
    refine ⟨_, rfl, _, rfl, f, .ref p, rfl, .inl ⟨h, wn, shp.keep sb0, some (bkV b), rw_of (sb0 _ _ hp), blk_no v, fun p' b' e1 e2 _ => ?_⟩⟩
    obtain rfl := blk_same (sb0 _ _ hp) e1 e2
    clear e1 e2 p'
    intro q2A u2A HbA sbA n2A l2A r2A
    have sc0 := sb0.trans sbA
    refine ⟨_, rfl, _, rfl, f, .ref p, rfl, .inl ⟨h, wn, shp.keep sc0, some (bkV b), rw_of (sc0 _ _ hp), blk_no v, fun p' b' e1 e2 _ => ?_⟩⟩
    obtain rfl := blk_same (sc0 _ _ hp) e1 e2
    clear e1 e2 p'
    intro q3A HcA scA e3A
    refine ⟨(by show 3 ≤ sizeLine; decide), fun LA hLA => ?_⟩
    clear sb0 sc0
    have tLA := Same.new (o := .lst [V.ref q1A, .ref q2A, .ref q3A]) hLA
    have eLA : (upd HcA LA (.lst [V.ref q1A, .ref q2A, .ref q3A])) LA = some (.lst [V.ref q1A, .ref q2A, .ref q3A]) := upd_same
    have d1LA : q1A ≠ LA := ne_of_none (scA _ _ (sbA _ _ l1A)) hLA
    have d12A : q1A ≠ q2A := ne_of_none l1A n2A
    generalize upd HcA LA (.lst [V.ref q1A, .ref q2A, .ref q3A]) = HdA at tLA eLA ⊢
    have f1A := s0.free n1A
    have f2A := (s0.trans saA).free n2A
    have sdA := s0.trans (saA.trans (sbA.trans (scA.trans tLA)))
    have l1A := (sbA.trans (scA.trans tLA)) _ _ l1A
    have r1A := r1A.same (sbA.trans (scA.trans tLA))
    have l2A := (scA.trans tLA) _ _ l2A
    have r2A := r2A.same (scA.trans tLA)
    have e3A := tLA _ _ e3A
    refine ⟨_, rfl, LA, toldD h wn b, rfl, told_dp eLA l1A r1A l2A r2A e3A, z1, z2, z3, z4, ?_⟩
    refine ⟨_, rfl, _, rfl, a, p, b, h, wn, rfl, sc.keep sdA, sdA _ _ hp, v, fun q4A u4A HeA seA n4A l4A r4A => ⟨_, rfl, _, rfl, a, p, b, h, wn, rfl, (sc.keep sdA).keep seA, seA _ _ (sdA _ _ hp), v, fun q5A u5A HfA sfA n5A l5A r5A => ⟨_, rfl, (by show 3 ≤ sizeLine; decide), fun MA hMA => ?_⟩⟩⟩
    have tMA := Same.new (o := .lst [V.ref q4A, .ref q5A, .ref qd]) hMA
    have eMA : (upd HfA MA (.lst [V.ref q4A, .ref q5A, .ref qd])) MA = some (.lst [V.ref q4A, .ref q5A, .ref qd]) := upd_same
    generalize upd HfA MA (.lst [V.ref q4A, .ref q5A, .ref qd]) = HgA at tMA eMA ⊢
    have sgA := seA.trans (sfA.trans tMA)
    have s2gA := sdA.trans sgA
    refine ⟨MA, toldD h wn b, rfl, told_dp eMA ((sfA.trans tMA) _ _ l4A) (r4A.same (sfA.trans tMA)) (tMA _ _ l5A) (r5A.same tMA) (s2gA _ _ ed), z1, z2, z3, z4, rfl, _, rfl, ?_⟩
    rw [decide_eq_true rfl]
    refine iteF ?_
    -- None is put behind
    refine ⟨_, rfl, LA, _, 0, _, rfl, rfl, SqL.of (sgA _ _ eLA), atI_nat (j := 0) rfl, .inl ⟨rfl, _, SqL.of (sgA _ _ l1A)⟩, q1A, u1A, .non, rfl, rfl, sgA _ _ l1A, by rw [r1A.1]; exact Nat.lt_of_le_of_lt dl (by decide), ?_⟩
    have sh := K04.Same.put (D := q1A) (o := .lst (u1A ++ [.non])) s2gA f1A
    have eLh : (upd HgA q1A (.lst (u1A ++ [.non]))) LA = some (.lst [V.ref q1A, .ref q2A, .ref q3A]) := (upd_ne d1LA.symm).trans (sgA _ _ eLA)
    have l2h : (upd HgA q1A (.lst (u1A ++ [.non]))) q2A = some (.lst u2A) := (upd_ne d12A.symm).trans (sgA _ _ l2A)
    generalize upd HgA q1A (.lst (u1A ++ [.non])) = Hh at sh eLh l2h ⊢
    refine ⟨_, rfl, LA, _, 1, _, rfl, rfl, SqL.of eLh, atI_nat (j := 1) rfl, .inl ⟨rfl, _, SqL.of l2h⟩, q2A, u2A, .non, rfl, rfl, l2h, by rw [r2A.1]; exact Nat.lt_of_le_of_lt pl (by decide), ?_⟩
    have si := K04.Same.put (D := q2A) (o := .lst (u2A ++ [.non])) sh f2A
    generalize upd Hh q2A (.lst (u2A ++ [.non])) = Hi at si ⊢
    -- told, B
    refine ⟨_, rfl, _, rfl, rfl, f, .ref p, rfl, .inl ⟨h, wn, shp.keep si, some (bkV b), rw_of (si _ _ hp), blk_no v, fun p' b' e1 e2 _ => ?_⟩⟩
    obtain rfl := blk_same (si _ _ hp) e1 e2
    clear e1 e2 p'
    intro q1B u1B HaB saB n1B l1B r1B
    have sb0 := si.trans saB
    refine ⟨_, rfl, _, rfl, rfl, f, .ref p, rfl, .inl ⟨h, wn, shp.keep sb0, some (bkV b), rw_of (sb0 _ _ hp), blk_no v, fun p' b' e1 e2 _ => ?_⟩⟩
    obtain rfl := blk_same (sb0 _ _ hp) e1 e2
    clear e1 e2 p'
    intro q2B u2B HbB sbB n2B l2B r2B
    have sc0 := sb0.trans sbB
    refine ⟨_, rfl, _, rfl, rfl, f, .ref p, rfl, .inl ⟨h, wn, shp.keep sc0, some (bkV b), rw_of (sc0 _ _ hp), blk_no v, fun p' b' e1 e2 _ => ?_⟩⟩
    obtain rfl := blk_same (sc0 _ _ hp) e1 e2
    clear e1 e2 p'
    intro q3B HcB scB e3B
    refine ⟨(by show 3 ≤ sizeLine; decide), fun LB hLB => ?_⟩
    clear sb0 sc0
    have tLB := Same.new (o := .lst [V.ref q1B, .ref q2B, .ref q3B]) hLB
    have eLB : (upd HcB LB (.lst [V.ref q1B, .ref q2B, .ref q3B])) LB = some (.lst [V.ref q1B, .ref q2B, .ref q3B]) := upd_same
    have d1LB : q1B ≠ LB := ne_of_none (scB _ _ (sbB _ _ l1B)) hLB
    have d12B : q1B ≠ q2B := ne_of_none l1B n2B
    generalize upd HcB LB (.lst [V.ref q1B, .ref q2B, .ref q3B]) = HdB at tLB eLB ⊢
    have f1B := si.free n1B
    have f2B := (si.trans saB).free n2B
    have sdB := si.trans (saB.trans (sbB.trans (scB.trans tLB)))
    have l1B := (sbB.trans (scB.trans tLB)) _ _ l1B
    have r1B := r1B.same (sbB.trans (scB.trans tLB))
    have l2B := (scB.trans tLB) _ _ l2B
    have r2B := r2B.same (scB.trans tLB)
    have e3B := tLB _ _ e3B
    refine ⟨_, rfl, LB, toldD h wn b, rfl, told_dp eLB l1B r1B l2B r2B e3B, z1, z2, z3, z4, ?_⟩
    refine ⟨_, rfl, _, rfl, a, p, b, h, wn, rfl, sc.keep sdB, sdB _ _ hp, v, fun q4B u4B HeB seB n4B l4B r4B => ⟨_, rfl, _, rfl, a, p, b, h, wn, rfl, (sc.keep sdB).keep seB, seB _ _ (sdB _ _ hp), v, fun q5B u5B HfB sfB n5B l5B r5B => ⟨_, rfl, (by show 3 ≤ sizeLine; decide), fun MB hMB => ?_⟩⟩⟩
    have tMB := Same.new (o := .lst [V.ref q4B, .ref q5B, .ref qd]) hMB
    have eMB : (upd HfB MB (.lst [V.ref q4B, .ref q5B, .ref qd])) MB = some (.lst [V.ref q4B, .ref q5B, .ref qd]) := upd_same
    generalize upd HfB MB (.lst [V.ref q4B, .ref q5B, .ref qd]) = HgB at tMB eMB ⊢
    have sgB := seB.trans (sfB.trans tMB)
    have s2gB := sdB.trans sgB
    refine ⟨MB, toldD h wn b, rfl, told_dp eMB ((sfB.trans tMB) _ _ l4B) (r4B.same (sfB.trans tMB)) (tMB _ _ l5B) (r5B.same tMB) (s2gB _ _ ed), z1, z2, z3, z4, rfl, _, rfl, ?_⟩
    rw [decide_eq_true rfl]
    refine iteF ?_
    clear sgA l1A r1A l2A r2A e3A sdA f1A f2A l1B r1B l2B r2B e3B sdB f1B f2B sgB
    have s3 := s2gB
    refine ⟨_, rfl, p, _, 0, _, rfl, rfl, SqT.of (s3 _ _ hp), atI_nat (j := 0) rfl, _, rfl, p, _, 1, _, rfl, rfl, SqT.of (s3 _ _ hp), atI_nat (j := 1) rfl, (by show 2 ≤ sizeLine; decide), fun z hz => ⟨z, _, rfl, SqT.of upd_same, rfl, _, _, rfl, _, _, rfl, rfl, ?_⟩⟩
    have tz := Same.new (o := .tup [V.int (b.t : Int), .int (b.l : Int)]) hz
    have s4 := s3.trans tz
    generalize upd HgB z (.tup [V.int (b.t : Int), .int (b.l : Int)]) = H4 at s4 ⊢
    clear tz s3
    refine ⟨_, rfl, _, rfl, a, p, b, h, wn, rfl, sc.keep s4, s4 _ _ hp, v, fun qP uP HP sP nP lP rP => ⟨qP, rfl, ⟨_, SqL.of lP⟩, fun DP hDP => lc_it walk_list (fun i H' => NI idV HP DP (((dotsB h wn b).take i).map fun d => ((d.1 : Int), ((b.l : Nat) : Int) - 1)) H') (NI.new hDP) (fun _ H' _ q' => SqL.of (q'.s _ _ lP)) ?_ ?_⟩⟩
    · rintro i x Hq Hr hi n ⟨rfl, hx⟩
      obtain ⟨pd, d, rfl, hd, ed'⟩ := (rP.same n.s).get hx
      refine ⟨pd, _, rfl, SqT.of ed', rfl, _, _, rfl, _, _, rfl, rfl, ?_⟩
      refine ⟨rfl, ?_⟩
      dsimp only [tYes]
      rw [if_pos rfl]
      refine ⟨_, rfl, _, rfl, _, _, rfl, rfl, (by show 2 ≤ sizeLine; decide), fun y hy => ?_⟩
      have ty := Same.new (o := .tup [V.int (d.1 : Int), .int (((b.l : Nat) : Int) - 1)]) hy
      obtain ⟨acc, e1, e2, e3⟩ := (n.same ty).push (a := ((d.1 : Int), ((b.l : Nat) : Int) - 1)) hDP (by rw [List.length_map, List.length_take]; omega) ⟨y, rfl, upd_same⟩
      refine ⟨acc, e1, e2, ?_⟩
      rw [List.take_add_one, hd, List.map_append]
      exact e3
    rintro HHP ⟨wP, eP, rlP, tP⟩
    rw [List.take_of_length_le (by rw [rP.1]; exact Nat.le_refl _)] at rlP
    have s5 := s4.trans (sP.trans tP)
    refine ⟨_, rfl, _, rfl, a, p, b, h, wn, rfl, sc.keep s5, s5 _ _ hp, v, fun qR uR HR sR nR lR rR => ⟨qR, rfl, ⟨_, SqL.of lR⟩, fun DR hDR => lc_it walk_list (fun i H' => NI idV HR DR (((dotsB h wn b).take i).map fun d => (((b.t : Nat) : Int) - 1, (d.2 : Int))) H') (NI.new hDR) (fun _ H' _ q' => SqL.of (q'.s _ _ lR)) ?_ ?_⟩⟩
    · rintro i x Hq Hr hi n ⟨rfl, hx⟩
      obtain ⟨pd, d, rfl, hd, ed'⟩ := (rR.same n.s).get hx
      refine ⟨pd, _, rfl, SqT.of ed', rfl, _, _, rfl, _, _, rfl, rfl, ?_⟩
      refine ⟨rfl, ?_⟩
      dsimp only [tYes]
      rw [if_pos rfl]
      refine ⟨_, rfl, _, _, rfl, rfl, _, rfl, (by show 2 ≤ sizeLine; decide), fun y hy => ?_⟩
      have ty := Same.new (o := .tup [V.int (((b.t : Nat) : Int) - 1), .int (d.2 : Int)]) hy
      obtain ⟨acc, e1, e2, e3⟩ := (n.same ty).push (a := (((b.t : Nat) : Int) - 1, (d.2 : Int))) hDR (by rw [List.length_map, List.length_take]; omega) ⟨y, rfl, upd_same⟩
      refine ⟨acc, e1, e2, ?_⟩
      rw [List.take_add_one, hd, List.map_append]
      exact e3
    rintro HHR ⟨wR, eR, rlR, tR⟩
    rw [List.take_of_length_le (by rw [rR.1]; exact Nat.le_refl _)] at rlR
    have s6 := s5.trans (sR.trans tR)
    have eP := (sR.trans tR) _ _ eP
    have rlP := rlP.same (sR.trans tR)
    have lnP := rlP.1
    have lnR := rlR.1
    rw [List.length_map] at lnP lnR
    refine ⟨DP, DR, wP, wR, rfl, rfl, eP, eR, by omega, fun g hg => ?_⟩
    have tg := Same.new (o := .lst (wP ++ wR)) hg
    have eg : (upd HHR g (.lst (wP ++ wR))) g = some (.lst (wP ++ wR)) := upd_same
    have rg := (rlP.append rlR).same tg
    have s7 := s6.trans tg
    generalize upd HHR g (.lst (wP ++ wR)) = H7 at eg rg s7 ⊢
    refine ⟨_, rfl, _, rfl, _, _, rfl, rfl, _, rfl, _, _, rfl, rfl, (by show 2 ≤ sizeLine; decide), fun z1 hz1 => ?_⟩
    have t1 := Same.new (o := .tup [V.int (((b.t : Nat) : Int) - 1), .int (((b.l : Nat) : Int) - 1)]) hz1
    have e1 : (upd H7 z1 (.tup [V.int (((b.t : Nat) : Int) - 1), .int (((b.l : Nat) : Int) - 1)])) z1 = some (.tup [V.int (((b.t : Nat) : Int) - 1), .int (((b.l : Nat) : Int) - 1)]) := upd_same
    refine ⟨(by show 1 ≤ sizeLine; decide), fun z2 hz2 => ?_⟩
    have t2 := Same.new (o := .lst [V.ref z1]) hz2
    have t12 := t1.trans t2
    refine ⟨g, z2, wP ++ wR, [.ref z1], rfl, rfl, t12 _ _ eg, upd_same, by rw [List.length_append]; show _ + 1 ≤ _; omega, fun z3 hz3 => ?_⟩
    have t3 := Same.new (o := .lst (wP ++ wR ++ [V.ref z1])) hz3
    have t13 := t12.trans t3
    have e3 : (upd (upd (upd H7 z1 (.tup [V.int (((b.t : Nat) : Int) - 1), .int (((b.l : Nat) : Int) - 1)])) z2 (.lst [V.ref z1])) z3 (.lst (wP ++ wR ++ [V.ref z1]))) z3 = some (.lst (wP ++ wR ++ [V.ref z1])) := upd_same
    have rb : RL idV (upd (upd (upd H7 z1 (.tup [V.int (((b.t : Nat) : Int) - 1), .int (((b.l : Nat) : Int) - 1)])) z2 (.lst [V.ref z1])) z3 (.lst (wP ++ wR ++ [V.ref z1]))) (wP ++ wR ++ [V.ref z1]) (besides h wn b) := (rg.same t13).append (RL.one (f := idV) (a := (((b.t : Nat) : Int) - 1, ((b.l : Nat) : Int) - 1)) ⟨z1, rfl, (t2.trans t3) _ _ e1⟩)
    have s8 := s7.trans t13
    generalize upd (upd (upd H7 z1 (.tup [V.int (((b.t : Nat) : Int) - 1), .int (((b.l : Nat) : Int) - 1)])) z2 (.lst [V.ref z1])) z3 (.lst (wP ++ wR ++ [V.ref z1])) = H8 at e3 rb s8 ⊢
    have bl : (besides h wn b).length ≤ 129 := by
      unfold besides
      simp only [List.length_append, List.length_map, List.length_singleton]
      omega
    refine ⟨z3, rfl, ⟨_, SqL.of e3⟩, fun D hD => lc_it walk_list (fun i H' => NI idV H8 D (((besides h wn b).take i).filter inB) H') (NI.new hD) (fun _ H' _ q' => SqL.of (q'.s _ _ e3)) ?_ ?_⟩
    · rintro i x Hq Hr hi n ⟨rfl, hx⟩
      obtain ⟨pd, d, rfl, hd, ed'⟩ := (rb.same n.s).get hx
      refine ⟨rfl, ?_⟩
      refine ⟨_, rfl, pd, [d.1, d.2], rfl, SqT.of ed', (by show 0 < 2; decide), fun m hm hle => ⟨_, _, rfl, rfl, _, rfl, ?_⟩⟩
      have m1 := hle d.1 (by simp)
      have m2 := hle d.2 (by simp)
      have al : (((besides h wn b).take i).filter inB).length ≤ 129 := Nat.le_trans (List.length_filter_le _ _) (by rw [List.length_take]; omega)
      rw [List.take_add_one, hd, List.filter_append]
      have e1 : ((some d).toList.filter inB) = if inB d = true then [d] else [] := filt_one inB d
      rw [e1]
      by_cases c : 0 ≤ m
      · rw [decide_eq_true c]
        have cb : inB d = true := decide_eq_true ⟨by omega, by omega⟩
        rw [if_pos cb]
        obtain ⟨acc, e1, e2, e3⟩ := n.push (v := .ref pd) (a := d) hD (by omega) ⟨pd, rfl, ed'⟩
        exact iteT ⟨_, rfl, acc, e1, e2, e3⟩
      · rw [decide_eq_false c]
        have cb : inB d = false := decide_eq_false fun z => by
          simp only [List.mem_cons, List.not_mem_nil, or_false] at hm
          rcases hm with rfl | rfl <;> omega
        rw [cb, if_neg Bool.false_ne_true, List.append_nil]
        exact iteF n
    rintro H9 ⟨ws, ews, rws, s9⟩
    rw [List.take_of_length_le (by rw [rb.1]; exact Nat.le_refl _)] at rws
    have s10 := s8.trans s9
    refine ⟨D, rfl, ⟨_, SqL.of ews⟩, for_it walk_list (fun i σ H' => (∃ v9, σ = [some (.ref a), some f, some (.ref p), some (.ref qd), some (.ref qe), some (.ref LB), some (.int (b.t : Int)), some (.int (b.l : Int)), some (.ref g), v9, none, none]) ∧ Same H9 H') ⟨⟨none, rfl⟩, Same.refl _⟩ (fun _ _ H' _ q' => SqL.of (q'.2 _ _ ews)) ?_ fun σ H' q' => ?_⟩
    · rintro i x σ Hq Hr hi ⟨⟨v9, rfl⟩, s11⟩ ⟨rfl, hx⟩
      obtain ⟨pd, d, rfl, hd, ed'⟩ := (rws.same s11).get hx
      obtain ⟨y, x, j, rfl, hy, hx', hc, hj⟩ := besides_ahead v hb.2.2.2 (List.mem_of_getElem? hd)
      have s12 := s10.trans s11
      clear hd hx
      refine ⟨_, rfl, .inl ⟨rfl, _, SqL.of (s12 _ _ le)⟩, _, rfl, pd, _, 0, _, rfl, rfl, SqT.of ed', atI_nat (j := 0) rfl, _, _, rfl, rfl, ⟨by decide, by decide⟩, ?_⟩
      dsimp only
      rw [show ((y : Nat) : Int) / 2 = ((y / 2 : Nat) : Int) by omega]
      refine ⟨_, _, rfl, rfl, .inl ⟨by omega, by omega⟩, ?_⟩
      dsimp only
      rw [show ((y / 2 : Nat) : Int) * 2 = ((y / 2 * 2 : Nat) : Int) by omega]
      refine ⟨_, rfl, pd, _, 1, _, rfl, rfl, SqT.of ed', atI_nat (j := 1) rfl, _, _, rfl, rfl, ⟨by decide, by decide⟩, ?_⟩
      dsimp only
      rw [show ((x : Nat) : Int) / 2 = ((x / 2 : Nat) : Int) by omega]
      refine ⟨_, _, rfl, rfl, .inl ⟨by omega, by omega⟩, ?_⟩
      dsimp only
      rw [show ((x / 2 : Nat) : Int) * 2 = ((x / 2 * 2 : Nat) : Int) by omega]
      refine ⟨(by show 3 ≤ sizeLine; decide), fun z hz => ?_⟩
      have tz := Same.new (o := .tup [V.int ((y / 2 * 2 : Nat) : Int), .int ((x / 2 * 2 : Nat) : Int), .int 2]) hz
      have ez : (upd Hr z (.tup [V.int ((y / 2 * 2 : Nat) : Int), .int ((x / 2 * 2 : Nat) : Int), .int 2])) z = some (.tup (bkV ⟨y / 2 * 2, x / 2 * 2, 2⟩)) := upd_same
      generalize upd Hr z (.tup [V.int ((y / 2 * 2 : Nat) : Int), .int ((x / 2 * 2 : Nat) : Int), .int 2]) = Hs at tz ez ⊢
      have s13 := s12.trans tz
      show tNil _ Hs _
      unfold tNil
      show rIndexD K (.ref qe) [.ref z] Hs _
      refine index_all (s13 _ _ le) (re.same s13) ez hc ?_
      refine ⟨_, rfl, qd, _, 0, _, rfl, rfl, SqT.of (s13 _ _ ed), atI_nat (j := 0) rfl, _, _, rfl, rfl, _, rfl, ?_⟩
      rw [decide_eq_false (show ¬ ((placeB h wn b : Nat) : Int) ≤ ((j : Nat) : Int) by omega)]
      exact iteF ⟨⟨some (.ref pd), rfl⟩, s11.trans tz⟩
    · obtain ⟨_, s11⟩ := q'
      exact k _ (s10.trans s11)
end
end K04
namespace K04
open PySem PySem.Spec PyProof.Rows L2 PySem.W LamX KA KW KU KL
open Evl (pss_cut tCut)
/-- the code object of a def that makes lambdas, and its table -/
structure LamT (K : PySem.W.Frag) (x : Str) (st : Stmt) (a : Addr) (d : FuncData) (c P : Addr) : Prop where
  ex : ∃ (oc : Value) (od : Option Addr) (kV doc pm : Value) (an : Option Addr) (ct : Value) (osl : Array (Option Value)),
    d = PySem.W.fnOf x x (defArgs st) (defBody st) (defScope st) .none kV doc pm an (.ref c) ct ∧ K.lookup a = some ⟨oc, od, .func d, osl⟩ ∧ PySem.W.codeIn K (.ref c) x = true
/-- all but the state and the tables stands as it stood -/
def KpN (st lg : Addr) (H H' : Hp) : Prop := ∀ b o, H b = some o → b ≠ st → b ≠ lg → (∀ ps, o ≠ .tbl ps) → H' b = some o
theorem KpN.refl {st lg : Addr} {H : Hp} : KpN st lg H H := fun _ _ h _ _ _ => h
theorem KpN.trans {st lg : Addr} {H H1 H2 : Hp} (a : KpN st lg H H1) (b : KpN st lg H1 H2) : KpN st lg H H2 := fun c o h n1 n2 n3 => b c o (a c o h n1 n2 n3) n1 n2 n3
theorem KpN.kp {st lg : Addr} {H H1 : Hp} (a : Kp st lg H H1) : KpN st lg H H1 := fun c o h n1 n2 _ => a c o h n1 n2
theorem KpN.ext {st lg : Addr} {H H1 : Hp} (a : ExtN H H1) : KpN st lg H H1 := fun c o h _ _ n => a c o h n
theorem KpN.new {st lg p : Addr} {H : Hp} {o : HO} (h : H p = none) : KpN st lg H (upd H p o) := .kp (.same (Same.new h))
abbrev lamQ : Str := (envOfC "_law_refused" (defScope s__law_refused) 0 0 .none).qual ++ "<lambda>"
abbrev lawQ : Str := (envOfC "law" (defScope s_law) 0 0 .none).qual ++ "<lambda>"
abbrev tabs (Pt Pt2 : Addr) : List (Addr × Str) := [(Pt, lamQ), (Pt2, lawQ)]
theorem tabs_kp {st lg cl : Addr} {n : Nat} {L : List (Addr × Str)} {H H' : Hp} (t : Tabs L H) (S : StAt H st lg cl n) (e : Kp st lg H H') : Tabs L H' := by
  obtain ⟨_, _, _, _, S', _⟩ := S
  intro p hp
  obtain ⟨ps, h1, h2, h3⟩ := t p hp
  refine ⟨ps, e _ _ h1 (ne_of h1 S'.d (by intro z; cases z)) (ne_of h1 S'.l (by intro z; cases z)), h2, fun pos cv hc => ?_⟩
  obtain ⟨c, e1, e2⟩ := h3 pos cv hc
  exact ⟨c, e1, e _ _ e2 (ne_of e2 S'.d (by intro z; unfold CodeO at z; cases z)) (ne_of e2 S'.l (by intro z; unfold CodeO at z; cases z))⟩
theorem stAt_ext {H H' : Hp} {st lg cl : Addr} {n : Nat} (S : StAt H st lg cl n) (e : ExtN H H') : StAt H' st lg cl n := by
  obtain ⟨a, b, c, d, s, h⟩ := S
  exact ⟨a, b, c, d, { s with d := e _ _ s.d (fun _ z => by cases z), l := e _ _ s.l (fun _ z => by cases z), c := e _ _ s.c (fun _ z => by cases z) }, h⟩
theorem exV_tbl {c : Value} {d : Option Addr} {a : Addr} (ps : Array Value) : ExV c d a ≠ .tbl ps := fun z => by
  unfold ExV at z
  cases z
theorem exV_lst {c : Value} {d : Option Addr} {a : Addr} (xs : List V) : ExV c d a ≠ .lst xs := fun z => by
  unfold ExV at z
  cases z
theorem kit_self {K : PySem.W.Frag} {C : Addr} : PySem.W.kitOne K (.ref C) (.ref C) = some true := by
  unfold PySem.W.kitOne
  rw [if_pos (by simp)]
theorem ite_same {x : V} {A B : Prop} {d : Decidable (x = x)} (h : B) : if (!@decide (x = x) d) = true then A else B := by
  rw [if_neg (by simp)]
  exact h
theorem pair_fits {i j : Int} (h1 : -65535 ≤ i) (h2 : i ≤ 65535) (h3 : -65535 ≤ j) (h4 : j ≤ 65535) : (PyData.tuple [.int i, .int j]).showable = true ∧ (PyData.tuple [.int i, .int j]).hasDict = false ∧ (PyData.tuple [.int i, .int j]).depth ≤ 60 ∧ (PyData.tuple [.int i, .int j]).shown.length ≤ sizeLine := by
  obtain ⟨a, b, c⟩ := int_small h1 h2
  obtain ⟨a', b', c'⟩ := int_small h3 h4
  refine ⟨by simp [PyData.showable, PyData.showableAll] at c c' ⊢; exact ⟨c, c'⟩, by simp [PyData.hasDict, PyData.hasDictAll], by simp [PyData.depth, PyData.depthAll], small_fits (by simp [PyData.leavesShort, PyData.leavesShortAll] at a a' ⊢; exact ⟨a, a'⟩) ?_⟩
  simp only [PyData.weight, PyData.weightAll] at b b' ⊢
  have : (2 : Nat) ^ 20 = 1048576 := by decide
  omega
/-- the law's code object, and its table: FnG of a def that makes lambdas -/
theorem fnG_ofC {CX : CXT} {P : Program} {w : World} {K : PySem.W.Frag} {mg : Str → Option Value} {base : Heap} {k : Nat} {f c Pt : Addr} {x : Str} {st : Stmt} {fd : FuncData} {N ps : List Str} {sp : Sp} (LT : LamT K x st f fd c Pt) (S : FnScope N ps (defScope st))
    (len : ∀ vs H Q E, sp vs H Q E → vs.length = ps.length)
    (hbody : ∀ (A : Around) (outer : List Env) (s : Shared) (H : Hp) (vs : List V) (Q : VK) (E : XK), Room k (A.deeper (envOfC x (defScope st) s.heap.objs.size f (.ref c))) → A.guards = some [] → sp vs H Q E →
      ∃ t, PSs (cxOf CX P w K mg base N x (defScope st) f (.ref c) A outer s H E) (defBody st) t ∧ t { nx := fun _ H' => Q .non H', rt := Q } (L2.start N vs) H) : FnG P w K mg base CX (k + 1) f fd ps sp := by
  obtain ⟨oc, od, kV, doc, pm, an, ct, osl, rfl, lk, hcd⟩ := LT.ex
  exact ⟨len, fun A outer s H args us vs Q E hr hg e0 hb r h => run_ofS lk hcd S hr e0 hb r (len _ _ _ _ h) fun hr' => hbody A outer s H vs Q E hr' hg h⟩
/-! ### the lambdas of _law_refused -/
def lamP : Expr → Arguments
  | .Lambda p _ _ _ => p
  | _ => ⟨[], [], none, [], [], none, []⟩
def lamB : Expr → Expr
  | .Lambda _ b _ _ => b
  | e => e
def lamSc : Expr → Scope
  | .Lambda _ _ s _ => s
  | _ => defScope s__law_refused
def itOf : Stmt → Expr
  | .For _ it _ _ _ => it
  | _ => .Constant .none 0 ⟨0, 0, 0, 0⟩
def valOf : Stmt → Expr
  | .Assign _ v _ => v
  | _ => .Constant .none 0 ⟨0, 0, 0, 0⟩
def elt : Expr → Nat → Expr
  | .List es _, i => es.getD i (.Constant .none 0 ⟨0, 0, 0, 0⟩)
  | e, _ => e
def rgt : Expr → Expr
  | .BinOp _ _ r _ => r
  | e => e
def stR (i : Nat) : Stmt := (defBody s__law_refused).getD i (.Pass ⟨0, 0, 0, 0⟩)
abbrev e10 : Expr := elt (itOf (stR 2)) 0
abbrev e11 : Expr := elt (itOf (stR 2)) 1
abbrev e20 : Expr := elt (itOf (stR 3)) 0
abbrev e21 : Expr := elt (itOf (stR 3)) 1
abbrev e30 : Expr := elt (valOf (stR 4)) 0
abbrev e31 : Expr := elt (valOf (stR 4)) 1
abbrev e32 : Expr := elt (rgt (itOf (stR 5))) 0
abbrev e40 : Expr := elt (valOf (stR 6)) 0
abbrev e41 : Expr := elt (valOf (stR 6)) 1
abbrev e42 : Expr := elt (rgt (itOf (stR 7))) 0
theorem ok_nil {X : Cx} {kb : Nat} : ∀ l ∈ ([] : List LamD), LamOk X kb l := fun _ h => nomatch h
theorem ok_cons {X : Cx} {kb : Nat} {l : LamD} {ls : List LamD} (h : LamOk X kb l) (r : ∀ l ∈ ls, LamOk X kb l) : ∀ x ∈ l :: ls, LamOk X kb x := fun x hx => by
  rcases List.mem_cons.mp hx with e | e
  · rw [e]
    exact h
  · exact r x e
/-- what stands while lambdas are called -/
structure Bun (Pt Pt2 st lg cl : Addr) (m : Nat) (H0 H : Hp) (fa : Addr) (F : HO) : Prop where
  S : StAt H st lg cl m
  Tb : Tabs (tabs Pt Pt2) H
  F : H fa = some F
  k : KpN st lg H0 H
theorem Bun.same {Pt Pt2 st lg cl : Addr} {m : Nat} {H0 H H' : Hp} {fa : Addr} {F : HO} (B : Bun Pt Pt2 st lg cl m H0 H fa F) (e : Same H H') : Bun Pt Pt2 st lg cl m H0 H' fa F := ⟨B.S.same e, B.Tb.ext e, e _ _ B.F, B.k.trans (.kp (.same e))⟩
theorem Bun.ext {Pt Pt2 st lg cl : Addr} {m : Nat} {H0 H H' : Hp} {fa : Addr} {F : HO} (B : Bun Pt Pt2 st lg cl m H0 H fa F) (nt : ∀ tb, F ≠ .tbl tb) (e : ExtN H H') (T : Tabs (tabs Pt Pt2) H') : Bun Pt Pt2 st lg cl m H0 H' fa F := ⟨stAt_ext B.S e, T, e _ _ B.F nt, B.k.trans (.ext e)⟩
/-- a lambda stands -/
structure Lm (H : Hp) (f c' : Addr) (L : HO) (q : Str) : Prop where
  f : H f = some L
  c : H c' = some (CodeO c' q)
theorem Lm.same {H H' : Hp} {f c' : Addr} {L : HO} {q : Str} (l : Lm H f c' L q) (e : Same H H') : Lm H' f c' L q := ⟨e _ _ l.f, e _ _ l.c⟩
theorem Lm.ext {H H' : Hp} {f c' : Addr} {L : HO} {q : Str} (l : Lm H f c' L q) (nt : ∀ ps, L ≠ .tbl ps) (e : ExtN H H') : Lm H' f c' L q := ⟨e _ _ l.f nt, e _ _ l.c codeO_ne⟩
/-- a further lambda is made -/
theorem lam_step {Pt Pt2 st lg cl : Addr} {m : Nat} {H0 H Ha : Hp} {fa f1 c1 : Addr} {F L1 : HO} {q : Str} (B : Bun Pt Pt2 st lg cl m H0 H fa F) (nt : ∀ tb, F ≠ .tbl tb) (ea : ExtN H Ha) (Ta : Tabs (tabs Pt Pt2) Ha) (hf1 : Ha f1 = none) (hc1 : Ha c1 = some (CodeO c1 q)) :
    Bun Pt Pt2 st lg cl m H0 (upd Ha f1 L1) fa F ∧ Lm (upd Ha f1 L1) f1 c1 L1 q := ⟨(B.ext nt ea Ta).same (Same.new hf1), upd_same, (Same.new hf1) _ _ hc1⟩
end K04
namespace K04
/-! ### the blocks of one place, among all -/
theorem at_nodup (c : Bk) : (blocksAt c).Nodup := by
  unfold blocksAt sizesL
  refine List.Pairwise.map _ (fun a b ne e => ne ?_) (List.Pairwise.filter _ (show [8, 4, 2].Nodup by decide))
  exact congrArg Bk.s e
theorem at_sorted (c : Bk) : (blocksAt c).Pairwise fun x y => y.s < x.s := by
  unfold blocksAt sizesL
  refine List.Pairwise.map (R := fun a b : Nat => b < a) _ (fun a b lt => lt) (List.Pairwise.filter _ (show [8, 4, 2].Pairwise (fun a b : Nat => b < a) by decide))
theorem at_mem {h w i : Nat} {c b : Bk} (hc : (cellsL h w)[i]? = some c) : b ∈ blocksAt c ↔ Vb h w b ∧ placeB h w b = i := by
  have mc : c ∈ cellsL h w := List.mem_of_getElem? hc
  obtain ⟨r, hr, mr⟩ := List.mem_flatMap.mp mc
  obtain ⟨vc, c2, _⟩ := cells_in r (roots_vb hr) c mr
  have lt := vc.lt
  have ll := vc.ll
  constructor
  · intro m
    unfold blocksAt sizesL at m
    obtain ⟨s, hs, rfl⟩ := List.mem_map.mp m
    obtain ⟨s1, s2⟩ := List.mem_filter.mp hs
    rw [Bool.and_eq_true, decide_eq_true_eq, decide_eq_true_eq] at s2
    simp only [List.mem_cons, List.not_mem_nil, or_false] at s1
    have v : Vb h w ⟨c.t, c.l, s⟩ := ⟨s1, s2.1, s2.2, lt, ll⟩
    refine ⟨v, (cover_place v).mp ?_⟩
    rw [hc]
    obtain ⟨ct, cl, cs⟩ := c
    dsimp only at c2 ⊢
    rw [c2]
  · rintro ⟨v, e⟩
    have := (cover_place v).mpr e
    rw [hc] at this
    have e2 := Option.some.inj this
    have et : c.t = b.t := by rw [e2]
    have el : c.l = b.l := by rw [e2]
    unfold blocksAt sizesL
    refine List.mem_map.mpr ⟨b.s, List.mem_filter.mpr ⟨?_, ?_⟩, ?_⟩
    · have := v.s
      simp only [List.mem_cons, List.not_mem_nil, or_false]
      exact this
    · rw [Bool.and_eq_true, decide_eq_true_eq, decide_eq_true_eq, et, el]
      exact ⟨v.mt, v.ml⟩
    · rw [et, el]
theorem at_perm {h w i : Nat} {c : Bk} {L : List Bk} (pm : L.Perm (everyL h w)) (hc : (cellsL h w)[i]? = some c) : (L.filter fun b => decide (placeB h w b = i)).Perm (blocksAt c) := by
  refine (List.perm_ext_iff_of_nodup ((pm.nodup_iff.mpr every_nodup).filter _) (at_nodup c)).mpr fun b => ?_
  rw [List.mem_filter, decide_eq_true_eq, pm.mem_iff, every_mem, at_mem hc]
end K04
namespace KSK
open PySem PySem.Spec PyProof.Rows L2 PySem.W LamX KA KW KL
/-! ### sorted(xs, key=lambda each: 0 - each[2]) -/
theorem there_of {P : Program} {w : World} {H : Hp} {h : Heap} {a : Addr} : ∀ {o : HO}, ObjOk P w H h a o → ∃ u, h.get? a = some u
  | .lst _, ⟨_, _, _, _, e⟩ => ⟨_, e⟩
  | .tup _, ⟨_, _, _, o, e, _⟩ => ⟨o, e⟩
  | .dK _, ⟨_, _, _, _, o, _, _, e, _⟩ => ⟨o, e⟩
  | .dT _, ⟨_, _, _, _, o, _, _, e, _⟩ => ⟨o, e⟩
  | .set _ _, ⟨o, _, _, _, e, _⟩ => ⟨o, e⟩
  | .ins _ _ _, ⟨_, _, _, e, _⟩ => ⟨_, e⟩
  | .own _, e => e
  | .xd _, ⟨_, ⟨o, _, _, e, _⟩, _⟩ => ⟨o, e⟩
  | .rng _ _, ⟨_, _, _, e⟩ => ⟨_, e⟩
  | .frz o _, ⟨e, _⟩ => ⟨o, e⟩
  | .tbl _, e => ⟨_, e⟩
  | .met _ _, e => ⟨_, e⟩
  | .ext _, ⟨_, e, _⟩ => e
theorem ns_one {h : Heap} {L : Addr} {m m' : Str → Option Value} (a : h.Ns L m) (b : h.Ns L m') : m' = m := by
  obtain ⟨o, es, ep, e1, e2, _, e3⟩ := a
  obtain ⟨o', es', ep', f1, f2, _, f3⟩ := b
  rw [e1] at f1
  cases f1
  rw [e2] at f2
  injection f2 with g1 g2
  subst g1
  funext x
  rw [← e3, ← f3]
section
variable {X : Cx} {pins : List (Addr × Obj)} {σ : L2.St} {H : Hp} {s : Shared}
/-- all but the frame stands, the frame says what it said -/
theorem inv_loose {h' : Heap} {tk : Nat} {m : Str → Option Value} (I : Inv X pins σ H s) (hn : s.heap.Ns X.env.locals m) (k : ∀ b o, b ≠ X.env.locals → s.heap.get? b = some o → h'.get? b = some o) (ns : h'.Ns X.env.locals m) :
    Inv X pins σ H { s with heap := h', toks := tk } := by
  refine I.step (g' := s.gens) (d' := s.drawn) (ch := []) (fun b hb => absurd hb (by simp)) (fun b o n _ _ e _ => k b o n e) (fun b o n _ _ e _ => ⟨o.slots, k b o n e⟩) (fun _ _ _ _ n => n) (fun b o _ e => ?_)
    (fun _ _ e => e) (fun _ _ _ e => e) (fun b ps e => ⟨#[], by simpa using e⟩) (fun m' hm => by rw [ns_one hn hm]; exact ns) (fun b u e => (I.hok b u e).stay (fun d v hd q => k d v ?_ q) (fun _ q => q) fun _ _ q => q) I.bare
  · by_cases hb : b = X.env.locals
    · obtain ⟨o', _, _, e', _⟩ := ns
      exact ⟨o', hb ▸ e'⟩
    · exact ⟨o, k b o hb e⟩
  · intro z
    subst z
    rcases hd with z | z
    · rw [← z, I.free] at e
      cases e
    · rw [I.free] at z
      cases z
/-- the same, and what stands anew at D is known from now on -/
theorem inv_made {h' : Heap} {tk : Nat} {m : Str → Option Value} {D : Addr} {u : HO} (I : Inv X pins σ H s) (hn : s.heap.Ns X.env.locals m) (k : ∀ b o, b ≠ X.env.locals → s.heap.get? b = some o → h'.get? b = some o) (ns : h'.Ns X.env.locals m)
    (hD : s.heap.get? D = none) (new : ObjOk X.prog X.w (upd H D u) h' D u) : H D = none ∧ Inv X pins σ (upd H D u) { s with heap := h', toks := tk } := by
  have nD : H D = none := by
    cases q : H D with
    | none => rfl
    | some o =>
      obtain ⟨v, e⟩ := there_of (I.hok D o q)
      rw [hD] at e
      cases e
  have at_ : ∀ b o, H b = some o → upd H D u b = some o := fun b o e => (upd_ne (ne_of_none e nD)).trans e
  refine ⟨nD, I.step (g' := s.gens) (d' := s.drawn) (ch := []) (fun b hb => absurd hb (by simp)) (fun b o n _ _ e _ => k b o n e) (fun b o n _ _ e _ => ⟨o.slots, k b o n e⟩) (fun b o _ e n => ?_) (fun b o _ e => ?_)
    (fun b _ e => at_ b _ e) (fun b _ _ e => at_ b _ e) (fun b ps e => ⟨#[], by simpa using at_ b _ e⟩) (fun m' hm => by rw [ns_one hn hm]; exact ns) (fun b v e => ?_) I.bare⟩
  · rw [upd_ne (fun z => by rw [z, hD] at e; cases e)]
    exact n
  · by_cases hb : b = X.env.locals
    · obtain ⟨o', _, _, e', _⟩ := ns
      exact ⟨o', hb ▸ e'⟩
    · exact ⟨o, k b o hb e⟩
  · by_cases hb : b = D
    · subst hb
      rw [upd_same] at e
      cases e
      exact new
    · rw [upd_ne hb] at e
      refine (I.hok b v e).stay (fun d y hd q => k d y (fun z => ?_) q) (fun d q => at_ d _ q) fun d _ q => at_ d _ q
      subst z
      rcases hd with z | z
      · rw [← z, I.free] at e
        cases e
      · rw [I.free] at z
        cases z
/-- the lambda is called with a tuple -/
theorem key_turn {prog : Program} {w : World} {A : Around} {t : Shared} {f c' a : Addr} {params : Arguments} {body : Expr} {scope : Scope} {qual : Str} {cl : List (Str × Addr)} {pm ctv : Value} {its : Array Value} {i : Int} {tk0 : Tok} {Q E : Value → Shared → Prop}
    (hd : A.depth < recursionLimit) (of : t.heap.get? f = some (PySem.W.kla_obj "<lambda>" qual params body scope cl pm c' ctv)) (hcd : t.heap.CodeRec (.ref c') qual) (lim : t.heap.NoLimit)
    (hbind : ∀ (q : Str) (cl : List (Str × Addr)) (pm cv ctv v : Value), bindArgs (PySem.W.kla_fn "<lambda>" q params body scope cl pm cv ctv) ⟨[v], []⟩ = pure [(Str.ofString "each", v)])
    (hk : scope.kind = .function) (hc : ∀ y ∈ scope.names, y.2 ≠ .cell) (hl : scope.names.lookup (Str.ofString "each") = some .local) (hco : scope.isCoroutine = false) (hgen : scope.isGenerator = false)
    (hb : ∃ (j1 j2 : Nat) (p1 p2 p3 p4 p5 : Pos), body = Expr.BinOp (.Constant (.int 0) j1 p1) .Sub (.Subscript (.Name (Str.ofString "each") p2) (.Constant (.int 2) j2 p3) p4) p5)
    (ht : IsTup t.heap a its) (h2 : its[2]? = some (.int i tk0)) (q : ∀ (h' : Heap) (tk : Nat) (t' : Tok), (∀ b o, t.heap.get? b = some o → h'.get? b = some o) → Q (.int (0 - i) t') { t with heap := h', toks := tk }) :
    wpAny (model prog w) A (call (.ref f) [.ref a]) Q E t := by
  obtain ⟨j1, j2, p1, p2, p3, p4, p5, rfl⟩ := hb
  refine wpAny_call ?_
  refine PySem.W.kla_callFunE hd of rfl hco hgen rfl hcd ?_
  rw [hbind]
  refine wpAny_pure (wpAny_newFunctionEnv hc (fun y hy => ?_) (fun h₁ hns hsb => ⟨lim.fresh _ hsb, ?_⟩) hk)
  · rw [List.mem_singleton.mp hy]
    exact hl
  · have keep : ∀ b o, t.heap.get? b = some o → h₁.get? b = some o := fun b o e => hsb.extBut b o (Nat.ne_of_lt (Heap.lt_size e)) (Heap.get?_push_of_some _ e)
    refine PySem.W.kla_codeExpr ?_
    refine wpAny_BinOp (wpAny_Constant_int ?_)
    refine Subscript_ (wpAny_Name (wpAny_loadName_local hk hl hns (v := .ref a) rfl (wpAny_Constant_int ?_)))
    have ht1 : IsTup h₁ a its := by
      obtain ⟨o, e, r⟩ := ht
      exact ⟨o, keep _ _ e, r⟩
    have lt : 2 < its.size := (Array.getElem?_eq_some_iff.mp h2).1
    refine subscriptTail_builtinR (x := .int i tk0) (T := "tuple") (IsTup.typeIs ht1) slot_tuple_getitem.lookup ?_ rfl
    refine getItem_tuple (j := 2) ht1 (by decide) (by decide) ?_ h2 ⟨rfl, ?_⟩
    · exact seqIndex_of (k := 2) (by decide) (by omega)
    · exact sub_int (q _ _ _ keep)
end
def rSortNeg (K : PySem.W.Frag) (env : Env) (params : Arguments) (body : Expr) (scope : Scope) : List V → List V → Hp → VK → Prop := fun vs zs H Q => ∃ (l f c' : Addr) (xs : List V) (key : V → Int), vs = [.ref l] ∧ zs = [.ref f] ∧ H f = some (LamO env params body scope f c') ∧ H c' = some (CodeO c' (env.qual ++ "<lambda>")) ∧ SqL K H l xs ∧ xs.length < 64 ∧
  (∀ x ∈ xs, ∃ a ys, x = .ref a ∧ H a = some (.tup ys) ∧ ys[2]? = some (.int (key x))) ∧ ∀ (ys : List V) (p : Addr), ys.Perm xs → ys.Pairwise (fun x y => key y ≤ key x) → H p = none → Q (.ref p) (upd H p (.lst ys))
theorem zip_back (g : Value → Int) : ∀ l : List Value, (l.map g).zip l = l.map fun v => (g v, v)
  | [] => rfl
  | v :: l => congrArg (List.cons (g v, v)) (zip_back g l)
theorem cr_sortNeg {X : Cx} {params : Arguments} {body : Expr} {scope : Scope} (hr : Room 2 X.A)
    (hbind : ∀ (q : Str) (cl : List (Str × Addr)) (pm cv ctv v : Value), bindArgs (PySem.W.kla_fn "<lambda>" q params body scope cl pm cv ctv) ⟨[v], []⟩ = pure [(Str.ofString "each", v)])
    (hk : scope.kind = .function) (hc : ∀ y ∈ scope.names, y.2 ≠ .cell) (hl : scope.names.lookup (Str.ofString "each") = some .local) (hco : scope.isCoroutine = false) (hgen : scope.isGenerator = false)
    (hb : ∃ (j1 j2 : Nat) (p1 p2 p3 p4 p5 : Pos), body = Expr.BinOp (.Constant (.int 0) j1 p1) .Sub (.Subscript (.Name (Str.ofString "each") p2) (.Constant (.int 2) j2 p3) p4) p5) :
    CallRK X (.builtin "sorted") [Str.ofString "key"] (rSortNeg X.K X.env params body scope) := by
  intro pins s σ H vs zs us ws Q I r rz h
  obtain ⟨l, f, c', xs, key, rfl, rfl, hf, hc', hs, h64, hx, q⟩ := h
  obtain rfl := Vals.ref1 r
  obtain ⟨w1, rfl, e1⟩ := vals1 rz
  obtain rfl : w1 = Value.ref f := e1
  obtain ⟨its, rv, hL, hz⟩ := I.list hs
  obtain ⟨m, hn, hloc⟩ := id I.loc
  have F : Fr X.base X.env.locals s.heap m := ⟨hn, I.bk, Nat.le_trans I.ok.bsz I.ok.above⟩
  obtain ⟨news, N1⟩ : ∃ news : List (Addr × Obj), ∀ b o, (b, o) ∈ news ↔ b ≠ X.env.locals ∧ X.base.get? b = none ∧ s.heap.get? b = some o := by
    refine ⟨(List.range s.heap.objs.size).filterMap fun b => if b = X.env.locals ∨ (X.base.get? b).isSome = true then none else (s.heap.get? b).map fun o => (b, o), fun b o => ?_⟩
    rw [List.mem_filterMap]
    constructor
    · rintro ⟨d, _, e⟩
      split at e
      · cases e
      · rename_i n
        obtain ⟨o', e1, e2⟩ := Option.map_eq_some_iff.mp e
        cases e2
        refine ⟨fun z => n (.inl z), ?_, e1⟩
        cases q : X.base.get? b with
        | none => rfl
        | some v => exact absurd (.inr (by rw [q]; rfl)) n
    · rintro ⟨n1, n2, e⟩
      refine ⟨b, List.mem_range.mpr (Heap.lt_size e), ?_⟩
      rw [if_neg (by rw [n2]; simpa using n1), e]
      rfl
  have N : News X.base X.env.locals s.heap news := fun p hp => by
    obtain ⟨a, b, c⟩ := (N1 p.1 p.2).mp hp
    exact ⟨c, a, b⟩
  have keep : ∀ {h : Heap}, Fr X.base X.env.locals h m → (∀ p ∈ news, h.get? p.1 = some p.2) → ∀ b o, b ≠ X.env.locals → s.heap.get? b = some o → h.get? b = some o := fun {h} F' N' b o n e => by
    cases q : X.base.get? b with
    | none => exact N' (b, o) ((N1 b o).mpr ⟨n, q, e⟩)
    | some v =>
      have e2 := I.bk b v q
      rw [e] at e2
      cases e2
      exact F'.keep b _ q
  obtain ⟨e1, e2⟩ := refs_back rv fun x hm => by
    obtain ⟨a, _, e, _⟩ := hx x hm
    exact ⟨a, e⟩
  have kz : xs.map (fun x => 0 - key x) = its.map fun v => 0 - key (backV v) := by
    rw [e1, List.map_map]
    rfl
  have isr : ∀ v ∈ its, ∃ a ys, v = Value.ref a ∧ backV v = .ref a ∧ H a = some (.tup ys) ∧ ys[2]? = some (.int (key (backV v))) := fun v hv => by
    have hm : backV v ∈ xs := by
      rw [e1]
      exact List.mem_map.mpr ⟨v, hv, rfl⟩
    obtain ⟨b, rfl⟩ := e2 v hv
    obtain ⟨a, ys, ea, ha, h2⟩ := hx _ hm
    have : b = a := by
      have z : V.ref b = V.ref a := ea
      exact V.ref.inj z
    subst this
    exact ⟨b, ys, rfl, rfl, ha, h2⟩
  refine ksk_sorted (kz := its.map fun v => 0 - key (backV v)) F N hL.isList (by rw [List.length_map]) (by rw [← rv.length]; exact h64) (ksk_s1 _ _) (fun x => ksk_l1 _ _) (fun x => ksk_t1 f x) (fun i v k hv hk' h tk own F' N' => ?_) fun D h' tk out c F' N' lt ko => ?_
  · rw [List.getElem?_map, hv] at hk'
    obtain rfl : 0 - key (backV v) = k := Option.some.inj hk'
    obtain ⟨a, ys, rfl, eb, ha, h2⟩ := isr v (List.mem_of_getElem? hv)
    have J : Inv X pins σ H { s with heap := h, toks := tk } := inv_loose I hn (keep F' fun p hp => (N' p (List.mem_append_left _ hp)).1) F'.ns
    obtain ⟨⟨pm, ctv, of⟩, _⟩ := J.hok f _ hf
    obtain ⟨⟨oc, vs, t, hoc, hdc, hvc⟩, _⟩ := J.hok c' _ hc'
    obtain ⟨zl, its2, r2, tup⟩ := J.hok a _ ha
    obtain ⟨u, eu, ru⟩ := r2.get h2
    obtain ⟨t2, rfl⟩ := ru
    refine key_turn (A := X.A.in1.in1) (t := { s with heap := h, toks := tk }) (by have := hr.dp; show X.A.depth < _; omega) of ⟨c', oc, vs, t, rfl, hoc, hdc, hvc⟩ J.nolimit hbind hk hc hl hco hgen hb tup (by simpa using eu) fun h3 tk3 t' kp => ?_
    exact ⟨h3, tk3, t', rfl, rfl, F'.kept kp, N'.grown kp⟩
  · obtain ⟨ps, hp, ho, hs'⟩ := ko
    have atD := N' (D, seqObj "list" out c) (.head _)
    have hD : s.heap.get? D = none := by
      cases q2 : s.heap.get? D with
      | none => rfl
      | some o => exact absurd (lt _ ((N1 D o).mpr ⟨atD.2.1, atD.2.2, q2⟩)) (Nat.lt_irrefl _)
    rw [zip_back] at hp
    have rel : ∀ p ∈ ps, p.1 = 0 - key (backV p.2) ∧ p.2 ∈ its := fun p hm => by
      obtain ⟨v, hv, rfl⟩ := List.mem_map.mp (hp.mem_iff.mp hm)
      exact ⟨rfl, hv⟩
    have pm : (out.toList.map backV).Perm xs := by
      rw [ho, e1]
      refine List.Perm.map _ ?_
      have z := hp.map Prod.snd
      rw [List.map_map] at z
      have z2 : (ps.map Prod.snd).Perm (its.map fun v => v) := z
      rw [List.map_id'] at z2
      exact z2
    have pw : (out.toList.map backV).Pairwise fun x y => key y ≤ key x := by
      rw [ho, List.map_map, List.pairwise_map]
      refine hs'.imp_of_mem fun {a b} ha hb' hr' => ?_
      have hr2 : a.1 ≤ b.1 := by simpa using hr'
      rw [(rel a ha).1, (rel b hb').1] at hr2
      show key (backV b.2) ≤ key (backV a.2)
      omega
    have refs : ∀ u ∈ out.toList, ∃ a, u = Value.ref a := fun u hu => by
      rw [ho] at hu
      obtain ⟨p, hp', rfl⟩ := List.mem_map.mp hu
      exact e2 _ (rel p hp').2
    obtain ⟨nD, J⟩ := inv_made (tk := tk) (u := .lst (out.toList.map backV)) I hn (keep F' fun p hp => (N' p (List.mem_cons_of_mem _ hp)).1) F'.ns hD ⟨by rw [pm.length_eq]; exact hz, out.toList, c, vals_back refs, by rw [Array.toArray_toList]; exact atD.1⟩
    exact ⟨.ref D, _, J, rfl, q _ D pm pw nD⟩
end KSK
namespace K04
open PySem PySem.Spec PyProof.Rows L2 PySem.W LamX KA KW KU KL
open Evl (pss_cut tCut)
/-- the lambda in the call itself, beside all tables -/
theorem pe_caught2 {X : Cx} (T : Top X.K X.mg) {TT : List (Addr × Str)} {c Pt : Addr} {k : Nat} {params : Arguments} {body : Expr} {scope : Scope} {t : XK → TE} {p lpos pos : Pos} (TB : TabB X.base X.mg c Pt) (hcode : X.env.code = .ref c) (hr : Room (k + 2) X.A) (hg : Gl X "_law_caught")
    (mem : (Pt, X.env.qual ++ "<lambda>") ∈ TT) (one : ∀ q ∈ TT, q.1 = Pt → q.2 = X.env.qual ++ "<lambda>") (L : LamS X.env.scope scope)
    (hdef : defaultsOf params X.env = ([], [])) (hbind : ∀ (q : Str) (cl : List (Str × Addr)) (pm cv ctv : Value), bindArgs (PySem.W.kla_fn "<lambda>" q params body scope cl pm cv ctv) ⟨[], []⟩ = pure [])
    (hbody : ∀ (A : Around) (outer : List Env) (s : Shared) (H : Hp) (E : XK) (f c' : Addr), Room k (A.deeper (lamEnv X scope s.heap.objs.size f c')) → PE (lamCx X A outer s H E scope f c') body (t E)) :
    PE X (.Call (.Name "_law_caught" p) [.Lambda params body scope lpos] [] pos) (tLam TT (TCaught X.K T.reel.C) t) := by
  obtain ⟨oc, od, kV, doc, pm, an, cdv, ct, osl, ed, lk, hcd⟩ := T._law_caught.f.ex
  have hb := bd__law_caught T
  rw [ed] at lk hb
  exact pe_lamcall (T := TT) hg T._law_caught.m T._law_caught.f.kp lk hcd hb sc__law_caught rfl (.inl rfl)
    (caught_gives sc__law_caught rfl rfl rfl rfl T.reel.g (by decide) (by decide) (by decide) (by decide) (by decide)) TB hcode mem one hr L hdef hbind hbody
theorem caught_err2 {K : PySem.W.Frag} {mg : Str → Option Value} (T : Top K mg) {n : Str} (X : ExcT K mg n T.reel.C) {Pt Pt2 st lg cl : Addr} {m m' : Nat} {t : XK → TE} {σ : L2.St} {H : Hp} {Q : VK} (hT : Tabs (tabs Pt Pt2) H) (S : StAt H st lg cl m)
    (A : ∀ (H1 : Hp) (E : XK) (Q1 : VK), ExtN H H1 → StAt H1 st lg cl m → (∀ H2, Kp st lg H1 H2 → StAt H2 st lg cl m' → E (.ref X.C) none H2) → t E σ H1 Q1)
    (k : ∀ a H', StAt H' st lg cl m' → Tabs (tabs Pt Pt2) H' → KpN st lg H H' → H' a = some (ExV (.ref X.C) none a) → a ≠ st → a ≠ lg → Q (.ref a) H') : tLam (tabs Pt Pt2) (TCaught K T.reel.C) t σ H Q := by
  refine ⟨hT, fun H1 e1 t1 Q1 hQ1 => A H1 _ Q1 e1 (stAt_ext S e1) fun H2 kp S2 => ⟨X.exm T.reel, fun a ha => ?_⟩⟩
  have t2 := tabs_kp t1 (stAt_ext S e1) kp
  exact k a _ (S2.same (Same.new ha)) (t2.ext (Same.new ha)) (((KpN.ext e1).trans (.kp kp)).trans (.new ha)) upd_same (S2.off ha).1 (S2.off ha).2
theorem one_q {Pt Pt2 : Addr} (nP : Pt ≠ Pt2) : ∀ q ∈ tabs Pt Pt2, q.1 = Pt → q.2 = lamQ := fun q hq e => by
  rcases List.mem_cons.mp hq with h | h
  · rw [h]
  · rw [List.mem_singleton.mp h] at e
    exact absurd e.symm nP
theorem one_l {Pt Pt2 : Addr} (nP : Pt ≠ Pt2) : ∀ q ∈ tabs Pt Pt2, q.1 = Pt2 → q.2 = lawQ := fun q hq e => by
  rcases List.mem_cons.mp hq with h | h
  · rw [h] at e
    exact absurd e nP
  · rw [List.mem_singleton.mp h]
abbrev e12 : Expr := elt (itOf (stR 2)) 2
abbrev e13 : Expr := elt (itOf (stR 2)) 3
section
variable {P : Program} {w : World} {K : PySem.W.Frag} {mg : Str → Option Value} {base : Heap} (T : Top K mg) (SH : ShapeT K mg) (BE : BadShapeT P w K mg T.reel.C) (Z : SzT K mg)
include BE in
theorem okE10 {c : Addr} {A0 : Around} {outer0 : List Env} {s0 : Shared} {H0 : Hp} {E0 : XK} : LamOk (cxOf (L2.CX P w) P w K mg base ["state", "form", "scope", "work", "caught", "wrong"] "_law_refused" (defScope s__law_refused) T._law_refused.a (.ref c) A0 outer0 s0 H0 E0) 7 ⟨lamP e10, lamB e10, lamSc e10, fun E => tCall (spShFn SH.C BE.C fun h w => rootsL h w) [] E (tCons (tC .non) tNil)⟩ := by
  refine ⟨(show LamS (defScope s__law_refused) (lamSc e10) from lamS_by (by decide +kernel)), fun _ _ _ _ _ => rfl, fun A outer s H E f c' h => ?_⟩
  have h : Room 7 (A.deeper (lamEnv (cxOf (L2.CX P w) P w K mg base ["state", "form", "scope", "work", "caught", "wrong"] "_law_refused" (defScope s__law_refused) T._law_refused.a (.ref c) A0 outer0 s0 H0 E0) (lamSc e10) s.heap.objs.size f c')) := h
  show PE (lamCx (cxOf (L2.CX P w) P w K mg base ["state", "form", "scope", "work", "caught", "wrong"] "_law_refused" (defScope s__law_refused) T._law_refused.a (.ref c) A0 outer0 s0 H0 E0) A outer s H E (lamSc e10) f c') (lamB e10) ((fun E => tCall (spShFn SH.C BE.C fun h w => rootsL h w) [] E (tCons (tC .non) tNil)) E)
  exact (pe_call (ok_roots T SH BE) (h.mono (by decide)) (by rfl) T.roots.m T.roots.f.kp (bd_roots T) .nil (passX rfl rfl rfl rfl) (pa_cons pe_non pa_nil))
include BE Z in
theorem okE11 {c : Addr} {A0 : Around} {outer0 : List Env} {s0 : Shared} {H0 : Hp} {E0 : XK} : LamOk (cxOf (L2.CX P w) P w K mg base ["state", "form", "scope", "work", "caught", "wrong"] "_law_refused" (defScope s__law_refused) T._law_refused.a (.ref c) A0 outer0 s0 H0 E0) 7 ⟨lamP e11, lamB e11, lamSc e11, fun E => tCall (spBlkFn K SH.C BE.C T.BadBlock.C dotV fun h w b => dotsB h w b) [] E (tCons (tC (.int 5)) (tCons (tC .non) tNil))⟩ := by
  refine ⟨(show LamS (defScope s__law_refused) (lamSc e11) from lamS_by (by decide +kernel)), fun _ _ _ _ _ => rfl, fun A outer s H E f c' h => ?_⟩
  have h : Room 7 (A.deeper (lamEnv (cxOf (L2.CX P w) P w K mg base ["state", "form", "scope", "work", "caught", "wrong"] "_law_refused" (defScope s__law_refused) T._law_refused.a (.ref c) A0 outer0 s0 H0 E0) (lamSc e11) s.heap.objs.size f c')) := h
  show PE (lamCx (cxOf (L2.CX P w) P w K mg base ["state", "form", "scope", "work", "caught", "wrong"] "_law_refused" (defScope s__law_refused) T._law_refused.a (.ref c) A0 outer0 s0 H0 E0) A outer s H E (lamSc e11) f c') (lamB e11) ((fun E => tCall (spBlkFn K SH.C BE.C T.BadBlock.C dotV fun h w b => dotsB h w b) [] E (tCons (tC (.int 5)) (tCons (tC .non) tNil))) E)
  exact (pe_call (ok_spots T SH BE Z) (h.mono (by decide)) (by rfl) T.spots.m T.spots.f.kp (bd_spots T) .nil (passX rfl rfl rfl rfl) (pa_cons pe_int (pa_cons pe_non pa_nil)))
def spRefused (C : Addr) (Pt Pt2 : Addr) : Sp := fun vs H Q _ => ∃ (st lg cl a : Addr) (fm : V) (h w m : Nat), vs = [.ref st, fm, .ref a] ∧ Shp C H fm h w ∧ ScW H a h w ∧ m ≤ 900000 ∧ StAt H st lg cl m ∧ Tabs (tabs Pt Pt2) H ∧
  ∀ H', StAt H' st lg cl (m + 1) → Tabs (tabs Pt Pt2) H' → KpN st lg H H' → Q (.bl true) H'
include BE Z in
theorem ok_refused {c Pt Pt2 : Addr} (LT : LamT K "_law_refused" s__law_refused T._law_refused.a T._law_refused.d c Pt) (TB : TabB base mg c Pt) (nP : Pt ≠ Pt2) : FnG P w K mg base (L2.CX P w) 10 T._law_refused.a T._law_refused.d ["state", "form", "scope"] (spRefused SH.C Pt Pt2) := by
  refine fnG_ofC LT sc__law_refused (fun vs H Q E h => ?_) (fun A outer s0 H vs Q E hr hg h => ?_)
  · obtain ⟨st, lg, cl, a, fm, h, w, m, rfl, _⟩ := h
    rfl
  · obtain ⟨st, lg, cl, sa, fm, h, wn, m, rfl, shp, scw, hm, S, Tb, k⟩ := h
    have hr9 : Room (7 + 2) (A.deeper (envOfC "_law_refused" (defScope s__law_refused) s0.heap.objs.size T._law_refused.a (.ref c))) := hr
    refine ⟨_, (pss_cons (ps_set (i := 5) sc__law_refused.nd rfl (.inr rfl) (pe_call (ok_pick T) (hr.mono (by decide)) (by rfl) T._law_pick.m T._law_pick.f.kp (bd__law_pick T) .nil passE (pa_cons (pv 0) (pa_cons (pe_lst (pa_cons (pe_un un_neg pe_int) (pa_cons (pe_callB call_len_seq (by rfl) T.b_len PySem.boot_len (pa_cons (pe_call (ok_lall T) (hr.mono (by decide)) (by rfl) T._law_all_cells.m T._law_all_cells.f.kp (bd__law_all_cells T) .nil passE (pa_cons (pv 2) pa_nil)) pa_nil)) (pa_cons pe_bl (pa_cons pe_non (pa_cons pe_str pa_nil)))))) pa_nil))))
      (pss_cons (ps_if (pt_not (pt_val (pe_callB (show CallR _ _ (rIs2 K) from call_is2) (by rfl) T.b_isinstance PyProof.Rows.boot_isinstance (pa_cons (pe_caught2 T TB rfl hr9 (by rfl) List.mem_cons_self (one_q nP) (lamS_by (sc := defScope s__law_refused) (by decide +kernel)) rfl (fun _ _ _ _ _ => rfl) (fun A outer s H E f c' h => (pe_call (ok_blocks_at T SH BE Z) (h.mono (by decide)) (by rfl) T.blocks_at.m T.blocks_at.f.kp (bd_blocks_at T) .nil (passX rfl rfl rfl rfl) (pa_cons (pv 1) (pa_cons (pv 5) pa_nil))))) (pa_cons (pe_glob (v := .ref T.BadPlace.C) (by rfl) T.BadPlace.g rfl) pa_nil))))) (pss_one (ps_ret pe_bl)) pss_nil)
      (pss_cut (ps_for (passes_of rfl) rfl (pi_list (pe_lst (pa_cons (pe_lamV (T := tabs Pt Pt2) (params := lamP (e10)) (body := lamB (e10)) (scope := lamSc (e10)) TB rfl List.mem_cons_self (one_q nP) (lamS_by (sc := defScope s__law_refused) (by decide +kernel)) rfl) (pa_cons (pe_lamV (T := tabs Pt Pt2) (params := lamP (e11)) (body := lamB (e11)) (scope := lamSc (e11)) TB rfl List.mem_cons_self (one_q nP) (lamS_by (sc := defScope s__law_refused) (by decide +kernel)) rfl) (pa_cons (pe_lamV (T := tabs Pt Pt2) (params := lamP (e12)) (body := lamB (e12)) (scope := lamSc (e12)) TB rfl List.mem_cons_self (one_q nP) (lamS_by (sc := defScope s__law_refused) (by decide +kernel)) rfl) (pa_cons (pe_lamV (T := tabs Pt Pt2) (params := lamP (e13)) (body := lamB (e13)) (scope := lamSc (e13)) TB rfl List.mem_cons_self (one_q nP) (lamS_by (sc := defScope s__law_refused) (by decide +kernel)) rfl) pa_nil)))))) (pg_name (i := 3) sc__law_refused.nd rfl (.inl rfl)) (pss_cons (ps_set (i := 4) sc__law_refused.nd rfl (.inl rfl) (pe_callL (kb := 7) (k := 9) (i := 3) (sp := fun f pre t => spCaughtL K T.reel.C f pre t) [⟨lamP e10, lamB e10, lamSc e10, fun E => tCall (spShFn SH.C BE.C fun h w => rootsL h w) [] E (tCons (tC .non) tNil)⟩, ⟨lamP e11, lamB e11, lamSc e11, fun E => tCall (spBlkFn K SH.C BE.C T.BadBlock.C dotV fun h w b => dotsB h w b) [] E (tCons (tC (.int 5)) (tCons (tC .non) tNil))⟩, ⟨lamP e12, lamB e12, lamSc e12, _⟩, ⟨lamP e13, lamB e13, lamSc e13, _⟩] ((ok_cons (okE10 T SH BE) (ok_cons (okE11 T SH BE Z) (ok_cons ⟨(show LamS (defScope s__law_refused) (lamSc e12) from lamS_by (by decide +kernel)), fun _ _ _ _ _ => rfl, fun A outer s H E f c' h => (pe_call (ok_blocks_at T SH BE Z) (h.mono (by decide)) (by rfl) T.blocks_at.m T.blocks_at.f.kp (bd_blocks_at T) .nil (passX rfl rfl rfl rfl) (pa_cons pe_str (pa_cons (pv 5) pa_nil)))⟩ (ok_cons ⟨(show LamS (defScope s__law_refused) (lamSc e13) from lamS_by (by decide +kernel)), fun _ _ _ _ _ => rfl, fun A outer s H E f c' h => (pe_call (ok_is_cover T SH BE Z) (h.mono (by decide)) (by rfl) T.is_cover.m T.is_cover.f.kp (bd_is_cover T) .nil (passX rfl rfl rfl rfl) (pa_cons pe_non (pa_cons (pe_lst pa_nil) pa_nil)))⟩ ok_nil))))) (fun H0 h0 f pre t' Wk => caught_workL Wk T._law_caught.f sc__law_caught rfl rfl rfl rfl rfl T.reel.g (by decide) (by decide) (by decide) (by decide) (by decide) (by decide) (by decide)) (by rfl) T._law_caught.m T._law_caught.f.kp (bd__law_caught T) passE (hr.mono (by decide)) hg rfl (.inl rfl)))
      (pss_one (ps_if (PW.pt (pw_or (pt_not (pt_val (pe_callB (show CallR _ _ (rIs3 K) from call_is3) (by rfl) T.b_isinstance PyProof.Rows.boot_isinstance (pa_cons (pv 4) (pa_cons (pe_glob (v := .ref BE.C) (by rfl) BE.g rfl) pa_nil))))) (pw_or1 (pt_cmpR op_notN (pe_upGet BE.u (pv 4)) pe_non (nomark _))))) (pss_one (ps_ret pe_bl)) pss_nil))))
      (pss_cut (ps_for (passes_of rfl) rfl (pi_list (pe_lst (pa_cons (pe_lamV (T := tabs Pt Pt2) (params := lamP (e20)) (body := lamB (e20)) (scope := lamSc (e20)) TB rfl List.mem_cons_self (one_q nP) (lamS_by (sc := defScope s__law_refused) (by decide +kernel)) rfl) (pa_cons (pe_lamV (T := tabs Pt Pt2) (params := lamP (e21)) (body := lamB (e21)) (scope := lamSc (e21)) TB rfl List.mem_cons_self (one_q nP) (lamS_by (sc := defScope s__law_refused) (by decide +kernel)) rfl) pa_nil)))) (pg_name (i := 3) sc__law_refused.nd rfl (.inl rfl)) (pss_one (ps_if (pt_not (pt_val (pe_callB (show CallR _ _ (rIs2 K) from call_is2) (by rfl) T.b_isinstance PyProof.Rows.boot_isinstance (pa_cons (pe_callL (kb := 7) (k := 9) (i := 3) (sp := fun f pre t => spCaughtL K T.reel.C f pre t) [⟨lamP e20, lamB e20, lamSc e20, _⟩, ⟨lamP e21, lamB e21, lamSc e21, _⟩] ((ok_cons ⟨(show LamS (defScope s__law_refused) (lamSc e20) from lamS_by (by decide +kernel)), fun _ _ _ _ _ => rfl, fun A outer s H E f c' h => (pe_call (ok_quarters T SH BE Z) (h.mono (by decide)) (by rfl) T.quarters.m T.quarters.f.kp (bd_quarters T) .nil (passX rfl rfl rfl rfl) (pa_cons (pv 1) (pa_cons pe_non pa_nil)))⟩ (ok_cons ⟨(show LamS (defScope s__law_refused) (lamSc e21) from lamS_by (by decide +kernel)), fun _ _ _ _ _ => rfl, fun A outer s H E f c' h => (pe_call (ok_place_of T SH BE Z) (h.mono (by decide)) (by rfl) T.place_of.m T.place_of.f.kp (bd_place_of T) .nil (passX rfl rfl rfl rfl) (pa_cons (pv 1) (pa_cons (pe_tup (pa_cons pe_int (pa_cons pe_int (pa_cons pe_int pa_nil)))) pa_nil)))⟩ ok_nil))) (fun H0 h0 f pre t' Wk => caught_workL Wk T._law_caught.f sc__law_caught rfl rfl rfl rfl rfl T.reel.g (by decide) (by decide) (by decide) (by decide) (by decide) (by decide) (by decide)) (by rfl) T._law_caught.m T._law_caught.f.kp (bd__law_caught T) passE (hr.mono (by decide)) hg rfl (.inl rfl)) (pa_cons (pe_glob (v := .ref T.BadBlock.C) (by rfl) T.BadBlock.g rfl) pa_nil))))) (pss_one (ps_ret pe_bl)) pss_nil)))
      (pss_one (ps_ret pe_bl)))))), ?_⟩
    obtain ⟨fa, dx, lo, hi, rfl, hfa, hb⟩ := shp
    have offF : fa ≠ st ∧ fa ≠ lg := by
      obtain ⟨_, _, _, _, S', _⟩ := S
      exact ⟨ne_of hfa S'.d (by intro z; cases z), ne_of hfa S'.l (by intro z; cases z)⟩
    refine ⟨_, rfl, _, rfl, _, rfl, sa, h, wn, rfl, scw, fun qe ue H2 s2 ne le re => ⟨qe, ue, rfl, .inl (SqL.of le), (by show 5 ≤ sizeLine; decide), fun p hp => ⟨st, lg, cl, p, _, m, rfl, upd_same, ((S.same s2).off hp).2, (by show 0 < 5; decide), (by show 5 ≤ 1000; decide), by omega, (S.same s2).same (Same.new hp), fun xw Ha hxw Sa kpa => ?_⟩⟩⟩
    have fw1 : (∀ H, ∃ b, Pl K H xw b) ∧ within xw 0 (((cellsL h wn).length : Int) - 1) = false := by
      have el := re.1
      simp only [List.mem_cons, List.not_mem_nil, or_false] at hxw
      rcases hxw with h | h | h | h | h <;> subst h
      · exact ⟨fun H => ⟨_, .int _⟩, by simp [within]⟩
      · exact ⟨fun H => ⟨_, .int _⟩, by
          show (decide ((0 : Int) ≤ (ue.length : Int)) && decide ((ue.length : Int) ≤ ((cellsL h wn).length : Int) - 1)) = false
          rw [el, Bool.and_eq_false_iff]
          exact .inr (decide_eq_false (by omega))⟩
      · exact ⟨fun H => ⟨_, .bl _⟩, rfl⟩
      · exact ⟨fun H => ⟨_, .non⟩, rfl⟩
      · exact ⟨fun H => ⟨_, .str _⟩, rfl⟩
    have kp1 : Kp st lg H Ha := ((Kp.same s2).trans (Kp.same (Same.new hp))).trans kpa
    have B : Bun Pt Pt2 st lg cl (m + 1) H Ha fa (HO.ins SH.C dx (shapeFs (h : Int) (wn : Int) lo hi)) := ⟨Sa, tabs_kp Tb S kp1, kp1 _ _ hfa offF.1 offF.2, .kp kp1⟩
    clear kp1 kpa hp s2 ne le re hxw hfa S Tb
    obtain ⟨pw, ww⟩ := fw1
    have nt : ∀ tb, HO.ins SH.C dx (shapeFs (h : Int) (wn : Int) lo hi) ≠ .tbl tb := fun _ z => by cases z
    have shv : ∀ {H' : Hp}, H' fa = some (HO.ins SH.C dx (shapeFs (h : Int) (wn : Int) lo hi)) → Shp SH.C H' (.ref fa) h wn := fun e => ⟨fa, dx, lo, hi, rfl, e, hb⟩
    have no_c : ∀ {A : Prop} (i : Nat) (c : Bk), xw = .int (i : Int) → (cellsL h wn)[i]? = some c → A := fun i c e e2 => by
      have l := (List.getElem?_eq_some_iff.mp e2).1
      rw [e] at ww
      simp [within] at ww
      omega
    -- the first
    refine caught_err2 (m' := m + 1) T T.BadPlace B.Tb B.S (fun H1 E1 Q1 e1 S1 k1 => ?_) (fun a H1 S1 Tb1 kN ha na nb => ?_)
    · obtain ⟨b, pl⟩ := pw H1
      exact ⟨_, rfl, _, rfl, _, _, rfl, .inl ⟨h, wn, shv (e1 _ _ B.F nt), b, pl, fun _ H' s => k1 H' (.same s) (S1.same s), fun i c e e2 => no_c i c e e2⟩⟩
    refine .inr ⟨a, T.BadPlace.C, _, _, true, rfl, ha, T.BadPlace.e, .own _, kit_self, _, rfl, iteF ?_⟩
    have B : Bun Pt Pt2 st lg cl (m + 1) H H1 fa (HO.ins SH.C dx (shapeFs (h : Int) (wn : Int) lo hi)) := ⟨S1, Tb1, kN _ _ B.F offF.1 offF.2 nt, B.k.trans kN⟩
    clear kN ha
    refine ⟨fun σ' H' => (∃ v3 v4, σ' = [some (V.ref st), some (V.ref fa), some (V.ref sa), v3, v4, some xw]) ∧ Bun Pt Pt2 st lg cl (m + 1) H H' fa (HO.ins SH.C dx (shapeFs (h : Int) (wn : Int) lo hi)), ?_, ?_⟩
    · refine ⟨B.Tb, fun Ha ea Ta f1 c1 hf1 hc1 => ⟨Ta.ext (Same.new hf1), fun Hb eb Tb f2 c2 hf2 hc2 => ⟨Tb.ext (Same.new hf2), fun Hd ed Td f3 c3 hf3 hc3 => ⟨Td.ext (Same.new hf3), fun He ee Te f4 c4 hf4 hc4 => ⟨(by show 4 ≤ sizeLine; decide), fun p hp => ?_⟩⟩⟩⟩⟩
      obtain ⟨Ba, l1⟩ := lam_step (L1 := LamO (envOfC "_law_refused" (defScope s__law_refused) s0.heap.objs.size T._law_refused.a (.ref c)) (lamP e10) (lamB e10) (lamSc e10) f1 c1) B nt ea Ta hf1 hc1
      obtain ⟨Bb, l2⟩ := lam_step (L1 := LamO (envOfC "_law_refused" (defScope s__law_refused) s0.heap.objs.size T._law_refused.a (.ref c)) (lamP e11) (lamB e11) (lamSc e11) f2 c2) Ba nt eb Tb hf2 hc2
      have l1 := (l1.ext lamO_tbl eb).same (Same.new (o := LamO (envOfC "_law_refused" (defScope s__law_refused) s0.heap.objs.size T._law_refused.a (.ref c)) (lamP e11) (lamB e11) (lamSc e11) f2 c2) hf2)
      obtain ⟨Bd, l3⟩ := lam_step (L1 := LamO (envOfC "_law_refused" (defScope s__law_refused) s0.heap.objs.size T._law_refused.a (.ref c)) (lamP e12) (lamB e12) (lamSc e12) f3 c3) Bb nt ed Td hf3 hc3
      have l1 := (l1.ext lamO_tbl ed).same (Same.new (o := LamO (envOfC "_law_refused" (defScope s__law_refused) s0.heap.objs.size T._law_refused.a (.ref c)) (lamP e12) (lamB e12) (lamSc e12) f3 c3) hf3)
      have l2 := (l2.ext lamO_tbl ed).same (Same.new (o := LamO (envOfC "_law_refused" (defScope s__law_refused) s0.heap.objs.size T._law_refused.a (.ref c)) (lamP e12) (lamB e12) (lamSc e12) f3 c3) hf3)
      obtain ⟨Be, l4⟩ := lam_step (L1 := LamO (envOfC "_law_refused" (defScope s__law_refused) s0.heap.objs.size T._law_refused.a (.ref c)) (lamP e13) (lamB e13) (lamSc e13) f4 c4) Bd nt ee Te hf4 hc4
      have l1 := (l1.ext lamO_tbl ee).same (Same.new (o := LamO (envOfC "_law_refused" (defScope s__law_refused) s0.heap.objs.size T._law_refused.a (.ref c)) (lamP e13) (lamB e13) (lamSc e13) f4 c4) hf4)
      have l2 := (l2.ext lamO_tbl ee).same (Same.new (o := LamO (envOfC "_law_refused" (defScope s__law_refused) s0.heap.objs.size T._law_refused.a (.ref c)) (lamP e13) (lamB e13) (lamSc e13) f4 c4) hf4)
      have l3 := (l3.ext lamO_tbl ee).same (Same.new (o := LamO (envOfC "_law_refused" (defScope s__law_refused) s0.heap.objs.size T._law_refused.a (.ref c)) (lamP e13) (lamB e13) (lamSc e13) f4 c4) hf4)
      have B := Be.same (Same.new (o := .lst [V.ref f1, V.ref f2, V.ref f3, V.ref f4]) hp)
      have l1 := l1.same (Same.new (o := .lst [V.ref f1, V.ref f2, V.ref f3, V.ref f4]) hp)
      have l2 := l2.same (Same.new (o := .lst [V.ref f1, V.ref f2, V.ref f3, V.ref f4]) hp)
      have l3 := l3.same (Same.new (o := .lst [V.ref f1, V.ref f2, V.ref f3, V.ref f4]) hp)
      have l4 := l4.same (Same.new (o := .lst [V.ref f1, V.ref f2, V.ref f3, V.ref f4]) hp)
      refine ⟨p, rfl, ⟨_, SqL.of upd_same⟩, for_list (xs := [V.ref f1, V.ref f2, V.ref f3, V.ref f4]) (fun _ σ H' => (∃ v3 v4, σ = [some (V.ref st), some (V.ref fa), some (V.ref sa), v3, v4, some xw]) ∧ Bun Pt Pt2 st lg cl (m + 1) H H' fa (HO.ins SH.C dx (shapeFs (h : Int) (wn : Int) lo hi)) ∧ Lm H' f1 c1 (LamO (envOfC "_law_refused" (defScope s__law_refused) s0.heap.objs.size T._law_refused.a (.ref c)) (lamP e10) (lamB e10) (lamSc e10) f1 c1) lamQ ∧ Lm H' f2 c2 (LamO (envOfC "_law_refused" (defScope s__law_refused) s0.heap.objs.size T._law_refused.a (.ref c)) (lamP e11) (lamB e11) (lamSc e11) f2 c2) lamQ ∧ Lm H' f3 c3 (LamO (envOfC "_law_refused" (defScope s__law_refused) s0.heap.objs.size T._law_refused.a (.ref c)) (lamP e12) (lamB e12) (lamSc e12) f3 c3) lamQ ∧ Lm H' f4 c4 (LamO (envOfC "_law_refused" (defScope s__law_refused) s0.heap.objs.size T._law_refused.a (.ref c)) (lamP e13) (lamB e13) (lamSc e13) f4 c4) lamQ ∧ H' p = some (.lst [V.ref f1, V.ref f2, V.ref f3, V.ref f4])) ⟨⟨_, _, rfl⟩, B, l1, l2, l3, l4, upd_same⟩ (fun i σ H' _ h => SqL.of h.2.2.2.2.2.2) ?_ fun σ' H' ⟨⟨v3, v4, e⟩, B, _⟩ => ⟨⟨v3, v4, e⟩, B⟩⟩
      rintro i x σ H' hx ⟨⟨v3, v4, rfl⟩, B, l1, l2, l3, l4, hl⟩
      have hx2 : x = V.ref f1 ∨ x = V.ref f2 ∨ x = V.ref f3 ∨ x = V.ref f4 := by
        have := List.mem_of_getElem? hx
        simpa only [List.mem_cons, List.not_mem_nil, or_false] using this
      obtain ⟨q1, pxw⟩ := pw H'
      rcases hx2 with rfl | rfl | rfl | rfl
      · refine ⟨_, List.mem_cons_self, f1, c1, rfl, l1.f, l1.c, rfl, ⟨l1.f, l1.c⟩, fun Q1 hQ1 => ⟨_, rfl, .inr ⟨.non, fun d hd => ⟨exd_exm T.reel BE, fun a ha => ?_⟩⟩⟩⟩
        have e2 : (upd (upd H' d (.xd [("part", V.non)])) a (ExV (.ref BE.C) (some d) a)) d = some (.xd [("part", V.non)]) := (upd_ne (ne_of_none upd_same ha)).trans upd_same
        have sm := (Same.new (o := .xd [("part", V.non)]) hd).trans (Same.new (o := ExV (.ref BE.C) (some d) a) ha)
        refine ⟨_, rfl, .inr ⟨a, BE.C, d, _, _, _, true, rfl, upd_same, e2, BE.x, .own _, kit_self, _, rfl, ?_⟩⟩
        exact iteF ⟨_, rfl, a, d, _, rfl, upd_same, e2, rfl, _, rfl, iteF ⟨⟨_, _, rfl⟩, B.same sm, l1.same sm, l2.same sm, l3.same sm, l4.same sm, sm _ _ hl⟩⟩
      · refine ⟨_, (List.mem_cons_of_mem _ List.mem_cons_self), f2, c2, rfl, l2.f, l2.c, rfl, ⟨l2.f, l2.c⟩, fun Q1 hQ1 => ⟨_, _, rfl, .inr ⟨.int 5, fun d hd => ⟨exd_exm T.reel BE, fun a ha => ?_⟩⟩⟩⟩
        have e2 : (upd (upd H' d (.xd [("part", V.non)])) a (ExV (.ref BE.C) (some d) a)) d = some (.xd [("part", V.non)]) := (upd_ne (ne_of_none upd_same ha)).trans upd_same
        have sm := (Same.new (o := .xd [("part", V.non)]) hd).trans (Same.new (o := ExV (.ref BE.C) (some d) a) ha)
        refine ⟨_, rfl, .inr ⟨a, BE.C, d, _, _, _, true, rfl, upd_same, e2, BE.x, .own _, kit_self, _, rfl, ?_⟩⟩
        exact iteF ⟨_, rfl, a, d, _, rfl, upd_same, e2, rfl, _, rfl, iteF ⟨⟨_, _, rfl⟩, B.same sm, l1.same sm, l2.same sm, l3.same sm, l4.same sm, sm _ _ hl⟩⟩
      · refine ⟨_, (List.mem_cons_of_mem _ (List.mem_cons_of_mem _ List.mem_cons_self)), f3, c3, rfl, l3.f, l3.c, rfl, ⟨l3.f, l3.c⟩, fun Q1 hQ1 => ⟨_, rfl, _, _, rfl, .inr ⟨.str _, fun d hd => ⟨exd_exm T.reel BE, fun a ha => ?_⟩⟩⟩⟩
        have e2 : (upd (upd H' d (.xd [("part", V.non)])) a (ExV (.ref BE.C) (some d) a)) d = some (.xd [("part", V.non)]) := (upd_ne (ne_of_none upd_same ha)).trans upd_same
        have sm := (Same.new (o := .xd [("part", V.non)]) hd).trans (Same.new (o := ExV (.ref BE.C) (some d) a) ha)
        refine ⟨_, rfl, .inr ⟨a, BE.C, d, _, _, _, true, rfl, upd_same, e2, BE.x, .own _, kit_self, _, rfl, ?_⟩⟩
        exact iteF ⟨_, rfl, a, d, _, rfl, upd_same, e2, rfl, _, rfl, iteF ⟨⟨_, _, rfl⟩, B.same sm, l1.same sm, l2.same sm, l3.same sm, l4.same sm, sm _ _ hl⟩⟩
      · refine ⟨_, (List.mem_cons_of_mem _ (List.mem_cons_of_mem _ (List.mem_cons_of_mem _ List.mem_cons_self))), f4, c4, rfl, l4.f, l4.c, rfl, ⟨l4.f, l4.c⟩, fun Q1 hQ1 => ⟨(by show 0 ≤ sizeLine; decide), fun p2 hp2 => ⟨_, _, rfl, .inr ⟨.non, fun d hd => ⟨exd_exm T.reel BE, fun a ha => ?_⟩⟩⟩⟩⟩
        have e2 : (upd (upd (upd H' p2 (.lst [])) d (.xd [("part", V.non)])) a (ExV (.ref BE.C) (some d) a)) d = some (.xd [("part", V.non)]) := (upd_ne (ne_of_none upd_same ha)).trans upd_same
        have sm := (Same.new (o := .lst []) hp2).trans ((Same.new (o := .xd [("part", V.non)]) hd).trans (Same.new (o := ExV (.ref BE.C) (some d) a) ha))
        refine ⟨_, rfl, .inr ⟨a, BE.C, d, _, _, _, true, rfl, upd_same, e2, BE.x, .own _, kit_self, _, rfl, ?_⟩⟩
        exact iteF ⟨_, rfl, a, d, _, rfl, upd_same, e2, rfl, _, rfl, iteF ⟨⟨_, _, rfl⟩, B.same sm, l1.same sm, l2.same sm, l3.same sm, l4.same sm, sm _ _ hl⟩⟩
    rintro σ H1 ⟨⟨v3, v4, rfl⟩, B⟩
    refine ⟨fun σ' H' => (∃ v3 v4, σ' = [some (V.ref st), some (V.ref fa), some (V.ref sa), v3, v4, some xw]) ∧ Bun Pt Pt2 st lg cl (m + 1) H H' fa (HO.ins SH.C dx (shapeFs (h : Int) (wn : Int) lo hi)), ?_, ?_⟩
    · refine ⟨B.Tb, fun Ha ea Ta f1 c1 hf1 hc1 => ⟨Ta.ext (Same.new hf1), fun Hb eb Tb f2 c2 hf2 hc2 => ⟨(by show 2 ≤ sizeLine; decide), fun p hp => ?_⟩⟩⟩
      obtain ⟨Ba, l1⟩ := lam_step (L1 := LamO (envOfC "_law_refused" (defScope s__law_refused) s0.heap.objs.size T._law_refused.a (.ref c)) (lamP e20) (lamB e20) (lamSc e20) f1 c1) B nt ea Ta hf1 hc1
      obtain ⟨Bb, l2⟩ := lam_step (L1 := LamO (envOfC "_law_refused" (defScope s__law_refused) s0.heap.objs.size T._law_refused.a (.ref c)) (lamP e21) (lamB e21) (lamSc e21) f2 c2) Ba nt eb Tb hf2 hc2
      have l1 := (l1.ext lamO_tbl eb).same (Same.new (o := LamO (envOfC "_law_refused" (defScope s__law_refused) s0.heap.objs.size T._law_refused.a (.ref c)) (lamP e21) (lamB e21) (lamSc e21) f2 c2) hf2)
      have B := Bb.same (Same.new (o := .lst [V.ref f1, V.ref f2]) hp)
      have l1 := l1.same (Same.new (o := .lst [V.ref f1, V.ref f2]) hp)
      have l2 := l2.same (Same.new (o := .lst [V.ref f1, V.ref f2]) hp)
      refine ⟨p, rfl, ⟨_, SqL.of upd_same⟩, for_list (xs := [V.ref f1, V.ref f2]) (fun _ σ H' => (∃ v3 v4, σ = [some (V.ref st), some (V.ref fa), some (V.ref sa), v3, v4, some xw]) ∧ Bun Pt Pt2 st lg cl (m + 1) H H' fa (HO.ins SH.C dx (shapeFs (h : Int) (wn : Int) lo hi)) ∧ Lm H' f1 c1 (LamO (envOfC "_law_refused" (defScope s__law_refused) s0.heap.objs.size T._law_refused.a (.ref c)) (lamP e20) (lamB e20) (lamSc e20) f1 c1) lamQ ∧ Lm H' f2 c2 (LamO (envOfC "_law_refused" (defScope s__law_refused) s0.heap.objs.size T._law_refused.a (.ref c)) (lamP e21) (lamB e21) (lamSc e21) f2 c2) lamQ ∧ H' p = some (.lst [V.ref f1, V.ref f2])) ⟨⟨_, _, rfl⟩, B, l1, l2, upd_same⟩ (fun i σ H' _ h => SqL.of h.2.2.2.2) ?_ fun σ' H' ⟨⟨v3, v4, e⟩, B, _⟩ => ⟨⟨v3, v4, e⟩, B⟩⟩
      rintro i x σ H' hx ⟨⟨v3, v4, rfl⟩, B, l1, l2, hl⟩
      have hx2 : x = V.ref f1 ∨ x = V.ref f2 := by
        have := List.mem_of_getElem? hx
        simpa only [List.mem_cons, List.not_mem_nil, or_false] using this
      obtain ⟨q1, pxw⟩ := pw H'
      rcases hx2 with rfl | rfl
      · refine ⟨_, List.mem_cons_self, f1, c1, rfl, l1.f, l1.c, rfl, ⟨l1.f, l1.c⟩, fun Q1 hQ1 => ⟨_, rfl, _, _, rfl, .inl ⟨h, wn, shv B.F, none, .no .non, fun _ => ⟨T.BadBlock.exm T.reel, fun a ha => ?_⟩, fun p b e => by cases e⟩⟩⟩
        · have sm := (Same.new (o := ExV (.ref T.BadBlock.C) none a) ha)
          exact .inr ⟨a, T.BadBlock.C, _, _, true, rfl, upd_same, T.BadBlock.e, .own _, kit_self, _, rfl, iteF ⟨⟨_, _, rfl⟩, B.same sm, l1.same sm, l2.same sm, sm _ _ hl⟩⟩
      · refine ⟨_, (List.mem_cons_of_mem _ List.mem_cons_self), f2, c2, rfl, l2.f, l2.c, rfl, ⟨l2.f, l2.c⟩, fun Q1 hQ1 => ⟨_, rfl, (by show 3 ≤ sizeLine; decide), fun p2 hp2 => ⟨_, _, rfl, .inl ⟨h, wn, shv ((Same.new hp2) _ _ B.F), some [.int 0, .int 0, .int 3], .tup upd_same (fun x hx => ?_) (by show 3 ≤ 1000; decide), fun _ => ⟨T.BadBlock.exm T.reel, fun a ha => ?_⟩, fun p b e eb v => ?_⟩⟩⟩⟩
        · simp only [List.mem_cons, List.not_mem_nil, or_false] at hx
          rcases hx with z | z | z <;> subst z <;> exact ⟨_, .int _⟩
        · have sm := (Same.new (o := .tup [.int 0, .int 0, .int 3]) hp2).trans (Same.new (o := ExV (.ref T.BadBlock.C) none a) ha)
          exact .inr ⟨a, T.BadBlock.C, _, _, true, rfl, upd_same, T.BadBlock.e, .own _, kit_self, _, rfl, iteF ⟨⟨_, _, rfl⟩, B.same sm, l1.same sm, l2.same sm, sm _ _ hl⟩⟩
        · exfalso
          cases e
          rw [upd_same] at eb
          have e3 := Option.some.inj eb
          have e4 : ([.int 0, .int 0, .int 3] : List V) = bkV b := HO.tup.inj e3
          have : blkB h wn (some (bkV b)) = true := blkB_iff.mpr ⟨b, v, rfl⟩
          rw [← e4] at this
          simp [blkB, inSz_int] at this
    rintro σ H1 ⟨⟨v3, v4, rfl⟩, B⟩
    exact k H1 B.S B.Tb B.k
end
end K04
namespace K04
open PySem PySem.Spec PyProof.Rows L2 PySem.W LamX KA KW KU KL KT
open Evl (pss_cut tCut)
/-! ### the law's own body: its statements, what stands -/
theorem FnG.w {P : Program} {w : World} {K : PySem.W.Frag} {mg : Str → Option Value} {base : Heap} {CX : CXT} {k : Nat} {f : Addr} {fd : FuncData} {ps : List Str} {sp : Sp} {fs : List Addr} {H0 : Hp} {h0 : Heap} (F : FnG P w K mg base CX k f fd ps sp) : FnW P w K mg base fs H0 h0 CX k f fd ps sp :=
  ⟨F.len, fun A outer s H args us vs Q E hr hg e0 _ _ b r h => F.run A outer s H args us vs Q E hr hg e0 b r h⟩
theorem since_self {Z : Cx} (h : Z.ex = []) : Since Z Z.fs Z.H_0 Z.s_0.heap := ⟨Un.kept fun _ _ z => z, fun _ hb => .inl hb, h⟩
def suiteOf : Stmt → List Stmt
  | .For _ _ b _ _ => b
  | _ => []
def stT (i : Nat) : Stmt := (suiteOf ((defBody s_law).getD 1 (.Pass ⟨0, 0, 0, 0⟩))).getD i (.Pass ⟨0, 0, 0, 0⟩)
abbrev NL : List Str := ["script", "state", "turn", "scope", "every", "square", "bent", "due", "spot", "root", "cover", "lap", "form", "item", "one"]
abbrev LX (P : Program) (w : World) {K : PySem.W.Frag} {mg : Str → Option Value} (base : Heap) (T : Top K mg) (c : Addr) (A : Around) (outer : List Env) (s0 : Shared) (H0 : Hp) (E0 : XK) : Cx :=
  cxOf (L2.CX P w) P w K mg base NL "law" (defScope s_law) T.law.a (.ref c) A outer s0 H0 E0
abbrev sg (a st sa ea fa : Addr) (v2 v5 v6 v7 v8 v9 v10 v11 v13 v14 : Option V) : L2.St := [some (.ref a), some (.ref st), v2, some (.ref sa), some (.ref ea), v5, v6, v7, v8, v9, v10, v11, some (.ref fa), v13, v14]
theorem KpN.tp {st lg cl : Addr} {m : Nat} {H H' : Hp} (S : StAt H st lg cl m) (k : KpN st lg H H') : Tp H H' := fun b xs e => by
  obtain ⟨_, _, _, _, S', _⟩ := S
  exact k b _ e (ne_of e S'.d (by intro z; cases z)) (ne_of e S'.l (by intro z; cases z)) (fun _ z => by cases z)
/-- the scope, the form and the list of all blocks stand -/
structure LB (C Pt Pt2 st lg cl sa fa ea : Addr) (h w : Nat) (us : List V) (bs : List Bk) (m : Nat) (H : Hp) : Prop where
  S : StAt H st lg cl m
  Tb : Tabs (tabs Pt Pt2) H
  sc : ScW H sa h w
  shp : Shp C H (.ref fa) h w
  e : H ea = some (.lst us)
  r : RL bkV H us bs
  pm : bs.Perm (everyL h w)
  ns : sa ≠ st ∧ sa ≠ lg
  ne : ea ≠ st ∧ ea ≠ lg
section
variable {C Pt Pt2 st lg cl sa fa ea : Addr} {h w : Nat} {us : List V} {bs : List Bk} {m m' : Nat} {H H' : Hp}
theorem LB.kn (B : LB C Pt Pt2 st lg cl sa fa ea h w us bs m H) (k : KpN st lg H H') (S : StAt H' st lg cl m') (Tb : Tabs (tabs Pt Pt2) H') : LB C Pt Pt2 st lg cl sa fa ea h w us bs m' H' := by
  obtain ⟨_, _, _, _, S', _⟩ := B.S
  refine ⟨S, Tb, ?_, ?_, k _ _ B.e B.ne.1 B.ne.2 (fun _ z => by cases z), B.r.tp (KpN.tp B.S k), B.pm, B.ns, B.ne⟩
  · obtain ⟨lo, hi, q⟩ := B.sc
    exact ⟨lo, hi, q.keep fun o e => k _ _ e B.ns.1 B.ns.2 (fun ps z => by
      subst z
      have := q.d
      rw [e] at this
      cases this)⟩
  · obtain ⟨a, dx, lo, hi, ea', e, q⟩ := B.shp
    refine ⟨a, dx, lo, hi, ea', k _ _ e (ne_of e S'.d (by intro z; cases z)) (ne_of e S'.l (by intro z; cases z)) (fun _ z => by cases z), q⟩
theorem LB.kp (B : LB C Pt Pt2 st lg cl sa fa ea h w us bs m H) (k : Kp st lg H H') (S : StAt H' st lg cl m') : LB C Pt Pt2 st lg cl sa fa ea h w us bs m' H' := B.kn (.kp k) S (tabs_kp B.Tb B.S k)
theorem LB.same (B : LB C Pt Pt2 st lg cl sa fa ea h w us bs m H) (k : Same H H') : LB C Pt Pt2 st lg cl sa fa ea h w us bs m H' := B.kp (.same k) (B.S.same k)
theorem LB.mono (B : LB C Pt Pt2 st lg cl sa fa ea h w us bs m H) (l : m ≤ m') : LB C Pt Pt2 st lg cl sa fa ea h w us bs m' H := { B with S := B.S.mono l }
end
/-! ### roots and cells, shown -/
def allD (h w : Nat) : PyData := .list [.list ((rootsL h w).map bkD), .list ((cellsL h w).map bkD)]
theorem cells_vb {h w : Nat} {c : Bk} (hc : c ∈ cellsL h w) : Vb h w c := by
  obtain ⟨r, hr, mr⟩ := List.mem_flatMap.mp hc
  exact (cells_in r (roots_vb hr) c mr).1
theorem all_sm {h w : Nat} (hh : h ≤ 16) (hw : w ≤ 16) : Sm 43802 3 (allD h w) := by
  refine sm_list (n := 21900) (z := 2) (k := 2) (fun d hd => ?_) (by show 2 ≤ 2; decide)
  simp only [List.mem_cons, List.not_mem_nil, or_false] at hd
  rcases hd with rfl | rfl
  · refine (sm_list (n := 72) (z := 1) (k := 4) (fun d hd => ?_) (by rw [List.length_map]; exact roots_len hh hw)).mono (by decide) (by decide)
    obtain ⟨e, he, rfl⟩ := List.mem_map.mp hd
    exact (its_bk (vb_sml (roots_vb he) hh hw)).sm
  · refine (sm_list (n := 72) (z := 1) (k := 300) (fun d hd => ?_) (by rw [List.length_map]; exact cells_all_len hh hw)).mono (by decide) (by decide)
    obtain ⟨e, he, rfl⟩ := List.mem_map.mp hd
    exact (its_bk (vb_sml (cells_vb he) hh hw)).sm
theorem all_dp {K : PySem.W.Frag} {H : Hp} {L q1 q2 : Addr} {u1 u2 : List V} {h w : Nat} (eL : H L = some (.lst [.ref q1, .ref q2])) (l1 : H q1 = some (.lst u1)) (r1 : RL bkV H u1 (rootsL h w)) (l2 : H q2 = some (.lst u2)) (r2 : RL bkV H u2 (cellsL h w)) : Dp K H (.ref L) (allD h w) :=
  .lst (SqL.of eL) (.cons (.lst (SqL.of l1) (dp_bks r1)) (.cons (.lst (SqL.of l2) (dp_bks r2)) .nil))
end K04
namespace K04
open PySem PySem.Spec PyProof.Rows L2 PySem.W LamX KA KW KU KL KT
open Evl (pss_cut tCut)
section
variable {P : Program} {w : World} {K : PySem.W.Frag} {mg : Str → Option Value} {base : Heap} (T : Top K mg) (SH : ShapeT K mg) (BE : BadShapeT P w K mg T.reel.C) (Z : SzT K mg)
variable {c : Addr} {A : Around} {outer : List Env} {s0 : Shared} {H0 : Hp} {E0 : XK} (hr : Room 11 (A.deeper (envOfC "law" (defScope s_law) s0.heap.objs.size T.law.a (.ref c)))) (hg : A.guards = some [])
/-! ### a turn's head -/
include hr in
theorem seg0 : ∃ t, PS (LX P w base T c A outer s0 H0 E0) (stT 0) t ∧ ∀ (D : Ends) (Pt Pt2 a st lg cl : Addr) (m : Nat) (H : Hp) (v2 v3 v4 v5 v6 v7 v8 v9 v10 v11 v12 v13 v14 : Option V), m ≤ 900000 → StAt H st lg cl m → Tabs (tabs Pt Pt2) H →
    (∀ sa h w H', StAt H' st lg cl (m + 7) → Tabs (tabs Pt Pt2) H' → ScW H' sa h w → sa ≠ st ∧ sa ≠ lg → D.nx [some (.ref a), some (.ref st), v2, some (.ref sa), v4, v5, v6, v7, v8, v9, v10, v11, v12, v13, v14] H') →
    t D [some (.ref a), some (.ref st), v2, v3, v4, v5, v6, v7, v8, v9, v10, v11, v12, v13, v14] H := by
  refine ⟨_, (ps_set (i := 3) sc_law.nd rfl (by first | exact .inl rfl | exact .inr rfl) (pe_call (ok_wide T) (hr.mono (by decide)) (by rfl) T._law_wide_scope.m T._law_wide_scope.f.kp (bd__law_wide_scope T) .nil passE (pa_cons (pv 1) pa_nil))), fun D Pt Pt2 a st lg cl m H v2 v3 v4 v5 v6 v7 v8 v9 v10 v11 v12 v13 v14 hm S Tb k => ?_⟩
  exact ⟨_, rfl, st, lg, cl, m, rfl, by omega, S, fun sa h w H' sc _ n1 n2 S' kp => k sa h w H' S' (tabs_kp Tb S kp) sc ⟨n1, n2⟩⟩
include hr BE in
theorem seg1 : ∃ t, PS (LX P w base T c A outer s0 H0 E0) (stT 1) t ∧ ∀ (D : Ends) (Pt Pt2 a st lg cl sa : Addr) (h w m : Nat) (H : Hp) (v2 v4 v5 v6 v7 v8 v9 v10 v11 v12 v13 v14 : Option V), StAt H st lg cl m → Tabs (tabs Pt Pt2) H → ScW H sa h w → sa ≠ st ∧ sa ≠ lg →
    (∀ fa ea us bs H', LB SH.C Pt Pt2 st lg cl sa fa ea h w us bs m H' → D.nx (sg a st sa ea fa v2 v5 v6 v7 v8 v9 v10 v11 v13 v14) H') →
    t D [some (.ref a), some (.ref st), v2, some (.ref sa), v4, v5, v6, v7, v8, v9, v10, v11, v12, v13, v14] H := by
  refine ⟨_, ps_asg (pe_tup (pa_cons (pe_call (ok_form4 T SH BE) (hr.mono (by decide)) (by rfl) T._law_form.m T._law_form.f.kp (bd__law_form T) .nil passE (pa_cons (pv 3) pa_nil)) (pa_cons (pe_call (ok_lsquares T) (hr.mono (by decide)) (by rfl) T._law_squares.m T._law_squares.f.kp (bd__law_squares T) .nil passE (pa_cons (pv 3) pa_nil)) pa_nil))) (pg_tup rfl (pgs_cons (pg_name (i := 12) sc_law.nd rfl (by first | exact .inl rfl | exact .inr rfl)) (pgs_cons (pg_name (i := 4) sc_law.nd rfl (by first | exact .inl rfl | exact .inr rfl)) pgs_nil))), fun D Pt Pt2 a st lg cl sa h w m H v2 v4 v5 v6 v7 v8 v9 v10 v11 v12 v13 v14 S Tb sc ns k => ?_⟩
  refine ⟨_, rfl, sa, h, w, rfl, sc, fun fa H1 shp _ s1 _ => ⟨_, rfl, sa, h, w, rfl, sc.keep s1, fun ea us bs H2 s2 n2 l2 r2 pm => ⟨(by show 2 ≤ sizeLine; decide), fun p hp => ?_⟩⟩⟩
  have s3 := Same.new (o := .tup [V.ref fa, .ref ea]) hp
  refine ⟨p, _, rfl, SqT.of upd_same, rfl, _, _, rfl, _, _, rfl, rfl, ?_⟩
  have s12 := s1.trans s2
  have sA := s12.trans s3
  exact k fa ea us bs _ ⟨S.same sA, Tb.ext sA, sc.keep sA, shp.keep (s2.trans s3), s3 _ _ l2, r2.same s3, pm, ns, (S.same s1).off n2⟩
/-! ### roots and cells: as they are due, twice -/
include hr hg BE in
theorem seg2 : ∃ t, PS (LX P w base T c A outer s0 H0 E0) (stT 2) t ∧ ∀ (D : Ends) (Pt Pt2 a st lg cl sa fa ea : Addr) (h w : Nat) (us : List V) (bs : List Bk) (m : Nat) (H : Hp) (v2 v5 v6 v7 v8 v9 v10 v11 v13 v14 : Option V), LB SH.C Pt Pt2 st lg cl sa fa ea h w us bs m H →
    (∀ H', LB SH.C Pt Pt2 st lg cl sa fa ea h w us bs m H' → D.nx (sg a st sa ea fa v2 v5 v6 v7 v8 v9 v10 v11 v13 v14) H') → t D (sg a st sa ea fa v2 v5 v6 v7 v8 v9 v10 v11 v13 v14) H := by
  refine ⟨_, (ps_if (pt_cmpR op_ne (pe_callB (show CallR _ _ (rRepr K) from call_repr hg hr) (by rfl) T.b_repr (by decide +kernel) (pa_cons (pe_lst (pa_cons (pe_call (ok_roots T SH BE) (hr.mono (by decide)) (by rfl) T.roots.m T.roots.f.kp (bd_roots T) .nil passE (pa_cons (pv 12) pa_nil)) (pa_cons (pe_kw (ok_cells T SH BE) (hr.mono (by decide)) (by rfl) T.cells.m T.cells.f.kp (KA.Fun.kw1 T.cells.f fun _ _ _ _ _ _ _ => rfl) passE (pk_cons (pv 12) pk_nil)) pa_nil))) pa_nil)) (pe_callB (show CallR _ _ (rRepr K) from call_repr hg hr) (by rfl) T.b_repr (by decide +kernel) (pa_cons (pe_lst (pa_cons (pe_call (ok_lroots T) (hr.mono (by decide)) (by rfl) T._law_roots.m T._law_roots.f.kp (bd__law_roots T) .nil passE (pa_cons (pv 3) pa_nil)) (pa_cons (pe_call (ok_lall T) (hr.mono (by decide)) (by rfl) T._law_all_cells.m T._law_all_cells.f.kp (bd__law_all_cells T) .nil passE (pa_cons (pv 3) pa_nil)) pa_nil))) pa_nil)) (nomark _)) (pss_one (ps_ret pe_bl)) pss_nil), fun D Pt Pt2 a st lg cl sa fa ea h w us bs m H v2 v5 v6 v7 v8 v9 v10 v11 v13 v14 B k => ?_⟩
  have hb := B.sc.b
  obtain ⟨z1, z2, z3, z4⟩ := (all_sm hb.2.1 hb.2.2.2).repr (by decide) (by decide)
  refine ⟨_, rfl, .ref fa, rfl, .inl ⟨h, w, B.shp, fun q1 u1 Ha sa1 n1 l1 r1 => ?_⟩⟩
  have Ba := B.same sa1
  refine ⟨_, rfl, rfl, .ref fa, rfl, .inl ⟨h, w, Ba.shp, fun q2 u2 Hb sb1 n2 l2 r2 => ⟨(by show 2 ≤ sizeLine; decide), fun LA hLA => ?_⟩⟩⟩
  have tLA := Same.new (o := .lst [V.ref q1, .ref q2]) hLA
  have eLA : (upd Hb LA (.lst [V.ref q1, .ref q2])) LA = some (.lst [V.ref q1, .ref q2]) := upd_same
  generalize upd Hb LA (.lst [V.ref q1, .ref q2]) = Hc at tLA eLA ⊢
  have Bc := (Ba.same sb1).same tLA
  refine ⟨LA, allD h w, rfl, all_dp eLA ((sb1.trans tLA) _ _ l1) (r1.same (sb1.trans tLA)) (tLA _ _ l2) (r2.same tLA), z1, z2, z3, z4, ?_⟩
  clear tLA eLA hLA l1 l2 r1 r2 n1 n2 sa1 sb1
  refine ⟨_, rfl, sa, h, w, rfl, Bc.sc, fun q3 u3 Hd sd n3 l3 r3 => ⟨_, rfl, sa, h, w, rfl, (Bc.same sd).sc, fun q4 u4 He se n4 l4 r4 => ⟨(by show 2 ≤ sizeLine; decide), fun MA hMA => ?_⟩⟩⟩
  have tMA := Same.new (o := .lst [V.ref q3, .ref q4]) hMA
  have eMA : (upd He MA (.lst [V.ref q3, .ref q4])) MA = some (.lst [V.ref q3, .ref q4]) := upd_same
  generalize upd He MA (.lst [V.ref q3, .ref q4]) = Hf at tMA eMA ⊢
  refine ⟨MA, allD h w, rfl, all_dp eMA ((se.trans tMA) _ _ l3) (r3.same (se.trans tMA)) (tMA _ _ l4) (r4.same tMA), z1, z2, z3, z4, rfl, _, rfl, ?_⟩
  rw [decide_eq_true rfl]
  exact iteF (k Hf (((Bc.same sd).same se).same tMA))
include hr hg BE in
theorem seg5 : ∃ t, PS (LX P w base T c A outer s0 H0 E0) (stT 5) t ∧ ∀ (D : Ends) (Pt Pt2 a st lg cl sa fa ea : Addr) (h w : Nat) (us : List V) (bs : List Bk) (m : Nat) (H : Hp) (v2 v5 v6 v7 v8 v9 v10 v11 v13 v14 : Option V), LB SH.C Pt Pt2 st lg cl sa fa ea h w us bs m H →
    (∀ H', LB SH.C Pt Pt2 st lg cl sa fa ea h w us bs m H' → D.nx (sg a st sa ea fa v2 v5 v6 v7 v8 v9 v10 v11 v13 v14) H') → t D (sg a st sa ea fa v2 v5 v6 v7 v8 v9 v10 v11 v13 v14) H := by
  refine ⟨_, (ps_if (pt_cmpR op_ne (pe_callB (show CallR _ _ (rRepr K) from call_repr hg hr) (by rfl) T.b_repr (by decide +kernel) (pa_cons (pe_lst (pa_cons (pe_kw (ok_roots T SH BE) (hr.mono (by decide)) (by rfl) T.roots.m T.roots.f.kp (KA.Fun.kw1 T.roots.f fun _ _ _ _ _ _ _ => rfl) passE (pk_cons (pv 12) pk_nil)) (pa_cons (pe_call (ok_cells T SH BE) (hr.mono (by decide)) (by rfl) T.cells.m T.cells.f.kp (bd_cells T) .nil passE (pa_cons (pv 12) pa_nil)) pa_nil))) pa_nil)) (pe_callB (show CallR _ _ (rRepr K) from call_repr hg hr) (by rfl) T.b_repr (by decide +kernel) (pa_cons (pe_lst (pa_cons (pe_call (ok_lroots T) (hr.mono (by decide)) (by rfl) T._law_roots.m T._law_roots.f.kp (bd__law_roots T) .nil passE (pa_cons (pv 3) pa_nil)) (pa_cons (pe_call (ok_lall T) (hr.mono (by decide)) (by rfl) T._law_all_cells.m T._law_all_cells.f.kp (bd__law_all_cells T) .nil passE (pa_cons (pv 3) pa_nil)) pa_nil))) pa_nil)) (nomark _)) (pss_one (ps_ret pe_bl)) pss_nil), fun D Pt Pt2 a st lg cl sa fa ea h w us bs m H v2 v5 v6 v7 v8 v9 v10 v11 v13 v14 B k => ?_⟩
  have hb := B.sc.b
  obtain ⟨z1, z2, z3, z4⟩ := (all_sm hb.2.1 hb.2.2.2).repr (by decide) (by decide)
  refine ⟨_, rfl, rfl, .ref fa, rfl, .inl ⟨h, w, B.shp, fun q1 u1 Ha sa1 n1 l1 r1 => ?_⟩⟩
  have Ba := B.same sa1
  refine ⟨_, rfl, .ref fa, rfl, .inl ⟨h, w, Ba.shp, fun q2 u2 Hb sb1 n2 l2 r2 => ⟨(by show 2 ≤ sizeLine; decide), fun LA hLA => ?_⟩⟩⟩
  have tLA := Same.new (o := .lst [V.ref q1, .ref q2]) hLA
  have eLA : (upd Hb LA (.lst [V.ref q1, .ref q2])) LA = some (.lst [V.ref q1, .ref q2]) := upd_same
  generalize upd Hb LA (.lst [V.ref q1, .ref q2]) = Hc at tLA eLA ⊢
  have Bc := (Ba.same sb1).same tLA
  refine ⟨LA, allD h w, rfl, all_dp eLA ((sb1.trans tLA) _ _ l1) (r1.same (sb1.trans tLA)) (tLA _ _ l2) (r2.same tLA), z1, z2, z3, z4, ?_⟩
  clear tLA eLA hLA l1 l2 r1 r2 n1 n2 sa1 sb1
  refine ⟨_, rfl, sa, h, w, rfl, Bc.sc, fun q3 u3 Hd sd n3 l3 r3 => ⟨_, rfl, sa, h, w, rfl, (Bc.same sd).sc, fun q4 u4 He se n4 l4 r4 => ⟨(by show 2 ≤ sizeLine; decide), fun MA hMA => ?_⟩⟩⟩
  have tMA := Same.new (o := .lst [V.ref q3, .ref q4]) hMA
  have eMA : (upd He MA (.lst [V.ref q3, .ref q4])) MA = some (.lst [V.ref q3, .ref q4]) := upd_same
  generalize upd He MA (.lst [V.ref q3, .ref q4]) = Hf at tMA eMA ⊢
  refine ⟨MA, allD h w, rfl, all_dp eMA ((se.trans tMA) _ _ l3) (r3.same (se.trans tMA)) (tMA _ _ l4) (r4.same tMA), z1, z2, z3, z4, rfl, _, rfl, ?_⟩
  rw [decide_eq_true rfl]
  exact iteF (k Hf (((Bc.same sd).same se).same tMA))
include hr BE in
theorem seg3 : ∃ t, PS (LX P w base T c A outer s0 H0 E0) (stT 3) t ∧ ∀ (D : Ends) (Pt Pt2 a st lg cl sa fa ea : Addr) (h w : Nat) (us : List V) (bs : List Bk) (m : Nat) (H : Hp) (v2 v5 v6 v7 v8 v9 v10 v11 v13 v14 : Option V), LB SH.C Pt Pt2 st lg cl sa fa ea h w us bs m H →
    (∀ H', LB SH.C Pt Pt2 st lg cl sa fa ea h w us bs m H' → D.nx (sg a st sa ea fa v2 v5 v6 v7 v8 v9 v10 v11 v13 v14) H') → t D (sg a st sa ea fa v2 v5 v6 v7 v8 v9 v10 v11 v13 v14) H := by
  refine ⟨_, (ps_expr (pe_bm PySem.F.plainAttrs_list PySem.F.slot_list_append PySem.F.type_list_append mt_append (pe_call (ok_cells T SH BE) (hr.mono (by decide)) (by rfl) T.cells.m T.cells.f.kp (bd_cells T) .nil passE (pa_cons (pv 12) pa_nil)) (pa_cons pe_non pa_nil))), fun D Pt Pt2 a st lg cl sa fa ea h w us bs m H v2 v5 v6 v7 v8 v9 v10 v11 v13 v14 B k => ?_⟩
  have hb := B.sc.b
  have el := cells_all_len (h := h) (w := w) hb.2.1 hb.2.2.2
  have s300 : 301 < sizeLine := by decide
  refine ⟨_, rfl, .ref fa, rfl, .inl ⟨h, w, B.shp, fun q u Ha s n l r => ⟨.inl ⟨rfl, _, SqL.of l⟩, q, u, .non, rfl, rfl, l, by rw [r.1]; dsimp only; omega, ?_⟩⟩⟩
  exact k _ (B.same (K04.Same.put s n))
include hr BE in
theorem seg4 : ∃ t, PS (LX P w base T c A outer s0 H0 E0) (stT 4) t ∧ ∀ (D : Ends) (Pt Pt2 a st lg cl sa fa ea : Addr) (h w : Nat) (us : List V) (bs : List Bk) (m : Nat) (H : Hp) (v2 v5 v6 v7 v8 v9 v10 v11 v13 v14 : Option V), LB SH.C Pt Pt2 st lg cl sa fa ea h w us bs m H →
    (∀ H', LB SH.C Pt Pt2 st lg cl sa fa ea h w us bs m H' → D.nx (sg a st sa ea fa v2 v5 v6 v7 v8 v9 v10 v11 v13 v14) H') → t D (sg a st sa ea fa v2 v5 v6 v7 v8 v9 v10 v11 v13 v14) H := by
  refine ⟨_, (ps_expr (pe_bm PySem.F.plainAttrs_list PySem.F.slot_list_append PySem.F.type_list_append mt_append (pe_call (ok_roots T SH BE) (hr.mono (by decide)) (by rfl) T.roots.m T.roots.f.kp (bd_roots T) .nil passE (pa_cons (pv 12) pa_nil)) (pa_cons pe_non pa_nil))), fun D Pt Pt2 a st lg cl sa fa ea h w us bs m H v2 v5 v6 v7 v8 v9 v10 v11 v13 v14 B k => ?_⟩
  have hb := B.sc.b
  have el := roots_len (h := h) (w := w) hb.2.1 hb.2.2.2
  have s300 : 301 < sizeLine := by decide
  refine ⟨_, rfl, .ref fa, rfl, .inl ⟨h, w, B.shp, fun q u Ha s n l r => ⟨.inl ⟨rfl, _, SqL.of l⟩, q, u, .non, rfl, rfl, l, by rw [r.1]; dsimp only; omega, ?_⟩⟩⟩
  exact k _ (B.same (K04.Same.put s n))
end
end K04
namespace K04
open PySem PySem.Spec PyProof.Rows L2 PySem.W LamX KA KW KU KL KT
open Evl (pss_cut tCut)
/-- an item that stays whatever is drawn or made -/
def EIN (K : PySem.W.Frag) (st lg : Addr) (H : Hp) (x : V) : Prop := ∃ o d, ∀ H', KpN st lg H H' → ItV K H' x o d
theorem EIN.kn {K : PySem.W.Frag} {st lg : Addr} {H H' : Hp} {x : V} (e : EIN K st lg H x) (k : KpN st lg H H') : EIN K st lg H' x := by
  obtain ⟨o, d, q⟩ := e
  exact ⟨o, d, fun H2 k2 => q H2 (k.trans k2)⟩
theorem ein_tup {K : PySem.W.Frag} {st lg : Addr} {H : Hp} {p : Addr} {xs : List V} (e : H p = some (.tup xs)) (n : p ≠ st ∧ p ≠ lg) (l1 : xs.length ≠ 1) (l4 : xs.length ≤ 4) (h : ∀ x ∈ xs, AtV x) : EIN K st lg H (.ref p) :=
  ⟨_, _, fun H' k => it_tup (k _ _ e n.1 n.2 fun _ z => by cases z) l1 l4 h⟩
theorem ein_lst {K : PySem.W.Frag} {st lg : Addr} {H : Hp} {p : Addr} {xs : List V} (e : H p = some (.lst xs)) (n : p ≠ st ∧ p ≠ lg) (l4 : xs.length ≤ 4) (h : ∀ x ∈ xs, AtV x) : EIN K st lg H (.ref p) :=
  ⟨_, _, fun H' k => it_lst (k _ _ e n.1 n.2 fun _ z => by cases z) l4 h⟩
theorem rw_bkV {K : PySem.W.Frag} {H : Hp} {x : V} {o : Option (List V)} {p : Addr} {xs : List V} (r : Rw K H x o) (e : x = .ref p) (h : H p = some (.tup xs)) : o = some xs := by
  subst e
  cases r with
  | no n =>
    cases n with
    | lst q =>
      rw [h] at q
      cases q
    | dK q =>
      rw [h] at q
      cases q
  | tup q _ _ =>
    rw [h] at q
    cases q
    rfl
theorem off_tup {H : Hp} {st lg cl p : Addr} {m : Nat} {xs : List V} (S : StAt H st lg cl m) (e : H p = some (.tup xs)) : p ≠ st ∧ p ≠ lg := by
  obtain ⟨_, _, _, _, S', _⟩ := S
  exact ⟨ne_of e S'.d (by intro z; cases z), ne_of e S'.l (by intro z; cases z)⟩
theorem mem_cutV {xs : List V} {lo hi : Option Int} {x : V} (h : x ∈ cutV xs lo hi) : x ∈ xs := List.mem_of_mem_drop (List.mem_of_mem_take h)
def twoB (b : Bool) : PyData := .list [.bool b, .bool b]
theorem two_sm {b : Bool} : Sm 36 1 (twoB b) := sm_list (n := 17) (z := 0) (k := 2) (fun d hd => by
  simp only [List.mem_cons, List.not_mem_nil, or_false] at hd
  rcases hd with rfl | rfl <;> exact sm_bool) (by show 2 ≤ 2; decide)
theorem two_dp {K : PySem.W.Frag} {H : Hp} {L : Addr} {b : Bool} (e : H L = some (.lst [.bl b, .bl b])) : Dp K H (.ref L) (twoB b) := .lst (SqL.of e) (.cons (.bl b) (.cons (.bl b) .nil))
def stS (i : Nat) : Stmt := (suiteOf (stT 6)).getD i (.Pass ⟨0, 0, 0, 0⟩)
section
variable {P : Program} {w : World} {K : PySem.W.Frag} {mg : Str → Option Value} {base : Heap} (T : Top K mg) (SH : ShapeT K mg) (BE : BadShapeT P w K mg T.reel.C) (Z : SzT K mg)
variable {c : Addr} {A : Around} {outer : List Env} {s0 : Shared} {H0 : Hp} {E0 : XK} (hr : Room 11 (A.deeper (envOfC "law" (defScope s_law) s0.heap.objs.size T.law.a (.ref c)))) (hg : A.guards = some [])
/-! ### a block, and what is bent of it: are they blocks -/
include hr hg BE Z in
theorem seg_items (TB : TabB base mg c Pt2) (nP : Pt ≠ Pt2) : ∃ t, PS (LX P w base T c A outer s0 H0 E0) (stS 3) t ∧ ∀ (D : Ends) (a st lg cl sa fa ea p bl : Addr) (b : Bk) (ys : List V) (h w : Nat) (us : List V) (bs : List Bk) (m : Nat) (H : Hp) (v2 v7 v8 v9 v10 v11 v13 v14 : Option V), LB SH.C Pt Pt2 st lg cl sa fa ea h w us bs m H → H p = some (.tup (bkV b)) → Vb h w b → H bl = some (.lst ys) → bl ≠ st ∧ bl ≠ lg → ys.length = 3 → (∀ y ∈ ys, AtV y) →
    (∀ H' v7 v13, LB SH.C Pt Pt2 st lg cl sa fa ea h w us bs m H' → KpN st lg H H' → D.nx (sg a st sa ea fa v2 (some (.ref p)) (some (.ref bl)) v7 v8 v9 v10 v11 v13 v14) H') → t D (sg a st sa ea fa v2 (some (.ref p)) (some (.ref bl)) v7 v8 v9 v10 v11 v13 v14) H := by
  refine ⟨_, (ps_for (passes_of rfl) rfl (pi_list (pe_lst (pa_cons (pv 5) (pa_cons (pe_callTy call_tuple_of (by rfl) T.b_tuple (by decide +kernel) (pa_cons (pv 6) pa_nil)) (pa_cons (pv 6) (pa_cons (pe_slice sl_tup (pv 5) po_none (po_some pe_int)) pa_nil)))))) (pg_name (i := 13) sc_law.nd rfl (by first | exact .inl rfl | exact .inr rfl)) (pss_cons (ps_set (i := 7) sc_law.nd rfl (by first | exact .inl rfl | exact .inr rfl) (pe_wcall (FnG.w (ok_is_sq T)) (since_self rfl) (hr.mono (by decide)) hg (by rfl) T._law_is_square.m T._law_is_square.f.kp (bd__law_is_square T) passE (pa_cons (pv 3) (pa_cons (pv 13) pa_nil))))
      (pss_cons (ps_if (pt_cmpR op_ne (pe_callB (show CallR _ _ (rRepr K) from call_repr hg hr) (by rfl) T.b_repr (by decide +kernel) (pa_cons (pe_lst (pa_cons (pe_call (ok_is_block T SH BE Z) (hr.mono (by decide)) (by rfl) T.is_block.m T.is_block.f.kp (bd_is_block T) .nil passE (pa_cons (pv 12) (pa_cons (pv 13) pa_nil))) (pa_cons (pe_kw (ok_is_block T SH BE Z) (hr.mono (by decide)) (by rfl) T.is_block.m T.is_block.f.kp (KA.Fun.kw2 T.is_block.f fun _ _ _ _ _ _ _ _ => rfl) passE (pk_cons (pv 13) (pk_cons (pv 12) pk_nil))) pa_nil))) pa_nil)) (pe_callB (show CallR _ _ (rRepr K) from call_repr hg hr) (by rfl) T.b_repr (by decide +kernel) (pa_cons (pe_lst (pa_cons (pv 7) (pa_cons (pv 7) pa_nil))) pa_nil)) (nomark _)) (pss_one (ps_ret pe_bl)) pss_nil)
      (pss_one (ps_if (PW.pt (pw_and (pt_not (pt_val (pv 7))) (pw_and1 (pt_not (pt_val (pe_callB (show CallR _ _ (rIs2 K) from call_is2) (by rfl) T.b_isinstance PyProof.Rows.boot_isinstance (pa_cons (pe_caught2 T TB rfl (show Room (6 + 2) _ from hr.mono (by decide)) (by rfl) (List.mem_cons_of_mem _ List.mem_cons_self) (one_l nP) (lamS_by (sc := defScope s_law) (by decide +kernel)) rfl (fun _ _ _ _ _ => rfl) (fun A outer s H E f c' h => (pe_call (ok_spots T SH BE Z) (h.mono (by decide)) (by rfl) T.spots.m T.spots.f.kp (bd_spots T) .nil (passX rfl rfl rfl rfl) (pa_cons (pv 12) (pa_cons (pv 13) pa_nil))))) (pa_cons (pe_glob (v := .ref T.BadBlock.C) (by rfl) T.BadBlock.g rfl) pa_nil)))))))) (pss_one (ps_ret pe_bl)) pss_nil))))), fun D a st lg cl sa fa ea p bl b ys h w us bs m H v2 v7 v8 v9 v10 v11 v13 v14 B hp hv hbl nbl ly ay k => ?_⟩
  have hb := B.sc.b
  refine ⟨_, rfl, _, rfl, bl, ys, rfl, .inl ⟨SqL.of hbl, fun tb htb => ?_⟩⟩
  have t1 := Same.new (o := .tup ys) htb
  have e1 : (upd H tb (.tup ys)) tb = some (.tup ys) := upd_same
  have n1 := B.S.off htb
  generalize upd H tb (.tup ys) = H1 at t1 e1 ⊢
  refine ⟨_, rfl, _, rfl, _, rfl, p, bkV b, rfl, SqT.of (t1 _ _ hp), (by show ¬ _; simp [HT.sIx, bkV]), fun q hq => ?_⟩
  have ec : cutV (bkV b) none (some 2) = [.int (b.t : Int), .int (b.l : Int)] := rfl
  rw [ec]
  have t2 := Same.new (o := .tup [V.int (b.t : Int), .int (b.l : Int)]) hq
  have e2 : (upd H1 q (.tup [V.int (b.t : Int), .int (b.l : Int)])) q = some (.tup [V.int (b.t : Int), .int (b.l : Int)]) := upd_same
  have n2 := (B.S.same t1).off hq
  generalize upd H1 q (.tup [V.int (b.t : Int), .int (b.l : Int)]) = H2 at t2 e2 ⊢
  refine ⟨(by show 4 ≤ sizeLine; decide), fun il hil => ?_⟩
  have t3 := Same.new (o := .lst [V.ref p, .ref tb, .ref bl, .ref q]) hil
  have e3 : (upd H2 il (.lst [V.ref p, .ref tb, .ref bl, .ref q])) il = some (.lst [V.ref p, .ref tb, .ref bl, .ref q]) := upd_same
  have n3 := ((B.S.same t1).same t2).off hil
  generalize upd H2 il (.lst [V.ref p, .ref tb, .ref bl, .ref q]) = H3 at t3 e3 ⊢
  have B3 := B.same (t1.trans (t2.trans t3))
  have sv := bk_atv (vb_sml hv hb.2.1 hb.2.2.2)
  have items : ∀ x ∈ [V.ref p, .ref tb, .ref bl, .ref q], EIN K st lg H3 x := fun x hx => by
    simp only [List.mem_cons, List.not_mem_nil, or_false] at hx
    rcases hx with rfl | rfl | rfl | rfl
    · exact ein_tup ((t1.trans (t2.trans t3)) _ _ hp) (off_tup B.S hp) (by show ¬ 3 = 1; decide) (by show 3 ≤ 4; decide) sv
    · exact ein_tup ((t2.trans t3) _ _ e1) n1 (by omega) (by omega) ay
    · exact ein_lst ((t1.trans (t2.trans t3)) _ _ hbl) nbl (by omega) ay
    · exact ein_tup (t3 _ _ e2) n2 (by show ¬ 2 = 1; decide) (by show 2 ≤ 4; decide) (fun x hx => by
        simp only [List.mem_cons, List.not_mem_nil, or_false] at hx
        rcases hx with rfl | rfl
        · exact sv _ List.mem_cons_self
        · exact sv _ (List.mem_cons_of_mem _ List.mem_cons_self))
  have kH : KpN st lg H H3 := .kp (.same (t1.trans (t2.trans t3)))
  clear t1 t2 e1 e2 ec hq htb n1 n2 hbl hil t3
  refine ⟨il, rfl, ⟨_, SqL.of e3⟩, for_list (xs := [V.ref p, .ref tb, .ref bl, .ref q]) (fun _ σ H' => (∃ v7 v13, σ = sg a st sa ea fa v2 (some (.ref p)) (some (.ref bl)) v7 v8 v9 v10 v11 v13 v14) ∧ LB SH.C Pt Pt2 st lg cl sa fa ea h w us bs m H' ∧ KpN st lg H3 H') ⟨⟨_, _, rfl⟩, B3, .refl⟩ (fun i σ H' _ h => SqL.of (h.2.2 _ _ e3 n3.1 n3.2 fun _ z => by cases z)) ?_ fun σ' H' ⟨⟨v7, v13, e⟩, B', k'⟩ => ?_⟩
  case refine_2 =>
    rw [e]
    exact k H' v7 v13 B' (kH.trans k')
  clear B v7 v13
  rintro i x σ H4 hx ⟨⟨v7, v13, rfl⟩, B, kn⟩
  obtain ⟨o, d, it⟩ := items x (List.mem_of_getElem? hx)
  have k : ∀ H' v7 v13, LB SH.C Pt Pt2 st lg cl sa fa ea h w us bs m H' → KpN st lg H4 H' → (fun (i : Nat) σ H' => (∃ v7 v13, σ = sg a st sa ea fa v2 (some (.ref p)) (some (.ref bl)) v7 v8 v9 v10 v11 v13 v14) ∧ LB SH.C Pt Pt2 st lg cl sa fa ea h w us bs m H' ∧ KpN st lg H3 H') (i + 1) (sg a st sa ea fa v2 (some (.ref p)) (some (.ref bl)) v7 v8 v9 v10 v11 v13 v14) H' := fun H' v7 v13 B' k' => ⟨⟨_, _, rfl⟩, B', kn.trans k'⟩
  -- due
  refine ⟨_, rfl, _, rfl, sa, h, w, x, o, d, rfl, B.sc, it H4 kn, fun H5 s5 => ?_⟩
  have B5 := B.same s5
  have k5 : KpN st lg H4 H5 := .kp (.same s5)
  -- is_block
  obtain ⟨z1, z2, z3, z4⟩ := (two_sm (b := blkB h w o)).repr (by decide) (by decide)
  refine ⟨_, rfl, _, rfl, .ref fa, x, rfl, .inl ⟨h, w, B5.shp, o, (it H5 (kn.trans k5)).r, ?_⟩⟩
  refine ⟨_, rfl, _, rfl, rfl, .ref fa, x, rfl, .inl ⟨h, w, B5.shp, o, (it H5 (kn.trans k5)).r, ?_⟩⟩
  refine ⟨(by show 2 ≤ sizeLine; decide), fun LA hLA => ⟨LA, twoB (blkB h w o), rfl, two_dp upd_same, z1, z2, z3, z4, _, rfl, _, rfl, (by show 2 ≤ sizeLine; decide), fun MA hMA => ⟨MA, twoB (blkB h w o), rfl, two_dp upd_same, z1, z2, z3, z4, rfl, _, rfl, ?_⟩⟩⟩
  rw [decide_eq_true rfl]
  refine iteF ?_
  have tL := (Same.new (o := .lst [V.bl (blkB h w o), .bl (blkB h w o)]) hLA).trans (Same.new (o := .lst [V.bl (blkB h w o), .bl (blkB h w o)]) hMA)
  generalize upd (upd H5 LA (.lst [V.bl (blkB h w o), .bl (blkB h w o)])) MA (.lst [V.bl (blkB h w o), .bl (blkB h w o)]) = H6 at tL ⊢
  have B6 := B5.same tL
  have k6 : KpN st lg H4 H6 := k5.trans (.kp (.same tL))
  -- what is none is refused
  refine ⟨_, rfl, _, rfl, ?_⟩
  cases hR : blkB h w o
  · refine iteT ?_
    refine caught_err2 (m' := m) T T.BadBlock B6.Tb B6.S (fun H7 E7 Q7 e7 S7 k7 => ?_) (fun ax H7 S7 Tb7 kN ha na nb => ?_)
    · have k67 : KpN st lg H6 H7 := .ext e7
      have I7 := it H7 ((kn.trans k6).trans k67)
      obtain ⟨fx, dx, lo, hi, ex, e, q⟩ := B6.shp
      refine ⟨_, rfl, _, rfl, .ref fa, x, rfl, .inl ⟨h, w, ⟨fx, dx, lo, hi, ex, e7 _ _ e (fun _ z => by cases z), q⟩, o, I7.r, fun _ => k7 H7 .refl S7, fun p' b' e1 e2 v' => ?_⟩⟩
      exfalso
      have := rw_bkV I7.r e1 e2
      rw [this] at hR
      exact blk_no v' hR
    · refine .inr ⟨ax, T.BadBlock.C, _, _, true, rfl, ha, T.BadBlock.e, .own _, kit_self, _, rfl, ?_⟩
      exact iteF (k H7 _ _ (B6.kn kN S7 Tb7) (k6.trans kN))
  · refine iteF ?_
    exact iteF (k H6 _ _ B6 k6)
end
end K04
namespace K04
open PySem PySem.Spec PyProof.Rows L2 PySem.W LamX KA KW KU KL KT
open Evl (pss_cut tCut)
section
variable {P : Program} {w : World} {K : PySem.W.Frag} {mg : Str → Option Value} {base : Heap} (T : Top K mg) (SH : ShapeT K mg) (BE : BadShapeT P w K mg T.reel.C) (Z : SzT K mg)
variable {c : Addr} {A : Around} {outer : List Env} {s0 : Shared} {H0 : Hp} {E0 : XK} (hr : Room 11 (A.deeper (envOfC "law" (defScope s_law) s0.heap.objs.size T.law.a (.ref c)))) (hg : A.guards = some [])
/-! ### some of all blocks -/
theorem el_of {H : Hp} {us : List V} {bs : List Bk} (r : RL bkV H us bs) : ∀ v ∈ us, El H v := fun u hu => by
  obtain ⟨i, hi, e⟩ := List.mem_iff_getElem.mp hu
  obtain ⟨p, b, rfl, hb, eb⟩ := r.get (i := i) (by rw [List.getElem?_eq_getElem hi, e])
  exact .inr ⟨p, b, rfl, eb⟩
include hr hg BE Z in
theorem seg6 (TB : TabB base mg c Pt2) (nP : Pt ≠ Pt2) : ∃ t, PS (LX P w base T c A outer s0 H0 E0) (stT 6) t ∧ ∀ (D : Ends) (a st lg cl sa fa ea : Addr) (h w : Nat) (us : List V) (bs : List Bk) (m : Nat) (H : Hp) (v2 v5 v6 v7 v8 v9 v10 v11 v13 v14 : Option V), m ≤ 800000 → LB SH.C Pt Pt2 st lg cl sa fa ea h w us bs m H →
    (∀ H' m' v5 v6 v7 v13, m' ≤ m + 300 → LB SH.C Pt Pt2 st lg cl sa fa ea h w us bs m' H' → D.nx (sg a st sa ea fa v2 v5 v6 v7 v8 v9 v10 v11 v13 v14) H') → t D (sg a st sa ea fa v2 v5 v6 v7 v8 v9 v10 v11 v13 v14) H := by
  obtain ⟨t3, p3, r3⟩ := seg_items T SH BE Z (c := c) (A := A) (outer := outer) (s0 := s0) (H0 := H0) (E0 := E0) hr hg TB nP
  refine ⟨_, (ps_for (passes_of rfl) rfl (pi_list (pe_slice sl_list (pe_call (ok_mixed T) (hr.mono (by decide)) (by rfl) T._law_mixed.m T._law_mixed.f.kp (bd__law_mixed T) .nil passE (pa_cons (pv 1) (pa_cons (pv 4) pa_nil))) po_none (po_some pe_int))) (pg_name (i := 5) sc_law.nd rfl (by first | exact .inl rfl | exact .inr rfl)) (pss_cons (ps_if (pt_not (pt_val (pe_wcall (FnG.w (ok_right T SH BE Z)) (since_self rfl) (hr.mono (by decide)) hg (by rfl) T._law_square_right.m T._law_square_right.f.kp (bd__law_square_right T) passE (pa_cons (pv 3) (pa_cons (pv 12) (pa_cons (pv 5) pa_nil)))))) (pss_one (ps_ret pe_bl)) pss_nil)
      (pss_cons (ps_set (i := 6) sc_law.nd rfl (by first | exact .inl rfl | exact .inr rfl) (pe_callTy call_list_of (by rfl) T.b_list (by decide +kernel) (pa_cons (pv 5) pa_nil)))
      (pss_cons (ps_asg (pe_call (ok_pick T) (hr.mono (by decide)) (by rfl) T._law_pick.m T._law_pick.f.kp (bd__law_pick T) .nil passE (pa_cons (pv 1) (pa_cons (pe_lst (pa_cons pe_int (pa_cons pe_int (pa_cons pe_int (pa_cons pe_int (pa_cons pe_int (pa_cons pe_int (pa_cons (pe_un un_neg pe_int) (pa_cons pe_bl (pa_cons pe_non (pa_cons pe_str pa_nil))))))))))) pa_nil))) (pg_sub (pv 6) (pe_call (ok_draw T) (hr.mono (by decide)) (by rfl) T._law_draw.m T._law_draw.f.kp (bd__law_draw T) .nil passE (pa_cons (pv 1) (pa_cons pe_int pa_nil))) set_list))
      (pss_one p3))))), fun D a st lg cl sa fa ea h w us bs m H v2 v5 v6 v7 v8 v9 v10 v11 v13 v14 hm B k => ?_⟩
  have hb := B.sc.b
  have e84 := every_len (h := h) (w := w) hb.2.1 hb.2.2.2
  have lb : us.length ≤ 84 := by rw [B.r.1, B.pm.length_eq]; exact e84
  refine ⟨_, rfl, _, rfl, st, lg, cl, ea, us, m, rfl, SqL.of B.e, by omega, el_of B.r, by omega, B.S, fun q js H1 hj lj l1 n1 S1 kp1 => ⟨_, rfl, q, js, rfl, SqL.of l1, fun p hp => ?_⟩⟩
  have B1 := (B.kp kp1 S1).mono (show m + us.length ≤ m + 84 by omega)
  have t1 := Same.new (o := .lst (cutV js none (some 6))) hp
  have e1 : (upd H1 p (.lst (cutV js none (some 6)))) p = some (.lst (cutV js none (some 6))) := upd_same
  have np := B1.S.off hp
  have B2 := B1.same t1
  have hx : ∀ x ∈ cutV js none (some 6), x ∈ us := fun x hx => hj x (mem_cutV hx)
  have lx : (cutV js none (some 6)).length ≤ 84 := Nat.le_trans (cutV_length _ _ _) (by omega)
  generalize cutV js none (some 6) = xs at e1 B2 hx lx t1 ⊢
  generalize upd H1 p (.lst xs) = H2 at t1 e1 B2 ⊢
  refine ⟨p, rfl, ⟨_, SqL.of e1⟩, for_list (xs := xs) (fun i σ H' => (∃ v5 v6 v7 v13, σ = sg a st sa ea fa v2 v5 v6 v7 v8 v9 v10 v11 v13 v14) ∧ (∃ m', m' ≤ m + 84 + 2 * i ∧ LB SH.C Pt Pt2 st lg cl sa fa ea h w us bs m' H') ∧ KpN st lg H2 H') ⟨⟨_, _, _, _, rfl⟩, ⟨m + 84, by omega, B2⟩, .refl⟩ (fun i σ H' _ h => SqL.of (h.2.2 _ _ e1 np.1 np.2 fun _ z => by cases z)) ?_ fun σ' H' ⟨⟨v5, v6, v7, v13, e⟩, ⟨m', l', B'⟩, k'⟩ => ?_⟩
  case refine_2 =>
    rw [e]
    exact k H' m' v5 v6 v7 v13 (by omega) B'
  clear v5 v6 v7 v13 B B1 kp1 S1 l1 n1
  rintro i x σ H3 hi ⟨⟨v5, v6, v7, v13, rfl⟩, ⟨m', l', B⟩, kn⟩
  have il := (List.getElem?_eq_some_iff.mp hi).1
  have mx := hx x (List.mem_of_getElem? hi)
  obtain ⟨j, hj2, ej⟩ := List.mem_iff_getElem.mp mx
  obtain ⟨pb, b, rfl, hb1, hpb⟩ := B.r.get (i := j) (by rw [List.getElem?_eq_getElem hj2, ej])
  have v : Vb h w b := every_mem.mp (B.pm.mem_iff.mp (List.mem_of_getElem? hb1))
  have sv := bk_atv (vb_sml v hb.2.1 hb.2.2.2)
  -- right
  refine ⟨_, rfl, _, rfl, _, rfl, sa, pb, .ref fa, b, h, w, rfl, B.sc, B.shp, hpb, v, fun H4 s4 => ⟨_, rfl, iteF ?_⟩⟩
  have B4 := B.same s4
  have hp4 := s4 _ _ hpb
  -- bent
  refine ⟨_, rfl, pb, bkV b, rfl, .inr (SqT.of hp4), fun bl hbl => ?_⟩
  have t5 := Same.new (o := .lst (bkV b)) hbl
  have e5 : (upd H4 bl (.lst (bkV b))) bl = some (.lst (bkV b)) := upd_same
  have n5 := B4.S.off hbl
  have c5 := offc B4.S hbl
  generalize upd H4 bl (.lst (bkV b)) = H5 at t5 e5 ⊢
  have B5 := B4.same t5
  refine ⟨_, rfl, _, rfl, (by show 10 ≤ sizeLine; decide), fun r hr' => ?_⟩
  refine ⟨st, lg, cl, r, _, m', rfl, upd_same, (B5.S.off hr').2, (by show 0 < 10; decide), (by show 10 ≤ 1000; decide), by omega, B5.S.same (Same.new hr'), fun y H6 hy S6 kp6 => ?_⟩
  have ay : AtV y := by
    simp only [List.mem_cons, List.not_mem_nil, or_false] at hy
    rcases hy with z | z | z | z | z | z | z | z | z | z <;> subst z
    · exact atv_int (by decide) (by decide)
    · exact atv_int (by decide) (by decide)
    · exact atv_int (by decide) (by decide)
    · exact atv_int (by decide) (by decide)
    · exact atv_int (by decide) (by decide)
    · exact atv_int (by decide) (by decide)
    · exact atv_int (by decide) (by decide)
    · exact .inr (.inl ⟨_, rfl⟩)
    · exact .inr (.inr (.inl rfl))
    · exact .inr (.inr (.inr rfl))
  have k6 : Kp st lg H5 H6 := (Kp.same (Same.new hr')).trans kp6
  have B6 := B5.kp k6 S6
  have e6 := k6 _ _ e5 n5.1 n5.2
  refine ⟨_, rfl, _, rfl, st, lg, cl, 3, m' + 1, rfl, by decide, by decide, by omega, B6.S, fun t H7 ht S7 kp7 => ?_⟩
  have B7 := B6.kp kp7 S7
  have e7 := kp7 _ _ e6 n5.1 n5.2
  refine ⟨bl, bkV b, _, t, rfl, rfl, e7, ixN_nat (n := 3) ht, ?_⟩
  have k7 : Kp st lg H4 (upd H7 bl (.lst ((bkV b).set t y))) := Kp.put3 (((Kp.same t5).trans k6).trans kp7) hbl
  have B8 := B4.kp k7 (stAt_put S7 n5.1 n5.2 c5)
  have hp8 := k7 _ _ hp4 (off_tup B4.S hp4).1 (off_tup B4.S hp4).2
  have e8 : (upd H7 bl (.lst ((bkV b).set t y))) bl = some (.lst ((bkV b).set t y)) := upd_same
  generalize upd H7 bl (.lst ((bkV b).set t y)) = H8 at k7 B8 hp8 e8 ⊢
  refine r3 _ a st lg cl sa fa ea pb bl b ((bkV b).set t y) h w us bs _ H8 _ _ _ _ _ _ _ _ B8 hp8 v e8 n5 (by rw [List.length_set]; rfl) (fun u hu => ?_) fun H' v7' v13' B' k' => ?_
  · rcases List.mem_or_eq_of_mem_set hu with z | z
    · exact sv _ z
    · rw [z]
      exact ay
  · exact ⟨⟨_, _, _, _, rfl⟩, ⟨_, by omega, B'⟩, ((kn.trans (.kp (.same s4))).trans (.kp k7)).trans k'⟩
end
end K04
namespace K04
open PySem PySem.Spec PyProof.Rows L2 PySem.W LamX KA KW KU KL KT
/-! ### the blocks of one place, the largest first -/
def bkAt (H : Hp) : V → Bk
  | .ref p => match H p with
    | some (.tup xs) => bkOf (some xs)
    | _ => ⟨0, 0, 0⟩
  | _ => ⟨0, 0, 0⟩
theorem bkAt_of {H : Hp} {p : Addr} {b : Bk} (e : H p = some (.tup (bkV b))) : bkAt H (.ref p) = b := by
  unfold bkAt
  dsimp only
  rw [e]
  rfl
def keyOf (H : Hp) (x : V) : Int := ((bkAt H x).s : Int)
theorem rl_mem {H : Hp} {us : List V} {bs : List Bk} (r : RL bkV H us bs) {u : V} (hu : u ∈ us) : ∃ p b, u = .ref p ∧ b ∈ bs ∧ H p = some (.tup (bkV b)) := by
  obtain ⟨i, hi, e⟩ := List.mem_iff_getElem.mp hu
  obtain ⟨p, b, e1, hb, eb⟩ := r.get (i := i) (by rw [List.getElem?_eq_getElem hi, e])
  exact ⟨p, b, e1, List.mem_of_getElem? hb, eb⟩
theorem rl_map {H : Hp} {us : List V} {bs : List Bk} (r : RL bkV H us bs) : us.map (bkAt H) = bs := by
  refine List.ext_getElem? fun i => ?_
  rw [List.getElem?_map]
  cases e : us[i]? with
  | none =>
    have h1 := List.getElem?_eq_none_iff.mp e
    rw [r.1] at h1
    rw [List.getElem?_eq_none h1]
    rfl
  | some v =>
    obtain ⟨p, b, rfl, hb, eb⟩ := r.get e
    rw [hb]
    exact congrArg some (bkAt_of eb)
theorem rl_sorted {H : Hp} {ws ys : List V} {L M : List Bk} (r : RL bkV H ws L) (pL : L.Perm M) (sM : M.Pairwise fun x y => y.s < x.s) (same : ∀ x ∈ M, ∀ y ∈ M, x.s = y.s → x = y) (pm : ys.Perm ws) (pw : ys.Pairwise fun x y => keyOf H y ≤ keyOf H x) : RL bkV H ys M := by
  have e1 : (ys.map (bkAt H)).Perm M := ((pm.map (bkAt H)).trans (by rw [rl_map r])).trans pL
  have e : ys.map (bkAt H) = M := by
    refine e1.eq_of_pairwise (le := fun x y : Bk => y.s ≤ x.s) (fun x y hx hy h1 h2 => same x (e1.mem_iff.mp hx) y hy (Nat.le_antisymm h2 h1)) ?_ (sM.imp fun h => Nat.le_of_lt h)
    rw [List.pairwise_map]
    exact pw.imp fun {x y} h => by
      unfold keyOf at h
      omega
  refine ⟨by rw [← e, List.length_map], fun i v hv => ?_⟩
  obtain ⟨p, b, rfl, hb, eb⟩ := rl_mem r (pm.mem_iff.mp (List.mem_of_getElem? hv))
  refine ⟨b, ?_, p, rfl, eb⟩
  rw [← e, List.getElem?_map, hv]
  exact congrArg some (bkAt_of eb)
theorem at_same {c x y : Bk} (hx : x ∈ blocksAt c) (hy : y ∈ blocksAt c) (e : x.s = y.s) : x = y := by
  unfold blocksAt at hx hy
  obtain ⟨s, _, rfl⟩ := List.mem_map.mp hx
  obtain ⟨s', _, rfl⟩ := List.mem_map.mp hy
  have e : s = s' := e
  rw [e]
theorem at_len (c : Bk) : (blocksAt c).length ≤ 3 := by
  unfold blocksAt sizesL
  rw [List.length_map]
  exact List.length_filter_le _ _
theorem rg_mem {n : Nat} {x : V} (h : x ∈ rgN 0 n) : ∃ i : Nat, i < n ∧ x = .int (i : Int) := by
  unfold rgN at h
  obtain ⟨i, hi, rfl⟩ := List.mem_map.mp h
  exact ⟨i, List.mem_range.mp hi, by rw [Nat.zero_add]⟩
def atD (c : Bk) : PyData := .list [.list ((blocksAt c).map bkD), .list ((blocksAt c).map bkD)]
theorem at_sm {h w : Nat} {c : Bk} (v : ∀ b ∈ blocksAt c, Vb h w b) (hh : h ≤ 16) (hw : w ≤ 16) : Sm 600 3 (atD c) := by
  have l := at_len c
  refine (sm_list (n := 219) (z := 2) (k := 2) (fun d hd => ?_) (by show 2 ≤ 2; decide)).mono (by decide) (by decide)
  have e : d = .list ((blocksAt c).map bkD) := by
    simp only [List.mem_cons, List.not_mem_nil, or_false] at hd
    rcases hd with rfl | rfl <;> rfl
  rw [e]
  refine (sm_list (n := 72) (z := 1) (k := 3) (fun d hd => ?_) (by rw [List.length_map]; exact l)).mono (by decide) (by decide)
  obtain ⟨e, he, rfl⟩ := List.mem_map.mp hd
  exact (its_bk (vb_sml (v e he) hh hw)).sm
theorem at_dp {K : PySem.W.Frag} {H : Hp} {L q1 q2 : Addr} {u1 u2 : List V} {c : Bk} (eL : H L = some (.lst [.ref q1, .ref q2])) (l1 : H q1 = some (.lst u1)) (r1 : RL bkV H u1 (blocksAt c)) (l2 : H q2 = some (.lst u2)) (r2 : RL bkV H u2 (blocksAt c)) : Dp K H (.ref L) (atD c) :=
  .lst (SqL.of eL) (.cons (.lst (SqL.of l1) (dp_bks r1)) (.cons (.lst (SqL.of l2) (dp_bks r2)) .nil))
end K04
namespace K04
open PySem PySem.Spec PyProof.Rows L2 PySem.W LamX KA KW KU KL KT
open Evl (pss_cut tCut)
def stP (i : Nat) : Stmt := (suiteOf (stT 7)).getD i (.Pass ⟨0, 0, 0, 0⟩)
def kwOf : Expr → Expr
  | .Call _ _ (⟨_, e, _⟩ :: _) _ => e
  | e => e
abbrev eK : Expr := kwOf (valOf (stP 0))
section
variable {P : Program} {w : World} {K : PySem.W.Frag} {mg : Str → Option Value} {base : Heap} (T : Top K mg) (SH : ShapeT K mg) (BE : BadShapeT P w K mg T.reel.C) (Z : SzT K mg)
variable {c : Addr} {A : Around} {outer : List Env} {s0 : Shared} {H0 : Hp} {E0 : XK} (hr : Room 11 (A.deeper (envOfC "law" (defScope s_law) s0.heap.objs.size T.law.a (.ref c)))) (hg : A.guards = some [])
/-! ### the blocks of a place -/
include hr in
theorem seg_due (TB : TabB base mg c Pt2) (nP : Pt ≠ Pt2) : ∃ t, PS (LX P w base T c A outer s0 H0 E0) (stP 0) t ∧ ∀ (D : Ends) (a st lg cl sa fa ea : Addr) (i : Nat) (cb : Bk) (h wn : Nat) (us : List V) (bs : List Bk) (m : Nat) (H : Hp) (v2 v5 v6 v7 v9 v10 v11 v13 v14 : Option V), LB SH.C Pt Pt2 st lg cl sa fa ea h wn us bs m H → (cellsL h wn)[i]? = some cb →
    (∀ H' q ys, LB SH.C Pt Pt2 st lg cl sa fa ea h wn us bs m H' → KpN st lg H H' → H' q = some (.lst ys) → q ≠ st ∧ q ≠ lg → RL bkV H' ys (blocksAt cb) → D.nx (sg a st sa ea fa v2 v5 v6 (some (.ref q)) (some (.int (i : Int))) v9 v10 v11 v13 v14) H') → t D (sg a st sa ea fa v2 v5 v6 v7 (some (.int (i : Int))) v9 v10 v11 v13 v14) H := by
  refine ⟨_, (ps_set (i := 7) sc_law.nd rfl (by first | exact .inl rfl | exact .inr rfl) (pe_callBK (KSK.cr_sortNeg (params := lamP eK) (body := lamB eK) (scope := lamSc eK) (hr.mono (by decide)) (fun _ _ _ _ _ _ => rfl) rfl (by decide +kernel) (by decide +kernel) rfl rfl ⟨_, _, _, _, _, _, _, rfl⟩) (by rfl) T.b_sorted PyProof.Rows.boot_sorted (pa_cons (pe_lc (own := [("one", 14)]) (g := gName 14) rfl sc_law.nd (pi_list (pv 4)) (blkOk_by (own := [("one", 14)]) (N := NL) (sc := defScope s_law) (by decide +kernel))
        (fun _ _ _ _ _ => pg_name (i := 14) sc_law.nd rfl (Or.inl rfl)) (fun _ _ _ _ _ => pts_one (pt_cmpR op_eq (pe_ix (show IxR _ (rIxT K) from ix_tup) (pe_call (ok_ends T) (hr.mono (by decide)) (by rfl) T._law_ends.m T._law_ends.f.kp (bd__law_ends T) .nil passE (pa_cons (pv 3) (pa_cons (pv 14) pa_nil))) pe_int (fun _ _ => rfl)) (pv 8) (nomark _))) (fun _ _ _ _ _ => pv 14)) pa_nil) (pk_cons (pe_lamVF (T := tabs Pt Pt2) (params := lamP eK) (body := lamB eK) (scope := lamSc eK) TB rfl (List.mem_cons_of_mem _ List.mem_cons_self) (one_l nP) (by decide +kernel) rfl) pk_nil))), fun D a st lg cl sa fa ea i cb h wn us bs m H v2 v5 v6 v7 v9 v10 v11 v13 v14 B hc k => ?_⟩
  have hb := B.sc.b
  have e84 := every_len (h := h) (w := wn) hb.2.1 hb.2.2.2
  have lb : bs.length ≤ 84 := by rw [B.pm.length_eq]; exact e84
  refine ⟨_, rfl, ea, rfl, ⟨_, SqL.of B.e⟩, fun D0 hD0 => lc_it walk_list (fun j H' => NI bkV H D0 ((bs.take j).filter fun b => decide (placeB h wn b = i)) H') (NI.new hD0) (fun _ H' _ q' => SqL.of (q'.s _ _ B.e)) ?_ ?_⟩
  · rintro j x Hq Hr hi n ⟨rfl, hx⟩
    obtain ⟨pd, b, rfl, hd, ed⟩ := (B.r.same n.s).get hx
    have v : Vb h wn b := every_mem.mp (B.pm.mem_iff.mp (List.mem_of_getElem? hd))
    refine ⟨rfl, ?_⟩
    refine ⟨_, rfl, _, rfl, sa, pd, b, h, wn, rfl, (B.same n.s).sc, ed, v, fun q Hs ss eq => ⟨q, _, 0, _, rfl, rfl, SqT.of eq, atI_nat (j := 0) rfl, _, rfl, rfl, _, rfl, ?_⟩⟩
    have al : ((bs.take j).filter fun b => decide (placeB h wn b = i)).length ≤ 84 := Nat.le_trans (List.length_filter_le _ _) (by rw [List.length_take]; omega)
    have n := n.same ss
    rw [List.take_add_one, hd, List.filter_append]
    have e1 : ((some b).toList.filter fun b => decide (placeB h wn b = i)) = if decide (placeB h wn b = i) = true then [b] else [] := filt_one (fun b => decide (placeB h wn b = i)) b
    rw [e1]
    by_cases ce : placeB h wn b = i
    · rw [decide_eq_true (show V.int ((placeB h wn b : Nat) : Int) = V.int ((i : Nat) : Int) by rw [ce])]
      rw [if_pos (decide_eq_true ce)]
      obtain ⟨acc, f1, f2, f3⟩ := n.push (v := .ref pd) (a := b) hD0 (by omega) ⟨pd, rfl, ss _ _ ed⟩
      exact iteT ⟨_, rfl, acc, f1, f2, f3⟩
    · rw [decide_eq_false (show ¬ V.int ((placeB h wn b : Nat) : Int) = V.int ((i : Nat) : Int) from fun z => ce (by have := V.int.inj z; omega))]
      rw [decide_eq_false ce, if_neg Bool.false_ne_true, List.append_nil]
      exact iteF n
  rintro H1 ⟨ws, ews, rws, s1⟩
  rw [List.take_of_length_le (by rw [B.r.1]; exact Nat.le_refl _)] at rws
  have pL := at_perm (L := bs) B.pm hc
  have B1 := B.same s1
  have nD := B.S.off hD0
  refine ⟨B1.Tb, fun H2 x2 T2 f c' hf hc' => ?_⟩
  have kx : KpN st lg H1 H2 := .ext x2
  have B2 := B1.kn kx (stAt_ext B1.S x2) T2
  have e2 := kx _ _ ews nD.1 nD.2 (fun _ z => by cases z)
  have r2 := rws.tp (KpN.tp B1.S kx)
  have t3 := Same.new (o := LamO (LX P w base T c A outer s0 H0 E0).env (lamP eK) (lamB eK) (lamSc eK) f c') hf
  have f3 : (upd H2 f (LamO (LX P w base T c A outer s0 H0 E0).env (lamP eK) (lamB eK) (lamSc eK) f c')) f = some (LamO (LX P w base T c A outer s0 H0 E0).env (lamP eK) (lamB eK) (lamSc eK) f c') := upd_same
  have B3 := B2.same t3
  have e3 := t3 _ _ e2
  have r3 := r2.same t3
  have c3 := t3 _ _ hc'
  have k3 : KpN st lg H (upd H2 f (LamO (LX P w base T c A outer s0 H0 E0).env (lamP eK) (lamB eK) (lamSc eK) f c')) := ((KpN.kp (.same s1)).trans kx).trans (.kp (.same t3))
  generalize upd H2 f (LamO (LX P w base T c A outer s0 H0 E0).env (lamP eK) (lamB eK) (lamSc eK) f c') = H3 at t3 f3 B3 e3 r3 c3 k3 ⊢
  have l3 : ws.length ≤ 3 := by
    rw [r3.1, pL.length_eq]
    exact at_len cb
  refine ⟨D0, f, c', ws, keyOf H3, rfl, rfl, f3, c3, SqL.of e3, by omega, fun x hx => ?_, fun ys p pm pw hp => ?_⟩
  · obtain ⟨pb, b, rfl, _, eb⟩ := rl_mem r3 hx
    refine ⟨pb, bkV b, rfl, eb, ?_⟩
    show some (V.int (b.s : Int)) = some (V.int (keyOf H3 (.ref pb)))
    unfold keyOf
    rw [bkAt_of eb]
  · have r4 := rl_sorted r3 pL (at_sorted cb) (fun x hx y hy e => at_same hx hy e) pm pw
    have t4 := Same.new (o := .lst ys) hp
    exact k _ p ys (B3.same t4) (k3.trans (.kp (.same t4))) upd_same (B3.S.off hp) (r4.same t4)
end
end K04
namespace K04
open PySem PySem.Spec PyProof.Rows L2 PySem.W LamX KA KW KU KL KT
open Evl (pss_cut tCut)
section
variable {P : Program} {w : World} {K : PySem.W.Frag} {mg : Str → Option Value} {base : Heap} (T : Top K mg) (SH : ShapeT K mg) (BE : BadShapeT P w K mg T.reel.C) (Z : SzT K mg)
variable {c : Addr} {A : Around} {outer : List Env} {s0 : Shared} {H0 : Hp} {E0 : XK} (hr : Room 11 (A.deeper (envOfC "law" (defScope s_law) s0.heap.objs.size T.law.a (.ref c)))) (hg : A.guards = some [])
/-! ### blocks_at of some places -/
include hr hg BE Z in
theorem seg7 (TB : TabB base mg c Pt2) (nP : Pt ≠ Pt2) : ∃ t, PS (LX P w base T c A outer s0 H0 E0) (stT 7) t ∧ ∀ (D : Ends) (a st lg cl sa fa ea : Addr) (h w : Nat) (us : List V) (bs : List Bk) (m : Nat) (H : Hp) (v2 v5 v6 v7 v8 v9 v10 v11 v13 v14 : Option V), m ≤ 800000 → LB SH.C Pt Pt2 st lg cl sa fa ea h w us bs m H →
    (∀ H' m' v7 v8, m' ≤ m + 300 → LB SH.C Pt Pt2 st lg cl sa fa ea h w us bs m' H' → D.nx (sg a st sa ea fa v2 v5 v6 v7 v8 v9 v10 v11 v13 v14) H') → t D (sg a st sa ea fa v2 v5 v6 v7 v8 v9 v10 v11 v13 v14) H := by
  obtain ⟨t0, p0, r0⟩ := seg_due T SH (c := c) (A := A) (outer := outer) (s0 := s0) (H0 := H0) (E0 := E0) hr TB nP
  refine ⟨_, (ps_for (passes_of rfl) rfl (pi_list (pe_slice sl_list (pe_call (ok_mixed T) (hr.mono (by decide)) (by rfl) T._law_mixed.m T._law_mixed.f.kp (bd__law_mixed T) .nil passE (pa_cons (pv 1) (pa_cons (pe_listRg rfl (by rfl) T.b_list (prg_1 (by rfl) T.b_range (pe_callB call_len_seq (by rfl) T.b_len PySem.boot_len (pa_cons (pe_call (ok_lall T) (hr.mono (by decide)) (by rfl) T._law_all_cells.m T._law_all_cells.f.kp (bd__law_all_cells T) .nil passE (pa_cons (pv 3) pa_nil)) pa_nil)))) pa_nil))) po_none (po_some pe_int))) (pg_name (i := 8) sc_law.nd rfl (by first | exact .inl rfl | exact .inr rfl)) (pss_cons p0
      (pss_cons (ps_expr (pe_bm PySem.F.plainAttrs_list PySem.F.slot_list_append PySem.F.type_list_append mt_append (pe_call (ok_blocks_at T SH BE Z) (hr.mono (by decide)) (by rfl) T.blocks_at.m T.blocks_at.f.kp (bd_blocks_at T) .nil passE (pa_cons (pv 12) (pa_cons (pv 8) pa_nil))) (pa_cons pe_non pa_nil)))
      (pss_one (ps_if (pt_cmpR op_ne (pe_callB (show CallR _ _ (rRepr K) from call_repr hg hr) (by rfl) T.b_repr (by decide +kernel) (pa_cons (pe_lst (pa_cons (pe_call (ok_blocks_at T SH BE Z) (hr.mono (by decide)) (by rfl) T.blocks_at.m T.blocks_at.f.kp (bd_blocks_at T) .nil passE (pa_cons (pv 12) (pa_cons (pv 8) pa_nil))) (pa_cons (pe_kw (ok_blocks_at T SH BE Z) (hr.mono (by decide)) (by rfl) T.blocks_at.m T.blocks_at.f.kp (KA.Fun.kw2 T.blocks_at.f fun _ _ _ _ _ _ _ _ => rfl) passE (pk_cons (pv 8) (pk_cons (pv 12) pk_nil))) pa_nil))) pa_nil)) (pe_callB (show CallR _ _ (rRepr K) from call_repr hg hr) (by rfl) T.b_repr (by decide +kernel) (pa_cons (pe_lst (pa_cons (pv 7) (pa_cons (pv 7) pa_nil))) pa_nil)) (nomark _)) (pss_one (ps_ret pe_bl)) pss_nil))))), fun D a st lg cl sa fa ea h w us bs m H v2 v5 v6 v7 v8 v9 v10 v11 v13 v14 hm B k => ?_⟩
  have hb := B.sc.b
  have c300 := cells_all_len (h := h) (w := w) hb.2.1 hb.2.2.2
  refine ⟨_, rfl, _, rfl, sa, h, w, rfl, B.sc, fun qc uc Ha sa1 nc lc rc => ⟨qc, uc, rfl, .inl (SqL.of lc), _, rfl, ?_⟩⟩
  have lu := rc.1
  have er : rgV 0 ((uc.length : Nat) : Int) = rgN 0 uc.length := rgV_N (a := 0) (b := uc.length) (Nat.zero_le _)
  have Ba := B.same sa1
  refine ⟨RgOk.of_le (by omega) (by omega) (by omega) (by omega), fun g hg' => ?_⟩
  rw [er, lu]
  have t1 := Same.new (o := .lst (rgN 0 (cellsL h w).length)) hg'
  have Bb := Ba.same t1
  have lr : (rgN 0 (cellsL h w).length).length = (cellsL h w).length := by
    unfold rgN
    rw [List.length_map, List.length_range]
  refine ⟨st, lg, cl, g, rgN 0 (cellsL h w).length, m, rfl, SqL.of upd_same, by omega, fun x hx => ?_, by omega, Bb.S, fun q js H1 hj lj l1 n1 S1 kp1 => ⟨_, rfl, q, js, rfl, SqL.of l1, fun p hp => ?_⟩⟩
  · obtain ⟨i, _, rfl⟩ := rg_mem hx
    exact .inl ⟨_, rfl⟩
  have B1 := Bb.kp kp1 S1
  have le1 : m + (rgN 0 (cellsL h w).length).length ≤ m + 300 := by omega
  generalize m + (rgN 0 (cellsL h w).length).length = m1 at B1 S1 le1
  have t2 := Same.new (o := .lst (cutV js none (some 4))) hp
  have e2 : (upd H1 p (.lst (cutV js none (some 4)))) p = some (.lst (cutV js none (some 4))) := upd_same
  have np := B1.S.off hp
  have B2 := B1.same t2
  have hx : ∀ x ∈ cutV js none (some 4), ∃ i : Nat, i < (cellsL h w).length ∧ x = .int (i : Int) := fun x hx => rg_mem (hj x (mem_cutV hx))
  generalize cutV js none (some 4) = xs at e2 B2 hx t2 ⊢
  generalize upd H1 p (.lst xs) = H2 at t2 e2 B2 ⊢
  refine ⟨p, rfl, ⟨_, SqL.of e2⟩, for_list (xs := xs) (fun j σ H' => (∃ v7 v8, σ = sg a st sa ea fa v2 v5 v6 v7 v8 v9 v10 v11 v13 v14) ∧ LB SH.C Pt Pt2 st lg cl sa fa ea h w us bs m1 H' ∧ KpN st lg H2 H') ⟨⟨_, _, rfl⟩, B2, .refl⟩ (fun i σ H' _ h => SqL.of (h.2.2 _ _ e2 np.1 np.2 fun _ z => by cases z)) ?_ fun σ' H' ⟨⟨v7, v8, e⟩, B', k'⟩ => ?_⟩
  case refine_2 =>
    rw [e]
    exact k H' m1 v7 v8 le1 B'
  clear v7 v8 B B1 Ba Bb kp1 S1 l1 n1
  rintro j x σ H3 hi ⟨⟨v7, v8, rfl⟩, B, kn⟩
  obtain ⟨i, il, rfl⟩ := hx x (List.mem_of_getElem? hi)
  obtain ⟨cb, hc⟩ : ∃ cb, (cellsL h w)[i]? = some cb := ⟨_, List.getElem?_eq_getElem il⟩
  have v : ∀ b ∈ blocksAt cb, Vb h w b := fun b hb' => ((at_mem hc).mp hb').1
  have inw : within (.int (i : Int)) 0 (((cellsL h w).length : Int) - 1) = true := by
    show (decide ((0 : Int) ≤ (i : Int)) && decide ((i : Int) ≤ ((cellsL h w).length : Int) - 1)) = true
    rw [Bool.and_eq_true, decide_eq_true_eq, decide_eq_true_eq]
    omega
  refine r0 _ a st lg cl sa fa ea i cb h w us bs m1 H3 _ _ _ _ _ _ _ _ _ B hc fun H4 q ys B4 k4 l4 nq r4 => ?_
  have q84 := at_len cb
  have s99 : 99 < sizeLine := by decide
  -- None is put behind
  refine ⟨_, rfl, _, rfl, .ref fa, .int (i : Int), rfl, .inl ⟨h, w, B4.shp, true, .int _, (fun z => by rw [inw] at z; cases z), fun i' c' ei ec q5 u5 H5 s5 n5 l5 r5 => ?_⟩⟩
  obtain rfl : i = i' := by have := V.int.inj ei; omega
  obtain rfl : cb = c' := Option.some.inj (hc.symm.trans ec)
  refine ⟨.inl ⟨rfl, _, SqL.of l5⟩, q5, u5, .non, rfl, rfl, l5, by rw [r5.1]; omega, ?_⟩
  have t6 := K04.Same.put (D := q5) (o := .lst (u5 ++ [.non])) s5 n5
  have B6 := B4.same t6
  generalize upd H5 q5 (.lst (u5 ++ [.non])) = H6 at t6 B6 ⊢
  clear ei ec l5 r5 n5 s5
  obtain ⟨z1, z2, z3, z4⟩ := (at_sm v hb.2.1 hb.2.2.2).repr (by decide) (by decide)
  -- the same again
  refine ⟨_, rfl, _, rfl, .ref fa, .int (i : Int), rfl, .inl ⟨h, w, B6.shp, true, .int _, (fun z => by rw [inw] at z; cases z), fun i' c' ei ec q7 u7 H7 s7 n7 l7 r7 => ?_⟩⟩
  obtain rfl : i = i' := by have := V.int.inj ei; omega
  obtain rfl : cb = c' := Option.some.inj (hc.symm.trans ec)
  clear ei ec
  have B7 := B6.same s7
  refine ⟨_, rfl, _, rfl, rfl, .ref fa, .int (i : Int), rfl, .inl ⟨h, w, B7.shp, true, .int _, (fun z => by rw [inw] at z; cases z), fun i' c' ei ec q8 u8 H8 s8 n8 l8 r8 => ?_⟩⟩
  obtain rfl : i = i' := by have := V.int.inj ei; omega
  obtain rfl : cb = c' := Option.some.inj (hc.symm.trans ec)
  clear ei ec
  refine ⟨(by show 2 ≤ sizeLine; decide), fun LA hLA => ?_⟩
  have tL := Same.new (o := .lst [V.ref q7, .ref q8]) hLA
  have eL : (upd H8 LA (.lst [V.ref q7, .ref q8])) LA = some (.lst [V.ref q7, .ref q8]) := upd_same
  generalize upd H8 LA (.lst [V.ref q7, .ref q8]) = H9 at tL eL ⊢
  have B9 := (B7.same s8).same tL
  have k9 : Same H4 H9 := t6.trans (s7.trans (s8.trans tL))
  refine ⟨LA, atD cb, rfl, at_dp eL ((s8.trans tL) _ _ l7) (r7.same (s8.trans tL)) (tL _ _ l8) (r8.same tL), z1, z2, z3, z4, _, rfl, _, rfl, (by show 2 ≤ sizeLine; decide), fun MA hMA => ?_⟩
  have tM := Same.new (o := .lst [V.ref q, .ref q]) hMA
  have eM : (upd H9 MA (.lst [V.ref q, .ref q])) MA = some (.lst [V.ref q, .ref q]) := upd_same
  generalize upd H9 MA (.lst [V.ref q, .ref q]) = H10 at tM eM ⊢
  have kM : Same H4 H10 := k9.trans tM
  refine ⟨MA, atD cb, rfl, at_dp eM (kM _ _ l4) (r4.same kM) (kM _ _ l4) (r4.same kM), z1, z2, z3, z4, rfl, _, rfl, ?_⟩
  rw [decide_eq_true rfl]
  exact iteF ⟨⟨_, _, rfl⟩, B9.same tM, (kn.trans k4).trans (.kp (.same kM))⟩
end
end K04
namespace K04
open PySem PySem.Spec PyProof.Rows L2 PySem.W LamX KA KW KU KL KT
/-! ### a cover is one; how many there are, shown -/
theorem cover_from {h w : Nat} : ∀ (bs pre : List Bk), (∀ b ∈ bs, Vb h w b) → (pre ++ bs).flatMap (cellsOf h w) = cellsL h w → coverR h w (pre.flatMap (cellsOf h w)).length (bs.map fun b => some (bkV b)) = true
  | [], pre, _, e => by
    rw [List.append_nil] at e
    rw [e]
    exact decide_eq_true rfl
  | b :: bs, pre, v, e => by
    have vb := v b List.mem_cons_self
    obtain ⟨rr, er⟩ := cells_first b vb
    have hp : placeB h w b = (pre.flatMap (cellsOf h w)).length := by
      refine (cover_place vb).mp ?_
      rw [← e, List.flatMap_append, List.flatMap_cons, er, List.getElem?_append_right (Nat.le_refl _), Nat.sub_self]
      rfl
    rw [List.map_cons, ← hp, cover_on vb, hp]
    have ih := cover_from bs (pre ++ [b]) (fun c hc => v c (List.mem_cons_of_mem _ hc)) (by rw [List.append_assoc]; exact e)
    rw [List.flatMap_append, List.length_append, List.flatMap_cons, List.flatMap_nil, List.append_nil, cells_many b vb] at ih
    exact ih
theorem cover_true {h w : Nat} {bs : List Bk} (v : ∀ b ∈ bs, Vb h w b) (e : bs.flatMap (cellsOf h w) = cellsL h w) : coverR h w 0 (bs.map fun b => some (bkV b)) = true := cover_from bs [] v e
theorem cvi_cover {K : PySem.W.Frag} {H : Hp} {q : Addr} {us : List V} {bs : List Bk} {h w : Nat} (e : H q = some (.lst us) ∨ H q = some (.tup us)) (r : RL bkV H us bs) (v : ∀ b ∈ bs, Vb h w b) (hh : h ≤ 16) (hw : w ≤ 16) : CvI K H (.ref q) (some (bs.map fun b => some (bkV b))) := by
  refine .some e (by rw [List.length_map]; exact r.1) fun i x hx => ?_
  obtain ⟨p, b, rfl, hb, eb⟩ := r.get hx
  have sv := bk_atv (vb_sml (v b (List.mem_of_getElem? hb)) hh hw)
  exact ⟨_, _, by rw [List.getElem?_map, hb]; rfl, fun H' s => it_tup (s _ _ eb) (by show ¬ 3 = 1; decide) (by show 3 ≤ 4; decide) sv⟩
theorem prod_le {h w : Nat} (hh : h ≤ 16) (hw : w ≤ 16) : prodL (waysOf h w) (rootsL h w) ≤ 83521 := by
  have := prodL_le (f := waysOf h w) (m := 17) (by decide) (bs := rootsL h w) (n := 4) (fun b hb => ways_le (roots_vb hb)) (roots_len hh hw)
  have e : (17 : Nat) ^ 4 = 83521 := by decide
  omega
theorem sm_nat {n : Nat} (h2 : n ≤ 83521) : Sm 17 0 (.int (n : Int)) := by
  have hn : (n : Int).natAbs < 2 ^ 17 := by
    have : (2 : Nat) ^ 17 = 131072 := by decide
    omega
  have hl2 : (n : Int).natAbs.log2 < 17 ∨ (n : Int).natAbs = 0 := by
    rcases Nat.eq_zero_or_pos (n : Int).natAbs with z | z
    · exact .inr z
    · exact .inl ((Nat.log2_lt (by omega)).mpr hn)
  refine ⟨?_, ?_, ?_, rfl, Nat.le_refl _, rfl⟩
  · simp only [PyData.leavesShort, decide_eq_true_eq]
    exact PyData.shown_int_le (by omega)
  · simp only [PyData.weight]
    split
    · omega
    · rename_i c
      rcases hl2 with q | q
      · omega
      · exact absurd (by simpa using q) c
  · have hl : (n : Int).natAbs.log2 ≤ 17 := by
      rcases hl2 with q | q
      · exact Nat.le_of_lt q
      · rw [q]
        decide
    simp only [PyData.showable, decide_eq_true_eq]
    omega
def twoN (n : Nat) : PyData := .list [.int (n : Int), .int (n : Int)]
theorem twoN_sm {n : Nat} (h : n ≤ 83521) : Sm 36 1 (twoN n) := sm_list (n := 17) (z := 0) (k := 2) (fun d hd => by
  simp only [List.mem_cons, List.not_mem_nil, or_false] at hd
  rcases hd with rfl | rfl <;> exact sm_nat h) (by show 2 ≤ 2; decide)
theorem twoN_dp {K : PySem.W.Frag} {H : Hp} {L : Addr} {n : Nat} (e : H L = some (.lst [.int (n : Int), .int (n : Int)])) : Dp K H (.ref L) (twoN n) := .lst (SqL.of e) (.cons (.int _) (.cons (.int _) .nil))
end K04
namespace K04
open PySem PySem.Spec PyProof.Rows L2 PySem.W LamX KA KW KU KL KT
open Evl (pss_cut tCut)
section
variable {P : Program} {w : World} {K : PySem.W.Frag} {mg : Str → Option Value} {base : Heap} (T : Top K mg) (SH : ShapeT K mg) (BE : BadShapeT P w K mg T.reel.C) (Z : SzT K mg)
variable {c : Addr} {A : Around} {outer : List Env} {s0 : Shared} {H0 : Hp} {E0 : XK} (hr : Room 11 (A.deeper (envOfC "law" (defScope s_law) s0.heap.objs.size T.law.a (.ref c)))) (hg : A.guards = some [])
/-! ### how many covers -/
theorem seg8 : ∃ t, PS (LX P w base T c A outer s0 H0 E0) (stT 8) t ∧ ∀ (D : Ends) (Pt Pt2 a st lg cl sa fa ea : Addr) (h w : Nat) (us : List V) (bs : List Bk) (m : Nat) (H : Hp) (v2 v5 v6 v7 v8 v9 v10 v11 v13 v14 : Option V), D.nx (sg a st sa ea fa v2 v5 v6 (some (.int 1)) v8 v9 v10 v11 v13 v14) H → t D (sg a st sa ea fa v2 v5 v6 v7 v8 v9 v10 v11 v13 v14) H := ⟨_, (ps_set (i := 7) sc_law.nd rfl (by first | exact .inl rfl | exact .inr rfl) pe_int), fun D Pt Pt2 a st lg cl sa fa ea h w us bs m H v2 v5 v6 v7 v8 v9 v10 v11 v13 v14 k => k⟩
include hr in
theorem seg9 : ∃ t, PS (LX P w base T c A outer s0 H0 E0) (stT 9) t ∧ ∀ (D : Ends) (Pt Pt2 a st lg cl sa fa ea : Addr) (h w : Nat) (us : List V) (bs : List Bk) (m : Nat) (H : Hp) (v2 v5 v6 v7 v8 v9 v10 v11 v13 v14 : Option V), LB SH.C Pt Pt2 st lg cl sa fa ea h w us bs m H →
    (∀ H' v9, LB SH.C Pt Pt2 st lg cl sa fa ea h w us bs m H' → D.nx (sg a st sa ea fa v2 v5 v6 (some (.int ((prodL (waysOf h w) (rootsL h w) : Nat) : Int))) v8 v9 v10 v11 v13 v14) H') → t D (sg a st sa ea fa v2 v5 v6 (some (.int 1)) v8 v9 v10 v11 v13 v14) H := by
  refine ⟨_, (ps_for (passes_of rfl) rfl (pi_list (pe_call (ok_lroots T) (hr.mono (by decide)) (by rfl) T._law_roots.m T._law_roots.f.kp (bd__law_roots T) .nil passE (pa_cons (pv 3) pa_nil))) (pg_name (i := 9) sc_law.nd rfl (by first | exact .inl rfl | exact .inr rfl)) (pss_one (ps_set (i := 7) sc_law.nd rfl (by first | exact .inl rfl | exact .inr rfl) (pe_op op_mul (pv 7) (pe_call (ok_lcount T) (hr.mono (by decide)) (by rfl) T._law_count.m T._law_count.f.kp (bd__law_count T) .nil passE (pa_cons (pv 3) (pa_cons (pv 9) pa_nil))))))), fun D Pt Pt2 a st lg cl sa fa ea h w us bs m H v2 v5 v6 v7 v8 v9 v10 v11 v13 v14 B k => ?_⟩
  refine ⟨_, rfl, sa, h, w, rfl, B.sc, fun q u H1 s1 n1 l1 r1 => ⟨q, rfl, ⟨_, SqL.of l1⟩, for_list (xs := u) (fun i σ H' => (∃ v9, σ = sg a st sa ea fa v2 v5 v6 (some (.int ((prodL (waysOf h w) ((rootsL h w).take i) : Nat) : Int))) v8 v9 v10 v11 v13 v14) ∧ Same H1 H') ⟨⟨_, rfl⟩, Same.refl _⟩ (fun i σ H' _ h => SqL.of (h.2 _ _ l1)) ?_ fun σ' H' ⟨⟨v9, e⟩, s'⟩ => ?_⟩⟩
  case refine_2 =>
    rw [e, List.take_of_length_le (by rw [r1.1]; exact Nat.le_refl _)]
    exact k H' v9 ((B.same s1).same s')
  rintro i x σ H2 hi ⟨⟨v9, rfl⟩, s2⟩
  obtain ⟨p, b, rfl, hb, ep⟩ := (r1.same s2).get hi
  have v := roots_vb (List.mem_of_getElem? hb)
  have wl := ways_le v
  refine ⟨_, rfl, _, rfl, _, rfl, sa, p, b, h, w, rfl, ((B.same s1).same s2).sc, ep, v, fun H3 s3 => ⟨_, _, rfl, rfl, .inr ⟨by omega, by omega⟩, ?_⟩⟩
  have e : ((prodL (waysOf h w) ((rootsL h w).take i) : Nat) : Int) * ((waysOf h w b : Nat) : Int) = ((prodL (waysOf h w) ((rootsL h w).take (i + 1)) : Nat) : Int) := by
    rw [List.take_add_one, hb, show (some b).toList = [b] from rfl, prodL_snoc, Int.natCast_mul]
  refine ⟨⟨some (.ref p), ?_⟩, s2.trans s3⟩
  rw [← e]
  rfl
include hr hg BE in
theorem seg10 : ∃ t, PS (LX P w base T c A outer s0 H0 E0) (stT 10) t ∧ ∀ (D : Ends) (Pt Pt2 a st lg cl sa fa ea : Addr) (h w : Nat) (us : List V) (bs : List Bk) (m : Nat) (H : Hp) (v2 v5 v6 v7 v8 v9 v10 v11 v13 v14 : Option V), LB SH.C Pt Pt2 st lg cl sa fa ea h w us bs m H →
    (∀ H', LB SH.C Pt Pt2 st lg cl sa fa ea h w us bs m H' → D.nx (sg a st sa ea fa v2 v5 v6 (some (.int ((prodL (waysOf h w) (rootsL h w) : Nat) : Int))) v8 v9 v10 v11 v13 v14) H') → t D (sg a st sa ea fa v2 v5 v6 (some (.int ((prodL (waysOf h w) (rootsL h w) : Nat) : Int))) v8 v9 v10 v11 v13 v14) H := by
  refine ⟨_, (ps_if (pt_cmpR op_ne (pe_callB (show CallR _ _ (rRepr K) from call_repr hg hr) (by rfl) T.b_repr (by decide +kernel) (pa_cons (pe_lst (pa_cons (pe_call (ok_many_covers T SH BE) (hr.mono (by decide)) (by rfl) T.many_covers.m T.many_covers.f.kp (bd_many_covers T) .nil passE (pa_cons (pv 12) pa_nil)) (pa_cons (pe_kw (ok_many_covers T SH BE) (hr.mono (by decide)) (by rfl) T.many_covers.m T.many_covers.f.kp (KA.Fun.kw1 T.many_covers.f fun _ _ _ _ _ _ _ => rfl) passE (pk_cons (pv 12) pk_nil)) pa_nil))) pa_nil)) (pe_callB (show CallR _ _ (rRepr K) from call_repr hg hr) (by rfl) T.b_repr (by decide +kernel) (pa_cons (pe_lst (pa_cons (pv 7) (pa_cons (pv 7) pa_nil))) pa_nil)) (nomark _)) (pss_one (ps_ret pe_bl)) pss_nil), fun D Pt Pt2 a st lg cl sa fa ea h w us bs m H v2 v5 v6 v7 v8 v9 v10 v11 v13 v14 B k => ?_⟩
  have hb := B.sc.b
  have pl := prod_le (h := h) (w := w) hb.2.1 hb.2.2.2
  obtain ⟨z1, z2, z3, z4⟩ := (twoN_sm pl).repr (by decide) (by decide)
  refine ⟨_, rfl, .ref fa, rfl, .inl ⟨h, w, B.shp, fun H1 s1 => ?_⟩⟩
  have B1 := B.same s1
  refine ⟨_, rfl, rfl, .ref fa, rfl, .inl ⟨h, w, B1.shp, fun H2 s2 => ?_⟩⟩
  have B2 := B1.same s2
  refine ⟨(by show 2 ≤ sizeLine; decide), fun LA hLA => ⟨LA, twoN _, rfl, twoN_dp upd_same, z1, z2, z3, z4, _, rfl, _, rfl, (by show 2 ≤ sizeLine; decide), fun MA hMA => ⟨MA, twoN _, rfl, twoN_dp upd_same, z1, z2, z3, z4, rfl, _, rfl, ?_⟩⟩⟩
  rw [decide_eq_true rfl]
  exact iteF (k _ ((B2.same (Same.new hLA)).same (Same.new hMA)))
/-! ### covers -/
/-- the cover that was drawn stands -/
structure CB (st lg : Addr) (h w : Nat) (cq : Addr) (cu : List V) (cb : List Bk) (H : Hp) : Prop where
  l : H cq = some (.lst cu)
  n : cq ≠ st ∧ cq ≠ lg
  r : RL bkV H cu cb
  v : ∀ b ∈ cb, Vb h w b
  f : cb.flatMap (cellsOf h w) = cellsL h w
  z : cb.length ≤ 84
theorem CB.kn {st lg cl : Addr} {h w m : Nat} {cq : Addr} {cu : List V} {cb : List Bk} {H H' : Hp} (Cv : CB st lg h w cq cu cb H) (S : StAt H st lg cl m) (k : KpN st lg H H') : CB st lg h w cq cu cb H' :=
  ⟨k _ _ Cv.l Cv.n.1 Cv.n.2 (fun _ z => by cases z), Cv.n, Cv.r.tp (KpN.tp S k), Cv.v, Cv.f, Cv.z⟩
theorem CB.pos {st lg : Addr} {h w : Nat} {cq : Addr} {cu : List V} {cb : List Bk} {H : Hp} (Cv : CB st lg h w cq cu cb H) (hh : 1 ≤ h) (hw : 1 ≤ w) : 0 < cu.length := by
  rw [Cv.r.1]
  refine Nat.pos_of_ne_zero fun z => ?_
  have e := Cv.f
  rw [List.length_eq_zero_iff.mp z] at e
  have v : Vb h w ⟨0, 0, 2⟩ := ⟨by decide, by decide, by decide, hh, hw⟩
  have q1 := place_le v
  have q2 := many_pos v
  rw [← e] at q1
  simp only [List.flatMap_nil, List.length_nil] at q1
  omega
include hr in
theorem seg11 : ∃ t, PS (LX P w base T c A outer s0 H0 E0) (stT 11) t ∧ ∀ (D : Ends) (Pt Pt2 a st lg cl sa fa ea : Addr) (h w : Nat) (us : List V) (bs : List Bk) (m : Nat) (H : Hp) (v2 v5 v6 v7 v8 v9 v10 v11 v13 v14 : Option V), m ≤ 800000 → LB SH.C Pt Pt2 st lg cl sa fa ea h w us bs m H →
    (∀ H' cq cu cb, LB SH.C Pt Pt2 st lg cl sa fa ea h w us bs (m + 84) H' → CB st lg h w cq cu cb H' → D.nx (sg a st sa ea fa v2 v5 v6 v7 v8 v9 (some (.ref cq)) v11 v13 v14) H') → t D (sg a st sa ea fa v2 v5 v6 v7 v8 v9 v10 v11 v13 v14) H := by
  refine ⟨_, (ps_set (i := 10) sc_law.nd rfl (by first | exact .inl rfl | exact .inr rfl) (pe_call (ok_lcover T) (hr.mono (by decide)) (by rfl) T._law_cover.m T._law_cover.f.kp (bd__law_cover T) .nil passE (pa_cons (pv 1) (pa_cons (pv 3) pa_nil)))), fun D Pt Pt2 a st lg cl sa fa ea h w us bs m H v2 v5 v6 v7 v8 v9 v10 v11 v13 v14 hm B k => ?_⟩
  exact ⟨_, rfl, _, rfl, st, lg, cl, sa, h, w, m, rfl, B.sc, B.ns.1, B.ns.2, by omega, B.S, fun q u b H' S' kp n l r vb fl z => k H' q u b (B.kp kp S') ⟨l, B.S.off n, r, vb, fl, z⟩⟩
end
end K04
namespace K04
open PySem PySem.Spec PyProof.Rows L2 PySem.W LamX KA KW KU KL KT
open Evl (pss_cut tCut)
section
variable {P : Program} {w : World} {K : PySem.W.Frag} {mg : Str → Option Value} {base : Heap} (T : Top K mg) (SH : ShapeT K mg) (BE : BadShapeT P w K mg T.reel.C) (Z : SzT K mg)
variable {c : Addr} {A : Around} {outer : List Env} {s0 : Shared} {H0 : Hp} {E0 : XK} (hr : Room 11 (A.deeper (envOfC "law" (defScope s_law) s0.heap.objs.size T.law.a (.ref c)))) (hg : A.guards = some [])
/-! ### is it a cover, four times -/
include hr hg BE Z in
theorem seg12 : ∃ t, PS (LX P w base T c A outer s0 H0 E0) (stT 12) t ∧ ∀ (D : Ends) (Pt Pt2 a st lg cl sa fa ea cq : Addr) (cu : List V) (cb : List Bk) (h w : Nat) (us : List V) (bs : List Bk) (m : Nat) (H : Hp) (v2 v5 v6 v7 v8 v9 v11 v13 v14 : Option V), m ≤ 800000 → LB SH.C Pt Pt2 st lg cl sa fa ea h w us bs m H → CB st lg h w cq cu cb H →
    (∀ H' m' v7 v11 v13, m' ≤ m + 16 → LB SH.C Pt Pt2 st lg cl sa fa ea h w us bs m' H' → D.nx (sg a st sa ea fa v2 v5 v6 v7 v8 v9 (some (.ref cq)) v11 v13 v14) H') → t D (sg a st sa ea fa v2 v5 v6 v7 v8 v9 (some (.ref cq)) v11 v13 v14) H := by
  refine ⟨_, (ps_for (passes_of rfl) rfl (pi_range1 (by rfl) T.b_range (pa_cons pe_int pa_nil)) (pg_name (i := 11) sc_law.nd rfl (by first | exact .inl rfl | exact .inr rfl)) (pss_cut (ps_set (i := 13) sc_law.nd rfl (by first | exact .inl rfl | exact .inr rfl) (pe_ifExp (pt_cmpR op_eq (pv 11) pe_int (nomark _)) (pe_call (ok_pick T) (hr.mono (by decide)) (by rfl) T._law_pick.m T._law_pick.f.kp (bd__law_pick T) .nil passE (pa_cons (pv 1) (pa_cons (pe_lst (pa_cons (pv 10) (pa_cons (pe_callTy call_tuple_of (by rfl) T.b_tuple (by decide +kernel) (pa_cons (pv 10) pa_nil)) pa_nil))) pa_nil))) (pe_call (ok_bent T) (hr.mono (by decide)) (by rfl) T._law_bent.m T._law_bent.f.kp (bd__law_bent T) .nil passE (pa_cons (pv 1) (pa_cons (pv 3) (pa_cons (pv 10) pa_nil))))))
      (pss_cons (ps_set (i := 7) sc_law.nd rfl (by first | exact .inl rfl | exact .inr rfl) (pe_wcall (FnG.w (ok_covers T)) (since_self rfl) (hr.mono (by decide)) hg (by rfl) T._law_covers.m T._law_covers.f.kp (bd__law_covers T) passE (pa_cons (pv 3) (pa_cons (pv 13) pa_nil))))
      (pss_cons (ps_if (pt_cmpR op_ne (pe_callB (show CallR _ _ (rRepr K) from call_repr hg hr) (by rfl) T.b_repr (by decide +kernel) (pa_cons (pe_lst (pa_cons (pe_call (ok_is_cover T SH BE Z) (hr.mono (by decide)) (by rfl) T.is_cover.m T.is_cover.f.kp (bd_is_cover T) .nil passE (pa_cons (pv 12) (pa_cons (pv 13) pa_nil))) (pa_cons (pe_kw (ok_is_cover T SH BE Z) (hr.mono (by decide)) (by rfl) T.is_cover.m T.is_cover.f.kp (KA.Fun.kw2 T.is_cover.f fun _ _ _ _ _ _ _ _ => rfl) passE (pk_cons (pv 13) (pk_cons (pv 12) pk_nil))) pa_nil))) pa_nil)) (pe_callB (show CallR _ _ (rRepr K) from call_repr hg hr) (by rfl) T.b_repr (by decide +kernel) (pa_cons (pe_lst (pa_cons (pv 7) (pa_cons (pv 7) pa_nil))) pa_nil)) (nomark _)) (pss_one (ps_ret pe_bl)) pss_nil)
      (pss_one (ps_if (PW.pt (pw_and (pt_cmpR op_eq (pv 11) pe_int (nomark _)) (pw_and1 (pt_not (pt_val (pv 7)))))) (pss_one (ps_ret pe_bl)) pss_nil)))))), fun D Pt Pt2 a st lg cl sa fa ea cq cu cb h w us bs m H v2 v5 v6 v7 v8 v9 v11 v13 v14 hm B Cv k => ?_⟩
  have hb := B.sc.b
  refine ⟨4, rfl, by decide, by decide, for_range (lo := 0) (n := 4) (fun i σ H' => (∃ v7 v11 v13, σ = sg a st sa ea fa v2 v5 v6 v7 v8 v9 (some (.ref cq)) v11 v13 v14) ∧ (∃ m', m' ≤ m + 3 * i ∧ LB SH.C Pt Pt2 st lg cl sa fa ea h w us bs m' H') ∧ CB st lg h w cq cu cb H') ⟨⟨_, _, _, rfl⟩, ⟨m, by omega, B⟩, Cv⟩ ?_ fun σ' H' ⟨⟨v7, v11, v13, e⟩, ⟨m', l', B'⟩, _⟩ => ?_⟩
  case refine_2 =>
    rw [e]
    exact k H' m' v7 v11 v13 (by omega) B'
  clear B Cv v7 v11 v13
  rintro i σ H1 hi ⟨⟨v7, v11, v13, rfl⟩, ⟨m1, l1, B⟩, Cv⟩
  have n0 : ∀ {A : Prop} {i : Nat}, ¬ i = 0 → V.int ((0 : Int) + (i : Int)) = V.int 0 → A := fun n z => absurd (V.int.inj z) (by omega)
  -- the item
  refine ⟨fun σ' H' => ∃ x cv, σ' = sg a st sa ea fa v2 v5 v6 v7 v8 v9 (some (.ref cq)) (some (.int (0 + (i : Int)))) (some x) v14 ∧ (∃ m', m' ≤ m + 3 * i + 3 ∧ LB SH.C Pt Pt2 st lg cl sa fa ea h w us bs m' H') ∧ CB st lg h w cq cu cb H' ∧ CvI K H' x cv ∧ (i = 0 → cvB h w cv = true), ?_, ?_⟩
  · refine ⟨_, rfl, rfl, _, rfl, ?_⟩
    by_cases c0 : i = 0
    · rw [decide_eq_true (show V.int ((0 : Int) + (i : Int)) = V.int 0 by rw [c0]; rfl)]
      refine iteT ⟨_, rfl, _, rfl, _, rfl, cq, cu, rfl, .inl ⟨SqL.of Cv.l, fun tb htb => ?_⟩⟩
      have t1 := Same.new (o := .tup cu) htb
      have e1 : (upd H1 tb (.tup cu)) tb = some (.tup cu) := upd_same
      have nt := B.S.off htb
      generalize upd H1 tb (.tup cu) = H2 at t1 e1 ⊢
      have B2 := B.same t1
      refine ⟨(by show 2 ≤ sizeLine; decide), fun p hp => ⟨st, lg, cl, p, _, m1, rfl, upd_same, (B2.S.off hp).2, (by show 0 < 2; decide), (by show 2 ≤ 1000; decide), by omega, B2.S.same (Same.new hp), fun x H3 hx S3 kp3 => ?_⟩⟩
      have k3 : Kp st lg H2 H3 := (Kp.same (Same.new hp)).trans kp3
      have B3 := B2.kp k3 S3
      have C3 := Cv.kn B.S ((KpN.kp (.same t1)).trans (.kp k3))
      have e3 := k3 _ _ e1 nt.1 nt.2
      have cx : CvI K H3 x (some (cb.map fun b => some (bkV b))) := by
        simp only [List.mem_cons, List.not_mem_nil, or_false] at hx
        rcases hx with rfl | rfl
        · exact cvi_cover (.inl C3.l) C3.r C3.v hb.2.1 hb.2.2.2
        · exact cvi_cover (.inr e3) C3.r C3.v hb.2.1 hb.2.2.2
      exact ⟨x, _, rfl, ⟨m1 + 1, by omega, B3⟩, C3, cx, fun _ => cover_true C3.v C3.f⟩
    · rw [decide_eq_false fun z => n0 c0 z]
      refine iteF ⟨_, rfl, _, rfl, _, rfl, st, lg, cl, sa, cq, h, w, m1, cu, rfl, B.sc, B.ns.1, B.ns.2, by omega, B.S, Cv.l, rl_bke Cv.r Cv.v hb.2.1 hb.2.2.2, Cv.pos hb.1 hb.2.2.1, by rw [Cv.r.1]; exact Cv.z, fun x cv H3 cx S3 kp3 => ?_⟩
      exact ⟨x, cv, rfl, ⟨m1 + 3, by omega, B.kp kp3 S3⟩, Cv.kn B.S (.kp kp3), cx, fun z => absurd z c0⟩
  clear B Cv H1 m1 l1
  rintro σ' H1 ⟨x, cv, rfl, ⟨m1, l1, B⟩, Cv, cx, z0⟩
  -- due
  refine ⟨_, rfl, _, rfl, sa, h, w, x, cv, rfl, B.sc, cx, fun H2 s2 => ?_⟩
  have B2 := B.same s2
  have c2 := cx.keep s2
  -- is_cover
  obtain ⟨z1, z2, z3, z4⟩ := (two_sm (b := cvB h w cv)).repr (by decide) (by decide)
  refine ⟨_, rfl, _, rfl, .ref fa, x, rfl, .inl ⟨h, w, B2.shp, cv, c2.t, fun H3 s3 => ?_⟩⟩
  have B3 := B2.same s3
  refine ⟨_, rfl, _, rfl, rfl, .ref fa, x, rfl, .inl ⟨h, w, B3.shp, cv, (c2.keep s3).t, fun H4 s4 => ?_⟩⟩
  have B4 := B3.same s4
  refine ⟨(by show 2 ≤ sizeLine; decide), fun LA hLA => ⟨LA, twoB _, rfl, two_dp upd_same, z1, z2, z3, z4, _, rfl, _, rfl, (by show 2 ≤ sizeLine; decide), fun MA hMA => ⟨MA, twoB _, rfl, two_dp upd_same, z1, z2, z3, z4, rfl, _, rfl, ?_⟩⟩⟩
  rw [decide_eq_true rfl]
  refine iteF ?_
  have tL := (Same.new (o := .lst [V.bl (cvB h w cv), .bl (cvB h w cv)]) hLA).trans (Same.new (o := .lst [V.bl (cvB h w cv), .bl (cvB h w cv)]) hMA)
  generalize upd (upd H4 LA (.lst [V.bl (cvB h w cv), .bl (cvB h w cv)])) MA (.lst [V.bl (cvB h w cv), .bl (cvB h w cv)]) = H6 at tL ⊢
  have B6 := B4.same tL
  have C6 := Cv.kn B.S (.kp (.same (s2.trans (s3.trans (s4.trans tL)))))
  refine ⟨_, rfl, rfl, _, rfl, ?_⟩
  by_cases c0 : i = 0
  · rw [decide_eq_true (show V.int ((0 : Int) + (i : Int)) = V.int 0 by rw [c0]; rfl)]
    refine iteT ⟨_, rfl, _, rfl, ?_⟩
    rw [z0 c0]
    exact iteF ⟨⟨_, _, _, rfl⟩, ⟨m1, by omega, B6⟩, C6⟩
  · rw [decide_eq_false fun z => n0 c0 z]
    exact iteF (iteF ⟨⟨_, _, _, rfl⟩, ⟨m1, by omega, B6⟩, C6⟩)
/-! ### what is refused -/
include hr hg BE Z in
theorem seg13 {cr Pt Pt2 : Addr} (LT : LamT K "_law_refused" s__law_refused T._law_refused.a T._law_refused.d cr Pt) (TB : TabB base mg cr Pt) (nP : Pt ≠ Pt2) : ∃ t, PS (LX P w base T c A outer s0 H0 E0) (stT 13) t ∧ ∀ (D : Ends) (a st lg cl sa fa ea : Addr) (h w : Nat) (us : List V) (bs : List Bk) (m : Nat) (H : Hp) (v2 v5 v6 v7 v8 v9 v10 v11 v13 v14 : Option V), m ≤ 800000 → LB SH.C Pt Pt2 st lg cl sa fa ea h w us bs m H →
    (∀ H', LB SH.C Pt Pt2 st lg cl sa fa ea h w us bs (m + 1) H' → D.nx (sg a st sa ea fa v2 v5 v6 v7 v8 v9 v10 v11 v13 v14) H') → t D (sg a st sa ea fa v2 v5 v6 v7 v8 v9 v10 v11 v13 v14) H := by
  refine ⟨_, (ps_if (pt_not (pt_val (pe_wcall (FnG.w (ok_refused T SH BE Z LT TB nP)) (since_self rfl) (hr.mono (by decide)) hg (by rfl) T._law_refused.m T._law_refused.f.kp (bd__law_refused T) passE (pa_cons (pv 1) (pa_cons (pv 12) (pa_cons (pv 3) pa_nil)))))) (pss_one (ps_ret pe_bl)) pss_nil), fun D a st lg cl sa fa ea h w us bs m H v2 v5 v6 v7 v8 v9 v10 v11 v13 v14 hm B k => ?_⟩
  exact ⟨_, rfl, _, rfl, _, rfl, st, lg, cl, sa, .ref fa, h, w, m, rfl, B.shp, B.sc, by omega, B.S, B.Tb, fun H' S' Tb' kn => ⟨_, rfl, iteF (k H' (B.kn kn S' Tb'))⟩⟩
end
end K04
namespace K04
open PySem PySem.Spec PyProof.Rows L2 PySem.W LamX KA KW KU KL KT
open Evl (pss_cut tCut)
section
variable {P : Program} {w : World} {K : PySem.W.Frag} {mg : Str → Option Value} {base : Heap} (T : Top K mg) (SH : ShapeT K mg) (BE : BadShapeT P w K mg T.reel.C) (Z : SzT K mg)
/-! ### the law -/
def spLaw (K : PySem.W.Frag) (Pt Pt2 : Addr) : Sp := fun vs H Q _ => ∃ (a : Addr) (ns : List Int), vs = [.ref a] ∧ SqL K H a (ns.map V.int) ∧ ns.length ≤ 63 ∧ Tabs (tabs Pt Pt2) H ∧ ∀ H', Q (.bl true) H'
include SH BE Z in
theorem ok_law {cr c Pt Pt2 : Addr} (LT : LamT K "_law_refused" s__law_refused T._law_refused.a T._law_refused.d cr Pt) (TB : TabB base mg cr Pt) (LT2 : LamT K "law" s_law T.law.a T.law.d c Pt2) (TB2 : TabB base mg c Pt2) (nP : Pt ≠ Pt2) : FnG P w K mg base (L2.CX P w) 12 T.law.a T.law.d ["script"] (spLaw K Pt Pt2) := by
  refine fnG_ofC LT2 sc_law (fun vs H Q E h => ?_) (fun A outer s0 H vs Q E hr hg h => ?_)
  · obtain ⟨a, ns, rfl, _⟩ := h
    rfl
  · obtain ⟨a, ns, rfl, hS, hl, Tb, k⟩ := h
    obtain ⟨t0, p0, r0⟩ := seg0 T (c := c) (A := A) (outer := outer) (s0 := s0) (H0 := H) (E0 := E) hr
    obtain ⟨t1, p1, r1⟩ := seg1 T SH BE (c := c) (A := A) (outer := outer) (s0 := s0) (H0 := H) (E0 := E) hr
    obtain ⟨t2, p2, r2⟩ := seg2 T SH BE (c := c) (A := A) (outer := outer) (s0 := s0) (H0 := H) (E0 := E) hr hg
    obtain ⟨t3, p3, r3⟩ := seg3 T SH BE (c := c) (A := A) (outer := outer) (s0 := s0) (H0 := H) (E0 := E) hr
    obtain ⟨t4, p4, r4⟩ := seg4 T SH BE (c := c) (A := A) (outer := outer) (s0 := s0) (H0 := H) (E0 := E) hr
    obtain ⟨t5, p5, r5⟩ := seg5 T SH BE (c := c) (A := A) (outer := outer) (s0 := s0) (H0 := H) (E0 := E) hr hg
    obtain ⟨t6, p6, r6⟩ := seg6 T SH BE Z (c := c) (A := A) (outer := outer) (s0 := s0) (H0 := H) (E0 := E) hr hg TB2 nP
    obtain ⟨t7, p7, r7⟩ := seg7 T SH BE Z (c := c) (A := A) (outer := outer) (s0 := s0) (H0 := H) (E0 := E) hr hg TB2 nP
    obtain ⟨t8, p8, r8⟩ := seg8 T (c := c) (A := A) (outer := outer) (s0 := s0) (H0 := H) (E0 := E) 
    obtain ⟨t9, p9, r9⟩ := seg9 T SH (c := c) (A := A) (outer := outer) (s0 := s0) (H0 := H) (E0 := E) hr
    obtain ⟨t10, p10, r10⟩ := seg10 T SH BE (c := c) (A := A) (outer := outer) (s0 := s0) (H0 := H) (E0 := E) hr hg
    obtain ⟨t11, p11, r11⟩ := seg11 T SH (c := c) (A := A) (outer := outer) (s0 := s0) (H0 := H) (E0 := E) hr
    obtain ⟨t12, p12, r12⟩ := seg12 T SH BE Z (c := c) (A := A) (outer := outer) (s0 := s0) (H0 := H) (E0 := E) hr hg
    obtain ⟨t13, p13, r13⟩ := seg13 T SH BE Z (c := c) (A := A) (outer := outer) (s0 := s0) (H0 := H) (E0 := E) hr hg LT TB nP
    refine ⟨_, pss_cons (ps_set (i := 1) sc_law.nd rfl (by first | exact .inl rfl | exact .inr rfl) (pe_call (ok_begun T) (hr.mono (by decide)) (by rfl) T._law_begun.m T._law_begun.f.kp (bd__law_begun T) .nil passE (pa_cons (pv 0) pa_nil)))
      (pss_cons (ps_for (passes_of rfl) rfl (pi_range1 (by rfl) T.b_range (pa_cons (pe_op op_add pe_int (pe_callB (call_min2 rfl) (by rfl) T.b_min PyProof.Rows.boot_min (pa_cons (pe_callB call_len_seq (by rfl) T.b_len PySem.boot_len (pa_cons (pv 0) pa_nil)) (pa_cons pe_int pa_nil)))) pa_nil)) (pg_name (i := 2) sc_law.nd rfl (by first | exact .inl rfl | exact .inr rfl)) (pss_cons p0 (pss_cons p1 (pss_cons p2 (pss_cons p3 (pss_cons p4 (pss_cons p5 (pss_cons p6 (pss_cons p7 (pss_cons p8 (pss_cons p9 (pss_cons p10 (pss_cons p11 (pss_cons p12 (pss_one p13)))))))))))))))
      (pss_one (ps_ret pe_bl))), ?_⟩
    refine ⟨_, rfl, a, ns, rfl, hS, hl, fun st lg cl H1 S1 sm1 n1 n2 => ?_⟩
    have T1 := Tb.ext sm1
    clear Tb
    refine ⟨_, rfl, a, _, rfl, .inl (sm1.seq hS), _, _, rfl, _, _, rfl, rfl, _, rfl, by split <;> omega, by split <;> omega, for_range (n := _) (fun j σ H => StAt H st lg cl (2000 * j) ∧ Tabs (tabs Pt Pt2) H ∧ ∃ v2 v3 v4 v5 v6 v7 v8 v9 v10 v11 v12 v13 v14, σ = [some (.ref a), some (.ref st), v2, v3, v4, v5, v6, v7, v8, v9, v10, v11, v12, v13, v14]) ⟨S1, T1, _, _, _, _, _, _, _, _, _, _, _, _, _, rfl⟩ ?_ fun σ H _ => k H⟩
    clear S1 T1 sm1 hS n1 n2 H1
    rintro j σ H1 hj ⟨S, Tb, v2, v3, v4, v5, v6, v7, v8, v9, v10, v11, v12, v13, v14, rfl⟩
    have hj : j < 4 := by
      refine Nat.lt_of_lt_of_le hj ?_
      split <;> omega
    refine r0 _ Pt Pt2 a st lg cl (2000 * j) H1 _ _ _ _ _ _ _ _ _ _ _ _ _ (by omega) S Tb fun sa h wn H2 S2 T2 sc ns => ?_
    refine r1 _ Pt Pt2 a st lg cl sa h wn _ H2 _ _ _ _ _ _ _ _ _ _ _ _ S2 T2 sc ns fun fa ea us bs H3 B3 => ?_
    refine r2 _ Pt Pt2 a st lg cl sa fa ea h wn us bs _ H3 _ _ _ _ _ _ _ _ _ _ B3 fun H4 B4 => ?_
    refine r3 _ Pt Pt2 a st lg cl sa fa ea h wn us bs _ H4 _ _ _ _ _ _ _ _ _ _ B4 fun H5 B5 => ?_
    refine r4 _ Pt Pt2 a st lg cl sa fa ea h wn us bs _ H5 _ _ _ _ _ _ _ _ _ _ B5 fun H6 B6 => ?_
    refine r5 _ Pt Pt2 a st lg cl sa fa ea h wn us bs _ H6 _ _ _ _ _ _ _ _ _ _ B6 fun H7 B7 => ?_
    refine r6 _ a st lg cl sa fa ea h wn us bs _ H7 _ _ _ _ _ _ _ _ _ _ (by omega) B7 fun H8 m8 v5 v6 v7 v13 l8 B8 => ?_
    refine r7 _ a st lg cl sa fa ea h wn us bs _ H8 _ _ _ _ _ _ _ _ _ _ (by omega) B8 fun H9 m9 v7 v8 l9 B9 => ?_
    refine r8 _ Pt Pt2 a st lg cl sa fa ea h wn us bs m9 H9 _ _ _ v7 _ _ _ _ _ _ ?_
    refine r9 _ Pt Pt2 a st lg cl sa fa ea h wn us bs _ H9 _ _ _ none _ _ _ _ _ _ B9 fun H10 v9 B10 => ?_
    refine r10 _ Pt Pt2 a st lg cl sa fa ea h wn us bs _ H10 _ _ _ none _ _ _ _ _ _ B10 fun H11 B11 => ?_
    refine r11 _ Pt Pt2 a st lg cl sa fa ea h wn us bs _ H11 _ _ _ _ _ _ _ _ _ _ (by omega) B11 fun H12 cq cu cb B12 C12 => ?_
    refine r12 _ Pt Pt2 a st lg cl sa fa ea cq cu cb h wn us bs _ H12 _ _ _ _ _ _ _ _ _ (by omega) B12 C12 fun H13 m13 v7 v11 v13 l13 B13 => ?_
    refine r13 _ a st lg cl sa fa ea h wn us bs _ H13 _ _ _ _ _ _ _ _ _ _ (by omega) B13 fun H14 B14 => ?_
    exact ⟨(B14.mono (show _ ≤ 2000 * (j + 1) by omega)).S, B14.Tb, _, _, _, _, _, _, _, _, _, _, _, _, _, rfl⟩
end
end K04
namespace K04
open PySem PySem.Spec PyProof.Rows L2 PySem.W LamX KA KW KU KL KT
/-! ### what the head's heap says, put together -/
section
variable {K : PySem.W.Frag} {mg : Str → Option Value} {h : Heap}
theorem defT_of {x : Str} {st : Stmt} {f : Addr} {od an : Option Addr} {sl : Array (Option Value)} {oc kV dc pm cd ct : Value} (X : K.In h) (G : h.Ns mainGlobals mg)
    (a : PySem.W.nsIn K mainGlobals x = some (some (.ref f))) (l : K.lookup f = some ⟨oc, od, .func (PySem.W.fnOf x x (defArgs st) (defBody st) (defScope st) .none kV dc pm an cd ct), sl⟩) (c : PySem.W.codeIn K cd x = true) (k : PySem.W.keepIn K (.ref f) = true) :
    Nonempty (DefT K mg x st) := ⟨⟨f, _, fun_mk l c k, PySem.W.mg_of X G a⟩⟩
theorem lamT_of {x : Str} {st : Stmt} {f c Pt : Addr} {od an : Option Addr} {sl : Array (Option Value)} {oc kV dc pm ct : Value} (X : K.In h) (G : h.Ns mainGlobals mg) (T : DefT K mg x st)
    (a : PySem.W.nsIn K mainGlobals x = some (some (.ref f))) (l : K.lookup f = some ⟨oc, od, .func (PySem.W.fnOf x x (defArgs st) (defBody st) (defScope st) .none kV dc pm an (.ref c) ct), sl⟩) (cc : PySem.W.codeIn K (.ref c) x = true) :
    LamT K x st T.a T.d c Pt := by
  have e := (PySem.W.mg_of X G a).symm.trans T.m
  have e : f = T.a := Value.ref.inj (Option.some.inj e)
  obtain ⟨oc', od', kV', dc', pm', an', cd', ct', sl', ed, lk, hcd⟩ := T.f.ex
  rw [e] at l
  have e2 := l.symm.trans lk
  have e3 := congrArg Obj.data (Option.some.inj e2)
  have e4 := Data.func.inj e3
  exact ⟨oc, od, kV, dc, pm, an, ct, sl, e4.symm, by rw [← e4]; exact l, cc⟩
theorem reelT_of {C : Addr} (X : K.In h) (G : h.Ns mainGlobals mg) (a : PySem.W.nsIn K mainGlobals "ReelError" = some (some (.ref C))) (b : PySem.W.subIn K (.ref C) (.type "BaseException") = some true)
    (t : PySem.W.typeIn K (.ref C) = some (.type "type")) (d : PySem.W.hasDictIn K C = true) : ∃ R : ReelT K mg, R.C = C := ⟨⟨C, PySem.W.mg_of X G a, b, t, d⟩, rfl⟩
theorem excT_of {x : Str} {C R : Addr} (X : K.In h) (G : h.Ns mainGlobals mg) (a : PySem.W.nsIn K mainGlobals x = some (some (.ref C))) (q : PySem.W.excIn K C veB "ValueError.__new__" = true) (k : PySem.W.keepIn K (.ref C) = true)
    (b : PySem.W.subIn K (.ref C) (.type "BaseException") = some true) (t : PySem.W.typeIn K (.ref C) = some (.type "type")) (r : PySem.W.subIn K (.ref C) (.ref R) = some true)
    (e1 : PySem.W.findIn K (.ref C) "__getattribute__" = some (some (.builtin "BaseException.__getattribute__"))) (e2 : PySem.W.findIn K (.ref C) "__getattr__" = some none) (e3 : PySem.W.hasDictIn K C = true)
    (e4 : PySem.W.findIn K (.ref C) "__class__" = some (some (.builtin "object.__class__"))) (e5 : PySem.W.specialIn K (.builtin "object.__class__") "__get__" = some (some (.builtin "getset_descriptor.__get__")))
    (e6 : PySem.W.takesIn K (.builtin "object.__class__") = some true) (e7 : PySem.W.mroIn K C (.type "object") = some true) : Nonempty (ExcT K mg x R) :=
  ⟨⟨C, PySem.W.mg_of X G a, q, k, b, t, r, ⟨e1, e2, b, e3, e4, e5, e6, e7⟩⟩⟩
theorem cstT_of {x : Str} {n : Int} {t : Tok} (X : K.In h) (G : h.Ns mainGlobals mg) (a : PySem.W.nsIn K mainGlobals x = some (some (.int n t))) : CstT mg x n := ⟨t, PySem.W.mg_of X G a⟩
/-- the law, at the head's heap: two defs make lambdas -/
theorem law_at {l : PySem.W.OpenLaw} {w : World} {fa cr c Pt Pt2 : Addr} (T : Top K mg) (SH : ShapeT K mg) (BE : BadShapeT l.prog w K mg T.reel.C) (Z : SzT K mg) (name : mg "law" = some (.ref fa)) (nP : Pt ≠ Pt2)
    (LT : LamT K "_law_refused" s__law_refused T._law_refused.a T._law_refused.d cr Pt) (ht : h.get? Pt = some { cls := .none, data := .fields #[] }) (hk : K.lookup Pt = none) (hc : PySem.W.CodeHd h cr Pt)
    (LT2 : LamT K "law" s_law T.law.a T.law.d c Pt2) (ht2 : h.get? Pt2 = some { cls := .none, data := .fields #[] }) (hk2 : K.lookup Pt2 = none) (hc2 : PySem.W.CodeHd h c Pt2) : LawAtG l w K (L2.CX l.prog w) 12 63 "script" mg fa h := by
  have e : fa = T.law.a := Value.ref.inj (Option.some.inj (name.symm.trans T.law.m))
  subst e
  have both : ∀ {A : Addr × Addr → Prop}, A (cr, Pt) → A (c, Pt2) → ∀ p ∈ [(cr, Pt), (c, Pt2)], A p := fun q1 q2 p hp => by
    rcases List.mem_cons.mp hp with z | z
    · rw [z]
      exact q1
    · rw [List.mem_singleton.mp z]
      exact q2
  have m1 : (cr, Pt) ∈ [(cr, Pt), (c, Pt2)] := List.mem_cons_self
  have m2 : (c, Pt2) ∈ [(cr, Pt), (c, Pt2)] := List.mem_cons_of_mem _ List.mem_cons_self
  refine ⟨T.law.d, [(cr, Pt), (c, Pt2)], spLaw K Pt Pt2, ⟨both ht ht2, both hk hk2, both hc hc2⟩, fun s u => ?_, fun H a ns short t S => ?_, fun base _ _ tb => ok_law T SH BE Z LT (tb _ m1) LT2 (tb _ m2) nP⟩
  · obtain ⟨oc, od, kV, doc, pm, an, cdv, ct, osl, ed, lk, hcd⟩ := T.law.f.ex
    rw [ed]
    exact .of_eq rfl
  · refine ⟨a, ns, rfl, S, short, fun p hp => ?_, fun _ => rfl⟩
    rcases List.mem_cons.mp hp with z | z
    · rw [z]
      exact TabS.nil (t _ m1)
    · rw [List.mem_singleton.mp z]
      exact TabS.nil (t _ m2)
theorem calm_cx {P : Program} {w : World} {H : Hp} {s : Shared} {e : Value} {s' : Shared} (z : L2.CX P w [] H s (fun _ _ _ => False) e s') : False := by
  obtain ⟨_, _, _, _, _, _, _, _, _, _, _, _, f⟩ := z
  exact f
end
end K04
namespace K04
open PySem PySem.Spec PyProof.Rows L2 PySem.W LamX KA KW KU KL KT
section
variable {K : PySem.W.Frag} {mg : Str → Option Value} {h : Heap} {A : Prop}
theorem reel_use {C : Addr} (X : K.In h) (G : h.Ns mainGlobals mg) (a : PySem.W.nsIn K mainGlobals "ReelError" = some (some (.ref C))) (b : PySem.W.subIn K (.ref C) (.type "BaseException") = some true)
    (t : PySem.W.typeIn K (.ref C) = some (.type "type")) (d : PySem.W.hasDictIn K C = true) (n : ∀ R : ReelT K mg, R.C = C → A) : A := by
  obtain ⟨R, e⟩ := reelT_of X G a b t d
  exact n R e
theorem exc_use {x : Str} {C B : Addr} (X : K.In h) (G : h.Ns mainGlobals mg) (R : ReelT K mg) (eR : R.C = B) (a : PySem.W.nsIn K mainGlobals x = some (some (.ref C))) (q : PySem.W.excIn K C veB "ValueError.__new__" = true) (k : PySem.W.keepIn K (.ref C) = true)
    (b : PySem.W.subIn K (.ref C) (.type "BaseException") = some true) (t : PySem.W.typeIn K (.ref C) = some (.type "type")) (r : PySem.W.subIn K (.ref C) (.ref B) = some true)
    (e1 : PySem.W.findIn K (.ref C) "__getattribute__" = some (some (.builtin "BaseException.__getattribute__"))) (e2 : PySem.W.findIn K (.ref C) "__getattr__" = some none) (e3 : PySem.W.hasDictIn K C = true)
    (e4 : PySem.W.findIn K (.ref C) "__class__" = some (some (.builtin "object.__class__"))) (e5 : PySem.W.specialIn K (.builtin "object.__class__") "__get__" = some (some (.builtin "getset_descriptor.__get__")))
    (e6 : PySem.W.takesIn K (.builtin "object.__class__") = some true) (e7 : PySem.W.mroIn K C (.type "object") = some true) (n : ExcT K mg x R.C → A) : A := by
  rw [← eR] at r
  obtain ⟨D⟩ := excT_of X G a q k b t r e1 e2 e3 e4 e5 e6 e7
  exact n D
theorem def_use {x : Str} {st : Stmt} {f : Addr} {od an : Option Addr} {sl : Array (Option Value)} {oc kV dc pm cd ct : Value} (X : K.In h) (G : h.Ns mainGlobals mg)
    (a : PySem.W.nsIn K mainGlobals x = some (some (.ref f))) (l : K.lookup f = some ⟨oc, od, .func (PySem.W.fnOf x x (defArgs st) (defBody st) (defScope st) .none kV dc pm an cd ct), sl⟩) (c : PySem.W.codeIn K cd x = true) (k : PySem.W.keepIn K (.ref f) = true)
    (n : DefT K mg x st → A) : A := by
  obtain ⟨D⟩ := defT_of X G a l c k
  exact n D
theorem lam_use {x : Str} {st : Stmt} {f c Pt : Addr} {od an : Option Addr} {sl : Array (Option Value)} {oc kV dc pm ct : Value} (X : K.In h) (G : h.Ns mainGlobals mg) (T : DefT K mg x st) (t : h.get? Pt = some { cls := .none, data := .fields #[] })
    (a : PySem.W.nsIn K mainGlobals x = some (some (.ref f))) (l : K.lookup f = some ⟨oc, od, .func (PySem.W.fnOf x x (defArgs st) (defBody st) (defScope st) .none kV dc pm an (.ref c) ct), sl⟩) (cc : PySem.W.codeIn K (.ref c) x = true)
    (hk : K.lookup Pt = none) (hc : PySem.W.codeHdIn K c Pt = true) (n : LamT K x st T.a T.d c Pt → K.lookup Pt = none → PySem.W.CodeHd h c Pt → A) : A := n (lamT_of X G T a l cc) hk (PySem.W.codeHd_of_K X hc)
end
end K04
namespace K04
open PySem PySem.Spec PyProof.Rows L2 PySem.W LamX KA KW KU
open PySem.HandSPX (refsVE)
theorem say_none {P : Program} {w : World} {fI cda cc : Addr} {qual f z : Str} {j : Nat} {pc pn pf pj : Pos} (hd : f ≠ "__debug__") (h1 : z.length ≤ sizeLine) (h2 : (z ++ ("None" : Str)).length ≤ sizeLine) :
    Text P w fI cda cc qual f (.JoinedStr [.Constant (.str z) j pc, .FormattedValue (.Name f pn) (-1) none pf] pj) .none :=
  text_of hd (fun _ _ _ _ k => wpAny_formatField_none (k _ _)) h1 h2
theorem say_text {P : Program} {w : World} {fI cda cc : Addr} {qual f z y : Str} {j : Nat} {pc pn pf pj : Pos} {t : Tok} (hd : f ≠ "__debug__") (h1 : z.length ≤ 1000) (h3 : y.length ≤ 1000) :
    Text P w fI cda cc qual f (.JoinedStr [.Constant (.str z) j pc, .FormattedValue (.Name f pn) (-1) none pf] pj) (.str y t) := by
  have e : (z ++ y).length = z.length + y.length := Array.size_append
  exact text_str hd (Nat.le_trans h1 (by decide)) (by rw [e]; exact Nat.le_trans (show _ ≤ 2000 by omega) (by decide)) (Nat.le_trans h3 (by decide))
theorem kit_false {K : PySem.W.Frag} {C : Addr} {t : String} {cd : ClassData} (c : PySem.W.clsIn K C = some cd) (ty : PySem.W.typeIn K (.ref C) = some (.type "type")) (s : PySem.W.subIn K (.type t) (.ref C) = some false) : PySem.W.kitOne K (.type t) (.ref C) = some false := by
  unfold PySem.W.kitOne
  rw [if_neg (by simp)]
  unfold PySem.W.kitCls
  dsimp only
  rw [c, ty, if_pos (by simp)]
  exact s
section
variable {P : Program} {w : World} {K : PySem.W.Frag} {mg : Str → Option Value} {h : Heap} {A : Prop}
theorem badshape_use {C fI cda cc B : Addr} {e : Expr} (X : K.In h) (G : h.Ns mainGlobals mg) (R : ReelT K mg) (eR : R.C = B)
    (a : PySem.W.nsIn K mainGlobals "BadShape" = some (some (.ref C))) (iC : PySem.W.findIn K (.ref C) "__init__" = some (some (.ref fI)))
    {oc : Value} {od : Option Addr} {doc pm : Value} {an : Option Addr} {ct : Value} {osl : Array (Option Value)} {r1 r2 p0 p1 p2 p3 pe q1 q2 q3 q4 : Pos}
    (lk : K.lookup fI = some ⟨oc, od, .func (ksFn "__init__" "BadShape.__init__" (upArgs "part" r1 r2) (upBody "part" e p0 p1 p2 p3 pe q1 q2 q3 q4) (upScope "part") .none .none doc pm an (.ref cda) ct cc), osl⟩)
    (bd : ∀ a b : Value, bindArgs (ksFn "__init__" "BadShape.__init__" (upArgs "part" r1 r2) (upBody "part" e p0 p1 p2 p3 pe q1 q2 q3 q4) (upScope "part") .none .none doc pm an (.ref cda) ct cc) ⟨[a, b], []⟩ = pure [(PySem.Str.ofString "self", a), (PySem.Str.ofString "part", b)])
    (sw : ∀ L : Addr, swapsWith (.Name "part" q3) (some (.Attribute (.Name "self" q1) "part" q2)) q4.line (ksEnv "BadShape.__init__" (upScope "part") L fI (.ref cda) cc) = pure false)
    {pl : Sem Bool}
    (cl : ∀ L : Addr, eval (.Call (.Attribute (.Call (.Name "super" p0) [] [] p1) "__init__" p2) [e] [] p3) (ksEnv "BadShape.__init__" (upScope "part") L fI (.ref cda) cc) = (do
        let o ← attributeBase (.Call (.Name "super" p0) [] [] p1) "__init__" (ksEnv "BadShape.__init__" (upScope "part") L fI (.ref cda) cc) (eval (.Call (.Name "super" p0) [] [] p1) (ksEnv "BadShape.__init__" (upScope "part") L fI (.ref cda) cc))
        standAt p2.atName
        let (g, first) ← holding [o] (getMethod o "__init__" pl)
        callWith p3 g first (backTo p3 (starEach [e] (ksEnv "BadShape.__init__" (upScope "part") L fI (.ref cda) cc))) []))
    (star : ∀ env : Env, starEach [e] env = [(false, eval e env)])
    (sayN : Text P w fI cda cc "BadShape.__init__" "part" e .none)
    (sayS : ∀ (y : Str) (t : Tok), y.length ≤ 1000 → Text P w fI cda cc "BadShape.__init__" "part" e (.str y t))
    (code : PySem.W.codeIn K (.ref cda) "BadShape.__init__" = true)
    {fcl : Value} {cdd : Option Addr} {vs : Array Value} {ccs : Array (Option Value)} {fl : Str} {tf : Tok}
    (f1 : K.lookup cda = some ⟨fcl, cdd, .fields vs, ccs⟩) (f2 : vs[2]? = some (.str fl tf)) (f3 : ((P.main.file : Str) == fl) = true)
    {ecl : Value} {cld : Option Addr} {csl : Array (Option Value)} (cell : K.lookup cc = some ⟨ecl, cld, .cell (some (.ref C)), csl⟩)
    {cd : ClassData} (c1 : PySem.W.clsIn K C = some cd) (c2 : refsVE cd.mro = true) (c3 : cd.hasDict = true)
    (self : PySem.W.mroIn K C (.ref C) = some true) (noSuper : PySem.W.nsIn K mainGlobals "super" = some none) (top : (P.main.scope.names.lookup ("super" : Str)).isSome = false) (third : PySem.W.nsIn K cStatics "thirdparty.any" = some none)
    (up : PySem.W.ks_superIn K C C "__init__" = some (some (.builtin "ValueError.__init__"))) (val : PySem.W.subIn K (.ref C) (.type "ValueError") = some true)
    (own : PySem.W.excInitIn K C [.type "ValueError", .type "Exception", .type "BaseException", .type "object"] "ValueError.__new__" = true)
    (set_ : PySem.W.findIn K (.ref C) "__setattr__" = some (some (.builtin "object.__setattr__"))) (noF : PySem.W.findIn K (.ref C) "part" = some none)
    {nm q : Str} {N : Addr} {bs bm : List Value} {sn : List Str} {sub : List Value} {ab : Bool} {col : Option Bool} {dd : Option Addr} {k0 k1 k2 k3 k5 : Option Value}
    (o1 : K.lookup C = some (excClassObj nm q C N bs bm true sn sub ab col dd k0 k1 k2 k3 k5 "ValueError.__new__")) (o2 : refsVE bm = true)
    (tC : PySem.W.typeIn K (.ref fI) = some (.type "function")) (ga : PySem.W.findIn K (.ref C) "__getattribute__" = some (some (.builtin "BaseException.__getattribute__"))) (gg : PySem.W.findIn K (.ref C) "__getattr__" = some none)
    (kC : PySem.W.keepIn K (.ref C) = true) (exC : PySem.W.subIn K (.ref C) (.type "BaseException") = some true) (tyC : PySem.W.typeIn K (.ref C) = some (.type "type")) (hdC : PySem.W.hasDictIn K C = true)
    (r : PySem.W.subIn K (.ref C) (.ref B) = some true)
    (e4 : PySem.W.findIn K (.ref C) "__class__" = some (some (.builtin "object.__class__"))) (e5 : PySem.W.specialIn K (.builtin "object.__class__") "__get__" = some (some (.builtin "getset_descriptor.__get__")))
    (e6 : PySem.W.takesIn K (.builtin "object.__class__") = some true) (e7 : PySem.W.mroIn K C (.type "object") = some true)
    (n : BadShapeT P w K mg R.C → A) : A := by
  rw [← eR] at r
  exact n { C := C, fI := fI, cda := cda, cc := cc, e := e, g := PySem.W.mg_of X G a, u := { fn := ⟨oc, od, doc, pm, an, ct, osl, r1, r2, p0, p1, p2, p3, pe, q1, q2, q3, q4, lk, bd, sw, pl, cl⟩, star := star, code := code, file := ⟨fcl, cdd, vs, ccs, fl, tf, f1, f2, f3⟩, cell := ⟨ecl, cld, csl, cell⟩, cls := ⟨cd, c1, c2, c3⟩, self := self, noSuper := noSuper, top := top, third := third, up := up, val := val, own := own, «set» := set_, noF := noF, obj := ⟨nm, q, N, bs, bm, sn, sub, ab, col, dd, k0, k1, k2, k3, k5, o1, o2⟩, iC := iC, tC := tC, ga := ga, gg := gg, kC := kC, exC := exC, tyC := tyC, hdC := hdC, nf := by decide }, r := r, x := ⟨ga, gg, exC, hdC, e4, e5, e6, e7⟩, sayN := sayN, sayS := sayS }
theorem shape_use {C f : Addr} (X : K.In h) (G : h.Ns mainGlobals mg) {oc : Value} {od : Option Addr} {kV dc pm : Value} {an : Option Addr} {cd ct : Value} {sl : Array (Option Value)}
    (a : PySem.W.nsIn K mainGlobals "Shape" = some (some (.ref C))) (init : PySem.W.findIn K (.ref C) "__init__" = some (some (.ref f)))
    (l : K.lookup f = some ⟨oc, od, .func (PySem.W.fnOf "__init__" "Shape.__init__" (defArgs s_Shape_init) (defBody s_Shape_init) (defScope s_Shape_init) .none kV dc pm an cd ct), sl⟩) (c : PySem.W.codeIn K cd "Shape.__init__" = true) (k : PySem.W.keepIn K (.ref f) = true)
    (makes : PySem.W.makesIn K C = true) (fn : PySem.W.isFn K (.ref f) = true) (kp : PySem.W.keepIn K (.ref C) = true) (pg : PySem.W.plainGet K C Str.empty = true) (hd : PySem.W.hasDictIn K C = true) (po : PySem.W.plainOver K C = true)
    (sa : PySem.W.findIn K (.ref C) "__setattr__" = some (some (.builtin "object.__setattr__"))) (ha : PySem.W.findIn K (.ref C) "__class__" = some (some (.builtin "object.__class__")))
    (hn : PySem.W.specialIn K (.builtin "object.__class__") "__get__" = some (some (.builtin "getset_descriptor.__get__"))) (htk : PySem.W.takesIn K (.builtin "object.__class__") = some true) (hm : PySem.W.mroIn K C (.type "object") = some true)
    (n1 : PySem.W.findIn K (.ref C) "height" = some none) (n2 : PySem.W.findIn K (.ref C) "width" = some none) (n3 : PySem.W.findIn K (.ref C) "low" = some none) (n4 : PySem.W.findIn K (.ref C) "high" = some none) (n5 : PySem.W.findIn K (.ref C) "middle" = some none)
    {cld : ClassData} (cl : PySem.W.clsIn K C = some cld) (ty : PySem.W.typeIn K (.ref C) = some (.type "type")) (sI : PySem.W.subIn K (.type "int") (.ref C) = some false) (sS : PySem.W.subIn K (.type "str") (.ref C) = some false) (sN : PySem.W.subIn K (.type "NoneType") (.ref C) = some false)
    (n : ShapeT K mg → A) : A :=
  n { C := C, f := f, d := _, F := fun_mk l c k, M := ⟨makes, init, fn, kp⟩, g := PySem.W.mg_of X G a, i := ⟨⟨pg, hd, po, sa⟩, ha, hn, htk, hm, kit_self⟩, n1 := n1, n2 := n2, n3 := n3, n4 := n4, n5 := n5, kI := kit_false cl ty sI, kS := kit_false cl ty sS, kN := kit_false cl ty sN }
theorem sz_use {f : Addr} {od : Option Addr} {t1 t2 t3 : Tok} {n : Nat} {sl : Array (Option Value)} (X : K.In h) (G : h.Ns mainGlobals mg) (a : PySem.W.nsIn K mainGlobals "SIZES" = some (some (.ref f)))
    (l : K.lookup f = some ⟨.type "tuple", od, .seq #[.int 8 t1, .int 4 t2, .int 2 t3] n, sl⟩) (k : SzT K mg → A) : A :=
  k { a := f, m := PySem.W.mg_of X G a, q := fun H => .inr ⟨_, #[.int 8 t1, .int 4 t2, .int 2 t3], n, l, rfl, rfl, (by show 3 ≤ sizeLine; decide), .cons ⟨t1, rfl⟩ (.cons ⟨t2, rfl⟩ (.cons ⟨t3, rfl⟩ .nil))⟩ }
end
end K04
open PySem PySem.W PyProof.Rows
set_option maxRecDepth 100000 in
set_option maxHeartbeats 0 in
theorem PySem.Challenge.cw_pricedreels_k04_blocks_cells_and_covers_holds : PySem.Challenge.rw_pricedreels_k04_blocks_cells_and_covers.Holds := by
  w_on; o_law; k_head; (case hw => w_witness2)
  k_fill
  refine KA.walk_ofG (l := PySem.Challenge.rw_pricedreels_k04_blocks_cells_and_covers) (k := 12) (n := 63) (x := "script") (CX := fun w => L2.CX PySem.Challenge.rw_pricedreels_k04_blocks_cells_and_covers.prog w) rfl (by decide) rfl ⟨rfl, by decide, by decide⟩ (fun w h Y => km_in_of Y) ?F (fun _ _ _ _ _ z => K04.calm_cx z)
  case F =>
    intro w mg fa h Y KX G hmg
    have tabs := km_tabs_of Y
    have one := tabs _ List.mem_cons_self
    have two := tabs _ (List.mem_cons_of_mem _ List.mem_cons_self)
    refine' K04.reel_use KX G ?ya ?yb ?yt ?yd ?_
    (case ya => k_is); (case yb => k_is); (case yt => k_is); (case yd => k_is)
    intro R eR
    refine' K04.badshape_use (P := (PySem.Challenge.rw_pricedreels_k04_blocks_cells_and_covers).prog) (w := w) KX G R eR ?ya ?yiC ?ylk ?ybd ?ysw ?ycl ?ystar ?ysayN ?ysayS ?ycode ?yf1 ?yf2 ?yf3 ?ycell ?yc1 ?yc2 ?yc3 ?yself ?ynoS ?ytop ?ythird ?yup ?yval ?yown ?yset ?ynoF ?yo1 ?yo2 ?ytC ?yga ?ygg ?ykC ?yexC ?ytyC ?yhdC ?yr ?ye4 ?ye5 ?ye6 ?ye7 ?_
    (case ya => k_is); (case yiC => k_is); (case ylk => k_is)
    (case ybd => intro a b; rfl)
    (case ysw => intro L; rfl)
    (case ycl => intro L; rfl)
    (case ystar => intro env; rfl)
    (case ysayN => exact K04.say_none (by decide) (by decide) (by decide))
    (case ysayS => intro y t hy; exact K04.say_text (by decide) (by decide) hy)
    (case ycode => k_is)
    (case yf1 => k_is); (case yf2 => rfl); (case yf3 => decide +kernel)
    (case ycell => k_is); (case yc1 => k_is); (case yc2 => decide +kernel); (case yc3 => rfl)
    (case yself => k_is); (case ynoS => k_is); (case ytop => kernel_rfl); (case ythird => k_is)
    (case yup => ks_is); (case yval => k_is); (case yown => kx_is); (case yset => k_is); (case ynoF => k_is)
    (case yo1 => k_is); (case yo2 => decide +kernel)
    (case ytC => k_is); (case yga => k_is); (case ygg => k_is); (case ykC => k_is); (case yexC => k_is); (case ytyC => k_is); (case yhdC => k_is); (case yr => k_is); (case ye4 => k_is); (case ye5 => k_is); (case ye6 => k_is); (case ye7 => k_is)
    intro BE
    refine' K04.shape_use KX G ?ya ?yin ?yl ?yc ?yk ?ymk ?yfn ?ykp ?ypg ?yhd ?ypo ?ysa ?yha ?yhn ?yht ?yhm ?yn1 ?yn2 ?yn3 ?yn4 ?yn5 ?ycl ?yty ?ysI ?ysS ?ysN ?_
    (case ya => k_is); (case yin => k_is); (case yl => k_is)
    (case yc => k_is); (case yk => k_is); (case ymk => k_is); (case yfn => k_is); (case ykp => k_is); (case ypg => k_is); (case yhd => k_is); (case ypo => k_is); (case ysa => k_is); (case yha => k_is); (case yhn => k_is); (case yht => k_is); (case yhm => k_is); (case yn1 => k_is); (case yn2 => k_is); (case yn3 => k_is); (case yn4 => k_is); (case yn5 => k_is); (case ycl => k_is); (case yty => k_is); (case ysI => k_is); (case ysS => k_is); (case ysN => k_is)
    intro SH
    refine' K04.exc_use (x := "BadBlock") KX G R eR ?ya ?yq ?yk ?yb ?yt ?yr ?ye1 ?ye2 ?ye3 ?ye4 ?ye5 ?ye6 ?ye7 ?_
    (case ya => k_is); (case yq => k_exc); (case yk => k_is); (case yb => k_is); (case yt => k_is); (case yr => k_is); (case ye1 => k_is); (case ye2 => k_is); (case ye3 => k_is); (case ye4 => k_is); (case ye5 => k_is); (case ye6 => k_is); (case ye7 => k_is)
    intro BadBlock
    refine' K04.exc_use (x := "BadPlace") KX G R eR ?ya ?yq ?yk ?yb ?yt ?yr ?ye1 ?ye2 ?ye3 ?ye4 ?ye5 ?ye6 ?ye7 ?_
    (case ya => k_is); (case yq => k_exc); (case yk => k_is); (case yb => k_is); (case yt => k_is); (case yr => k_is); (case ye1 => k_is); (case ye2 => k_is); (case ye3 => k_is); (case ye4 => k_is); (case ye5 => k_is); (case ye6 => k_is); (case ye7 => k_is)
    intro BadPlace
    refine' K04.def_use (x := "is_number") (st := K04.s_is_number) KX G ?ya ?yl ?yc ?yk ?_
    (case ya => k_is); (case yl => k_is); (case yc => k_is); (case yk => k_is)
    intro f_is_number
    refine' K04.def_use (x := "is_within") (st := K04.s_is_within) KX G ?ya ?yl ?yc ?yk ?_
    (case ya => k_is); (case yl => k_is); (case yc => k_is); (case yk => k_is)
    intro f_is_within
    refine' K04.def_use (x := "is_tuple_of") (st := K04.s_is_tuple_of) KX G ?ya ?yl ?yc ?yk ?_
    (case ya => k_is); (case yl => k_is); (case yc => k_is); (case yk => k_is)
    intro f_is_tuple_of
    refine' K04.def_use (x := "is_block") (st := K04.s_is_block) KX G ?ya ?yl ?yc ?yk ?_
    (case ya => k_is); (case yl => k_is); (case yc => k_is); (case yk => k_is)
    intro f_is_block
    refine' K04.def_use (x := "spots") (st := K04.s_spots) KX G ?ya ?yl ?yc ?yk ?_
    (case ya => k_is); (case yl => k_is); (case yc => k_is); (case yk => k_is)
    intro f_spots
    refine' K04.def_use (x := "roots") (st := K04.s_roots) KX G ?ya ?yl ?yc ?yk ?_
    (case ya => k_is); (case yl => k_is); (case yc => k_is); (case yk => k_is)
    intro f_roots
    refine' K04.def_use (x := "cells") (st := K04.s_cells) KX G ?ya ?yl ?yc ?yk ?_
    (case ya => k_is); (case yl => k_is); (case yc => k_is); (case yk => k_is)
    intro f_cells
    refine' K04.def_use (x := "quarters") (st := K04.s_quarters) KX G ?ya ?yl ?yc ?yk ?_
    (case ya => k_is); (case yl => k_is); (case yc => k_is); (case yk => k_is)
    intro f_quarters
    refine' K04.def_use (x := "place_of") (st := K04.s_place_of) KX G ?ya ?yl ?yc ?yk ?_
    (case ya => k_is); (case yl => k_is); (case yc => k_is); (case yk => k_is)
    intro f_place_of
    refine' K04.def_use (x := "blocks_at") (st := K04.s_blocks_at) KX G ?ya ?yl ?yc ?yk ?_
    (case ya => k_is); (case yl => k_is); (case yc => k_is); (case yk => k_is)
    intro f_blocks_at
    refine' K04.def_use (x := "is_cover") (st := K04.s_is_cover) KX G ?ya ?yl ?yc ?yk ?_
    (case ya => k_is); (case yl => k_is); (case yc => k_is); (case yk => k_is)
    intro f_is_cover
    refine' K04.def_use (x := "many_covers") (st := K04.s_many_covers) KX G ?ya ?yl ?yc ?yk ?_
    (case ya => k_is); (case yl => k_is); (case yc => k_is); (case yk => k_is)
    intro f_many_covers
    refine' K04.def_use (x := "check_shape") (st := K04.s_check_shape) KX G ?ya ?yl ?yc ?yk ?_
    (case ya => k_is); (case yl => k_is); (case yc => k_is); (case yk => k_is)
    intro f_check_shape
    refine' K04.def_use (x := "check_block") (st := K04.s_check_block) KX G ?ya ?yl ?yc ?yk ?_
    (case ya => k_is); (case yl => k_is); (case yc => k_is); (case yk => k_is)
    intro f_check_block
    refine' K04.def_use (x := "is_block_of") (st := K04.s_is_block_of) KX G ?ya ?yl ?yc ?yk ?_
    (case ya => k_is); (case yl => k_is); (case yc => k_is); (case yk => k_is)
    intro f_is_block_of
    refine' K04.def_use (x := "rows_of") (st := K04.s_rows_of) KX G ?ya ?yl ?yc ?yk ?_
    (case ya => k_is); (case yl => k_is); (case yc => k_is); (case yk => k_is)
    intro f_rows_of
    refine' K04.def_use (x := "columns_of") (st := K04.s_columns_of) KX G ?ya ?yl ?yc ?yk ?_
    (case ya => k_is); (case yl => k_is); (case yc => k_is); (case yk => k_is)
    intro f_columns_of
    refine' K04.def_use (x := "spots_of") (st := K04.s_spots_of) KX G ?ya ?yl ?yc ?yk ?_
    (case ya => k_is); (case yl => k_is); (case yc => k_is); (case yk => k_is)
    intro f_spots_of
    refine' K04.def_use (x := "roots_of") (st := K04.s_roots_of) KX G ?ya ?yl ?yc ?yk ?_
    (case ya => k_is); (case yl => k_is); (case yc => k_is); (case yk => k_is)
    intro f_roots_of
    refine' K04.def_use (x := "quarters_of") (st := K04.s_quarters_of) KX G ?ya ?yl ?yc ?yk ?_
    (case ya => k_is); (case yl => k_is); (case yc => k_is); (case yk => k_is)
    intro f_quarters_of
    refine' K04.def_use (x := "cells_in") (st := K04.s_cells_in) KX G ?ya ?yl ?yc ?yk ?_
    (case ya => k_is); (case yl => k_is); (case yc => k_is); (case yk => k_is)
    intro f_cells_in
    refine' K04.def_use (x := "cells_of") (st := K04.s_cells_of) KX G ?ya ?yl ?yc ?yk ?_
    (case ya => k_is); (case yl => k_is); (case yc => k_is); (case yk => k_is)
    intro f_cells_of
    refine' K04.def_use (x := "many_cells") (st := K04.s_many_cells) KX G ?ya ?yl ?yc ?yk ?_
    (case ya => k_is); (case yl => k_is); (case yc => k_is); (case yk => k_is)
    intro f_many_cells
    refine' K04.def_use (x := "place_and_end") (st := K04.s_place_and_end) KX G ?ya ?yl ?yc ?yk ?_
    (case ya => k_is); (case yl => k_is); (case yc => k_is); (case yk => k_is)
    intro f_place_and_end
    refine' K04.def_use (x := "sizes_at") (st := K04.s_sizes_at) KX G ?ya ?yl ?yc ?yk ?_
    (case ya => k_is); (case yl => k_is); (case yc => k_is); (case yk => k_is)
    intro f_sizes_at
    refine' K04.def_use (x := "are_cover") (st := K04.s_are_cover) KX G ?ya ?yl ?yc ?yk ?_
    (case ya => k_is); (case yl => k_is); (case yc => k_is); (case yk => k_is)
    intro f_are_cover
    refine' K04.def_use (x := "many_together") (st := K04.s_many_together) KX G ?ya ?yl ?yc ?yk ?_
    (case ya => k_is); (case yl => k_is); (case yc => k_is); (case yk => k_is)
    intro f_many_together
    refine' K04.def_use (x := "_law_begun") (st := K04.s__law_begun) KX G ?ya ?yl ?yc ?yk ?_
    (case ya => k_is); (case yl => k_is); (case yc => k_is); (case yk => k_is)
    intro f__law_begun
    refine' K04.def_use (x := "_law_draw") (st := K04.s__law_draw) KX G ?ya ?yl ?yc ?yk ?_
    (case ya => k_is); (case yl => k_is); (case yc => k_is); (case yk => k_is)
    intro f__law_draw
    refine' K04.def_use (x := "_law_pick") (st := K04.s__law_pick) KX G ?ya ?yl ?yc ?yk ?_
    (case ya => k_is); (case yl => k_is); (case yc => k_is); (case yk => k_is)
    intro f__law_pick
    refine' K04.def_use (x := "_law_mixed") (st := K04.s__law_mixed) KX G ?ya ?yl ?yc ?yk ?_
    (case ya => k_is); (case yl => k_is); (case yc => k_is); (case yk => k_is)
    intro f__law_mixed
    refine' K04.def_use (x := "_law_caught") (st := K04.s__law_caught) KX G ?ya ?yl ?yc ?yk ?_
    (case ya => k_is); (case yl => k_is); (case yc => k_is); (case yk => k_is)
    intro f__law_caught
    refine' K04.def_use (x := "_law_scope") (st := K04.s__law_scope) KX G ?ya ?yl ?yc ?yk ?_
    (case ya => k_is); (case yl => k_is); (case yc => k_is); (case yk => k_is)
    intro f__law_scope
    refine' K04.def_use (x := "_law_form") (st := K04.s__law_form) KX G ?ya ?yl ?yc ?yk ?_
    (case ya => k_is); (case yl => k_is); (case yc => k_is); (case yk => k_is)
    intro f__law_form
    refine' K04.def_use (x := "_law_roots") (st := K04.s__law_roots) KX G ?ya ?yl ?yc ?yk ?_
    (case ya => k_is); (case yl => k_is); (case yc => k_is); (case yk => k_is)
    intro f__law_roots
    refine' K04.def_use (x := "_law_parts") (st := K04.s__law_parts) KX G ?ya ?yl ?yc ?yk ?_
    (case ya => k_is); (case yl => k_is); (case yc => k_is); (case yk => k_is)
    intro f__law_parts
    refine' K04.def_use (x := "_law_cells") (st := K04.s__law_cells) KX G ?ya ?yl ?yc ?yk ?_
    (case ya => k_is); (case yl => k_is); (case yc => k_is); (case yk => k_is)
    intro f__law_cells
    refine' K04.def_use (x := "_law_all_cells") (st := K04.s__law_all_cells) KX G ?ya ?yl ?yc ?yk ?_
    (case ya => k_is); (case yl => k_is); (case yc => k_is); (case yk => k_is)
    intro f__law_all_cells
    refine' K04.def_use (x := "_law_ends") (st := K04.s__law_ends) KX G ?ya ?yl ?yc ?yk ?_
    (case ya => k_is); (case yl => k_is); (case yc => k_is); (case yk => k_is)
    intro f__law_ends
    refine' K04.def_use (x := "_law_dots") (st := K04.s__law_dots) KX G ?ya ?yl ?yc ?yk ?_
    (case ya => k_is); (case yl => k_is); (case yc => k_is); (case yk => k_is)
    intro f__law_dots
    refine' K04.def_use (x := "_law_squares") (st := K04.s__law_squares) KX G ?ya ?yl ?yc ?yk ?_
    (case ya => k_is); (case yl => k_is); (case yc => k_is); (case yk => k_is)
    intro f__law_squares
    refine' K04.def_use (x := "_law_cover") (st := K04.s__law_cover) KX G ?ya ?yl ?yc ?yk ?_
    (case ya => k_is); (case yl => k_is); (case yc => k_is); (case yk => k_is)
    intro f__law_cover
    refine' K04.def_use (x := "_law_wide_scope") (st := K04.s__law_wide_scope) KX G ?ya ?yl ?yc ?yk ?_
    (case ya => k_is); (case yl => k_is); (case yc => k_is); (case yk => k_is)
    intro f__law_wide_scope
    refine' K04.def_use (x := "_law_count") (st := K04.s__law_count) KX G ?ya ?yl ?yc ?yk ?_
    (case ya => k_is); (case yl => k_is); (case yc => k_is); (case yk => k_is)
    intro f__law_count
    refine' K04.def_use (x := "_law_covers") (st := K04.s__law_covers) KX G ?ya ?yl ?yc ?yk ?_
    (case ya => k_is); (case yl => k_is); (case yc => k_is); (case yk => k_is)
    intro f__law_covers
    refine' K04.def_use (x := "_law_bent") (st := K04.s__law_bent) KX G ?ya ?yl ?yc ?yk ?_
    (case ya => k_is); (case yl => k_is); (case yc => k_is); (case yk => k_is)
    intro f__law_bent
    refine' K04.def_use (x := "_law_is_square") (st := K04.s__law_is_square) KX G ?ya ?yl ?yc ?yk ?_
    (case ya => k_is); (case yl => k_is); (case yc => k_is); (case yk => k_is)
    intro f__law_is_square
    refine' K04.def_use (x := "_law_square_right") (st := K04.s__law_square_right) KX G ?ya ?yl ?yc ?yk ?_
    (case ya => k_is); (case yl => k_is); (case yc => k_is); (case yk => k_is)
    intro f__law_square_right
    refine' K04.def_use (x := "_law_refused") (st := K04.s__law_refused) KX G ?ya ?yl ?yc ?yk ?_
    (case ya => k_is); (case yl => k_is); (case yc => k_is); (case yk => k_is)
    intro f__law_refused
    refine' K04.def_use (x := "law") (st := K04.s_law) KX G ?ya ?yl ?yc ?yk ?_
    (case ya => k_is); (case yl => k_is); (case yc => k_is); (case yk => k_is)
    intro f_law
    refine' K04.lam_use KX G f__law_refused one ?ya ?yl ?yc ?yh ?yj ?_
    (case ya => k_is); (case yl => k_is); (case yc => k_is); (case yh => kernel_rfl); (case yj => kernel_rfl)
    intro LT noT hd
    refine' K04.lam_use KX G f_law two ?ya ?yl ?yc ?yh ?yj ?_
    (case ya => k_is); (case yl => k_is); (case yc => k_is); (case yh => kernel_rfl); (case yj => kernel_rfl)
    intro LT2 noT2 hd2
    refine' K04.sz_use KX G ?ya ?yl ?_
    (case ya => k_is); (case yl => k_is)
    intro Z
    have cLOWEST := K04.cstT_of (x := "LOWEST") (n := -512) KX G (by k_is)
    have cHIGHEST := K04.cstT_of (x := "HIGHEST") (n := 511) KX G (by k_is)
    have cMOST_SPOTS := K04.cstT_of (x := "MOST_SPOTS") (n := 16) KX G (by k_is)
    have b_isinstance := PySem.W.mg_none_of (n := "isinstance") KX G (by k_is)
    have b_int := PySem.W.mg_none_of (n := "int") KX G (by k_is)
    have b_bool := PySem.W.mg_none_of (n := "bool") KX G (by k_is)
    have b_len := PySem.W.mg_none_of (n := "len") KX G (by k_is)
    have b_abs := PySem.W.mg_none_of (n := "abs") KX G (by k_is)
    have b_range := PySem.W.mg_none_of (n := "range") KX G (by k_is)
    have b_min := PySem.W.mg_none_of (n := "min") KX G (by k_is)
    have b_repr := PySem.W.mg_none_of (n := "repr") KX G (by k_is)
    have b_list := PySem.W.mg_none_of (n := "list") KX G (by k_is)
    have b_tuple := PySem.W.mg_none_of (n := "tuple") KX G (by k_is)
    have b_sorted := PySem.W.mg_none_of (n := "sorted") KX G (by k_is)
    have b_ValueError := PySem.W.mg_none_of (n := "ValueError") KX G (by k_is)
    exact K04.law_at (Pt := _) (Pt2 := _) { reel := R, BadBlock := BadBlock, BadPlace := BadPlace, is_number := f_is_number, is_within := f_is_within, is_tuple_of := f_is_tuple_of, is_block := f_is_block, spots := f_spots, roots := f_roots, cells := f_cells, quarters := f_quarters, place_of := f_place_of, blocks_at := f_blocks_at, is_cover := f_is_cover, many_covers := f_many_covers, check_shape := f_check_shape, check_block := f_check_block, is_block_of := f_is_block_of, rows_of := f_rows_of, columns_of := f_columns_of, spots_of := f_spots_of, roots_of := f_roots_of, quarters_of := f_quarters_of, cells_in := f_cells_in, cells_of := f_cells_of, many_cells := f_many_cells, place_and_end := f_place_and_end, sizes_at := f_sizes_at, are_cover := f_are_cover, many_together := f_many_together, _law_begun := f__law_begun, _law_draw := f__law_draw, _law_pick := f__law_pick, _law_mixed := f__law_mixed, _law_caught := f__law_caught, _law_scope := f__law_scope, _law_form := f__law_form, _law_roots := f__law_roots, _law_parts := f__law_parts, _law_cells := f__law_cells, _law_all_cells := f__law_all_cells, _law_ends := f__law_ends, _law_dots := f__law_dots, _law_squares := f__law_squares, _law_cover := f__law_cover, _law_wide_scope := f__law_wide_scope, _law_count := f__law_count, _law_covers := f__law_covers, _law_bent := f__law_bent, _law_is_square := f__law_is_square, _law_square_right := f__law_square_right, _law_refused := f__law_refused, law := f_law, cLOWEST := cLOWEST, cHIGHEST := cHIGHEST, cMOST_SPOTS := cMOST_SPOTS, b_isinstance := b_isinstance, b_int := b_int, b_bool := b_bool, b_len := b_len, b_abs := b_abs, b_range := b_range, b_min := b_min, b_repr := b_repr, b_list := b_list, b_tuple := b_tuple, b_sorted := b_sorted, b_ValueError := b_ValueError } SH BE Z hmg (by decide) LT one noT hd LT2 two noT2 hd2
