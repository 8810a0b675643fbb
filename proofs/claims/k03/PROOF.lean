import PyProof.Rows.All
import Wide.All
import OpenK.AllK
import Wide.FinOn
import Lean
import PyProof.EqAt
import PyProof.EqKinds
import PyProof.TupleCall
import PyProof.Rows.SortKey
import PyProof.Rows.SortRuns
import PyProof.Rows.SortShellK
import PySem.Challenge.RW_lategone_k03_taken
set_option Elab.async false
section
set_option linter.all false
set_option maxRecDepth 100000
set_option maxHeartbeats 4000000
namespace TS
open PySem PyProof.Rows
def gal : Bool → Keyed → Array Keyed → Nat → Nat → Nat → StateT SortSt Sem (Option Nat) := sortPriv% PySem.Builtin.gallop
def mLo : Array Keyed → Array Keyed → StateT SortSt Sem (Array Keyed) := sortPriv% PySem.Builtin.mergeLo
def mHi : Array Keyed → Array Keyed → StateT SortSt Sem (Array Keyed) := sortPriv% PySem.Builtin.mergeHi
def setG : Nat → StateT SortSt Sem Unit := sortPriv% PySem.Builtin.setMinGallop
def kf (κ : KeyKind) (p : Keyed) : κ.α := (κ.keyOf p.1).getD κ.dflt
def Lb (κ : KeyKind) (p q : Keyed) : Bool := κ.blt (kf κ p) (kf κ q)
def Le (κ : KeyKind) (p q : Keyed) : Prop := Lb κ q p = false
section ord
variable {κ : KeyKind} {p q r : Keyed}
theorem Le.refl (p : Keyed) : Le κ p p := κ.irrefl _
theorem Le.trans (h : Le κ p q) (h' : Le κ q r) : Le κ p r := KeyOrd.kle_trans (O := κ.toKeyOrd) h h'
theorem Le.of_lt (h : Lb κ p q = true) : Le κ p q := KeyOrd.kle_of_klt (O := κ.toKeyOrd) h
theorem le_lt (h : Le κ p q) (h' : Lb κ q r = true) : Lb κ p r = true := KeyOrd.klt_of_kle_of_klt (O := κ.toKeyOrd) h h'
end ord
structure Cmp (prog : Program) (w : World) (A : Around) (s : Shared) (κ : KeyKind) (kd : SortKind) (a₀ : Array Keyed) : Prop where
  on : ∀ x y : Keyed, x ∈ a₀.toList → y ∈ a₀.toList → ∀ (E : Value → Shared → Prop) (Q : Bool → Shared → Prop), Q (Lb κ x y) s → wpAny (model prog w) A (keyLt' kd x.1 y.1) Q E s
structure SB (kd : SortKind) (a₀ : Array Keyed) (st : SortSt) : Prop where
  perm : (arrOf st).Perm a₀
  kind : kindOf st = kd
  fail : failedOf st = none
theorem kk_of {κ : KeyKind} {xs : Array Keyed} {i : Nat} {p : Keyed} (h : xs[i]? = some p) : KK κ xs i = kf κ p := by
  unfold KK; rw [h]; rfl
section
variable {kd : SortKind} {a₀ : Array Keyed} {st : SortSt} {κ : KeyKind}
theorem SB.size (B : SB kd a₀ st) : (arrOf st).size = a₀.size := B.perm.size_eq
theorem SB.at (B : SB kd a₀ st) {i : Nat} (h : i < a₀.size) : ∃ p, (arrOf st)[i]? = some p ∧ p ∈ a₀.toList ∧ KK κ (arrOf st) i = kf κ p := by
  have h' : i < (arrOf st).size := by rw [B.size]; exact h
  have e : (arrOf st)[i]? = some (arrOf st)[i] := getElem?_pos _ i h'
  exact ⟨_, e, (Array.perm_iff_toList_perm.mp B.perm).mem_iff.mp (by simp), kk_of e⟩
theorem SB.arr (B : SB kd a₀ st) {xs : Array Keyed} (h : xs.Perm (arrOf st)) : SB kd a₀ (setArr st xs) := ⟨h.trans B.perm, B.kind, B.fail⟩
end
section
variable {prog : Program} {w : World} {A : Around} {E : Value → Shared → Prop} {s : Shared} {κ : KeyKind} {kd : SortKind} {a₀ : Array Keyed} {st : SortSt}
theorem s_elem {arr : Array Keyed} {i : Nat} {p : Keyed} {Q : Keyed → SortSt → Prop} (h : arr[i]? = some p) (q : Q p st) : wpS (model prog w) A E s (elem' arr i) Q st := by
  rw [elem'_eq, h]; exact wpS_pure q
theorem s_lt (C : Cmp prog w A s κ kd a₀) {x y : Keyed} {Q : Option Bool → SortSt → Prop} (hx : x ∈ a₀.toList) (hy : y ∈ a₀.toList) (hk : kindOf st = kd) (q : Q (some (Lb κ x y)) st) :
    wpS (model prog w) A E s (lt' x y) Q st := by
  rw [lt'_eq]
  refine wpS_bind (wpS_get ?_)
  rw [hk]
  refine wpS_bind (wpS_lift (wpAny_attempt (C.on x y hx hy _ _ ⟨rfl, ?_⟩)))
  exact wpS_pure q
theorem s_ltAt (C : Cmp prog w A s κ kd a₀) (B : SB kd a₀ st) {i j : Nat} {Q : Option Bool → SortSt → Prop} (hi : i < a₀.size) (hj : j < a₀.size)
    (q : Q (some (κ.blt (KK κ (arrOf st) i) (KK κ (arrOf st) j))) st) : wpS (model prog w) A E s (ltAt' i j) Q st := by
  obtain ⟨x, ex, mx, kx⟩ := B.at (κ := κ) hi
  obtain ⟨y, ey, my, ky⟩ := B.at (κ := κ) hj
  rw [ltAt'_eq]
  refine wpS_bind (wpS_get ?_)
  show wpS _ _ _ _ (do let x ← elem' (arrOf st) i; let y ← elem' (arrOf st) j; lt' x y) Q st
  refine wpS_bind (s_elem ex (wpS_bind (s_elem ey (s_lt C mx my B.kind ?_))))
  rw [kx, ky] at q; exact q
def Up (κ : KeyKind) (xs : Array Keyed) (lo n : Nat) : Prop := ∀ i j, lo ≤ i → i ≤ j → j < lo + n → κ.kle (KK κ xs i) (KK κ xs j)
def Dn (κ : KeyKind) (xs : Array Keyed) (lo n : Nat) : Prop := ∀ i j, lo ≤ i → i ≤ j → j < lo + n → κ.kle (KK κ xs j) (KK κ xs i)
def Kp (lo : Nat) (xs ys : Array Keyed) : Prop := ∀ k, k < lo → xs[k]? = ys[k]?
theorem Kp.trans {lo : Nat} {x y z : Array Keyed} (a : Kp lo x y) (b : Kp lo y z) : Kp lo x z := fun k h => (a k h).trans (b k h)
theorem Kp.refl {lo : Nat} {x : Array Keyed} : Kp lo x x := fun _ _ => rfl
theorem kp_mirror {xs : Array Keyed} {lo i j : Nat} (hj : j ≤ xs.size) (hl : lo ≤ i) : Kp lo (mirror xs i j ((j - i) / 2)) xs := fun k h => by
  rw [getElem?_mirror_all hj, if_neg (by omega)]
theorem kp_bubble {xs : Array Keyed} {lo src d : Nat} (hs : src < xs.size) (hd : d ≤ src) (hl : lo ≤ src - d) : Kp lo (bubble xs src d) xs := fun k h => by
  rw [getElem?_bubble hs d hd, if_neg (by omega), if_neg (by omega)]
theorem up_one {xs : Array Keyed} {lo : Nat} : Up κ xs lo 1 := fun i j a b c => by
  have e : i = j := by omega
  subst e; exact KeyOrd.kle_refl _
theorem Up.snoc {xs : Array Keyed} {lo n : Nat} (h : Up κ xs lo n) (h1 : 1 ≤ n) (h2 : κ.blt (KK κ xs (lo + n)) (KK κ xs (lo + n - 1)) = false) : Up κ xs lo (n + 1) := fun i j a b c => by
  by_cases hj : j < lo + n
  · exact h i j a b hj
  · have e : j = lo + n := by omega
    subst e
    by_cases hi : i = lo + n
    · subst hi; exact KeyOrd.kle_refl _
    · exact KeyOrd.kle_trans (h i (lo + n - 1) a (by omega) (by omega)) h2
theorem Dn.snoc {xs : Array Keyed} {lo n : Nat} (h : Dn κ xs lo n) (h1 : 1 ≤ n) (h2 : κ.kle (KK κ xs (lo + n)) (KK κ xs (lo + n - 1))) : Dn κ xs lo (n + 1) := fun i j a b c => by
  by_cases hj : j < lo + n
  · exact h i j a b hj
  · have e : j = lo + n := by omega
    subst e
    by_cases hi : i = lo + n
    · subst hi; exact KeyOrd.kle_refl _
    · exact KeyOrd.kle_trans h2 (h i (lo + n - 1) a (by omega) (by omega))
theorem Dn.same {xs ys : Array Keyed} {lo n : Nat} (h : Dn κ xs lo n) (e : ∀ k, KK κ ys k = KK κ xs k) : Dn κ ys lo n := fun i j a b c => by rw [e, e]; exact h i j a b c
theorem Dn.turn {xs : Array Keyed} {lo n : Nat} (h : Dn κ xs lo n) (hs : lo + n ≤ xs.size) : Up κ (mirror xs lo (lo + n) ((lo + n - lo) / 2)) lo n := fun i j a b c => by
  rw [KK_mirror hs, KK_mirror hs, if_pos (by omega), if_pos (by omega)]
  exact h _ _ (by omega) (by omega) (by omega)
def Run (κ : KeyKind) (kd : SortKind) (a₀ : Array Keyed) (lo nrem : Nat) (st₀ : SortSt) (m : Nat) (st : SortSt) : Prop :=
  SB kd a₀ st ∧ pendingOf st = pendingOf st₀ ∧ Kp lo (arrOf st) (arrOf st₀) ∧ 1 ≤ m ∧ m ≤ nrem ∧ Up κ (arrOf st) lo m
theorem s_reverse {i j : Nat} {Q : Unit → SortSt → Prop} (h : Q () (setArr st (mirror (arrOf st) i j ((j - i) / 2)))) : wpS (model prog w) A E s (reverseSlice' i j) Q st := by
  rw [reverseSlice'_eq]; exact wpS_modify h
abbrev C2 := Option (Option Nat) × Nat
abbrev C3 := Option (Option Nat) × Nat × Nat
def clb (lo n nrem : Nat) : StateT SortSt Sem C2 :=
  forIn [n:nrem] ((none, n) : C2) fun _ c => ltAt' (lo + c.2) (lo + c.2 - 1) >>= fun x => match x with
    | some b => if b = true then pure (ForInStep.done (none, c.2)) else pure (ForInStep.yield (none, c.2 + 1))
    | _ => pure (ForInStep.done (some none, c.2))
def trn (lo m nrem : Nat) : StateT SortSt Sem (Option Nat) :=
  reverseSlice' lo (lo + m) >>= fun _ => clb lo m nrem >>= fun d => match d.1 with
    | some r => pure r
    | none => pure (some d.2)
def fll (lo n nrem : Nat) : StateT SortSt Sem C3 :=
  forIn [n:nrem] ((none, n, 0) : C3) fun _ c => ltAt' (lo + c.2.1) (lo + c.2.1 - 1) >>= fun x => match x with
    | some b => if b = true then
          if c.2.2 > 0 then reverseSlice' (lo + c.2.1 - (c.2.2 + 1)) (lo + c.2.1) >>= fun _ => pure (ForInStep.yield (none, c.2.1 + 1, 0))
          else pure (ForInStep.yield (none, c.2.1 + 1, 0))
        else ltAt' (lo + c.2.1 - 1) (lo + c.2.1) >>= fun y => match y with
          | some b' => if b' = true then pure (ForInStep.done (none, c.2.1, c.2.2)) else pure (ForInStep.yield (none, c.2.1 + 1, c.2.2 + 1))
          | _ => pure (ForInStep.done (some none, c.2.1, c.2.2))
    | _ => pure (ForInStep.done (some none, c.2.1, c.2.2))
def fpt (lo n nrem : Nat) : StateT SortSt Sem (Option Nat) :=
  liftM (rule "list.sort.descending-run") >>= fun _ => fll lo (n + 1) nrem >>= fun c => match c.1 with
    | some r => pure r
    | none => if c.2.2 > 0 then reverseSlice' (lo + c.2.1 - (c.2.2 + 1)) (lo + c.2.1) >>= fun _ => trn lo c.2.1 nrem else trn lo c.2.1 nrem
theorem cnt_eq (lo nrem : Nat) : countRun' lo nrem = clb lo 1 nrem >>= fun c => match c.1 with
    | some r => pure r
    | none => if (c.2 == nrem) = true then pure (some c.2) else
        if c.2 > 1 then ltAt' lo (lo + c.2 - 1) >>= fun x => match x with
          | some b => if b = true then pure (some c.2) else reverseSlice' lo (lo + c.2) >>= fun _ => fpt lo c.2 nrem
          | _ => pure none
        else fpt lo c.2 nrem := by
  have leaf : ∀ n, (liftM (rule "list.sort.descending-run") >>= fun _ => forIn [n + 1:nrem] ((none, n + 1, 0) : C3) (fun _ c => ltAt' (lo + c.2.1) (lo + c.2.1 - 1) >>= fun x => match x with
    | some b => if b = true then
          if c.2.2 > 0 then reverseSlice' (lo + c.2.1 - (c.2.2 + 1)) (lo + c.2.1) >>= fun _ => pure (ForInStep.yield (none, c.2.1 + 1, 0))
          else pure (ForInStep.yield (none, c.2.1 + 1, 0))
        else ltAt' (lo + c.2.1 - 1) (lo + c.2.1) >>= fun y => match y with
          | some b' => if b' = true then pure (ForInStep.done (none, c.2.1, c.2.2)) else pure (ForInStep.yield (none, c.2.1 + 1, c.2.2 + 1))
          | _ => pure (ForInStep.done (some none, c.2.1, c.2.2))
    | _ => pure (ForInStep.done (some none, c.2.1, c.2.2))) >>= fun c => match c.1 with
    | some r => pure r
    | none => if c.2.2 > 0 then reverseSlice' (lo + c.2.1 - (c.2.2 + 1)) (lo + c.2.1) >>= fun _ => trn lo c.2.1 nrem else trn lo c.2.1 nrem) = fpt lo n nrem := fun n => rfl
  rw [countRun'_eq]
  dsimp only
  unfold clb
  congr 1
  funext c
  obtain ⟨r, n⟩ := c
  cases r with
  | some r => rfl
  | none =>
    dsimp only
    split
    · rfl
    · split
      · congr 1
        funext x
        cases x with
        | none => rfl
        | some b =>
          dsimp only
          split
          · rfl
          · congr 1
            funext _
            rw [← leaf n]
            congr 1; funext _; congr 1; funext c; obtain ⟨r, m, q⟩ := c
            cases r with
            | some r => rfl
            | none =>
              dsimp only
              unfold trn clb
              split
              · congr 1; funext _; congr 1; funext _; congr 1; funext d; obtain ⟨r, m⟩ := d; cases r <;> rfl
              · congr 1; funext _; congr 1; funext d; obtain ⟨r, m⟩ := d; cases r <;> rfl
      · rw [← leaf n]
        congr 1; funext _; congr 1; funext c; obtain ⟨r, m, q⟩ := c
        cases r with
        | some r => rfl
        | none =>
          dsimp only
          unfold trn clb
          split
          · congr 1; funext _; congr 1; funext _; congr 1; funext d; obtain ⟨r, m⟩ := d; cases r <;> rfl
          · congr 1; funext _; congr 1; funext d; obtain ⟨r, m⟩ := d; cases r <;> rfl
theorem s_clb (C : Cmp prog w A s κ kd a₀) (B : SB kd a₀ st) {lo n nrem : Nat} {Q : C2 → SortSt → Prop} (hn : lo + nrem = a₀.size) (h1 : 1 ≤ n) (h2 : n ≤ nrem) (u : Up κ (arrOf st) lo n)
    (k : ∀ m, n ≤ m → m ≤ nrem → Up κ (arrOf st) lo m → (m = nrem ∨ κ.blt (KK κ (arrOf st) (lo + m)) (KK κ (arrOf st) (lo + m - 1)) = true) → Q (none, m) st) :
    wpS (model prog w) A E s (clb lo n nrem) Q st := by
  unfold clb
  refine wpS_forRange (I := fun x c st' => st' = st ∧ c = (none, x) ∧ Up κ (arrOf st) lo x) ?_ ?_ ⟨rfl, rfl, u⟩
  · rintro x c st' ha hb ⟨rfl, rfl, u'⟩
    dsimp only
    refine wpS_bind (s_ltAt C B (by omega) (by omega) ?_)
    cases e : κ.blt (KK κ (arrOf st') (lo + x)) (KK κ (arrOf st') (lo + x - 1)) with
    | true => simp only [if_true]; exact wpS_pure (k x ha (by omega) u' (.inr e))
    | false => simp only [Bool.false_eq_true, if_false]; exact wpS_pure ⟨rfl, rfl, u'.snoc (by omega) e⟩
  · rintro c st' ⟨rfl, rfl, u'⟩
    rw [show max n nrem = nrem by omega] at u' ⊢
    exact k nrem h2 (Nat.le_refl _) u' (.inl rfl)
theorem s_trn (C : Cmp prog w A s κ kd a₀) (B : SB kd a₀ st) {st0 : SortSt} {lo m nrem : Nat} {Q : Option Nat → SortSt → Prop} (hn : lo + nrem = a₀.size) (p : pendingOf st = pendingOf st0) (kp : Kp lo (arrOf st) (arrOf st0))
    (hm1 : 1 ≤ m) (hm2 : m ≤ nrem) (d2 : Dn κ (arrOf st) lo m) (h : ∀ m st', Run κ kd a₀ lo nrem st0 m st' → Q (some m) st') : wpS (model prog w) A E s (trn lo m nrem) Q st := by
  unfold trn
  have sz : lo + m ≤ (arrOf st).size := by rw [B.size]; omega
  refine wpS_bind (s_reverse ?_)
  have B3 : SB kd a₀ (setArr st (mirror (arrOf st) lo (lo + m) ((lo + m - lo) / 2))) := B.arr (mirror_perm _ _ _ _)
  refine wpS_bind (s_clb C B3 hn hm1 hm2 (d2.turn sz) fun x hx1 hx2 ux _ => ?_)
  exact wpS_pure (h x _ ⟨B3, p, (kp_mirror sz (Nat.le_refl _)).trans kp, by omega, hx2, ux⟩)
theorem s_fpt (C : Cmp prog w A s κ kd a₀) (B : SB kd a₀ st) {st0 : SortSt} {lo n nrem : Nat} {Q : Option Nat → SortSt → Prop} (hn : lo + nrem = a₀.size) (p : pendingOf st = pendingOf st0) (kp : Kp lo (arrOf st) (arrOf st0))
    (hn1 : 1 ≤ n) (hn2 : n + 1 ≤ nrem) (d : Dn κ (arrOf st) lo (n + 1)) (h : ∀ m st', Run κ kd a₀ lo nrem st0 m st' → Q (some m) st') : wpS (model prog w) A E s (fpt lo n nrem) Q st := by
  unfold fpt
  refine wpS_bind (wpS_lift (wpAny_rule ⟨rfl, ?_⟩))
  refine wpS_bind ?_
  unfold fll
  refine wpS_mono (wpS_forRange (I := fun x c st' => ∃ q, c = (none, x, q) ∧ SB kd a₀ st' ∧ pendingOf st' = pendingOf st0 ∧ Kp lo (arrOf st') (arrOf st0) ∧ Dn κ (arrOf st') lo x ∧ q + 1 ≤ x ∧
      ∀ i, lo + x - (q + 1) ≤ i → i < lo + x → KK κ (arrOf st') i = KK κ (arrOf st') (lo + x - 1))
    (Q := fun c st' => ∃ x q, c = (none, x, q) ∧ 1 ≤ x ∧ x ≤ nrem ∧ SB kd a₀ st' ∧ pendingOf st' = pendingOf st0 ∧ Kp lo (arrOf st') (arrOf st0) ∧ Dn κ (arrOf st') lo x ∧ q + 1 ≤ x ∧
      ∀ i, lo + x - (q + 1) ≤ i → i < lo + x → KK κ (arrOf st') i = KK κ (arrOf st') (lo + x - 1)) ?_ ?_ ⟨0, rfl, B, p, kp, d, by omega, fun i a b => by congr 1; omega⟩) ?_
  · rintro x c st' ha hb ⟨q, rfl, B', p', k', d', hq, he⟩
    dsimp only
    have sz : lo + x ≤ (arrOf st').size := by rw [B'.size]; omega
    refine wpS_bind (s_ltAt C B' (by omega) (by omega) ?_)
    cases e : κ.blt (KK κ (arrOf st') (lo + x)) (KK κ (arrOf st') (lo + x - 1)) with
    | true =>
      simp only [if_true]
      have d2 : Dn κ (arrOf st') lo (x + 1) := d'.snoc (by omega) (KeyOrd.kle_of_klt e)
      by_cases hq0 : q > 0
      · rw [if_pos hq0]
        refine wpS_bind (s_reverse (wpS_pure ⟨0, rfl, B'.arr (mirror_perm _ _ _ _), p', (kp_mirror sz (by omega)).trans k', d2.same (KK_mirror_equal sz he), by omega, fun i a b => by congr 1; omega⟩))
      · rw [if_neg hq0]
        exact wpS_pure ⟨0, rfl, B', p', k', d2, by omega, fun i a b => by congr 1; omega⟩
    | false =>
      simp only [Bool.false_eq_true, if_false]
      refine wpS_bind (s_ltAt C B' (by omega) (by omega) ?_)
      cases e2 : κ.blt (KK κ (arrOf st') (lo + x - 1)) (KK κ (arrOf st') (lo + x)) with
      | true => simp only [if_true]; exact wpS_pure ⟨x, q, rfl, by omega, by omega, B', p', k', d', hq, he⟩
      | false =>
        simp only [Bool.false_eq_true, if_false]
        have eq1 : KK κ (arrOf st') (lo + x) = KK κ (arrOf st') (lo + x - 1) := κ.total _ _ e e2
        refine wpS_pure ⟨q + 1, rfl, B', p', k', d'.snoc (by omega) (by rw [eq1]; exact KeyOrd.kle_refl _), by omega, fun i a b => ?_⟩
        rw [show lo + (x + 1) - 1 = lo + x by omega]
        by_cases hi : i = lo + x
        · rw [hi]
        · rw [eq1]; exact he i (by omega) (by omega)
  · rintro c st' ⟨q, rfl, B', p', k', d', hq, he⟩
    rw [show max (n + 1) nrem = nrem by omega] at d' hq he ⊢
    exact ⟨nrem, q, rfl, by omega, Nat.le_refl _, B', p', k', d', hq, he⟩
  · rintro c st' ⟨x, q, rfl, hx1, hx2, B', p', k', d', hq, he⟩
    dsimp only
    have sz : lo + x ≤ (arrOf st').size := by rw [B'.size]; omega
    by_cases hq0 : q > 0
    · rw [if_pos hq0]
      exact wpS_bind (s_reverse (s_trn C (B'.arr (mirror_perm _ _ _ _)) hn p' ((kp_mirror sz (by omega)).trans k') hx1 hx2 (d'.same (KK_mirror_equal sz he)) h))
    · rw [if_neg hq0]
      exact s_trn C B' hn p' k' hx1 hx2 d' h
theorem s_count (C : Cmp prog w A s κ kd a₀) (B : SB kd a₀ st) {lo nrem : Nat} {Q : Option Nat → SortSt → Prop} (hn : lo + nrem = a₀.size) (h1 : 1 ≤ nrem)
    (h : ∀ m st', Run κ kd a₀ lo nrem st m st' → Q (some m) st') : wpS (model prog w) A E s (countRun' lo nrem) Q st := by
  rw [cnt_eq]
  refine wpS_bind (s_clb C B hn (Nat.le_refl _) h1 up_one fun n hn1 hn2 u or => ?_)
  dsimp only
  by_cases hnn : n = nrem
  · rw [if_pos (by simpa using hnn)]
    exact wpS_pure (h n st ⟨B, rfl, Kp.refl, hn1, hn2, u⟩)
  · rw [if_neg (by simpa using hnn)]
    have lt := or.resolve_left hnn
    by_cases hg : n > 1
    · rw [if_pos hg]
      refine wpS_bind (s_ltAt C B (by omega) (by omega) ?_)
      cases e : κ.blt (KK κ (arrOf st) lo) (KK κ (arrOf st) (lo + n - 1)) with
      | true => simp only [if_true]; exact wpS_pure (h n st ⟨B, rfl, Kp.refl, hn1, hn2, u⟩)
      | false =>
        simp only [Bool.false_eq_true, if_false]
        have sz : lo + n ≤ (arrOf st).size := by rw [B.size]; omega
        have all : ∀ k, lo ≤ k → k < lo + n → KK κ (arrOf st) k = KK κ (arrOf st) (lo + n - 1) := fun k a b =>
          KeyOrd.kle_antisymm (u k (lo + n - 1) a (by omega) (by omega)) (KeyOrd.kle_trans e (u lo k (Nat.le_refl _) a b))
        refine wpS_bind (s_reverse (s_fpt C (B.arr (mirror_perm _ _ _ _)) (st0 := st) hn rfl (kp_mirror sz (Nat.le_refl _)) hn1 (by omega) ?_ h))
        refine Dn.same (xs := arrOf st) (Dn.snoc (fun i j a b c => ?_) hn1 (KeyOrd.kle_of_klt lt)) (KK_mirror_equal sz all)
        rw [all i a (by omega), all j (by omega) c]; exact KeyOrd.kle_refl _
    · rw [if_neg hg]
      have e1 : n = 1 := by omega
      subst e1
      refine s_fpt C B hn rfl Kp.refl (Nat.le_refl _) (by omega) (Dn.snoc (fun i j a b c => ?_) (Nat.le_refl _) (KeyOrd.kle_of_klt lt)) h
      have e : i = j := by omega
      subst e; exact KeyOrd.kle_refl _
end
end TS
end
section
set_option linter.all false
set_option maxRecDepth 100000
set_option maxHeartbeats 4000000
namespace TS
open PySem PyProof.Rows
section
variable {prog : Program} {w : World} {A : Around} {E : Value → Shared → Prop} {s : Shared} {κ : KeyKind} {kd : SortKind} {a₀ : Array Keyed} {st : SortSt}
theorem s_bin (C : Cmp prog w A s κ kd a₀) (B : SB kd a₀ st) {lo n ok : Nat} {Q : Bool → SortSt → Prop} (hn : lo + n ≤ a₀.size) (hok : ok ≤ n) (h1 : 1 ≤ ok) (u : Up κ (arrOf st) lo ok)
    (h : ∀ st', SB kd a₀ st' → pendingOf st' = pendingOf st → Kp lo (arrOf st') (arrOf st) → Up κ (arrOf st') lo n → Q true st') : wpS (model prog w) A E s (binarySort' lo n ok) Q st := by
  rw [binarySort'_eq]
  refine wpS_bind (wpS_mono (wpS_forRange (I := fun k c st' => c = (none, ()) ∧ SB kd a₀ st' ∧ pendingOf st' = pendingOf st ∧ Kp lo (arrOf st') (arrOf st) ∧ Up κ (arrOf st') lo (min k n))
    (Q := fun c st' => c = (none, ()) ∧ SB kd a₀ st' ∧ pendingOf st' = pendingOf st ∧ Kp lo (arrOf st') (arrOf st) ∧ Up κ (arrOf st') lo n) ?_ ?_ ⟨rfl, B, rfl, Kp.refl, ?_⟩) ?_)
  · rintro k c st' ha hb ⟨rfl, B', p', k', u'⟩
    rw [show min k n = k by omega] at u'
    refine wpS_bind (wpS_mono (wpS_forRange (I := fun x c st2 => st2 = st' ∧ ∃ l r, c = (none, l, r) ∧ l ≤ r ∧ r ≤ k ∧ r - l ≤ k - x ∧
        (∀ i, i < l → κ.kle (KK κ (arrOf st') (lo + i)) (KK κ (arrOf st') (lo + k))) ∧ ∀ i, r ≤ i → i < k → κ.klt (KK κ (arrOf st') (lo + k)) (KK κ (arrOf st') (lo + i)))
      (Q := fun c st2 => st2 = st' ∧ ∃ l r, c = (none, l, r) ∧ l ≤ k ∧
        (∀ i, i < l → κ.kle (KK κ (arrOf st') (lo + i)) (KK κ (arrOf st') (lo + k))) ∧ ∀ i, l ≤ i → i < k → κ.klt (KK κ (arrOf st') (lo + k)) (KK κ (arrOf st') (lo + i))) ?_ ?_
      ⟨rfl, 0, k, rfl, by omega, by omega, by omega, fun i hi => by omega, fun i a b => by omega⟩) ?_)
    · rintro x c st2 _ hx ⟨rfl, l, r, rfl, h1', h2', h3', a, b⟩
      dsimp only
      by_cases hg : l ≥ r
      · rw [if_pos hg]
        have e : l = r := by omega
        subst e
        exact wpS_pure ⟨rfl, l, l, rfl, h2', a, b⟩
      · rw [if_neg hg]
        refine wpS_bind (s_ltAt C B' (by omega) (by omega) ?_)
        cases e : κ.blt (KK κ (arrOf st2) (lo + k)) (KK κ (arrOf st2) (lo + (l + r) / 2)) with
        | true =>
          simp only [if_true]
          refine wpS_pure ⟨rfl, l, (l + r) / 2, rfl, by omega, by omega, by omega, a, fun i c d => ?_⟩
          exact KeyOrd.klt_of_klt_of_kle e (u' _ _ (by omega) (by omega) (by omega))
        | false =>
          simp only [Bool.false_eq_true, if_false]
          refine wpS_pure ⟨rfl, (l + r) / 2 + 1, r, rfl, by omega, by omega, by omega, fun i c => ?_, b⟩
          exact KeyOrd.kle_trans (u' (lo + i) (lo + (l + r) / 2) (by omega) (by omega) (by omega)) (show κ.kle _ _ from e)
    · rintro c st2 ⟨rfl, l, r, rfl, h1', h2', h3', a, b⟩
      have e : l = r := by omega
      subst e
      exact ⟨rfl, l, l, rfl, h2', a, b⟩
    · rintro c st2 ⟨rfl, l, r, rfl, hl, a, b⟩
      show wpS _ _ _ _ (moveDown' (lo + k) (lo + l) >>= fun _ => pure (ForInStep.yield (none, ()))) _ _
      rw [moveDown'_eq]
      have sz : lo + k < (arrOf st2).size := by rw [B'.size]; omega
      refine wpS_bind (wpS_modify (wpS_pure ⟨rfl, B'.arr (bubble_perm _ _ _), p', (kp_bubble sz (by omega) (by omega)).trans k', ?_⟩))
      rw [show min (k + 1) n = k + 1 by omega]
      intro i j hi hij hj
      show κ.kle (KK κ (bubble (arrOf st2) (lo + k) (lo + k - (lo + l))) i) (KK κ (bubble (arrOf st2) (lo + k) (lo + k - (lo + l))) j)
      rw [KK_bubble sz (by omega), KK_bubble sz (by omega), show lo + k - (lo + k - (lo + l)) = lo + l by omega]
      have a' : ∀ i, lo ≤ i → i < lo + l → κ.kle (KK κ (arrOf st2) i) (KK κ (arrOf st2) (lo + k)) := fun i c d => by
        have := a (i - lo) (by omega)
        rwa [show lo + (i - lo) = i by omega] at this
      have b' : ∀ i, lo + l ≤ i → i < lo + k → κ.kle (KK κ (arrOf st2) (lo + k)) (KK κ (arrOf st2) i) := fun i c d => by
        have := KeyOrd.kle_of_klt (b (i - lo) (by omega) (by omega))
        rwa [show lo + (i - lo) = i by omega] at this
      repeat' split
      all_goals first
        | (exfalso; omega)
        | exact KeyOrd.kle_refl _
        | exact a' _ (by omega) (by omega)
        | exact b' _ (by omega) (by omega)
        | exact u' _ _ (by omega) (by omega) (by omega)
  · rintro c st' ⟨hc, B', p', k', u'⟩
    refine ⟨hc, B', p', k', ?_⟩
    rwa [show min (max (max ok 1) n) n = n by omega] at u'
  · rw [show min (max ok 1) n = ok by omega]; exact u
  · rintro c st' ⟨rfl, B', p', k', u'⟩
    exact wpS_pure (h st' B' p' k' u')
def bey (κ : KeyKind) (left : Bool) (key : Keyed) (p : Keyed) : Bool := if left then Lb κ p key else !Lb κ key p
theorem bey_mono {left : Bool} {key p q : Keyed} (h : bey κ left key q = true) (l : Le κ p q) : bey κ left key p = true := by
  unfold bey at *
  cases left with
  | true => simp only [if_true] at *; exact le_lt l h
  | false =>
    simp only [Bool.false_eq_true, if_false, Bool.not_eq_true', Bool.not_eq_eq_eq_not, Bool.not_true] at *
    exact Le.trans (p := p) l h
theorem s_gal (C : Cmp prog w A s κ kd a₀) (hk : kindOf st = kd) {left : Bool} {key : Keyed} {arr : Array Keyed} {base n hint : Nat} {Q : Option Nat → SortSt → Prop} (hkey : key ∈ a₀.toList)
    (f : Nat → Keyed) (hf : ∀ i, i < n → arr[base + i]? = some (f i) ∧ f i ∈ a₀.toList) (up : ∀ i j, i ≤ j → j < n → Le κ (f i) (f j)) (hh : hint < n)
    (h : ∀ k, k ≤ n → (∀ i, i < k → bey κ left key (f i) = true) → (∀ i, k ≤ i → i < n → bey κ left key (f i) = false) → Q (some k) st) : wpS (model prog w) A E s (gal left key arr base n hint) Q st := by
  have one : ∀ i, i < n → ∀ R : Option Bool → SortSt → Prop, R (some (bey κ left key (f i))) st → wpS (model prog w) A E s (elem' arr (base + i) >>= fun x => if left = true then lt' x key else lt' key x >>= fun r => pure (Option.map (fun b => !b) r)) R st := by
    intro i hi R r
    obtain ⟨e, m⟩ := hf i hi
    refine wpS_bind (s_elem e ?_)
    cases left with
    | true => simp only [if_true]; exact s_lt C m hkey hk r
    | false => simp only [Bool.false_eq_true, if_false]; exact wpS_bind (s_lt C hkey m hk (wpS_pure r))
  have dn : ∀ i j, i ≤ j → j < n → bey κ left key (f j) = true → bey κ left key (f i) = true := fun i j a b c => bey_mono c (up i j a b)
  have no : ∀ i j, i ≤ j → j < n → bey κ left key (f i) = false → bey κ left key (f j) = false := fun i j a b c => by
    cases e : bey κ left key (f j) with
    | false => rfl
    | true => rw [dn i j a b e] at c; cases c
  show wpS (model prog w) A E s (gal left key arr base n hint) Q st
  refine wpS_bind (one hint hh _ ?_)
  dsimp only
  cases e : bey κ left key (f hint) with
  | true =>
    simp only [if_true]
    refine wpS_bind (wpS_mono (wpS_forRange (I := fun x c st' => st' = st ∧ ∃ la o, c = (none, la, o) ∧ la < o ∧ x < o ∧ hint + la < n ∧ bey κ left key (f (hint + la)) = true)
      (Q := fun c st' => st' = st ∧ ∃ la o, c = (none, la, o) ∧ la < o ∧ hint + la < n ∧ bey κ left key (f (hint + la)) = true ∧ (n - hint ≤ o ∨ bey κ left key (f (hint + o)) = false)) ?_ ?_ ⟨rfl, 0, 1, rfl, by omega, by omega, by omega, e⟩) ?_)
    · rintro x c st' _ hx ⟨rfl, la, o, rfl, h1, h2, h3, h4⟩
      dsimp only
      by_cases hg : o ≥ n - hint
      · rw [if_pos hg]
        exact wpS_pure ⟨rfl, la, o, rfl, h1, h3, h4, .inl hg⟩
      · rw [if_neg hg]
        refine wpS_bind (one _ (by omega) _ ?_)
        cases e2 : bey κ left key (f (hint + o)) with
        | true =>
          simp only [Bool.not_true, Bool.false_eq_true, if_false]
          exact wpS_pure ⟨rfl, o, 2 * o + 1, rfl, by omega, by omega, by omega, e2⟩
        | false =>
          simp only [Bool.not_false, if_true]
          exact wpS_pure ⟨rfl, la, o, rfl, h1, h3, h4, .inr e2⟩
    · rintro c st' ⟨rfl, la, o, rfl, h1, h2, h3, h4⟩
      exact ⟨rfl, la, o, rfl, h1, h3, h4, .inl (by omega)⟩
    · rintro c st' ⟨rfl, la, o, rfl, h1, h3, h4, h5⟩
      have q1 : hint + la + 1 ≤ hint + min o (n - hint) := by omega
      have q2 : hint + min o (n - hint) ≤ n := by omega
      have q3 : ∀ i, i < hint + la + 1 → bey κ left key (f i) = true := fun i a => dn i _ (by omega) h3 h4
      have q4 : ∀ i, hint + min o (n - hint) ≤ i → i < n → bey κ left key (f i) = false := fun i a b => by
        rcases h5 with h5 | h5
        · omega
        · exact no _ i (by omega) b h5
      dsimp only
      refine wpS_bind (wpS_mono (wpS_forRange (I := fun x c z => z = st' ∧ ∃ lo hi, c = (none, lo, hi) ∧ lo ≤ hi ∧ hi ≤ n ∧ hi - lo ≤ n - x ∧ (∀ i, i < lo → bey κ left key (f i) = true) ∧ ∀ i, hi ≤ i → i < n → bey κ left key (f i) = false)
        (Q := fun c z => z = st' ∧ ∃ k, c = (none, k, k) ∧ k ≤ n ∧ (∀ i, i < k → bey κ left key (f i) = true) ∧ ∀ i, k ≤ i → i < n → bey κ left key (f i) = false) ?_ ?_ ⟨rfl, _, _, rfl, q1, q2, by omega, q3, q4⟩) ?_)
      · rintro x c st2 _ hx ⟨rfl, lo, hi, rfl, h1, h2, h3, a, b⟩
        dsimp only
        by_cases hg : lo ≥ hi
        · rw [if_pos hg]
          have e : lo = hi := by omega
          subst e
          exact wpS_pure ⟨rfl, lo, rfl, h2, a, b⟩
        · rw [if_neg hg]
          refine wpS_bind (one _ (by omega) _ ?_)
          cases e : bey κ left key (f (lo + (hi - lo) / 2)) with
          | true =>
            simp only [if_true]
            exact wpS_pure ⟨rfl, _, _, rfl, by omega, by omega, by omega, fun i c => dn i _ (by omega) (by omega) e, b⟩
          | false =>
            simp only [Bool.false_eq_true, if_false]
            exact wpS_pure ⟨rfl, _, _, rfl, by omega, by omega, by omega, a, fun i c d => no _ i c d e⟩
      · rintro c st2 ⟨rfl, lo, hi, rfl, h1, h2, h3, a, b⟩
        have e : lo = hi := by omega
        subst e
        exact ⟨rfl, lo, rfl, h2, a, b⟩
      · rintro c st2 ⟨rfl, k, rfl, hk, a, b⟩
        exact wpS_pure (h k hk a b)
  | false =>
    simp only [Bool.false_eq_true, if_false]
    refine wpS_bind (wpS_mono (wpS_forRange (I := fun x c st' => st' = st ∧ ∃ la o, c = (none, la, o) ∧ la < o ∧ x < o ∧ la ≤ hint ∧ bey κ left key (f (hint - la)) = false)
      (Q := fun c st' => st' = st ∧ ∃ la o, c = (none, la, o) ∧ la < o ∧ la ≤ hint ∧ bey κ left key (f (hint - la)) = false ∧ (hint + 1 ≤ o ∨ bey κ left key (f (hint - o)) = true)) ?_ ?_ ⟨rfl, 0, 1, rfl, by omega, by omega, by omega, e⟩) ?_)
    · rintro x c st' _ hx ⟨rfl, la, o, rfl, h1, h2, h3, h4⟩
      dsimp only
      by_cases hg : o ≥ hint + 1
      · rw [if_pos hg]
        exact wpS_pure ⟨rfl, la, o, rfl, h1, h3, h4, .inl hg⟩
      · rw [if_neg hg]
        refine wpS_bind (one _ (by omega) _ ?_)
        cases e2 : bey κ left key (f (hint - o)) with
        | true =>
          simp only [if_true]
          exact wpS_pure ⟨rfl, la, o, rfl, h1, h3, h4, .inr e2⟩
        | false =>
          simp only [Bool.false_eq_true, if_false]
          exact wpS_pure ⟨rfl, o, 2 * o + 1, rfl, by omega, by omega, by omega, e2⟩
    · rintro c st' ⟨rfl, la, o, rfl, h1, h2, h3, h4⟩
      exact ⟨rfl, la, o, rfl, h1, h3, h4, .inl (by omega)⟩
    · rintro c st' ⟨rfl, la, o, rfl, h1, h3, h4, h5⟩
      have q1 : hint + 1 - min o (hint + 1) ≤ hint - la := by omega
      have q2 : hint - la ≤ n := by omega
      have q3 : ∀ i, i < hint + 1 - min o (hint + 1) → bey κ left key (f i) = true := fun i a => by
        rcases h5 with h5 | h5
        · omega
        · exact dn i _ (by omega) (by omega) h5
      have q4 : ∀ i, hint - la ≤ i → i < n → bey κ left key (f i) = false := fun i a b => no _ i a b h4
      dsimp only
      refine wpS_bind (wpS_mono (wpS_forRange (I := fun x c z => z = st' ∧ ∃ lo hi, c = (none, lo, hi) ∧ lo ≤ hi ∧ hi ≤ n ∧ hi - lo ≤ n - x ∧ (∀ i, i < lo → bey κ left key (f i) = true) ∧ ∀ i, hi ≤ i → i < n → bey κ left key (f i) = false)
        (Q := fun c z => z = st' ∧ ∃ k, c = (none, k, k) ∧ k ≤ n ∧ (∀ i, i < k → bey κ left key (f i) = true) ∧ ∀ i, k ≤ i → i < n → bey κ left key (f i) = false) ?_ ?_ ⟨rfl, _, _, rfl, q1, q2, by omega, q3, q4⟩) ?_)
      · rintro x c st2 _ hx ⟨rfl, lo, hi, rfl, h1, h2, h3, a, b⟩
        dsimp only
        by_cases hg : lo ≥ hi
        · rw [if_pos hg]
          have e : lo = hi := by omega
          subst e
          exact wpS_pure ⟨rfl, lo, rfl, h2, a, b⟩
        · rw [if_neg hg]
          refine wpS_bind (one _ (by omega) _ ?_)
          cases e : bey κ left key (f (lo + (hi - lo) / 2)) with
          | true =>
            simp only [if_true]
            exact wpS_pure ⟨rfl, _, _, rfl, by omega, by omega, by omega, fun i c => dn i _ (by omega) (by omega) e, b⟩
          | false =>
            simp only [Bool.false_eq_true, if_false]
            exact wpS_pure ⟨rfl, _, _, rfl, by omega, by omega, by omega, a, fun i c d => no _ i c d e⟩
      · rintro c st2 ⟨rfl, lo, hi, rfl, h1, h2, h3, a, b⟩
        have e : lo = hi := by omega
        subst e
        exact ⟨rfl, lo, rfl, h2, a, b⟩
      · rintro c st2 ⟨rfl, k, rfl, hk, a, b⟩
        exact wpS_pure (h k hk a b)
end
end TS
end
section
set_option linter.all false
set_option maxRecDepth 100000
set_option maxHeartbeats 4000000
namespace TS
open PySem PyProof.Rows
structure Wv (κ : KeyKind) (a b out : List Keyed) (ia ib : Nat) : Prop where
  perm : out.Perm (a.take ia ++ b.take ib)
  srt : out.Pairwise (Le κ)
  la : ∀ x ∈ out, ∀ y ∈ a.drop ia, Le κ x y
  lb : ∀ x ∈ out, ∀ y ∈ b.drop ib, Le κ x y
def Pst (κ : KeyKind) (a b r : List Keyed) : Prop := r.Perm (a ++ b) ∧ r.Pairwise (Le κ)
section
variable {κ : KeyKind} {a b out : List Keyed} {ia ib : Nat}
theorem Wv.swap (h : Wv κ a b out ia ib) : Wv κ b a out ib ia := ⟨h.perm.trans List.perm_append_comm, h.srt, h.lb, h.la⟩
theorem Wv.app (h : Wv κ a b out ia ib) (sb : b.Pairwise (Le κ)) (k : Nat) (hle : ∀ x ∈ (b.drop ib).take k, ∀ y ∈ a.drop ia, Le κ x y) : Wv κ a b (out ++ (b.drop ib).take k) ia (ib + k) := by
  have sd : (b.drop ib).Pairwise (Le κ) := sb.sublist (List.drop_sublist _ _)
  have e : b.drop ib = (b.drop ib).take k ++ b.drop (ib + k) := by rw [← List.drop_drop, List.take_append_drop]
  have sd2 : ((b.drop ib).take k ++ b.drop (ib + k)).Pairwise (Le κ) := e ▸ sd
  refine ⟨?_, ?_, ?_, ?_⟩
  · have e2 : b.take (ib + k) = b.take ib ++ (b.drop ib).take k := List.take_add
    rw [e2, ← List.append_assoc]
    exact h.perm.append_right _
  · refine List.pairwise_append.mpr ⟨h.srt, (List.pairwise_append.mp sd2).1, fun x hx y hy => h.lb x hx y (List.mem_of_mem_take hy)⟩
  · intro x hx y hy
    rcases List.mem_append.mp hx with hx | hx
    · exact h.la x hx y hy
    · exact hle x hx y hy
  · intro x hx y hy
    rcases List.mem_append.mp hx with hx | hx
    · exact h.lb x hx y (by rw [e]; exact List.mem_append_right _ hy)
    · exact (List.pairwise_append.mp sd2).2.2 x hx y hy
theorem take1 {l : List Keyed} {i : Nat} {p : Keyed} (h : l[i]? = some p) : (l.drop i).take 1 = [p] := by
  obtain ⟨hi, e⟩ := List.getElem?_eq_some_iff.mp h
  rw [List.drop_eq_getElem_cons hi, e]; rfl
theorem mem_drop_at {l : List Keyed} {i : Nat} {x : Keyed} (h : x ∈ l.drop i) : ∃ j, i ≤ j ∧ l[j]? = some x := by
  obtain ⟨j, hj, e⟩ := List.getElem_of_mem h
  refine ⟨i + j, by omega, ?_⟩
  rw [List.getElem_drop] at e
  rw [← e]
  rw [List.length_drop] at hj
  exact List.getElem?_eq_getElem (by omega)
theorem srt_at (sa : a.Pairwise (Le κ)) {i j : Nat} {x y : Keyed} (hx : a[i]? = some x) (hy : a[j]? = some y) (h : i ≤ j) : Le κ x y := by
  obtain ⟨hi, ex⟩ := List.getElem?_eq_some_iff.mp hx
  obtain ⟨hj, ey⟩ := List.getElem?_eq_some_iff.mp hy
  rcases Nat.lt_or_ge i j with q | q
  · have := List.pairwise_iff_getElem.mp sa i j hi hj q
    rw [ex, ey] at this; exact this
  · have e : i = j := by omega
    subst e
    rw [ex] at ey; subst ey; exact Le.refl _
theorem Wv.push (h : Wv κ a b out ia ib) (sb : b.Pairwise (Le κ)) {p : Keyed} (hp : b[ib]? = some p) (hle : ∀ y ∈ a.drop ia, Le κ p y) : Wv κ a b (out ++ [p]) ia (ib + 1) := by
  have := h.app sb 1 (by rw [take1 hp]; intro x hx y hy; rw [List.mem_singleton.mp hx]; exact hle y hy)
  rwa [take1 hp] at this
theorem Wv.cat (h : Wv κ a b out ia ib) {rest : List Keyed} (hp : rest.Perm (a.drop ia ++ b.drop ib)) (hs : rest.Pairwise (Le κ)) : Pst κ a b (out ++ rest) := by
  refine ⟨?_, List.pairwise_append.mpr ⟨h.srt, hs, fun x hx y hy => ?_⟩⟩
  · have p1 : (out ++ rest).Perm ((a.take ia ++ b.take ib) ++ (a.drop ia ++ b.drop ib)) := h.perm.append hp
    have p2 : ((a.take ia ++ b.take ib) ++ (a.drop ia ++ b.drop ib)).Perm ((a.take ia ++ a.drop ia) ++ (b.take ib ++ b.drop ib)) := by
      rw [List.append_assoc, List.append_assoc]
      refine List.Perm.append_left _ ?_
      rw [← List.append_assoc, ← List.append_assoc]
      exact List.perm_append_comm.append_right _
    rw [List.take_append_drop, List.take_append_drop] at p2
    exact p1.trans p2
  · rcases List.mem_append.mp (hp.mem_iff.mp hy) with q | q
    · exact h.la x hx y q
    · exact h.lb x hx y q
theorem Wv.done (h : Wv κ a b out ia ib) (sa : a.Pairwise (Le κ)) (sb : b.Pairwise (Le κ)) (hz : a.length ≤ ia ∨ b.length ≤ ib) : Pst κ a b (out ++ a.drop ia ++ b.drop ib) := by
  rw [List.append_assoc]
  refine h.cat (List.Perm.refl _) ?_
  rcases hz with z | z
  · rw [List.drop_eq_nil_of_le z]; exact sb.sublist (List.drop_sublist _ _)
  · rw [List.drop_eq_nil_of_le z, List.append_nil]; exact sa.sublist (List.drop_sublist _ _)
theorem Wv.last (h : Wv κ a b out ia ib) (sb : b.Pairwise (Le κ)) (hz : ia + 1 = a.length) (hl : ∀ y ∈ b, ∀ x, a[a.length - 1]? = some x → Le κ y x) : Pst κ a b (out ++ b.drop ib ++ a.drop ia) := by
  rw [List.append_assoc]
  have ⟨x, ex⟩ : ∃ x, a[ia]? = some x := ⟨a[ia], List.getElem?_eq_getElem (by omega)⟩
  have e : a.drop ia = [x] := by
    obtain ⟨hi, e⟩ := List.getElem?_eq_some_iff.mp ex
    rw [List.drop_eq_getElem_cons hi, e, List.drop_eq_nil_of_le (by omega)]
  refine h.cat List.perm_append_comm ?_
  rw [e]
  refine List.pairwise_append.mpr ⟨sb.sublist (List.drop_sublist _ _), List.pairwise_singleton _ _, fun y hy z hz => ?_⟩
  rw [List.mem_singleton.mp hz]
  exact hl y (List.mem_of_mem_drop hy) x (by rw [show a.length - 1 = ia by omega]; exact ex)
end
def St0 (st st' : SortSt) : Prop := kindOf st' = kindOf st ∧ arrOf st' = arrOf st ∧ pendingOf st' = pendingOf st ∧ failedOf st' = failedOf st
theorem St0.refl (st : SortSt) : St0 st st := ⟨rfl, rfl, rfl, rfl⟩
section
variable {prog : Program} {w : World} {A : Around} {E : Value → Shared → Prop} {s : Shared} {κ : KeyKind} {kd : SortKind} {a₀ : Array Keyed} {st : SortSt}
theorem s_setG {g : Nat} {st1 : SortSt} {Q : Unit → SortSt → Prop} (hs : St0 st st1) (h : ∀ st', St0 st st' → Q () st') : wpS (model prog w) A E s (setG g) Q st1 := by
  refine wpS_modify (h _ ?_)
  exact ⟨hs.1, hs.2.1, hs.2.2.1, hs.2.2.2⟩
theorem ex_list2 (a : List Keyed) (i k : Nat) : (a.toArray.extract i (i + k)).toList = (a.drop i).take k := by simp
theorem s_galL (C : Cmp prog w A s κ kd a₀) (hk : kindOf st = kd) {left : Bool} {key : Keyed} {l : List Keyed} {base n hint : Nat} {Q : Option Nat → SortSt → Prop} (hkey : key ∈ a₀.toList)
    (hm : ∀ p ∈ l, p ∈ a₀.toList) (hs : ((l.drop base).take n).Pairwise (Le κ)) (hb : base + n ≤ l.length) (hh : hint < n)
    (h : ∀ k, k ≤ n → (∀ x ∈ (l.drop base).take k, bey κ left key x = true) → (∀ x ∈ ((l.drop base).take n).drop k, bey κ left key x = false) → Q (some k) st) :
    wpS (model prog w) A E s (gal left key l.toArray base n hint) Q st := by
  have at' : ∀ i, i < n → ∃ p, l[base + i]? = some p := fun i hi => ⟨l[base + i], List.getElem?_eq_getElem (by omega)⟩
  have seg : ∀ i, i < n → ((l.drop base).take n)[i]? = l[base + i]? := fun i hi => by rw [List.getElem?_take, if_pos hi, List.getElem?_drop]
  have fe : ∀ i, i < n → l[base + i]? = some ((l[base + i]?).getD key) := fun i hi => by
    obtain ⟨p, e⟩ := at' i hi; rw [e]; rfl
  refine s_gal C hk hkey (fun i => (l[base + i]?).getD key) (fun i hi => ⟨?_, ?_⟩) (fun i j hij hj => ?_) hh fun k hk1 hk2 hk3 => h k hk1 (fun x hx => ?_) fun x hx => ?_
  · rw [List.getElem?_toArray]; exact fe i hi
  · exact hm _ (List.mem_of_getElem? (fe i hi))
  · exact srt_at hs ((seg i (by omega)).trans (fe i (by omega))) ((seg j hj).trans (fe j hj)) hij
  · obtain ⟨i, hi, e⟩ := List.getElem_of_mem hx
    have hi' : i < k := by rw [List.length_take] at hi; omega
    have e2 : l[base + i]? = some x := by
      rw [List.getElem_take, List.getElem_drop] at e
      rw [← e]; exact List.getElem?_eq_getElem (by omega)
    have := hk2 i hi'
    rw [e2] at this; exact this
  · obtain ⟨j, hj, e⟩ := mem_drop_at hx
    have hjn : j < n := by
      have := (List.getElem?_eq_some_iff.mp e).1
      rw [List.length_take] at this; omega
    rw [seg j hjn] at e
    have := hk3 j hj hjn
    rw [e] at this; exact this
theorem s_mLo {a b : List Keyed} {Q : Array Keyed → SortSt → Prop} (C : Cmp prog w A s κ kd a₀) (hk : kindOf st = kd) (ha : ∀ p ∈ a, p ∈ a₀.toList) (hb : ∀ p ∈ b, p ∈ a₀.toList)
    (sa : a.Pairwise (Le κ)) (sb : b.Pairwise (Le κ)) (na : 0 < a.length) (nb : 0 < b.length) (h0 : ∀ p, b[0]? = some p → ∀ x ∈ a, Le κ p x) (hl : ∀ y ∈ b, ∀ x, a[a.length - 1]? = some x → Le κ y x)
    (h : ∀ r st', St0 st st' → Pst κ a b r.toList → Q r st') : wpS (model prog w) A E s (mLo a.toArray b.toArray) Q st := by
  have atA : ∀ i, i < a.length → ∃ p, a.toArray[i]? = some p ∧ a[i]? = some p ∧ p ∈ a₀.toList := fun i hi => ⟨a[i], by simp [hi], by simp [hi], ha _ (List.getElem_mem hi)⟩
  have atB : ∀ i, i < b.length → ∃ p, b.toArray[i]? = some p ∧ b[i]? = some p ∧ p ∈ a₀.toList := fun i hi => ⟨b[i], by simp [hi], by simp [hi], hb _ (List.getElem_mem hi)⟩
  have fD : ∀ (out : Array Keyed) ia ib, (out ++ a.toArray.extract ia ++ b.toArray.extract ib).toList = out.toList ++ a.drop ia ++ b.drop ib := fun out ia ib => by simp [List.take_of_length_le]
  have fL : ∀ (out : Array Keyed) ia ib, (out ++ b.toArray.extract ib ++ a.toArray.extract ia).toList = out.toList ++ b.drop ib ++ a.drop ia := fun out ia ib => by simp [List.take_of_length_le]
  have szA : a.toArray.size = a.length := by simp
  have szB : b.toArray.size = b.length := by simp
  obtain ⟨b0, eb, eb', mb⟩ := atB 0 nb
  have w0 : Wv κ a b [b0] 0 1 := by
    have e := take1 eb'
    rw [List.drop_zero] at e
    refine ⟨by rw [e]; exact List.Perm.refl _, List.pairwise_singleton _ _, fun x hx y hy => ?_, fun x hx y hy => ?_⟩
    · rw [List.mem_singleton.mp hx]; exact h0 _ eb' y (by simpa using hy)
    · rw [List.mem_singleton.mp hx]
      obtain ⟨j, hj, ej⟩ := mem_drop_at hy
      exact srt_at sb eb' ej (by omega)
  refine wpS_bind (m := liftM (rule _)) (wpS_lift (wpAny_rule ⟨rfl, ?_⟩))
  dsimp only
  refine wpS_bind (s_elem eb ?_)
  by_cases g1 : 1 = b.length
  · rw [if_pos (by rw [szB]; simpa using g1)]
    refine wpS_pure (h _ _ (St0.refl _) ?_)
    rw [fD]; exact w0.done sa sb (.inr (by omega))
  rw [if_neg (by rw [szB]; simpa using g1)]
  by_cases g2 : 0 + 1 = a.length
  · rw [if_pos (by rw [szA]; simpa using g2)]
    refine wpS_pure (h _ _ (St0.refl _) ?_)
    rw [fL]; exact w0.last sb g2 hl
  rw [if_neg (by rw [szA]; simpa using g2)]
  refine wpS_bind (wpS_get ?_)
  refine wpS_bind (wpS_mono (wpS_forRange (I := fun x c st' => ∃ out ia ib g, c = (none, out, ia, ib, g) ∧ Wv κ a b out.toList ia ib ∧ ia + 1 < a.length ∧ ib < b.length ∧ x < ia + ib ∧ St0 st st')
    (Q := fun c st' => ∃ r z, c = (some r, z) ∧ Pst κ a b r.toList ∧ St0 st st') ?_ ?_ ⟨_, 0, 1, _, rfl, w0, by omega, by omega, by omega, St0.refl _⟩) ?_)
  · rintro x c st1 _ hx ⟨out, ia, ib, g, rfl, W, hia, hib, hm, hs⟩
    dsimp only
    refine wpS_bind (wpS_mono (wpS_forRange (I := fun y c st' => ∃ out' ia' ib' ac bc, c = (none, out', ia', ib', ac, bc) ∧ Wv κ a b out'.toList ia' ib' ∧ ia' + 1 < a.length ∧ ib' < b.length ∧ y + ia + ib ≤ ia' + ib' ∧ St0 st st')
      (Q := fun c st' => St0 st st' ∧ ((∃ r z, c = (some r, z) ∧ Pst κ a b r.toList) ∨ ∃ out' ia' ib' ac bc, c = (none, out', ia', ib', ac, bc) ∧ Wv κ a b out'.toList ia' ib' ∧ ia' + 1 < a.length ∧ ib' < b.length ∧ 1 + ia + ib ≤ ia' + ib')) ?_ ?_
      ⟨out, ia, ib, 0, 0, rfl, W, hia, hib, by omega, hs⟩) ?_)
    · rintro y c st2 _ hy ⟨out', ia', ib', ac, bc, rfl, W', hia', hib', hm', hs'⟩
      dsimp only
      obtain ⟨p, ep, ep', mp⟩ := atB ib' hib'
      obtain ⟨q, eq, eq', mq⟩ := atA ia' (by omega)
      refine wpS_bind (s_elem ep (wpS_bind (s_elem eq (wpS_bind (s_lt C mp mq (hs'.1.trans hk) ?_)))))
      cases e : Lb κ p q with
      | true =>
        simp only [if_true]
        refine wpS_bind (s_elem ep ?_)
        have W2 : Wv κ a b (out'.push p).toList ia' (ib' + 1) := by
          rw [Array.toList_push]
          refine W'.push sb ep' fun y hy => ?_
          obtain ⟨j, hj, ej⟩ := mem_drop_at hy
          exact Le.trans (Le.of_lt e) (srt_at sa eq' ej hj)
        by_cases g3 : ib' + 1 = b.length
        · rw [if_pos (by rw [szB]; simpa using g3)]
          refine wpS_pure ⟨hs', .inl ⟨_, _, rfl, ?_⟩⟩
          rw [fD]; exact W2.done sa sb (.inr (by omega))
        · rw [if_neg (by rw [szB]; simpa using g3)]
          split
          · exact wpS_pure ⟨hs', .inr ⟨_, _, _, _, _, rfl, W2, hia', by omega, by omega⟩⟩
          · exact wpS_pure ⟨_, _, _, _, _, rfl, W2, hia', by omega, by omega, hs'⟩
      | false =>
        simp only [Bool.false_eq_true, if_false]
        refine wpS_bind (s_elem eq ?_)
        have W2 : Wv κ a b (out'.push q).toList (ia' + 1) ib' := by
          rw [Array.toList_push]
          refine (W'.swap.push sa eq' fun y hy => ?_).swap
          obtain ⟨j, hj, ej⟩ := mem_drop_at hy
          exact Le.trans (show Le κ q p from e) (srt_at sb ep' ej hj)
        by_cases g3 : ia' + 1 + 1 = a.length
        · rw [if_pos (by rw [szA]; simpa using g3)]
          refine wpS_pure ⟨hs', .inl ⟨_, _, rfl, ?_⟩⟩
          rw [fL]; exact W2.last sb g3 hl
        · rw [if_neg (by rw [szA]; simpa using g3)]
          split
          · exact wpS_pure ⟨hs', .inr ⟨_, _, _, _, _, rfl, W2, by omega, by omega, by omega⟩⟩
          · exact wpS_pure ⟨_, _, _, _, _, rfl, W2, by omega, by omega, by omega, hs'⟩
    · rintro c st2 ⟨out', ia', ib', ac, bc, rfl, W', hia', hib', hm', hs'⟩
      exfalso
      rw [szA, szB] at hm'
      omega
    · rintro c st2 ⟨hs', ⟨r, z, rfl, hr⟩ | ⟨out', ia', ib', ac, bc, rfl, W', hia', hib', hm'⟩⟩
      · dsimp only
        exact wpS_pure ⟨_, _, rfl, hr, hs'⟩
      · dsimp only
        refine wpS_bind (m := liftM (rule _)) (wpS_lift (wpAny_rule ⟨rfl, ?_⟩))
        refine wpS_bind (wpS_mono (wpS_forRange (I := fun y c st' => ∃ o i j g ac bc, c = (none, o, i, j, g, ac, bc) ∧ Wv κ a b o.toList i j ∧ i + 1 < a.length ∧ j < b.length ∧ y + ia' + ib' ≤ i + j ∧ St0 st st')
          (Q := fun c st' => St0 st st' ∧ ((∃ r z, c = (some r, z) ∧ Pst κ a b r.toList) ∨ ∃ o i j g ac bc, c = (none, o, i, j, g, ac, bc) ∧ Wv κ a b o.toList i j ∧ i + 1 < a.length ∧ j < b.length ∧ ia' + ib' ≤ i + j)) ?_ ?_
          ⟨out', ia', ib', _, ac, bc, rfl, W', hia', hib', by omega, hs'⟩) ?_)
        · rintro y c st3 _ hy ⟨o, i, j, g', ac', bc', rfl, V, hi, hj, hm3, hs3⟩
          dsimp only
          obtain ⟨p, ep, ep', mp⟩ := atB j hj
          by_cases gg : g' > 1
          case' pos => rw [if_pos gg]
          case' neg => rw [if_neg gg]
          all_goals
            refine wpS_bind (s_setG hs3 fun st4 hs4 => ?_)
            refine wpS_bind (s_elem ep (wpS_bind (s_galL C (hs4.1.trans hk) mp ha (sa.sublist ((List.take_sublist _ _).trans (List.drop_sublist _ _))) (by rw [szA]; omega) (by rw [szA]; omega) fun k hk1 hk2 hk3 => ?_)))
            rw [szA] at hk1 hk3
            rw [List.take_of_length_le (by rw [List.length_drop]; omega), List.drop_drop] at hk3
            dsimp only
            have hp : ∀ y ∈ a.drop (i + k), Le κ p y := fun y hy => by
              have := hk3 y hy
              unfold bey at this; exact Le.of_lt (by simpa using this)
            by_cases g3 : k > 0
            · rw [if_pos g3]
              have V1 : Wv κ a b (o ++ a.toArray.extract i (i + k)).toList (i + k) j := by
                rw [Array.toList_append, ex_list2]
                refine (V.swap.app sa k fun x hx y hy => ?_).swap
                have := hk2 x hx
                unfold bey at this
                obtain ⟨jj, hjj, ejj⟩ := mem_drop_at hy
                exact Le.trans (show Le κ x p from (show Lb κ p x = false by simpa using this)) (srt_at sb ep' ejj hjj)
              by_cases g8 : i + k + 1 = a.length
              · rw [if_pos (by rw [szA]; simpa using g8)]
                refine wpS_pure ⟨hs4, .inl ⟨_, _, rfl, ?_⟩⟩
                rw [fL]; exact V1.last sb g8 hl
              rw [if_neg (by rw [szA]; simpa using g8)]
              by_cases g9 : i + k = a.length
              · rw [if_pos (by rw [szA]; simpa using g9)]
                refine wpS_pure ⟨hs4, .inl ⟨_, _, rfl, ?_⟩⟩
                rw [fD]; exact V1.done sa sb (.inl (by omega))
              rw [if_neg (by rw [szA]; simpa using g9)]
              refine wpS_bind (s_elem ep ?_)
              have V2 : Wv κ a b ((o ++ a.toArray.extract i (i + k)).push p).toList (i + k) (j + 1) := by
                rw [Array.toList_push]
                exact V1.push sb ep' hp
              by_cases g4 : j + 1 = b.length
              · rw [if_pos (by rw [szB]; simpa using g4)]
                refine wpS_pure ⟨hs4, .inl ⟨_, _, rfl, ?_⟩⟩
                rw [fD]; exact V2.done sa sb (.inr (by omega))
              rw [if_neg (by rw [szB]; simpa using g4)]
              obtain ⟨q, eq, eq', mq⟩ := atA (i + k) (by omega)
              refine wpS_bind (s_elem eq (wpS_bind (s_galL C (hs4.1.trans hk) mq hb (sb.sublist ((List.take_sublist _ _).trans (List.drop_sublist _ _))) (by rw [szB]; omega) (by rw [szB]; omega) fun k' hk1' hk2' hk3' => ?_)))
              rw [szB] at hk1' hk3'
              rw [List.take_of_length_le (by rw [List.length_drop]; omega), List.drop_drop] at hk3'
              dsimp only
              have hq : ∀ y ∈ b.drop (j + 1 + k'), Le κ q y := fun y hy => by
                have := hk3' y hy
                unfold bey at this; exact (show Lb κ y q = false by simpa using this)
              by_cases g6 : k' > 0
              · rw [if_pos g6]
                have V3 : Wv κ a b ((o ++ a.toArray.extract i (i + k)).push p ++ b.toArray.extract (j + 1) (j + 1 + k')).toList (i + k) (j + 1 + k') := by
                  rw [Array.toList_append, ex_list2]
                  refine V2.app sb k' fun x hx y hy => ?_
                  have := hk2' x hx
                  unfold bey at this
                  obtain ⟨jj, hjj, ejj⟩ := mem_drop_at hy
                  exact Le.trans (Le.of_lt (by simpa using this)) (srt_at sa eq' ejj hjj)
                by_cases g7 : j + 1 + k' = b.length
                · rw [if_pos (by rw [szB]; simpa using g7)]
                  refine wpS_pure ⟨hs4, .inl ⟨_, _, rfl, ?_⟩⟩
                  rw [fD]; exact V3.done sa sb (.inr (by omega))
                · rw [if_neg (by rw [szB]; simpa using g7)]
                  refine wpS_bind (s_elem eq ?_)
                  have V4 : Wv κ a b (((o ++ a.toArray.extract i (i + k)).push p ++ b.toArray.extract (j + 1) (j + 1 + k')).push q).toList (i + k + 1) (j + 1 + k') := by
                    rw [Array.toList_push]
                    exact (V3.swap.push sa eq' hq).swap
                  by_cases g5 : i + k + 1 + 1 = a.length
                  · rw [if_pos (by rw [szA]; simpa using g5)]
                    refine wpS_pure ⟨hs4, .inl ⟨_, _, rfl, ?_⟩⟩
                    rw [fL]; exact V4.last sb g5 hl
                  · rw [if_neg (by rw [szA]; simpa using g5)]
                    split
                    · exact wpS_pure ⟨hs4, .inr ⟨_, _, _, _, _, _, rfl, V4, by omega, by omega, by omega⟩⟩
                    · exact wpS_pure ⟨_, _, _, _, _, _, rfl, V4, by omega, by omega, by omega, hs4⟩
              · rw [if_neg g6]
                have e0 : k' = 0 := by omega
                subst e0
                rw [Nat.add_zero] at hq
                refine wpS_bind (s_elem eq ?_)
                have V4 : Wv κ a b (((o ++ a.toArray.extract i (i + k)).push p).push q).toList (i + k + 1) (j + 1) := by
                  rw [Array.toList_push]
                  exact (V2.swap.push sa eq' hq).swap
                by_cases g5 : i + k + 1 + 1 = a.length
                · rw [if_pos (by rw [szA]; simpa using g5)]
                  refine wpS_pure ⟨hs4, .inl ⟨_, _, rfl, ?_⟩⟩
                  rw [fL]; exact V4.last sb g5 hl
                · rw [if_neg (by rw [szA]; simpa using g5)]
                  split
                  · exact wpS_pure ⟨hs4, .inr ⟨_, _, _, _, _, _, rfl, V4, by omega, by omega, by omega⟩⟩
                  · exact wpS_pure ⟨_, _, _, _, _, _, rfl, V4, by omega, by omega, by omega, hs4⟩
            · rw [if_neg g3]
              have e0 : k = 0 := by omega
              subst e0
              rw [Nat.add_zero] at hp
              refine wpS_bind (s_elem ep ?_)
              have V2 : Wv κ a b (o.push p).toList (i) (j + 1) := by
                rw [Array.toList_push]
                exact V.push sb ep' hp
              by_cases g4 : j + 1 = b.length
              · rw [if_pos (by rw [szB]; simpa using g4)]
                refine wpS_pure ⟨hs4, .inl ⟨_, _, rfl, ?_⟩⟩
                rw [fD]; exact V2.done sa sb (.inr (by omega))
              rw [if_neg (by rw [szB]; simpa using g4)]
              obtain ⟨q, eq, eq', mq⟩ := atA (i) (by omega)
              refine wpS_bind (s_elem eq (wpS_bind (s_galL C (hs4.1.trans hk) mq hb (sb.sublist ((List.take_sublist _ _).trans (List.drop_sublist _ _))) (by rw [szB]; omega) (by rw [szB]; omega) fun k' hk1' hk2' hk3' => ?_)))
              rw [szB] at hk1' hk3'
              rw [List.take_of_length_le (by rw [List.length_drop]; omega), List.drop_drop] at hk3'
              dsimp only
              have hq : ∀ y ∈ b.drop (j + 1 + k'), Le κ q y := fun y hy => by
                have := hk3' y hy
                unfold bey at this; exact (show Lb κ y q = false by simpa using this)
              by_cases g6 : k' > 0
              · rw [if_pos g6]
                have V3 : Wv κ a b (o.push p ++ b.toArray.extract (j + 1) (j + 1 + k')).toList (i) (j + 1 + k') := by
                  rw [Array.toList_append, ex_list2]
                  refine V2.app sb k' fun x hx y hy => ?_
                  have := hk2' x hx
                  unfold bey at this
                  obtain ⟨jj, hjj, ejj⟩ := mem_drop_at hy
                  exact Le.trans (Le.of_lt (by simpa using this)) (srt_at sa eq' ejj hjj)
                by_cases g7 : j + 1 + k' = b.length
                · rw [if_pos (by rw [szB]; simpa using g7)]
                  refine wpS_pure ⟨hs4, .inl ⟨_, _, rfl, ?_⟩⟩
                  rw [fD]; exact V3.done sa sb (.inr (by omega))
                · rw [if_neg (by rw [szB]; simpa using g7)]
                  refine wpS_bind (s_elem eq ?_)
                  have V4 : Wv κ a b ((o.push p ++ b.toArray.extract (j + 1) (j + 1 + k')).push q).toList (i + 1) (j + 1 + k') := by
                    rw [Array.toList_push]
                    exact (V3.swap.push sa eq' hq).swap
                  by_cases g5 : i + 1 + 1 = a.length
                  · rw [if_pos (by rw [szA]; simpa using g5)]
                    refine wpS_pure ⟨hs4, .inl ⟨_, _, rfl, ?_⟩⟩
                    rw [fL]; exact V4.last sb g5 hl
                  · rw [if_neg (by rw [szA]; simpa using g5)]
                    split
                    · exact wpS_pure ⟨hs4, .inr ⟨_, _, _, _, _, _, rfl, V4, by omega, by omega, by omega⟩⟩
                    · exact wpS_pure ⟨_, _, _, _, _, _, rfl, V4, by omega, by omega, by omega, hs4⟩
              · rw [if_neg g6]
                have e0 : k' = 0 := by omega
                subst e0
                rw [Nat.add_zero] at hq
                refine wpS_bind (s_elem eq ?_)
                have V4 : Wv κ a b ((o.push p).push q).toList (i + 1) (j + 1) := by
                  rw [Array.toList_push]
                  exact (V2.swap.push sa eq' hq).swap
                by_cases g5 : i + 1 + 1 = a.length
                · rw [if_pos (by rw [szA]; simpa using g5)]
                  refine wpS_pure ⟨hs4, .inl ⟨_, _, rfl, ?_⟩⟩
                  rw [fL]; exact V4.last sb g5 hl
                · rw [if_neg (by rw [szA]; simpa using g5)]
                  split
                  · exact wpS_pure ⟨hs4, .inr ⟨_, _, _, _, _, _, rfl, V4, by omega, by omega, by omega⟩⟩
                  · exact wpS_pure ⟨_, _, _, _, _, _, rfl, V4, by omega, by omega, by omega, hs4⟩
        · rintro c st3 ⟨o, i, j, g', ac', bc', rfl, V, hi, hj, hm3, hs3⟩
          exfalso
          rw [szA, szB] at hm3
          omega
        · rintro c st3 ⟨hs3, ⟨r, z, rfl, hr⟩ | ⟨o, i, j, g', ac', bc', rfl, V, hi, hj, hm3⟩⟩
          · dsimp only
            exact wpS_pure ⟨_, _, rfl, hr, hs3⟩
          · dsimp only
            refine wpS_bind (s_setG hs3 fun st4 hs4 => ?_)
            exact wpS_pure ⟨_, _, _, _, rfl, V, hi, hj, by omega, hs4⟩
  · rintro c st1 ⟨out, ia, ib, g, rfl, W, hia, hib, hm, hs⟩
    exfalso
    rw [szA, szB] at hm
    omega
  · rintro c st1 ⟨r, z, rfl, hr, hs⟩
    exact wpS_pure (h r st1 hs hr)
end
end TS
end
section
set_option linter.all false
set_option maxRecDepth 100000
set_option maxHeartbeats 4000000
namespace TS
open PySem PyProof.Rows
structure Vv (κ : KeyKind) (a b out : List Keyed) (na nb : Nat) : Prop where
  perm : out.Perm (a.drop na ++ b.drop nb)
  srt : out.Pairwise (fun x y => Le κ y x)
  la : ∀ x ∈ out, ∀ y ∈ a.take na, Le κ y x
  lb : ∀ x ∈ out, ∀ y ∈ b.take nb, Le κ y x
section
variable {κ : KeyKind} {a b out : List Keyed} {na nb : Nat}
theorem Vv.swap (h : Vv κ a b out na nb) : Vv κ b a out nb na := ⟨h.perm.trans List.perm_append_comm, h.srt, h.lb, h.la⟩
theorem seg_drop (l : List Keyed) {i j : Nat} (h : i ≤ j) : l.drop i = (l.drop i).take (j - i) ++ l.drop j := by
  have e : l.drop j = (l.drop i).drop (j - i) := by rw [List.drop_drop, show i + (j - i) = j by omega]
  rw [e, List.take_append_drop]
theorem seg_take (l : List Keyed) {i j : Nat} (h : i ≤ j) : l.take j = l.take i ++ (l.drop i).take (j - i) := by
  have e := List.take_add (l := l) (i := i) (j := j - i)
  rwa [show i + (j - i) = j by omega] at e
theorem Vv.app (h : Vv κ a b out na nb) (sb : b.Pairwise (Le κ)) {k : Nat} (hk : k ≤ nb) (hle : ∀ x ∈ (b.drop k).take (nb - k), ∀ y ∈ a.take na, Le κ y x) :
    Vv κ a b (out ++ ((b.drop k).take (nb - k)).reverse) na k := by
  have e1 := seg_drop b hk
  have e2 := seg_take b hk
  have st : (b.take nb).Pairwise (Le κ) := sb.sublist (List.take_sublist _ _)
  rw [e2] at st
  refine ⟨?_, ?_, ?_, ?_⟩
  · refine List.Perm.trans ?_ (List.Perm.of_eq (congrArg (a.drop na ++ ·) e1.symm))
    show List.Perm _ (a.drop na ++ ((b.drop k).take (nb - k) ++ b.drop nb))
    have p1 : (out ++ ((b.drop k).take (nb - k)).reverse).Perm ((a.drop na ++ b.drop nb) ++ (b.drop k).take (nb - k)) := h.perm.append (List.reverse_perm _)
    refine p1.trans ?_
    rw [List.append_assoc]
    exact List.Perm.append_left _ List.perm_append_comm
  · refine List.pairwise_append.mpr ⟨h.srt, List.pairwise_reverse.mpr (List.pairwise_append.mp st).2.1, fun x hx y hy => ?_⟩
    exact h.lb x hx y (by rw [e2]; exact List.mem_append_right _ (List.mem_reverse.mp hy))
  · intro x hx y hy
    rcases List.mem_append.mp hx with hx | hx
    · exact h.la x hx y hy
    · exact hle x (List.mem_reverse.mp hx) y hy
  · intro x hx y hy
    rcases List.mem_append.mp hx with hx | hx
    · exact h.lb x hx y (by rw [e2]; exact List.mem_append_left _ hy)
    · exact (List.pairwise_append.mp st).2.2 y hy x (List.mem_reverse.mp hx)
theorem seg1 {l : List Keyed} {i j : Nat} {p : Keyed} (hj : j = i + 1) (h : l[i]? = some p) : (l.drop i).take (j - i) = [p] := by
  rw [show j - i = 1 by omega]; exact take1 h
theorem Vv.push (h : Vv κ a b out na nb) (sb : b.Pairwise (Le κ)) {p : Keyed} {k : Nat} (hk : nb = k + 1) (hp : b[k]? = some p) (hle : ∀ y ∈ a.take na, Le κ y p) : Vv κ a b (out ++ [p]) na k := by
  have := h.app sb (k := k) (by omega) (by rw [seg1 hk hp]; intro x hx y hy; rw [List.mem_singleton.mp hx]; exact hle y hy)
  rwa [seg1 hk hp, List.reverse_singleton] at this
theorem Vv.cat (h : Vv κ a b out na nb) {rest : List Keyed} (hp : rest.Perm (a.take na ++ b.take nb)) (hs : rest.Pairwise (Le κ)) : Pst κ a b (rest ++ out.reverse) := by
  refine ⟨?_, List.pairwise_append.mpr ⟨hs, List.pairwise_reverse.mpr h.srt, fun x hx y hy => ?_⟩⟩
  · have p1 : (rest ++ out.reverse).Perm ((a.take na ++ b.take nb) ++ (a.drop na ++ b.drop nb)) := hp.append ((List.reverse_perm _).trans h.perm)
    have p2 : ((a.take na ++ b.take nb) ++ (a.drop na ++ b.drop nb)).Perm ((a.take na ++ a.drop na) ++ (b.take nb ++ b.drop nb)) := by
      rw [List.append_assoc, List.append_assoc]
      refine List.Perm.append_left _ ?_
      rw [← List.append_assoc, ← List.append_assoc]
      exact List.perm_append_comm.append_right _
    rw [List.take_append_drop, List.take_append_drop] at p2
    exact p1.trans p2
  · have hy' := List.mem_reverse.mp hy
    rcases List.mem_append.mp (hp.mem_iff.mp hx) with q | q
    · exact h.la y hy' x q
    · exact h.lb y hy' x q
theorem Vv.done (h : Vv κ a b out na nb) (sa : a.Pairwise (Le κ)) (sb : b.Pairwise (Le κ)) (hz : na = 0 ∨ nb = 0) : Pst κ a b (a.take na ++ b.take nb ++ out.reverse) := by
  refine h.cat (List.Perm.refl _) ?_
  rcases hz with z | z
  · rw [z, List.take_zero, List.nil_append]; exact sb.sublist (List.take_sublist _ _)
  · rw [z, List.take_zero, List.append_nil]; exact sa.sublist (List.take_sublist _ _)
theorem Vv.first (h : Vv κ a b out na nb) (sa : a.Pairwise (Le κ)) (hz : nb = 1) (h0 : ∀ p, b[0]? = some p → ∀ x ∈ a, Le κ p x) : Pst κ a b (b.take nb ++ a.take na ++ out.reverse) := by
  refine h.cat List.perm_append_comm ?_
  rw [hz]
  refine List.pairwise_append.mpr ⟨?_, sa.sublist (List.take_sublist _ _), fun x hx y hy => ?_⟩
  · cases b with
    | nil => exact List.Pairwise.nil
    | cons p r => exact List.pairwise_singleton _ _
  · cases b with
    | nil => cases hx
    | cons p r =>
      have e : x = p := by simpa using hx
      rw [e]; exact h0 p rfl y (List.mem_of_mem_take hy)
end
section
variable {prog : Program} {w : World} {A : Around} {E : Value → Shared → Prop} {s : Shared} {κ : KeyKind} {kd : SortKind} {a₀ : Array Keyed} {st : SortSt}
theorem mem_take_at {l : List Keyed} {n : Nat} {x : Keyed} (h : x ∈ l.take n) : ∃ j, j < n ∧ l[j]? = some x := by
  obtain ⟨j, hj, e⟩ := List.getElem_of_mem h
  rw [List.length_take] at hj
  rw [List.getElem_take] at e
  exact ⟨j, by omega, by rw [← e]; exact List.getElem?_eq_getElem (by omega)⟩
theorem s_gal0 (C : Cmp prog w A s κ kd a₀) (hk : kindOf st = kd) {left : Bool} {key : Keyed} {l : List Keyed} {n hint : Nat} {Q : Option Nat → SortSt → Prop} (hkey : key ∈ a₀.toList)
    (hm : ∀ p ∈ l, p ∈ a₀.toList) (hs : l.Pairwise (Le κ)) (hb : n ≤ l.length) (hh : hint < n)
    (h : ∀ k, k ≤ n → (∀ x ∈ l.take k, bey κ left key x = true) → (∀ x ∈ (l.drop k).take (n - k), bey κ left key x = false) → Q (some k) st) :
    wpS (model prog w) A E s (gal left key l.toArray 0 n hint) Q st := by
  refine s_galL C hk hkey hm (hs.sublist ((List.take_sublist _ _).trans (List.drop_sublist _ _))) (by omega) hh fun k h1 h2 h3 => ?_
  rw [List.drop_zero] at h2 h3
  rw [List.drop_take] at h3
  exact h k h1 h2 h3
theorem s_mHi {a b : List Keyed} {Q : Array Keyed → SortSt → Prop} (C : Cmp prog w A s κ kd a₀) (hk : kindOf st = kd) (ha : ∀ p ∈ a, p ∈ a₀.toList) (hb : ∀ p ∈ b, p ∈ a₀.toList)
    (sa : a.Pairwise (Le κ)) (sb : b.Pairwise (Le κ)) (pa : 0 < a.length) (pb : 0 < b.length) (h0 : ∀ p, b[0]? = some p → ∀ x ∈ a, Le κ p x) (hl : ∀ y ∈ b, ∀ x, a[a.length - 1]? = some x → Le κ y x)
    (h : ∀ r st', St0 st st' → Pst κ a b r.toList → Q r st') : wpS (model prog w) A E s (mHi a.toArray b.toArray) Q st := by
  have atA : ∀ i, i < a.length → ∃ p, a.toArray[i]? = some p ∧ a[i]? = some p ∧ p ∈ a₀.toList := fun i hi => ⟨a[i], by simp [hi], by simp [hi], ha _ (List.getElem_mem hi)⟩
  have atB : ∀ i, i < b.length → ∃ p, b.toArray[i]? = some p ∧ b[i]? = some p ∧ p ∈ a₀.toList := fun i hi => ⟨b[i], by simp [hi], by simp [hi], hb _ (List.getElem_mem hi)⟩
  have fD : ∀ (out : Array Keyed) na nb, (a.toArray.extract 0 na ++ b.toArray.extract 0 nb ++ out.reverse).toList = a.take na ++ b.take nb ++ out.toList.reverse := fun out na nb => by simp
  have fF : ∀ (out : Array Keyed) na nb, (b.toArray.extract 0 nb ++ a.toArray.extract 0 na ++ out.reverse).toList = b.take nb ++ a.take na ++ out.toList.reverse := fun out na nb => by simp
  have fR : ∀ (l : List Keyed) (out : Array Keyed) i j, (out ++ (l.toArray.extract i j).reverse).toList = out.toList ++ ((l.drop i).take (j - i)).reverse := fun l out i j => by simp
  have szA : a.toArray.size = a.length := by simp
  have szB : b.toArray.size = b.length := by simp
  obtain ⟨al, ea, ea', ma⟩ := atA (a.length - 1) (by omega)
  have w0 : Vv κ a b [al] (a.length - 1) b.length := by
    have e : a.drop (a.length - 1) = [al] := by
      obtain ⟨hi, e⟩ := List.getElem?_eq_some_iff.mp ea'
      rw [List.drop_eq_getElem_cons hi, e, List.drop_eq_nil_of_le (by omega)]
    refine ⟨by rw [e, List.drop_eq_nil_of_le (Nat.le_refl _), List.append_nil], List.pairwise_singleton _ _, fun x hx y hy => ?_, fun x hx y hy => ?_⟩
    · rw [List.mem_singleton.mp hx]
      obtain ⟨j, hj, ej⟩ := mem_take_at hy
      exact srt_at sa ej ea' (by omega)
    · rw [List.mem_singleton.mp hx]
      exact hl y (List.mem_of_mem_take hy) _ ea'
  refine wpS_bind (m := liftM (rule _)) (wpS_lift (wpAny_rule ⟨rfl, ?_⟩))
  dsimp only
  rw [← szA] at ea w0
  rw [← szB] at w0
  refine wpS_bind (s_elem ea ?_)
  by_cases g1 : a.toArray.size - 1 = 0
  · rw [if_pos (by simpa using g1)]
    refine wpS_pure (h _ _ (St0.refl _) ?_)
    rw [fD]; exact w0.done sa sb (.inl g1)
  rw [if_neg (by simpa using g1)]
  by_cases g2 : b.toArray.size = 1
  · rw [if_pos (by simpa using g2)]
    refine wpS_pure (h _ _ (St0.refl _) ?_)
    rw [fF]; exact w0.first sa g2 h0
  rw [if_neg (by simpa using g2)]
  refine wpS_bind (wpS_get ?_)
  refine wpS_bind (wpS_mono (wpS_forRange (I := fun x c st' => ∃ na nb out g, c = (none, na, nb, out, g) ∧ Vv κ a b out.toList na nb ∧ 0 < na ∧ na < a.length ∧ 1 < nb ∧ nb ≤ b.length ∧ x + na + nb < a.length + b.length ∧ St0 st st')
    (Q := fun c st' => ∃ r z, c = (some r, z) ∧ Pst κ a b r.toList ∧ St0 st st') ?_ ?_ ⟨_, _, _, _, rfl, w0, by omega, by omega, by omega, by omega, by omega, St0.refl _⟩) ?_)
  · rintro x c st1 _ hx ⟨na, nb, out, g, rfl, W, hia, hia2, hib, hib2, hm, hs⟩
    dsimp only
    refine wpS_bind (wpS_mono (wpS_forRange (I := fun y c st' => ∃ na' nb' out' ac bc, c = (none, na', nb', out', ac, bc) ∧ Vv κ a b out'.toList na' nb' ∧ 0 < na' ∧ na' < a.length ∧ 1 < nb' ∧ nb' ≤ b.length ∧ y + na' + nb' ≤ na + nb ∧ St0 st st')
      (Q := fun c st' => St0 st st' ∧ ((∃ r z, c = (some r, z) ∧ Pst κ a b r.toList) ∨ ∃ na' nb' out' ac bc, c = (none, na', nb', out', ac, bc) ∧ Vv κ a b out'.toList na' nb' ∧ 0 < na' ∧ na' < a.length ∧ 1 < nb' ∧ nb' ≤ b.length ∧ 1 + na' + nb' ≤ na + nb)) ?_ ?_
      ⟨na, nb, out, 0, 0, rfl, W, hia, hia2, hib, hib2, by omega, hs⟩) ?_)
    · rintro y c st2 _ hy ⟨na', nb', out', ac, bc, rfl, W', h1', h2', h3', h4', hm', hs'⟩
      dsimp only
      obtain ⟨p, ep, ep', mp⟩ := atB (nb' - 1) (by omega)
      obtain ⟨q, eq, eq', mq⟩ := atA (na' - 1) (by omega)
      refine wpS_bind (s_elem ep (wpS_bind (s_elem eq (wpS_bind (s_lt C mp mq (hs'.1.trans hk) ?_)))))
      cases e : Lb κ p q with
      | true =>
        simp only [if_true]
        refine wpS_bind (s_elem eq ?_)
        have W2 : Vv κ a b (out'.push q).toList (na' - 1) nb' := by
          rw [Array.toList_push]
          refine (W'.swap.push sa (by omega) eq' fun y hy => ?_).swap
          obtain ⟨j, hj, ej⟩ := mem_take_at hy
          exact Le.trans (srt_at sb ej ep' (by omega)) (Le.of_lt e)
        by_cases g3 : na' - 1 = 0
        · rw [if_pos (by simpa using g3)]
          refine wpS_pure ⟨hs', .inl ⟨_, _, rfl, ?_⟩⟩
          rw [fD]; exact W2.done sa sb (.inl g3)
        · rw [if_neg (by simpa using g3)]
          split
          · exact wpS_pure ⟨hs', .inr ⟨_, _, _, _, _, rfl, W2, by omega, by omega, by omega, by omega, by omega⟩⟩
          · exact wpS_pure ⟨_, _, _, _, _, rfl, W2, by omega, by omega, by omega, by omega, by omega, hs'⟩
      | false =>
        simp only [Bool.false_eq_true, if_false]
        refine wpS_bind (s_elem ep ?_)
        have W2 : Vv κ a b (out'.push p).toList na' (nb' - 1) := by
          rw [Array.toList_push]
          refine W'.push sb (by omega) ep' fun y hy => ?_
          obtain ⟨j, hj, ej⟩ := mem_take_at hy
          exact Le.trans (srt_at sa ej eq' (by omega)) (show Le κ q p from e)
        by_cases g3 : nb' - 1 = 1
        · rw [if_pos (by simpa using g3)]
          refine wpS_pure ⟨hs', .inl ⟨_, _, rfl, ?_⟩⟩
          rw [fF]; exact W2.first sa g3 h0
        · rw [if_neg (by simpa using g3)]
          split
          · exact wpS_pure ⟨hs', .inr ⟨_, _, _, _, _, rfl, W2, by omega, by omega, by omega, by omega, by omega⟩⟩
          · exact wpS_pure ⟨_, _, _, _, _, rfl, W2, by omega, by omega, by omega, by omega, by omega, hs'⟩
    · rintro c st2 ⟨na', nb', out', ac, bc, rfl, W', h1', h2', h3', h4', hm', hs'⟩
      exfalso
      rw [szA, szB] at hm'
      omega
    · rintro c st2 ⟨hs', ⟨r, z, rfl, hr⟩ | ⟨na', nb', out', ac, bc, rfl, W', h1', h2', h3', h4', hm'⟩⟩
      · dsimp only
        exact wpS_pure ⟨_, _, rfl, hr, hs'⟩
      · dsimp only
        refine wpS_bind (m := liftM (rule _)) (wpS_lift (wpAny_rule ⟨rfl, ?_⟩))
        refine wpS_bind (wpS_mono (wpS_forRange (I := fun y c st' => ∃ i j o g ac bc, c = (none, i, j, o, g, ac, bc) ∧ Vv κ a b o.toList i j ∧ 0 < i ∧ i < a.length ∧ 1 < j ∧ j ≤ b.length ∧ y + i + j ≤ na' + nb' ∧ St0 st st')
          (Q := fun c st' => St0 st st' ∧ ((∃ r z, c = (some r, z) ∧ Pst κ a b r.toList) ∨ ∃ i j o g ac bc, c = (none, i, j, o, g, ac, bc) ∧ Vv κ a b o.toList i j ∧ 0 < i ∧ i < a.length ∧ 1 < j ∧ j ≤ b.length ∧ i + j ≤ na' + nb')) ?_ ?_
          ⟨na', nb', out', _, ac, bc, rfl, W', h1', h2', h3', h4', by omega, hs'⟩) ?_)
        · rintro y c st3 _ hy ⟨i, j, o, g', ac', bc', rfl, V, hi, hi2, hj, hj2, hm3, hs3⟩
          dsimp only
          obtain ⟨p, ep, ep', mp⟩ := atB (j - 1) (by omega)
          by_cases gg : g' > 1
          case' pos => rw [if_pos gg]
          case' neg => rw [if_neg gg]
          all_goals
            refine wpS_bind (s_setG hs3 fun st4 hs4 => ?_)
            refine wpS_bind (s_elem ep (wpS_bind (s_gal0 C (hs4.1.trans hk) mp ha sa (by omega) (by omega) fun k hk1 hk2 hk3 => ?_)))
            dsimp only
            have hp : ∀ y ∈ a.take k, Le κ y p := fun y hy => by
              have := hk2 y hy
              unfold bey at this; exact (show Lb κ p y = false by simpa using this)
            by_cases g3 : i - k > 0
            · rw [if_pos g3]
              have V1 : Vv κ a b (o ++ (a.toArray.extract k i).reverse).toList k j := by
                rw [fR]
                refine (V.swap.app sa hk1 fun x hx y hy => ?_).swap
                have := hk3 x hx
                unfold bey at this
                obtain ⟨jj, hjj, ejj⟩ := mem_take_at hy
                exact Le.trans (srt_at sb ejj ep' (by omega)) (Le.of_lt (show Lb κ p x = true by simpa using this))
              by_cases g9 : k = 0
              · rw [if_pos (by simpa using g9)]
                refine wpS_pure ⟨hs4, .inl ⟨_, _, rfl, ?_⟩⟩
                rw [fD]; exact V1.done sa sb (.inl g9)
              rw [if_neg (by simpa using g9)]
              refine wpS_bind (s_elem ep ?_)
              have V2 : Vv κ a b ((o ++ (a.toArray.extract k i).reverse).push p).toList (k) (j - 1) := by
                rw [Array.toList_push]
                exact V1.push sb (by omega) ep' hp
              by_cases g4 : j - 1 = 1
              · rw [if_pos (by simpa using g4)]
                refine wpS_pure ⟨hs4, .inl ⟨_, _, rfl, ?_⟩⟩
                rw [fF]; exact V2.first sa g4 h0
              rw [if_neg (by simpa using g4)]
              obtain ⟨q, eq, eq', mq⟩ := atA (k - 1) (by omega)
              refine wpS_bind (s_elem eq (wpS_bind (s_gal0 C (hs4.1.trans hk) mq hb sb (by omega) (by omega) fun k' hk1' hk2' hk3' => ?_)))
              dsimp only
              have hq : ∀ y ∈ b.take k', Le κ y q := fun y hy => by
                have := hk2' y hy
                unfold bey at this; exact Le.of_lt (by simpa using this)
              by_cases g6 : j - 1 - k' > 0
              · rw [if_pos g6]
                have V3 : Vv κ a b ((o ++ (a.toArray.extract k i).reverse).push p ++ (b.toArray.extract k' (j - 1)).reverse).toList (k) k' := by
                  rw [fR]
                  refine V2.app sb hk1' fun x hx y hy => ?_
                  have := hk3' x hx
                  unfold bey at this
                  obtain ⟨jj, hjj, ejj⟩ := mem_take_at hy
                  exact Le.trans (srt_at sa ejj eq' (by omega)) (show Le κ q x from (show Lb κ x q = false by simpa using this))
                by_cases g7 : k' = 1
                · rw [if_pos (by simpa using g7)]
                  refine wpS_pure ⟨hs4, .inl ⟨_, _, rfl, ?_⟩⟩
                  rw [fF]; exact V3.first sa g7 h0
                rw [if_neg (by simpa using g7)]
                by_cases g8 : k' = 0
                · rw [if_pos (by simpa using g8)]
                  refine wpS_pure ⟨hs4, .inl ⟨_, _, rfl, ?_⟩⟩
                  rw [fD]; exact V3.done sa sb (.inr g8)
                · rw [if_neg (by simpa using g8)]
                  refine wpS_bind (s_elem eq ?_)
                  have V4 : Vv κ a b (((o ++ (a.toArray.extract k i).reverse).push p ++ (b.toArray.extract k' (j - 1)).reverse).push q).toList (k - 1) (k') := by
                    rw [Array.toList_push]
                    exact (V3.swap.push sa (by omega) eq' hq).swap
                  by_cases g5 : k - 1 = 0
                  · rw [if_pos (by simpa using g5)]
                    refine wpS_pure ⟨hs4, .inl ⟨_, _, rfl, ?_⟩⟩
                    rw [fD]; exact V4.done sa sb (.inl g5)
                  · rw [if_neg (by simpa using g5)]
                    split
                    · exact wpS_pure ⟨hs4, .inr ⟨_, _, _, _, _, _, rfl, V4, by omega, by omega, by omega, by omega, by omega⟩⟩
                    · exact wpS_pure ⟨_, _, _, _, _, _, rfl, V4, by omega, by omega, by omega, by omega, by omega, hs4⟩
              · rw [if_neg g6]
                have e0 : k' = j - 1 := by omega
                subst e0
                refine wpS_bind (s_elem eq ?_)
                have V4 : Vv κ a b (((o ++ (a.toArray.extract k i).reverse).push p).push q).toList (k - 1) (j - 1) := by
                  rw [Array.toList_push]
                  exact (V2.swap.push sa (by omega) eq' hq).swap
                by_cases g5 : k - 1 = 0
                · rw [if_pos (by simpa using g5)]
                  refine wpS_pure ⟨hs4, .inl ⟨_, _, rfl, ?_⟩⟩
                  rw [fD]; exact V4.done sa sb (.inl g5)
                · rw [if_neg (by simpa using g5)]
                  split
                  · exact wpS_pure ⟨hs4, .inr ⟨_, _, _, _, _, _, rfl, V4, by omega, by omega, by omega, by omega, by omega⟩⟩
                  · exact wpS_pure ⟨_, _, _, _, _, _, rfl, V4, by omega, by omega, by omega, by omega, by omega, hs4⟩
            · rw [if_neg g3]
              have e0 : k = i := by omega
              subst e0
              refine wpS_bind (s_elem ep ?_)
              have V2 : Vv κ a b (o.push p).toList (k) (j - 1) := by
                rw [Array.toList_push]
                exact V.push sb (by omega) ep' hp
              by_cases g4 : j - 1 = 1
              · rw [if_pos (by simpa using g4)]
                refine wpS_pure ⟨hs4, .inl ⟨_, _, rfl, ?_⟩⟩
                rw [fF]; exact V2.first sa g4 h0
              rw [if_neg (by simpa using g4)]
              obtain ⟨q, eq, eq', mq⟩ := atA (k - 1) (by omega)
              refine wpS_bind (s_elem eq (wpS_bind (s_gal0 C (hs4.1.trans hk) mq hb sb (by omega) (by omega) fun k' hk1' hk2' hk3' => ?_)))
              dsimp only
              have hq : ∀ y ∈ b.take k', Le κ y q := fun y hy => by
                have := hk2' y hy
                unfold bey at this; exact Le.of_lt (by simpa using this)
              by_cases g6 : j - 1 - k' > 0
              · rw [if_pos g6]
                have V3 : Vv κ a b (o.push p ++ (b.toArray.extract k' (j - 1)).reverse).toList (k) k' := by
                  rw [fR]
                  refine V2.app sb hk1' fun x hx y hy => ?_
                  have := hk3' x hx
                  unfold bey at this
                  obtain ⟨jj, hjj, ejj⟩ := mem_take_at hy
                  exact Le.trans (srt_at sa ejj eq' (by omega)) (show Le κ q x from (show Lb κ x q = false by simpa using this))
                by_cases g7 : k' = 1
                · rw [if_pos (by simpa using g7)]
                  refine wpS_pure ⟨hs4, .inl ⟨_, _, rfl, ?_⟩⟩
                  rw [fF]; exact V3.first sa g7 h0
                rw [if_neg (by simpa using g7)]
                by_cases g8 : k' = 0
                · rw [if_pos (by simpa using g8)]
                  refine wpS_pure ⟨hs4, .inl ⟨_, _, rfl, ?_⟩⟩
                  rw [fD]; exact V3.done sa sb (.inr g8)
                · rw [if_neg (by simpa using g8)]
                  refine wpS_bind (s_elem eq ?_)
                  have V4 : Vv κ a b ((o.push p ++ (b.toArray.extract k' (j - 1)).reverse).push q).toList (k - 1) (k') := by
                    rw [Array.toList_push]
                    exact (V3.swap.push sa (by omega) eq' hq).swap
                  by_cases g5 : k - 1 = 0
                  · rw [if_pos (by simpa using g5)]
                    refine wpS_pure ⟨hs4, .inl ⟨_, _, rfl, ?_⟩⟩
                    rw [fD]; exact V4.done sa sb (.inl g5)
                  · rw [if_neg (by simpa using g5)]
                    split
                    · exact wpS_pure ⟨hs4, .inr ⟨_, _, _, _, _, _, rfl, V4, by omega, by omega, by omega, by omega, by omega⟩⟩
                    · exact wpS_pure ⟨_, _, _, _, _, _, rfl, V4, by omega, by omega, by omega, by omega, by omega, hs4⟩
              · rw [if_neg g6]
                have e0 : k' = j - 1 := by omega
                subst e0
                refine wpS_bind (s_elem eq ?_)
                have V4 : Vv κ a b ((o.push p).push q).toList (k - 1) (j - 1) := by
                  rw [Array.toList_push]
                  exact (V2.swap.push sa (by omega) eq' hq).swap
                by_cases g5 : k - 1 = 0
                · rw [if_pos (by simpa using g5)]
                  refine wpS_pure ⟨hs4, .inl ⟨_, _, rfl, ?_⟩⟩
                  rw [fD]; exact V4.done sa sb (.inl g5)
                · rw [if_neg (by simpa using g5)]
                  split
                  · exact wpS_pure ⟨hs4, .inr ⟨_, _, _, _, _, _, rfl, V4, by omega, by omega, by omega, by omega, by omega⟩⟩
                  · exact wpS_pure ⟨_, _, _, _, _, _, rfl, V4, by omega, by omega, by omega, by omega, by omega, hs4⟩
        · rintro c st3 ⟨i, j, o, g', ac', bc', rfl, V, hi, hi2, hj, hj2, hm3, hs3⟩
          exfalso
          rw [szA, szB] at hm3
          omega
        · rintro c st3 ⟨hs3, ⟨r, z, rfl, hr⟩ | ⟨i, j, o, g', ac', bc', rfl, V, hi, hi2, hj, hj2, hm3⟩⟩
          · dsimp only
            exact wpS_pure ⟨_, _, rfl, hr, hs3⟩
          · dsimp only
            refine wpS_bind (s_setG hs3 fun st4 hs4 => ?_)
            exact wpS_pure ⟨_, _, _, _, rfl, V, hi, hi2, hj, hj2, by omega, hs4⟩
  · rintro c st1 ⟨na, nb, out, g, rfl, W, hia, hia2, hib, hib2, hm, hs⟩
    exfalso
    rw [szA, szB] at hm
    omega
  · rintro c st1 ⟨r, z, rfl, hr, hs⟩
    exact wpS_pure (h r st1 hs hr)
end
end TS
end
section
set_option linter.all false
set_option maxRecDepth 100000
set_option maxHeartbeats 4000000
namespace TS
open PySem PyProof.Rows
section
variable {κ : KeyKind}
theorem kk_list {l : List Keyed} {i : Nat} (h : i < l.length) : KK κ l.toArray i = kf κ l[i] := kk_of (by simp [h])
theorem up_iff {l : List Keyed} {lo n : Nat} (h : lo + n ≤ l.length) : Up κ l.toArray lo n ↔ ((l.drop lo).take n).Pairwise (Le κ) := by
  have len : ((l.drop lo).take n).length = n := by rw [List.length_take, List.length_drop]; omega
  constructor
  · intro u
    refine List.pairwise_iff_getElem.mpr fun i j hi hj hij => ?_
    rw [len] at hi hj
    have := u (lo + i) (lo + j) (by omega) (by omega) (by omega)
    rw [kk_list (by omega), kk_list (by omega)] at this
    rw [List.getElem_take, List.getElem_drop, List.getElem_take, List.getElem_drop]
    exact this
  · intro p i j h1 h2 h3
    rw [kk_list (by omega), kk_list (by omega)]
    have a1 : ((l.drop lo).take n)[i - lo]? = some l[i] := by
      rw [List.getElem?_take, if_pos (by omega), List.getElem?_drop, show lo + (i - lo) = i by omega]
      exact List.getElem?_eq_getElem (by omega)
    have a2 : ((l.drop lo).take n)[j - lo]? = some l[j] := by
      rw [List.getElem?_take, if_pos (by omega), List.getElem?_drop, show lo + (j - lo) = j by omega]
      exact List.getElem?_eq_getElem (by omega)
    exact srt_at p a1 a2 (by omega)
theorem wb (s0 : Nat) : ∀ (M : List Keyed) (c : Nat) (xs : Array Keyed) (k : Nat), s0 + c + M.length ≤ xs.size →
    ((M.zipIdx c).foldl (fun (a : Array Keyed) (x : Keyed × Nat) => a.setIfInBounds (s0 + x.2) x.1) xs)[k]? = if s0 + c ≤ k ∧ k < s0 + c + M.length then M[k - (s0 + c)]? else xs[k]?
  | [], c, xs, k, _ => by
    rw [if_neg (by simp)]; rfl
  | p :: M, c, xs, k, h => by
    rw [List.zipIdx_cons, List.foldl_cons]
    rw [wb s0 M (c + 1) _ k (by rw [Array.size_setIfInBounds]; simp at h; omega)]
    simp only [List.length_cons] at h ⊢
    by_cases h1 : s0 + (c + 1) ≤ k ∧ k < s0 + (c + 1) + M.length
    · rw [if_pos h1, if_pos (by omega), show k - (s0 + c) = (k - (s0 + (c + 1))) + 1 by omega, List.getElem?_cons_succ]
    · rw [if_neg h1]
      rw [Array.getElem?_setIfInBounds]
      by_cases h2 : s0 + c = k
      · rw [if_pos h2, if_pos (by omega), if_pos (by omega), show k - (s0 + c) = 0 by omega, List.getElem?_cons_zero]
      · rw [if_neg h2, if_neg (by omega)]
theorem wb_list (l M : List Keyed) (P X R : List Keyed) (e : l = P ++ X ++ R) (hl : M.length = X.length) :
    ((M.zipIdx).foldl (fun (a : Array Keyed) (x : Keyed × Nat) => a.setIfInBounds (P.length + x.2) x.1) l.toArray) = (P ++ M ++ R).toArray := by
  subst e
  apply Array.ext_getElem?
  intro k
  rw [wb P.length M 0 _ k (by simp; omega)]
  simp only [Nat.add_zero, List.getElem?_toArray]
  by_cases h : P.length ≤ k ∧ k < P.length + M.length
  · rw [if_pos h, List.append_assoc, List.getElem?_append_right h.1, List.getElem?_append_left (by omega)]
  · rw [if_neg h]
    by_cases h2 : k < P.length
    · rw [List.append_assoc, List.append_assoc, List.getElem?_append_left h2, List.getElem?_append_left h2]
    · rw [List.append_assoc, List.append_assoc, List.getElem?_append_right (by omega), List.getElem?_append_right (by omega), List.getElem?_append_right (by omega), List.getElem?_append_right (by omega), hl]
end
section
variable {prog : Program} {w : World} {A : Around} {E : Value → Shared → Prop} {s : Shared} {κ : KeyKind} {kd : SortKind} {a₀ : Array Keyed} {st : SortSt}
theorem s_set {x : SortSt} {Q : PUnit → SortSt → Prop} (h : Q ⟨⟩ x) : wpS (model prog w) A E s (set x : StateT SortSt Sem PUnit) Q st := by
  unfold wpS; rw [StateT.run_set]; exact wpAny_pure ⟨rfl, h⟩
theorem ex_arr (l : List Keyed) (i j : Nat) : l.toArray.extract i j = ((l.drop i).take (j - i)).toArray := by simp
theorem s_mAt (C : Cmp prog w A s κ kd a₀) (B : SB kd a₀ st) {i sa na pw sb nb pw2 : Nat} {Q : Bool → SortSt → Prop} (h1 : (pendingOf st)[i]? = some (sa, na, pw)) (h2 : (pendingOf st)[i + 1]? = some (sb, nb, pw2))
    (hsb : sb = sa + na) (pa : 1 ≤ na) (pb : 1 ≤ nb) (hz : sb + nb ≤ a₀.size) (ua : Up κ (arrOf st) sa na) (ub : Up κ (arrOf st) sb nb)
    (h : ∀ st', SB kd a₀ st' → pendingOf st' = ((pendingOf st).setIfInBounds i (sa, na + nb, pw)).eraseIdxIfInBounds (i + 1) → (∀ k, k < sa ∨ sb + nb ≤ k → (arrOf st')[k]? = (arrOf st)[k]?) →
      Up κ (arrOf st') sa (na + nb) → Q true st') : wpS (model prog w) A E s (mergeAt' i) Q st := by
  obtain ⟨l, hl⟩ : ∃ l : List Keyed, arrOf st = l.toArray := ⟨(arrOf st).toList, by simp⟩
  have hm : ∀ p ∈ l, p ∈ a₀.toList := fun p hp => (Array.perm_iff_toList_perm.mp B.perm).mem_iff.mp (by rw [hl]; simpa using hp)
  have hlen : l.length = a₀.size := by have := B.size; rw [hl] at this; simpa using this
  rw [hl] at ua ub
  have sa' := (up_iff (by omega)).mp ua
  have sb' := (up_iff (by omega)).mp ub
  -- the pieces
  obtain ⟨P, X0, Y0, R, el, eP, eX, eY⟩ : ∃ P X0 Y0 R : List Keyed, l = P ++ X0 ++ Y0 ++ R ∧ P.length = sa ∧ X0.length = na ∧ Y0.length = nb := by
    refine ⟨l.take sa, (l.drop sa).take na, (l.drop sb).take nb, l.drop (sb + nb), ?_, ?_, ?_, ?_⟩
    · rw [hsb, ← List.take_add, ← List.take_add, List.take_append_drop]
    · rw [List.length_take]; omega
    · rw [List.length_take, List.length_drop]; omega
    · rw [List.length_take, List.length_drop]; omega
  have dX : (l.drop sa).take na = X0 := by
    rw [el, List.append_assoc, List.append_assoc, ← eP, List.drop_left, ← eX, List.take_left]
  have dY : (l.drop sb).take nb = Y0 := by
    have e : sb = (P ++ X0).length := by rw [List.length_append]; omega
    rw [el, List.append_assoc, e, List.drop_left, ← eY, List.take_left]
  rw [dX] at sa'
  rw [dY] at sb'
  unfold mergeAt'
  refine wpS_bind (m := get) (wpS_get ?_)
  have h1' : ((sortPriv% PySem.Builtin.SortState.pending) st)[i]? = some (sa, na, pw) := h1
  have h2' : ((sortPriv% PySem.Builtin.SortState.pending) st)[i + 1]? = some (sb, nb, pw2) := h2
  have hl' : (sortPriv% PySem.Builtin.SortState.a) st = l.toArray := hl
  rw [h1', h2']
  dsimp only
  rw [hl']
  refine wpS_bind (s_set ?_)
  have K1 : kindOf (SortSt.mk' (kindOf st) l.toArray (((pendingOf st).setIfInBounds i (sa, na + nb, pw)).eraseIdxIfInBounds (i + 1)) (gallopOf st) (failedOf st)) = kd := B.kind
  have eY0 : ∃ y0 Y', Y0 = y0 :: Y' := by
    cases Y0 with
    | nil => simp at eY; omega
    | cons y Y' => exact ⟨y, Y', rfl⟩
  obtain ⟨y0, Y', eY1⟩ := eY0
  have my : l[sb]? = some y0 := by
    have e : sb = (P ++ X0).length := by rw [List.length_append]; omega
    rw [el, List.append_assoc, e, List.getElem?_append_right (Nat.le_refl _), Nat.sub_self, eY1]; rfl
  have y0le : ∀ y ∈ Y0, Le κ y0 y := fun y hy => by
    rw [eY1] at hy sb'
    rcases List.mem_cons.mp hy with z | z
    · rw [z]; exact Le.refl _
    · exact (List.pairwise_cons.mp sb').1 y z
  have my0 : y0 ∈ a₀.toList := hm _ (List.mem_of_getElem? my)
  refine wpS_bind (s_elem (by rw [List.getElem?_toArray]; exact my) (wpS_bind (s_galL (hint := 0) C K1 my0 hm (by rw [dX]; exact sa') (by omega) (by omega) fun k hk1 hk2 hk3 => ?_)))
  rw [dX] at hk3
  have eXt : (l.drop sa).take k = X0.take k := by
    rw [← dX, List.take_take, show min k na = k by omega]
  rw [eXt] at hk2
  dsimp only
  have X1le : ∀ x ∈ X0.take k, Le κ x y0 := fun x hx => by
    have := hk2 x hx
    unfold bey at this; exact (show Lb κ y0 x = false by simpa using this)
  have X2gt : ∀ x ∈ X0.drop k, Lb κ y0 x = true := fun x hx => by
    have := hk3 x hx
    unfold bey at this; simpa using this
  have same : Up κ l.toArray sa (na + nb) ↔ (X0 ++ Y0).Pairwise (Le κ) := by
    rw [up_iff (by omega)]
    have e : (l.drop sa).take (na + nb) = X0 ++ Y0 := by
      rw [el, List.append_assoc, List.append_assoc, ← eP, List.drop_left, ← List.append_assoc, show na + nb = (X0 ++ Y0).length by rw [List.length_append]; omega, List.take_left]
    rw [e]
  have here : ∀ (B' : (X0 ++ Y0).Pairwise (Le κ)), Q true (SortSt.mk' (kindOf st) l.toArray (((pendingOf st).setIfInBounds i (sa, na + nb, pw)).eraseIdxIfInBounds (i + 1)) (gallopOf st) (failedOf st)) := fun B' =>
    h _ ⟨by have := B.perm; rwa [hl] at this, B.kind, B.fail⟩ rfl (fun k _ => by rw [hl]) (same.mpr B')
  by_cases g1 : na - k = 0
  · rw [if_pos (by simpa using g1)]
    refine wpS_pure (here (List.pairwise_append.mpr ⟨sa', sb', fun x hx y hy => Le.trans (X1le x ?_) (y0le y hy)⟩))
    rw [List.take_of_length_le (by omega)]; exact hx
  rw [if_neg (by simpa using g1)]
  have ⟨xl, exl⟩ : ∃ xl, X0[na - 1]? = some xl := ⟨X0[na - 1], List.getElem?_eq_getElem (by omega)⟩
  have mx : l[sa + k + (na - k) - 1]? = some xl := by
    rw [el, List.append_assoc, List.append_assoc, List.getElem?_append_right (by omega), List.getElem?_append_left (by omega), show sa + k + (na - k) - 1 - P.length = na - 1 by omega]
    exact exl
  have lexl : ∀ x ∈ X0, Le κ x xl := fun x hx => by
    obtain ⟨j, hj, e⟩ := List.getElem_of_mem hx
    exact srt_at sa' (by rw [← e]; exact List.getElem?_eq_getElem hj) exl (by omega)
  have mxl : xl ∈ a₀.toList := hm _ (List.mem_of_getElem? mx)
  refine wpS_bind (s_elem (by rw [List.getElem?_toArray]; exact mx) (wpS_bind (s_galL (hint := nb - 1) C K1 mxl hm (by rw [dY]; exact sb') (by omega) (by omega) fun n2 hn1 hn2 hn3 => ?_)))
  rw [dY] at hn3
  have eYt : (l.drop sb).take n2 = Y0.take n2 := by
    rw [← dY, List.take_take, show min n2 nb = n2 by omega]
  rw [eYt] at hn2
  dsimp only
  have Y1lt : ∀ y ∈ Y0.take n2, Lb κ y xl = true := fun y hy => by
    have := hn2 y hy
    unfold bey at this; simpa using this
  have Y2ge : ∀ y ∈ Y0.drop n2, Le κ xl y := fun y hy => by
    have := hn3 y hy
    unfold bey at this; exact (show Lb κ y xl = false by simpa using this)
  by_cases g2 : n2 = 0
  · rw [if_pos (by simpa using g2)]
    refine wpS_pure (here (List.pairwise_append.mpr ⟨sa', sb', fun x hx y hy => Le.trans (lexl x hx) (Y2ge y ?_)⟩))
    rw [g2, List.drop_zero]; exact hy
  rw [if_neg (by simpa using g2)]
  rw [ex_arr, ex_arr]
  have eX2 : (l.drop (sa + k)).take (sb - (sa + k)) = X0.drop k := by
    have e : l.drop (sa + k) = (l.drop sa).drop k := by rw [List.drop_drop]
    rw [e, show sb - (sa + k) = na - k by omega, ← List.drop_take, dX]
  have eY2 : (l.drop sb).take (sb + n2 - sb) = Y0.take n2 := by rw [show sb + n2 - sb = n2 by omega, eYt]
  rw [eX2, eY2]
  have sX : (X0.drop k).Pairwise (Le κ) := sa'.sublist (List.drop_sublist _ _)
  have sY : (Y0.take n2).Pairwise (Le κ) := sb'.sublist (List.take_sublist _ _)
  have mX : ∀ p ∈ X0.drop k, p ∈ a₀.toList := fun p hp => hm p (by rw [el]; have := List.mem_of_mem_drop hp; simp [this])
  have mY : ∀ p ∈ Y0.take n2, p ∈ a₀.toList := fun p hp => hm p (by rw [el]; have := List.mem_of_mem_take hp; simp [this])
  have lX : 0 < (X0.drop k).length := by rw [List.length_drop]; omega
  have lY : 0 < (Y0.take n2).length := by rw [List.length_take]; omega
  have c0 : ∀ p, (Y0.take n2)[0]? = some p → ∀ x ∈ X0.drop k, Le κ p x := fun p hp x hx => by
    rw [List.getElem?_take, if_pos (by omega), eY1] at hp
    have e : y0 = p := by simpa using hp
    rw [← e]; exact Le.of_lt (X2gt x hx)
  have c1 : ∀ y ∈ Y0.take n2, ∀ x, (X0.drop k)[(X0.drop k).length - 1]? = some x → Le κ y x := fun y hy x hx => by
    rw [List.length_drop, List.getElem?_drop, show k + (X0.length - k - 1) = na - 1 by omega, exl] at hx
    cases hx
    exact Le.of_lt (Y1lt y hy)
  have fin : ∀ (M : Array Keyed) (st2 : SortSt), St0 (SortSt.mk' (kindOf st) l.toArray (((pendingOf st).setIfInBounds i (sa, na + nb, pw)).eraseIdxIfInBounds (i + 1)) (gallopOf st) (failedOf st)) st2 → Pst κ (X0.drop k) (Y0.take n2) M.toList →
      Q true (SortSt.mk' (kindOf st2) (M.toList.zipIdx.foldl (fun (a : Array Keyed) (x : Keyed × Nat) => a.setIfInBounds (sa + k + x.2) x.1) (arrOf st2)) (pendingOf st2) (gallopOf st2) (failedOf st2)) := by
    intro M st2 hs hP
    have eM : M.toList.length = (X0.drop k ++ Y0.take n2).length := hP.1.length_eq
    have el2 : l = (P ++ X0.take k) ++ (X0.drop k ++ Y0.take n2) ++ (Y0.drop n2 ++ R) := by
      rw [el]
      conv => lhs; rw [← List.take_append_drop k X0, ← List.take_append_drop n2 Y0]
      simp only [List.append_assoc]
    have ePk : (P ++ X0.take k).length = sa + k := by rw [List.length_append, List.length_take]; omega
    have wbe := wb_list l M.toList _ _ _ el2 eM
    rw [ePk] at wbe
    have e2 : arrOf st2 = l.toArray := hs.2.1
    rw [e2, wbe]
    have pl : ((P ++ X0.take k) ++ M.toList ++ (Y0.drop n2 ++ R)).Perm l := by
      refine List.Perm.trans ?_ (List.Perm.of_eq el2.symm)
      exact (List.Perm.append_left _ hP.1).append_right _
    refine h _ ⟨?_, hs.1.trans B.kind, hs.2.2.2.trans B.fail⟩ hs.2.2.1 (fun j hj => ?_) ?_
    · have p0 := B.perm
      rw [hl] at p0
      exact (Array.perm_iff_toList_perm.mpr (by simpa using pl)).trans p0
    · show ((P ++ X0.take k) ++ M.toList ++ (Y0.drop n2 ++ R)).toArray[j]? = (arrOf st)[j]?
      rw [hl, el2, List.getElem?_toArray, List.getElem?_toArray]
      have q1 := List.length_append (as := P) (bs := X0.take k)
      rcases hj with hj | hj
      · simp only [List.append_assoc]
        rw [List.getElem?_append_left (by omega), List.getElem?_append_left (by omega)]
      · have q2 : (X0.drop k ++ Y0.take n2).length = na - k + n2 := by rw [List.length_append, List.length_drop, List.length_take]; omega
        have f : ∀ Z : List Keyed, Z.length = na - k + n2 → ((P ++ X0.take k) ++ Z ++ (Y0.drop n2 ++ R))[j]? = (Y0.drop n2 ++ R)[j - (sa + k + (na - k + n2))]? := fun Z hZ => by
          rw [List.getElem?_append_right (by rw [List.length_append, ePk]; omega), List.length_append, ePk, hZ]
        rw [f _ (eM.trans q2), f _ q2]
    · show Up κ ((P ++ X0.take k) ++ M.toList ++ (Y0.drop n2 ++ R)).toArray sa (na + nb)
      have ll := pl.length_eq
      rw [up_iff (by omega)]
      have e : ((((P ++ X0.take k) ++ M.toList ++ (Y0.drop n2 ++ R))).drop sa).take (na + nb) = X0.take k ++ (M.toList ++ Y0.drop n2) := by
        rw [List.append_assoc, List.append_assoc, ← eP, List.drop_left]
        have e3 : X0.take k ++ (M.toList ++ (Y0.drop n2 ++ R)) = (X0.take k ++ (M.toList ++ Y0.drop n2)) ++ R := by simp only [List.append_assoc]
        rw [e3]
        have e4 : na + nb = (X0.take k ++ (M.toList ++ Y0.drop n2)).length := by
          rw [List.length_append, List.length_append, eM, List.length_append, List.length_take, List.length_drop, List.length_take, List.length_drop]; omega
        rw [e4, List.take_left]
      rw [e]
      have cross : ∀ x ∈ X0.take k, ∀ z ∈ X0.drop k, Le κ x z := fun x hx z hz => by
        have := sa'
        rw [← List.take_append_drop k X0] at this
        exact (List.pairwise_append.mp this).2.2 x hx z hz
      have crossY : ∀ x ∈ Y0.take n2, ∀ z ∈ Y0.drop n2, Le κ x z := fun x hx z hz => by
        have := sb'
        rw [← List.take_append_drop n2 Y0] at this
        exact (List.pairwise_append.mp this).2.2 x hx z hz
      refine List.pairwise_append.mpr ⟨sa'.sublist (List.take_sublist _ _), List.pairwise_append.mpr ⟨hP.2, sb'.sublist (List.drop_sublist _ _), fun x hx y hy => ?_⟩, fun x hx y hy => ?_⟩
      · rcases List.mem_append.mp (hP.1.mem_iff.mp hx) with z | z
        · exact Le.trans (lexl x (List.mem_of_mem_drop z)) (Y2ge y hy)
        · exact crossY x z y hy
      · rcases List.mem_append.mp hy with z | z
        · rcases List.mem_append.mp (hP.1.mem_iff.mp z) with z | z
          · exact cross x hx y z
          · exact Le.trans (X1le x hx) (y0le y (List.mem_of_mem_take z))
        · exact Le.trans (X1le x hx) (y0le y (List.mem_of_mem_drop z))
  have out : ∀ (M : Array Keyed) (st2 : SortSt), St0 (SortSt.mk' (kindOf st) l.toArray (((pendingOf st).setIfInBounds i (sa, na + nb, pw)).eraseIdxIfInBounds (i + 1)) (gallopOf st) (failedOf st)) st2 → failedOf st2 = none := fun M st2 hs => hs.2.2.2.trans B.fail
  by_cases g3 : na - k ≤ n2
  case' pos => rw [if_pos g3]
  case' neg => rw [if_neg g3]
  case' pos => refine wpS_bind (s_mLo C K1 mX mY sX sY lX lY c0 c1 fun M st2 hs hP => ?_)
  case' neg => refine wpS_bind (s_mHi C K1 mX mY sX sY lX lY c0 c1 fun M st2 hs hP => ?_)
  all_goals
    refine wpS_bind (wpS_modify (wpS_bind (wpS_get (wpS_pure ?_))))
    have e := out M st2 hs
    have f := fin M st2 hs hP
    show Q (failedOf st2).isNone _
    rw [e]
    exact f
end
end TS
end
section
set_option linter.all false
set_option maxRecDepth 100000
set_option maxHeartbeats 4000000
namespace TS
open PySem PyProof.Rows
def Rs (κ : KeyKind) (xs : Array Keyed) : Nat → List (Nat × Nat × Nat) → Nat → Prop
  | a, [], b => a = b
  | a, r :: l, b => r.1 = a ∧ 1 ≤ r.2.1 ∧ Up κ xs a r.2.1 ∧ Rs κ xs (a + r.2.1) l b
section
variable {κ : KeyKind} {xs ys : Array Keyed}
theorem Rs.app : ∀ {p q : List (Nat × Nat × Nat)} {a b : Nat}, Rs κ xs a (p ++ q) b ↔ ∃ m, Rs κ xs a p m ∧ Rs κ xs m q b
  | [], q, a, b => ⟨fun h => ⟨a, rfl, h⟩, fun ⟨m, e, h⟩ => by cases e; exact h⟩
  | r :: p, q, a, b => ⟨fun ⟨h1, h2, h3, h4⟩ => let ⟨m, x, y⟩ := Rs.app.mp h4; ⟨m, ⟨h1, h2, h3, x⟩, y⟩, fun ⟨m, ⟨h1, h2, h3, x⟩, y⟩ => ⟨h1, h2, h3, Rs.app.mpr ⟨m, x, y⟩⟩⟩
theorem Rs.len : ∀ {p : List (Nat × Nat × Nat)} {a b : Nat}, Rs κ xs a p b → a + p.length ≤ b
  | [], a, b, h => by cases h; simp
  | r :: p, a, b, ⟨h1, h2, h3, h4⟩ => by
    have := Rs.len h4
    rw [List.length_cons]; omega
theorem up_keep {lo n : Nat} (h : Up κ xs lo n) (e : ∀ k, lo ≤ k → k < lo + n → ys[k]? = xs[k]?) : Up κ ys lo n := fun i j a b c => by
  rw [KK_congr (e i a (by omega)), KK_congr (e j (by omega) c)]; exact h i j a b c
theorem Rs.keep : ∀ {p : List (Nat × Nat × Nat)} {a b : Nat}, Rs κ xs a p b → (∀ k, a ≤ k → k < b → ys[k]? = xs[k]?) → Rs κ ys a p b
  | [], a, b, h, _ => h
  | r :: p, a, b, ⟨h1, h2, h3, h4⟩, e => by
    have := h4.len
    exact ⟨h1, h2, up_keep h3 fun k c d => e k c (by omega), Rs.keep h4 fun k c d => e k (by omega) d⟩
theorem two_at {α : Type} {l : List α} {i : Nat} (h : i + 1 < l.length) : ∃ p x y q, l = p ++ x :: y :: q ∧ p.length = i := by
  refine ⟨l.take i, l[i], l[i + 1], l.drop (i + 2), ?_, by rw [List.length_take]; omega⟩
  have e1 := List.drop_eq_getElem_cons (l := l) (i := i) (by omega)
  have e2 := List.drop_eq_getElem_cons (l := l) (i := i + 1) h
  rw [← e2, ← e1, List.take_append_drop]
end
section
variable {prog : Program} {w : World} {A : Around} {E : Value → Shared → Prop} {s : Shared} {κ : KeyKind} {kd : SortKind} {a₀ : Array Keyed} {st : SortSt}
theorem s_mAtR (C : Cmp prog w A s κ kd a₀) (B : SB kd a₀ st) {i hi : Nat} {Q : Bool → SortSt → Prop} (R : Rs κ (arrOf st) 0 (pendingOf st).toList hi) (hh : hi ≤ a₀.size) (h2 : i + 1 < (pendingOf st).size)
    (h : ∀ st', SB kd a₀ st' → Rs κ (arrOf st') 0 (pendingOf st').toList hi → (pendingOf st').size + 1 = (pendingOf st).size → (∀ k, hi ≤ k → (arrOf st')[k]? = (arrOf st)[k]?) → Q true st') :
    wpS (model prog w) A E s (mergeAt' i) Q st := by
  obtain ⟨l, hl⟩ : ∃ l, pendingOf st = l.toArray := ⟨(pendingOf st).toList, by simp⟩
  rw [hl] at R h2
  have R0 : Rs κ (arrOf st) 0 l hi := R
  have h2' : i + 1 < l.length := h2
  obtain ⟨p, ⟨sa, na, pw⟩, ⟨sb, nb, pw2⟩, q, e, ep⟩ := two_at h2'
  rw [e] at R0
  obtain ⟨m, Rp, ⟨e1, n1, u1, ⟨e2, n2, u2, Rq⟩⟩⟩ := Rs.app.mp R0
  dsimp only at e1 n1 u1 e2 n2 u2 Rq
  have lp := Rp.len
  have lq := Rq.len
  have g1 : (pendingOf st)[i]? = some (sa, na, pw) := by rw [hl, List.getElem?_toArray, e, ← ep, List.getElem?_append_right (Nat.le_refl _), Nat.sub_self]; rfl
  have g2 : (pendingOf st)[i + 1]? = some (sb, nb, pw2) := by rw [hl, List.getElem?_toArray, e, ← ep, List.getElem?_append_right (by omega), show p.length + 1 - p.length = 1 by omega]; rfl
  subst e1
  refine s_mAt C B g1 g2 (by omega) n1 n2 (by omega) u1 (e2 ▸ u2) fun st' B' ep' kp u' => ?_
  have el : (pendingOf st').toList = p ++ (sa, na + nb, pw) :: q := by
    rw [ep', hl, e]
    have a1 : ((p ++ (sa, na, pw) :: (sb, nb, pw2) :: q).toArray.setIfInBounds i (sa, na + nb, pw)) = (p ++ (sa, na + nb, pw) :: (sb, nb, pw2) :: q).toArray := by
      rw [List.setIfInBounds_toArray, List.set_append_right _ _ (by omega), show i - p.length = 0 by omega]; rfl
    rw [a1]
    have a2 : i + 1 < (p ++ (sa, na + nb, pw) :: (sb, nb, pw2) :: q).toArray.size := by simp; omega
    rw [Array.eraseIdxIfInBounds_eq, dif_pos a2]
    rw [List.eraseIdx_toArray]
    rw [List.eraseIdx_append_of_length_le (by omega), show i + 1 - p.length = 1 by omega]
    rfl
  refine h st' B' ?_ ?_ fun k hk => kp k (.inr (by omega))
  · rw [el]
    refine Rs.app.mpr ⟨sa, Rp.keep fun k a b => kp k (.inl b), rfl, by dsimp only; omega, u', ?_⟩
    dsimp only
    rw [← Nat.add_assoc]
    exact Rq.keep fun k a b => kp k (.inr (by omega))
  · have e3 : (pendingOf st').size = (p ++ (sa, na + nb, pw) :: q).length := by rw [← el]; simp
    rw [e3, hl, e]; simp; omega
end
end TS
end
section
set_option linter.all false
set_option maxRecDepth 100000
set_option maxHeartbeats 4000000
namespace TS
open PySem PyProof.Rows
theorem Rs.modify {κ : KeyKind} {xs : Array Keyed} : ∀ {p : List (Nat × Nat × Nat)} {a b : Nat}, Rs κ xs a p b → ∀ (i : Nat) (f : Nat × Nat × Nat → Nat × Nat × Nat), (∀ r, (f r).1 = r.1 ∧ (f r).2.1 = r.2.1) → Rs κ xs a (p.modify i f) b
  | [], a, b, h, i, f, hf => by cases i <;> exact h
  | r :: p, a, b, ⟨h1, h2, h3, h4⟩, 0, f, hf => by
    refine ⟨(hf r).1.trans h1, by rw [(hf r).2]; exact h2, by rw [(hf r).2]; exact h3, by rw [(hf r).2]; exact h4⟩
  | r :: p, a, b, ⟨h1, h2, h3, h4⟩, i + 1, f, hf => ⟨h1, h2, h3, Rs.modify h4 i f hf⟩
section
variable {prog : Program} {w : World} {A : Around} {E : Value → Shared → Prop} {s : Shared} {κ : KeyKind} {kd : SortKind} {a₀ : Array Keyed} {st : SortSt}
theorem s_all (C : Cmp prog w A s κ kd a₀) (B : SB kd a₀ st) (hp : pendingOf st = #[]) {Q : Unit → SortSt → Prop} (h : ∀ st', SB kd a₀ st' → Up κ (arrOf st') 0 a₀.size → Q () st') : wpS (model prog w) A E s sortRuns' Q st := by
  rw [sortRuns'_eq]
  refine wpS_bind (wpS_get ?_)
  dsimp only
  simp only [B.size]
  refine wpS_bind (wpS_mono (wpS_forRange (I := fun x c st' => ∃ lo, c = (none, lo) ∧ SB kd a₀ st' ∧ Rs κ (arrOf st') 0 (pendingOf st').toList lo ∧ lo ≤ a₀.size ∧ (x ≤ lo ∨ lo = a₀.size))
    (Q := fun c st' => c = (none, a₀.size) ∧ SB kd a₀ st' ∧ Rs κ (arrOf st') 0 (pendingOf st').toList a₀.size) ?_ ?_ ⟨0, rfl, B, by rw [hp]; rfl, by omega, by omega⟩) ?_)
  · rintro x c st1 _ hx ⟨lo, rfl, B1, R1, h1, h2⟩
    dsimp only
    by_cases g1 : lo ≥ a₀.size
    · rw [if_pos g1]
      have e : lo = a₀.size := by omega
      subst e
      exact wpS_pure ⟨rfl, B1, R1⟩
    rw [if_neg g1]
    refine wpS_bind (s_count C B1 (by omega) (by omega) fun n st2 ⟨B2, p2, k2, n1, n2, U2⟩ => ?_)
    have R2 : Rs κ (arrOf st2) 0 (pendingOf st2).toList lo := by rw [p2]; exact R1.keep fun k a b => k2 k b
    dsimp only
    by_cases g2 : n < minRun' a₀.size a₀.size 0
    · rw [if_pos g2]
      refine wpS_bind (wpS_lift (wpAny_rule ⟨rfl, ?_⟩))
      refine wpS_bind (s_bin C B2 (by omega) (by omega) n1 U2 fun st3 B3 p3 k3 U3 => ?_)
      simp only [Bool.not_true, Bool.false_eq_true, if_false]
      have R3 : Rs κ (arrOf st3) 0 (pendingOf st3).toList lo := by rw [p3]; exact R2.keep fun k a b => k3 k b
      have mn : 1 ≤ min (a₀.size - lo) (minRun' a₀.size a₀.size 0) := by omega
      refine wpS_bind (wpS_get ?_)
      have fin : ∀ st4 : SortSt, SB kd a₀ st4 → Rs κ (arrOf st4) 0 (pendingOf st4).toList lo → Up κ (arrOf st4) lo (min (a₀.size - lo) (minRun' a₀.size a₀.size 0)) → 
          ∃ lo', (ForInStep.yield ((none : Option Unit), lo + min (a₀.size - lo) (minRun' a₀.size a₀.size 0))) = ForInStep.yield (none, lo') ∧ SB kd a₀ (setPending st4 ((pendingOf st4).push (lo, min (a₀.size - lo) (minRun' a₀.size a₀.size 0), 0))) ∧ Rs κ (arrOf st4) 0 ((pendingOf st4).push (lo, min (a₀.size - lo) (minRun' a₀.size a₀.size 0), 0)).toList lo' ∧ lo' ≤ a₀.size ∧ (x + 1 ≤ lo' ∨ lo' = a₀.size) := fun st4 B4 R4 U4 => by
        refine ⟨lo + min (a₀.size - lo) (minRun' a₀.size a₀.size 0), rfl, ⟨B4.perm, B4.kind, B4.fail⟩, ?_, by omega, by omega⟩
        rw [Array.toList_push]
        exact Rs.app.mpr ⟨lo, R4, rfl, by dsimp only; omega, U4, rfl⟩
      cases hb : (pendingOf st3).back? with
      | none =>
        dsimp only
        obtain ⟨lo', e1, e2, e3, e4, e5⟩ := fin st3 B3 R3 U3
        exact wpS_bind (wpS_modify (wpS_pure ⟨lo + min (a₀.size - lo) (minRun' a₀.size a₀.size 0), rfl, e2, by cases e1; exact e3, by cases e1; exact e4, by cases e1; exact e5⟩))
      | some bk =>
        obtain ⟨s1, n1, o1⟩ := bk
        dsimp only
        have hpos : 0 < (pendingOf st3).size := by
          rcases Nat.eq_zero_or_pos (pendingOf st3).size with z | z
          · rw [Array.eq_empty_of_size_eq_zero z] at hb; cases hb
          · exact z
        refine wpS_bind (wpS_mono (wpS_forRange (I := fun _ c st' => c = (none, ()) ∧ SB kd a₀ st' ∧ Rs κ (arrOf st') 0 (pendingOf st').toList lo ∧ 0 < (pendingOf st').size ∧ Up κ (arrOf st') lo (min (a₀.size - lo) (minRun' a₀.size a₀.size 0)))
          (Q := fun c st' => c = (none, ()) ∧ SB kd a₀ st' ∧ Rs κ (arrOf st') 0 (pendingOf st').toList lo ∧ 0 < (pendingOf st').size ∧ Up κ (arrOf st') lo (min (a₀.size - lo) (minRun' a₀.size a₀.size 0))) ?_ (fun c st' z => z) ⟨rfl, B3, R3, hpos, U3⟩) ?_)
        · rintro y c st3 _ _ ⟨rfl, B3, R3, p3, U3⟩
          refine wpS_bind (wpS_get ?_)
          by_cases g2 : (pendingOf st3).size > 1
          · have g2' : (pendingOf st3).size > 1 := g2
            rw [if_pos g2']
            have ⟨o, eo⟩ : ∃ o, (pendingOf st3)[(pendingOf st3).size - 2]? = some o := ⟨_, getElem?_pos _ _ (by omega)⟩
            rw [eo]
            obtain ⟨o1, o2, o3⟩ := o
            dsimp only
            split
            · exact wpS_pure ⟨rfl, B3, R3, p3, U3⟩
            · refine wpS_bind (s_mAtR C B3 R3 (by omega) (by have := g2; omega) fun st4 B4 R4 p4 k4 => ?_)
              simp only [Bool.not_true, Bool.false_eq_true, if_false]
              exact wpS_pure ⟨rfl, B4, R4, by omega, up_keep U3 fun k a b => k4 k a⟩
          · have g2' : ¬ (pendingOf st3).size > 1 := g2
            rw [if_neg g2']
            exact wpS_pure ⟨rfl, B3, R3, p3, U3⟩
        · rintro c st3 ⟨rfl, B3, R3, p3, U3⟩
          dsimp only
          refine wpS_bind (wpS_modify ?_)
          have R4 : ∀ pw, Rs κ (arrOf st3) 0 ((pendingOf st3).modify ((pendingOf st3).size - 1) fun x => match x with | (st, len, _) => (st, len, pw)).toList lo := fun pw => by
            rw [Array.toList_modify]
            exact Rs.modify R3 _ _ fun r => ⟨rfl, rfl⟩
          obtain ⟨lo', e1, e2, e3, e4, e5⟩ := fin (setPending st3 ((pendingOf st3).modify ((pendingOf st3).size - 1) fun x => match x with | (st, len, _) => (st, len, power' a₀.size (2 * s1 + n1) (2 * s1 + n1 + n1 + min (a₀.size - lo) (minRun' a₀.size a₀.size 0)) a₀.size))) ⟨B3.perm, B3.kind, B3.fail⟩ (R4 _) U3
          refine wpS_bind (wpS_modify (wpS_pure ⟨lo + min (a₀.size - lo) (minRun' a₀.size a₀.size 0), rfl, ⟨B3.perm, B3.kind, B3.fail⟩, ?_, by cases e1; exact e4, by cases e1; exact e5⟩))
          cases e1
          exact e3
    · rw [if_neg g2]
      refine wpS_bind (wpS_get ?_)
      have fin : ∀ st4 : SortSt, SB kd a₀ st4 → Rs κ (arrOf st4) 0 (pendingOf st4).toList lo → Up κ (arrOf st4) lo (n) → 
          ∃ lo', (ForInStep.yield ((none : Option Unit), lo + n)) = ForInStep.yield (none, lo') ∧ SB kd a₀ (setPending st4 ((pendingOf st4).push (lo, n, 0))) ∧ Rs κ (arrOf st4) 0 ((pendingOf st4).push (lo, n, 0)).toList lo' ∧ lo' ≤ a₀.size ∧ (x + 1 ≤ lo' ∨ lo' = a₀.size) := fun st4 B4 R4 U4 => by
        refine ⟨lo + n, rfl, ⟨B4.perm, B4.kind, B4.fail⟩, ?_, by omega, by omega⟩
        rw [Array.toList_push]
        exact Rs.app.mpr ⟨lo, R4, rfl, by dsimp only; omega, U4, rfl⟩
      cases hb : (pendingOf st2).back? with
      | none =>
        dsimp only
        obtain ⟨lo', e1, e2, e3, e4, e5⟩ := fin st2 B2 R2 U2
        exact wpS_bind (wpS_modify (wpS_pure ⟨lo + n, rfl, e2, by cases e1; exact e3, by cases e1; exact e4, by cases e1; exact e5⟩))
      | some bk =>
        obtain ⟨s1, n1, o1⟩ := bk
        dsimp only
        have hpos : 0 < (pendingOf st2).size := by
          rcases Nat.eq_zero_or_pos (pendingOf st2).size with z | z
          · rw [Array.eq_empty_of_size_eq_zero z] at hb; cases hb
          · exact z
        refine wpS_bind (wpS_mono (wpS_forRange (I := fun _ c st' => c = (none, ()) ∧ SB kd a₀ st' ∧ Rs κ (arrOf st') 0 (pendingOf st').toList lo ∧ 0 < (pendingOf st').size ∧ Up κ (arrOf st') lo (n))
          (Q := fun c st' => c = (none, ()) ∧ SB kd a₀ st' ∧ Rs κ (arrOf st') 0 (pendingOf st').toList lo ∧ 0 < (pendingOf st').size ∧ Up κ (arrOf st') lo (n)) ?_ (fun c st' z => z) ⟨rfl, B2, R2, hpos, U2⟩) ?_)
        · rintro y c st3 _ _ ⟨rfl, B3, R3, p3, U3⟩
          refine wpS_bind (wpS_get ?_)
          by_cases g2 : (pendingOf st3).size > 1
          · have g2' : (pendingOf st3).size > 1 := g2
            rw [if_pos g2']
            have ⟨o, eo⟩ : ∃ o, (pendingOf st3)[(pendingOf st3).size - 2]? = some o := ⟨_, getElem?_pos _ _ (by omega)⟩
            rw [eo]
            obtain ⟨o1, o2, o3⟩ := o
            dsimp only
            split
            · exact wpS_pure ⟨rfl, B3, R3, p3, U3⟩
            · refine wpS_bind (s_mAtR C B3 R3 (by omega) (by have := g2; omega) fun st4 B4 R4 p4 k4 => ?_)
              simp only [Bool.not_true, Bool.false_eq_true, if_false]
              exact wpS_pure ⟨rfl, B4, R4, by omega, up_keep U3 fun k a b => k4 k a⟩
          · have g2' : ¬ (pendingOf st3).size > 1 := g2
            rw [if_neg g2']
            exact wpS_pure ⟨rfl, B3, R3, p3, U3⟩
        · rintro c st3 ⟨rfl, B3, R3, p3, U3⟩
          dsimp only
          refine wpS_bind (wpS_modify ?_)
          have R4 : ∀ pw, Rs κ (arrOf st3) 0 ((pendingOf st3).modify ((pendingOf st3).size - 1) fun x => match x with | (st, len, _) => (st, len, pw)).toList lo := fun pw => by
            rw [Array.toList_modify]
            exact Rs.modify R3 _ _ fun r => ⟨rfl, rfl⟩
          obtain ⟨lo', e1, e2, e3, e4, e5⟩ := fin (setPending st3 ((pendingOf st3).modify ((pendingOf st3).size - 1) fun x => match x with | (st, len, _) => (st, len, power' a₀.size (2 * s1 + n1) (2 * s1 + n1 + n1 + n) a₀.size))) ⟨B3.perm, B3.kind, B3.fail⟩ (R4 _) U3
          refine wpS_bind (wpS_modify (wpS_pure ⟨lo + n, rfl, ⟨B3.perm, B3.kind, B3.fail⟩, ?_, by cases e1; exact e4, by cases e1; exact e5⟩))
          cases e1
          exact e3
  · rintro c st1 ⟨lo, rfl, B1, R1, h1, h2⟩
    have e : lo = a₀.size := by omega
    subst e
    exact ⟨rfl, B1, R1⟩
  · rintro c st1 ⟨rfl, B1, R1⟩
    dsimp only
    refine wpS_bind (wpS_mono (wpS_forRange (I := fun x c st' => c = (none, ()) ∧ SB kd a₀ st' ∧ Rs κ (arrOf st') 0 (pendingOf st').toList a₀.size ∧ ((pendingOf st').size ≤ 1 ∨ (pendingOf st').size + x ≤ a₀.size))
      (Q := fun c st' => c = (none, ()) ∧ SB kd a₀ st' ∧ Rs κ (arrOf st') 0 (pendingOf st').toList a₀.size ∧ (pendingOf st').size ≤ 1) ?_ ?_ ⟨rfl, B1, R1, ?_⟩) ?_)
    · rintro x c st2 _ hx ⟨rfl, B2, R2, h2⟩
      refine wpS_bind (wpS_get ?_)
      by_cases g1 : (pendingOf st2).size ≤ 1
      · rw [if_pos g1]
        exact wpS_pure ⟨rfl, B2, R2, g1⟩
      · rw [if_neg g1]
        refine wpS_bind (s_mAtR C B2 R2 (Nat.le_refl _) ?_ fun st3 B3 R3 p3 k3 => ?_)
        · have it : ∀ (c : Prop) [Decidable c] (n : Nat), 1 < n → (if c then n - 2 - 1 else n - 2) + 1 < n := fun c _ n h => by split <;> omega
          exact it _ _ (by omega)
        · simp only [Bool.not_true, Bool.false_eq_true, if_false]
          exact wpS_pure ⟨rfl, B3, R3, by omega⟩
    · rintro c st2 ⟨rfl, B2, R2, h2⟩
      exact ⟨rfl, B2, R2, by omega⟩
    · have := R1.len
      right
      simp only [Array.length_toList] at this
      omega
    · rintro c st2 ⟨rfl, B2, R2, h2⟩
      refine wpS_pure (h st2 B2 ?_)
      generalize el : (pendingOf st2).toList = l at R2
      have ell : l.length ≤ 1 := by rw [← el]; simpa using h2
      cases l with
      | nil =>
        have e : 0 = a₀.size := R2
        intro i j a b c
        omega
      | cons r l =>
        obtain ⟨e1, e2, u, R⟩ := R2
        have e0 : l = [] := by
          cases l with
          | nil => rfl
          | cons _ _ => simp at ell
        subst e0
        have e3 : 0 + r.2.1 = a₀.size := R
        rw [Nat.zero_add] at e3
        rw [← e3]; exact u
end
end TS
end
section
set_option linter.all false
set_option maxRecDepth 100000
set_option maxHeartbeats 4000000
namespace TS
open PySem PyProof.Rows
section
variable {prog : Program} {w : World} {A : Around} {E : Value → Shared → Prop} {s : Shared} {κ : KeyKind} {kd : SortKind}
theorem ls_any {a : Addr} {vs : List Value} {n : Nat} {P : Fin → Shared → Prop} (ho : s.heap.get? a = some (seqObj "list" vs.toArray n)) (hn : vs.length ≤ sizeLine)
    (hkk : ∀ h' : Heap, (∀ b o, b ≠ a → s.heap.get? b = some o → h'.get? b = some o) → 2 ≤ vs.length → ∀ Q : SortKind → Shared → Prop, Q kd { s with heap := h' } → wpAny (model prog w) A (keyKind' vs.toArray) Q E { s with heap := h' })
    (hC : ∀ h' : Heap, (∀ b o, b ≠ a → s.heap.get? b = some o → h'.get? b = some o) → 2 ≤ vs.length → Cmp prog w A { s with heap := h' } κ kd (pairsOf vs))
    (h : ∀ st' : SortSt, (arrOf st').Perm (pairsOf vs) → Up κ (arrOf st') 0 (pairsOf vs).size → P (.done (.ret .none)) { s with heap := sortedHeap s.heap a vs ((arrOf st').map (·.2)) }) :
    wpAny (model prog w) A (Builtin.«list.sort» ⟨[.ref a], []⟩) P E s := by
  rw [list_sort_plain]
  have ha : a < s.heap.objs.size := Heap.lt_size ho
  refine wpAny_bind (listItems_at ho rfl ?_)
  refine wpAny_bind (listUpdate_at ho rfl ?_ (hsz := by simpa using hn))
  obtain ⟨e1, ho1⟩ : ∃ e1, (s.heap.update a (Obj.mapSeq fun _ => #[])).get? a = some (seqObj "list" #[] e1) := ⟨_, get?_update_seq ho (fun _ => #[])⟩
  refine wpAny_bind (seqEpoch_at ho1 rfl ?_)
  refine wpAny_bind (wpAny_newTuple ?_)
  refine wpAny_bind (wpAny_newList ?_)
  refine wpAny_holding ?_
  have ho6 : (((s.heap.update a (Obj.mapSeq fun _ => #[])).push (seqObj "tuple" vs.toArray 0)).push (seqObj "list" #[] 0)).get? a = some (seqObj "list" #[] e1) := by
    rw [Heap.get?_push_ne _ _ _ (by rw [size_push', Heap.size_update]; exact Nat.ne_of_lt (Nat.lt_succ_of_lt ha)), Heap.get?_push_ne _ _ _ (by rw [Heap.size_update]; exact Nat.ne_of_lt ha)]
    exact ho1
  have keep : ∀ b o, b ≠ a → s.heap.get? b = some o → (((s.heap.update a (Obj.mapSeq fun _ => #[])).push (seqObj "tuple" vs.toArray 0)).push (seqObj "list" #[] 0)).get? b = some o := fun b o hb e => by
    have hlt := Heap.lt_size e
    rw [Heap.get?_push_ne _ _ _ (by rw [size_push', Heap.size_update]; exact Nat.ne_of_lt (Nat.lt_succ_of_lt hlt)), Heap.get?_push_ne _ _ _ (by rw [Heap.size_update]; exact Nat.ne_of_lt hlt), Heap.get?_update_ne _ _ _ _ hb]
    exact e
  show wpAny (model prog w) A _ P E { s with heap := ((s.heap.update a (Obj.mapSeq fun _ => #[])).push (seqObj "tuple" vs.toArray 0)).push (seqObj "list" #[] 0) }
  dsimp only
  have hsz : vs.toArray.size = vs.length := by simp
  by_cases h2 : vs.toArray.size < 2
  · rw [if_pos h2, if_pos h2]
    refine wpAny_bind (wpAny_pure ?_)
    rw [StateT.run_pure]
    refine wpAny_bind (wpAny_pure ?_)
    dsimp only
    refine wpAny_bind (seqEpoch_at ho6 rfl ?_)
    refine wpAny_bind (listUpdate_at ho6 rfl ?_ (hsz2 := by rw [Array.size_map]; show (pairsOf vs).size ≤ _; rw [pairsOf_size]; omega))
    simp only [bne_self_eq_false, Bool.false_eq_true, if_false]
    refine wpAny_pure (h (SortSt.mk' general' (vs.toArray.zip vs.toArray) #[] 7 none) (Array.Perm.refl _) ?_)
    intro i j _ hij hj
    have : i = j := by rw [pairsOf_size] at hj; omega
    subst this; exact KeyOrd.kle_refl _
  · rw [if_neg h2, if_neg h2]
    refine wpAny_bind (hkk _ keep (by omega) _ ?_)
    refine wpAny_bind (wpAny_mono (s_all (E := E) (hC _ keep (by omega)) (a₀ := pairsOf vs) (st := SortSt.mk' kd (vs.toArray.zip vs.toArray) #[] 7 none)
      (Q := fun _ st' => SB kd (pairsOf vs) st' ∧ Up κ (arrOf st') 0 (pairsOf vs).size) ⟨Array.Perm.refl _, rfl, rfl⟩ rfl fun st' a1 a2 => ⟨a1, a2⟩) ?_ fun _ _ e => e)
    rintro ⟨⟨⟩, st'⟩ s' ⟨rfl, B, U⟩
    dsimp only
    refine wpAny_bind (seqEpoch_at ho6 rfl ?_)
    refine wpAny_bind (listUpdate_at ho6 rfl ?_ (hsz2 := by refine Nat.le_trans (Nat.le_of_eq ((Array.size_map ..).trans (B.perm.size_eq.trans (pairsOf_size _)))) ?_; omega))
    rw [B.fail]
    simp only [bne_self_eq_false, Bool.false_eq_true, if_false]
    exact wpAny_pure (h st' B.perm U)
theorem sorted_any {l : Addr} {vs : List Value} {Q : Value → Shared → Prop} (hl : s.heap.IsList l vs.toArray) (hn : vs.length ≤ sizeLine)
    (hkk : ∀ h' : Heap, (∀ b o, s.heap.get? b = some o → h'.get? b = some o) → 2 ≤ vs.length → ∀ (E : Value → Shared → Prop) (A : Around) (Q : SortKind → Shared → Prop), Q kd { s with heap := h' } → wpAny (model prog w) A (keyKind' vs.toArray) Q E { s with heap := h' })
    (hC : ∀ h' : Heap, (∀ b o, s.heap.get? b = some o → h'.get? b = some o) → 2 ≤ vs.length → ∀ A : Around, Cmp prog w A { s with heap := h' } κ kd (pairsOf vs))
    (h : ∀ st' : SortSt, (arrOf st').Perm (pairsOf vs) → Up κ (arrOf st') 0 (pairsOf vs).size → Q (.ref (s.heap.objs.size + 1)) { s with heap := sortedAll s.heap vs ((arrOf st').map (·.2)) }) :
    wpAny (model prog w) A (call (.builtin "sorted") [.ref l]) Q E s := by
  refine Calls.call_function_entry kind_sorted plain_sorted entry_sorted (args_sorted1 _) ?_
  unfold Builtin.«sorted»
  refine wpAny_bind (m := checkCount "sorted" 1 1 _) (wpAny_pure ?_)
  refine wpAny_bind (collect_list hl ?_)
  refine wpAny_bind (wpAny_newList ?_)
  have hsz : ((s.heap.push (seqObj "list" #[] 0)).update s.heap.objs.size (Obj.mapSeq (· ++ vs.toArray))).objs.size = s.heap.objs.size + 1 := by
    rw [Heap.size_update, size_push']
  have hoL : (((s.heap.push (seqObj "list" #[] 0)).update s.heap.objs.size (Obj.mapSeq (· ++ vs.toArray))).push (seqObj "list" vs.toArray 0)).get? (s.heap.objs.size + 1) = some (seqObj "list" vs.toArray 0) := by
    rw [← hsz]; exact Heap.get?_push_size _ rfl
  have keep : ∀ b o, s.heap.get? b = some o → (((s.heap.push (seqObj "list" #[] 0)).update s.heap.objs.size (Obj.mapSeq (· ++ vs.toArray))).push (seqObj "list" vs.toArray 0)).get? b = some o := fun b o e => by
    have hlt := Heap.lt_size e
    rw [Heap.get?_push_ne _ _ _ (by rw [hsz]; exact Nat.ne_of_lt (Nat.lt_succ_of_lt hlt)), Heap.get?_update_ne _ _ _ _ (Nat.ne_of_lt hlt), Heap.get?_push_ne _ _ _ (Nat.ne_of_lt hlt)]
    exact e
  have nb : ∀ b o, s.heap.get? b = some o → b ≠ s.heap.objs.size + 1 := fun b o e => Nat.ne_of_lt (Nat.lt_succ_of_lt (Heap.lt_size e))
  show wpAny _ _ _ _ _ { s with heap := ((s.heap.push (seqObj "list" #[] 0)).update s.heap.objs.size (Obj.mapSeq (· ++ vs.toArray))).push (seqObj "list" vs.toArray 0) }
  rw [hsz]
  refine wpAny_bind (wpAny_holding (wpAny_call_entry slot_list_sort ⟨_, hoL, rfl⟩ entry_list_sort (ls_any hoL hn (fun h' k g Q q => hkk h' (fun b o e => k b o (nb b o e) (keep b o e)) g _ _ Q q) (fun h' k g => hC h' (fun b o e => k b o (nb b o e) (keep b o e)) g _) fun st' a1 a2 => ⟨_, rfl, ?_⟩) (args_list_sort _)))
  exact wpAny_pure ⟨_, rfl, h st' a1 a2⟩
end
end TS
end
section
-- CHANGE: your row's module here, as the last of these rows
set_option Elab.async false
set_option linter.all false
set_option maxRecDepth 100000
namespace L2
open PySem PySem.Spec PyProof.Rows
abbrev Key := Sum Int Str
def keyIs : Key → Value → Bool
  | .inl k, v => Value.isInt k v
  | .inr x, v => Value.isStrOf x v
def keyH (w : World) : Key → Int
  | .inl k => hashInt k
  | .inr x => hashStr w x
theorem keyIs_shape : ∀ {k : Key} {v : Value}, keyIs k v = true → (∃ i t, k = Sum.inl i ∧ v = Value.int i t) ∨ (∃ x t, k = Sum.inr x ∧ v = Value.str x t)
  | .inl i, v, h => by
    obtain ⟨t, e⟩ := Value.isInt_shape (k := i) (v := v) h
    exact .inl ⟨i, t, rfl, e⟩
  | .inr x, v, h => by
    obtain ⟨t, e⟩ := Value.isStrOf_shape (x := x) (v := v) h
    exact .inr ⟨x, t, rfl, e⟩
theorem key_ll (a b : Int) : decide ((Sum.inl a : Key) = Sum.inl b) = (a == b) := by
  by_cases e : a = b
  · subst e; simp
  · have h : ¬ (Sum.inl a : Key) = Sum.inl b := fun q => e (Sum.inl.inj q)
    rw [decide_eq_false h]
    exact (beq_eq_false_iff_ne.mpr e).symm
theorem key_rr (a b : Str) : decide ((Sum.inr a : Key) = Sum.inr b) = decide (a = b) := by
  by_cases e : a = b
  · subst e; simp
  · have h : ¬ (Sum.inr a : Key) = Sum.inr b := fun q => e (Sum.inr.inj q)
    rw [decide_eq_false h, decide_eq_false e]
theorem key_lr (a : Int) (b : Str) : decide ((Sum.inl a : Key) = Sum.inr b) = false := decide_eq_false (fun q => nomatch q)
theorem key_rl (a : Str) (b : Int) : decide ((Sum.inr a : Key) = Sum.inl b) = false := decide_eq_false (fun q => nomatch q)
def mixKind (prog : Program) (w : World) : PySem.KeyKind prog w Key where
  is := keyIs
  hash := keyH w
  inj := fun v a b ha hb => by
    rcases keyIs_shape ha with ⟨i, t, rfl, rfl⟩ | ⟨x, t, rfl, rfl⟩
    · rcases keyIs_shape hb with ⟨j, u, rfl, e⟩ | ⟨y, u, rfl, e⟩
      · injection e with e1 _; rw [e1]
      · exact nomatch e
    · rcases keyIs_shape hb with ⟨j, u, rfl, e⟩ | ⟨y, u, rfl, e⟩
      · exact nomatch e
      · injection e with e1 _; rw [e1]
  byValue := fun k v h => by
    rcases keyIs_shape h with ⟨i, t, rfl, rfl⟩ | ⟨x, t, rfl, rfl⟩ <;> rfl
  pyHash := fun hv h => by
    rcases keyIs_shape hv with ⟨i, t, rfl, rfl⟩ | ⟨x, t, rfl, rfl⟩
    · exact wpAny_pyHash_int h
    · exact wpAny_pyHash_str h
  eqBool := fun hu hv h => by
    rcases keyIs_shape hu with ⟨i, t, rfl, rfl⟩ | ⟨x, t, rfl, rfl⟩
    · rcases keyIs_shape hv with ⟨j, u, rfl, rfl⟩ | ⟨y, u, rfl, rfl⟩
      · rw [key_ll] at h; exact wpAny_eqBool_int h
      · rw [key_lr] at h; exact SeqAt.EqAt.int_str i t y u _ _ _ _ h
    · rcases keyIs_shape hv with ⟨j, u, rfl, rfl⟩ | ⟨y, u, rfl, rfl⟩
      · rw [key_rl] at h; exact SeqAt.EqAt.str_int x t j u _ _ _ _ h
      · rw [key_rr] at h; exact wpAny_eqBool_str h
  «strs» := fun k x t v h => by
    rcases keyIs_shape h with ⟨i, u, rfl, e⟩ | ⟨y, u, rfl, e⟩
    · exact nomatch e
    · injection e with e1 _
      subst e1
      cases v <;> rfl
end L2
namespace L2
open PySem PySem.Spec PyProof.Rows
inductive V where
  | non | bl (b : Bool) | int (i : Int) | str (x : Str) | byt (b : Array UInt8) | flt (b : UInt64) | ref (a : Addr) | ty (n : String)
  deriving DecidableEq
def RelV : V → Value → Prop
  | .non, u => u = Value.none
  | .bl b, u => u = Value.bool b
  | .int i, u => ∃ t, u = Value.int i t
  | .str x, u => ∃ t, u = Value.str x t
  | .byt b, u => ∃ t, u = Value.bytes b t
  | .flt b, u => ∃ t, u = Value.float b t
  | .ref a, u => u = Value.ref a
  | .ty n, u => u = Value.type n
abbrev Vals : List V → List Value → Prop := Paired RelV
theorem Vals.length {xs : List V} {us : List Value} (r : Vals xs us) : xs.length = us.length := Paired.length r
theorem Vals.get : ∀ {xs : List V} {us : List Value} {i : Nat} {x : V}, Vals xs us → xs[i]? = some x → ∃ u, us[i]? = some u ∧ RelV x u
  | _, _, _, _, .nil, e => by simp at e
  | _, _, 0, _, .cons r _, e => by simp at e; subst e; exact ⟨_, rfl, r⟩
  | _, _, i + 1, x, .cons _ t, e => by
    obtain ⟨u, h1, h2⟩ := Vals.get (i := i) (x := x) t (by simpa using e)
    exact ⟨u, by simpa using h1, h2⟩
theorem Vals.set {x : V} {u : Value} (r : RelV x u) : ∀ {xs : List V} {us : List Value} (i : Nat), Vals xs us → Vals (xs.set i x) (us.set i u)
  | _, _, _, .nil => .nil
  | _, _, 0, .cons _ t => .cons r t
  | _, _, i + 1, .cons q t => .cons q (Vals.set r i t)
theorem Vals.append : ∀ {xs ys : List V} {us ws : List Value}, Vals xs us → Vals ys ws → Vals (xs ++ ys) (us ++ ws)
  | _, _, _, _, .nil, s => s
  | _, _, _, _, .cons r t, s => .cons r (Vals.append t s)
theorem Vals.take : ∀ {xs : List V} {us : List Value} (n : Nat), Vals xs us → Vals (xs.take n) (us.take n)
  | _, _, 0, _ => .nil
  | _, _, _ + 1, .nil => .nil
  | _, _, n + 1, .cons r t => .cons r (Vals.take n t)
theorem Vals.drop : ∀ {xs : List V} {us : List Value} (n : Nat), Vals xs us → Vals (xs.drop n) (us.drop n)
  | _, _, 0, r => r
  | _, _, _ + 1, .nil => .nil
  | _, _, n + 1, .cons _ t => Vals.drop n t
def RelO : Option V → Option Value → Prop
  | some v, some u => RelV v u
  | none, none => True
  | _, _ => False
def KV {κ : Type} : List (κ × V) → List (κ × Value) → Prop := Paired fun (p : κ × V) (q : κ × Value) => p.1 = q.1 ∧ RelV p.2 q.2
def kV : Key → V
  | .inl i => .int i
  | .inr x => .str x
inductive HO where
  /-- a list -/
  | lst (xs : List V)
  /-- a tuple (never changes) -/
  | tup (xs : List V)
  /-- a dict whose keys are ints and texts; one whose keys are tuples of ints and texts (the empty one is both) -/
  | dK (kvs : List (Key × V)) | dT (kvs : List (List Key × V))
  /-- a set of ints: its members, its size -/
  | set (S : Int → Bool) (n : Nat)
  /-- an instance of the class at C, its dict at dx, its attributes -/
  | ins (C dx : Addr) (fs : List (Str × V))
  /-- the dict of the instance at x -/
  | own (x : Addr)
  /-- the dict of an exception -/
  | xd (fs : List (Str × V))
  /-- a bound method, f of x -/
  | met (f x : Addr)
  /-- a range object lo, lo + 1, .. below hi -/
  | rng (lo hi : Int)
  /-- a thing that is known to the object (the script; a dict while a loop walks it): read, never written while it is so -/
  | frz (o : Obj) (u : HO)
  /-- a code object's table -/
  | tbl (ps : Array Value)
  /-- any other thing, by what is true of its one object (a def of one's own: SetO a S n := HO.ext fun h => ..) -/
  | ext (φ : Heap → Prop)
abbrev Hp := Addr → Option HO
def upd (H : Hp) (a : Addr) (o : HO) : Hp := fun b => if b = a then some o else H b
theorem upd_same {H : Hp} {a : Addr} {o : HO} : upd H a o a = some o := by unfold upd; rw [if_pos rfl]
theorem upd_ne {H : Hp} {a b : Addr} {o : HO} (h : b ≠ a) : upd H a o b = H b := by unfold upd; rw [if_neg h]
theorem upd_upd {H : Hp} {a : Addr} {o u : HO} : upd (upd H a o) a u = upd H a u := by
  funext b; unfold upd; split <;> rfl
theorem ne_of {H : Hp} {a b : Addr} {o u : HO} (h : H a = some o) (h' : H b = some u) (d : o ≠ u) : a ≠ b := by
  intro e; subst e; rw [h] at h'; exact d (Option.some.inj h')
theorem ne_of_none {H : Hp} {a b : Addr} {o : HO} (h : H a = some o) (h' : H b = none) : a ≠ b := by
  intro e; subst e; rw [h] at h'; cases h'
section
variable (P : Program) (w : World)
def ObjOk (H : Hp) (h : Heap) (a : Addr) : HO → Prop
  | .lst xs => xs.length ≤ sizeLine ∧ ∃ (its : List Value) (n : Nat), Vals xs its ∧ h.get? a = some { cls := .type "list", data := .seq its.toArray n }
  | .tup xs => xs.length ≤ sizeLine ∧ ∃ its : List Value, Vals xs its ∧ IsTup h a its.toArray
  | .dK kvs => kvs.length ≤ sizeLine ∧ (a == sysModules) = false ∧ ∃ vs, KV kvs vs ∧ h.DictOf (mixKind P w) a vs
  | .dT kvs => kvs.length ≤ sizeLine ∧ (a == sysModules) = false ∧ ∃ xs : List (List Key × Addr × Value),
      Paired (fun (p : List Key × V) (q : List Key × Addr × Value) => p.1 = q.1 ∧ H q.2.1 = some (.tup (p.1.map kV)) ∧ RelV p.2 q.2.2) kvs xs ∧
      ∃ o es ep, h.get? a = some o ∧ o.ExactDict ∧ o.data = .dict es ep ∧ es.toList = xs.map (entryOfKey (tupleKind (mixKind P w))) ∧ (xs.map (·.1)).Nodup
  | .set S n => h.SetOf (intKind P w) a S n
  | .ins C dx fs => H dx = some (.own a) ∧ fs.length ≤ 1000 ∧ dx ≠ a ∧ h.get? a = some (PySem.W.instObj C dx) ∧
      ∃ mA, h.Ns1 dx mA ∧ (∀ f, RelO (fs.lookup f) (mA f)) ∧ PySem.Within mA (fs.map (·.1))
  | .own _ => ∃ o, h.get? a = some o
  | .xd fs => ∃ mA, h.Ns1 a mA ∧ ∀ f, RelO (fs.lookup f) (mA f)
  | .rng lo hi => ∃ t u v, h.get? a = some { cls := .type "range", data := .fields #[.int lo t, .int hi u, .int 1 v] }
  | .frz o u => h.get? a = some o ∧ ObjOk H h a u
  | .tbl ps => h.get? a = some { cls := .none, data := .fields ps }
  | .met f x => h.get? a = some (PySem.W.methodObj (.ref f) (.ref x))
  | .ext φ => φ h ∧ (∃ o, h.get? a = some o) ∧ ∀ h1 h2 : Heap, φ h1 → (∀ o, h1.get? a = some o → h2.get? a = some o) → φ h2
def HOk (H : Hp) (h : Heap) : Prop := ∀ a o, H a = some o → ObjOk P w H h a o
end
section
variable {P : Program} {w : World} {H H' : Hp} {h h' : Heap} {a : Addr} {o : HO}
theorem ObjOk.lt (x : ObjOk P w H h a o) : a < h.objs.size := by
  cases o with
  | lst xs => obtain ⟨_, _, _, _, e⟩ := x; exact Heap.lt_size e
  | tup xs => obtain ⟨_, _, _, p⟩ := x; exact p.lt
  | dK kvs => obtain ⟨_, _, _, _, o, _, _, e, _⟩ := x; exact Heap.lt_size e
  | dT kvs => obtain ⟨_, _, _, _, o, _, _, e, _⟩ := x; exact Heap.lt_size e
  | set S n => obtain ⟨o, _, _, _, e, _⟩ := x; exact Heap.lt_size e
  | ins C dx fs => obtain ⟨_, _, _, e, _⟩ := x; exact Heap.lt_size e
  | own y => obtain ⟨_, e⟩ := x; exact Heap.lt_size e
  | xd fs => obtain ⟨_, ⟨_, _, _, e, _⟩, _⟩ := x; exact Heap.lt_size e
  | rng lo hi => obtain ⟨_, _, _, e⟩ := x; exact Heap.lt_size e
  | frz ob u => obtain ⟨e, _⟩ := x; exact Heap.lt_size e
  | tbl ps => exact Heap.lt_size (show h.get? a = some _ from x)
  | met f y => exact Heap.lt_size (show h.get? a = some _ from x)
  | ext φ => obtain ⟨_, ⟨_, e⟩, _⟩ := x; exact Heap.lt_size e
theorem Paired.mapP {α β : Type} {F G : α → β → Prop} : ∀ {l₁ : List α} {l₂ : List β}, Paired F l₁ l₂ → (∀ a b, F a b → G a b) → Paired G l₁ l₂
  | _, _, .nil, _ => .nil
  | _, _, .cons r t, f => .cons (f _ _ r) (Paired.mapP t f)
theorem ObjOk.stay (x : ObjOk P w H h a o) (k : ∀ b u, (b = a ∨ H b = some (.own a)) → h.get? b = some u → h'.get? b = some u)
    (ho : ∀ b, H b = some (.own a) → H' b = some (.own a)) (ht : ∀ b xs, H b = some (.tup xs) → H' b = some (.tup xs)) : ObjOk P w H' h' a o := by
  induction o with
  | lst xs => obtain ⟨z, its, n, r, e⟩ := x; exact ⟨z, its, n, r, k _ _ (.inl rfl) e⟩
  | tup xs => obtain ⟨z, its, r, ob, e, c⟩ := x; exact ⟨z, its, r, ob, k _ _ (.inl rfl) e, c⟩
  | dK kvs => obtain ⟨z, y, vs, r, ob, es, ep, e, c⟩ := x; exact ⟨z, y, vs, r, ob, es, ep, k _ _ (.inl rfl) e, c⟩
  | dT kvs =>
    obtain ⟨z, y, xs, r, ob, es, ep, e, c⟩ := x
    exact ⟨z, y, xs, Paired.mapP r fun p q z => ⟨z.1, ht _ _ z.2.1, z.2.2⟩, ob, es, ep, k _ _ (.inl rfl) e, c⟩
  | set S n => obtain ⟨ob, es, ep, t, e, c⟩ := x; exact ⟨ob, es, ep, t, k _ _ (.inl rfl) e, c⟩
  | ins C dx fs =>
    obtain ⟨d, z, ne, e, mA, ⟨od, es, ep, e2, c⟩, r⟩ := x
    exact ⟨ho _ d, z, ne, k _ _ (.inl rfl) e, mA, ⟨od, es, ep, k _ _ (.inr d) e2, c⟩, r⟩
  | own y => obtain ⟨ob, e⟩ := x; exact ⟨ob, k _ _ (.inl rfl) e⟩
  | xd fs => obtain ⟨mA, ⟨od, es, ep, e, c⟩, r⟩ := x; exact ⟨mA, ⟨od, es, ep, k _ _ (.inl rfl) e, c⟩, r⟩
  | rng lo hi => obtain ⟨t, u, v, e⟩ := x; exact ⟨t, u, v, k _ _ (.inl rfl) e⟩
  | frz ob u ih => obtain ⟨e, q⟩ := x; exact ⟨k _ _ (.inl rfl) e, ih q⟩
  | tbl ps =>
    have e : h.get? a = some { cls := .none, data := .fields ps } := x
    show h'.get? a = some { cls := .none, data := .fields ps }
    exact k a _ (.inl rfl) e
  | met f y =>
    have e : h.get? a = some (PySem.W.methodObj (.ref f) (.ref y)) := x
    show h'.get? a = some (PySem.W.methodObj (.ref f) (.ref y))
    exact k a _ (.inl rfl) e
  | ext φ => obtain ⟨p, ⟨o, e⟩, st⟩ := x; exact ⟨st _ _ p fun o q => k _ _ (.inl rfl) q, ⟨o, k _ _ (.inl rfl) e⟩, st⟩
theorem HOk.lt (x : HOk P w H h) (e : H a = some o) : a < h.objs.size := (x a o e).lt
theorem HOk.fresh (x : HOk P w H h) (e : h.objs.size ≤ a) : H a = none := by
  cases q : H a with
  | none => rfl
  | some u => exact absurd (Nat.lt_of_lt_of_le (x.lt q) e) (Nat.lt_irrefl _)
theorem HOk.kept (x : HOk P w H h) (k : ∀ b u, h.get? b = some u → h'.get? b = some u) : HOk P w H h' := fun a o e =>
  (x a o e).stay (fun b u _ q => k b u q) (fun _ q => q) fun _ _ q => q
theorem HOk.laid (x : HOk P w H h) (k : ∀ b u, h.get? b = some u → h'.get? b = some u) (hp : h.objs.size ≤ a) (new : ObjOk P w (upd H a o) h' a o) : HOk P w (upd H a o) h' := fun b u e => by
  have hn := x.fresh hp
  by_cases hb : b = a
  · subst hb; rw [upd_same] at e; cases e; exact new
  · rw [upd_ne hb] at e
    exact (x b u e).stay (fun c v _ q => k c v q) (fun c q => by rw [upd_ne (ne_of_none q hn)]; exact q) fun c xs q => by rw [upd_ne (ne_of_none q hn)]; exact q
end
def Rd (H : Hp) (a : Addr) (u : HO) : Prop := H a = some u ∨ ∃ o, H a = some (.frz o u)
theorem Rd.ok {P : Program} {w : World} {H : Hp} {h : Heap} {a : Addr} {u : HO} (r : Rd H a u) (x : HOk P w H h) : ObjOk P w H h a u := by
  rcases r with r | ⟨o, r⟩
  · exact x a u r
  · obtain ⟨_, q⟩ := x a _ r
    exact q
def Mut : Option HO → Prop
  | some (.lst _) => True
  | some (.dK _) => True
  | some (.dT _) => True
  | some (.set _ _) => True
  | some (.ins _ _ _) => True
  | some (.ext _) => True
  | _ => False
section
variable {P : Program} {w : World} {H : Hp} {h h' : Heap} {x e : Addr} {o' : HO}
theorem HOk.write (ok : HOk P w H h) (mu : Mut (H x)) (he : e = x ∨ H e = some (.own x)) (k : ∀ b u, b ≠ e → h.get? b = some u → h'.get? b = some u) (heo : ∃ u, h'.get? e = some u)
    (new : ObjOk P w (upd H x o') h' x o') : HOk P w (upd H x o') h' := fun b u q => by
  have nown : ∀ c y, H c = some (.own y) → c ≠ x := fun c y r z => by subst z; rw [r] at mu; exact mu
  have ntup : ∀ c xs, H c = some (.tup xs) → c ≠ x := fun c xs r z => by subst z; rw [r] at mu; exact mu
  by_cases hb : b = x
  · subst hb; rw [upd_same] at q; cases q; exact new
  · rw [upd_ne hb] at q
    by_cases hbe : b = e
    · have q' : H b = some (.own x) := by
        rcases he with z | z
        · exact absurd (hbe.trans z) hb
        · rw [hbe]; exact z
      rw [q] at q'; cases q'
      obtain ⟨v, hv⟩ := heo
      exact ⟨v, by rw [hbe]; exact hv⟩
    · refine (ok b u q).stay (fun c v hc r => k c v ?_ r) (fun c r => by rw [upd_ne (nown c b r)]; exact r) fun c xs r => by rw [upd_ne (ntup c xs r)]; exact r
      rcases hc with rfl | hc
      · exact hbe
      · rintro rfl
        rcases he with z | z
        · exact nown c b hc z
        · rw [hc] at z; cases z; exact hb rfl
end
structure Un (fs ex : List Addr) (H H' : Hp) (h h' : Heap) : Prop where
  keep : ∀ b o, h.get? b = some o → H b = none → b ∉ fs → b ∉ ex → h'.get? b = some o
  slot : ∀ b o, h.get? b = some o → H b = none → b ∈ fs → b ∉ ex → ∃ sl, h'.get? b = some { o with slots := sl }
  free : ∀ b o, h.get? b = some o → H b = none → b ∉ ex → H' b = none
  there : ∀ b o, h.get? b = some o → b ∉ ex → ∃ o', h'.get? b = some o'
  tups : ∀ b xs, H b = some (.tup xs) → H' b = some (.tup xs)
  frzs : ∀ b o u, H b = some (.frz o u) → H' b = some (.frz o u)
  tbls : ∀ b ps, H b = some (.tbl ps) → ∃ more, H' b = some (.tbl (ps ++ more))
section
variable {fs fs' ex ex' : List Addr} {H H1 H2 : Hp} {h h1 h2 h' : Heap} {a x e : Addr} {o : HO}
theorem Un.any (u : Un fs ex H H1 h h1) {b : Addr} {ob : Obj} (q : h.get? b = some ob) (n : H b = none) (hx : b ∉ ex) : ∃ sl, h1.get? b = some { ob with slots := sl } := by
  by_cases hb : b ∈ fs
  · exact u.slot b ob q n hb hx
  · exact ⟨ob.slots, u.keep b ob q n hb hx⟩
theorem Un.kept (k : ∀ b u, h.get? b = some u → h'.get? b = some u) : Un fs ex H H h h' :=
  ⟨fun b ob q _ _ _ => k b ob q, fun b ob q _ _ _ => ⟨ob.slots, k b ob q⟩, fun _ _ _ n _ => n, fun b ob q _ => ⟨ob, k b ob q⟩, fun _ _ q => q, fun _ _ _ q => q, fun _ ps q => ⟨#[], by rw [q]; simp⟩⟩
theorem Un.refl : Un fs ex H H h h := Un.kept fun _ _ q => q
theorem Un.laid (k : ∀ b u, h.get? b = some u → h'.get? b = some u) (hp : h.objs.size ≤ a) (hn : H a = none) : Un fs ex H (upd H a o) h h' where
  keep := fun b u q _ _ _ => k b u q
  slot := fun b u q _ _ _ => ⟨u.slots, k b u q⟩
  free := fun b u q n _ => by rw [upd_ne (Nat.ne_of_lt (Nat.lt_of_lt_of_le (Heap.lt_size q) hp))]; exact n
  there := fun b u q _ => ⟨u, k b u q⟩
  tups := fun b xs q => by rw [upd_ne (ne_of_none q hn)]; exact q
  frzs := fun b u xs q => by rw [upd_ne (ne_of_none q hn)]; exact q
  tbls := fun b ps q => ⟨#[], by rw [upd_ne (ne_of_none q hn), q]; simp⟩
theorem Un.write (mu : Mut (H x)) (he : e = x ∨ H e = some (.own x)) (k : ∀ b u, b ≠ e → h.get? b = some u → h'.get? b = some u) (heo : ∃ u, h'.get? e = some u) : Un fs ex H (upd H x o) h h' := by
  have hx : ∀ b, H b = none → b ≠ x := fun b n z => by subst z; rw [n] at mu; exact mu
  have hb : ∀ b, H b = none → b ≠ e := fun b n z => by
    subst z
    rcases he with r | r
    · exact hx b n r
    · rw [n] at r; cases r
  have hm : ∀ b u, H b = some u → ¬ Mut (some u) → b ≠ x := fun b u q nm z => by subst z; rw [q] at mu; exact nm mu
  refine ⟨fun b u q n _ _ => k b u (hb b n) q, fun b u q n _ _ => ⟨u.slots, k b u (hb b n) q⟩, fun b u q n _ => by rw [upd_ne (hx b n)]; exact n, fun b u q _ => ?_,
    fun b xs q => by rw [upd_ne (hm b _ q fun z => z)]; exact q, fun b u xs q => by rw [upd_ne (hm b _ q fun z => z)]; exact q, fun b ps q => ⟨#[], by rw [upd_ne (hm b _ q fun z => z), q]; simp⟩⟩
  by_cases hbe : b = e
  · subst hbe; exact heo
  · exact ⟨u, k b u hbe q⟩
end
def trk (h : Heap) (H : Hp) : List Addr := (List.range h.objs.size).filter fun a => (H a).isSome
def hidT (h : Heap) (H : Hp) : Heap := PySem.W.hideAll h (trk h H)
theorem hidT_size (h : Heap) (H : Hp) : (hidT h H).objs.size = h.objs.size := PySem.W.hideAll_size _ _
theorem hidT_get {h : Heap} {H : Hp} {b : Addr} {o : Obj} (e : h.get? b = some o) (n : H b = none) : (hidT h H).get? b = some o :=
  PySem.W.hideAll_get _ e fun hm => by
    have q : (H b).isSome = true := (List.mem_filter.mp hm).2
    rw [n] at q; simp at q
theorem of_hidT {h : Heap} {H : Hp} {b : Addr} {o : Obj} (e : (hidT h H).get? b = some o) : h.get? b = some o ∧ H b = none := by
  have e' : h.get? b = some o := PySem.W.of_hideAll (trk h H) e
  refine ⟨e', ?_⟩
  cases q : H b with
  | none => rfl
  | some x =>
    have hm : b ∈ trk h H := List.mem_filter.mpr ⟨List.mem_range.mpr (Heap.lt_size e'), by simp [q]⟩
    have z : (hidT h H).get? b = none := PySem.W.hideAll_none (trk h H) hm
    rw [z] at e; cases e
def allNews (g h : Heap) (L : Addr) : List (Addr × Obj) := (List.range h.objs.size).filterMap fun a => if a = L ∨ (g.get? a).isSome = true then none else (h.get? a).map fun o => (a, o)
def rest (g h : Heap) (L d : Addr) : List (Addr × Obj) := (allNews g h L).filter fun p => decide (p.1 ≠ d)
end L2
namespace L2
open PySem PySem.Spec PyProof.Rows
structure Mod (K : PySem.W.Frag) (mg : Str → Option Value) (base : Heap) : Prop where
  kin : K.In base
  glob : base.Ns mainGlobals mg
  blt : ∃ mb, base.Ns builtinsNs mb ∧ ∀ x : Str, x ≠ "__name__" → mb x = bootBuiltins x
  nolimit : base.NoLimit
structure Cx where
  prog : Program
  w : World
  K : PySem.W.Frag
  mg : Str → Option Value
  base : Heap
  A : Around
  N : List Str
  s₀ : Shared
  H₀ : Hp
  env : Env
  outer : List Env
  stack : List Env
  ex : List Addr
  fn : Str → Bool
  calm : Bool
  pn : List (Addr × Obj)
  xe : Value → Shared → Prop
def frs (l : List Env) : List Addr := l.filterMap (·.frame)
abbrev Cx.fs (X : Cx) : List Addr := frs X.outer
def Vis (sc : Scope) (x : Str) : Prop := sc.names.lookup x = some .local ∨ sc.names.lookup x = some .cell ∨ sc.names.lookup x = some .free
def Loc (sc : Scope) (x : Str) : Prop := sc.names.lookup x = some .local ∨ sc.names.lookup x = some .cell
def Look (env : Env) (h : Heap) (m : Str → Option Value) (x : Str) (u : Value) : Prop :=
  (env.kindOf x = some .local ∧ m x = some u) ∨ ((env.kindOf x = some .cell ∨ env.kindOf x = some .free) ∧ ∃ c, env.cells.lookup x = some c ∧ h.IsCell c (some u))
structure Cx.Ok (X : Cx) : Prop where
  mod : Mod X.K X.mg X.base
  kind : X.env.scope.kind = .function
  glob : X.env.globals = mainGlobals
  blt : X.env.builtins = builtinsNs
  above : X.s₀.heap.objs.size ≤ X.env.locals
  inj : ∀ x y c, X.env.cells.lookup x = some c → X.env.cells.lookup y = some c → x = y
  has : ∀ x, (X.env.kindOf x = some .cell ∨ X.env.kindOf x = some .free) → ∃ c, X.env.cells.lookup x = some c
  cab : ∀ x c, X.fn x = true → X.env.cells.lookup x = some c → X.s₀.heap.objs.size ≤ c
  hd : X.calm = true → X.A.handled = none
  frames : X.A.frames = some X.stack
  stk : X.stack = X.outer ∨ (X.stack = X.env :: X.outer ∧ X.env.frame = some X.env.locals)
  exf : ∀ b ∈ X.ex, b ≠ X.env.locals ∧ ∀ x c, X.env.cells.lookup x = some c → c ≠ b
  bs : ∀ b o, X.base.get? b = some o → X.s₀.heap.get? b = some o ∧ X.H₀ b = none
  bsz : X.base.objs.size ≤ X.s₀.heap.objs.size
  noex : ∀ b o, X.base.get? b = some o → b ∉ X.ex
  exfs : ∀ b ∈ X.ex, b ∉ X.fs
  funs : X.s₀.heap.FunFrames X.base X.outer
  frf : ∀ b ∈ X.fs, X.H₀ b = none
structure Inv (X : Cx) (pins : List (Addr × Obj)) (σ : List (Option V)) (H : Hp) (s : Shared) : Prop where
  ok : X.Ok
  os : s.os = X.s₀.os
  bare : AllBare s.gens
  base : Un X.fs X.ex X.H₀ H X.s₀.heap s.heap
  loc : ∃ m, s.heap.Ns X.env.locals m ∧ ∀ (i : Nat) (x : Str) (v : V), X.N[i]? = some x → σ[i]? = some (some v) → Vis X.env.scope x → ∃ u, RelV v u ∧ Look X.env s.heap m x u
  cell : ∀ x c, X.env.cells.lookup x = some c → ∃ v, s.heap.IsCell c v
  free : H X.env.locals = none
  freeC : ∀ x c, X.env.cells.lookup x = some c → H c = none
  pin : ∀ p ∈ X.pn ++ pins, s.heap.get? p.1 = some p.2 ∧ H p.1 = none ∧ p.1 ≠ X.env.locals ∧ p.1 ∉ X.fs ∧ ∀ v, p.2.data ≠ .cell v
  hok : HOk X.prog X.w H s.heap
  len : σ.length = X.N.length
section
variable {X : Cx} {pins : List (Addr × Obj)} {σ : List (Option V)} {H H' : Hp} {s : Shared} {h' : Heap}
theorem Cx.Ok.nofr (ok : X.Ok) {b : Addr} {o : Obj} (e : X.base.get? b = some o) : b ∉ X.fs := fun hb => by
  have := (ok.funs.mem hb).1
  rw [e] at this; cases this
theorem Inv.bs (I : Inv X pins σ H s) : ∀ b o, X.base.get? b = some o → s.heap.get? b = some o ∧ H b = none := fun b o e =>
  ⟨I.base.keep b o (I.ok.bs b o e).1 (I.ok.bs b o e).2 (I.ok.nofr e) (I.ok.noex b o e), I.base.free b o (I.ok.bs b o e).1 (I.ok.bs b o e).2 (I.ok.noex b o e)⟩
theorem Inv.bk (I : Inv X pins σ H s) : ∀ b o, X.base.get? b = some o → s.heap.get? b = some o := fun b o e => (I.bs b o e).1
theorem Inv.mod (I : Inv X pins σ H s) : Mod X.K X.mg X.base := I.ok.mod
theorem Inv.kIn (I : Inv X pins σ H s) : X.K.In s.heap := I.ok.mod.kin.keeps I.bk
theorem Inv.fr (I : Inv X pins σ H s) : ∃ m, Fr X.base X.env.locals s.heap m :=
  let ⟨m, hn, _⟩ := I.loc
  ⟨m, hn, I.bk, Nat.le_trans I.ok.bsz I.ok.above⟩
theorem Inv.lt (I : Inv X pins σ H s) : X.env.locals < s.heap.objs.size := let ⟨_, hn, _⟩ := I.loc; hn.lt
theorem Inv.sz (I : Inv X pins σ H s) : X.s₀.heap.objs.size ≤ s.heap.objs.size := Nat.le_trans I.ok.above (Nat.le_of_lt I.lt)
theorem Inv.nofs (I : Inv X pins σ H s) {a : Addr} (h : s.heap.objs.size ≤ a) : a ∉ X.fs := fun hb => by
  obtain ⟨_, o, ho, _⟩ := I.ok.funs.mem hb
  exact absurd (Nat.lt_of_lt_of_le (Heap.lt_size ho) (Nat.le_trans I.sz h)) (Nat.lt_irrefl _)
theorem Inv.cne (I : Inv X pins σ H s) : ∀ x c, X.env.cells.lookup x = some c → c ≠ X.env.locals := fun x c e z => by
  obtain ⟨v, o, ho, hd⟩ := I.cell x c e
  obtain ⟨m, ⟨o', es, ep, ho', hd', _⟩, _⟩ := I.loc
  rw [z, ho'] at ho; cases ho; rw [hd'] at hd; cases hd
theorem Inv.funs (I : Inv X pins σ H s) : s.heap.FunFrames X.base X.outer := by
  have all : ∀ (l : List Env), (∀ b ∈ frs l, b ∈ X.fs) → X.s₀.heap.FunFrames X.base l → s.heap.FunFrames X.base l := by
    intro l
    induction l with
    | nil => intro _ _; trivial
    | cons env r ih =>
      intro hs hl
      obtain ⟨hk, ⟨L, o, hf, hn, ho, hd⟩, hr⟩ := hl
      have hL : L ∈ X.fs := hs L (by unfold frs; rw [List.filterMap_cons, hf]; exact List.mem_cons_self)
      obtain ⟨sl, e⟩ := I.base.slot L o ho (I.ok.frf L hL) hL fun z => I.ok.exfs L z hL
      exact ⟨hk, ⟨L, _, hf, hn, e, hd⟩, ih (fun b hb => hs b (by unfold frs; rw [List.filterMap_cons, hf]; exact List.mem_cons_of_mem _ hb)) hr⟩
  exact all X.outer (fun _ hb => hb) I.ok.funs
theorem Inv.stack (I : Inv X pins σ H s) : s.heap.FunFrames X.base X.stack := by
  rcases I.ok.stk with e | ⟨e, hf⟩
  · rw [e]; exact I.funs
  · rw [e]
    obtain ⟨m, hn, _⟩ := I.loc
    refine .cons (by rw [I.ok.kind]; decide) hf hn ?_ I.funs
    exact Heap.get?_none_of_le (Nat.le_trans I.ok.bsz I.ok.above)
theorem Inv.stkSub (I : Inv X pins σ H s) : ∀ b ∈ frs X.stack, b ∈ X.env.locals :: X.fs := fun b hb => by
  rcases I.ok.stk with e | ⟨e, hf⟩
  · rw [e] at hb; exact List.mem_cons_of_mem _ hb
  · rw [e] at hb
    unfold frs at hb
    rw [List.filterMap_cons, hf] at hb
    exact hb
theorem Inv.stkFree (I : Inv X pins σ H s) : ∀ b ∈ frs X.stack, H b = none := fun b hb => by
  rcases List.mem_cons.mp (I.stkSub b hb) with e | hb
  · rw [e]; exact I.free
  · obtain ⟨_, o, ho, _⟩ := I.ok.funs.mem hb
    exact I.base.free b o ho (I.ok.frf b hb) fun z => I.ok.exfs b z hb
theorem Inv.step {g' : Array GenState} {t' : Nat} {d' : Drawn} {ch : List Addr} (I : Inv X pins σ H s)
    (hch : ∀ b ∈ ch, (b ∈ X.ex ∨ X.s₀.heap.objs.size ≤ b) ∧ b ≠ X.env.locals ∧ (∀ x c, X.env.cells.lookup x = some c → c ≠ b) ∧ ∀ p ∈ X.pn ++ pins, p.1 ≠ b)
    (keep : ∀ b o, b ≠ X.env.locals → b ∉ X.fs → b ∉ ch → s.heap.get? b = some o → H b = none → h'.get? b = some o)
    (slot : ∀ b o, b ≠ X.env.locals → b ∈ X.fs → b ∉ ch → s.heap.get? b = some o → H b = none → ∃ sl, h'.get? b = some { o with slots := sl }) (free : ∀ b o, b ∉ ch → s.heap.get? b = some o → H b = none → H' b = none)
    (there : ∀ b o, b ∉ ch → s.heap.get? b = some o → ∃ o', h'.get? b = some o')
    (tups : ∀ b xs, H b = some (.tup xs) → H' b = some (.tup xs)) (frzs : ∀ b o u, H b = some (.frz o u) → H' b = some (.frz o u)) (tbls : ∀ b ps, H b = some (.tbl ps) → ∃ more, H' b = some (.tbl (ps ++ more)))
    (ns : ∀ m, s.heap.Ns X.env.locals m → h'.Ns X.env.locals m) (hok : HOk X.prog X.w H' h') (hg : AllBare g') :
    Inv X pins σ H' { s with heap := h', gens := g', drawn := d', toks := t' } := by
  have neL : ∀ b o, X.s₀.heap.get? b = some o → b ≠ X.env.locals := fun b o e => Nat.ne_of_lt (Nat.lt_of_lt_of_le (Heap.lt_size e) I.ok.above)
  have neC : ∀ b o, X.s₀.heap.get? b = some o → b ∉ X.ex → b ∉ ch := fun b o e hx hb => by
    rcases (hch b hb).1 with z | z
    · exact hx z
    · exact absurd (Nat.lt_of_lt_of_le (Heap.lt_size e) z) (Nat.lt_irrefl _)
  have cellK : ∀ x c, X.env.cells.lookup x = some c → ∀ v, s.heap.IsCell c v → h'.IsCell c v := fun x c e v ⟨o, ho, hd⟩ => by
    have nch : c ∉ ch := fun z => (hch c z).2.2.1 x c e rfl
    by_cases hc : c ∈ X.fs
    · obtain ⟨sl, q⟩ := slot c o (I.cne x c e) hc nch ho (I.freeC x c e)
      exact ⟨_, q, hd⟩
    · exact ⟨o, keep c o (I.cne x c e) hc nch ho (I.freeC x c e), hd⟩
  refine ⟨I.ok, I.os, hg, ⟨fun b o e n hb hx => ?_, fun b o e n hb hx => ?_, fun b o e n hx => ?_, fun b o e hx => ?_, fun b xs e => tups b xs (I.base.tups b xs e), fun b o xs e => frzs b o xs (I.base.frzs b o xs e), fun b ps e => ?_⟩, ?_, fun x c e => ?_, ?_, fun x c e => ?_, fun p hp => ?_, hok, I.len⟩
  · exact keep b o (neL b o e) hb (neC b o e hx) (I.base.keep b o e n hb hx) (I.base.free b o e n hx)
  · obtain ⟨sl, e1⟩ := I.base.slot b o e n hb hx
    obtain ⟨sl', e2⟩ := slot b _ (neL b o e) hb (neC b o e hx) e1 (I.base.free b o e n hx)
    exact ⟨sl', e2⟩
  · obtain ⟨o', e1⟩ := I.base.there b o e hx
    exact free b o' (neC b o e hx) e1 (I.base.free b o e n hx)
  · obtain ⟨o', e1⟩ := I.base.there b o e hx
    exact there b o' (neC b o e hx) e1
  · obtain ⟨m1, e1⟩ := I.base.tbls b ps e
    obtain ⟨m2, e2⟩ := tbls b _ e1
    exact ⟨m1 ++ m2, by rw [e2, Array.append_assoc]⟩
  · obtain ⟨m, hn, hl⟩ := I.loc
    refine ⟨m, ns m hn, fun i x v e1 e2 e3 => ?_⟩
    obtain ⟨u, r, l⟩ := hl i x v e1 e2 e3
    refine ⟨u, r, ?_⟩
    rcases l with l | ⟨k, c, e, z⟩
    · exact .inl l
    · exact .inr ⟨k, c, e, cellK x c e _ z⟩
  · obtain ⟨v, z⟩ := I.cell x c e
    exact ⟨v, cellK x c e v z⟩
  · obtain ⟨m, ⟨o, _, _, ho, _⟩, _⟩ := I.loc
    exact free _ o (fun z => (hch _ z).2.1 rfl) ho I.free
  · obtain ⟨v, o, ho, hd⟩ := I.cell x c e
    exact free c o (fun z => (hch c z).2.2.1 x c e rfl) ho (I.freeC x c e)
  · obtain ⟨e, n, ne, nf, d⟩ := I.pin p hp
    have nch : p.1 ∉ ch := fun z => (hch p.1 z).2.2.2 p hp rfl
    exact ⟨keep p.1 p.2 ne nf nch e n, free p.1 p.2 nch e n, ne, nf, d⟩
theorem Inv.un {t' : Nat} (I : Inv X pins σ H s) (u : Un X.fs [] H H' s.heap h') (hok : HOk X.prog X.w H' h') : Inv X pins σ H' { s with heap := h', toks := t' } := by
  obtain ⟨m, ⟨o, es, ep, ho, r⟩, _⟩ := id I.loc
  obtain ⟨sl, hL⟩ := u.any ho I.free (by simp)
  exact I.step (g' := s.gens) (d' := s.drawn) (ch := []) (fun _ z => nomatch z) (fun b o _ hb _ e n => u.keep b o e n hb (by simp)) (fun b o _ hb _ e n => u.slot b o e n hb (by simp)) (fun b o _ e n => u.free b o e n (by simp)) (fun b o _ e => u.there b o e (by simp)) u.tups u.frzs u.tbls (fun m' hm => by
    obtain ⟨o', es', ep', ho', r'⟩ := hm
    rw [ho] at ho'; cases ho'
    exact ⟨_, es', ep', hL, r'⟩) hok I.bare
theorem Inv.call {g' : Array GenState} {t' : Nat} {d' : Drawn} {ch : List Addr} (I : Inv X pins σ H s) (u : Un (frs X.stack) ch H H' s.heap h') (hok : HOk X.prog X.w H' h') (hg : AllBare g')
    (hch : ∀ b ∈ ch, (b ∈ X.ex ∨ X.s₀.heap.objs.size ≤ b) ∧ b ≠ X.env.locals ∧ (∀ x c, X.env.cells.lookup x = some c → c ≠ b) ∧ ∀ p ∈ X.pn ++ pins, p.1 ≠ b) :
    Inv X pins σ H' { s with heap := h', gens := g', drawn := d', toks := t' } := by
  obtain ⟨m, ⟨o, es, ep, ho, r⟩, _⟩ := id I.loc
  obtain ⟨sl, hL⟩ := u.any ho I.free fun z => (hch _ z).2.1 rfl
  exact I.step (ch := ch) hch (fun b o hL hb hc e n => u.keep b o e n (fun z => (List.mem_cons.mp (I.stkSub b z)).elim hL hb) hc) (fun b o _ _ hc e n => u.any e n hc) (fun b o hc e n => u.free b o e n hc) (fun b o hc e => u.there b o e hc) u.tups u.frzs u.tbls (fun m' hm => by
    obtain ⟨o', es', ep', ho', r'⟩ := hm
    rw [ho] at ho'; cases ho'
    exact ⟨_, es', ep', hL, r'⟩) hok hg
theorem Inv.turned {t' : Nat} {it : Addr} (I : Inv X pins σ H s) (k : ∀ b o, b ≠ it → s.heap.get? b = some o → h'.get? b = some o) (hn : H it = none) (hL : it ≠ X.env.locals)
    (h1 : it ∈ X.ex ∨ X.s₀.heap.objs.size ≤ it) (h2 : ∀ x c, X.env.cells.lookup x = some c → c ≠ it) (h3 : ∀ p ∈ X.pn ++ pins, p.1 ≠ it) : Inv X pins σ H { s with heap := h', toks := t' } := by
  have nit : ∀ b u, H b = some u → b ≠ it := fun b u e z => by rw [z, hn] at e; cases e
  refine I.step (g' := s.gens) (d' := s.drawn) (ch := [it]) (fun b hb => ?_) (fun b o _ _ hc e _ => k b o (fun z => hc (by simp [z])) e) (fun b o _ _ hc e _ => ⟨o.slots, k b o (fun z => hc (by simp [z])) e⟩) (fun _ _ _ _ n => n)
    (fun b o hc e => ⟨o, k b o (fun z => hc (by simp [z])) e⟩) (fun _ _ e => e) (fun _ _ _ e => e) (fun b ps e => ⟨#[], by rw [e]; simp⟩) (fun m hm => ?_) (fun b u e => ?_) I.bare
  · have e : b = it := by simpa using hb
    subst e
    exact ⟨h1, hL, h2, h3⟩
  · obtain ⟨o, es, ep, ho, r⟩ := hm
    exact ⟨o, es, ep, k _ o (Ne.symm hL) ho, r⟩
  · refine (I.hok b u e).stay (fun c v hc q => k c v ?_ q) (fun _ q => q) fun _ _ q => q
    rcases hc with z | z
    · rw [z]; exact nit b u e
    · exact nit c _ z
theorem Inv.tok (I : Inv X pins σ H s) (t : Nat) : Inv X pins σ H { s with toks := t } := I.un (h' := s.heap) (t' := t) Un.refl I.hok
theorem Inv.kept {t' : Nat} (I : Inv X pins σ H s) (k : ∀ b u, s.heap.get? b = some u → h'.get? b = some u) : Inv X pins σ H { s with heap := h', toks := t' } := I.un (Un.kept k) (I.hok.kept k)
theorem Inv.laid {a : Addr} {o : HO} {t' : Nat} (I : Inv X pins σ H s) (k : ∀ b u, s.heap.get? b = some u → h'.get? b = some u) (hp : s.heap.objs.size ≤ a) (new : ObjOk X.prog X.w (upd H a o) h' a o) :
    Inv X pins σ (upd H a o) { s with heap := h', toks := t' } := I.un (Un.laid k hp (I.hok.fresh hp)) (I.hok.laid k hp new)
theorem Inv.write {x e : Addr} {o : HO} {t' : Nat} (I : Inv X pins σ H s) (mu : Mut (H x)) (he : e = x ∨ H e = some (.own x)) (k : ∀ b u, b ≠ e → s.heap.get? b = some u → h'.get? b = some u) (heo : ∃ u, h'.get? e = some u)
    (new : ObjOk X.prog X.w (upd H x o) h' x o) : Inv X pins σ (upd H x o) { s with heap := h', toks := t' } := I.un (Un.write mu he k heo) (I.hok.write mu he k heo new)
theorem Inv.weak {σ' : List (Option V)} (I : Inv X pins σ H s) (hl : σ'.length = σ.length) (w : ∀ (i : Nat) v, σ'[i]? = some (some v) → σ[i]? = some (some v)) : Inv X pins σ' H s :=
  ⟨I.ok, I.os, I.bare, I.base, let ⟨m, hn, hl'⟩ := I.loc; ⟨m, hn, fun i x v e1 e2 e3 => hl' i x v e1 (w i v e2) e3⟩, I.cell, I.free, I.freeC, I.pin, I.hok, hl.trans I.len⟩
theorem Inv.pins_of {pins' : List (Addr × Obj)} (I : Inv X pins σ H s) (h : ∀ p ∈ pins', s.heap.get? p.1 = some p.2 ∧ H p.1 = none ∧ p.1 ≠ X.env.locals ∧ p.1 ∉ X.fs ∧ ∀ v, p.2.data ≠ .cell v) : Inv X pins' σ H s :=
  ⟨I.ok, I.os, I.bare, I.base, I.loc, I.cell, I.free, I.freeC, fun p hp => (List.mem_append.mp hp).elim (fun z => I.pin p (List.mem_append_left _ z)) (h p), I.hok, I.len⟩
theorem nodup_ix {N : List Str} (hN : N.Nodup) {i j : Nat} {x : Str} (a : N[i]? = some x) (b : N[j]? = some x) : i = j := by
  obtain ⟨h1, e1⟩ := List.getElem?_eq_some_iff.mp a
  obtain ⟨h2, e2⟩ := List.getElem?_eq_some_iff.mp b
  exact (List.getElem_inj hN).mp (e1.trans e2.symm)
theorem store_ok2 {M : Model} {A : Around} {E : Value → Shared → Prop} {i : Nat} {x : Str} {v : V} {u : Value} {Q : Unit → Shared → Prop} (I : Inv X pins σ H s) (hN : X.N.Nodup) (hi : X.N[i]? = some x) (hx : Loc X.env.scope x) (r : RelV v u)
    (h : ∀ s', Inv X pins (σ.set i (some v)) H s' → (∃ a, Heap.SameBut a s.heap s'.heap ∧ (a = X.env.locals ∨ X.env.cells.lookup x = some a)) → Q () s') (hf : X.fn x = true ∨ X.env.scope.names.lookup x = some .local := by first | exact .inl rfl | exact .inr rfl | assumption) : wpAny M A (storeName X.env x u) Q E s := by
  obtain ⟨m, hn, hl⟩ := id I.loc
  have hcls : (X.env.scope.kind == .class || (X.env.scope.kind == .module && X.env.locals != X.env.globals)) = false := by rw [I.ok.kind]; rfl
  have hiσ : i < σ.length := by rw [I.len]; exact (List.getElem?_eq_some_iff.mp hi).1
  have cne := I.cne
  have tracked : ∀ {a : Addr} {h' : Heap}, (∃ o, s.heap.get? a = some o ∧ H a = none) → Heap.SameBut a s.heap h' → HOk X.prog X.w H h' := fun {a h'} ha hs b ob e => by
    obtain ⟨_, _, hfree⟩ := ha
    refine (I.hok b ob e).stay (fun c w' hc q => (hs.2 c ?_).trans q) (fun _ q => q) fun _ _ q => q
    rintro rfl
    rcases hc with rfl | hc
    · rw [hfree] at e; cases e
    · rw [hfree] at hc; cases hc
  rcases hx with hk | hk
  · refine wpAny_storeName_local hk hn (fun h' hn' hs => ?_) hcls
    obtain ⟨oL, _, _, hoL, _⟩ := id hn
    refine h _ ⟨I.ok, I.os, I.bare, ⟨fun b o e n hb hx => ?_, fun b o e n hb hx => ?_, I.base.free, fun b o e hx => ?_, I.base.tups, I.base.frzs, I.base.tbls⟩, ⟨_, hn', fun j y v' e1 e2 e3 => ?_⟩, fun y c e => ?_, I.free, I.freeC, fun p hp => ?_, tracked ⟨oL, hoL, I.free⟩ hs, by simpa using I.len⟩ ⟨_, hs, .inl rfl⟩
    · exact (hs.2 b (Nat.ne_of_lt (Nat.lt_of_lt_of_le (Heap.lt_size e) I.ok.above))).trans (I.base.keep b o e n hb hx)
    · obtain ⟨sl, e1⟩ := I.base.slot b o e n hb hx
      exact ⟨sl, (hs.2 b (Nat.ne_of_lt (Nat.lt_of_lt_of_le (Heap.lt_size e) I.ok.above))).trans e1⟩
    · obtain ⟨o', e1⟩ := I.base.there b o e hx
      exact ⟨o', (hs.2 b (Nat.ne_of_lt (Nat.lt_of_lt_of_le (Heap.lt_size e) I.ok.above))).trans e1⟩
    · by_cases hj : j = i
      · subst hj
        rw [hi] at e1; cases e1
        rw [List.getElem?_set_self hiσ] at e2
        cases e2
        exact ⟨u, r, .inl ⟨hk, by simp⟩⟩
      · rw [List.getElem?_set_ne (Ne.symm hj)] at e2
        obtain ⟨u', r', q⟩ := hl j y v' e1 e2 e3
        refine ⟨u', r', ?_⟩
        rcases q with ⟨k, e⟩ | ⟨k, c, e, z⟩
        · refine .inl ⟨k, ?_⟩
          have : y ≠ x := fun e => hj (nodup_ix hN e1 (e ▸ hi))
          simp [this, e]
        · exact .inr ⟨k, c, e, z.sameBut hs (cne y c e)⟩
    · obtain ⟨w', z⟩ := I.cell y c e
      exact ⟨w', z.sameBut hs (cne y c e)⟩
    · obtain ⟨e, n, ne, nf, d⟩ := I.pin p hp
      exact ⟨(hs.2 p.1 ne).trans e, n, ne, nf, d⟩
  · have hfn : X.fn x = true := by
      rcases hf with z | z
      · exact z
      · rw [z] at hk; cases hk
    obtain ⟨c, hc⟩ := I.ok.has x (.inl hk)
    obtain ⟨w', z⟩ := I.cell x c hc
    refine wpAny_storeName_cell I.ok.kind hk hc z (fun h' hc' hs => ?_)
    obtain ⟨oc, hoc, hocd⟩ := id z
    refine h { s with heap := h' } ⟨I.ok, I.os, I.bare, ⟨fun b o e n hb hx => ?_, fun b o e n hb hx => ?_, I.base.free, fun b o e hx => ?_, I.base.tups, I.base.frzs, I.base.tbls⟩, ⟨m, hn.sameBut hs (Ne.symm (cne x c hc)), fun j y v' e1 e2 e3 => ?_⟩, fun y c' e => ?_, I.free, I.freeC, fun p hp => ?_, tracked ⟨oc, hoc, I.freeC x c hc⟩ hs, by simpa using I.len⟩ ⟨c, hs, .inr hc⟩
    · exact (hs.2 b (Nat.ne_of_lt (Nat.lt_of_lt_of_le (Heap.lt_size e) (I.ok.cab x c hfn hc)))).trans (I.base.keep b o e n hb hx)
    · obtain ⟨sl, e1⟩ := I.base.slot b o e n hb hx
      exact ⟨sl, (hs.2 b (Nat.ne_of_lt (Nat.lt_of_lt_of_le (Heap.lt_size e) (I.ok.cab x c hfn hc)))).trans e1⟩
    · obtain ⟨o', e1⟩ := I.base.there b o e hx
      exact ⟨o', (hs.2 b (Nat.ne_of_lt (Nat.lt_of_lt_of_le (Heap.lt_size e) (I.ok.cab x c hfn hc)))).trans e1⟩
    · by_cases hj : j = i
      · subst hj
        rw [hi] at e1; cases e1
        rw [List.getElem?_set_self hiσ] at e2
        cases e2
        exact ⟨u, r, .inr ⟨.inl hk, c, hc, hc'⟩⟩
      · rw [List.getElem?_set_ne (Ne.symm hj)] at e2
        obtain ⟨u', r', q⟩ := hl j y v' e1 e2 e3
        refine ⟨u', r', ?_⟩
        rcases q with q | ⟨k, c', e, z'⟩
        · exact .inl q
        · refine .inr ⟨k, c', e, z'.sameBut hs ?_⟩
          rintro rfl
          exact hj (nodup_ix hN e1 (I.ok.inj _ _ _ e hc ▸ hi))
    · by_cases hcc : c' = c
      · subst hcc; exact ⟨_, hc'⟩
      · obtain ⟨w2, z2⟩ := I.cell y c' e
        exact ⟨w2, z2.sameBut hs hcc⟩
    · obtain ⟨e, n, ne, nf, d⟩ := I.pin p hp
      refine ⟨(hs.2 p.1 ?_).trans e, n, ne, nf, d⟩
      intro q
      rw [q, hoc] at e
      have q' : oc = p.2 := Option.some.inj e
      exact d w' (by rw [← q']; exact hocd)
theorem store_ok {M : Model} {A : Around} {E : Value → Shared → Prop} {i : Nat} {x : Str} {v : V} {u : Value} {Q : Unit → Shared → Prop} (I : Inv X pins σ H s) (hN : X.N.Nodup) (hi : X.N[i]? = some x) (hx : Loc X.env.scope x) (r : RelV v u)
    (h : ∀ s', Inv X pins (σ.set i (some v)) H s' → Q () s') (hf : X.fn x = true ∨ X.env.scope.names.lookup x = some .local := by first | exact .inl rfl | exact .inr rfl | assumption) : wpAny M A (storeName X.env x u) Q E s :=
  store_ok2 I hN hi hx r (fun s' I' _ => h s' I') hf
theorem Inv.call' {s' : Shared} {ch : List Addr} (I : Inv X pins σ H s) (ho : s'.os = s.os) (u : Un (frs X.stack) ch H H' s.heap s'.heap) (hok : HOk X.prog X.w H' s'.heap) (hg : AllBare s'.gens)
    (hch : ∀ b ∈ ch, (b ∈ X.ex ∨ X.s₀.heap.objs.size ≤ b) ∧ b ≠ X.env.locals ∧ (∀ x c, X.env.cells.lookup x = some c → c ≠ b) ∧ ∀ p ∈ X.pn ++ pins, p.1 ≠ b) : Inv X pins σ H' s' := by
  obtain ⟨h', g', d', t', o'⟩ := s'
  have e : o' = s.os := ho
  subst e
  exact I.call (g' := g') (t' := t') (d' := d') u hok hg hch
end
abbrev XK := Value → Option Addr → Hp → Prop
abbrev St := List (Option V)
abbrev VK := V → Hp → Prop
abbrev TE := St → Hp → VK → Prop
abbrev TT := St → Hp → (Bool → Hp → Prop) → Prop
abbrev TA := St → Hp → (List V → Hp → Prop) → Prop
structure Ends where
  nx : St → Hp → Prop
  rt : VK
  bk : St → Hp → Prop := fun _ _ => False
  ct : St → Hp → Prop := fun _ _ => False
abbrev TS := Ends → St → Hp → Prop
def EP (X : Cx) (pins : List (Addr × Obj)) (σ : St) (Q : VK) (u : Value) (s' : Shared) : Prop := ∃ v H', Inv X pins σ H' s' ∧ RelV v u ∧ Q v H'
def TP (X : Cx) (pins : List (Addr × Obj)) (σ : St) (Q : Bool → Hp → Prop) (b : Bool) (s' : Shared) : Prop := ∃ H', Inv X pins σ H' s' ∧ Q b H'
def AP (X : Cx) (pins : List (Addr × Obj)) (σ : St) (Q : List V → Hp → Prop) (us : List Value) (s' : Shared) : Prop := ∃ vs H', Inv X pins σ H' s' ∧ Vals vs us ∧ Q vs H'
def SP (X : Cx) (pins : List (Addr × Obj)) (D : Ends) (f : Flow) (s' : Shared) : Prop :=
  match f with
  | .next => ∃ σ' H', Inv X pins σ' H' s' ∧ D.nx σ' H'
  | .brk => ∃ σ' H', Inv X pins σ' H' s' ∧ D.bk σ' H'
  | .cont => ∃ σ' H', Inv X pins σ' H' s' ∧ D.ct σ' H'
  | .ret u => ∃ v σ' H', Inv X pins σ' H' s' ∧ RelV v u ∧ D.rt v H'
def PE (X : Cx) (e : Expr) (t : TE) : Prop :=
  ∀ (pins : List (Addr × Obj)) (s : Shared) (σ : St) (H : Hp) (Q : VK), Inv X pins σ H s → t σ H Q → wpAny (model X.prog X.w) X.A (eval e X.env) (EP X pins σ Q) X.xe s
def PT (X : Cx) (e : Expr) (t : TT) : Prop :=
  ∀ (pins : List (Addr × Obj)) (s : Shared) (σ : St) (H : Hp) (Q : Bool → Hp → Prop), Inv X pins σ H s → t σ H Q → wpAny (model X.prog X.w) X.A (isTrue e X.env (eval e X.env)) (TP X pins σ Q) X.xe s
def PW (X : Cx) (e : Expr) (t : TT) : Prop :=
  ∀ (whole : Sem Value) (pins : List (Addr × Obj)) (s : Shared) (σ : St) (H : Hp) (Q : Bool → Hp → Prop), Inv X pins σ H s → t σ H Q → wpAny (model X.prog X.w) X.A (isTrue e X.env whole) (TP X pins σ Q) X.xe s
theorem PW.pt {X : Cx} {e : Expr} {t : TT} (h : PW X e t) : PT X e t := h _
def PA (X : Cx) (es : List Expr) (t : TA) : Prop :=
  ∀ (pos : Pos) (pins : List (Addr × Obj)) (s : Shared) (σ : St) (H : Hp) (Q : List V → Hp → Prop), Inv X pins σ H s → t σ H Q → wpAny (model X.prog X.w) X.A (spliced (backTo pos (starEach es X.env))) (AP X pins σ Q) X.xe s
def PS (X : Cx) (st : Stmt) (t : TS) : Prop :=
  ∀ (pins : List (Addr × Obj)) (s : Shared) (σ : St) (H : Hp) (D : Ends), Inv X pins σ H s → t D σ H → wpAny (model X.prog X.w) X.A (exec st X.env) (SP X pins D) X.xe s
def PSs (X : Cx) (st : List Stmt) (t : TS) : Prop :=
  ∀ (pins : List (Addr × Obj)) (s : Shared) (σ : St) (H : Hp) (D : Ends), Inv X pins σ H s → t D σ H → wpAny (model X.prog X.w) X.A (execs st X.env) (SP X pins D) X.xe s
theorem thn {α : Type} {t : Sem α} {Q Q' : α → Shared → Prop} {M : Model} {A : Around} {E : Value → Shared → Prop} {s : Shared} (h : wpAny M A t Q E s) (hQ : ∀ a s, Q a s → Q' a s) : wpAny M A t Q' E s := wpAny_mono h hQ fun _ _ x => x
end L2
namespace L2
open PySem PySem.Spec PyProof.Rows
section
variable {X : Cx}
theorem bin {a b : Expr} {ta tb : TE} (ha : PE X a ta) (hb : PE X b tb) {pins : List (Addr × Obj)} {s : Shared} {σ : St} {H : Hp} {R : V → V → Hp → Prop} (I : Inv X pins σ H s) (h : ta σ H fun x H1 => tb σ H1 fun y H2 => R x y H2)
    {α : Type} {Q : α → Shared → Prop} {f : Value → Value → Sem α}
    (hf : ∀ v u s2 x y H2, Inv X pins σ H2 s2 → RelV x v → RelV y u → R x y H2 → wpAny (model X.prog X.w) X.A (f v u) Q X.xe s2) :
    wpAny (model X.prog X.w) X.A (eval a X.env) (fun v s₁ => wpAny (model X.prog X.w) X.A (eval b X.env) (fun u s₂ => wpAny (model X.prog X.w) X.A (f v u) Q X.xe s₂) X.xe s₁) X.xe s := by
  refine thn (ha pins s σ H _ I h) fun v s1 ⟨x, H1, I1, r1, q1⟩ => ?_
  refine thn (hb pins s1 σ H1 _ I1 q1) fun u s2 ⟨y, H2, I2, r2, q2⟩ => ?_
  exact hf v u s2 x y H2 I2 r1 r2 q2
def tVar (i : Nat) : TE := fun σ H Q => ∃ v, σ[i]? = some (some v) ∧ Q v H
def tC (v : V) : TE := fun _ H Q => Q v H
theorem pe_var {i : Nat} {x : Str} {pos : Pos} (hN : X.N[i]? = some x) (hv : Vis X.env.scope x) (hd : (x == ("__debug__" : Str)) = false := by decide) (hcd : (x == ("__classdict__" : Str)) = false := by decide) : PE X (.Name x pos) (tVar i) := by
  intro pins s σ H Q I h
  obtain ⟨v, e, h⟩ := h
  obtain ⟨m, hn, hl⟩ := I.loc
  obtain ⟨u, r, l⟩ := hl i x v hN e hv
  have fin : EP X pins σ Q u s := ⟨v, H, I, r, h⟩
  rcases l with ⟨hk, hm⟩ | ⟨hk, c, hc, hcell⟩
  · exact wpAny_Name (wpAny_loadName_local I.ok.kind hk hn hm fin) hd
  · rcases hk with hk | hk
    · exact wpAny_Name (wpAny_loadName_cell I.ok.kind hk hc hcell fin) hd
    · exact wpAny_Name (wpAny_loadName_free I.ok.kind hk hc hcell fin hcd) hd
theorem pe_int {i j pos} : PE X (.Constant (.int i) j pos) (tC (.int i)) := fun _ _ _ H _ I h => wpAny_Constant_int ⟨.int i, H, I.tok _, ⟨_, rfl⟩, h⟩
theorem pe_bl {b j pos} : PE X (.Constant (.bool b) j pos) (tC (.bl b)) := fun _ _ _ H _ I h => Constant_bool ⟨.bl b, H, I, rfl, h⟩
theorem pe_non {j pos} : PE X (.Constant .none j pos) (tC .non) := fun _ _ _ H _ I h => Constant_none ⟨.non, H, I, rfl, h⟩
theorem pe_str {x j pos} : PE X (.Constant (.str x) j pos) (tC (.str x)) := fun _ _ _ H _ I h => Calls.Constant_str ⟨.str x, H, I.tok _, ⟨_, rfl⟩, h⟩
def Gl (X : Cx) (x : Str) : Prop := X.env.kindOf x = some .globalImplicit
theorem ld_glob {E : Value → Shared → Prop} {pins : List (Addr × Obj)} {s : Shared} {σ : St} {H : Hp} {x : Str} {u : Value} {pos : Pos} {Q : Value → Shared → Prop} (I : Inv X pins σ H s) (hg : Gl X x) (hm : X.mg x = some u) (h : Q u s)
    (hd : (x == ("__debug__" : Str)) = false := by decide) : wpAny (model X.prog X.w) X.A (eval (.Name x pos) X.env) Q E s :=
  Calls.Name_function_global I.ok.kind hg (Calls.loadGlobal_global (by rw [I.ok.glob]; exact I.mod.glob.keeps I.bk) hm h) hd
theorem ld_blt {E : Value → Shared → Prop} {pins : List (Addr × Obj)} {s : Shared} {σ : St} {H : Hp} {x : Str} {u : Value} {pos : Pos} {Q : Value → Shared → Prop} (I : Inv X pins σ H s) (hg : Gl X x) (hm : X.mg x = none) (hv : bootBuiltins x = some u) (h : Q u s)
    (hn : x ≠ "__name__" := by decide) (hd : (x == ("__debug__" : Str)) = false := by decide) : wpAny (model X.prog X.w) X.A (eval (.Name x pos) X.env) Q E s := by
  obtain ⟨mb, h1, h2⟩ := I.mod.blt
  exact Calls.Name_function_global I.ok.kind hg (Calls.loadGlobal_builtin (by rw [I.ok.glob]; exact I.mod.glob.keeps I.bk) hm (by rw [I.ok.blt]; exact h1.keeps I.bk) ((h2 x hn).trans hv) h) hd
theorem pe_glob {x : Str} {v : V} {u : Value} {pos : Pos} (hg : Gl X x) (hm : X.mg x = some u) (r : RelV v u) (hd : (x == ("__debug__" : Str)) = false := by decide) : PE X (.Name x pos) (tC v) :=
  fun _ _ _ H _ I h => ld_glob I hg hm ⟨v, H, I, r, h⟩ hd
theorem pe_bltn {x : Str} {v : V} {u : Value} {pos : Pos} (hg : Gl X x) (hm : X.mg x = none) (hv : bootBuiltins x = some u) (r : RelV v u) (hn : x ≠ "__name__" := by decide) (hd : (x == ("__debug__" : Str)) = false := by decide) : PE X (.Name x pos) (tC v) :=
  fun _ _ _ H _ I h => ld_blt I hg hm hv ⟨v, H, I, r, h⟩ hn hd
def t2I (ta tb : TE) (k : Int → Int → Hp → Prop) : St → Hp → Prop := fun σ H => ta σ H fun x H1 => tb σ H1 fun y H2 => ∃ i j, x = .int i ∧ y = .int j ∧ k i j H2
def tAdd (ta tb : TE) : TE := fun σ H Q => t2I ta tb (fun i j H2 => Q (.int (i + j)) H2) σ H
def tSub (ta tb : TE) : TE := fun σ H Q => t2I ta tb (fun i j H2 => Q (.int (i - j)) H2) σ H
def tMul (ta tb : TE) : TE := fun σ H Q => t2I ta tb (fun i j H2 => (-(2 ^ 64) < i ∧ i < 2 ^ 64) ∧ Q (.int (i * j)) H2) σ H
variable {a b : Expr} {ta tb : TE} {pos : Pos}
def PC (X : Cx) (op : CmpOp) (a b : Expr) (t : TE) : Prop :=
  ∀ (pins : List (Addr × Obj)) (s : Shared) (σ : St) (H : Hp) (Q : VK), Inv X pins σ H s → t σ H Q →
    wpAny (model X.prog X.w) X.A (eval a X.env) (fun v s₁ => wpAny (model X.prog X.w) X.A (eval b X.env) (fun u s₂ => wpAny (model X.prog X.w) X.A (compareOp op v u) (EP X pins σ Q) X.xe s₂) X.xe s₁) X.xe s
theorem nobehind (b : Expr) {op : CmpOp} (h : op ≠ .In) (h2 : op ≠ .NotIn) : behindInMarks op b = false := by
  have e1 : (op == CmpOp.In) = false := by cases op <;> first | rfl | exact absurd rfl h
  have e2 : (op == CmpOp.NotIn) = false := by cases op <;> first | rfl | exact absurd rfl h2
  cases b <;> simp [behindInMarks, e1, e2]
def tCmp (p : Int → Int → Bool) (ta tb : TE) : TE := fun σ H Q => t2I ta tb (fun i j H2 => Q (.bl (p i j)) H2) σ H
abbrev tLt : TE → TE → TE := tCmp fun i j => decide (i < j)
abbrev tLe : TE → TE → TE := tCmp fun i j => decide (i ≤ j)
abbrev tGt : TE → TE → TE := tCmp fun i j => decide (j < i)
abbrev tGe : TE → TE → TE := tCmp fun i j => decide (j ≤ i)
abbrev tEqI : TE → TE → TE := tCmp fun i j => decide (i = j)
abbrev tNeI : TE → TE → TE := tCmp fun i j => !decide (i = j)
def tIsN (ta : TE) : TE := fun σ H Q => ta σ H fun x H1 => Q (.bl (decide (x = .non))) H1
def tNotN (ta : TE) : TE := fun σ H Q => ta σ H fun x H1 => Q (.bl (!decide (x = .non))) H1
def tB (t : TE) : TT := fun σ H Q => t σ H fun x H1 => ∃ c, x = .bl c ∧ Q c H1
theorem pt_cmp {op : CmpOp} {t : TE} (h : PC X op a b t) (h1 : behindInMarks op b = false := by first | exact nobehind _ (by decide) (by decide) | rfl) : PT X (.Compare a [op] [b] pos) (tB t) := by
  intro pins s σ H Q I hw
  refine wpAny_isTrue_Compare1 (thn (h pins s σ H _ I hw) fun v s1 h1 => thn h1 fun u s2 h2 => thn h2 fun c s3 ⟨x, H1, I1, r1, q1⟩ => ?_) h1
  obtain ⟨d, rfl, q⟩ := q1
  cases r1
  exact wpAny_truthy_bool ⟨H1, I1, q⟩
theorem pt_val {e : Expr} {t : TE} (h : PE X e t) (he : ∀ whole, isTrue e X.env whole = (do let v ← whole; standAt e.pos; holding [v] (truthy v)) := by intro _; rfl) : PT X e (tB t) := by
  intro pins s σ H Q I hw
  refine isTrue_plain (thn (h pins s σ H _ I hw) fun v s1 ⟨x, H1, I1, r1, q1⟩ => ?_) (he _)
  obtain ⟨d, rfl, q⟩ := q1
  cases r1
  exact wpAny_truthy_bool ⟨H1, I1, q⟩
variable {tA tB' : TT} {rest : List Expr}
def tAnd (t u : TT) : TT := fun σ H Q => t σ H fun c H1 => if c = true then u σ H1 Q else Q false H1
def tOr (t u : TT) : TT := fun σ H Q => t σ H fun c H1 => if c = true then Q true H1 else u σ H1 Q
def tNot (t : TT) : TT := fun σ H Q => t σ H fun c H1 => Q (!c) H1
theorem pw_and1 (ha : PT X a tA) : PW X (.BoolOp .And [a] pos) tA := by
  intro wh pins s σ H Q I h
  refine isTrue_and (thn (ha pins s σ H Q I h) fun c s1 e => ?_)
  cases c with
  | true => exact isTrue_and_nil e
  | false => exact e
theorem pw_or1 (ha : PT X a tA) : PW X (.BoolOp .Or [a] pos) tA := by
  intro wh pins s σ H Q I h
  refine isTrue_or (thn (ha pins s σ H Q I h) fun c s1 e => ?_)
  cases c with
  | false => exact isTrue_or_nil e
  | true => exact e
theorem pw_and (ha : PT X a tA) (hb : PW X (.BoolOp .And (b :: rest) pos) tB') : PW X (.BoolOp .And (a :: b :: rest) pos) (tAnd tA tB') := by
  intro wh pins s σ H Q I h
  refine isTrue_and (thn (ha pins s σ H _ I h) fun c s1 ⟨H1, I1, q1⟩ => ?_)
  cases c with
  | true => exact hb wh pins s1 σ H1 Q I1 q1
  | false => exact ⟨H1, I1, q1⟩
theorem pw_or (ha : PT X a tA) (hb : PW X (.BoolOp .Or (b :: rest) pos) tB') : PW X (.BoolOp .Or (a :: b :: rest) pos) (tOr tA tB') := by
  intro wh pins s σ H Q I h
  refine isTrue_or (thn (ha pins s σ H _ I h) fun c s1 ⟨H1, I1, q1⟩ => ?_)
  cases c with
  | true => exact ⟨H1, I1, q1⟩
  | false => exact hb wh pins s1 σ H1 Q I1 q1
theorem pt_not (ha : PT X a tA) : PT X (.UnaryOp .Not a pos) (tNot tA) := by
  intro pins s σ H Q I h
  exact isTrue_not (ha pins s σ H (fun c H1 => Q (!c) H1) I h)
def tAndV (ta tb : TE) : TE := fun σ H Q => ta σ H fun x H1 => ∃ c, x = .bl c ∧ if c = true then tb σ H1 Q else Q (.bl false) H1
def tOrV (ta tb : TE) : TE := fun σ H Q => ta σ H fun x H1 => ∃ c, x = .bl c ∧ if c = true then Q (.bl true) H1 else tb σ H1 Q
def tNotV (ta : TE) : TE := fun σ H Q => ta σ H fun x H1 => ∃ c, x = .bl c ∧ Q (.bl (!c)) H1
theorem pe_one {op} {t : TE} (h : PE X a t) : PE X (.BoolOp op [a] pos) t := fun pins s σ H Q I hw => BoolOp_one (h pins s σ H Q I hw)
theorem pe_and (ha : PE X a ta) (hb : PE X (.BoolOp .And (b :: rest) pos) tb) : PE X (.BoolOp .And (a :: b :: rest) pos) (tAndV ta tb) := by
  intro pins s σ H Q I h
  refine BoolOp_and (thn (ha pins s σ H _ I h) fun v s1 ⟨x, H1, I1, r1, q1⟩ => ?_)
  obtain ⟨c, rfl, q1⟩ := q1
  cases r1
  refine wpAny_truthy_bool ?_
  cases c with
  | true => exact hb pins s1 σ H1 Q I1 q1
  | false => exact ⟨.bl false, H1, I1, rfl, q1⟩
def tIf (t : TT) (ta tb : TE) : TE := fun σ H Q => t σ H fun c H1 => if c = true then ta σ H1 Q else tb σ H1 Q
end
end L2
namespace L2
open PySem PySem.Spec PyProof.Rows
def SqL (K : PySem.W.Frag) (H : Hp) (a : Addr) (xs : List V) : Prop :=
  Rd H a (.lst xs) ∨
    ∃ (o : Obj) (its : Array Value) (n : Nat), K.lookup a = some o ∧ o.cls = .type "list" ∧ o.dict = none ∧ o.data = .seq its n ∧ its.size ≤ sizeLine ∧ Vals xs its.toList
def SqT (K : PySem.W.Frag) (H : Hp) (a : Addr) (xs : List V) : Prop :=
  Rd H a (.tup xs) ∨
    ∃ (o : Obj) (its : Array Value) (n : Nat), K.lookup a = some o ∧ o.cls = .type "tuple" ∧ o.data = .seq its n ∧ its.size ≤ sizeLine ∧ Vals xs its.toList
def absV : Value → Option V
  | .none => some .non
  | .bool b => some (.bl b)
  | .int i _ => some (.int i)
  | .str x _ => some (.str x)
  | .bytes b _ => some (.byt b)
  | .float b _ => some (.flt b)
  | .ref a => some (.ref a)
  | .type n => some (.ty n)
  | _ => none
theorem RelV.abs {x : V} {u : Value} (r : RelV x u) : absV u = some x := by
  cases x with
  | non => cases r; rfl
  | bl _ => cases r; rfl
  | int _ => obtain ⟨t, rfl⟩ := r; rfl
  | str _ => obtain ⟨t, rfl⟩ := r; rfl
  | byt _ => obtain ⟨t, rfl⟩ := r; rfl
  | flt _ => obtain ⟨t, rfl⟩ := r; rfl
  | ref _ => cases r; rfl
  | ty _ => cases r; rfl
theorem RelV.inj {x y : V} {u : Value} (r : RelV x u) (q : RelV y u) : x = y := Option.some.inj (r.abs.symm.trans q.abs)
theorem Vals.inj : ∀ {xs ys : List V} {us : List Value}, Vals xs us → Vals ys us → xs = ys
  | _, _, _, .nil, .nil => rfl
  | _, _, _, .cons r t, .cons r' t' => by rw [r.inj r', Vals.inj t t']
section
variable {X : Cx} {pins : List (Addr × Obj)} {σ : St} {H : Hp} {s : Shared} {a : Addr} {xs ys : List V}
theorem SqL.of {K : PySem.W.Frag} (h : H a = some (.lst xs)) : SqL K H a xs := .inl (.inl h)
theorem SqT.of {K : PySem.W.Frag} (h : H a = some (.tup xs)) : SqT K H a xs := .inl (.inl h)
theorem Inv.list (I : Inv X pins σ H s) (h : SqL X.K H a xs) : ∃ its : List Value, Vals xs its ∧ PlainL s.heap a its.toArray ∧ xs.length ≤ sizeLine := by
  rcases h with h | ⟨o, its, n, hk, hc, hd, hs, hz, r⟩
  · obtain ⟨z, its, n, r, e⟩ := h.ok I.hok
    exact ⟨its, r, ⟨_, n, e, rfl, rfl, rfl⟩, z⟩
  · refine ⟨its.toList, r, ⟨o, n, I.kIn a o hk, hc, hd, by simpa using hs⟩, ?_⟩
    have e := r.length
    simp only [Array.length_toList] at e
    omega
theorem Inv.tuple (I : Inv X pins σ H s) (h : SqT X.K H a xs) : ∃ its : List Value, Vals xs its ∧ IsTup s.heap a its.toArray ∧ xs.length ≤ sizeLine := by
  rcases h with h | ⟨o, its, n, hk, hc, hs, hz, r⟩
  · obtain ⟨z, its, r, p⟩ := h.ok I.hok
    exact ⟨its, r, p, z⟩
  · refine ⟨its.toList, r, ⟨o, I.kIn a o hk, hc, n, by simpa using hs⟩, ?_⟩
    have e := r.length
    simp only [Array.length_toList] at e
    omega
theorem Inv.list_inj (I : Inv X pins σ H s) (h : SqL X.K H a xs) (h' : SqL X.K H a ys) : xs = ys := by
  obtain ⟨its, r, ⟨o, n, e, _, _, d⟩, _⟩ := I.list h
  obtain ⟨its', r', ⟨o', n', e', _, _, d'⟩, _⟩ := I.list h'
  rw [e] at e'; cases e'
  rw [d] at d'
  injection d' with d1 _
  have : its = its' := by simpa using congrArg Array.toList d1
  subst this
  exact r.inj r'
end
abbrev Cx.wish (X : Cx) (E : Value → Shared → Prop) : Cx := { X with xe := E }
abbrev Cx.nox (X : Cx) : Cx := X.wish fun _ _ => False
theorem Cx.Ok.wish {X : Cx} (ok : X.Ok) (E : Value → Shared → Prop) : (X.wish E).Ok :=
  ⟨ok.mod, ok.kind, ok.glob, ok.blt, ok.above, ok.inj, ok.has, ok.cab, ok.hd, ok.frames, ok.stk, ok.exf, ok.bs, ok.bsz, ok.noex, ok.exfs, ok.funs, ok.frf⟩
theorem Cx.Ok.unwish {X : Cx} {E : Value → Shared → Prop} (ok : (X.wish E).Ok) : X.Ok :=
  ⟨ok.mod, ok.kind, ok.glob, ok.blt, ok.above, ok.inj, ok.has, ok.cab, ok.hd, ok.frames, ok.stk, ok.exf, ok.bs, ok.bsz, ok.noex, ok.exfs, ok.funs, ok.frf⟩
section
variable {X : Cx} {pins : List (Addr × Obj)} {σ : St} {H : Hp} {s : Shared} {E : Value → Shared → Prop}
theorem Inv.wish (I : Inv X pins σ H s) (E : Value → Shared → Prop) : Inv (X.wish E) pins σ H s := ⟨I.ok.wish E, I.os, I.bare, I.base, I.loc, I.cell, I.free, I.freeC, I.pin, I.hok, I.len⟩
theorem Inv.unwish (I : Inv (X.wish E) pins σ H s) : Inv X pins σ H s := ⟨I.ok.unwish, I.os, I.bare, I.base, I.loc, I.cell, I.free, I.freeC, I.pin, I.hok, I.len⟩
theorem SP.unwish {D : Ends} {f : Flow} {s' : Shared} (h : SP (X.wish E) pins D f s') : SP X pins D f s' := by
  cases f with
  | next => obtain ⟨σ', H', I, q⟩ := h; exact ⟨σ', H', I.unwish, q⟩
  | brk => obtain ⟨σ', H', I, q⟩ := h; exact ⟨σ', H', I.unwish, q⟩
  | cont => obtain ⟨σ', H', I, q⟩ := h; exact ⟨σ', H', I.unwish, q⟩
  | ret u => obtain ⟨v, σ', H', I, r, q⟩ := h; exact ⟨v, σ', H', I.unwish, r, q⟩
theorem PSs.nox {st : List Stmt} {t : TS} (h : PSs X.nox st t) : PSs X st t := fun pins s σ H D I hw =>
  wpAny_mono (h pins s σ H D (I.wish _) hw) (fun _ _ q => q.unwish) fun _ _ z => False.elim z
end
section
variable {X : Cx} {st : Stmt} {rest : List Stmt} {t u : TS} {e : Expr} {te : TE} {pos : Pos}
def tNext : TS := fun D σ H => D.nx σ H
def tSeq (t u : TS) : TS := fun D σ H => t { D with nx := u D } σ H
theorem pss_nil : PSs X [] tNext := fun _ _ σ H _ I h => wpAny_execs_nil ⟨σ, H, I, h⟩
theorem pss_cons (h1 : PS X st t) (h2 : PSs X rest u) : PSs X (st :: rest) (tSeq t u) := by
  intro pins s σ H D I h
  refine wpAny_execs_cons (thn (h1 pins s σ H { D with nx := u D } I h) fun f s1 q => ?_)
  cases f with
  | next =>
    obtain ⟨σ', H', I', q⟩ := q
    exact h2 pins s1 σ' H' D I' q
  | ret v => exact q
  | brk => exact q
  | cont => exact q
theorem pss_one (h1 : PS X st t) : PSs X [st] t := by
  intro pins s σ H D I h
  refine wpAny_execs_cons (thn (h1 pins s σ H D I h) fun f s1 q => ?_)
  cases f with
  | next => exact wpAny_execs_nil q
  | ret v => exact q
  | brk => exact q
  | cont => exact q
def tBreak : TS := fun D σ H => D.bk σ H
def tCont : TS := fun D σ H => D.ct σ H
theorem Inv.quiet {pins : List (Addr × Obj)} {σ : St} {H : Hp} {s : Shared} (I : Inv X pins σ H s) : interactive X.env = false := by simp [interactive, I.ok.kind]
def tDrop (te : TE) : TS := fun D σ H => te σ H fun _ H1 => D.nx σ H1
theorem ps_expr (he : PE X e te) (hs : swapsWith e none pos.line X.env = pure false := by rfl) : PS X (.Expr e pos) (tDrop te) := by
  intro pins s σ H D I h
  exact wpAny_Expr_any (thn (he pins s σ H _ I h) fun v s1 ⟨x, H1, I1, r1, q1⟩ => ⟨σ, H1, I1, q1⟩) I.quiet hs
def tRet (te : TE) : TS := fun D σ H => te σ H D.rt
theorem ps_ret (he : PE X e te) : PS X (.Return (some e) pos) (tRet te) := by
  intro pins s σ H D I h
  exact wpAny_Return_some (thn (he pins s σ H _ I h) fun v s1 ⟨x, H1, I1, r1, q1⟩ => ⟨x, σ, H1, I1, r1, q1⟩)
def tRetN : TS := fun D _ H => D.rt .non H
def tIfS (c : TT) (t u : TS) : TS := fun D σ H => c σ H fun b H1 => if b = true then t D σ H1 else u D σ H1
theorem ps_if {c : Expr} {a b : List Stmt} {tc : TT} (hc : PT X c tc) (ha : PSs X a t) (hb : PSs X b u) : PS X (.If c a b pos) (tIfS tc t u) := by
  intro pins s σ H D I h
  refine wpAny_If (thn (hc pins s σ H _ I h) fun d s1 ⟨H1, I1, q1⟩ => ?_)
  cases d with
  | true => exact ha pins s1 σ H1 D I1 q1
  | false => exact hb pins s1 σ H1 D I1 q1
def tNever : TS := fun _ _ _ => False
end
abbrev TG := V → St → Hp → (St → Hp → Prop) → Prop
abbrev TGs := List V → St → Hp → (St → Hp → Prop) → Prop
def PG (X : Cx) (target : Expr) (t : TG) : Prop :=
  ∀ (pins : List (Addr × Obj)) (s : Shared) (σ : St) (H : Hp) (v : V) (u : Value) (Q : St → Hp → Prop), Inv X pins σ H s → RelV v u → t v σ H Q →
    wpAny (model X.prog X.w) X.A (assign target X.env u) (fun _ s' => ∃ σ' H', Inv X pins σ' H' s' ∧ Q σ' H') X.xe s
def PGs (X : Cx) (ts : List Expr) (t : TGs) : Prop :=
  ∀ (pins : List (Addr × Obj)) (s : Shared) (σ : St) (H : Hp) (vs : List V) (us : List Value) (Q : St → Hp → Prop), Inv X pins σ H s → Vals vs us → t vs σ H Q →
    wpAny (model X.prog X.w) X.A (assignInOrder ((assignEach ts X.env).map (·.2)) us) (fun _ s' => ∃ σ' H', Inv X pins σ' H' s' ∧ Q σ' H') X.xe s
abbrev TSet := V → V → V → Hp → (Hp → Prop) → Prop
def PSet (X : Cx) (t : TSet) : Prop :=
  ∀ (pins : List (Addr × Obj)) (s : Shared) (σ : St) (H : Hp) (o i v : V) (ov iv u : Value) (Q : Hp → Prop), Inv X pins σ H s → RelV o ov → RelV i iv → RelV v u → t o i v H Q →
    wpAny (model X.prog X.w) X.A (setItem ov iv u) (fun _ s' => ∃ H', Inv X pins σ H' s' ∧ Q H') X.xe s
abbrev TIp := V → V → Hp → VK → Prop
def PIp (X : Cx) (op : Operator) (t : TIp) : Prop :=
  ∀ (pins : List (Addr × Obj)) (s : Shared) (σ : St) (H : Hp) (x y : V) (v u : Value) (Q : VK), Inv X pins σ H s → RelV x v → RelV y u → t x y H Q →
    wpAny (model X.prog X.w) X.A (inplaceOp op v u) (EP X pins σ Q) X.xe s
section
variable {X : Cx} {pos : Pos}
def gName (i : Nat) : TG := fun v σ H Q => Q (σ.set i (some v)) H
theorem pg_name {i : Nat} {x : Str} (hN : X.N.Nodup) (hi : X.N[i]? = some x) (hx : Loc X.env.scope x) (hf : X.fn x = true ∨ X.env.scope.names.lookup x = some .local := by first | exact .inl rfl | exact .inr rfl | assumption) : PG X (.Name x pos) (gName i) := by
  intro pins s σ H v u Q I r h
  exact wpAny_assign_Name (store_ok I hN hi hx r (fun s' I' => ⟨_, H, I', h⟩) hf)
def gNil : TGs := fun vs σ H Q => vs = [] ∧ Q σ H
def gCons (t : TG) (u : TGs) : TGs := fun vs σ H Q => ∃ v r, vs = v :: r ∧ t v σ H fun σ' H' => u r σ' H' Q
theorem pgs_nil : PGs X [] gNil := by
  intro pins s σ H vs us Q I r h
  obtain ⟨e, h⟩ := h
  subst e
  cases r
  exact assignInOrder_nil ⟨σ, H, I, h⟩
theorem pgs_cons {e : Expr} {es : List Expr} {t : TG} {u : TGs} (h1 : PG X e t) (h2 : PGs X es u)
    (hs : (assignEach (e :: es) X.env).map (·.2) = assign e X.env :: (assignEach es X.env).map (·.2) := by rfl) : PGs X (e :: es) (gCons t u) := by
  intro pins s σ H vs us Q I r h
  obtain ⟨v, vr, e1, h⟩ := h
  subst e1
  cases r with
  | cons r rr =>
    rw [hs]
    refine assignInOrder_cons (thn (h1 pins s σ H _ _ _ I r h) fun _ s1 ⟨σ1, H1, I1, q1⟩ => ?_)
    exact h2 pins s1 σ1 H1 _ _ Q I1 rr q1
def gTup (K : PySem.W.Frag) (n : Nat) (t : TGs) : TG := fun v σ H Q => ∃ a xs, v = .ref a ∧ SqT K H a xs ∧ xs.length = n ∧ t xs σ H Q
theorem pg_tup {es : List Expr} {k : Nat} {t : TGs} {n : Nat} (hc : X.calm = true) (h : PGs X es t)
    (hn : (assignEach es X.env).length = n := by rfl) (hst : (assignEach es X.env).findIdx? (·.1) = none := by rfl) : PG X (.Tuple es k pos) (gTup X.K n t) := by
  intro pins s σ H v u Q I r hw
  obtain ⟨a, xs, e1, hq, hl, hw⟩ := hw
  subst e1
  cases r
  obtain ⟨its, rv, ht, hz⟩ := I.tuple hq
  refine assign_Tuple_tuple (I.ok.hd hc) ht (by simp [hn, ← hl, rv.length]) hst fun h' hx => ?_
  have I1 : Inv X pins σ H { s with heap := h' } := I.kept (t' := s.toks) fun b o e => hx b o (Nat.ne_of_lt (Heap.lt_size e)) e
  exact h pins _ σ H xs _ Q I1 (by simpa using rv) hw
def gSub (to ti : TE) (t : TSet) : TG := fun v σ H Q => to σ H fun o H1 => ti σ H1 fun i H2 => t o i v H2 fun H3 => Q σ H3
theorem pg_sub {o i : Expr} {to ti : TE} {t : TSet} (ho : PE X o to) (hi : PE X i ti) (hs : PSet X t)
    (ha : ∀ v, assign (.Subscript o i pos) X.env v = (do
      let ov ← holding [v] (eval o X.env)
      let iv ← holding [v, ov] (eval i X.env)
      standAt pos
      holding [v, ov, iv] (setItem ov iv v)
      release [v, ov, iv] []) := by intro _; rfl) : PG X (.Subscript o i pos) (gSub to ti t) := by
  intro pins s σ H v u Q I r h
  rw [ha]
  refine wpAny_bind (wpAny_holding (thn (ho pins s σ H _ I h) fun ov s1 ⟨x, H1, I1, r1, q1⟩ => ?_))
  refine wpAny_bind (wpAny_holding (thn (hi pins s1 σ H1 _ I1 q1) fun iv s2 ⟨y, H2, I2, r2, q2⟩ => ?_))
  refine wpAny_bind (wpAny_standAt (wpAny_bind (wpAny_holding (thn (hs pins s2 σ H2 x y v ov iv u _ I2 r1 r2 r q2) fun _ s3 ⟨H3, I3, q3⟩ => ?_))))
  exact wpAny_release ⟨σ, H3, I3, q3⟩
def tAsg (te : TE) (g : TG) : TS := fun D σ H => te σ H fun x H1 => g x σ H1 D.nx
theorem ps_asg {tg e : Expr} {te : TE} {g : TG} (he : PE X e te) (hg : PG X tg g) (hs : swapsWithSole [tg] e pos.line X.env = pure false := by rfl) (hw : swappedStores [tg] e X.env = pure none := by rfl)
    (h1 : (assignEach [tg] X.env).map (·.2) = [assign tg X.env] := by rfl) : PS X (.Assign [tg] e pos) (tAsg te g) := by
  intro pins s σ H D I h
  refine wpAny_Assign_stores (thn (he pins s σ H _ I h) fun v s1 ⟨x, H1, I1, r1, q1⟩ => ?_) hs hw
  rw [h1]
  exact thn (hg pins s1 σ H1 x v _ I1 r1 q1) fun _ s2 q => q
theorem ps_set {i : Nat} {x : Str} {e : Expr} {te : TE} {pos' : Pos} (hN : X.N.Nodup) (hi : X.N[i]? = some x) (hx : Loc X.env.scope x) (he : PE X e te) (hs : swapsWith e (some (.Name x pos')) pos.line X.env = pure false := by rfl) (hf : X.fn x = true ∨ X.env.scope.names.lookup x = some .local := by first | exact .inl rfl | exact .inr rfl | assumption) :
    PS X (.Assign [.Name x pos'] e pos) (tAsg te (gName i)) := by
  intro pins s σ H D I h
  refine wpAny_Assign_Name (thn (he pins s σ H _ I h) fun v s1 ⟨y, H1, I1, r1, q1⟩ => ?_) hs
  exact store_ok I1 hN hi hx r1 (fun s2 I2 => ⟨_, H1, I2, q1⟩) hf
def tPar (i j : Nat) (ta : TA) : TS := fun D σ H => ta σ H fun vs H1 => ∃ v w, vs = [v, w] ∧ D.nx ((σ.set i (some v)).set j (some w)) H1
def tAug (i : Nat) (te : TE) (ti : TIp) : TS := fun D σ H => ∃ x, σ[i]? = some (some x) ∧ te σ H fun y H1 => ti x y H1 fun z H2 => D.nx (σ.set i (some z)) H2
def tAugS (to ti te : TE) (tget : V → V → Hp → VK → Prop) (tip : TIp) (tset : TSet) : TS := fun D σ H => to σ H fun o H1 => ti σ H1 fun i H2 => tget o i H2 fun x H3 => te σ H3 fun y H4 => tip x y H4 fun z H5 => tset o i z H5 fun H6 => D.nx σ H6
def PGet (X : Cx) (t : V → V → Hp → VK → Prop) : Prop :=
  ∀ (pins : List (Addr × Obj)) (s : Shared) (σ : St) (H : Hp) (o i : V) (ov iv : Value) (Q : VK), Inv X pins σ H s → RelV o ov → RelV i iv → t o i H Q →
    wpAny (model X.prog X.w) X.A (getItem ov iv) (EP X pins σ Q) X.xe s
def ipI (f : Int → Int → Int) : TIp := fun x y H Q => ∃ i j, x = .int i ∧ y = .int j ∧ Q (.int (f i j)) H
end
section
variable {X : Cx} {pos : Pos}
def tWhile (c : TT) (tb : TS) : TS := fun D σ H => ∃ W : Nat → St → Hp → Prop, (∃ m, W m σ H) ∧ ∀ m σ H, W m σ H →
  c σ H fun b H1 => if b = true then ∃ N : St → Hp → Prop, (∀ σ' H', N σ' H' → ∃ m', m' < m ∧ W m' σ' H') ∧ tb { D with nx := N, ct := N, bk := D.nx } σ H1 else D.nx σ H1
theorem ps_while {c : Expr} {body : List Stmt} {tc : TT} {tb : TS} (hp : PassesOwn (model X.prog X.w) X.A X.env X.xe) (hc : PT X c tc) (hb : PSs X body tb) : PS X (.While c body [] pos) (tWhile tc tb) := by
  intro pins s σ H D I h
  obtain ⟨W, ⟨m0, w0⟩, turn⟩ := h
  refine wpAny_While (codeAny_whileLoop (fun n s' => ∃ σ' H', Inv X pins σ' H' s' ∧ W n σ' H') ?_ m0 ⟨σ, H, I, w0⟩)
  rintro n s1 ⟨σ1, H1, I1, w1⟩
  refine wpAny_passesOwn hp (thn (hc pins s1 σ1 H1 _ I1 (turn n σ1 H1 w1)) fun b s2 ⟨H2, I2, q2⟩ => ?_)
  cases b with
  | true =>
    obtain ⟨N, hN, q2⟩ := q2
    rw [if_pos rfl]
    refine wpAny_passesOwn hp (thn (hb pins s2 σ1 H2 _ I2 q2) fun f s3 q3 => ?_)
    cases f with
    | next =>
      obtain ⟨σ3, H3, I3, n3⟩ := q3
      obtain ⟨m', hm, w3⟩ := hN σ3 H3 n3
      exact ⟨m', hm, σ3, H3, I3, w3⟩
    | cont =>
      obtain ⟨σ3, H3, I3, n3⟩ := q3
      obtain ⟨m', hm, w3⟩ := hN σ3 H3 n3
      exact ⟨m', hm, σ3, H3, I3, w3⟩
    | brk => exact q3
    | ret v => exact q3
  | false =>
    rw [if_neg Bool.false_ne_true]
    exact wpAny_execs_nil ⟨σ1, H2, I2, q2⟩
end
structure It where
  go : Nat → Hp → Prop
  yld : Nat → Hp → V → Hp → Prop
  stop : Nat → Hp → Prop
def FpOk (X : Cx) (pins : List (Addr × Obj)) (H : Hp) (b : Addr) : Prop :=
  H b = none ∧ b ≠ X.env.locals ∧ b ∉ X.fs ∧ (b ∈ X.ex ∨ X.s₀.heap.objs.size ≤ b) ∧ (∀ x c, X.env.cells.lookup x = some c → c ≠ b) ∧ ∀ p ∈ X.pn ++ pins, p.1 ≠ b
theorem Inv.fpOk {X : Cx} {pins : List (Addr × Obj)} {σ : St} {H H' : Hp} {s : Shared} {b : Addr} (I : Inv X pins σ H s) (hb : s.heap.objs.size ≤ b) (hn : H' b = none) : FpOk X pins H' b := by
  refine ⟨hn, Nat.ne_of_gt (Nat.lt_of_lt_of_le I.lt hb), I.nofs hb, .inr (Nat.le_trans I.sz hb), fun x c e z => ?_, fun p hp z => ?_⟩
  · obtain ⟨v, q⟩ := I.cell x c e
    exact absurd (Nat.lt_of_lt_of_le q.lt (by rw [z]; exact hb)) (Nat.lt_irrefl _)
  · exact absurd (Nat.lt_of_lt_of_le (Heap.lt_size (I.pin p hp).1) (by rw [z]; exact hb)) (Nat.lt_irrefl _)
structure Turn (P : Program) (w : World) (K : PySem.W.Frag) (tg : Expr) (J : It) (fp : List Addr) (it : Addr) (tn : Nat → Heap → Prop) : Prop where
  mem : it ∈ fp
  obj : ∀ i h, tn i h → ∀ b ∈ fp, ∃ o, h.get? b = some o ∧ ∀ v, o.data ≠ .cell v
  keep : ∀ i h h', tn i h → (∀ b ∈ fp, ∀ o, h.get? b = some o → h'.get? b = some o) → tn i h'
  item : ∀ (X : Cx), X.prog = P → X.w = w → X.K = K → X.calm = true → ∀ (i : Nat) (pins : List (Addr × Obj)) (s : Shared) (σ : St) (H : Hp) (E : Value → Shared → Prop), Inv X pins σ H s → (∀ b ∈ fp, FpOk X pins H b) → tn i s.heap → J.go i H →
    wpAny (model P w) X.A (pyNext (.ref it)) (fun r s1 => ∃ u, r = some u ∧
      wpAny (model P w) X.A (letOwnedTupleGo tg (.ref it) u) (fun _ s2 => ∃ x H', Inv X pins σ H' s2 ∧ RelV x u ∧ J.yld i H x H' ∧ tn (i + 1) s2.heap ∧ ∀ b ∈ fp, H' b = none) E s1) E s
  done : ∀ (X : Cx), X.prog = P → X.w = w → X.K = K → X.calm = true → ∀ (i : Nat) (pins : List (Addr × Obj)) (s : Shared) (σ : St) (H : Hp) (E : Value → Shared → Prop), Inv X pins σ H s → (∀ b ∈ fp, FpOk X pins H b) → tn i s.heap → J.stop i H →
    wpAny (model P w) X.A (pyNext (.ref it)) (fun r s1 => r = none ∧ Inv X pins σ H s1) E s
  self : ∀ (A : Around) (i : Nat) (s : Shared) (Q : Value → Shared → Prop) (E : Value → Shared → Prop), tn i s.heap → Q (.ref it) s → wpAny (model P w) A (pyIter (.ref it)) Q E s
abbrev TI := St → Hp → (It → Hp → Prop) → Prop
def PIE (X : Cx) (pins : List (Addr × Obj)) (σ : St) (tg : Expr) (R : It → Hp → Prop) (itv : Value) (s2 : Shared) : Prop :=
  ∃ (it : Addr) (fp : List Addr) (tn : Nat → Heap → Prop) (J : It) (H' : Hp), itv = .ref it ∧ Inv X pins σ H' s2 ∧ Turn X.prog X.w X.K tg J fp it tn ∧ tn 0 s2.heap ∧ (∀ b ∈ fp, FpOk X pins H' b) ∧ R J H'
def PI (X : Cx) (tg iter : Expr) (wi : TI) : Prop :=
  ∀ (pins : List (Addr × Obj)) (s : Shared) (σ : St) (H : Hp) (R : It → Hp → Prop), Inv X pins σ H s → wi σ H R →
    wpAny (model X.prog X.w) X.A (eval iter X.env) (fun v s1 => wpAny (model X.prog X.w) X.A (pyIter v) (PIE X pins σ tg R) X.xe s1) X.xe s
theorem go_of {M : Model} {A : Around} {E : Value → Shared → Prop} {s : Shared} {tg : Expr} {it : Addr} {u : Value} {o : Obj} {n : String} {vs : Array Value} {Q : Unit → Shared → Prop} (ho : s.heap.get? it = some o) (hc : o.cls = .type n) (hd : o.data = .fields vs)
    (hn : ["enumerate", "zip", "dict_itemiterator", "dict_reverseitemiterator", "odict_iterator", "itertools.zip_longest", "itertools.pairwise"].contains n = false) (hQ : Q () s) : wpAny M A (letOwnedTupleGo tg (.ref it) u) Q E s := by
  unfold letOwnedTupleGo
  cases tg <;> first
    | exact wpAny_pure hQ
    | (cases u <;> first
        | exact wpAny_pure hQ
        | (refine wpAny_bind (wpAny_load ho ?_)
           rw [hc, hd]
           show wpAny M A (if (["enumerate", "zip", "dict_itemiterator", "dict_reverseitemiterator", "odict_iterator", "itertools.zip_longest", "itertools.pairwise"].contains n && vs[0]? == some (rawInt _)) = true then _ else _) Q E s
           rw [if_neg (by intro h; rw [hn, Bool.false_and] at h; cases h)]
           exact wpAny_pure hQ))
def Itl (K : PySem.W.Frag) (a : Addr) : It :=
  ⟨fun i H => ∃ xs x, SqL K H a xs ∧ xs[i]? = some x, fun i H x H' => H' = H ∧ ∀ xs, SqL K H a xs → xs[i]? = some x, fun i H => ∃ xs, SqL K H a xs ∧ xs.length ≤ i⟩
def Itt (K : PySem.W.Frag) (a : Addr) : It :=
  ⟨fun i H => ∃ xs x, SqT K H a xs ∧ xs[i]? = some x, fun i H x H' => H' = H ∧ ∀ xs, SqT K H a xs → xs[i]? = some x, fun i H => ∃ xs, SqT K H a xs ∧ xs.length ≤ i⟩
def Itr (lo : Int) (n : Nat) : It := ⟨fun i _ => i < n, fun i H x H' => H' = H ∧ x = .int (lo + i), fun i _ => n ≤ i⟩
theorem turn_list {P : Program} {w : World} {K : PySem.W.Frag} {tg : Expr} (a it : Addr) : Turn P w K tg (Itl K a) [it] it (fun i h => h.IsListIter it a i) where
  mem := by simp
  obj := fun i h st b hb => by
    have e : b = it := by simpa using hb
    subst e
    obtain ⟨o, e, c, d⟩ := st
    exact ⟨o, e, fun v z => by rw [d] at z; cases z⟩
  keep := fun i h h' st k => st.at fun o e => k it (by simp) o e
  item := by
    intro X hP hw hK hc i pins s σ H E I hf st hg
    subst hP hw hK
    obtain ⟨xs, x, hq, hx⟩ := hg
    obtain ⟨its, rv, p, hz⟩ := I.list hq
    obtain ⟨u, hu, ru⟩ := rv.get hx
    obtain ⟨f0, f1, f2, f3, f4, f5⟩ := hf it (by simp)
    refine wpAny_pyNext_list_item st p.isList (x := u) (by simpa using hu) fun h' st' sb => ?_
    have I1 : Inv X pins σ H { s with heap := h' } := I.turned (t' := s.toks) (fun b o hb e => (sb.2 b hb).trans e) f0 f1 f3 f4 f5
    obtain ⟨o, e, c, d⟩ := id st'
    exact ⟨u, rfl, go_of (s := { s with heap := h' }) e c d (by decide) ⟨x, H, I1, ru, ⟨rfl, fun ys hy => by rw [I.list_inj hy hq]; exact hx⟩, st', fun b hb => (hf b hb).1⟩⟩
  done := by
    intro X hP hw hK hc i pins s σ H E I hf st hg
    subst hP hw hK
    obtain ⟨xs, hq, hx⟩ := hg
    obtain ⟨its, rv, p, hz⟩ := I.list hq
    obtain ⟨f0, f1, f2, f3, f4, f5⟩ := hf it (by simp)
    have hl := rv.length
    exact wpAny_pyNext_list_end (I.ok.hd hc) st p.isList (by simp; omega) fun h' eb => ⟨rfl, I.turned (t' := s.toks) (fun b o hb e => eb b o hb e) f0 f1 f3 f4 f5⟩
  self := fun _ _ _ _ _ st h => wpAny_pyIter_listiter st h
theorem turn_range {P : Program} {w : World} {K : PySem.W.Frag} {tg : Expr} (it : Addr) (lo : Int) (n : Nat) : Turn P w K tg (Itr lo n) [it] it (fun i h => IsRangeIter h it (lo + (i : Nat) * 1) ((n : Int) - (i : Nat)) 1) where
  mem := by simp
  obj := fun i h st b hb => by
    have e : b = it := by simpa using hb
    subst e
    exact ⟨_, st, fun v z => by
      have z' : Data.fields _ = Data.cell v := z
      cases z'⟩
  keep := fun i h h' st k => k it (by simp) _ st
  item := by
    intro X hP hw hK hc i pins s σ H E I hf st hg
    subst hP hw hK
    obtain ⟨f0, f1, f2, f3, f4, f5⟩ := hf it (by simp)
    have W := Walks.range (prog := X.prog) (w := X.w) (I.ok.hd hc) it lo 1 n
    refine W.item i s _ _ hg st fun v h' tk hv st' kk => ?_
    obtain ⟨t, rfl⟩ := hv
    have I1 : Inv X pins σ H { s with heap := h', toks := tk } := I.turned (fun b o hb e => kk b o (by simpa using hb) e) f0 f1 f3 f4 f5
    refine ⟨_, rfl, go_of (s := { s with heap := h', toks := tk }) (n := "range_iterator") st' rfl rfl (by decide) ⟨.int (lo + i), H, I1, ⟨t, ?_⟩, ⟨rfl, rfl⟩, st', fun b hb => (hf b hb).1⟩⟩
    rw [Int.mul_one]
  done := by
    intro X hP hw hK hc i pins s σ H E I hf st hg
    subst hP hw hK
    obtain ⟨f0, f1, f2, f3, f4, f5⟩ := hf it (by simp)
    exact wpAny_pyNext_range_end (I.ok.hd hc) st (by have : n ≤ i := hg; omega) fun h' eb => ⟨rfl, I.turned (t' := s.toks) (fun b o hb e => eb b o hb e) f0 f1 f3 f4 f5⟩
  self := fun _ _ _ _ _ st h => wpAny_pyIter_rangeiter st h
end L2
namespace L2
open PySem PySem.Spec PyProof.Rows
section
variable {X : Cx} {tg : Expr}
def iList (K : PySem.W.Frag) (tl : TE) : TI := fun σ H R => tl σ H fun x H1 => ∃ a, x = .ref a ∧ (∃ xs, SqL K H1 a xs) ∧ R (Itl K a) H1
def iTup (K : PySem.W.Frag) (tl : TE) : TI := fun σ H R => tl σ H fun x H1 => ∃ a, x = .ref a ∧ (∃ xs, SqT K H1 a xs) ∧ R (Itt K a) H1
theorem pi_list {l : Expr} {tl : TE} (hl : PE X l tl) : PI X tg l (iList X.K tl) := by
  intro pins s σ H R I h
  refine thn (hl pins s σ H _ I h) fun v s1 ⟨x, H1, I1, r1, q1⟩ => ?_
  obtain ⟨a, e, ⟨xs, hq⟩, q⟩ := q1
  subst e
  cases r1
  obtain ⟨its, rv, p, hz⟩ := I1.list hq
  refine wpAny_pyIter_list p.isList ?_
  refine ⟨s1.heap.objs.size, [s1.heap.objs.size], _, _, H1, rfl, I1.kept (t' := s1.toks) fun b o e => Heap.get?_push_of_some _ e, turn_list a _, ⟨_, Heap.get?_push_size _ rfl, rfl, rfl⟩, fun b hb => ?_, q⟩
  have e : b = s1.heap.objs.size := by simpa using hb
  subst e
  exact I1.fpOk (Nat.le_refl _) (I1.hok.fresh (Nat.le_refl _))
theorem range_it {pins : List (Addr × Obj)} {σ : St} {H : Hp} {s : Shared} {R : It → Hp → Prop} {E : Value → Shared → Prop} {lo hi : Int} {t u v : Tok} {tk : Nat} (I : Inv X pins σ H s) (h1 : -(2 ^ 62) ≤ lo) (h2 : lo < 2 ^ 62) (h3 : -(2 ^ 62) ≤ hi) (h4 : hi < 2 ^ 62)
    (q : R (Itr lo (hi - lo).toNat) H) : wpAny (model X.prog X.w) X.A (pyIter (.ref s.heap.objs.size)) (PIE X pins σ tg R) E { s with heap := s.heap.push { cls := .type "range", data := .fields #[.int lo t, .int hi u, .int 1 v] }, toks := tk } := by
  refine wpAny_pyIter_range (IsRange.new ..) (small_one h1 h2 h3 h4) ?_
  have I1 : Inv X pins σ H { s with heap := s.heap.push { cls := .type "range", data := .fields #[.int lo t, .int hi u, .int 1 v] }, toks := tk } := I.kept fun b o e => Heap.get?_push_of_some _ e
  refine ⟨(s.heap.push { cls := .type "range", data := .fields #[.int lo t, .int hi u, .int 1 v] }).objs.size, [(s.heap.push { cls := .type "range", data := .fields #[.int lo t, .int hi u, .int 1 v] }).objs.size], _, _, H, rfl,
    I1.kept (t' := tk) fun b o e => Heap.get?_push_of_some _ e, turn_range _ lo (hi - lo).toNat, ?_, fun b hb => ?_, q⟩
  · have e1 : lo + ((0 : Nat) : Int) * 1 = lo := by simp
    have e2 : (((hi - lo).toNat : Nat) : Int) - ((0 : Nat) : Int) = Builtin.Range.rangeSize lo hi 1 := by rw [rangeSize_one]; split <;> omega
    show IsRangeIter _ _ (lo + ((0 : Nat) : Int) * 1) ((((hi - lo).toNat : Nat) : Int) - ((0 : Nat) : Int)) 1
    rw [e1, e2]
    exact Heap.get?_push_size _ rfl
  · have e : b = (s.heap.push { cls := .type "range", data := .fields #[.int lo t, .int hi u, .int 1 v] }).objs.size := by simpa using hb
    subst e
    exact I1.fpOk (Nat.le_refl _) (I1.hok.fresh (Nat.le_refl _))
def iRng1 (ta : TA) : TI := fun σ H R => ta σ H fun vs H1 => ∃ j : Int, vs = [.int j] ∧ -(2 ^ 62) ≤ j ∧ j < 2 ^ 62 ∧ R (Itr 0 j.toNat) H1
def iRng2 (ta : TA) : TI := fun σ H R => ta σ H fun vs H1 => ∃ i j : Int, vs = [.int i, .int j] ∧ (-(2 ^ 62) ≤ i ∧ i < 2 ^ 62 ∧ -(2 ^ 62) ≤ j ∧ j < 2 ^ 62) ∧ R (Itr i (j - i).toNat) H1
theorem pi_range1 {a : Expr} {ta : TA} {p pos : Pos} (hg : Gl X "range") (hm : X.mg "range" = none) (ha : PA X [a] ta) (hs : starEach [a] X.env = [(false, eval a X.env)] := by rfl) : PI X tg (.Call (.Name "range" p) [a] [] pos) (iRng1 ta) := by
  intro pins s σ H R I h
  refine Call_ (ld_blt I hg hm boot_range (PyProof.Rows.callWith_type1 (thn (ha pos pins s σ H _ I h) fun us s1 ⟨vs, H1, I1, r1, q1⟩ => ?_) hs rfl))
  obtain ⟨j, e, q1, q2, q⟩ := q1
  subst e
  cases r1 with
  | cons r rr =>
    cases rr
    obtain ⟨t, rfl⟩ := r
    exact call_range_1 (range_it I1 (by omega) (by omega) q1 q2 (by simpa using q))
def tFor (wi : TI) (g : TG) (tb : TS) : TS := fun D σ H => wi σ H fun J H1 => ∃ W : Nat → Nat → St → Hp → Prop, (∃ m, W 0 m σ H1) ∧ ∀ i m σ H, W i m σ H →
  (J.stop i H ∧ D.nx σ H) ∨ (J.go i H ∧ ∃ N : St → Hp → Prop, (∀ σ' H', N σ' H' → ∃ m', m' < m ∧ W (i + 1) m' σ' H') ∧ ∀ x H', J.yld i H x H' → g x σ H' fun σ2 H2 => tb { D with nx := N, ct := N, bk := D.nx } σ2 H2)
def pinsAt (fp : List Addr) (h : Heap) : List (Addr × Obj) := fp.filterMap fun b => (h.get? b).map fun o => (b, o)
theorem mem_pinsAt {fp : List Addr} {h : Heap} {b : Addr} {o : Obj} (hb : b ∈ fp) (e : h.get? b = some o) : (b, o) ∈ pinsAt fp h := List.mem_filterMap.mpr ⟨b, hb, by rw [e]; rfl⟩
theorem of_pinsAt {fp : List Addr} {h : Heap} {p : Addr × Obj} (hp : p ∈ pinsAt fp h) : p.1 ∈ fp ∧ h.get? p.1 = some p.2 := by
  obtain ⟨b, hb, e⟩ := List.mem_filterMap.mp hp
  cases q : h.get? b with
  | none => rw [q] at e; cases e
  | some o =>
    rw [q] at e
    have e' : (b, o) = p := Option.some.inj e
    subst e'
    exact ⟨hb, q⟩
theorem Inv.pinned {pins : List (Addr × Obj)} {σ : St} {H : Hp} {s : Shared} {fp : List Addr} (I : Inv X pins σ H s) (hf : ∀ b ∈ fp, FpOk X pins H b) (ho : ∀ b ∈ fp, ∃ o, s.heap.get? b = some o ∧ ∀ v, o.data ≠ .cell v) : Inv X (pins ++ pinsAt fp s.heap) σ H s :=
  I.pins_of fun p hp => (List.mem_append.mp hp).elim (fun z => I.pin p (List.mem_append_right _ z)) fun z => by
    obtain ⟨hb, e⟩ := of_pinsAt z
    obtain ⟨f0, f1, f2, _⟩ := hf p.1 hb
    obtain ⟨o, e', d⟩ := ho p.1 hb
    rw [e] at e'; cases e'
    exact ⟨e, f0, f1, f2, d⟩
theorem Inv.unpinned {pins pl : List (Addr × Obj)} {σ : St} {H : Hp} {s : Shared} (I : Inv X (pins ++ pl) σ H s) : Inv X pins σ H s := I.pins_of fun p hp => I.pin p (List.mem_append_right _ (List.mem_append_left _ hp))
theorem ps_for {iter : Expr} {body : List Stmt} {wi : TI} {g : TG} {tb : TS} {pos : Pos} (hp : PassesOwn (model X.prog X.w) X.A X.env X.xe) (hc : X.calm = true) (hi : PI X tg iter wi) (hg : PG X tg g) (hb : PSs X body tb)
    (hs : ∀ x, foldedSetIterable iter X.env x = pure x := by intro _; rfl) : PS X (.For tg iter body [] pos) (tFor wi g tb) := by
  intro pins s σ H D I h
  refine wpAny_For (thn (hi pins s σ H _ I h) fun v s1 h1 => thn h1 fun itv s2 h2 => ?_) hs
  obtain ⟨it, fp, tn, J, H2, e, I2, T, st2, f2, W, ⟨m0, w0⟩, turn⟩ := h2
  subst e
  -- what stays true of the iterator's objects through the loop
  have stat : ∀ {H' : Hp}, (∀ b ∈ fp, H' b = none) → ∀ b ∈ fp, FpOk X pins H' b := fun hn b hb => ⟨hn b hb, (f2 b hb).2⟩
  refine codeAny_forLoop_any (fun n s' => ∃ i σ' H', Inv X pins σ' H' s' ∧ tn i s'.heap ∧ (∀ b ∈ fp, H' b = none) ∧ W i n σ' H') ?_ m0 ⟨0, σ, H2, I2, st2, fun b hb => (f2 b hb).1, w0⟩
  rintro n s3 ⟨i, σ3, H3, I3, st3, fr3, w3⟩
  rcases turn i n σ3 H3 w3 with ⟨stop, qn⟩ | ⟨go, N, hN, step⟩
  · refine wpAny_passesOwn hp (thn (T.done X rfl rfl rfl hc i pins s3 σ3 H3 X.xe I3 (stat fr3) st3 stop) fun r s4 ⟨hr, I4⟩ => ?_)
    subst hr
    exact wpAny_execs_nil ⟨σ3, H3, I4, qn⟩
  · refine wpAny_passesOwn hp (thn (T.item X rfl rfl rfl hc i pins s3 σ3 H3 X.xe I3 (stat fr3) st3 go) fun r s4 ⟨u, hr, h4⟩ => ?_)
    subst hr
    refine wpAny_passesOwn hp (thn h4 fun _ s5 ⟨x, H5, I5, r5, y5, st5, fr5⟩ => ?_)
    have I5' := I5.pinned (stat fr5) (T.obj _ _ st5)
    refine wpAny_passesOwn hp (thn (hg _ s5 σ3 H5 x u _ I5' r5 (step x H5 y5)) fun _ s6 ⟨σ6, H6, I6, q6⟩ => ?_)
    refine wpAny_passesOwn hp (thn (hb _ s6 σ6 H6 _ I6 q6) fun f s7 q7 => ?_)
    have again : ∀ {σ7 : St} {H7 : Hp}, Inv X (pins ++ pinsAt fp s5.heap) σ7 H7 s7 → N σ7 H7 → ∃ m, m < n ∧ ∃ i σ' H', Inv X pins σ' H' s7 ∧ tn i s7.heap ∧ (∀ b ∈ fp, H' b = none) ∧ W i m σ' H' := fun {σ7 H7} I7 n7 => by
      obtain ⟨m', hm, w7⟩ := hN σ7 H7 n7
      refine ⟨m', hm, i + 1, σ7, H7, I7.unpinned, T.keep _ _ _ st5 fun b hb o e => (I7.pin (b, o) (List.mem_append_right _ (List.mem_append_right _ (mem_pinsAt hb e)))).1, fun b hb => ?_, w7⟩
      obtain ⟨o, e, d⟩ := T.obj _ _ st5 b hb
      exact (I7.pin (b, o) (List.mem_append_right _ (List.mem_append_right _ (mem_pinsAt hb e)))).2.1
    cases f with
    | next => obtain ⟨σ7, H7, I7, n7⟩ := q7; exact again I7 n7
    | cont => obtain ⟨σ7, H7, I7, n7⟩ := q7; exact again I7 n7
    | brk => obtain ⟨σ7, H7, I7, q7⟩ := q7; exact ⟨σ7, H7, I7.unpinned, q7⟩
    | ret v => obtain ⟨x7, σ7, H7, I7, r7, q7⟩ := q7; exact ⟨x7, σ7, H7, I7.unpinned, r7, q7⟩
end
theorem for_list {K : PySem.W.Frag} {a : Addr} {xs : List V} {g : TG} {tb : TS} {D : Ends} {σ : St} {H : Hp} (Pv : Nat → St → Hp → Prop) (h0 : Pv 0 σ H) (hl : ∀ i σ H, i ≤ xs.length → Pv i σ H → SqL K H a xs)
    (hs : ∀ i x σ H, xs[i]? = some x → Pv i σ H → g x σ H fun σ2 H2 => tb { D with nx := Pv (i + 1), ct := Pv (i + 1), bk := D.nx } σ2 H2) (hd : ∀ σ H, Pv xs.length σ H → D.nx σ H) :
    ∃ W : Nat → Nat → St → Hp → Prop, (∃ m, W 0 m σ H) ∧ ∀ i m σ H, W i m σ H →
      ((Itl K a).stop i H ∧ D.nx σ H) ∨ ((Itl K a).go i H ∧ ∃ N : St → Hp → Prop, (∀ σ' H', N σ' H' → ∃ m', m' < m ∧ W (i + 1) m' σ' H') ∧ ∀ x H', (Itl K a).yld i H x H' → g x σ H' fun σ2 H2 => tb { D with nx := N, ct := N, bk := D.nx } σ2 H2) := by
  refine ⟨fun i m σ H => m = xs.length - i ∧ i ≤ xs.length ∧ Pv i σ H, ⟨xs.length, by simp, Nat.zero_le _, h0⟩, ?_⟩
  rintro i m σ H ⟨rfl, hi, p⟩
  have q := hl i σ H hi p
  by_cases hlt : i < xs.length
  · refine .inr ⟨⟨xs, xs[i], q, by simp [hlt]⟩, Pv (i + 1), fun σ' H' p' => ⟨xs.length - (i + 1), by omega, rfl, hlt, p'⟩, fun x H' y => ?_⟩
    obtain ⟨e, y⟩ := y
    subst e
    exact hs i x σ _ (y xs q) p
  · have e : i = xs.length := by omega
    subst e
    exact .inl ⟨⟨xs, q, Nat.le_refl _⟩, hd σ H p⟩
theorem for_range {lo : Int} {n : Nat} {g : TG} {tb : TS} {D : Ends} {σ : St} {H : Hp} (Pv : Nat → St → Hp → Prop) (h0 : Pv 0 σ H)
    (hs : ∀ i σ H, i < n → Pv i σ H → g (.int (lo + i)) σ H fun σ2 H2 => tb { D with nx := Pv (i + 1), ct := Pv (i + 1), bk := D.nx } σ2 H2) (hd : ∀ σ H, Pv n σ H → D.nx σ H) :
    ∃ W : Nat → Nat → St → Hp → Prop, (∃ m, W 0 m σ H) ∧ ∀ i m σ H, W i m σ H →
      ((Itr lo n).stop i H ∧ D.nx σ H) ∨ ((Itr lo n).go i H ∧ ∃ N : St → Hp → Prop, (∀ σ' H', N σ' H' → ∃ m', m' < m ∧ W (i + 1) m' σ' H') ∧ ∀ x H', (Itr lo n).yld i H x H' → g x σ H' fun σ2 H2 => tb { D with nx := N, ct := N, bk := D.nx } σ2 H2) := by
  refine ⟨fun i m σ H => m = n - i ∧ i ≤ n ∧ Pv i σ H, ⟨n, by simp, Nat.zero_le _, h0⟩, ?_⟩
  rintro i m σ H ⟨rfl, hi, p⟩
  by_cases hlt : i < n
  · refine .inr ⟨hlt, Pv (i + 1), fun σ' H' p' => ⟨n - (i + 1), by omega, rfl, hlt, p'⟩, fun x H' y => ?_⟩
    obtain ⟨e, y⟩ := y
    subst e y
    exact hs i σ _ hlt p
  · have e : i = n := by omega
    subst e
    exact .inl ⟨Nat.le_refl _, hd σ H p⟩
end L2
namespace L2
open PySem PySem.Spec PyProof.Rows
abbrev R2 := V → V → Hp → VK → Prop
def OpR (X : Cx) (f : Value → Value → Sem Value) (r : R2) : Prop :=
  ∀ (pins : List (Addr × Obj)) (s : Shared) (σ : St) (H : Hp) (x y : V) (v u : Value) (Q : VK), Inv X pins σ H s → RelV x v → RelV y u → r x y H Q →
    wpAny (model X.prog X.w) X.A (f v u) (EP X pins σ Q) X.xe s
def UnR (X : Cx) (f : Value → Sem Value) (r : V → Hp → VK → Prop) : Prop :=
  ∀ (pins : List (Addr × Obj)) (s : Shared) (σ : St) (H : Hp) (x : V) (v : Value) (Q : VK), Inv X pins σ H s → RelV x v → r x H Q →
    wpAny (model X.prog X.w) X.A (f v) (EP X pins σ Q) X.xe s
def CallR (X : Cx) (f : Value) (r : List V → Hp → VK → Prop) : Prop :=
  ∀ (pins : List (Addr × Obj)) (s : Shared) (σ : St) (H : Hp) (xs : List V) (us : List Value) (Q : VK), Inv X pins σ H s → Vals xs us → r xs H Q →
    wpAny (model X.prog X.w) X.A (call f us) (EP X pins σ Q) X.xe s
def TruR (X : Cx) (r : V → Hp → (Bool → Hp → Prop) → Prop) : Prop :=
  ∀ (pins : List (Addr × Obj)) (s : Shared) (σ : St) (H : Hp) (x : V) (v : Value) (Q : Bool → Hp → Prop), Inv X pins σ H s → RelV x v → r x H Q →
    wpAny (model X.prog X.w) X.A (truthy v) (TP X pins σ Q) X.xe s
def tOp (r : R2) (ta tb : TE) : TE := fun σ H Q => ta σ H fun x H1 => tb σ H1 fun y H2 => r x y H2 Q
def tUn (r : V → Hp → VK → Prop) (ta : TE) : TE := fun σ H Q => ta σ H fun x H1 => r x H1 Q
def rI (C : Int → Int → Prop) (g : Int → Int → V) : R2 := fun x y H Q => ∃ i j, x = .int i ∧ y = .int j ∧ C i j ∧ Q (g i j) H
def rI0 (g : Int → Int → V) : R2 := fun x y H Q => ∃ i j, x = .int i ∧ y = .int j ∧ Q (g i j) H
def rU (g : Int → V) : V → Hp → VK → Prop := fun x H Q => ∃ i, x = .int i ∧ Q (g i) H
section
variable {X : Cx} {a b c : Expr} {ta tb tc : TE} {pos : Pos}
theorem binT (ha : PE X a ta) (hb : PE X b tb) {pins : List (Addr × Obj)} {s : Shared} {σ : St} {H : Hp} {R : V → V → Hp → Prop} (I : Inv X pins σ H s)
    (h : ta σ H fun x H1 => tb σ H1 fun y H2 => R x y H2) {Q : Value → Shared → Prop} {f : Value → Value → Sem Value}
    (hf : ∀ v u s2 x y H2, Inv X pins σ H2 s2 → RelV x v → RelV y u → R x y H2 → wpAny (model X.prog X.w) X.A (f v u) Q X.xe s2) :
    wpAny (model X.prog X.w) X.A (eval a X.env) (fun v s₁ => wpAny (model X.prog X.w) X.A (eval b X.env) (fun u s₂ => wpAny (model X.prog X.w) X.A (f v u) Q X.xe s₂) X.xe s₁) X.xe s := by
  refine thn (ha pins s σ H _ I h) fun v s1 ⟨x, H1, I1, r1, q1⟩ => ?_
  refine thn (hb pins s1 σ H1 _ I1 q1) fun u s2 ⟨y, H2, I2, r2, q2⟩ => ?_
  exact hf v u s2 x y H2 I2 r1 r2 q2
theorem pe_op {op : Operator} {r : R2} (ho : OpR X (binaryOp op) r) (ha : PE X a ta) (hb : PE X b tb) : PE X (.BinOp a op b pos) (tOp r ta tb) := by
  intro pins s σ H Q I h
  exact wpAny_BinOp (binT ha hb I h fun v u s2 x y H2 I2 rx ry q => ho pins s2 σ H2 x y v u Q I2 rx ry q)
theorem pe_un {op : UnaryOp} {r : V → Hp → VK → Prop} (ho : UnR X (unaryOp op) r) (ha : PE X a ta) : PE X (.UnaryOp op a pos) (tUn r ta) := by
  intro pins s σ H Q I h
  exact UnaryOp_ (thn (ha pins s σ H _ I h) fun v s1 ⟨x, H1, I1, r1, q1⟩ => ho pins s1 σ H1 x v Q I1 r1 q1)
theorem opI {f : Value → Value → Sem Value} {C : Int → Int → Prop} {g : Int → Int → Int}
    (rule : ∀ (i j : Int) (t u : Tok) (s : Shared) (Q : Value → Shared → Prop) (E : Value → Shared → Prop), C i j → Q (.int (g i j) s.toks) { s with toks := s.toks + 1 } → wpAny (model X.prog X.w) X.A (f (.int i t) (.int j u)) Q E s) :
    OpR X f (rI C fun i j => .int (g i j)) := by
  intro pins s σ H x y v u Q I rx ry h
  obtain ⟨i, j, rfl, rfl, hc, q⟩ := h
  obtain ⟨t, rfl⟩ := rx
  obtain ⟨t', rfl⟩ := ry
  exact rule i j t t' s _ _ hc ⟨.int (g i j), H, I.tok _, ⟨_, rfl⟩, q⟩
theorem opI0 {f : Value → Value → Sem Value} {g : Int → Int → Int}
    (rule : ∀ (i j : Int) (t u : Tok) (s : Shared) (Q : Value → Shared → Prop) (E : Value → Shared → Prop), Q (.int (g i j) s.toks) { s with toks := s.toks + 1 } → wpAny (model X.prog X.w) X.A (f (.int i t) (.int j u)) Q E s) :
    OpR X f (rI0 fun i j => .int (g i j)) := by
  intro pins s σ H x y v u Q I rx ry h
  obtain ⟨i, j, rfl, rfl, q⟩ := h
  obtain ⟨t, rfl⟩ := rx
  obtain ⟨t', rfl⟩ := ry
  exact rule i j t t' s _ _ ⟨.int (g i j), H, I.tok _, ⟨_, rfl⟩, q⟩
theorem opB0 {f : Value → Value → Sem Value} {g : Int → Int → Bool}
    (rule : ∀ (i j : Int) (t u : Tok) (s : Shared) (Q : Value → Shared → Prop) (E : Value → Shared → Prop), Q (.bool (g i j)) s → wpAny (model X.prog X.w) X.A (f (.int i t) (.int j u)) Q E s) :
    OpR X f (rI0 fun i j => .bl (g i j)) := by
  intro pins s σ H x y v u Q I rx ry h
  obtain ⟨i, j, rfl, rfl, q⟩ := h
  obtain ⟨t, rfl⟩ := rx
  obtain ⟨t', rfl⟩ := ry
  exact rule i j t t' s _ _ ⟨.bl (g i j), H, I, rfl, q⟩
def CDiv (i j : Int) : Prop := 0 < j ∧ j < 1073741824
def CDivN (i j : Int) : Prop := j ≠ 0 ∧ j.natAbs < 1073741824
def CPow (i j : Int) : Prop := 0 ≤ j ∧ j ≤ 1000000 ∧ i.natAbs < 2 ^ 64
def CMul (i j : Int) : Prop := (-(2 ^ 64) < i ∧ i < 2 ^ 64) ∨ (-(2 ^ 64) < j ∧ j < 2 ^ 64)
theorem CMul.ok {i j : Int} (h : CMul i j) : IntMulOk i j := by
  rcases h with ⟨h1, h2⟩ | ⟨h1, h2⟩
  · exact .of_left (intBits_le_64 h1 h2)
  · exact .of_right (intBits_le_64 h1 h2)
theorem op_add : OpR X (binaryOp .Add) (rI0 fun i j => .int (i + j)) := opI0 fun _ _ _ _ _ _ _ q => add_int q
theorem op_sub : OpR X (binaryOp .Sub) (rI0 fun i j => .int (i - j)) := opI0 fun _ _ _ _ _ _ _ q => sub_int q
theorem op_mul : OpR X (binaryOp .Mult) (rI CMul fun i j => .int (i * j)) := opI fun _ _ _ _ _ _ _ hc q => mul_int q hc.ok
theorem op_mod : OpR X (binaryOp .Mod) (rI (fun _ j => 0 < j) fun i j => .int (i % j)) := opI fun i j _ _ _ _ _ hc q => by
  have h1 : (0 : Int) < j := hc
  exact mod_int' (by omega) (by rw [Int.fmod_eq_emod_of_nonneg i (by omega)]; exact q)
theorem op_pow : OpR X (binaryOp .Pow) (rI CPow fun i j => .int (i ^ j.toNat)) := opI fun _ _ _ _ _ _ _ hc q => pow_int_small hc.1 hc.2.1 hc.2.2 q
theorem unI {f : Value → Sem Value} {g : Int → Int}
    (rule : ∀ (i : Int) (t : Tok) (s : Shared) (Q : Value → Shared → Prop) (E : Value → Shared → Prop), Q (.int (g i) s.toks) { s with toks := s.toks + 1 } → wpAny (model X.prog X.w) X.A (f (.int i t)) Q E s) :
    UnR X f (rU fun i => .int (g i)) := by
  intro pins s σ H x v Q I rx h
  obtain ⟨i, rfl, q⟩ := h
  obtain ⟨t, rfl⟩ := rx
  exact rule i t s _ _ ⟨.int (g i), H, I.tok _, ⟨_, rfl⟩, q⟩
theorem un_neg : UnR X (unaryOp .USub) (rU fun i => .int (-i)) := unI fun _ _ _ _ _ q => neg_int q
end
def scal : V → V → Bool
  | .non, .non => true | .non, .int _ => true | .int _, .non => true | .non, .bl _ => true | .bl _, .non => true | .non, .str _ => true | .str _, .non => true
  | .int _, .int _ => true | .bl _, .bl _ => true | .str _, .str _ => true | .byt _, .byt _ => true
  | .int _, .str _ => true | .str _, .int _ => true | .bl _, .str _ => true | .str _, .bl _ => true
  | _, _ => false
def rEq : R2 := fun x y H Q => scal x y = true ∧ Q (.bl (decide (x = y))) H
def rNe : R2 := fun x y H Q => scal x y = true ∧ Q (.bl (!decide (x = y))) H
theorem dec_int {i j : Int} : decide (V.int i = V.int j) = (i == j) := by
  rw [Bool.eq_iff_iff]
  simp
theorem dec_bl {i j : Bool} : decide (V.bl i = V.bl j) = (i == j) := by
  rw [Bool.eq_iff_iff]
  simp
theorem dec_str {i j : Str} : decide (V.str i = V.str j) = (i == j) := by
  rw [Bool.eq_iff_iff]
  simp
theorem dec_byt {i j : Array UInt8} : decide (V.byt i = V.byt j) = (i.toList == j.toList) := by
  rw [Bool.eq_iff_iff]
  cases i
  cases j
  simp
section
variable {X : Cx} {a b c : Expr} {ta tb tc : TE} {pos : Pos}
theorem fin_bl {pins : List (Addr × Obj)} {σ : St} {H : Hp} {s : Shared} {Q : VK} {k k' : Bool} (I : Inv X pins σ H s) (q : Q (.bl k) H) (e : k = k') : EP X pins σ Q (.bool k') s := by
  subst e
  exact ⟨.bl k, H, I, rfl, q⟩
theorem op_eq : OpR X (compareOp .Eq) rEq := by
  intro pins s σ H x y v u Q I rx ry h
  obtain ⟨hs, q⟩ := h
  cases x with
  | non =>
    cases rx
    cases y with
    | non => cases ry; exact PySem.EqNone.eq_none_none (fin_bl I q (by simp))
    | bl j => cases ry; exact PySem.EqNone.eq_none_bool (fin_bl I q (by simp))
    | int j => obtain ⟨t', rfl⟩ := ry; exact PySem.EqNone.eq_none_int (fin_bl I q (by simp))
    | str j => obtain ⟨t', rfl⟩ := ry; exact PySem.EqNone.eq_none_str (fin_bl I q (by simp))
    | _ => exact absurd (show false = true from hs) Bool.false_ne_true
  | bl i =>
    cases rx
    cases y with
    | non => cases ry; exact PySem.EqNone.eq_bool_none (fin_bl I q (by simp))
    | bl j => cases ry; exact eq_bool (fin_bl I q dec_bl)
    | str j => obtain ⟨t', rfl⟩ := ry; exact PySem.EqMixed.eq_bool_str (fin_bl I q (by simp))
    | _ => exact absurd (show false = true from hs) Bool.false_ne_true
  | int i =>
    obtain ⟨t, rfl⟩ := rx
    cases y with
    | non => cases ry; exact PySem.EqNone.eq_int_none (fin_bl I q (by simp))
    | int j => obtain ⟨t', rfl⟩ := ry; exact eq_int (fin_bl I q dec_int)
    | str j => obtain ⟨t', rfl⟩ := ry; exact PySem.EqMixed.eq_int_str (fin_bl I q (by simp))
    | _ => exact absurd (show false = true from hs) Bool.false_ne_true
  | str i =>
    obtain ⟨t, rfl⟩ := rx
    cases y with
    | non => cases ry; exact PySem.EqNone.eq_str_none (fin_bl I q (by simp))
    | bl j => cases ry; exact PySem.EqMixed.eq_str_bool (fin_bl I q (by simp))
    | int j => obtain ⟨t', rfl⟩ := ry; exact PySem.EqMixed.eq_str_int (fin_bl I q (by simp))
    | str j => obtain ⟨t', rfl⟩ := ry; exact eq_str (fin_bl I q dec_str)
    | _ => exact absurd (show false = true from hs) Bool.false_ne_true
  | byt i =>
    obtain ⟨t, rfl⟩ := rx
    cases y with
    | byt j => obtain ⟨t', rfl⟩ := ry; exact PySem.W.eq_bytes (fin_bl I q dec_byt)
    | _ => exact absurd (show false = true from hs) Bool.false_ne_true
  | _ => cases y <;> exact absurd (show false = true from hs) Bool.false_ne_true
theorem op_ne : OpR X (compareOp .NotEq) rNe := by
  intro pins s σ H x y v u Q I rx ry h
  obtain ⟨hs, q⟩ := h
  cases x with
  | non =>
    cases rx
    cases y with
    | non => cases ry; exact PySem.EqNone.ne_none_none (fin_bl I q (by simp))
    | bl j => cases ry; exact PySem.EqNone.ne_none_bool (fin_bl I q (by simp))
    | int j => obtain ⟨t', rfl⟩ := ry; exact PySem.EqNone.ne_none_int (fin_bl I q (by simp))
    | str j => obtain ⟨t', rfl⟩ := ry; exact PySem.EqNone.ne_none_str (fin_bl I q (by simp))
    | _ => exact absurd (show false = true from hs) Bool.false_ne_true
  | bl i =>
    cases rx
    cases y with
    | non => cases ry; exact PySem.EqNone.ne_bool_none (fin_bl I q (by simp))
    | bl j => cases ry; exact ne_bool (fin_bl I q (congrArg not dec_bl))
    | str j => obtain ⟨t', rfl⟩ := ry; exact PySem.EqMixed.ne_bool_str (fin_bl I q (by simp))
    | _ => exact absurd (show false = true from hs) Bool.false_ne_true
  | int i =>
    obtain ⟨t, rfl⟩ := rx
    cases y with
    | non => cases ry; exact PySem.EqNone.ne_int_none (fin_bl I q (by simp))
    | int j => obtain ⟨t', rfl⟩ := ry; exact ne_int (fin_bl I q (congrArg not dec_int))
    | str j => obtain ⟨t', rfl⟩ := ry; exact PySem.EqMixed.ne_int_str (fin_bl I q (by simp))
    | _ => exact absurd (show false = true from hs) Bool.false_ne_true
  | str i =>
    obtain ⟨t, rfl⟩ := rx
    cases y with
    | non => cases ry; exact PySem.EqNone.ne_str_none (fin_bl I q (by simp))
    | bl j => cases ry; exact PySem.EqMixed.ne_str_bool (fin_bl I q (by simp))
    | int j => obtain ⟨t', rfl⟩ := ry; exact PySem.EqMixed.ne_str_int (fin_bl I q (by simp))
    | str j => obtain ⟨t', rfl⟩ := ry; exact ne_str (fin_bl I q (congrArg not dec_str))
    | _ => exact absurd (show false = true from hs) Bool.false_ne_true
  | byt i =>
    obtain ⟨t, rfl⟩ := rx
    cases y with
    | byt j => obtain ⟨t', rfl⟩ := ry; exact PySem.W.ne_bytes (fin_bl I q (congrArg not dec_byt))
    | _ => exact absurd (show false = true from hs) Bool.false_ne_true
  | _ => cases y <;> exact absurd (show false = true from hs) Bool.false_ne_true
theorem op_lt : OpR X (compareOp .Lt) (rI0 fun i j => .bl (decide (i < j))) := opB0 fun _ _ _ _ _ _ _ q => lt_int q
theorem op_ge : OpR X (compareOp .GtE) (rI0 fun i j => .bl (decide (j ≤ i))) := opB0 fun _ _ _ _ _ _ _ q => ge_int q
def isObj : HO → Bool
  | .lst _ => true
  | .ins _ _ _ => true
  | _ => false
theorem nomark (b : Expr) {op : CmpOp} (h : op ≠ .In := by decide) (h2 : op ≠ .NotIn := by decide) : behindInMarks op b = false := by
  have e1 : (op == CmpOp.In) = false := by cases op <;> first | rfl | exact absurd rfl h
  have e2 : (op == CmpOp.NotIn) = false := by cases op <;> first | rfl | exact absurd rfl h2
  cases b <;> simp [behindInMarks, e1, e2]
theorem pe_cmpR {op : CmpOp} {r : R2} (ho : OpR X (compareOp op) r) (ha : PE X a ta) (hb : PE X b tb) (hm : behindInMarks op b = false) : PE X (.Compare a [op] [b] pos) (tOp r ta tb) := by
  intro pins s σ H Q I h
  exact wpAny_Compare1 (binT ha hb I h fun v u s2 x y H2 I2 rx ry q => ho pins s2 σ H2 x y v u Q I2 rx ry q) hm
def tTest (t : TE) : TT := fun σ H Q => t σ H fun x H' => ∃ k, x = .bl k ∧ Q k H'
theorem pt_cmpR {op : CmpOp} {r : R2} (ho : OpR X (compareOp op) r) (ha : PE X a ta) (hb : PE X b tb) (hm : behindInMarks op b = false) : PT X (.Compare a [op] [b] pos) (tTest (tOp r ta tb)) := by
  intro pins s σ H Q I h
  refine wpAny_isTrue_Compare1 (thn (ha pins s σ H _ I h) fun v s1 ⟨x, H1, I1, r1, q1⟩ => thn (hb pins s1 σ H1 _ I1 q1) fun u s2 ⟨y, H2, I2, r2, q2⟩ =>
    thn (ho pins s2 σ H2 x y v u _ I2 r1 r2 q2) fun c s3 ⟨z, H3, I3, r3, k, e, q3⟩ => ?_) hm
  subst e
  cases r3
  exact wpAny_truthy_bool ⟨H3, I3, q3⟩
def tChain (r r' : R2) (ta tb tc : TE) : TE := fun σ H Q => ta σ H fun x H1 => tb σ H1 fun y H2 => r x y H2 fun z H3 => ∃ k, z = .bl k ∧
  (if k = true then tc σ H3 fun w' H4 => r' y w' H4 Q else Q (.bl false) H3)
def TruV (K : PySem.W.Frag) (x : V) (H : Hp) (k : Bool) : Prop :=
  match x with
  | .non => k = false
  | .bl b => k = b
  | .int i => k = (i != 0)
  | .str y => y.length ≤ sizeLine ∧ k = ((y.length : Int) != 0)
  | .byt y => y.size ≤ sizeLine ∧ k = ((y.size : Int) != 0)
  | .ref p => (∃ xs, SqL K H p xs ∧ k = !xs.isEmpty) ∨ (∃ xs, SqT K H p xs ∧ k = !xs.isEmpty) ∨ ∃ kvs, H p = some (.dK kvs) ∧ k = !kvs.isEmpty
  | _ => False
theorem line63 : (sizeLine : Nat) < 2 ^ 63 := by rw [sizeLine_eq]; decide
theorem op_add_str : OpR X (binaryOp .Add) (fun x y H Q => ∃ i j, x = .str i ∧ y = .str j ∧ i.length + j.length ≤ sizeLine ∧ Q (.str (i ++ j)) H) := by
  intro pins s σ H x y v u Q I rx ry h
  obtain ⟨i, j, rfl, rfl, hz, q⟩ := h
  obtain ⟨t, rfl⟩ := rx
  obtain ⟨t', rfl⟩ := ry
  exact add_str (fun t' tk => ⟨.str (i ++ j), H, I.tok _, ⟨_, rfl⟩, q⟩) hz
def PlainIxT (b : Expr) : Prop := ∀ o i, subscripted b false o i = operate [o, i] (getItem o i)
theorem vals1 {x : V} {us : List Value} (r : Vals [x] us) : ∃ u, us = [u] ∧ RelV x u := by
  cases r with
  | cons r1 r2 => cases r2; exact ⟨_, rfl, r1⟩
theorem vals2 {x y : V} {us : List Value} (r : Vals [x, y] us) : ∃ u w', us = [u, w'] ∧ RelV x u ∧ RelV y w' := by
  cases r with
  | cons r1 r2 =>
    cases r2 with
    | cons r3 r4 => cases r4; exact ⟨_, _, rfl, r1, r3⟩
theorem call_abs : CallR X (.builtin "abs") (fun xs H Q => ∃ i, xs = [.int i] ∧ Q (.int (if i < 0 then -i else i)) H) := by
  intro pins s σ H xs us Q I r h
  obtain ⟨i, rfl, q⟩ := h
  obtain ⟨u, rfl, t, rfl⟩ := vals1 r
  exact call_abs_int fun u tk => ⟨.int (if i < 0 then -i else i), H, I.tok _, ⟨_, rfl⟩, q⟩
theorem call_max2 (hc : X.calm = true) : CallR X (.builtin "max") (fun xs H Q => ∃ i j, xs = [.int i, .int j] ∧ Q (.int (if j > i then j else i)) H) := by
  intro pins s σ H xs us Q I r h
  obtain ⟨i, j, rfl, q⟩ := h
  obtain ⟨u, w', rfl, ⟨t, rfl⟩, ⟨t', rfl⟩⟩ := vals2 r
  refine max_two_ints (I.ok.hd hc) fun h' tk k => ⟨_, H, I.kept k, ?_, q⟩
  by_cases hj : j > i
  · rw [if_pos hj, if_pos hj]; exact ⟨_, rfl⟩
  · rw [if_neg hj, if_neg hj]; exact ⟨_, rfl⟩
theorem call_min2 (hc : X.calm = true) : CallR X (.builtin "min") (fun xs H Q => ∃ i j, xs = [.int i, .int j] ∧ Q (.int (if j < i then j else i)) H) := by
  intro pins s σ H xs us Q I r h
  obtain ⟨i, j, rfl, q⟩ := h
  obtain ⟨u, w', rfl, ⟨t, rfl⟩, ⟨t', rfl⟩⟩ := vals2 r
  refine min_two_ints (I.ok.hd hc) fun h' tk k => ⟨_, H, I.kept k, ?_, q⟩
  by_cases hj : j < i
  · rw [if_pos hj, if_pos hj]; exact ⟨_, rfl⟩
  · rw [if_neg hj, if_neg hj]; exact ⟨_, rfl⟩
theorem call_int1 : CallR X (.type "int") (fun xs H Q => (∃ i, xs = [.int i] ∧ Q (.int i) H) ∨ ∃ k, xs = [.bl k] ∧ Q (.int (if k then 1 else 0)) H) := by
  intro pins s σ H xs us Q I r h
  rcases h with ⟨i, rfl, q⟩ | ⟨k, rfl, q⟩
  · obtain ⟨u, rfl, t, rfl⟩ := vals1 r
    exact call_int_int ⟨.int i, H, I, ⟨_, rfl⟩, q⟩
  · obtain ⟨u, rfl, r1⟩ := vals1 r
    cases r1
    exact call_int_bool ⟨.int (if k then 1 else 0), H, I.tok _, ⟨_, rfl⟩, q⟩
def LenV (K : PySem.W.Frag) (x : V) (H : Hp) (n : Nat) : Prop :=
  match x with
  | .str y => y.length ≤ sizeLine ∧ n = y.length
  | .byt y => y.size ≤ sizeLine ∧ n = y.size
  | .ref p => (∃ xs, SqL K H p xs ∧ n = xs.length) ∨ ∃ xs, SqT K H p xs ∧ n = xs.length
  | _ => False
end
end L2
namespace L2
open PySem PySem.Spec PyProof.Rows
structure ObjM (h : Heap) (x dx C : Addr) (mA : Str → Option Value) : Prop where
  obj : h.get? x = some (PySem.W.instObj C dx)
  ns : h.Ns1 dx mA
  ne : dx ≠ x
theorem lookIn_ns {h : Heap} {dx : Addr} {mA : Str → Option Value} (n : h.Ns1 dx mA) : ∃ od, h.get? dx = some od ∧ ∀ name, PySem.W.lookIn name od = some (mA name) := by
  obtain ⟨o, es, ep, ho, hd, hk, _, hm⟩ := n
  refine ⟨o, ho, fun name => ?_⟩
  have e := hm name
  unfold nsFind findBy at e
  rw [← Array.find?_toList] at e
  unfold PySem.W.lookIn
  rw [hd]
  dsimp only
  split
  · rename_i y q
    rw [q] at e
    exact congrArg some e
  · rename_i q
    rw [q] at e
    have a : es.toList.any (·.refKey) = false := by
      rw [List.any_eq_false]
      intro y hy
      obtain ⟨z, t, hkey⟩ := hk y (Array.mem_toList_iff.mp hy)
      simp [DictEntry.refKey, hkey]
    have a' : ¬ es.toList.any (·.refKey) = true := by rw [a]; exact Bool.false_ne_true
    rw [if_neg a']
    exact congrArg some e
theorem ObjM.look {h : Heap} {x dx C : Addr} {mA : Str → Option Value} (I : ObjM h x dx C mA) : ∃ od, PySem.W.InstAt h x (PySem.W.instObj C dx) C (some od) ∧ ∀ name, PySem.W.lookIn name od = some (mA name) :=
  let ⟨od, ho, hl⟩ := lookIn_ns I.ns
  ⟨od, ⟨I.obj, rfl, rfl, ho⟩, hl⟩
section
variable {prog : Program} {w : World} {A : Around} {E : Value → Shared → Prop} {s : Shared} {K : PySem.W.Frag} {x dx C f : Addr} {mA : Str → Option Value} {name : Str} {v : Value}
end
def putF (f : Str) (v : V) : List (Str × V) → List (Str × V)
  | [] => [(f, v)]
  | (g, x) :: r => if g = f then (g, v) :: r else (g, x) :: putF f v r
section
variable {P : Program} {w : World} {H H' : Hp} {h h' : Heap} {a C dx : Addr} {fs fs' : List (Str × V)}
theorem ins_get (hok : HOk P w H h) (e : H a = some (.ins C dx fs)) : ∃ mA, ObjM h a dx C mA ∧ (∀ f, RelO (fs.lookup f) (mA f)) ∧ PySem.Within mA (fs.map (·.1)) ∧ fs.length ≤ 1000 ∧ H dx = some (.own a) := by
  obtain ⟨d, z, ne, ob, mA, n, r, q⟩ := (show ObjOk P w H h a (.ins C dx fs) from hok a _ e)
  exact ⟨mA, ⟨ob, n, ne⟩, r, q, z, d⟩
end
structure Cls (K : PySem.W.Frag) (C : Addr) : Prop where
  pg : PySem.W.plainGet K C Str.empty = true
  hd : PySem.W.hasDictIn K C = true
  po : PySem.W.plainOver K C = true
  sa : PySem.W.findIn K (.ref C) "__setattr__" = some (some (.builtin "object.__setattr__"))
theorem Cls.get {K : PySem.W.Frag} {C : Addr} (c : Cls K C) (f : Str) : PySem.W.plainGet K C f = true := c.pg
def NoAttr (K : PySem.W.Frag) (C : Addr) (f : Str) : Prop := PySem.W.findIn K (.ref C) f = some none
structure Con (K : PySem.W.Frag) (C : Addr) (f : Str) (v : V) (u : Value) : Prop where
  at_ : PySem.W.findIn K (.ref C) f = some (some u)
  rel : RelV v u
  get : PySem.W.specialIn K u "__get__" = some none
  cp : PySem.W.copiedNames.contains f = false
structure Meth (K : PySem.W.Frag) (C : Addr) (m : Str) (f : Addr) : Prop where
  at_ : PySem.W.findIn K (.ref C) m = some (some (.ref f))
  fn : PySem.W.isFn K (.ref f) = true
  kp : PySem.W.keepIn K (.ref f) = true
section
variable {X : Cx} {pins : List (Addr × Obj)} {σ : St} {H : Hp} {s : Shared} {a C dx : Addr} {fs : List (Str × V)} {f : Str} {v : V} {A : Around} {E : Value → Shared → Prop}
end
def tFld (K : PySem.W.Frag) (ta : TE) (f : Str) : TE := fun σ H Q => ta σ H fun x H1 => ∃ a C dx fs v, x = .ref a ∧ H1 a = some (.ins C dx fs) ∧ Cls K C ∧ NoAttr K C f ∧ fs.lookup f = some v ∧ Q v H1
def tCon (K : PySem.W.Frag) (ta : TE) (f : Str) : TE := fun σ H Q => ta σ H fun x H1 => ∃ a C dx fs v u, x = .ref a ∧ H1 a = some (.ins C dx fs) ∧ Cls K C ∧ Con K C f v u ∧ fs.lookup f = none ∧ Q v H1
def sFld (K : PySem.W.Frag) (ta tv : TE) (f : Str) : TS := fun D σ H => tv σ H fun y H1 => ta σ H1 fun x H2 => ∃ a C dx fs, x = .ref a ∧ H2 a = some (.ins C dx fs) ∧ Cls K C ∧ NoAttr K C f ∧ fs.length < 1000 ∧
  D.nx σ (upd H2 a (.ins C dx (putF f y fs)))
def InOp (X : Cx) (op : Operator) (rd : V → V → Hp → VK → Prop) : Prop :=
  ∀ (pins : List (Addr × Obj)) (s : Shared) (σ : St) (H : Hp) (x y : V) (u v : Value) (Q : VK), Inv X pins σ H s → RelV x u → RelV y v → rd x y H Q → wpAny (model X.prog X.w) X.A (inplaceOp op u v) (EP X pins σ Q) X.xe s
def sFldAug (K : PySem.W.Frag) (ta tv : TE) (rd : V → V → Hp → VK → Prop) (f : Str) : TS := fun D σ H => ta σ H fun x H1 => ∃ a C dx fs v, x = .ref a ∧ H1 a = some (.ins C dx fs) ∧ Cls K C ∧ NoAttr K C f ∧ fs.lookup f = some v ∧
  tv σ H1 fun y H2 => rd v y H2 fun z H3 => ∃ dx' fs', H3 a = some (.ins C dx' fs') ∧ fs'.length < 1000 ∧ D.nx σ (upd H3 a (.ins C dx' (putF f z fs')))
section
variable {X : Cx} {o e value : Expr} {f : Str} {pos pos' tpos : Pos} {ta tv : TE}
def rAdd : V → V → Hp → VK → Prop := fun x y H Q => ∃ i j, x = .int i ∧ y = .int j ∧ Q (.int (i + j)) H
def rSub : V → V → Hp → VK → Prop := fun x y H Q => ∃ i j, x = .int i ∧ y = .int j ∧ Q (.int (i - j)) H
end
section
variable {X : Cx} {pins : List (Addr × Obj)} {σ : St} {H : Hp} {s : Shared} {A : Around} {E : Value → Shared → Prop} {Q : Value → Shared → Prop} {c : Value} {b : Bool}
inductive TyOf (K : PySem.W.Frag) (H : Hp) : V → Value → Prop where
  | non : TyOf K H .non (.type "NoneType")
  | bl (x : Bool) : TyOf K H (.bl x) (.type "bool")
  | int (i : Int) : TyOf K H (.int i) (.type "int")
  | str (x : Str) : TyOf K H (.str x) (.type "str")
  | flt (x : UInt64) : TyOf K H (.flt x) (.type "float")
  | lst {a : Addr} {xs : List V} (e : H a = some (.lst xs)) : TyOf K H (.ref a) (.type "list")
  | frz {a : Addr} {o : Obj} {xs : List V} (e : H a = some (.frz o (.lst xs))) : TyOf K H (.ref a) (.type "list")
  | tup {a : Addr} {xs : List V} (e : H a = some (.tup xs)) : TyOf K H (.ref a) (.type "tuple")
  | dK {a : Addr} {kvs : List (Key × V)} (e : H a = some (.dK kvs)) : TyOf K H (.ref a) (.type "dict")
  | dT {a : Addr} {kvs : List (List Key × V)} (e : H a = some (.dT kvs)) : TyOf K H (.ref a) (.type "dict")
  | ins {a C dx : Addr} {fs : List (Str × V)} (e : H a = some (.ins C dx fs)) (cl : Cls K C) (ha : PySem.W.findIn K (.ref C) "__class__" = some (some (.builtin "object.__class__")))
      (hn : PySem.W.specialIn K (.builtin "object.__class__") "__get__" = some (some (.builtin "getset_descriptor.__get__"))) (htk : PySem.W.takesIn K (.builtin "object.__class__") = some true)
      (hm : PySem.W.mroIn K C (.type "object") = some true) : TyOf K H (.ref a) (.ref C)
theorem isinst_ok {x : V} {u t : Value} (I : Inv X pins σ H s) (rx : RelV x u) (ty : TyOf X.K H x t) (e : PySem.W.kitOne X.K t c = some b) (h : ∀ tk, Q (.bool b) { s with toks := tk }) :
    wpAny (model X.prog X.w) A (call (.builtin "isinstance") [u, c]) Q E s := by
  cases ty with
  | non => cases (show u = Value.none from rx); exact PySem.W.kia_one PySem.W.kitx_none I.kIn True.intro e (fun z => nomatch z) h
  | bl y => cases (show u = Value.bool y from rx); exact PySem.W.kia_one PySem.W.kitx_bool I.kIn True.intro e (fun z => nomatch z) h
  | int i => obtain ⟨t, q⟩ := (show ∃ t, u = Value.int i t from rx); cases q; exact PySem.W.kia_one PySem.W.kitx_int I.kIn True.intro e (fun z => nomatch z) h
  | str y => obtain ⟨t, q⟩ := (show ∃ t, u = Value.str y t from rx); cases q; exact PySem.W.kia_one PySem.W.kitx_str I.kIn True.intro e (fun z => nomatch z) h
  | flt y => obtain ⟨t, q⟩ := (show ∃ t, u = Value.float y t from rx); cases q; exact PySem.W.kia_one PySem.W.kitx_float I.kIn True.intro e (fun z => nomatch z) h
  | @lst a xs ea =>
    cases (show u = Value.ref a from rx)
    obtain ⟨_, _, n, _, h1⟩ := (show ObjOk X.prog X.w H s.heap a (.lst xs) from I.hok a _ ea)
    exact PySem.W.kia_one PySem.W.kitx_list I.kIn ⟨_, h1, rfl⟩ e (fun z => nomatch z) h
  | @frz a ob xs ea =>
    cases (show u = Value.ref a from rx)
    obtain ⟨_, _, _, n, _, h1⟩ := (show ObjOk X.prog X.w H s.heap a (.frz ob (.lst xs)) from I.hok a _ ea)
    exact PySem.W.kia_one PySem.W.kitx_list I.kIn ⟨_, h1, rfl⟩ e (fun z => nomatch z) h
  | @tup a xs ea =>
    cases (show u = Value.ref a from rx)
    obtain ⟨_, _, _, p⟩ := (show ObjOk X.prog X.w H s.heap a (.tup xs) from I.hok a _ ea)
    obtain ⟨o, h1, h2, _⟩ := p
    exact PySem.W.kia_one PySem.W.kitx_tuple I.kIn ⟨o, h1, h2⟩ e (fun z => nomatch z) h
  | @dK a kvs ea =>
    cases (show u = Value.ref a from rx)
    obtain ⟨_, _, vs, _, p⟩ := (show ObjOk X.prog X.w H s.heap a (.dK kvs) from I.hok a _ ea)
    obtain ⟨o, es, ep, h1, h2, _⟩ := p
    exact PySem.W.kia_one PySem.W.kitx_dict I.kIn ⟨o, h1, h2.1⟩ e (fun z => nomatch z) h
  | @dT a kvs ea =>
    cases (show u = Value.ref a from rx)
    obtain ⟨_, _, xs, _, o, es, ep, h1, h2, _⟩ := (show ObjOk X.prog X.w H s.heap a (.dT kvs) from I.hok a _ ea)
    exact PySem.W.kia_one PySem.W.kitx_dict I.kIn ⟨o, h1, h2.1⟩ e (fun z => nomatch z) h
  | @ins a C dx fs ea cl ha hn htk hm =>
    cases (show u = Value.ref a from rx)
    obtain ⟨mA, O, _⟩ := ins_get I.hok ea
    obtain ⟨od, J, _⟩ := O.look
    exact PySem.W.kia_one (PySem.W.kitx_own (cl.get _) cl.hd ha hn htk hm) I.kIn J e (fun z => nomatch z) h
end
end L2
namespace L2
open PySem PySem.Spec PyProof.Rows
structure Room (k : Nat) (A : Around) : Prop where
  hd : A.handled = none
  dp : A.depth + 3 * k + 5 < recursionLimit
  un : A.units + 16 * k + 200 < cLine
theorem Room.mono {j k : Nat} {A : Around} (r : Room k A) (h : j ≤ k) : Room j A := ⟨r.hd, by have := r.dp; omega, by have := r.un; omega⟩
theorem Room.deeper {k : Nat} {A : Around} (r : Room (k + 1) A) (env : Env) : Room k (A.deeper env) :=
  ⟨r.hd, by have := r.dp; show A.depth + 1 + 3 * k + 5 < _; omega, by have := r.un; show A.units + 3 + 16 * k + 200 < _; omega⟩
theorem Room.depth {k : Nat} {A : Around} (r : Room k A) : A.depth < recursionLimit := by have := r.dp; omega
theorem Room.units {k : Nat} {A : Around} (r : Room k A) : A.units + 64 < cLine := by have := r.un; omega
theorem Room.units0 {k : Nat} {A : Around} (r : Room k A) : A.units < cLine := by have := r.un; omega
def tNil : TA := fun _ H Q => Q [] H
def tCons (ta : TE) (tr : TA) : TA := fun σ H Q => ta σ H fun x H1 => tr σ H1 fun xs H2 => Q (x :: xs) H2
section
variable {X : Cx} {e : Expr} {es : List Expr} {te : TE} {t : TA} {pos : Pos}
theorem pa_nil : PA X [] tNil := fun _ _ _ _ H Q I h => Calls.spliced_nil ⟨[], H, I, .nil, h⟩
theorem pa_cons (ha : PE X e te) (hr : PA X es t) (hs : starEach (e :: es) X.env = (false, eval e X.env) :: starEach es X.env := by rfl) : PA X (e :: es) (tCons te t) := by
  intro pos pins s σ H Q I h
  rw [hs]
  show wpAny _ _ (spliced ((false, eval e X.env) :: backTo pos (starEach es X.env))) _ _ s
  refine Calls.spliced_cons (thn (ha pins s σ H _ I h) fun u s1 ⟨x, H1, I1, r1, q1⟩ => ?_)
  exact thn (hr pos pins s1 σ H1 _ I1 q1) fun us s2 ⟨xs, H2, I2, r2, q2⟩ => ⟨x :: xs, H2, I2, .cons r1 r2, q2⟩
def tTup (t : TA) : TE := fun σ H Q => t σ H fun xs H1 => xs.length ≤ sizeLine ∧ ∀ p, H1 p = none → Q (.ref p) (upd H1 p (.tup xs))
def tLst (t : TA) : TE := fun σ H Q => t σ H fun xs H1 => xs.length ≤ sizeLine ∧ ∀ p, H1 p = none → Q (.ref p) (upd H1 p (.lst xs))
theorem pe_tup {x1} (h : PA X es t) : PE X (.Tuple es x1 pos) (tTup t) := by
  intro pins s σ H Q I hq
  refine wpAny_Tuple_spliced (thn (h pos pins s σ H _ I hq) fun us s1 ⟨xs, H1, I1, r, z, q⟩ => ⟨by rw [← r.length]; exact z, ?_⟩)
  have hf : H1 s1.heap.objs.size = none := I1.hok.fresh (Nat.le_refl _)
  refine ⟨.ref s1.heap.objs.size, upd H1 s1.heap.objs.size (.tup xs), I1.laid (t' := s1.toks) (fun b u e => Heap.get?_push_of_some _ e) (Nat.le_refl _) ?_, rfl, q _ hf⟩
  exact ⟨z, us, r, ⟨_, Heap.get?_push_size _ rfl, rfl, _, rfl⟩⟩
theorem pe_lst (h : PA X es t) : PE X (.List es pos) (tLst t) := by
  intro pins s σ H Q I hq
  refine wpAny_List_spliced (thn (h pos pins s σ H _ I hq) fun us s1 ⟨xs, H1, I1, r, z, q⟩ => ⟨by rw [← r.length]; exact z, ?_⟩)
  have hf : H1 s1.heap.objs.size = none := I1.hok.fresh (Nat.le_refl _)
  refine ⟨.ref s1.heap.objs.size, upd H1 s1.heap.objs.size (.lst xs), I1.laid (t' := s1.toks) (fun b u e => Heap.get?_push_of_some _ e) (Nat.le_refl _) ?_, rfl, q _ hf⟩
  exact ⟨z, us, 0, r, Heap.get?_push_size _ rfl⟩
end
abbrev Sp := List V → Hp → VK → XK → Prop
abbrev CXT := List Env → Hp → Shared → XK → Value → Shared → Prop
structure Env0 (P : Program) (w : World) (K : PySem.W.Frag) (mg : Str → Option Value) (base : Heap) (A : Around) (outer : List Env) (s : Shared) (H : Hp) : Prop where
  frames : A.frames = some outer
  mod : Mod K mg base
  bs : ∀ b o, base.get? b = some o → s.heap.get? b = some o ∧ H b = none
  bsz : base.objs.size ≤ s.heap.objs.size
  funs : s.heap.FunFrames base outer
  frf : ∀ b ∈ frs outer, H b = none
  hok : HOk P w H s.heap
  bare : AllBare s.gens
def CE (outer : List Env) (P : Program) (w : World) (H : Hp) (s : Shared) (Q : VK) (u : Value) (s' : Shared) : Prop :=
  ∃ v H', s'.os = s.os ∧ AllBare s'.gens ∧ Un (frs outer) [] H H' s.heap s'.heap ∧ HOk P w H' s'.heap ∧ RelV v u ∧ Q v H'
def CR (CX : CXT) (outer : List Env) (P : Program) (w : World) (H : Hp) (s : Shared) (Q : VK) (E : XK) (r : Result) (s' : Shared) : Prop :=
  match r with
  | .ok (.ret u) => CE outer P w H s Q u s'
  | .ok _ => False
  | .error e => CX outer H s E e s'
structure FnOk (P : Program) (w : World) (K : PySem.W.Frag) (mg : Str → Option Value) (base : Heap) (CX : CXT) (k : Nat) (f : Addr) (fd : FuncData) (ps : List Str) (sp : Sp) : Prop where
  len : ∀ vs H Q E, sp vs H Q E → vs.length = ps.length
  run : ∀ (A : Around) (outer : List Env) (s : Shared) (H : Hp) (args : Args) (us : List Value) (vs : List V) (Q : VK) (E : XK), Room k A → Env0 P w K mg base A outer s H → BindsTo s fd args (ps.zip us) → Vals vs us → sp vs H Q E →
    codeAny (model P w) A (.call (.ref f) args) (CR CX outer P w H s Q E) s
section
variable {X : Cx} {pins : List (Addr × Obj)} {σ : St} {H : Hp} {s s' : Shared}
theorem Inv.env0 (I : Inv X pins σ H s) : Env0 X.prog X.w X.K X.mg X.base X.A X.stack s H :=
  ⟨I.ok.frames, I.ok.mod, I.bs, Nat.le_trans I.ok.bsz I.sz, I.stack, I.stkFree, I.hok, I.bare⟩
theorem Inv.after {Q : VK} {u : Value} (I : Inv X pins σ H s) (h : CE X.stack X.prog X.w H s Q u s') : EP X pins σ Q u s' := by
  obtain ⟨v, H', os, bare, un, hok, r, q⟩ := h
  obtain ⟨hh, g, d, t, os'⟩ := s'
  obtain rfl : os' = s.os := os
  exact ⟨v, H', I.call (h' := hh) (g' := g) (d' := d) (t' := t) (ch := []) un hok bare (fun b z => absurd z (by simp)), r, q⟩
end
def tCall (sp : Sp) (dvs : List V) (E : XK) (t : TA) : TE := fun σ H Q => t σ H fun vs H1 => sp (vs ++ dvs) H1 Q E
def tMeth (C : Addr) (m : Str) (sp : Sp) (dvs : List V) (E : XK) (ta : TE) (t : TA) : TE := fun σ H Q => ta σ H fun x H1 => ∃ a dx fs, x = .ref a ∧ H1 a = some (.ins C dx fs) ∧ fs.lookup m = none ∧
  t σ H1 fun vs H2 => sp (x :: (vs ++ dvs)) H2 Q E
def tMake (C : Addr) (sp : Sp) (dvs : List V) (E : XK) (t : TA) : TE := fun σ H Q => t σ H fun vs H1 => ∀ x dx, H1 x = none → H1 dx = none → dx ≠ x →
  sp (.ref x :: (vs ++ dvs)) (upd (upd H1 dx (.own x)) x (.ins C dx [])) (fun v H2 => v = .non ∧ Q (.ref x) H2) E
def Binds (K : PySem.W.Frag) (fd : FuncData) (ps : List Str) (ds : List Value) : Prop :=
  ∀ (s : Shared) (us : List Value), K.In s.heap → (us ++ ds).length = ps.length → BindsTo s fd ⟨us, []⟩ (ps.zip (us ++ ds))
theorem Binds.all {K : PySem.W.Frag} {fd : FuncData} {ps : List Str} (h : ∀ us : List Value, us.length = ps.length → bindArgs fd ⟨us, []⟩ = pure (ps.zip us)) : Binds K fd ps [] := fun s us _ hl => by
  rw [List.append_nil] at hl ⊢
  exact .of_eq (h us hl)
def Passes (CX : CXT) (X : Cx) (E : XK) : Prop := ∀ (pins : List (Addr × Obj)) (σ : St) (H : Hp) (s : Shared) (e : Value) (s' : Shared), Inv X pins σ H s → CX X.stack H s E e s' → X.xe e s'
section
variable {X : Cx} {CX : CXT} {k : Nat} {f C : Addr} {fd : FuncData} {ps : List Str} {sp : Sp} {dvs : List V} {ds : List Value} {E : XK} {x m : Str} {p pos apos : Pos} {e o : Expr} {es : List Expr} {ta : TE} {t : TA}
theorem run_fn {pins : List (Addr × Obj)} {σ : St} {H : Hp} {s : Shared} {Q : VK} {us : List Value} {vs : List V} (F : FnOk X.prog X.w X.K X.mg X.base CX k f fd ps sp) (hr : Room k X.A) (hb : Binds X.K fd ps ds) (hd : Vals dvs ds) (hx : Passes CX X E)
    (I : Inv X pins σ H s) (r : Vals vs us) (h : sp (vs ++ dvs) H Q E) : wpAny (model X.prog X.w) X.A (call (.ref f) us) (EP X pins σ Q) X.xe s := by
  have r2 : Vals (vs ++ dvs) (us ++ ds) := r.append hd
  have hl : (us ++ ds).length = ps.length := by rw [← r2.length]; exact F.len _ _ _ _ h
  refine wpAny_call (codeAny_mono (F.run X.A X.stack s H ⟨us, []⟩ (us ++ ds) (vs ++ dvs) Q E hr I.env0 (hb s us I.kIn hl) r2 h) fun r s' hq => ?_)
  cases r with
  | error e => exact hx pins σ H s e s' I hq
  | ok fl =>
    cases fl with
    | ret u => exact I.after hq
    | next => exact False.elim hq
    | brk => exact False.elim hq
    | cont => exact False.elim hq
theorem pe_call (F : FnOk X.prog X.w X.K X.mg X.base CX k f fd ps sp) (hr : Room k X.A) (hg : Gl X x) (hm : X.mg x = some (.ref f)) (hk : PySem.W.keepIn X.K (.ref f) = true) (hb : Binds X.K fd ps ds) (hd : Vals dvs ds) (hx : Passes CX X E)
    (ha : PA X (e :: es) t) (hdb : (x == ("__debug__" : Str)) = false := by decide) (he : starEach (e :: es) X.env = (false, eval e X.env) :: starEach es X.env := by rfl) (hpl : (backTo pos (starEach es X.env)).any (·.1) = false := by rfl) :
    PE X (.Call (.Name x p) (e :: es) [] pos) (tCall sp dvs E t) := by
  intro pins s σ H Q I h
  refine wpAny_Call_Name_kw (ld_glob I hg hm ?_ hdb)
  refine PySem.W.callWith_K (h₀ := X.base) I.ok.mod.kin hk (thn (ha pos pins s σ H _ I h) fun us s1 ⟨vs, H1, I1, r, q⟩ => ⟨I1.kIn, ?_⟩) he hpl
  exact run_fn F hr hb hd hx I1 r q
structure Mk (K : PySem.W.Frag) (C f : Addr) : Prop where
  makes : PySem.W.makesIn K C = true
  init : PySem.W.findIn K (.ref C) "__init__" = some (some (.ref f))
  fn : PySem.W.isFn K (.ref f) = true
  kp : PySem.W.keepIn K (.ref C) = true
end
def PK (X : Cx) (kws : List Keyword) (t : TA) : Prop :=
  ∀ (pos : Pos) (pins : List (Addr × Obj)) (s : Shared) (σ : St) (H : Hp) (Q : List V → Hp → Prop), Inv X pins σ H s → t σ H Q → wpAny (model X.prog X.w) X.A (evalAll ((backToKw pos (keywordEach kws X.env)).map (·.2))) (AP X pins σ Q) X.xe s
section
variable {X : Cx} {CX : CXT} {k : Nat} {f C : Addr} {fd : FuncData} {ps ks : List Str} {sp : Sp} {E : XK} {x m : Str} {p pos apos kpos : Pos} {e o : Expr} {es : List Expr} {kws : List Keyword} {te ta : TE} {t tk : TA} {nm : Option Str}
structure KBinds (K : PySem.W.Frag) (fd : FuncData) (ps ks : List Str) (g : List Value → List Value → List Value) (gV : List V → List V → List V) : Prop where
  to : ∀ (s : Shared) (us ws : List Value), K.In s.heap → (g us ws).length = ps.length → BindsTo s fd ⟨us, ks.zip ws⟩ (ps.zip (g us ws))
  rel : ∀ {vs : List V} {us : List Value} {zs : List V} {ws : List Value}, Vals vs us → Vals zs ws → Vals (gV vs zs) (g us ws)
def tCallK (sp : Sp) (gV : List V → List V → List V) (E : XK) (t tk : TA) : TE := fun σ H Q => t σ H fun vs H1 => tk σ H1 fun zs H2 => sp (gV vs zs) H2 Q E
variable {g : List Value → List Value → List Value} {gV : List V → List V → List V}
end
structure FnScope (N P : List Str) (sc : Scope) : Prop where
  kind : sc.kind = .function
  co : sc.isCoroutine = false
  gen : sc.isGenerator = false
  nd : N.Nodup
  pre : N.take P.length = P
  par : ∀ x ∈ P, sc.names.lookup x = some .local ∨ sc.names.lookup x = some .cell
  nofree : ∀ y ∈ sc.names, y.2 ≠ .free
theorem bindL_out {kindOf : Str → Option NameKind} {x : Str} : ∀ {binds : List (Str × Value)} {m : Str → Option Value}, (∀ v, (x, v) ∉ binds) → bindL kindOf binds m x = m x
  | [], _, _ => rfl
  | (n, v) :: r, m, h => by
    unfold bindL
    rw [bindL_out fun w hw => h w (List.mem_cons_of_mem _ hw)]
    split
    · have : x ≠ n := by rintro rfl; exact h v List.mem_cons_self
      simp [this]
    · rfl
theorem bindC_out {kindOf : Str → Option NameKind} {x : Str} : ∀ {binds : List (Str × Value)} {m : Str → Option Value}, (∀ v, (x, v) ∉ binds) → bindC kindOf binds m x = m x
  | [], _, _ => rfl
  | (n, v) :: r, m, h => by
    unfold bindC
    rw [bindC_out fun w hw => h w (List.mem_cons_of_mem _ hw)]
    split
    · rfl
    · have : x ≠ n := by rintro rfl; exact h v List.mem_cons_self
      simp [this]
theorem bindL_get {kindOf : Str → Option NameKind} {x : Str} {v : Value} : ∀ {P : List Str} {vs : List Value} {i : Nat} {m : Str → Option Value}, P.Nodup → P[i]? = some x → vs[i]? = some v → kindOf x = some .local →
    bindL kindOf (P.zip vs) m x = some v
  | [], _, _, _, _, h, _, _ => by simp at h
  | _ :: _, [], _, _, _, _, h, _ => by simp at h
  | p :: P, w :: vs, 0, m, nd, h1, h2, hk => by
    simp at h1 h2; subst h1; subst h2
    show bindL kindOf ((p, w) :: P.zip vs) m p = _
    unfold bindL
    rw [bindL_out fun v hv => (List.nodup_cons.mp nd).1 (List.of_mem_zip hv).1, if_pos hk]
    simp
  | p :: P, w :: vs, i + 1, m, nd, h1, h2, hk => by
    show bindL kindOf ((p, w) :: P.zip vs) m x = _
    unfold bindL
    exact bindL_get (i := i) (List.nodup_cons.mp nd).2 (by simpa using h1) (by simpa using h2) hk
theorem bindC_get {kindOf : Str → Option NameKind} {x : Str} {v : Value} : ∀ {P : List Str} {vs : List Value} {i : Nat} {m : Str → Option Value}, P.Nodup → P[i]? = some x → vs[i]? = some v → kindOf x ≠ some .local →
    bindC kindOf (P.zip vs) m x = some v
  | [], _, _, _, _, h, _, _ => by simp at h
  | _ :: _, [], _, _, _, _, h, _ => by simp at h
  | p :: P, w :: vs, 0, m, nd, h1, h2, hk => by
    simp at h1 h2; subst h1; subst h2
    show bindC kindOf ((p, w) :: P.zip vs) m p = _
    unfold bindC
    rw [bindC_out fun v hv => (List.nodup_cons.mp nd).1 (List.of_mem_zip hv).1, if_neg hk]
    simp
  | p :: P, w :: vs, i + 1, m, nd, h1, h2, hk => by
    show bindC kindOf ((p, w) :: P.zip vs) m x = _
    unfold bindC
    exact bindC_get (i := i) (List.nodup_cons.mp nd).2 (by simpa using h1) (by simpa using h2) hk
def start (N : List Str) (vs : List V) : St := vs.map some ++ List.replicate (N.length - vs.length) none
def cxOf (CX : CXT) (P : Program) (w : World) (K : PySem.W.Frag) (mg : Str → Option Value) (base : Heap) (N : List Str) (qual : Str) (scope : Scope) (f : Addr) (cd : Value) (A : Around) (outer : List Env) (s : Shared) (H : Hp) (E : XK) : Cx where
  prog := P
  w := w
  K := K
  mg := mg
  base := base
  A := A.deeper (envOfC qual scope s.heap.objs.size f cd)
  N := N
  s₀ := s
  H₀ := H
  env := envOfC qual scope s.heap.objs.size f cd
  outer := outer
  stack := envOfC qual scope s.heap.objs.size f cd :: outer
  ex := []
  calm := true
  fn := fun _ => true
  pn := []
  xe := fun e s' => wpAny (model P w) (A.deeper (envOfC qual scope s.heap.objs.size f cd)) (leaving (envOfC qual scope s.heap.objs.size f cd) e) (fun _ s'' => CX outer H s E e s'') (fun e' s'' => CX outer H s E e' s'') s'
theorem cell_has {sc : Scope} {n : Nat} {x : Str} (h : sc.names.lookup x = some .cell) : ∃ c, (cellsFrom n sc.names []).lookup x = some c := by
  have q := PySem.W.cellsFrom_some sc.names n [] (.inl h)
  exact Option.isSome_iff_exists.mp q
theorem inv_start {CX : CXT} {P : Program} {w : World} {K : PySem.W.Frag} {mg : Str → Option Value} {base : Heap} {N ps : List Str} {qual : Str} {scope : Scope} {f : Addr} {cd : Value} {A : Around} {outer : List Env} {s s1 : Shared} {H : Hp} {E : XK} {us : List Value} {vs : List V}
    (S : FnScope N ps scope) (hd : A.handled = none) (e0 : Env0 P w K mg base A outer s H) (hl : vs.length = ps.length) (r : Vals vs us)
    (x : InCallC s s.heap.objs.size (bindL (envOfC qual scope s.heap.objs.size f cd).kindOf (ps.zip us) fun _ => none) (cellsFrom (s.heap.objs.size + 1) scope.names []) (bindC (envOfC qual scope s.heap.objs.size f cd).kindOf (ps.zip us) fun _ => none) s1) :
    Inv (cxOf CX P w K mg base N qual scope f cd A outer s H E) [] (start N vs) H s1 := by
  have hpl : ps.length ≤ N.length := by have := congrArg List.length S.pre; rw [List.length_take] at this; omega
  obtain ⟨h1, tk, rfl, hk⟩ := x.done
  have noA : ∀ b : Addr, b ∉ (cxOf CX P w K mg base N qual scope f cd A outer s H E).ex := fun b z => absurd (show b ∈ ([] : List Addr) from z) (by simp)
  refine ⟨⟨e0.mod, S.kind, rfl, rfl, Nat.le_refl _, fun y z c h1 h2 => ?_, fun y hy => ?_, fun y c _ h => ?_, fun _ => hd, Around.frames_deeper e0.frames, .inr ⟨rfl, rfl⟩, fun b z => absurd z (noA b), e0.bs, e0.bsz, fun b _ _ => noA b, fun b z => absurd z (noA b), e0.funs, e0.frf⟩,
    rfl, e0.bare, Un.kept hk, ⟨_, x.toInCall.ns, fun i y v h1 h2 h3 => ?_⟩, fun y c h => ⟨_, x.cell y c h⟩, e0.hok.fresh (Nat.le_refl _), fun y c h => ?_, fun p hp => absurd (show p ∈ ([] : List (Addr × Obj)) from hp) (by simp), e0.hok.kept hk, ?_⟩
  · exact name_of_addr x.apart (PySem.mem_of_lookup h1) (PySem.mem_of_lookup h2)
  · have hy : scope.names.lookup y = some .cell ∨ scope.names.lookup y = some .free := hy
    rcases hy with hy | hy
    · exact cell_has hy
    · exact absurd rfl (S.nofree _ (PySem.mem_of_lookup hy))
  · exact Nat.le_of_lt (x.above y c (PySem.mem_of_lookup h))
  · have hi : i < vs.length := by
      unfold start at h2
      by_cases hi : i < vs.length
      · exact hi
      · rw [List.getElem?_append_right (by simpa using hi)] at h2
        rw [List.getElem?_replicate] at h2
        split at h2 <;> cases h2
    have ha : vs[i]? = some v := by
      unfold start at h2
      rw [List.getElem?_append_left (by simpa using hi), List.getElem?_map] at h2
      cases e : vs[i]? with
      | none => rw [e] at h2; cases h2
      | some a => rw [e] at h2; cases h2; rfl
    obtain ⟨u, hu, rv⟩ := r.get ha
    have hp : ps[i]? = some y := by
      rw [← S.pre, List.getElem?_take_of_lt (by omega)]; exact h1
    have ndP : ps.Nodup := by rw [← S.pre]; exact S.nd.sublist (List.take_sublist _ _)
    refine ⟨u, rv, ?_⟩
    rcases S.par y (List.mem_of_getElem? hp) with k | k
    · exact .inl ⟨k, bindL_get ndP hp hu k⟩
    · obtain ⟨c, e⟩ := cell_has (n := s.heap.objs.size + 1) k
      refine .inr ⟨.inl k, c, e, ?_⟩
      have q := x.cell y c e
      rw [bindC_get ndP hp hu (by show scope.names.lookup y ≠ _; rw [k]; decide)] at q
      exact q
  · exact e0.hok.fresh (Nat.le_of_lt (x.above y c (PySem.mem_of_lookup h)))
  · unfold start
    show _ = N.length
    rw [List.length_append, List.length_map, List.length_replicate]
    omega
theorem fn_of {CX : CXT} {P : Program} {w : World} {K : PySem.W.Frag} {mg : Str → Option Value} {base : Heap} {k : Nat} {f : Addr} {name qual : Str} {params : Arguments} {body : List Stmt} {scope : Scope} {dV kV doc pm cdv ct oc : Value} {an od : Option Addr}
    {osl : Array (Option Value)} {N ps : List Str} {sp : Sp} (lk : K.lookup f = some ⟨oc, od, .func (PySem.W.fnOf name qual params body scope dV kV doc pm an cdv ct), osl⟩) (hcd : PySem.W.codeIn K cdv qual = true) (S : FnScope N ps scope)
    (len : ∀ vs H Q E, sp vs H Q E → vs.length = ps.length)
    (hbody : ∀ (A : Around) (outer : List Env) (s : Shared) (H : Hp) (vs : List V) (Q : VK) (E : XK), Room k (A.deeper (envOfC qual scope s.heap.objs.size f cdv)) → sp vs H Q E →
      ∃ t, PSs (cxOf CX P w K mg base N qual scope f cdv A outer s H E) body t ∧ t { nx := fun _ H' => Q .non H', rt := Q } (start N vs) H) :
    FnOk P w K mg base CX (k + 1) f (PySem.W.fnOf name qual params body scope dV kV doc pm an cdv ct) ps sp := by
  refine ⟨len, fun A outer s H args us vs Q E hr e0 hb r hsp => ?_⟩
  have hl := len _ _ _ _ hsp
  have KX : K.In s.heap := e0.mod.kin.keeps fun b o e => (e0.bs b o e).1
  have lim : s.heap.NoLimit := e0.mod.nolimit.keeps fun b o e => (e0.bs b o e).1
  have hkind : ∀ y ∈ ps.zip us, scope.names.lookup y.1 = some .local ∨ (scope.names.lookup y.1 = some .cell ∧ ((cellsFrom (s.heap.objs.size + 1) scope.names []).lookup y.1).isSome = true) := fun ⟨n, v⟩ hy => by
    rcases S.par n (List.of_mem_zip hy).1 with q | q
    · exact .inl q
    · exact .inr ⟨q, PySem.W.cellsFrom_some _ _ _ (.inl q)⟩
  refine codeAny_call_function hr.depth (KX _ _ lk) rfl S.co S.gen rfl (PySem.W.codeRec_of KX hcd) (hb _ _ _ _ ?_)
  refine wpAny_newFunctionEnv_cells S.kind hkind fun env he s1 x => ?_
  subst he
  refine ⟨lim.keeps x.toInCall.keep, codeAny_func ?_⟩
  obtain ⟨t, ht, hq⟩ := hbody A outer s H vs Q E (hr.deeper _) hsp
  have I : Inv (cxOf CX P w K mg base N qual scope f cdv A outer s H E) [] (start N vs) H s1 := inv_start S hr.hd e0 hl r x
  refine wpAny_mono (ht [] s1 (start N vs) H _ I hq) (fun fl s' hs => ?_) fun e s' hs => hs
  have fin : ∀ {σ' : St} {H' : Hp} {v : V} {u : Value}, Inv (cxOf CX P w K mg base N qual scope f cdv A outer s H E) [] σ' H' s' → RelV v u → Q v H' → CE outer P w H s Q u s' :=
    fun {σ' H' v u} J rv q => ⟨v, H', J.os, J.bare, J.base, J.hok, rv, q⟩
  cases fl with
  | ret u =>
    obtain ⟨v, σ', H', J, rv, q⟩ := hs
    exact fin J rv q
  | next =>
    obtain ⟨σ', H', J, q⟩ := hs
    exact fin (v := V.non) (u := Value.none) J rfl q
  | brk =>
    obtain ⟨_, _, _, q⟩ := hs
    exact False.elim q
  | cont =>
    obtain ⟨_, _, _, q⟩ := hs
    exact False.elim q
end L2
namespace L2
open PySem PySem.Spec PyProof.Rows
section
variable {X : Cx} {x : Str} {p pos : Pos} {e : Expr} {es : List Expr} {t : TA} {id T : String} {r : List V → Hp → VK → Prop}
def tCB (r : List V → Hp → VK → Prop) (t : TA) : TE := fun σ H Q => t σ H fun vs H1 => r vs H1 Q
theorem pe_callB (hc : CallR X (.builtin id) r) (hg : Gl X x) (hm : X.mg x = none) (hv : bootBuiltins x = some (.builtin id)) (ha : PA X (e :: es) t) (hn : x ≠ "__name__" := by decide) (hdb : (x == ("__debug__" : Str)) = false := by decide)
    (he : starEach (e :: es) X.env = (false, eval e X.env) :: starEach es X.env := by rfl) (hpl : (backTo pos (starEach es X.env)).any (·.1) = false := by rfl) : PE X (.Call (.Name x p) (e :: es) [] pos) (tCB r t) := by
  intro pins s σ H Q I h
  refine wpAny_Call_Name_kw (ld_blt I hg hm hv ?_ hn hdb)
  exact PyProof.Rows.callWith_builtin1 (thn (ha pos pins s σ H _ I h) fun us s1 ⟨vs, H1, I1, r1, q1⟩ => hc pins s1 σ H1 vs us Q I1 r1 q1) he hpl
theorem pe_callTy (hc : CallR X (.type T) r) (hg : Gl X x) (hm : X.mg x = none) (hv : bootBuiltins x = some (.type T)) (ha : PA X (e :: es) t) (hn : x ≠ "__name__" := by decide) (hdb : (x == ("__debug__" : Str)) = false := by decide)
    (he : starEach (e :: es) X.env = (false, eval e X.env) :: starEach es X.env := by rfl) (hpl : (backTo pos (starEach es X.env)).any (·.1) = false := by rfl) : PE X (.Call (.Name x p) (e :: es) [] pos) (tCB r t) := by
  intro pins s σ H Q I h
  refine wpAny_Call_Name_kw (ld_blt I hg hm hv ?_ hn hdb)
  exact PyProof.Rows.callWith_type1 (thn (ha pos pins s σ H _ I h) fun us s1 ⟨vs, H1, I1, r1, q1⟩ => hc pins s1 σ H1 vs us Q I1 r1 q1) he hpl
end
end L2
namespace HT
open PySem PyProof.Rows
def lexLt : List Int → List Int → Bool
  | [], [] => false
  | [], _ :: _ => true
  | _ :: _, [] => false
  | x :: xs, y :: ys => if x = y then lexLt xs ys else decide (x < y)
section
open PySem.SeqAt
open PySem.AutoSeq1 (wpAny_loadPart')
open PySem.MeetsSeq PySem.MeetsSeq2 PySem.MeetsSeq3
end
section
variable {prog : Program} {w : World} {A : Around} {E : Value → Shared → Prop} {s : Shared}
def sIx (n d : Nat) : Option Int → Nat
  | none => d
  | some v => if v < 0 then (v + (n : Int)).toNat else min v.toNat n
theorem sIx_none (n d : Nat) : sIx n d none = d := rfl
theorem sIx_nat (n d k : Nat) : sIx n d (some (k : Int)) = min k n := by
  show (if (k : Int) < 0 then ((k : Int) + (n : Int)).toNat else min (k : Int).toNat n) = min k n
  rw [if_neg (by omega), Int.toNat_natCast]
end
end HT
namespace L2
open PySem PySem.Spec PyProof.Rows
abbrev TO := St → Hp → (Option Int → Hp → Prop) → Prop
def PO (X : Cx) (e : Option Expr) (t : TO) : Prop :=
  ∀ (pins : List (Addr × Obj)) (s : Shared) (σ : St) (H : Hp) (Q : Option Int → Hp → Prop), Inv X pins σ H s → t σ H Q →
    wpAny (model X.prog X.w) X.A (evalPart e X.env) (fun u s' => ∃ o H', Inv X pins σ H' s' ∧ IsPart u o ∧ Q o H') X.xe s
def tNoPart : TO := fun _ H Q => Q none H
def tPart (t : TE) : TO := fun σ H Q => t σ H fun x H1 => ∃ i, x = .int i ∧ Q (some i) H1
section
variable {X : Cx} {e : Expr} {te : TE} {lo hi : Option Expr} {tl th : TO} {pos p2 : Pos}
theorem po_none : PO X none tNoPart := by
  intro pins s σ H Q I h
  rw [evalPart_none]
  exact wpAny_pure ⟨none, H, I, .none, h⟩
theorem po_some (h : PE X e te) : PO X (some e) (tPart te) := by
  intro pins s σ H Q I hw
  rw [evalPart_some]
  refine thn (h pins s σ H _ I hw) fun u s1 ⟨x, H1, I1, r1, q1⟩ => ?_
  obtain ⟨i, rfl, q⟩ := q1
  obtain ⟨t, rfl⟩ := r1
  exact ⟨some i, H1, I1, .int i t, q⟩
def SlR (X : Cx) (r : V → Option Int → Option Int → Hp → VK → Prop) : Prop :=
  ∀ (pins : List (Addr × Obj)) (s : Shared) (σ : St) (H : Hp) (x : V) (v vl vu : Value) (lo hi : Option Int) (sl : Addr) (Q : VK), Inv X pins σ H s → RelV x v → s.heap.IsSliceOf sl vl vu .none → IsPart vl lo → IsPart vu hi → r x lo hi H Q →
    ∃ T id, typeLookup (.type T) "__getitem__" = pure (some (.builtin id)) ∧ s.TypeIs v T ∧ wpAny (model X.prog X.w) X.A (getItem v (.ref sl)) (EP X pins σ Q) X.xe s
def tSl (r : V → Option Int → Option Int → Hp → VK → Prop) (te : TE) (tl th : TO) : TE := fun σ H Q => te σ H fun x H1 => tl σ H1 fun l H2 => th σ H2 fun u H3 => r x l u H3 Q
theorem pe_slice {r : V → Option Int → Option Int → Hp → VK → Prop} (hr : SlR X r) (he : PE X e te) (hl : PO X lo tl) (hu : PO X hi th) : PE X (.Subscript e (.Slice lo hi none p2) pos) (tSl r te tl th) := by
  intro pins s σ H Q I h
  refine Subscript_ (thn (he pins s σ H _ I h) fun v s1 ⟨x, H1, I1, r1, q1⟩ => ?_)
  refine wpAny_Slice (thn (hl pins s1 σ H1 _ I1 q1) fun vl s2 ⟨l, H2, I2, pl, q2⟩ => thn (hu pins s2 σ H2 _ I2 q2) fun vu s3 ⟨u, H3, I3, pu, q3⟩ => ?_)
  rw [evalPart_none]
  refine wpAny_pure ?_
  have I4 : Inv X pins σ H3 { s3 with heap := s3.heap.push { cls := .type "slice", data := .fields #[vl, vu, .none] } } := I3.kept (t' := s3.toks) fun b ob q => Heap.get?_push_of_some _ q
  obtain ⟨T, id, hT, ht, hg⟩ := hr pins { s3 with heap := s3.heap.push { cls := .type "slice", data := .fields #[vl, vu, .none] } } σ H3 x v vl vu l u s3.heap.objs.size Q I4 r1 (Heap.IsSliceOf.new ..) pl pu q3
  show wpAny (model X.prog X.w) X.A (subscriptTail e (.Slice lo hi none p2) v (.ref s3.heap.objs.size)) (EP X pins σ Q) X.xe { s3 with heap := s3.heap.push { cls := .type "slice", data := .fields #[vl, vu, .none] } }
  exact tail_any (ops := [.ref s3.heap.objs.size, v]) ht hT hg (by with_unfolding_all rfl)
def cutV (xs : List V) (lo hi : Option Int) : List V := (xs.drop (HT.sIx xs.length 0 lo)).take (HT.sIx xs.length xs.length hi - HT.sIx xs.length 0 lo)
theorem cutV_length (xs : List V) (lo hi : Option Int) : (cutV xs lo hi).length ≤ xs.length := by
  unfold cutV
  rw [List.length_take, List.length_drop]
  omega
def rSlT (K : PySem.W.Frag) : V → Option Int → Option Int → Hp → VK → Prop := fun x lo hi H Q => ∃ a xs, x = .ref a ∧ SqT K H a xs ∧
  ¬ (HT.sIx xs.length 0 lo = 0 ∧ HT.sIx xs.length xs.length hi = xs.length) ∧ ∀ p, H p = none → Q (.ref p) (upd H p (.tup (cutV xs lo hi)))
def rLtT (K : PySem.W.Frag) : R2 := fun x y H Q => ∃ a b ns ms, x = .ref a ∧ y = .ref b ∧ SqT K H a (ns.map V.int) ∧ SqT K H b (ms.map V.int) ∧ Q (.bl (HT.lexLt ns ms)) H
def rCatT (K : PySem.W.Frag) : R2 := fun x y H Q => ∃ a b xs ys, x = .ref a ∧ y = .ref b ∧ SqT K H a xs ∧ SqT K H b ys ∧ xs ≠ [] ∧ xs.length + ys.length ≤ sizeLine ∧
  (ys = [] → Q (.ref a) H) ∧ (ys ≠ [] → ∀ p, H p = none → Q (.ref p) (upd H p (.tup (xs ++ ys))))
end
end L2
namespace L2
open PySem PySem.Spec PyProof.Rows
def ixN (n : Nat) (i : Int) : Option Nat := if 0 ≤ i then (if i < n then some i.toNat else none) else if -(n : Int) ≤ i then some (i + n).toNat else none
def atI {α : Type} (xs : List α) (i : Int) : Option α := (ixN xs.length i).bind fun j => xs[j]?
theorem ixN_seq {n : Nat} {i : Int} {j : Nat} (h : ixN n i = some j) : seqIndex? i n = some j ∧ j < n ∧ -(n : Int) ≤ i ∧ i < n := by
  unfold ixN at h
  by_cases h0 : 0 ≤ i
  · rw [if_pos h0] at h
    by_cases h1 : i < n
    · rw [if_pos h1] at h
      have e : i.toNat = j := Option.some.inj h
      exact ⟨by rw [seqIndex_of h0 h1, e], by omega, by omega, h1⟩
    · rw [if_neg h1] at h; cases h
  · rw [if_neg h0] at h
    by_cases h1 : -(n : Int) ≤ i
    · rw [if_pos h1] at h
      have e : (i + n).toNat = j := Option.some.inj h
      exact ⟨by rw [seqIndex_neg (by omega) h1, e], by omega, h1, by omega⟩
    · rw [if_neg h1] at h; cases h
theorem atI_get {α : Type} {xs : List α} {i : Int} {v : α} (h : atI xs i = some v) : ∃ j, seqIndex? i xs.length = some j ∧ xs[j]? = some v ∧ j < xs.length ∧ -(xs.length : Int) ≤ i ∧ i < xs.length := by
  unfold atI at h
  cases e : ixN xs.length i with
  | none => rw [e] at h; cases h
  | some j =>
    rw [e] at h
    obtain ⟨h1, h2, h3, h4⟩ := ixN_seq e
    exact ⟨j, h1, h, h2, h3, h4⟩
theorem atI_nat {α : Type} {xs : List α} {j : Nat} {v : α} (h : xs[j]? = some v) : atI xs (j : Int) = some v := by
  have hj : j < xs.length := (List.getElem?_eq_some_iff.mp h).1
  have e : ixN xs.length (j : Int) = some j := by
    unfold ixN
    rw [if_pos (by omega), if_pos (by omega)]; simp
  unfold atI; rw [e]; exact h
theorem atI_last {α : Type} (xs : List α) (v : α) : atI (xs ++ [v]) (-1) = some v := by
  have hl : (xs ++ [v]).length = xs.length + 1 := by simp
  have e : ixN (xs ++ [v]).length (-1) = some xs.length := by
    unfold ixN
    rw [hl, if_neg (by decide), if_pos (by omega)]
    congr 1
    omega
  unfold atI
  rw [e]
  show (xs ++ [v])[xs.length]? = some v
  simp
def PlainIx (b : Expr) : Prop := ∀ o i, subscripted b false o i = operate [o, i] (getItem o i)
def IxR (X : Cx) (r : R2) : Prop :=
  ∀ (value slice : Expr) (pins : List (Addr × Obj)) (s : Shared) (σ : St) (H : Hp) (x y : V) (v u : Value) (Q : VK), Inv X pins σ H s → RelV x v → RelV y u → r x y H Q →
    subscripted slice false v u = operate [v, u] (getItem v u) → wpAny (model X.prog X.w) X.A (subscriptTail value slice v u) (EP X pins σ Q) X.xe s
def MtR (X : Cx) (id : String) (r : V → List V → Hp → VK → Prop) : Prop :=
  ∀ (pins : List (Addr × Obj)) (s : Shared) (σ : St) (H : Hp) (x : V) (xs : List V) (v : Value) (us : List Value) (Q : VK), Inv X pins σ H s → RelV x v → Vals xs us → r x xs H Q →
    wpAny (model X.prog X.w) X.A (call (.builtin id) (v :: us)) (EP X pins σ Q) X.xe s
section
variable {X : Cx} {a b : Expr} {ta tb : TE} {pos : Pos}
theorem pe_ix {r : R2} (hr : IxR X r) (ha : PE X a ta) (hb : PE X b tb) (hs : PlainIx b) : PE X (.Subscript a b pos) (tOp r ta tb) := by
  intro pins s σ H Q I h
  exact Subscript_ (binT ha hb I h fun v u s2 x y H2 I2 rx ry q => hr a b pins s2 σ H2 x y v u Q I2 rx ry q (hs _ _))
def rIxL (K : PySem.W.Frag) : R2 := fun x y H Q => ∃ p xs i v, x = .ref p ∧ y = .int i ∧ SqL K H p xs ∧ atI xs i = some v ∧ Q v H
def rIxT (K : PySem.W.Frag) : R2 := fun x y H Q => ∃ p xs i v, x = .ref p ∧ y = .int i ∧ SqT K H p xs ∧ atI xs i = some v ∧ Q v H
def rIxS : R2 := fun x y H Q => ∃ z i c, x = .str z ∧ y = .int i ∧ z.length ≤ sizeLine ∧ atI z.cps.toList i = some c ∧ Q (.str ⟨#[c]⟩) H
theorem ix_list : IxR X (rIxL X.K) := by
  intro value slice pins s σ H x y v u Q I rx ry h hs
  obtain ⟨p, xs, i, z, rfl, rfl, hq, he, q⟩ := h
  cases rx
  obtain ⟨t, rfl⟩ := ry
  obtain ⟨its, r, pl, hz⟩ := I.list hq
  obtain ⟨j, h1, h2, h3, h4, h5⟩ := atI_get he
  obtain ⟨w, ew, rw'⟩ := r.get h2
  have hl := r.length
  have hn := line63
  have fin : EP X pins σ Q w s := ⟨z, H, I, rw', q⟩
  by_cases h0 : 0 ≤ i
  · have hj : i.toNat = j := by
      rw [seqIndex_of h0 h5] at h1
      exact Option.some.inj h1
    exact item_listR pl.isList h0 (by omega) (by rw [hj]; simpa using ew) fin hs
  · have hj : (i + (its.toArray.size : Int)).toNat = j := by
      rw [seqIndex_neg (by omega) h4] at h1
      rw [List.size_toArray, ← hl]
      exact Option.some.inj h1
    exact subscriptTail_builtinR (x := w) pl.isList.typeIs slot_list_getitem.lookup
      (wpAny_getItem_list_neg (Q := fun r s' => r = w ∧ EP X pins σ Q r s') pl.isList (by omega) (by rw [List.size_toArray] <;> omega) (by omega) (by rw [hj]; simpa using ew) ⟨rfl, fin⟩) hs
theorem ix_tup : IxR X (rIxT X.K) := by
  intro value slice pins s σ H x y v u Q I rx ry h hs
  obtain ⟨p, xs, i, z, rfl, rfl, hq, he, q⟩ := h
  cases rx
  obtain ⟨t, rfl⟩ := ry
  obtain ⟨its, r, pl, hz⟩ := I.tuple hq
  obtain ⟨j, h1, h2, h3, h4, h5⟩ := atI_get he
  obtain ⟨w, ew, rw'⟩ := r.get h2
  have hl := r.length
  have hn := line63
  have fin : EP X pins σ Q w s := ⟨z, H, I, rw', q⟩
  exact subscriptTail_builtinR (x := w) pl.typeIs slot_tuple_getitem.lookup
    (getItem_tuple (j := j) (Q := fun r s' => r = w ∧ EP X pins σ Q r s') pl (by omega) (by omega) (by rw [List.size_toArray, ← hl]; exact h1) (by simpa using ew) ⟨rfl, fin⟩) hs
theorem ix_str : IxR X rIxS := by
  intro value slice pins s σ H x y v u Q I rx ry h hs
  obtain ⟨z, i, c, rfl, rfl, hz, he, q⟩ := h
  obtain ⟨t, rfl⟩ := rx
  obtain ⟨t', rfl⟩ := ry
  obtain ⟨j, h1, h2, h3, h4, h5⟩ := atI_get he
  have hl : z.cps.toList.length = z.length := by simp [Str.length]
  rw [hl] at h1 h4 h5
  have hn := line63
  exact tail_any (typeIs_str s z t) slot_str_getitem.lookup (getItem_str (c := c) (by
    have e1 : decide (i < -(2 ^ 63 : Int)) = false := decide_eq_false (by omega)
    have e2 : decide (i ≥ 2 ^ 63) = false := decide_eq_false (by omega)
    rw [e1, e2, Bool.or_false]) (by rw [h1]; simpa using h2) ⟨.str ⟨#[c]⟩, H, I.tok _, ⟨_, rfl⟩, q⟩) hs
def rIx (K : PySem.W.Frag) : R2 := fun x y H Q => rIxL K x y H Q ∨ rIxT K x y H Q ∨ rIxS x y H Q
theorem mapSeq_set (its : List Value) (n j : Nat) (u : Value) : Obj.mapSeq (·.setIfInBounds j u) { cls := .type "list", data := .seq its.toArray n } = { cls := .type "list", data := .seq (its.set j u).toArray n } := by
  simp [Obj.mapSeq]
theorem Inv.lst {pins : List (Addr × Obj)} {σ : St} {H : Hp} {s : Shared} {p : Addr} {xs : List V} (I : Inv X pins σ H s) (h : H p = some (.lst xs)) :
    ∃ (its : List Value) (n : Nat), Vals xs its ∧ s.heap.get? p = some { cls := .type "list", data := .seq its.toArray n } ∧ xs.length ≤ sizeLine := by
  obtain ⟨z, its, n, r, e⟩ := I.hok p _ h
  exact ⟨its, n, r, e, z⟩
theorem Inv.lstUpd {pins : List (Addr × Obj)} {σ : St} {H : Hp} {s : Shared} {p : Addr} {xs ys : List V} {its its' : List Value} {n n' : Nat} {f : Obj → Obj} (I : Inv X pins σ H s) (h : H p = some (.lst xs))
    (ho : s.heap.get? p = some { cls := .type "list", data := .seq its.toArray n }) (hf : f { cls := .type "list", data := .seq its.toArray n } = { cls := .type "list", data := .seq its'.toArray n' }) (r : Vals ys its') (hz : ys.length ≤ sizeLine) (t : Nat) :
    Inv X pins σ (upd H p (.lst ys)) { s with heap := s.heap.update p f, toks := t } := by
  have e : (s.heap.update p f).get? p = some { cls := .type "list", data := .seq its'.toArray n' } := by
    rw [Heap.get?_update_self f ho (by rw [hf] <;> rfl), hf]
  refine I.write (x := p) (e := p) (by rw [h]; trivial) (.inl rfl) (fun b u hb q => (Heap.get?_update_other _ _ (Ne.symm hb)).trans q) ⟨_, e⟩ ?_
  exact ⟨hz, its', n', r, e⟩
def rSetL : V → V → V → Hp → (Hp → Prop) → Prop := fun o i v H Q => ∃ p xs k j, o = .ref p ∧ i = .int k ∧ H p = some (.lst xs) ∧ ixN xs.length k = some j ∧ Q (upd H p (.lst (xs.set j v)))
theorem set_list : PSet X rSetL := by
  intro pins s σ H o i v ov iv u Q I ro ri rv h
  obtain ⟨p, xs, k, j, rfl, rfl, hp, hj, q⟩ := h
  cases ro
  obtain ⟨t, rfl⟩ := ri
  obtain ⟨its, n, r, ho, hz⟩ := I.lst hp
  obtain ⟨h1, h2, h3, h4⟩ := ixN_seq hj
  have hl := r.length
  have hn := line63
  have I' : Inv X pins σ (upd H p (.lst (xs.set j v))) { s with heap := s.heap.update p (Obj.mapSeq (·.setIfInBounds j u)) } :=
    I.lstUpd hp ho (mapSeq_set its n j u) (r.set rv j) (by rw [List.length_set]; exact hz) s.toks
  by_cases h0 : 0 ≤ k
  · have hk : k.toNat = j := by
      rw [seqIndex_of h0 h4] at h1
      exact Option.some.inj h1
    exact PySem.W.ki_setAt ho h0 (by omega) (by rw [List.size_toArray, ← hl]; exact h4) (by rw [hk]; exact ⟨_, I', q⟩)
  · have hk : (k + (its.toArray.size : Int)).toNat = j := by
      rw [seqIndex_neg (by omega) h3] at h1
      rw [List.size_toArray, ← hl]
      exact Option.some.inj h1
    exact PySem.W.ki_setBack ho (by omega) (by rw [List.size_toArray, ← hl]; exact h3) (by omega) (by rw [hk]; exact ⟨_, I', q⟩)
theorem slice_bounds (lo hi : Option Int) (n : Nat) : (sliceBounds lo hi none n).1 = ((HT.sIx n 0 lo : Nat) : Int) ∧ (sliceBounds lo hi none n).2.1 = ((HT.sIx n n hi : Nat) : Int) ∧ (sliceBounds lo hi none n).2.2 = 1 := by
  refine ⟨?_, ?_, rfl⟩
  · cases lo with
    | none => simp [sliceBounds, HT.sIx]
    | some i =>
      simp only [sliceBounds, HT.sIx, Option.getD_none, show (1 : Int) > 0 by decide, if_true]
      by_cases h : i < 0
      · simp only [h, if_true] <;> omega
      · simp only [h, if_false] <;> omega
  · cases hi with
    | none => simp [sliceBounds, HT.sIx]
    | some i =>
      simp only [sliceBounds, HT.sIx, Option.getD_none, show (1 : Int) > 0 by decide, if_true]
      by_cases h : i < 0
      · simp only [h, if_true] <;> omega
      · simp only [h, if_false] <;> omega
theorem slicePick_cut (its : List Value) (lo hi : Option Int) : slicePick its.toArray lo hi none = ((its.drop (HT.sIx its.length 0 lo)).take (HT.sIx its.length its.length hi - HT.sIx its.length 0 lo)).toArray := by
  obtain ⟨h1, h2, h3⟩ := slice_bounds lo hi its.toArray.size
  unfold slicePick
  rw [h1, h2, h3]
  simp only [sliceRange_one, pick_run, List.size_toArray] <;> rfl
def rSlL (K : PySem.W.Frag) : V → Option Int → Option Int → Hp → VK → Prop := fun x lo hi H Q => ∃ a xs, x = .ref a ∧ SqL K H a xs ∧ ∀ p, H p = none → Q (.ref p) (upd H p (.lst (cutV xs lo hi)))
theorem sl_list : SlR X (rSlL X.K) := by
  intro pins s σ H x v vl vu lo hi sl Q I rx hs pl pu h
  obtain ⟨a, xs, rfl, hx, q⟩ := h
  cases rx
  obtain ⟨its, r, ht, hz⟩ := I.list hx
  have hlen := r.length
  refine ⟨"list", _, slot_list_getitem.lookup, ht.isList.typeIs, ?_⟩
  refine wpAny_getItem_list_slice ht.isList hs pl pu .none (by simp) ?_ (by rw [List.size_toArray] <;> omega)
  rw [slicePick_cut, ← hlen]
  refine ⟨.ref s.heap.objs.size, _, I.laid (t' := s.toks) (o := .lst (cutV xs lo hi)) (fun b ob q => Heap.get?_push_of_some _ q) (Nat.le_refl _) ?_, rfl, q _ (I.hok.fresh (Nat.le_refl _))⟩
  exact ⟨Nat.le_trans (cutV_length xs lo hi) hz, _, 0, (r.drop (HT.sIx xs.length 0 lo)).take (HT.sIx xs.length xs.length hi - HT.sIx xs.length 0 lo), Heap.get?_push_size _ rfl⟩
def flatV : V → Bool
  | .non => true
  | .bl _ => true
  | .int _ => true
  | .str _ => true
  | _ => false
def eqV : V → V → Bool
  | .non, .non => true
  | .bl a, .bl b => a == b
  | .bl a, .int b => (if a then 1 else 0) == b
  | .int a, .bl b => a == (if b then 1 else 0)
  | .int a, .int b => a == b
  | .str a, .str b => a == b
  | _, _ => false
def eqU (x : V) (u : Value) : Bool := match u with
  | .none => eqV .non x
  | .bool b => eqV (.bl b) x
  | .int i _ => eqV (.int i) x
  | .str z _ => eqV (.str z) x
  | _ => false
def inV (x : V) (xs : List V) : Bool := xs.any fun y => eqV y x
def rIn (K : PySem.W.Frag) (neg : Bool) : R2 := fun x y H Q => ∃ p xs, y = .ref p ∧ (SqL K H p xs ∨ SqT K H p xs) ∧ flatV x = true ∧ xs.all flatV = true ∧ Q (.bl (if neg then !inV x xs else inV x xs)) H
theorem call_len_seq : CallR X (.builtin "len") (fun xs H Q => ∃ p ys, xs = [.ref p] ∧ (SqL X.K H p ys ∨ SqT X.K H p ys) ∧ Q (.int ys.length) H) := by
  intro pins s σ H xs us Q I r h
  obtain ⟨p, ys, rfl, hq, q⟩ := h
  obtain ⟨u, rfl, rx⟩ := vals1 r
  cases rx
  have hn := line63
  rcases hq with hq | hq
  · obtain ⟨its, r', pl, hz⟩ := I.list hq
    have hlen := r'.length
    exact Calls.call_len_list pl.isList (by simp only [List.size_toArray] <;> omega) ⟨.int ys.length, H, I.tok _, ⟨s.toks + 1, by rw [List.size_toArray, hlen]⟩, q⟩
  · obtain ⟨its, r', pl, hz⟩ := I.tuple hq
    have hlen := r'.length
    exact len_tuple pl (by simp only [List.size_toArray] <;> omega) ⟨.int ys.length, H, I.tok _, ⟨s.toks + 1, by rw [List.size_toArray, hlen]⟩, q⟩
theorem call_list_of : CallR X (.type "list") (fun xs H Q => ∃ p ys, xs = [.ref p] ∧ (SqL X.K H p ys ∨ SqT X.K H p ys) ∧ ∀ l, H l = none → Q (.ref l) (upd H l (.lst ys))) := by
  intro pins s σ H xs us Q I r h
  obtain ⟨p, ys, rfl, hq, q⟩ := h
  obtain ⟨u, rfl, rx⟩ := vals1 r
  cases rx
  have fin : ∀ (its : List Value), Vals ys its → ys.length ≤ sizeLine → ∀ (h' : Heap) (c' : Nat), (∀ b o', s.heap.get? b = some o' → h'.get? b = some o') →
      h'.get? s.heap.objs.size = some { cls := .type "list", dict := none, data := .seq its.toArray c', slots := #[] } → EP X pins σ Q (.ref s.heap.objs.size) { s with heap := h' } := fun its r' hz h' c' kp e =>
    ⟨.ref s.heap.objs.size, _, I.laid (t' := s.toks) kp (Nat.le_refl _) (show ObjOk X.prog X.w _ h' _ (.lst ys) from ⟨hz, its, c', r', e⟩), rfl, q _ (I.hok.fresh (Nat.le_refl _))⟩
  rcases hq with hq | hq
  · obtain ⟨its, r', pl, hz⟩ := I.list hq
    have hlen := r'.length
    obtain ⟨o, ho, hc, n, hd⟩ := pl.isList
    exact call_list_seq p (.inl rfl) ho hc hd (fun h' c' kp e => fin its r' hz h' c' kp e) (by simp only [List.size_toArray] <;> omega)
  · obtain ⟨its, r', pl, hz⟩ := I.tuple hq
    have hlen := r'.length
    obtain ⟨o, ho, hc, n, hd⟩ := pl
    exact call_list_seq p (.inr rfl) ho hc hd (fun h' c' kp e => fin its r' hz h' c' kp e) (by simp only [List.size_toArray] <;> omega)
theorem call_tuple_of : CallR X (.type "tuple") (fun xs H Q => ∃ p ys, xs = [.ref p] ∧ ((SqL X.K H p ys ∧ ∀ l, H l = none → Q (.ref l) (upd H l (.tup ys))) ∨ (SqT X.K H p ys ∧ Q (.ref p) H))) := by
  intro pins s σ H xs us Q I r h
  obtain ⟨p, ys, rfl, h⟩ := h
  obtain ⟨u, rfl, rx⟩ := vals1 r
  cases rx
  rcases h with ⟨hq, q⟩ | ⟨hq, q⟩
  · obtain ⟨its, r', pl, hz⟩ := I.list hq
    have hlen := r'.length
    refine call_tuple_list pl.isList (fun h' kp => ?_) (by simp only [List.size_toArray] <;> omega)
    have I1 : Inv X pins σ H { s with heap := h' } := I.kept (t' := s.toks) kp
    have I2 : Inv X pins σ (upd H h'.objs.size (.tup ys)) { s with heap := h'.push { cls := .type "tuple", data := .seq its.toArray } } :=
      I1.laid (t' := s.toks) (fun b o e => Heap.get?_push_of_some _ e) (Nat.le_refl _) (show ObjOk X.prog X.w _ _ _ (.tup ys) from ⟨hz, its, r', IsTup.new _ _⟩)
    exact ⟨.ref h'.objs.size, _, I2, rfl, q _ (I1.hok.fresh (Nat.le_refl _))⟩
  · obtain ⟨its, r', pl, hz⟩ := I.tuple hq
    exact call_tuple_same pl ⟨.ref p, H, I, rfl, q⟩
def tyV (K : PySem.W.Frag) (T : String) (x : V) (H : Hp) : Prop := match x with
  | .str _ => T = "str"
  | .int _ => T = "int"
  | .ref p => (T = "list" ∧ ∃ xs, SqL K H p xs) ∨ (T = "tuple" ∧ ∃ o, K.lookup p = some o ∧ o.cls = .type "tuple" ∧ o.dict = none) ∨
      (T = "dict" ∧ ((∃ kvs, H p = some (.dK kvs)) ∨ ∃ kvs, H p = some (.dT kvs))) ∨ (T = "set" ∧ ∃ S n, H p = some (.set S n))
  | _ => False
theorem tyV_is {pins : List (Addr × Obj)} {σ : St} {H : Hp} {s : Shared} {T : String} {x : V} {v : Value} (I : Inv X pins σ H s) (r : RelV x v) (ty : tyV X.K T x H) :
    s.TypeIs v T ∧ ∀ a, v = .ref a → ∃ ob, s.heap.get? a = some ob ∧ ob.dict = none := by
  cases x with
  | str z =>
    obtain ⟨t, rfl⟩ := r
    cases (show T = "str" from ty)
    exact ⟨typeIs_str s z t, fun _ e => nomatch e⟩
  | int i =>
    obtain ⟨t, rfl⟩ := r
    cases (show T = "int" from ty)
    exact ⟨typeIs_int s i t, fun _ e => nomatch e⟩
  | ref p =>
    cases r
    rcases ty with ⟨rfl, xs, hq⟩ | ⟨rfl, o, hk, hc, hd⟩ | ⟨rfl, hk⟩ | ⟨rfl, S, n, hk⟩
    · obtain ⟨its, _, pl, _⟩ := I.list hq
      refine ⟨pl.isList.typeIs, fun a e => ?_⟩
      cases e
      obtain ⟨o, n, e, c, hd, _⟩ := pl
      exact ⟨o, e, hd⟩
    · refine ⟨⟨o, I.kIn p o hk, hc⟩, fun a e => ?_⟩
      cases e
      exact ⟨o, I.kIn _ o hk, hd⟩
    · have z : ∃ o, s.heap.get? p = some o ∧ o.ExactDict := by
        rcases hk with ⟨kvs, hk⟩ | ⟨kvs, hk⟩
        · obtain ⟨_, _, _, _, o, _, _, e, ex, _⟩ := I.hok p _ hk
          exact ⟨o, e, ex⟩
        · obtain ⟨_, _, _, _, o, _, _, e, ex, _⟩ := I.hok p _ hk
          exact ⟨o, e, ex⟩
      obtain ⟨o, e, ex⟩ := z
      refine ⟨⟨o, e, ex.1⟩, fun a e2 => ?_⟩
      cases e2
      exact ⟨o, e, ex.2.1⟩
    · obtain ⟨o, _, _, _, e, ex, _⟩ := I.hok p _ hk
      refine ⟨⟨o, e, ex.1⟩, fun a e2 => ?_⟩
      cases e2
      exact ⟨o, e, ex.2.1⟩
  | _ => exact False.elim ty
def tBM0 (K : PySem.W.Frag) (T : String) (r : V → List V → Hp → VK → Prop) (to : TE) : TE := fun σ H Q => to σ H fun x H1 => tyV K T x H1 ∧ r x [] H1 Q
def tBM (K : PySem.W.Frag) (T : String) (r : V → List V → Hp → VK → Prop) (to : TE) (t : TA) : TE := fun σ H Q => to σ H fun x H1 => tyV K T x H1 ∧ t σ H1 fun xs H2 => r x xs H2 Q
variable {o e : Expr} {es : List Expr} {to : TE} {t : TA} {name : Str} {apos cpos : Pos} {T id : String} {r : V → List V → Hp → VK → Prop}
theorem pe_bm0 (pa : PlainAttrs T) (slot : Slot T name id) (hty : typeOf (.builtin id) = pure (.type "method_descriptor")) (hm : MtR X id r) (ho : PE X o to)
    (hbase : attributeBase o name X.env (eval o X.env) = eval o X.env := by rfl) (hline : (apos.endLine == cpos.line) = true := by rfl) : PE X (.Call (.Attribute o name apos) [] [] cpos) (tBM0 X.K T r to) := by
  intro pins s σ H Q I h
  refine wpAny_Call_method0_late hbase hline (thn (ho pins s σ H _ I h) fun v s1 ⟨x, H1, I1, r1, ty, q1⟩ => ?_)
  obtain ⟨h1, h2⟩ := tyV_is I1 r1 ty
  exact ⟨T, id, pa, slot, hty, h1, h2, Calls.callWith_builtin rfl (PySem.evalArgs_none (hm pins s1 σ H1 x [] v [] Q I1 r1 .nil q1))⟩
theorem pe_bm (pa : PlainAttrs T) (slot : Slot T name id) (hty : typeOf (.builtin id) = pure (.type "method_descriptor")) (hm : MtR X id r) (ho : PE X o to) (ha : PA X (e :: es) t)
    (hbase : attributeBase o name X.env (eval o X.env) = eval o X.env := by rfl)
    (hfew : ((backTo cpos (starEach (e :: es) X.env)).all (fun x => !x.1) && (backToKw cpos (keywordEach [] X.env)).all (fun x => x.1.isSome)
      && decide ((e :: es).length + ([] : List Keyword).length + (if ([] : List Keyword).isEmpty then 0 else 1) < 30)) = true := by rfl)
    (hline : (apos.endLine == cpos.line) = true := by rfl) (hs : starEach (e :: es) X.env = (false, eval e X.env) :: starEach es X.env := by rfl) (hplain : (backTo cpos (starEach es X.env)).any (·.1) = false := by rfl) :
    PE X (.Call (.Attribute o name apos) (e :: es) [] cpos) (tBM X.K T r to t) := by
  intro pins s σ H Q I h
  refine wpAny_Call_method_late hbase hfew hline rfl (thn (ho pins s σ H _ I h) fun v s1 ⟨x, H1, I1, r1, ty, q1⟩ => ?_)
  obtain ⟨h1, h2⟩ := tyV_is I1 r1 ty
  refine ⟨T, id, pa, slot, hty, h1, h2, ?_⟩
  have hA := ha cpos pins s1 σ H1 _ I1 q1
  rw [hs] at hA ⊢
  refine Calls.callWith_builtin (by show (false || (backTo cpos (starEach es X.env)).any (·.1)) = false; rw [hplain] <;> rfl) (Calls.evalArgs_plain ?_)
  exact thn hA fun us s2 ⟨vs, H2, I2, r2, q2⟩ => hm pins s2 σ H2 x vs v us Q I2 r1 r2 q2
end
end L2
namespace L2
open PySem PySem.Spec PyProof.Rows
def MtM (X : Cx) (id : String) (r : V → List V → Hp → VK → Prop) : Prop :=
  ∀ (pins : List (Addr × Obj)) (s : Shared) (σ : St) (H : Hp) (x : V) (xs : List V) (v : Value) (us : List Value) (Q : VK), Inv X pins σ H s → RelV x v → Vals xs us → r x xs H Q →
    wpAny (model X.prog X.w) X.A (call (.builtin id) (v :: us)) (EP X pins σ Q) X.xe s
theorem Vals.one : ∀ {x : V} {us : List Value}, Vals [x] us → ∃ u, us = [u] ∧ RelV x u
  | _, _, .cons r .nil => ⟨_, rfl, r⟩
theorem Vals.zero : ∀ {us : List Value}, Vals [] us → us = []
  | _, .nil => rfl
theorem Vals.dropLast {xs : List V} {us : List Value} (h : Vals xs us) : Vals xs.dropLast us.dropLast := by
  induction h with
  | nil => exact .nil
  | cons r t ih =>
    cases t with
    | nil => exact .nil
    | cons q t' => exact .cons r ih
theorem erase_last {α : Type} (l : List α) : l.eraseIdx (l.length - 1) = l.dropLast := by
  induction l with
  | nil => rfl
  | cons a r ih =>
    cases r with
    | nil => rfl
    | cons b r =>
      have e : (a :: b :: r).length - 1 = ((b :: r).length - 1) + 1 := by
        have h1 : (a :: b :: r).length = r.length + 2 := rfl
        have h2 : (b :: r).length = r.length + 1 := rfl
        omega
      rw [e, List.eraseIdx_cons_succ, ih]
      all_goals rfl
section
variable {X : Cx} {pins : List (Addr × Obj)} {σ : St} {H : Hp} {s : Shared} {l b : Addr} {xs ys zs : List V}
theorem Inv.lset {its its' : List Value} {n : Nat} {f : Array Value → Array Value} {t' : Nat} (I : Inv X pins σ H s) (hH : H l = some (.lst xs))
    (e : s.heap.get? l = some { cls := .type "list", data := .seq its.toArray n }) (hf : f its.toArray = its'.toArray) (hv : Vals ys its') (hz : ys.length ≤ sizeLine) :
    Inv X pins σ (upd H l (.lst ys)) { s with heap := s.heap.update l (Obj.mapSeq f), toks := t' } := by
  have q := PySem.IsL.update e f
  rw [hf] at q
  refine I.write (x := l) (e := l) (by rw [hH]; exact trivial) (.inl rfl) (fun b' u hb hu => (Heap.get?_update_other s.heap (Obj.mapSeq f) (Ne.symm hb)).trans hu) ⟨_, q⟩ ?_
  exact ⟨hz, its', _, hv, q⟩
theorem Inv.lnew {its : List Value} {t' : Nat} (I : Inv X pins σ H s) (hv : Vals ys its) (hz : ys.length ≤ sizeLine) :
    Inv X pins σ (upd H s.heap.objs.size (.lst ys)) { s with heap := s.heap.push { cls := .type "list", data := .seq its.toArray }, toks := t' } :=
  I.laid (fun _ _ q => Heap.get?_push_of_some _ q) (Nat.le_refl _) ⟨hz, its, 0, hv, Heap.get?_push_size _ rfl⟩
theorem Inv.fresh (I : Inv X pins σ H s) : H s.heap.objs.size = none := I.hok.fresh (Nat.le_refl _)
theorem Inv.lstM (I : Inv X pins σ H s) (hH : H l = some (.lst xs)) : xs.length ≤ sizeLine ∧ ∃ (its : List Value) (n : Nat), Vals xs its ∧ xs.length = its.length ∧ s.heap.get? l = some { cls := .type "list", data := .seq its.toArray n } := by
  obtain ⟨z, its, n, r, e⟩ := I.hok l _ hH
  exact ⟨z, its, n, r, r.length, e⟩
theorem notLongL {n : Nat} (h : n ≤ sizeLine) : Builtin.List.listTooLong n = false := by
  unfold Builtin.List.listTooLong
  exact decide_eq_false (by omega)
end
section
variable {X : Cx}
def rAppend : V → List V → Hp → VK → Prop := fun x vs H Q => ∃ l xs y, x = .ref l ∧ vs = [y] ∧ H l = some (.lst xs) ∧ xs.length < sizeLine ∧ Q .non (upd H l (.lst (xs ++ [y])))
theorem mt_append : MtM X "list.append" rAppend := by
  intro pins s σ H x vs v us Q I rx rv h
  obtain ⟨l, xs, y, rfl, rfl, hH, hz, q⟩ := h
  cases rx
  obtain ⟨u, rfl, ru⟩ := rv.one
  obtain ⟨z, its, n, r, hl, e⟩ := I.lstM hH
  refine call_meets F.slot_list_append ⟨_, e, rfl⟩ F.entry_list_append (F.args_list_append_2 _ _) (PySem.list_append l its.toArray n u (by rw [List.size_toArray]; omega)) ⟨e, ?_⟩
  refine ⟨.non, _, I.lset (its' := its ++ [u]) hH e (by simp) (r.append (.cons ru .nil)) ?_, rfl, q⟩
  rw [List.length_append, List.length_singleton]
  omega
def rExtend : V → List V → Hp → VK → Prop := fun x vs H Q => ∃ l b xs zs, x = .ref l ∧ vs = [.ref b] ∧ H l = some (.lst xs) ∧ H b = some (.lst zs) ∧ xs.length + zs.length ≤ sizeLine ∧ Q .non (upd H l (.lst (xs ++ zs)))
theorem mt_extend : MtM X "list.extend" rExtend := by
  intro pins s σ H x vs v us Q I rx rv h
  obtain ⟨l, b, xs, zs, rfl, rfl, hH, hB, hz, q⟩ := h
  cases rx
  obtain ⟨u, rfl, ru⟩ := rv.one
  cases ru
  obtain ⟨z, its, n, r, hl, e⟩ := I.lstM hH
  obtain ⟨z2, its2, n2, r2, hl2, e2⟩ := I.lstM hB
  have hsz : its.toArray.size + its2.toArray.size ≤ sizeLine := by rw [List.size_toArray, List.size_toArray]; omega
  have hlong : ¬ (!its.toArray.isEmpty && Builtin.List.listTooLong (its.toArray.size + its2.toArray.size)) = true := by
    rw [notLongL hsz, Bool.and_false]
    exact Bool.false_ne_true
  refine call_meets F.slot_list_extend ⟨_, e, rfl⟩ F.entry_list_extend (F.args_list_extend_2 _ _)
    (AutoSeq1.list_extend_list_list_0 l its.toArray n b its2.toArray n2 hlong (by rw [List.size_toArray]; omega) (by omega)) ⟨e, e2, ?_⟩
  refine ⟨.non, _, I.lset (its' := its ++ its2) hH e (by simp) (r.append r2) ?_, rfl, q⟩
  rw [List.length_append]
  omega
def rPop : V → List V → Hp → VK → Prop := fun x vs H Q => ∃ l xs y, x = .ref l ∧ vs = [] ∧ H l = some (.lst xs) ∧ xs[xs.length - 1]? = some y ∧ Q y (upd H l (.lst xs.dropLast))
theorem mt_pop : MtM X "list.pop" rPop := by
  intro pins s σ H x vs v us Q I rx rv h
  obtain ⟨l, xs, y, rfl, rfl, hH, hy, q⟩ := h
  cases rx
  have hus := rv.zero
  subst hus
  obtain ⟨z, its, n, r, hl, e⟩ := I.lstM hH
  obtain ⟨u, hu, ru⟩ := r.get hy
  have hy' : its.toArray[its.toArray.size - 1]? = some u := by
    show its.toArray[its.length - 1]? = some u
    rw [← Array.getElem?_toList, ← hl]
    exact hu
  refine call_meets F.slot_list_pop ⟨_, e, rfl⟩ F.entry_list_pop (F.args_list_pop_1 _) (MeetsSeq.list_pop_last l its.toArray n u hy' (by rw [List.size_toArray]; omega)) ⟨e, ?_⟩
  refine ⟨y, _, I.lset (its' := its.dropLast) hH e ?_ r.dropLast ?_, ru, q⟩
  · show its.toArray.eraseIdxIfInBounds (its.toArray.size - 1) = its.dropLast.toArray
    rw [List.size_toArray, List.eraseIdxIfInBounds_toArray, erase_last]
  · rw [List.length_dropLast]
    omega
def rPopAt : V → List V → Hp → VK → Prop := fun x vs H Q => ∃ l xs i k y, x = .ref l ∧ vs = [.int i] ∧ H l = some (.lst xs) ∧ -(2 ^ 63) ≤ i ∧ i < 2 ^ 63 ∧ seqIndex? i xs.length = some k ∧ xs[k]? = some y ∧ Q y (upd H l (.lst (xs.eraseIdx k)))
def rReverse : V → List V → Hp → VK → Prop := fun x vs H Q => ∃ l xs, x = .ref l ∧ vs = [] ∧ H l = some (.lst xs) ∧ Q .non (upd H l (.lst xs.reverse))
def rClear : V → List V → Hp → VK → Prop := fun x vs H Q => ∃ l xs, x = .ref l ∧ vs = [] ∧ H l = some (.lst xs) ∧ Q .non (upd H l (.lst []))
def rCat : R2 := fun x y H Q => ∃ l b xs zs, x = .ref l ∧ y = .ref b ∧ H l = some (.lst xs) ∧ H b = some (.lst zs) ∧ xs.length + zs.length ≤ sizeLine ∧ ∀ p, H p = none → Q (.ref p) (upd H p (.lst (xs ++ zs)))
theorem op_cat : OpR X (binaryOp .Add) rCat := by
  intro pins s σ H x y v u Q I rx ry h
  obtain ⟨l, b, xs, zs, rfl, rfl, hH, hB, hz, q⟩ := h
  cases rx
  cases ry
  obtain ⟨z, its, n, r, hl, e⟩ := I.lstM hH
  obtain ⟨z2, its2, n2, r2, hl2, e2⟩ := I.lstM hB
  refine PySem.P.add_list e e2 ?_ (by rw [List.size_toArray, List.size_toArray]; omega)
  have ea : its.toArray ++ its2.toArray = (its ++ its2).toArray := by simp
  rw [ea]
  exact ⟨.ref _, _, I.lnew (t' := s.toks) (r.append r2) (by rw [List.length_append]; omega), rfl, q _ I.fresh⟩
def rRep : R2 := fun x y H Q => ∃ l k xs, x = .ref l ∧ y = .int k ∧ H l = some (.lst xs) ∧ -(2 ^ 63) ≤ k ∧ k < 2 ^ 63 ∧ xs.length * k.toNat ≤ sizeLine ∧
  ∀ p, H p = none → Q (.ref p) (upd H p (.lst (List.replicate k.toNat xs).flatten))
end
section
variable {prog : Program} {w : World} {A : Around} {E : Value → Shared → Prop} {s : Shared}
end
section
variable {X : Cx}
end
end L2
namespace Att
open PySem PySem.W PySem.Calls PyProof.Rows
theorem ints_of_wellAll {P : Params} {h : Heap} : ∀ (ns : List Int) (vs : List Value), WellAll P h vs (ns.map WData.int) → IntsAre vs ns := by
  intro ns
  induction ns with
  | nil =>
    intro vs w
    rw [List.map_nil] at w
    cases w
    exact .nil
  | cons n ns ih =>
    intro vs w
    rw [List.map_cons] at w
    cases w with
    | cons a b =>
      cases a
      exact .cons _ _ (ih _ b)
theorem script_of {l : OpenLaw} {n : Nat} (hn : l.most = some n) {P : Params} {h : Heap} {args : List WData} {vals : List Value}
    (hpre : l.row.toRowW.claim.pre args = true) (hwl : WellAll P h vals args) :
    ∃ a vs ns, vals = [Value.ref a] ∧ args = [WData.list (ns.map WData.int)] ∧ h.get? a = some { cls := .type "list", data := .seq vs.toArray } ∧ IntsAre vs ns ∧ ns.length ≤ n := by
  have hsh : WShape.hasAll [] args [.list .int] = true := (pre_splitW hpre).1
  have hc : l.pre.holds [] { args := args } = true := (pre_splitW hpre).2
  obtain ⟨d, r, rfl, h1, h2⟩ := hasAllW_cons hsh
  obtain rfl := hasAllW_nil h2
  obtain ⟨xs, rfl, h3⟩ := hasW_list h1
  obtain ⟨ns, rfl⟩ := items_int h3
  have hlen : ns.length ≤ n := by
    unfold OpenLaw.pre at hc
    have h4 : (WTm.not (.lt (.lit (.int (n : Int))) (.len (.arg 0)))).holds [] { args := [.list (ns.map .int)] } = true := by
      have h4 := (holds_andW hc).1
      rw [hn] at h4
      exact h4
    have h5 := condW_of h4 (w_not (w_lt w_lit (w_len_list (w_arg rfl))))
    rw [List.length_map] at h5
    refine Nat.le_of_not_lt fun q => ?_
    have q' : (n : Int) < ((ns.length : Nat) : Int) := by omega
    first
      | (rw [decide_eq_true q'] at h5; exact absurd h5 (by decide))
      | (simp at h5; omega)
  cases hwl with
  | cons w1 w2 =>
    cases w2
    cases w1 with
    | list ho hall => exact ⟨_, _, ns, rfl, rfl, ho, ints_of_wellAll ns _ hall, hlen⟩
theorem post_true (l : OpenLaw) (args : List WData) : l.row.toRowW.claim.post args (.bool true) args = true :=
  postW_of (r := l.row.toRowW) (X := (true == true))
    (show WShape.has [] (.bool true) .bool = true by first | rfl | decide | simp [WShape.has, WShape.arms, WShape.armsAll])
    (show (WTm.eq .res (.lit (.bool true))).value [] { args := args, res := some (.bool true), after := args } = some (.bool (true == true)) from w_eq_bool (w_res rfl) w_lit) rfl
theorem attach_call {l : OpenLaw} {n : Nat} {q : Program} {loose : List Str} {XP : (Str → Option Value) → Heap → Prop} {YP : World → Heap → Prop} {d : DefRec}
    (hn : l.most = some n) (hdf : d.params.defaults = [])
    (call : ∀ (w : World) (s₀ s₁ : Shared) (mg mb : Str → Option Value) (fa : Addr) (o : Obj) (pm cd doc : Value) (a : Addr) (vs : List Value) (ns : List Int),
      Ground q loose [] XP w s₀ mg mb s₁.heap → YP w s₁.heap →
      s₁.heap.get? fa = some o → o.data = .func (docDef d.name d.params d.body d.scope pm cd doc) → s₁.heap.CodeRec cd d.name → mg d.name = some (.ref fa) →
      s₁.heap.get? a = some { cls := .type "list", data := .seq vs.toArray } → IntsAre vs ns → ns.length ≤ n → s₁.gens = #[] →
      codeAny (model l.prog w) callerA (.call (.ref fa) ⟨[.ref a], []⟩) (fun r s' => r = .ok (.ret (.bool true)) ∧ OldK s₁.heap s'.heap ∧ s'.os = s₁.os ∧ AllBare s'.gens) s₁) :
    WalkO q loose XP YP l.row.toRowW d [] (fun f vs => PySem.call f vs) := by
  intro w s₀ s₁ mg mb G Y fa o pm cd doc dV kV ho hd hcd hD hmg hg args vals as hpre hlay hrd hwl hlo
  obtain rfl : dV = .none := Dflts.none hD hdf
  obtain rfl : kV = .none := Dflts.noKw hD
  obtain ⟨a, vs, ns, rfl, rfl, hobj, hints, hlen⟩ := script_of hn hpre hwl
  refine enter_call (codeAny_mono (call w s₀ s₁ mg mb fa o pm cd doc a vs ns G Y ho (fd_plain hd) hcd hmg hobj hints hlen hg) fun r s' hq => ?_)
  obtain ⟨rfl, h2, h3, h4⟩ := hq
  exact ⟨.inl ⟨.bool true, .bool true, [], rfl, fun _ => rfl, .bool true, post_true l _, fun _ => ⟨List.Pairwise.nil, fun _ hm => (nomatch hm)⟩⟩, h2, h3, h4⟩
section
variable {prog : Program} {w : World} {A : Around} {E : Value → Shared → Prop} {s : Shared} {K : Frag}
def noObjs (h : Heap) : Heap := { h with objs := #[] }
def ledger (h : Heap) (L d : Addr) : List (Addr × Obj) := (List.range h.objs.size).filterMap fun a => if a = L ∨ a = d then none else (h.get? a).map fun o => (a, o)
end
end Att
namespace L2
open PySem PySem.Spec PyProof.Rows
theorem vals_ints : ∀ {vs : List Value} {ns : List Int}, IntsAre vs ns → Vals (ns.map V.int) vs
  | _, _, .nil => .nil
  | _, _, .cons n t h => .cons ⟨t, rfl⟩ (vals_ints h)
def Only (H : Hp) : Prop := ∀ b, H b = none ∨ ∃ o xs, H b = some (.frz o (.lst xs))
theorem law_call {P : Program} {w : World} {K : PySem.W.Frag} {mg mb : Str → Option Value} {CX : CXT} {k : Nat} {fa a : Addr} {fd : FuncData} {x : Str} {sp : Sp} {s₁ : Shared} {vs : List Value} {ns : List Int}
    (KX : K.In s₁.heap) (hns : s₁.heap.Ns mainGlobals mg) (hb : s₁.heap.Ns builtinsNs mb) (hbb : ∀ x : Str, x ≠ "__name__" → mb x = bootBuiltins x) (hlim : s₁.heap.NoLimit) (hg : s₁.gens = #[])
    (ha : s₁.heap.get? a = some { cls := .type "list", data := .seq vs.toArray }) (hi : IntsAre vs ns) (hl : ns.length ≤ sizeLine) (hr : Room k callerA)
    (F : ∀ base : Heap, K.In base → base.Ns mainGlobals mg → FnOk P w K mg base CX k fa fd [x] sp) (hbind : ∀ (s : Shared) (u : Value), BindsTo s fd ⟨[u], []⟩ [(x, u)])
    (hsp : ∀ H : Hp, Only H → SqL K H a (ns.map V.int) → sp [.ref a] H (fun v _ => v = .bl true) fun _ _ _ => False)
    (hCX : ∀ H e s', CX [] H s₁ (fun _ _ _ => False) e s' → False) :
    codeAny (model P w) callerA (.call (.ref fa) ⟨[.ref a], []⟩) (fun r s' => r = .ok (.ret (.bool true)) ∧ OldK s₁.heap s'.heap ∧ s'.os = s₁.os ∧ AllBare s'.gens) s₁ := by
  have rv := vals_ints hi
  have lenV := hi.length
  -- from an abstract heap in which nothing but the script may be tracked
  have core : ∀ H : Hp, Only H → SqL K H a (ns.map V.int) → HOk P w H s₁.heap → (∀ b, H b ≠ none → b = a) → (H a ≠ none → K.lookup a = none) →
      codeAny (model P w) callerA (.call (.ref fa) ⟨[.ref a], []⟩) (fun r s' => r = .ok (.ret (.bool true)) ∧ OldK s₁.heap s'.heap ∧ s'.os = s₁.os ∧ AllBare s'.gens) s₁ := by
    intro H hO hS hok hA hK
    have base_of : ∀ {b : Addr} {o : Obj}, s₁.heap.get? b = some o → H b = none → (hidT s₁.heap H).get? b = some o := fun e n => hidT_get e n
    have noA : ∀ {b : Addr} {o : Obj} {es : Array DictEntry} {ep : Nat}, s₁.heap.get? b = some o → o.data = .dict es ep → H b = none := fun {b o es ep} e d => by
      cases q : H b with
      | none => rfl
      | some u =>
        have e' : b = a := hA b (by rw [q]; simp)
        subst e'
        rw [ha] at e; cases e
        have d' : Data.seq vs.toArray _ = Data.dict es ep := d
        cases d'
    have nsK : ∀ {b : Addr} {m : Str → Option Value}, s₁.heap.Ns b m → (hidT s₁.heap H).Ns b m := fun {b m} ⟨o, es, ep, e, d, r⟩ => ⟨o, es, ep, base_of e (noA e d), d, r⟩
    have hKb : K.In (hidT s₁.heap H) := fun b o e => base_of (KX b o e) (by
      cases q : H b with
      | none => rfl
      | some u =>
        have e' : b = a := hA b (by rw [q]; simp)
        subst e'
        rw [hK (by rw [q]; simp)] at e; cases e)
    have hM : Mod K mg (hidT s₁.heap H) := ⟨hKb, nsK hns, ⟨mb, nsK hb, hbb⟩, let ⟨mc, h1, h2⟩ := hlim; ⟨mc, nsK h1, h2⟩⟩
    have e0 : Env0 P w K mg (hidT s₁.heap H) callerA [] s₁ H := ⟨rfl, hM, fun b o e => of_hidT e, Nat.le_of_eq (hidT_size _ _), trivial, fun b hb => absurd (show b ∈ ([] : List Addr) from hb) (by simp), hok, .of_eq hg⟩
    refine codeAny_mono ((F _ hKb (nsK hns)).run callerA [] s₁ H ⟨[.ref a], []⟩ [.ref a] [.ref a] _ _ hr e0 (hbind s₁ (.ref a)) (.cons rfl .nil) (hsp H hO hS)) fun r s' h => ?_
    cases r with
    | error e => exact (hCX H e s' h).elim
    | ok fl =>
      cases fl with
      | next => exact False.elim h
      | brk => exact False.elim h
      | cont => exact False.elim h
      | ret u =>
        obtain ⟨v, H', os, bare, un, hok', r', q⟩ := h
        have q' : v = .bl true := q
        subst q'
        obtain rfl : u = Value.bool true := r'
        refine ⟨rfl, OldK.of_keep fun b o e => ?_, os, bare⟩
        cases q : H b with
        | none => exact un.keep b o e q (by intro z; exact absurd (show b ∈ ([] : List Addr) from z) (by simp)) (by simp)
        | some u =>
          rcases hO b with z | ⟨ob, xs, z⟩
          · rw [q] at z; cases z
          · have z2 := un.frzs b ob _ z
            obtain ⟨e1, _⟩ := hok b _ z
            obtain ⟨e2, _⟩ := hok' b _ z2
            rw [e] at e1; cases e1
            exact e2
  cases hk : K.lookup a with
  | some o =>
    -- the script is one of the module's own objects
    have e := KX a o hk
    rw [ha] at e
    cases e
    refine core (fun _ => none) (fun _ => .inl rfl) (.inr ⟨_, vs.toArray, _, hk, rfl, rfl, rfl, by rw [List.size_toArray, lenV]; exact hl, by simpa using rv⟩) (fun b u z => by have z' : (none : Option HO) = some u := z; cases z') (fun b z => absurd rfl z) fun z => absurd rfl z
  | none =>
    refine core (fun b => if b = a then some (.frz { cls := .type "list", data := .seq vs.toArray } (.lst (ns.map V.int))) else none) (fun b => ?_) (.inl (.inr ⟨{ cls := .type "list", data := .seq vs.toArray }, if_pos rfl⟩)) (fun b u z => ?_) (fun b z => ?_) fun _ => hk
    · by_cases hb : b = a
      · exact .inr ⟨_, _, if_pos hb⟩
      · exact .inl (if_neg hb)
    · by_cases hb : b = a
      · have z' := (if_pos hb).symm.trans z
        cases z'
        subst hb
        exact ⟨ha, by rw [List.length_map]; exact hl, vs, _, rv, ha⟩
      · have z' := (if_neg hb).symm.trans z
        cases z'
    · by_cases hb : b = a
      · exact hb
      · exact absurd (if_neg hb) z
end L2
namespace L2
open PySem PySem.Spec PyProof.Rows
abbrev KOf {K : PySem.W.Frag} {h : Heap} (_ : K.In h) : PySem.W.Frag := K
theorem walk_of {l : PySem.W.OpenLaw} {n k : Nat} {q : Program} {loose : List Str} {XP : (Str → Option Value) → Heap → Prop} {YP : World → Heap → Prop} {d : DefRec} {K : Params → PySem.W.Frag} {CX : World → CXT} {sp : World → Sp} {x : Str}
    (hn : l.most = some n) (hn2 : n ≤ sizeLine) (hdf : d.params.defaults = []) (hr : Room k callerA)
    (hY : ∀ (w : World) (h : Heap), YP w h → (K w.params).In h)
    (F : ∀ (w : World) (mg : Str → Option Value) (fa : Addr) (h : Heap), (K w.params).In h → h.Ns mainGlobals mg → mg d.name = some (.ref fa) →
      ∃ fd : FuncData, (∀ (s : Shared) (u : Value), BindsTo s fd ⟨[u], []⟩ [(x, u)]) ∧
        ∀ base : Heap, (K w.params).In base → base.Ns mainGlobals mg → FnOk l.prog w (K w.params) mg base (CX w) k fa fd [x] (sp w))
    (hsp : ∀ (w : World) (H : Hp) (a : Addr) (ns : List Int), ns.length ≤ n → Only H → SqL (K w.params) H a (ns.map V.int) → sp w [.ref a] H (fun v _ => v = .bl true) fun _ _ _ => False)
    (hCX : ∀ (w : World) (H : Hp) (s : Shared) (e : Value) (s' : Shared), CX w [] H s (fun _ _ _ => False) e s' → False) :
    PySem.W.WalkO q loose XP YP l.row.toRowW d [] (fun f vs => PySem.call f vs) := by
  refine Att.attach_call hn hdf fun w s₀ s₁ mg mb fa o pm cd doc a vs ns G Y ho hd hcd hmg hobj hints hlen hg => ?_
  have KX := hY w _ Y
  obtain ⟨fd, hb, hF⟩ := F w mg fa _ KX G.T.g hmg
  exact law_call KX G.T.g G.T.b G.T.builtins G.T.nolimit hg hobj hints (Nat.le_trans hlen hn2) hr hF hb (fun H hO hS => hsp w H a ns hlen hO hS) fun H e s' => hCX w H s₁ e s'
end L2
namespace L2
open PySem PySem.Spec PyProof.Rows
def inClass (s : Stmt) (j : Nat) : Stmt := match s with
  | .ClassDef _ _ _ body _ _ _ _ _ _ _ => body.getD j (.Pass ⟨0, 0, 0, 0⟩)
  | _ => .Pass ⟨0, 0, 0, 0⟩
def defArgs (s : Stmt) : Arguments := match s with
  | .FunctionDef _ a _ _ _ _ _ _ _ _ => a
  | _ => { posonlyargs := [], args := [], vararg := none, kwonlyargs := [], kw_defaults := [], kwarg := none, defaults := [] }
def defBody (s : Stmt) : List Stmt := match s with
  | .FunctionDef _ _ b _ _ _ _ _ _ _ => b
  | _ => []
def defScope (s : Stmt) : Scope := match s with
  | .FunctionDef _ _ _ _ _ _ sc _ _ _ => sc
  | _ => { kind := .function, names := [], isGenerator := false, isCoroutine := false }
abbrev CX0 : CXT := fun _ _ _ _ _ _ => False
abbrev E0 : XK := fun _ _ _ => False
theorem pass0 {X : Cx} : Passes CX0 X E0 := fun _ _ _ _ _ _ _ h => h.elim
structure Fun (K : PySem.W.Frag) (x qual : Str) (st : Stmt) (f : Addr) (fd : FuncData) : Prop where
  ex : ∃ (oc : Value) (od : Option Addr) (kV doc pm : Value) (an : Option Addr) (cdv ct : Value) (osl : Array (Option Value)),
    fd = PySem.W.fnOf x qual (defArgs st) (defBody st) (defScope st) .none kV doc pm an cdv ct ∧ K.lookup f = some ⟨oc, od, .func fd, osl⟩ ∧ PySem.W.codeIn K cdv qual = true
  kp : PySem.W.keepIn K (.ref f) = true
section
variable {P : Program} {w : World} {K : PySem.W.Frag} {mg : Str → Option Value} {base : Heap}
theorem Fun.ok {x qual : Str} {st : Stmt} {f : Addr} {fd : FuncData} {N ps : List Str} {k : Nat} {sp : Sp} (F : Fun K x qual st f fd) (S : FnScope N ps (defScope st)) (len : ∀ vs H Q E, sp vs H Q E → vs.length = ps.length)
    (hbody : ∀ (cdv : Value) (A : Around) (outer : List Env) (s : Shared) (H : Hp) (vs : List V) (Q : VK) (E : XK), Room k (A.deeper (envOfC qual (defScope st) s.heap.objs.size f cdv)) → sp vs H Q E →
      ∃ t, PSs (cxOf CX0 P w K mg base N qual (defScope st) f cdv A outer s H E).nox (defBody st) t ∧ t { nx := fun _ H' => Q .non H', rt := Q } (start N vs) H) : FnOk P w K mg base CX0 (k + 1) f fd ps sp := by
  obtain ⟨oc, od, kV, doc, pm, an, cdv, ct, osl, rfl, lk, hcd⟩ := F.ex
  refine fn_of lk hcd S len fun A outer s H vs Q E hr hsp => ?_
  obtain ⟨t, h, q⟩ := hbody cdv A outer s H vs Q E hr hsp
  exact ⟨t, h.nox, q⟩
theorem Fun.binds {x qual : Str} {st : Stmt} {f : Addr} {fd : FuncData} {ps : List Str} (F : Fun K x qual st f fd)
    (h : ∀ (kV doc pm : Value) (an : Option Addr) (cdv ct : Value) (us : List Value), us.length = ps.length → bindArgs (PySem.W.fnOf x qual (defArgs st) (defBody st) (defScope st) .none kV doc pm an cdv ct) ⟨us, []⟩ = pure (ps.zip us)) : Binds K fd ps [] := by
  obtain ⟨oc, od, kV, doc, pm, an, cdv, ct, osl, rfl, lk, hcd⟩ := F.ex
  exact .all (h kV doc pm an cdv ct)
theorem fun_mk {x qual : Str} {st : Stmt} {f : Addr} {oc : Value} {od an : Option Addr} {osl : Array (Option Value)} {kV doc pm cdv ct : Value} (l : K.lookup f = some ⟨oc, od, .func (PySem.W.fnOf x qual (defArgs st) (defBody st) (defScope st) .none kV doc pm an cdv ct), osl⟩)
    (c : PySem.W.codeIn K cdv qual = true) (k : PySem.W.keepIn K (.ref f) = true) : Fun K x qual st f (PySem.W.fnOf x qual (defArgs st) (defBody st) (defScope st) .none kV doc pm an cdv ct) := ⟨⟨oc, od, kV, doc, pm, an, cdv, ct, osl, rfl, l, c⟩, k⟩
end
theorem hu_of {A : Around} {k : Nat} (hr : Room k A) : A.units + 1 < cLine := Nat.lt_of_le_of_lt (Nat.add_le_add_left (by decide : 1 ≤ 64) _) hr.units
section
variable {X : Cx}
end
theorem iteF {A B : Prop} (h : B) : if false = true then A else B := by
  rw [if_neg Bool.false_ne_true]
  exact h
theorem iteT {A B : Prop} (h : A) : if true = true then A else B := by
  rw [if_pos rfl]
  exact h
theorem ite2 {c A B : Prop} [Decidable c] (h1 : c → A) (h2 : ¬ c → B) : if c then A else B := by
  by_cases h : c
  · rw [if_pos h]
    exact h1 h
  · rw [if_neg h]
    exact h2 h
def Same (H H' : Hp) : Prop := ∀ b o, H b = some o → H' b = some o
theorem Same.trans {H H1 H2 : Hp} (a : Same H H1) (b : Same H1 H2) : Same H H2 := fun c o h => b c o (a c o h)
theorem Same.free {H H' : Hp} (e : Same H H') {l : Addr} (h : H' l = Option.none) : H l = Option.none := by
  cases q : H l with
  | none => rfl
  | some o =>
    rw [e l o q] at h
    cases h
theorem Same.seq {K : PySem.W.Frag} {H H' : Hp} {a : Addr} {xs : List V} (e : Same H H') (h : SqL K H a xs) : SqL K H' a xs := by
  rcases h with (h | ⟨o, h⟩) | h
  · exact .inl (.inl (e _ _ h))
  · exact .inl (.inr ⟨o, e _ _ h⟩)
  · exact .inr h
end L2
end
section
set_option linter.all false
set_option maxRecDepth 100000
set_option maxHeartbeats 4000000
namespace L2
open PySem PySem.Spec PyProof.Rows
def ltV : V → V → Bool
  | .int a, .int b => decide (a < b)
  | .str a, .str b => decide (a.cps.toList < b.cps.toList)
  | _, _ => false
def fitV : V → V → Prop
  | .int _, .int _ => True
  | .str _, .str _ => True
  | _, _ => False
def lexV : List V → List V → Bool
  | [], [] => false
  | [], _ :: _ => true
  | _ :: _, [] => false
  | x :: xs, y :: ys => if x = y then lexV xs ys else ltV x y
theorem lexV_cons (x y : V) (xs ys : List V) : lexV (x :: xs) (y :: ys) = if x = y then lexV xs ys else ltV x y := rfl
def fitL : List V → List V → Prop
  | x :: xs, y :: ys => fitV x y ∧ fitL xs ys
  | _, _ => True
theorem eqAt_fit {a c : V} {v u : Value} (A : Around) (s : Shared) (h : fitV a c) (ra : RelV a v) (rc : RelV c u) : ∃ e, SeqAt.EqAt A s v u e ∧ (e = true ↔ a = c) := by
  cases a with
  | int i =>
    cases c with
    | int j =>
      obtain ⟨t, rfl⟩ := ra
      obtain ⟨t', rfl⟩ := rc
      exact ⟨_, SeqAt.EqAt.int_int i t j t', by simp⟩
    | _ => exact h.elim
  | str i =>
    cases c with
    | str j =>
      obtain ⟨t, rfl⟩ := ra
      obtain ⟨t', rfl⟩ := rc
      exact ⟨_, SeqAt.EqAt.str_str i t j t', by simp⟩
    | _ => exact h.elim
  | _ => exact h.elim
theorem rcLt_fit {a c : V} {v u : Value} (A : Around) (s : Shared) (h : fitV a c) (ra : RelV a v) (rc : RelV c u) (prog : Program) (w : World) {E : Value → Shared → Prop} {Q : Value → Shared → Prop} (q : Q (.bool (ltV a c)) s) :
    wpAny (model prog w) A (richCompare .Lt v u) Q E s := by
  cases a with
  | int i =>
    cases c with
    | int j =>
      obtain ⟨t, rfl⟩ := ra
      obtain ⟨t', rfl⟩ := rc
      exact (PyProof.Rows.lt_int q : wpAny (model prog w) A (compareOp .Lt (.int i t) (.int j t')) Q E s)
    | _ => exact h.elim
  | str i =>
    cases c with
    | str j =>
      obtain ⟨t, rfl⟩ := ra
      obtain ⟨t', rfl⟩ := rc
      exact (PySem.P.lt_str q : wpAny (model prog w) A (compareOp .Lt (.str i t) (.str j t')) Q E s)
    | _ => exact h.elim
  | _ => exact h.elim
section
open PySem.SeqAt
open PySem.AutoSeq1 (wpAny_loadPart')
open PySem.MeetsSeq PySem.MeetsSeq2 PySem.MeetsSeq3
theorem tuple_lt_V (l b : Addr) (items items2 : Array Value) (n n2 : Nat) (dd dd2 : Option Addr) (sl sl2 : Array (Option Value)) (xs ys : List V) (hi : Vals xs items.toList) (hj : Vals ys items2.toList) (hf : fitL xs ys) :
    Meets (Builtin.«tuple.__lt__» ⟨[.ref l, .ref b], []⟩)
      (fun _ R s => s.heap.get? l = some { cls := .type "tuple", dict := dd, data := .seq items n, slots := sl } ∧ s.heap.get? b = some { cls := .type "tuple", dict := dd2, data := .seq items2 n2, slots := sl2 } ∧
        R (.ok (.ret (.bool (lexV xs ys)))) s) :=
  .of_wp fun prog w A R s h => by
    obtain ⟨hp, g, d, tk, os⟩ := s; obtain ⟨hl, hb, h⟩ := h
    have f2 := AutoSeq1.sub_tuple_tuple
    have z1 : items.size = xs.length := by rw [hi.length]; simp
    have z2 : items2.size = ys.length := by rw [hj.length]; simp
    wp_walk using wpAny_loadPart' hl, wpAny_loadPart' hb, wpAny_forIn_list _ (fun rest b s' => b.1 = none ∧ s' = ⟨hp, g, d, tk, os⟩ ∧ ∃ (vs ws : List Value) (xs' ys' : List V), rest = vs.zip ws ∧
      Vals xs' vs ∧ Vals ys' ws ∧ fitL xs' ys' ∧ xs'.length + items2.size = ys'.length + items.size ∧ R (.ok (.ret (.bool (lexV xs' ys')))) ⟨hp, g, d, tk, os⟩) _
    case turn =>
      rintro ⟨y, x⟩ rest b s' ⟨hb', rfl, vs, ws, xs', ys', hz, hvi, hwi, hft, hlen, hR⟩
      cases hvi with
      | nil => rw [List.zip_nil_left] at hz; cases hz
      | @cons a v as vs' ra hvi' =>
        cases hwi with
        | nil => rw [List.zip_nil_right] at hz; cases hz
        | @cons c u cs ws' rc hwi' =>
          rw [List.zip_cons_cons] at hz
          injection hz with hyx hrest
          injection hyx with hy hx
          subst hy hx
          simp only [List.length_cons] at hlen
          obtain ⟨fac, fit'⟩ : fitV a c ∧ fitL as cs := hft
          obtain ⟨e, he, hiff⟩ := eqAt_fit A.in1 ⟨hp, g, d, tk, os⟩ fac ra rc
          refine wpAny_bind (he prog w _ _ ?_)
          cases e with
          | true =>
            have hac := hiff.mp rfl
            have hR2 : R (.ok (.ret (.bool (lexV as cs)))) ⟨hp, g, d, tk, os⟩ := by
              subst hac
              rw [lexV_cons, if_pos rfl] at hR; exact hR
            wp_walk
            exact ⟨rfl, rfl, _, _, _, _, hrest, hvi', hwi', fit', by omega, hR2⟩
          | false =>
            have hac : ¬ a = c := fun q => absurd (hiff.mpr q) Bool.false_ne_true
            have hR2 : R (.ok (.ret (.bool (ltV a c)))) ⟨hp, g, d, tk, os⟩ := by
              rw [lexV_cons, if_neg (by intro q; exact hac q)] at hR; exact hR
            have hri := fun E Q h => rcLt_fit (E := E) (Q := Q) A.in1 ⟨hp, g, d, tk, os⟩ fac ra rc prog w h
            wp_walk using hri
            exact ⟨_, rfl, by simpa using hR2⟩
    case fin =>
      rintro ⟨b1, b2⟩ s' ⟨hb', rfl, vs, ws, xs', ys', hz, hvi, hwi, hft, hlen, hR⟩
      simp only at hb'
      subst hb'
      have hv : lexV xs' ys' = decide (items.size < items2.size) := by
        cases hvi with
        | nil =>
          cases hwi with
          | nil =>
            simp only [List.length_nil] at hlen
            rw [show lexV [] [] = false from rfl]
            exact (decide_eq_false (by omega)).symm
          | cons ru hw =>
            simp only [List.length_nil, List.length_cons] at hlen
            exact (decide_eq_true (by omega)).symm
        | cons ra hv =>
          cases hwi with
          | nil =>
            simp only [List.length_nil, List.length_cons] at hlen
            exact (decide_eq_false (by omega)).symm
          | cons ru hw =>
            rw [List.zip_cons_cons] at hz
            cases hz
      rw [hv] at hR
      wp_walk
      exact ⟨_, rfl, by simpa [Builtin.Tuple.tupleCompareSizes] using hR⟩
    case h =>
      exact ⟨rfl, rfl, items.toList, items2.toList, xs, ys, rfl, hi, hj, hf, by omega, h⟩
end
def rLtV (K : PySem.W.Frag) : R2 := fun x y H Q => ∃ a b xs ys, x = .ref a ∧ y = .ref b ∧ SqT K H a xs ∧ SqT K H b ys ∧ fitL xs ys ∧ Q (.bl (lexV xs ys)) H
theorem op_ltV {X : Cx} (hu : X.A.units < cLine) : OpR X (compareOp .Lt) (rLtV X.K) := by
  intro pins s σ H x y v u Q I rx ry h
  obtain ⟨a, b, xs, ys, rfl, rfl, ha, hb, hf, q⟩ := h
  cases rx
  cases ry
  obtain ⟨its, r1, p1, _⟩ := I.tuple ha
  obtain ⟨its2, r2, p2, _⟩ := I.tuple hb
  obtain ⟨⟨cls, dd, data, sl⟩, ho, hc, n, hd⟩ := id p1
  obtain ⟨⟨cls2, dd2, data2, sl2⟩, ho2, hc2, n2, hd2⟩ := id p2
  simp only at hc hd hc2 hd2
  subst hc hd hc2 hd2
  exact richCompare_meets_room (op := .Lt) ⟨_, ho, rfl⟩ ⟨_, ho2, rfl⟩ PySem.F.slot_tuple_lt PySem.F.entry_tuple_lt (PySem.F.args_tuple_lt_2 _ _) (tuple_lt_V a b _ _ n n2 dd dd2 sl sl2 xs ys r1 r2 hf)
    ⟨ho, ho2, show Value.bool (lexV xs ys) ≠ Value.notImplemented ∧ EP X pins σ Q (.bool (lexV xs ys)) s from ⟨(fun x => nomatch x), .bl _, H, I, rfl, q⟩⟩ hu
def rGtV (K : PySem.W.Frag) : R2 := fun x y H Q => ∃ a b xs ys, x = .ref a ∧ y = .ref b ∧ SqT K H a xs ∧ SqT K H b ys ∧ fitL xs ys ∧ Q (.bl (lexV ys xs)) H
end L2
end
section
set_option linter.all false
set_option maxRecDepth 100000
set_option maxHeartbeats 4000000
namespace L2
open PySem PySem.Spec PyProof.Rows
def lexOrd (A B : KeyOrd) : KeyOrd where
  α := A.α × B.α
  blt p q := A.blt p.1 q.1 || (!A.blt q.1 p.1 && B.blt p.2 q.2)
  irrefl a := by rw [A.irrefl, B.irrefl]; rfl
  trans a b c h1 h2 := by
    rw [Bool.or_eq_true, Bool.and_eq_true, Bool.not_eq_true'] at *
    rcases h1 with h1 | ⟨h1, k1⟩
    · rcases h2 with h2 | ⟨h2, k2⟩
      · exact .inl (A.trans _ _ _ h1 h2)
      · exact .inl (KeyOrd.klt_of_klt_of_kle (O := A) h1 h2)
    · rcases h2 with h2 | ⟨h2, k2⟩
      · exact .inl (KeyOrd.klt_of_kle_of_klt (O := A) h1 h2)
      · exact .inr ⟨KeyOrd.kle_trans (O := A) h1 h2, B.trans _ _ _ k1 k2⟩
  negTrans a b c h := by
    rw [Bool.or_eq_true, Bool.and_eq_true, Bool.not_eq_true'] at *
    rw [Bool.or_eq_true, Bool.and_eq_true, Bool.not_eq_true']
    rcases h with h | ⟨h, k⟩
    · cases e : A.blt a.1 b.1 with
      | true => exact .inl (.inl rfl)
      | false =>
        cases e2 : A.blt b.1 c.1 with
        | true => exact .inr (.inl rfl)
        | false =>
          rcases A.negTrans _ b.1 _ h with z | z
          · rw [z] at e; cases e
          · rw [z] at e2; cases e2
    · cases e : A.blt a.1 b.1 with
      | true => exact .inl (.inl rfl)
      | false =>
        cases e2 : A.blt b.1 c.1 with
        | true => exact .inr (.inl rfl)
        | false =>
          have e3 : A.blt b.1 a.1 = false := KeyOrd.kle_trans (O := A) h e2
          have e4 : A.blt c.1 b.1 = false := KeyOrd.kle_trans (O := A) e h
          rcases B.negTrans _ b.2 _ k with z | z
          · exact .inl (.inr ⟨e3, z⟩)
          · exact .inr (.inr ⟨e4, z⟩)
  total a b h1 h2 := by
    rw [Bool.or_eq_false_iff] at h1 h2
    obtain ⟨a1, b1⟩ := h1
    obtain ⟨a2, b2⟩ := h2
    rw [a2] at b1
    rw [a1] at b2
    exact Prod.ext (A.total _ _ a1 a2) (B.total _ _ (by simpa using b1) (by simpa using b2))
def intOrd : KeyOrd where
  α := Int
  blt a b := decide (a < b)
  irrefl a := by simp
  trans a b c h1 h2 := by simp only [decide_eq_true_eq] at *; omega
  negTrans a b c h := by simp only [decide_eq_true_eq] at *; omega
  total a b h1 h2 := by simp only [decide_eq_false_iff_not] at *; omega
def enOrd : KeyOrd := lexOrd intOrd (lexOrd strKind.toKeyOrd intOrd)
def enKey : List V → enOrd.α
  | [.int i, .str x, .int j] => (i, x.cps.toList, j)
  | _ => ((0 : Int), ([] : List Nat), (0 : Int))
def isEn (l : List V) : Prop := ∃ i x j, l = [.int i, .str x, .int j]
theorem str_ext {a b : Str} (h : a.cps.toList = b.cps.toList) : a = b := by
  cases a with | mk c => cases b with | mk d => congr 1; exact Array.toList_inj.mp h
theorem enKey_lex {a b : List V} (ha : isEn a) (hb : isEn b) : enOrd.blt (enKey a) (enKey b) = lexV a b := by
  obtain ⟨i, x, j, rfl⟩ := ha
  obtain ⟨i', x', j', rfl⟩ := hb
  show (decide (i < i') || (!decide (i' < i) && (decide (x.cps.toList < x'.cps.toList) || (!decide (x'.cps.toList < x.cps.toList) && decide (j < j'))))) = _
  rw [lexV_cons]
  by_cases h1 : i = i'
  · subst h1
    rw [if_pos rfl, lexV_cons]
    simp only [Int.lt_irrefl, decide_false, Bool.false_or, Bool.not_false, Bool.true_and]
    by_cases h2 : x = x'
    · subst h2
      rw [if_pos rfl, lexV_cons]
      have e : decide (x.cps.toList < x.cps.toList) = false := by simpa using List.lt_irrefl x.cps.toList
      rw [e]
      simp only [Bool.false_or, Bool.not_false, Bool.true_and]
      by_cases h3 : j = j'
      · subst h3
        rw [if_pos rfl]
        simp [lexV]
      · rw [if_neg (by intro z; cases z; exact h3 rfl)]
        rfl
    · rw [if_neg (by intro z; cases z; exact h2 rfl)]
      show _ = decide (x.cps.toList < x'.cps.toList)
      cases e : decide (x.cps.toList < x'.cps.toList) with
      | true => rfl
      | false =>
        have n1 : ¬ x.cps.toList < x'.cps.toList := of_decide_eq_false e
        have l1 : x'.cps.toList < x.cps.toList := by
          rcases Classical.em (x'.cps.toList < x.cps.toList) with z | z
          · exact z
          · exact absurd (str_ext (List.le_antisymm (List.not_lt.mp z) (List.not_lt.mp n1))) h2
        rw [decide_eq_true l1]; rfl
  · rw [if_neg (by intro z; cases z; exact h1 rfl)]
    show _ = decide (i < i')
    by_cases h2 : i < i'
    · rw [decide_eq_true h2]; rfl
    · have h3 : i' < i := by omega
      rw [decide_eq_false h2, decide_eq_true h3]; rfl
def backV : Value → V
  | .ref a => .ref a
  | _ => .non
def enKind (key : V → List V) : KeyKind := { enOrd with keyOf := fun v => some (enKey (key (backV v))), dflt := enKey [] }
theorem fit_en {a b : List V} (ha : isEn a) (hb : isEn b) : fitL a b := by
  obtain ⟨i, x, j, rfl⟩ := ha
  obtain ⟨i', x', j', rfl⟩ := hb
  exact ⟨trivial, trivial, trivial, trivial⟩
section
variable {X : Cx}
def EnL (K : PySem.W.Frag) (H : Hp) (key : V → List V) (xs : List V) : Prop := ∀ x ∈ xs, ∃ a, x = .ref a ∧ SqT K H a (key x) ∧ isEn (key x)
theorem vals3 {x y z : V} {us : List Value} (r : Vals [x, y, z] us) : ∃ u v w, us = [u, v, w] ∧ RelV x u ∧ RelV y v ∧ RelV z w := by
  cases r with
  | cons r1 r2 =>
    cases r2 with
    | cons r3 r4 =>
      cases r4 with
      | cons r5 r6 => cases r6; exact ⟨_, _, _, rfl, r1, r3, r5⟩
theorem sort_cmp {pins : List (Addr × Obj)} {σ : St} {H : Hp} {s : Shared} (I : Inv X pins σ H s) {key : V → List V} {xs : List V} {vs : List Value} (r : Vals xs vs) (he : EnL X.K H key xs)
    (h' : Heap) (kp : ∀ b o, s.heap.get? b = some o → h'.get? b = some o) (A : Around) : TS.Cmp X.prog X.w A { s with heap := h' } (enKind key) (tuples' true) (pairsOf vs) := by
  refine ⟨fun x y hx hy E Q q => ?_⟩
  have at' : ∀ p : Keyed, p ∈ (pairsOf vs).toList → ∃ a its, p.1 = .ref a ∧ isEn (key (.ref a)) ∧ Vals (key (.ref a)) its ∧ IsTup h' a its.toArray := fun p hp => by
    rw [pairsOf_toList] at hp
    obtain ⟨e1, m⟩ := mem_zip_self hp
    obtain ⟨j, hj, ej⟩ := List.getElem_of_mem m
    have hxj : ∃ x, xs[j]? = some x := ⟨xs[j]'(by rw [r.length]; exact hj), List.getElem?_eq_getElem _⟩
    obtain ⟨x, hxj⟩ := hxj
    obtain ⟨u, hu, ru⟩ := r.get hxj
    rw [List.getElem?_eq_getElem hj, ej] at hu
    cases hu
    obtain ⟨a, ea, hq, en⟩ := he x (List.mem_of_getElem? hxj)
    subst ea
    obtain ⟨its, rv, it, _⟩ := I.tuple hq
    refine ⟨a, its, ru, en, rv, ?_⟩
    obtain ⟨o, ho, rest⟩ := it
    exact ⟨o, kp a o ho, rest⟩
  obtain ⟨a, its, ea, ena, ra, ta⟩ := at' x hx
  obtain ⟨b, its', eb, enb, rb, tb⟩ := at' y hy
  have eL : TS.Lb (enKind key) x y = lexV (key (.ref a)) (key (.ref b)) := by
    unfold TS.Lb TS.kf
    rw [ea, eb]
    exact enKey_lex ena enb
  rw [eL] at q
  rw [ea, eb]
  obtain ⟨i, n, j, ek⟩ := ena
  obtain ⟨i', n', j', ek'⟩ := enb
  rw [ek] at ra q
  rw [ek'] at rb q
  obtain ⟨u1, u2, u3, rfl, r1, r2, r3⟩ := vals3 ra
  obtain ⟨w1, w2, w3, rfl, q1, q2, q3⟩ := vals3 rb
  obtain ⟨o, ho, hc, nn, hd⟩ := ta
  obtain ⟨o', ho', hc', nn', hd'⟩ := tb
  refine PySem.W.kat_lt (s := { s with heap := h' }) ho hd ho' hd' ?_
  show PySem.W.KatLex _ _ _ _ _ Q [(u1, w1), (u2, w2), (u3, w3)] 0 _
  refine PySem.W.kat_cons ?_
  obtain ⟨e, heq, hiff⟩ := eqAt_fit A { s with heap := h' } (a := .int i) (c := .int i') trivial r1 q1
  refine heq _ _ _ _ (PySem.W.kat_go (fun e1 => PySem.W.kat_yes ?_) (fun e1 => PySem.W.kat_no ?_))
  · rw [lexV_cons, if_pos (hiff.mp e1)] at q
    refine PySem.W.kat_cons ?_
    obtain ⟨e', heq', hiff'⟩ := eqAt_fit A { s with heap := h' } (a := .str n) (c := .str n') trivial r2 q2
    refine heq' _ _ _ _ (PySem.W.kat_go (fun e1 => PySem.W.kat_yes ?_) (fun e1 => PySem.W.kat_no ?_))
    · rw [lexV_cons, if_pos (hiff'.mp e1)] at q
      refine PySem.W.kat_cons ?_
      obtain ⟨e'', heq'', hiff''⟩ := eqAt_fit A { s with heap := h' } (a := .int j) (c := .int j') trivial r3 q3
      refine heq'' _ _ _ _ (PySem.W.kat_go (fun e1 => PySem.W.kat_yes ?_) (fun e1 => PySem.W.kat_no ?_))
      · rw [lexV_cons, if_pos (hiff''.mp e1)] at q
        exact PySem.W.kat_nil (by simpa [lexV] using q)
      · rw [lexV_cons, if_neg (fun z => by rw [hiff''.mpr z] at e1; cases e1)] at q
        exact PySem.W.kat_one _ _ (show wpAny _ _ (richCompare .Lt u3 w3) _ _ _ from rcLt_fit A _ (a := .int j) (c := .int j') trivial r3 q3 _ _ q)
    · rw [lexV_cons, if_neg (fun z => by rw [hiff'.mpr z] at e1; cases e1)] at q
      exact PySem.W.kat_one _ _ (show wpAny _ _ (richCompare .Lt u2 w2) _ _ _ from rcLt_fit A _ (a := .str n) (c := .str n') trivial r2 q2 _ _ q)
  · rw [lexV_cons, if_neg (fun z => by rw [hiff.mpr z] at e1; cases e1)] at q
    obtain ⟨t, rfl⟩ := r1
    obtain ⟨t', rfl⟩ := q1
    exact oneLt_int q
theorem kat_of {pins : List (Addr × Obj)} {σ : St} {H : Hp} {s : Shared} (I : Inv X pins σ H s) {key : V → List V} (h' : Heap) (kp : ∀ b o, s.heap.get? b = some o → h'.get? b = some o) : ∀ {xs : List V} {vs : List Value}, Vals xs vs → EnL X.K H key xs →
    ∃ fs, PySem.W.KatTups h' vs fs ∧ fs.length = vs.length ∧ ∀ v ∈ fs, ∃ i t, v = Value.int i t
  | _, _, .nil, _ => ⟨[], PySem.W.KatTups.nil, rfl, fun v hv => by cases hv⟩
  | x :: xs, v :: vs, .cons r t, he => by
    obtain ⟨fs, k, l, f⟩ := kat_of I h' kp t fun y hy => he y (List.mem_cons_of_mem _ hy)
    obtain ⟨a, rfl, hq, i, n, j, ek⟩ := he x List.mem_cons_self
    cases r
    obtain ⟨its, rv, it, _⟩ := I.tuple hq
    rw [ek] at rv
    obtain ⟨u1, u2, u3, rfl, ⟨tt, rfl⟩, r2, r3⟩ := vals3 rv
    obtain ⟨o, ho, hc, nn, hd⟩ := it
    refine ⟨.int i tt :: fs, PySem.W.KatTups.cons (kp a o ho) hc hd rfl k, by simp [l], fun v hv => ?_⟩
    rcases List.mem_cons.mp hv with z | z
    · exact ⟨i, tt, z⟩
    · exact f v z
theorem call_sortedE : CallR X (.builtin "sorted") (fun zs H Q => ∃ p xs key, zs = [.ref p] ∧ SqL X.K H p xs ∧ EnL X.K H key xs ∧
    ∀ l ys, H l = none → ys.Perm xs → ys.Pairwise (fun x y => lexV (key y) (key x) = false) → Q (.ref l) (upd H l (.lst ys))) := by
  intro pins s σ H zs us Q I r h
  obtain ⟨p, xs, key, rfl, hq, he, q⟩ := h
  obtain ⟨u, rfl, ru⟩ := vals1 r
  cases ru
  obtain ⟨its, rv, pl, hz⟩ := I.list hq
  have hlen := rv.length
  refine TS.sorted_any (kd := tuples' true) (κ := enKind key) pl.isList (by omega) (fun h' kp h2 E A Q q => ?_) (fun h' kp h2 A => sort_cmp I rv he h' kp A) fun st' pm up => ?_
  · obtain ⟨fs, k, l, f⟩ := kat_of I h' kp rv he
    refine PySem.W.kat_kind (s := { s with heap := h' }) (T := .type "int") k (by omega) (fun v hv => ?_) (by decide) q
    obtain ⟨i, t, rfl⟩ := f v hv
    exact PySem.W.Looks.of_pure rfl
  · obtain ⟨e, he2⟩ := sortedAll_at s.heap its ((arrOf st').map (·.2))
    have pm' : (arrOf st').toList.Perm (its.zip its) := by rw [← pairsOf_toList]; exact Array.perm_iff_toList_perm.mp pm
    have mem : ∀ k ∈ (arrOf st').toList, k.1 = k.2 ∧ ∃ x ∈ xs, RelV x k.2 ∧ ∃ a, k.2 = .ref a ∧ x = .ref a := fun k hk => by
      obtain ⟨e1, m⟩ := mem_zip_self (pm'.mem_iff.mp hk)
      refine ⟨e1, ?_⟩
      obtain ⟨j, hj, ej⟩ := List.getElem_of_mem m
      have hxj : xs[j]? = some (xs[j]'(by omega)) := List.getElem?_eq_getElem _
      obtain ⟨u, hu, ru⟩ := rv.get hxj
      rw [List.getElem?_eq_getElem hj, ej] at hu
      cases hu
      obtain ⟨a, ea, _⟩ := he _ (List.mem_of_getElem? hxj)
      refine ⟨_, List.mem_of_getElem? hxj, by rw [← e1]; exact ru, a, ?_, ea⟩
      rw [ea] at ru
      rw [← e1]; exact ru
    have hsz : (arrOf st').toList.length = xs.length := by rw [pm'.length_eq, List.length_zip]; omega
    -- what came, as values
    have vs' : ∀ l : List Keyed, (∀ k ∈ l, ∃ a, k.2 = .ref a) → Vals (l.map fun k => backV k.2) (l.map (·.2)) := by
      intro l
      induction l with
      | nil => intro _; exact .nil
      | cons k l ih =>
        intro f
        obtain ⟨a, ea⟩ := f k List.mem_cons_self
        refine .cons ?_ (ih fun k' hk' => f k' (List.mem_cons_of_mem _ hk'))
        show RelV (backV k.2) k.2
        rw [ea]; rfl
    have xsb : xs = its.map backV := by
      have aux : ∀ {xs : List V} {us : List Value}, Vals xs us → (∀ x ∈ xs, ∃ a, x = .ref a) → xs = us.map backV := by
        intro xs us r
        induction r with
        | nil => intro _; rfl
        | @cons x u xs us r t ih =>
          intro f
          obtain ⟨a, rfl⟩ := f x List.mem_cons_self
          cases r
          rw [List.map_cons, ← ih fun y hy => f y (List.mem_cons_of_mem _ hy)]
          rfl
      exact aux rv fun x hx => by obtain ⟨a, e, _⟩ := he x hx; exact ⟨a, e⟩
    refine ⟨.ref (s.heap.objs.size + 1), upd H (s.heap.objs.size + 1) (.lst ((arrOf st').toList.map fun k => backV k.2)), I.laid (t' := s.toks) (fun b o e => sortedAll_old e) (Nat.le_succ _) ?_, rfl, q _ _ (I.hok.fresh (Nat.le_succ _)) ?_ ?_⟩
    · refine ⟨by rw [List.length_map, hsz]; exact hz, (arrOf st').toList.map (·.2), e, vs' _ fun k hk => ?_, ?_⟩
      · obtain ⟨_, x, _, _, a, ea, _⟩ := mem k hk
        exact ⟨a, ea⟩
      · rw [he2, ← Array.toList_map]
    · have e3 : (its.zip its).map (fun k : Keyed => backV k.2) = xs := by
        rw [xsb]
        have aux : ∀ l : List Value, (l.zip l).map (fun k : Keyed => backV k.2) = l.map backV := by
          intro l
          induction l with
          | nil => rfl
          | cons a l ih => rw [List.zip_cons_cons, List.map_cons, List.map_cons, ih]
        exact aux its
      rw [← e3]
      exact pm'.map _
    · have el : (arrOf st') = (arrOf st').toList.toArray := by simp
      rw [el] at up
      have hs2 : (pairsOf its).size = (arrOf st').toList.length := by rw [pairsOf_size, hsz]; omega
      have up2 := (TS.up_iff (by omega)).mp up
      rw [List.drop_zero, hs2, List.take_length] at up2
      refine List.pairwise_map.mpr (List.Pairwise.imp_of_mem (fun {k k'} hk hk' hle => ?_) up2)
      obtain ⟨e1, x, hx, rx, a, ea, exa⟩ := mem k hk
      obtain ⟨e1', x', hx', rx', a', ea', exa'⟩ := mem k' hk'
      have hle' : TS.Lb (enKind key) k' k = false := hle
      unfold TS.Lb TS.kf at hle'
      rw [e1, e1', ea, ea'] at hle'
      obtain ⟨_, ez, _, en⟩ := he x hx
      obtain ⟨_, ez', _, en'⟩ := he x' hx'
      rw [exa] at en
      rw [exa'] at en'
      have := enKey_lex en' en
      rw [ea, ea']
      show lexV (key (.ref a')) (key (.ref a)) = false
      rw [← this]; exact hle'
end
end L2
end
section
set_option linter.all false
set_option maxRecDepth 100000
set_option maxHeartbeats 4000000
namespace L2
open PySem PySem.Spec PyProof.Rows
def Cx.blk (X : Cx) (scope : Scope) (cl : List (Str × Addr)) (C : Addr) (NB : List Str) (fp : List Addr) (s₀ : Shared) (H₀ : Hp) : Cx :=
  { X with N := NB, s₀ := s₀, H₀ := H₀, env := compEnvC scope cl C X.env, outer := X.stack, ex := X.ex ++ fp, fn := fun _ => false, pn := [], xe := fun _ _ => False }
structure Blk (X : Cx) (scope : Scope) (cl : List (Str × Addr)) (x : Str) (NB : List Str) (cap : List Nat) : Prop where
  clos : closureFor scope X.env = pure cl
  nocell : ∀ y ∈ scope.names, y.2 ≠ .cell
  kind : scope.kind = .function
  names : ∀ y ∈ scope.names, y.2 = .local → scope.names.lookup y.1 = some .local
  cells : ∀ y c, cl.lookup y = some c → X.env.cells.lookup y = some c
  has : ∀ y, ((relabel scope X.env).names.lookup y = some .cell ∨ (relabel scope X.env).names.lookup y = some .free) → ∃ c, cl.lookup y = some c
  len : cap.length = NB.length
  /-- the slot j + 1 of the block is the slot i of X, by a cell -/
  cap : ∀ (j i : Nat), cap[j]? = some i → ∃ y, NB[j]? = some y ∧ X.N[i]? = some y ∧ Vis X.env.scope y ∧ (X.env.kindOf y = some .cell ∨ X.env.kindOf y = some .free) ∧ ((relabel scope X.env).names.lookup y = some .cell ∨ (relabel scope X.env).names.lookup y = some .free)
  own : scope.names.lookup x = some .local
  nd : (x :: NB).Nodup
def capσ (cap : List Nat) (σ : St) : St := cap.map fun i => σ[i]?.join
def tComp (wi : TI) (tt : TT) (te : TE) (cap : List Nat) : TE := fun σ H Q => wi σ H fun J H1 => ∀ D, H1 D = none →
  ∃ W : Nat → Nat → List V → Hp → Prop, (∃ m, W 0 m [] (upd H1 D (.lst []))) ∧ ∀ i m ys H, W i m ys H → H D = some (.lst ys) ∧
    ((J.stop i H ∧ Q (.ref D) H) ∨ (J.go i H ∧ ∀ x H', J.yld i H x H' → tt (some x :: capσ cap σ) H' fun b H3 =>
      if b = true then te (some x :: capσ cap σ) H3 fun v H4 => H4 D = some (.lst ys) ∧ ys.length < sizeLine ∧ ∃ m', m' < m ∧ W (i + 1) m' (ys ++ [v]) (upd H4 D (.lst (ys ++ [v])))
      else ∃ m', m' < m ∧ W (i + 1) m' ys H3))
def PTs (X : Cx) (ifs : List Expr) (t : TT) : Prop :=
  ∀ (pins : List (Addr × Obj)) (s : Shared) (σ : St) (H : Hp) (Q : Bool → Hp → Prop), Inv X pins σ H s → t σ H Q →
    wpAny (model X.prog X.w) X.A (forIn ifs true fun c r => if r = true then do let ok ← isTrue c X.env (eval c X.env); pure (ForInStep.yield ok) else pure (ForInStep.yield r)) (TP X pins σ Q) X.xe s
def tYes : TT := fun _ H Q => Q true H
theorem pts_nil {X : Cx} : PTs X [] tYes := fun pins s σ H Q I h => wpAny_tests_nil ⟨H, I, h⟩
theorem compLoop_own {prog : Program} {w : World} {A : Around} {R : Result → Shared → Prop} {s : Shared} {elt target iter : Expr} {ifs : List Expr} {scope : Scope} {pos : Pos} {it acc : Value} {env : Env} (I : Nat → Shared → Prop)
    (turn : ∀ n s, I n s → wpAny (model prog w) A (pyNext it) (fun r s₁ => match r with
      | none => R (.ok .next) s₁
      | some v => wpAny (model prog w) A (letOwnedTupleGo target it v) (fun _ s₁' => wpAny (model prog w) A (assign target env v) (fun _ s₂ =>
          wpAny (model prog w) A (forIn ifs true fun c r => if r = true then do let ok ← isTrue c env (eval c env); pure (ForInStep.yield ok) else pure (ForInStep.yield r)) (fun ok s₃ =>
            if ok = true then wpAny (model prog w) A (eval elt env) (fun x s₄ =>
              wpAny (model prog w) A (call (.builtin "list.append") [acc, x]) (fun _ s₅ => ∃ m, m < n ∧ I m s₅) (fun _ _ => False) s₄) (fun _ _ => False) s₃
            else ∃ m, m < n ∧ I m s₃) (fun _ _ => False) s₂) (fun _ _ => False) s₁') (fun _ _ => False) s₁) (fun _ _ => False) s)
    (n : Nat) (h : I n s) : codeAny (model prog w) A (.compLoop (.ListComp elt [⟨target, iter, ifs, 0⟩] scope pos) 0 it acc env) R s := by
  refine codeAny_loop rfl I (fun n s hI => ?_) n h
  show wpAny _ A ((compTurn (.ListComp elt [⟨target, iter, ifs, 0⟩] scope pos) 0 it acc env).onRaise (fun x => do noteFrame x env; theTreesLotGoes x)) _ _ s
  refine wpAny_noted ?_
  rw [compTurn_list]
  refine wpAny_bind (wpAny_standAt (wpAny_bind (wpAny_mono (turn n s hI) (fun r s₁ h₁ => ?_) fun _ _ z => z.elim)))
  cases r with
  | none => exact wpAny_pure h₁
  | some v =>
    refine wpAny_bind (wpAny_mono h₁ (fun _ s₁' h₁' => ?_) fun _ _ z => z.elim)
    refine wpAny_bind (wpAny_mono h₁' (fun _ s₂ h₂ => wpAny_bind (wpAny_mono h₂ (fun ok s₃ h₃ => ?_) fun _ _ z => z.elim)) fun _ _ z => z.elim)
    cases ok with
    | false => exact wpAny_pure ⟨rfl, h₃⟩
    | true =>
      exact wpAny_bind (wpAny_bind (wpAny_mono h₃ (fun x s₄ h₄ => wpAny_bind (wpAny_mono h₄ (fun _ s₅ h₅ => wpAny_pure (wpAny_pure ⟨rfl, h₅⟩)) fun _ _ z => z.elim)) fun _ _ z => z.elim))
structure Gone (X : Cx) (pins : List (Addr × Obj)) (H : Hp) (C : Addr) (s : Shared) : Prop where
  ns : ∃ m, s.heap.Ns C m
  fp : FpOk X pins H C
theorem comp_core {X : Cx} {elt iter : Expr} {x : Str} {px pos pos' : Pos} {ifs : List Expr} {scope : Scope} {cl : List (Str × Addr)} {NB : List Str} {cap : List Nat} {wi : TI} {tt : TT} {te : TE}
    {pins : List (Addr × Obj)} {s : Shared} {σ : St} {H : Hp} {Q : VK} {use : Option (Value → Sem Unit)} {R : Value → Shared → Prop}
    (B : Blk X scope cl x NB cap) (hc : X.calm = true) (hex : X.ex = []) (hi : PI X (.Name x px) iter wi)
    (ht : ∀ C fp s₀ H₀, PTs (X.blk scope cl C (x :: NB) fp s₀ H₀) ifs tt) (he : ∀ C fp s₀ H₀, PE (X.blk scope cl C (x :: NB) fp s₀ H₀) elt te)
    (hs : ∀ v, foldedSetIterable iter X.env v = pure v) (I : Inv X pins σ H s) (h : tComp wi tt te cap σ H Q)
    (fin : ∀ (D C : Addr) (H' : Hp) (s' : Shared), Inv X pins σ H' s' → Gone X pins H' C s' → Q (.ref D) H' → compPost (model X.prog X.w) X.A X.xe use R (.ref D) C (.ok .next) s') :
    wpAny (model X.prog X.w) X.A (comprehension (.ListComp elt [⟨.Name x px, iter, ifs, 0⟩] scope pos) scope X.env pos' (newList []) false (eval iter X.env) use) R X.xe s := by
  refine wpAny_comprehension_free (use := use) rfl hs B.clos B.kind B.names (thn (hi pins s σ H _ I h) fun v s1 h1 => thn h1 fun itv s2 h2 => ?_)
  obtain ⟨it, fp, tn, J, H2, e, I2, T, st2, f2, h2⟩ := h2
  subst e
  refine wpAny_newObj_type (wpAny_newFunctionEnv B.nocell (by intro y hy; simp at hy) (fun h₁ hns₁ hsb₁ => ?_) B.kind)
  dsimp only at hns₁ hsb₁ ⊢
  have I3 := I2.lnew (ys := []) (its := []) (t' := s2.toks) .nil (Nat.zero_le _)
  have hD := I2.fresh
  obtain ⟨W, ⟨m0, w0⟩, turn⟩ := h2 _ hD
  generalize eD : s2.heap.objs.size = D at hD I3 W w0 turn ⊢
  generalize eH2 : s2.heap.push { cls := .type "list", dict := none, data := .seq ([] : List Value).toArray } = G3 at hns₁ hsb₁ I3 ⊢
  generalize eH3 : upd H2 D (.lst []) = H3 at I3 w0
  have hC : G3.objs.size = D + 1 := by rw [← eH2, Heap.size_push, eD]
  generalize eC : G3.objs.size = C at hns₁ hsb₁ hC ⊢
  -- what stood ahead of the block stands in it
  have old : ∀ b o, G3.get? b = some o → h₁.get? b = some o := fun b o e =>
    hsb₁.extBut b o (by rw [← eC]; exact Nat.ne_of_lt (Heap.lt_size e)) (Heap.get?_push_of_some _ e)
  have old2 : ∀ b o, s2.heap.get? b = some o → G3.get? b = some o := fun b o e => by rw [← eH2]; exact Heap.get?_push_of_some _ e
  have fpo : ∀ b ∈ fp, b < D := fun b hb => by
    obtain ⟨o, e, _⟩ := T.obj 0 _ st2 b hb
    rw [← eD]; exact Heap.lt_size e
  have fpx : ∀ b ∈ fp, b ∉ frs X.stack := fun b hb z => by
    obtain ⟨f0, f1, f2', _⟩ := f2 b hb
    rcases List.mem_cons.mp (I2.stkSub b z) with q | q
    · exact f1 q
    · exact f2' q
  let Y : Cx := X.blk scope cl C (x :: NB) fp { s2 with heap := G3, toks := s2.toks } H3
  have okY : Y.Ok := by
    refine ⟨I3.ok.mod, B.kind, I3.ok.glob, I3.ok.blt, ?_, ?_, B.has, ?_, I3.ok.hd, I3.ok.frames, .inl rfl, ?_, I3.bs, ?_, ?_, ?_, I3.stack, I3.stkFree⟩
    · show G3.objs.size ≤ C
      omega
    · intro y z c e1 e2
      exact I3.ok.inj y z c (B.cells y c e1) (B.cells z c e2)
    · intro y c z
      cases z
    · intro b hb
      have hb' : b ∈ fp := by
        have : b ∈ X.ex ++ fp := hb
        rw [hex] at this; simpa using this
      refine ⟨?_, fun y c e => (f2 b hb').2.2.2.2.1 y c (B.cells y c e)⟩
      show b ≠ C
      exact Nat.ne_of_lt (Nat.lt_of_lt_of_le (fpo b hb') (by rw [hC]; exact Nat.le_succ _))
    · show X.base.objs.size ≤ G3.objs.size
      exact Nat.le_trans I3.ok.bsz I3.sz
    · intro b o e hb
      have hb' : b ∈ fp := by
        have : b ∈ X.ex ++ fp := hb
        rw [hex] at this; simpa using this
      rcases (f2 b hb').2.2.2.1 with z | z
      · rw [hex] at z; cases z
      · exact absurd (Nat.lt_of_lt_of_le (Nat.lt_of_lt_of_le (Heap.lt_size e) I3.ok.bsz) z) (Nat.lt_irrefl _)
    · intro b hb
      have hb' : b ∈ fp := by
        have : b ∈ X.ex ++ fp := hb
        rw [hex] at this; simpa using this
      exact fpx b hb'
  have IY : Inv Y [] (none :: capσ cap σ) H3 { s2 with heap := h₁, toks := s2.toks } := by
    refine ⟨okY, rfl, I3.bare, Un.kept old, ⟨_, hns₁, ?_⟩, ?_, ?_, ?_, ?_, I3.hok.kept old, ?_⟩
    · intro j y v e1 e2 hv
      cases j with
      | zero => cases e2
      | succ j =>
        have e1' : NB[j]? = some y := e1
        have e2' : (capσ cap σ)[j]? = some (some v) := e2
        unfold capσ at e2'
        rw [List.getElem?_map] at e2'
        cases ec : cap[j]? with
        | none => rw [ec] at e2'; cases e2'
        | some i =>
          rw [ec] at e2'
          have e3 : σ[i]?.join = some v := Option.some.inj e2'
          have e4 : σ[i]? = some (some v) := by
            cases q : σ[i]? with
            | none => rw [q] at e3; cases e3
            | some z => rw [q] at e3; exact congrArg some e3
          obtain ⟨y', n1, n2, n3, n4, n5⟩ := B.cap j i ec
          rw [e1'] at n1
          cases n1
          obtain ⟨m, hn, hl⟩ := I3.loc
          obtain ⟨u, r, lk⟩ := hl i y v n2 e4 n3
          refine ⟨u, r, .inr ⟨n5, ?_⟩⟩
          obtain ⟨c, hcl⟩ := B.has y n5
          refine ⟨c, hcl, ?_⟩
          rcases lk with ⟨k1, _⟩ | ⟨_, c', ec', cell⟩
          · rcases n4 with n4 | n4 <;> (rw [n4] at k1; cases k1)
          · rw [B.cells y c hcl] at ec'
            cases ec'
            obtain ⟨o, ho, hd⟩ := cell
            exact ⟨o, old c o ho, hd⟩
    · intro y c e
      obtain ⟨v, o, ho, hd⟩ := I3.cell y c (B.cells y c e)
      exact ⟨v, o, old c o ho, hd⟩
    · exact I3.hok.fresh (show G3.objs.size ≤ C by omega)
    · intro y c e
      exact I3.freeC y c (B.cells y c e)
    · intro p hp
      cases hp
    · show (none :: capσ cap σ).length = (x :: NB).length
      rw [List.length_cons, List.length_cons, ← B.len]
      unfold capσ
      rw [List.length_map]
  have fpY : ∀ {H' : Hp}, (∀ b ∈ fp, H' b = none) → ∀ b ∈ fp, FpOk Y [] H' b := fun {H'} hn b hb => by
    refine ⟨hn b hb, ?_, fpx b hb, .inl ?_, fun y c e => (f2 b hb).2.2.2.2.1 y c (B.cells y c e), fun p hp => by cases hp⟩
    · show b ≠ C
      exact Nat.ne_of_lt (Nat.lt_of_lt_of_le (fpo b hb) (by rw [hC]; exact Nat.le_succ _))
    · show b ∈ X.ex ++ fp
      exact List.mem_append_right _ hb
  have st4 : tn 0 h₁ := T.keep _ _ _ st2 fun b hb o e => old b o (old2 b o e)
  have fr4 : ∀ b ∈ fp, H3 b = none := fun b hb => by
    rw [← eH3, upd_ne (Nat.ne_of_lt (fpo b hb))]; exact (f2 b hb).1
  -- behind the block
  have leave : ∀ (H' : Hp) (s' : Shared), Inv Y [] (none :: capσ cap σ) H' s' → Q (.ref D) H' → compPost (model X.prog X.w) X.A X.xe use R (.ref D) C (.ok .next) s' := by
    intro H' s' I' q
    obtain ⟨m, hn, _⟩ := id I'.loc
    have u := I'.base
    have I5 : Inv X pins σ H' s' := by
      refine I3.call' (s' := s') (ch := X.ex ++ fp) I'.os u I'.hok I'.bare fun b hb => ?_
      have hb' : b ∈ fp := by rw [hex] at hb; simpa using hb
      obtain ⟨f0, f1, f2', f3, f4, f5⟩ := f2 b hb'
      exact ⟨f3, f1, f4, f5⟩
    exact fin D C H' s' I5 ⟨⟨m, hn⟩, I3.fpOk (show G3.objs.size ≤ C by rw [eC]; exact Nat.le_refl _) I'.free⟩ q
  have loop : ∀ s₄ : Shared, s₄ = { s2 with heap := h₁, toks := s2.toks } →
      codeAny (model X.prog X.w) X.A (.compLoop (.ListComp elt [⟨.Name x px, iter, ifs, 0⟩] scope pos) 0 (.ref it) (.ref D) (compEnvC scope cl C X.env)) (compPost (model X.prog X.w) X.A X.xe use R (.ref D) C) s₄ := by
    rintro s₄ rfl
    refine compLoop_own (fun n s' => ∃ i ys H', Inv Y [] (none :: capσ cap σ) H' s' ∧ tn i s'.heap ∧ (∀ b ∈ fp, H' b = none) ∧ W i n ys H') ?_ m0 ⟨0, [], H3, IY, st4, fr4, w0⟩
    rintro n s3 ⟨i, ys, H', I', st', fr', w'⟩
    obtain ⟨hDl, tr⟩ := turn i n ys H' w'
    rcases tr with ⟨stop, q⟩ | ⟨go, step⟩
    · refine thn (T.done Y rfl rfl rfl hc i [] s3 _ H' (fun _ _ => False) I' (fpY fr') st' stop) fun r s4 ⟨hr, I4⟩ => ?_
      subst hr
      exact leave H' s4 I4 q
    · refine thn (T.item Y rfl rfl rfl hc i [] s3 _ H' (fun _ _ => False) I' (fpY fr') st' go) fun r s4 ⟨u, hr, h4⟩ => ?_
      subst hr
      refine thn h4 fun _ s5 ⟨v, H5, I5, r5, y5, st5, fr5⟩ => ?_
      have I5' := I5.pinned (fpY fr5) (T.obj _ _ st5)
      have back : ∀ {σ7 : St} {H7 : Hp} {s7 : Shared}, Inv Y ([] ++ pinsAt fp s5.heap) (some v :: capσ cap σ) H7 s7 → Inv Y [] (none :: capσ cap σ) H7 s7 ∧ tn (i + 1) s7.heap ∧ ∀ b ∈ fp, H7 b = none := fun {σ7 H7 s7} I7 => by
        refine ⟨I7.unpinned.weak (by simp) fun j z e => ?_, T.keep _ _ _ st5 fun b hb o e => (I7.pin (b, o) (List.mem_append_right _ (List.mem_append_right _ (mem_pinsAt hb e)))).1, fun b hb => ?_⟩
        · cases j with
          | zero => cases e
          | succ j => exact e
        · obtain ⟨o, e, d⟩ := T.obj _ _ st5 b hb
          exact (I7.pin (b, o) (List.mem_append_right _ (List.mem_append_right _ (mem_pinsAt hb e)))).2.1
      have hgN : PG Y (.Name x px) (gName 0) := pg_name (i := 0) B.nd rfl (.inl (lookup_relabel_local B.own)) (.inr (lookup_relabel_local B.own))
      refine thn (hgN _ s5 _ H5 v u (fun σ6 H6 => σ6 = some v :: capσ cap σ ∧ H6 = H5) I5' r5 ⟨rfl, rfl⟩) fun _ s6 ⟨σ6, H6, I6, e6, e6'⟩ => ?_
      subst e6 e6'
      refine thn (ht C fp _ _ _ s6 _ H6 _ I6 (step v H6 y5)) fun ok s7 ⟨H7, I7, q7⟩ => ?_
      cases ok with
      | false =>
        simp only [Bool.false_eq_true, if_false] at q7 ⊢
        obtain ⟨m', hm, w7⟩ := q7
        obtain ⟨a, b, c⟩ := back (σ7 := []) I7
        exact ⟨m', hm, i + 1, ys, H7, a, b, c, w7⟩
      | true =>
        simp only [if_true] at q7 ⊢
        refine thn (he C fp _ _ _ s7 _ H7 _ I7 q7) fun u8 s8 ⟨v8, H8, I8, r8, q8⟩ => ?_
        obtain ⟨d8, l8, m', hm, w8⟩ := q8
        refine thn (mt_append (X := Y) _ s8 _ H8 (.ref D) [v8] (.ref D) [u8] (fun _ H9 => H9 = upd H8 D (.lst (ys ++ [v8]))) I8 rfl (.cons r8 .nil) ⟨D, ys, v8, rfl, rfl, d8, l8, rfl⟩) fun _ s9 ⟨_, H9, I9, _, e9⟩ => ?_
        subst e9
        obtain ⟨a, b, c⟩ := back (σ7 := []) I9
        exact ⟨m', hm, i + 1, ys ++ [v8], _, a, b, c, w8⟩
  refine codeAny_compStart_list (loop _ ?_) (T.self _ 0 _ _ _ ?_ (loop _ ?_))
  · rfl
  · exact st4
  · rfl
theorem pe_comp {X : Cx} {elt iter : Expr} {x : Str} {px pos : Pos} {ifs : List Expr} {scope : Scope} {cl : List (Str × Addr)} {NB : List Str} {cap : List Nat} {wi : TI} {tt : TT} {te : TE}
    (B : Blk X scope cl x NB cap) (hc : X.calm = true) (hex : X.ex = []) (hi : PI X (.Name x px) iter wi)
    (ht : ∀ C fp s₀ H₀, PTs (X.blk scope cl C (x :: NB) fp s₀ H₀) ifs tt) (he : ∀ C fp s₀ H₀, PE (X.blk scope cl C (x :: NB) fp s₀ H₀) elt te)
    (hs : ∀ v, foldedSetIterable iter X.env v = pure v := by intro _; rfl) : PE X (.ListComp elt [⟨.Name x px, iter, ifs, 0⟩] scope pos) (tComp wi tt te cap) := by
  intro pins s σ H Q I h
  rw [eval_ListComp]
  refine comp_core (use := none) (R := EP X pins σ Q) B hc hex hi ht he hs I h fun D C H' s' I' G q => ?_
  obtain ⟨m, hn⟩ := G.ns
  obtain ⟨f0, f1, f2, f3, f4, f5⟩ := G.fp
  refine ⟨m, hn, fun h' hs' => ⟨.ref D, H', ?_, rfl, q⟩⟩
  exact I'.turned (t' := s'.toks) (fun b o hb e => (hs'.2 b hb).trans e) f0 f1 f3 f4 f5
end L2
end
section
set_option linter.all false
set_option maxRecDepth 100000
set_option maxHeartbeats 4000000
namespace L2
open PySem PySem.Spec PyProof.Rows
section
variable {X : Cx}
theorem op_eqNil (hu : X.A.units < cLine) : OpR X (compareOp .Eq) (fun x y H Q => ∃ a b xs, x = .ref a ∧ y = .ref b ∧ SqL X.K H a xs ∧ SqL X.K H b [] ∧ Q (.bl (decide (xs = []))) H) := by
  intro pins s σ H x y v u Q I rx ry h
  obtain ⟨a, b, xs, rfl, rfl, ha, hb, q⟩ := h
  cases rx
  cases ry
  obtain ⟨its, r1, p1, _⟩ := I.list ha
  obtain ⟨its2, r2, p2, _⟩ := I.list hb
  cases r2
  cases xs with
  | nil =>
    cases r1
    exact SeqAt.eq_listAt (e := fun _ => true) p1.isList p2.isList rfl hu (fun j h1 _ => absurd h1 (by simp)) ⟨.bl true, H, I, rfl, by simpa using q⟩
  | cons z zs =>
    cases r1 with
    | cons _ _ => exact SeqAt.eq_list_lengthsAt p1.isList p2.isList (by simp) hu ⟨.bl false, H, I, rfl, by simpa using q⟩
theorem op_neNil (hu : X.A.units < cLine) : OpR X (compareOp .NotEq) (fun x y H Q => ∃ a b xs, x = .ref a ∧ y = .ref b ∧ SqL X.K H a xs ∧ SqL X.K H b [] ∧ Q (.bl (!decide (xs = []))) H) := by
  intro pins s σ H x y v u Q I rx ry h
  obtain ⟨a, b, xs, rfl, rfl, ha, hb, q⟩ := h
  cases rx
  cases ry
  obtain ⟨its, r1, p1, _⟩ := I.list ha
  obtain ⟨its2, r2, p2, _⟩ := I.list hb
  cases r2
  cases xs with
  | nil =>
    cases r1
    exact SeqAt.RcNeAt.lists (e := fun _ => true) p1.isList p2.isList rfl hu (fun j h1 _ => absurd h1 (by simp)) _ _ _ _ ⟨.bl false, H, I, rfl, by simpa using q⟩
  | cons z zs =>
    cases r1 with
    | cons _ _ => exact SeqAt.RcNeAt.lists_lengths p1.isList p2.isList (by simp) hu _ _ _ _ ⟨.bl true, H, I, rfl, by simpa using q⟩
theorem call_sumL (hc : X.calm = true) : CallR X (.builtin "sum") (fun zs H Q => ∃ (p : Addr) (ns : List Int), zs = [.ref p] ∧ SqL X.K H p (ns.map V.int) ∧ Q (.int ns.sum) H) := by
  intro pins s σ H zs us Q I r h
  obtain ⟨p, ns, rfl, hq, q⟩ := h
  obtain ⟨u, rfl, ru⟩ := vals1 r
  cases ru
  obtain ⟨its, rv, pl, hz⟩ := I.list hq
  have hl := pl.isList
  obtain ⟨o, ho, hcl, n, hd⟩ := id hl
  have hne : p ≠ s.heap.objs.size := Nat.ne_of_lt (Heap.lt_size ho)
  have hlen : its.toArray.size = ns.length := by rw [List.size_toArray, ← rv.length, List.length_map]
  have W := (Walks.list (prog := X.prog) (w := X.w) (A := X.A.in1) (I.ok.hd hc) s.heap.objs.size p hne its.toArray).toS
  rw [hlen] at W
  refine call_sum_walkAnyS (wpAny_pyIter_list hl ?_)
  refine ⟨s.heap.objs.size, _, _, _, _, _, _, fun i => ns.getD i 0, rfl, W, ⟨⟨_, Heap.get?_push_size _ rfl, rfl, rfl⟩, hl.at fun o e => Heap.get?_push_of_some _ e⟩, fun b hb => ?_, fun i v hP => ?_, fun s' t' hm => ?_⟩
  · rcases List.mem_cons.mp hb with rfl | hb
    · exact Heap.lt_size (Heap.get?_push_size _ rfl)
    · obtain rfl := List.mem_singleton.mp hb
      exact Heap.lt_size (Heap.get?_push_of_some _ ho)
  · have hP' : its[i]? = some v := by simpa using hP
    have hi : i < ns.length := by
      have := (List.getElem?_eq_some_iff.mp hP').1
      rw [← rv.length, List.length_map] at this; exact this
    have hx : (ns.map V.int)[i]? = some (.int (ns.getD i 0)) := by
      rw [List.getElem?_map, List.getElem?_eq_getElem hi]
      simp [List.getD, List.getElem?_eq_getElem hi]
    obtain ⟨u, hu, t, e⟩ := rv.get hx
    rw [hP'] at hu
    cases hu
    exact ⟨t, e⟩
  · obtain ⟨h', g', d', tk', os'⟩ := s'
    have e1 : g' = s.gens := hm.gens
    have e2 : d' = s.drawn := hm.drawn
    have e3 : os' = s.os := hm.os
    subst e1 e2 e3
    have hs : preSum (fun i => ns.getD i 0) ns.length = ns.sum := by rw [preSum_getD, List.take_length]
    rw [hs]
    refine ⟨.int ns.sum, H, I.kept (t' := tk') fun b o e => hm.heap b o (fun hb => absurd (Heap.lt_size e) ((List.mem_singleton.mp hb) ▸ Nat.lt_irrefl _)) (Heap.get?_push_of_some _ e), ⟨_, rfl⟩, q⟩
theorem vals_of {α : Type} (f : α → V) : ∀ (l : List α) (us : List Value), us.length = l.length → (∀ (j : Nat) v, us[j]? = some v → ∃ a, l[j]? = some a ∧ RelV (f a) v) → Vals (l.map f) us
  | [], us, h, _ => by
    cases us with
    | nil => exact .nil
    | cons _ _ => cases h
  | a :: l, us, h, k => by
    cases us with
    | nil => cases h
    | cons u us =>
      obtain ⟨b, e, r⟩ := k 0 u rfl
      cases e
      exact .cons r (vals_of f l us (by simpa using h) fun j v e => k (j + 1) v e)
theorem call_listStr (hc : X.calm = true) : CallR X (.type "list") (fun zs H Q => ∃ x, zs = [.str x] ∧ x.cps.size ≤ sizeLine ∧ ∀ l, H l = none → Q (.ref l) (upd H l (.lst (x.cps.toList.map fun c => .str ⟨#[c]⟩)))) := by
  intro pins s σ H zs us Q I r h
  obtain ⟨x, rfl, hz, q⟩ := h
  obtain ⟨u, rfl, t, rfl⟩ := vals1 r
  refine call_list_str (I.ok.hd hc) x t (fun h' tk acc' c' kp e it => ?_) hz
  refine ⟨.ref s.heap.objs.size, _, I.laid (o := .lst (x.cps.toList.map fun c => V.str ⟨#[c]⟩)) kp (Nat.le_refl _) ?_, rfl, q _ (I.hok.fresh (Nat.le_refl _))⟩
  refine ⟨by rw [List.length_map]; simpa using hz, acc'.toList, c', vals_of _ _ _ ?_ fun j v ej => ?_, by simpa using e⟩
  · have := it.1
    simpa using this
  · obtain ⟨c, w, e1, e2⟩ := it.2 j v (by simpa using ej)
    exact ⟨c, by simpa using e1, w, e2⟩
theorem call_range1 : CallR X (.type "range") (fun zs H Q => ∃ n, zs = [.int n] ∧ ∀ p, H p = none → Q (.ref p) (upd H p (.rng 0 n))) := by
  intro pins s σ H zs us Q I r h
  obtain ⟨n, rfl, q⟩ := h
  obtain ⟨u, rfl, t, rfl⟩ := vals1 r
  exact call_range_1 ⟨.ref s.heap.objs.size, _, I.laid (o := .rng 0 n) (fun b o e => Heap.get?_push_of_some _ e) (Nat.le_refl _) ⟨_, _, _, Heap.get?_push_size _ rfl⟩, rfl, q _ (I.hok.fresh (Nat.le_refl _))⟩
theorem call_listRange (hc : X.calm = true) : CallR X (.type "list") (fun zs H Q => ∃ p n, zs = [.ref p] ∧ H p = some (.rng 0 (n : Nat)) ∧ n ≤ 16777216 ∧ ∀ l, H l = none → Q (.ref l) (upd H l (.lst ((List.range n).map fun (k : Nat) => .int k)))) := by
  intro pins s σ H zs us Q I r h
  obtain ⟨p, n, rfl, hp, hn, q⟩ := h
  obtain ⟨u, rfl, ru⟩ := vals1 r
  cases ru
  obtain ⟨t, u, v, e⟩ := I.hok p _ hp
  have hs : sizeLine = 16777216 := sizeLine_eq
  have rs : Builtin.Range.rangeSize 0 (n : Int) 1 = (n : Int) := by rw [rangeSize_one]; split <;> omega
  refine call_list_range (I.ok.hd hc) (show IsRange s.heap p 0 n 1 t u v from e) (small_one (by omega) (by omega) (by omega) (by omega)) rs (by omega) fun h' tk acc' c' kp e' it => ?_
  refine ⟨.ref s.heap.objs.size, _, I.laid (o := .lst ((List.range n).map fun (k : Nat) => V.int k)) kp (Nat.le_refl _) ?_, rfl, q _ (I.hok.fresh (Nat.le_refl _))⟩
  refine ⟨by rw [List.length_map, List.length_range]; omega, acc'.toList, c', vals_of _ _ _ ?_ fun j v ej => ?_, by simpa using e'⟩
  · have := it.1
    simpa using this
  · have hj : j < n := by
      have := (List.getElem?_eq_some_iff.mp ej).1
      rw [Array.length_toList, it.1] at this; exact this
    obtain ⟨w, e2⟩ := it.2 j v (by simpa using ej)
    exact ⟨j, by simp [hj], w, by rw [e2]; congr 1; omega⟩
def tRev (K : PySem.W.Frag) (te ts : TE) : TE := fun σ H Q => te σ H fun x H1 => ts σ H1 fun y H2 => y = .int (-1) ∧ ∃ a xs, x = .ref a ∧ SqL K H2 a xs ∧ ∀ p, H2 p = none → Q (.ref p) (upd H2 p (.lst xs.reverse))
theorem Vals.rev {xs : List V} {us : List Value} (r : Vals xs us) : Vals xs.reverse us.reverse := by
  induction r with
  | nil => exact .nil
  | cons r _ ih => rw [List.reverse_cons, List.reverse_cons]; exact ih.append (.cons r .nil)
theorem pe_rev {e st : Expr} {te ts : TE} {pos p2 : Pos} (he : PE X e te) (hst : PE X st ts) : PE X (.Subscript e (.Slice none none (some st) p2) pos) (tRev X.K te ts) := by
  intro pins s σ H Q I h
  refine Subscript_ (thn (he pins s σ H _ I h) fun v s1 ⟨x, H1, I1, r1, q1⟩ => ?_)
  refine wpAny_Slice ?_
  rw [evalPart_none]
  refine wpAny_pure (wpAny_pure ?_)
  rw [evalPart_some]
  refine thn (hst pins s1 σ H1 _ I1 q1) fun vs s3 ⟨y, H3, I3, r3, ey, a, xs, ex, hq, q3⟩ => ?_
  subst ey ex
  cases r1
  obtain ⟨t, rfl⟩ := r3
  have I4 : Inv X pins σ H3 { s3 with heap := s3.heap.push { cls := .type "slice", data := .fields #[.none, .none, .int (-1) t] } } := I3.kept (t' := s3.toks) fun b ob q => Heap.get?_push_of_some _ q
  show wpAny (model X.prog X.w) X.A (subscriptTail e (.Slice none none (some st) p2) (.ref a) (.ref s3.heap.objs.size)) (EP X pins σ Q) X.xe { s3 with heap := s3.heap.push { cls := .type "slice", data := .fields #[.none, .none, .int (-1) t] } }
  obtain ⟨its, r, ht, hz⟩ := I4.list hq
  have hlen := r.length
  refine tail_any (ops := [.ref a, .ref s3.heap.objs.size]) ht.isList.typeIs slot_list_getitem.lookup ?_ (by with_unfolding_all rfl)
  refine wpAny_getItem_list_slice ht.isList (Heap.IsSliceOf.new ..) .none .none (.int (-1) t) (by simp) ?_ (by rw [List.size_toArray] <;> omega)
  rw [PySem.W.krv_pick]
  refine ⟨.ref (s3.heap.push { cls := .type "slice", data := .fields #[.none, .none, .int (-1) t] }).objs.size, _, I4.laid (t' := s3.toks) (o := .lst xs.reverse) (fun b ob q => Heap.get?_push_of_some _ q) (Nat.le_refl _) ?_, rfl, q3 _ (I4.hok.fresh (Nat.le_refl _))⟩
  exact ⟨by rw [List.length_reverse]; exact hz, _, 0, r.rev, Heap.get?_push_size _ rfl⟩
theorem call_isi : CallR X (.builtin "isinstance") (fun zs H Q => ∃ x T t b, zs = [x, .ty T] ∧ TyOf X.K H x t ∧ PySem.W.kitOne X.K t (.type T) = some b ∧ Q (.bl b) H) := by
  intro pins s σ H zs us Q I r h
  obtain ⟨x, T, t, b, rfl, ty, e, q⟩ := h
  obtain ⟨u, w', rfl, ru, rw'⟩ := vals2 r
  cases rw'
  exact isinst_ok I ru ty e fun tk => ⟨.bl b, H, I.tok _, rfl, q⟩
end
end L2
end
section
set_option linter.all false
set_option maxRecDepth 100000
set_option maxHeartbeats 4000000
namespace L2
open PySem PySem.Spec PyProof.Rows
def CDivB (_ j : Int) : Prop := 0 < j ∧ j < 2 ^ 200
theorem op_fdivB {X : Cx} : OpR X (binaryOp .FloorDiv) (rI CDivB fun i j => .int (i / j)) := opI fun i j _ _ _ _ _ hc q => by
  have h1 : (0 : Int) < j := hc.1
  have h2 : j < 2 ^ 200 := hc.2
  rw [← Int.fdiv_eq_ediv_of_nonneg i (by omega)] at q
  refine floordiv_int (by omega) q (.inl (PyProof.noPylong_of_log2 ?_))
  have h3 : j.natAbs < 2 ^ 200 := by omega
  have h4 : j.natAbs.log2 < 200 := (Nat.log2_lt (by omega)).mpr h3
  omega
structure Bl (mg : Str → Option Value) : Prop where
  z_len : mg "len" = none
  z_sum : mg "sum" = none
  z_abs : mg "abs" = none
  z_range : mg "range" = none
  z_list : mg "list" = none
  z_tuple : mg "tuple" = none
  z_int : mg "int" = none
  z_bool : mg "bool" = none
  z_sorted : mg "sorted" = none
  z_isinstance : mg "isinstance" = none
structure Nm (K : PySem.W.Frag) (mg : Str → Option Value) (x : Str) (a : Addr) (fd : FuncData) (ps : List Str) : Prop where
  m : mg x = some (.ref a)
  k : PySem.W.keepIn K (.ref a) = true
  b : Binds K fd ps []
structure Deck (H : Hp) (d c : Addr) (cs : List Int) (at' seed : Int) : Prop where
  hd : H d = some (.lst [.ref c, .int at', .int seed])
  hc : H c = some (.lst (cs.map V.int))
  l1 : 1 ≤ cs.length
  l2 : cs.length ≤ 64
theorem Deck.ne {H : Hp} {d c : Addr} {cs : List Int} {at' seed : Int} (D : Deck H d c cs at' seed) : d ≠ c := by
  refine ne_of D.hd D.hc fun e => ?_
  cases cs with
  | nil => cases e
  | cons a l => cases e
def Kd (d c : Addr) (H H' : Hp) : Prop := ∀ b o, H b = some o → b ≠ d → b ≠ c → H' b = some o
theorem Kd.refl {d c : Addr} {H : Hp} : Kd d c H H := fun _ _ h _ _ => h
theorem Kd.trans {d c : Addr} {H H1 H2 : Hp} (a : Kd d c H H1) (b : Kd d c H1 H2) : Kd d c H H2 := fun x o h n1 n2 => b x o (a x o h n1 n2) n1 n2
def spTake : Sp := fun vs H Q _ => ∃ d c cs at' seed many, vs = [.ref d, .int many] ∧ Deck H d c cs at' seed ∧ 0 < many ∧ many < 2 ^ 100 ∧
  ∀ k cs' at2 H', 0 ≤ k → k < many → Deck H' d c cs' at2 seed → Kd d c H H' → (∀ b, H b = none → H' b = none) → Q (.int k) H'
theorem ix_int {cs : List Int} {i : Int} (h0 : 0 ≤ i) (h1 : i < cs.length) : atI (cs.map V.int) i = some (.int (cs.getD i.toNat 0)) := by
  have h2 : i.toNat < cs.length := by omega
  have e : (cs.map V.int)[i.toNat]? = some (.int (cs.getD i.toNat 0)) := by
    rw [List.getElem?_map, List.getElem?_eq_getElem h2]
    simp [List.getD, List.getElem?_eq_getElem h2]
  have := atI_nat e
  rwa [Int.toNat_of_nonneg h0] at this
theorem ixN_ok {n : Nat} {i : Int} (h0 : 0 ≤ i) (h1 : i < n) : ixN n i = some i.toNat := by
  unfold ixN
  rw [if_pos h0, if_pos h1]
theorem mod_lo {a b : Int} (h : 0 < b) : 0 ≤ a % b := Int.emod_nonneg _ (by omega)
theorem mod_hi {a b : Int} (h : 0 < b) : a % b < b := Int.emod_lt_of_pos _ h
end L2
end
section
set_option linter.all false
set_option maxRecDepth 100000
set_option maxHeartbeats 4000000
namespace L2
open PySem PySem.Spec PyProof.Rows
def freesOf (names : List (Str × NameKind)) : List Str := (names.filter fun y => y.2 == .free).map (·.1)
def clOf (scope : Scope) (env : Env) : List (Str × Addr) := (freesOf scope.names).reverse.map fun n => (n, (env.cells.lookup n).getD 0)
theorem lookup_map {g : Str → Addr} {y : Str} {c : Addr} : ∀ {l : List Str}, (l.map fun n => (n, g n)).lookup y = some c → y ∈ l ∧ c = g y
  | [], h => by cases h
  | a :: l, h => by
    rw [List.map_cons, List.lookup_cons] at h
    cases e : y == a with
    | true =>
      rw [e] at h
      have e' : y = a := by simpa using e
      subst e'
      exact ⟨List.mem_cons_self, (Option.some.inj h).symm⟩
    | false =>
      rw [e] at h
      obtain ⟨m, q⟩ := lookup_map h
      exact ⟨List.mem_cons_of_mem _ m, q⟩
theorem lookup_map_mem {g : Str → Addr} {y : Str} : ∀ {l : List Str}, y ∈ l → (l.map fun n => (n, g n)).lookup y = some (g y)
  | [], h => by cases h
  | a :: l, h => by
    rw [List.map_cons, List.lookup_cons]
    cases e : y == a with
    | true =>
      have e' : y = a := by simpa using e
      subst e'
      rfl
    | false =>
      rcases List.mem_cons.mp h with z | z
      · subst z; simp at e
      · exact lookup_map_mem z
theorem closure_go (env : Env) : ∀ (names : List (Str × NameKind)) (acc : List (Str × Addr)), (∀ n ∈ freesOf names, ∃ c, env.cells.lookup n = some c) →
    (forIn names acc fun y cs => if (y.2 == NameKind.free) = true then (do let c ← cellOf env y.1; pure (ForInStep.yield ((y.1, c) :: cs))) else pure (ForInStep.yield cs) : Sem (List (Str × Addr))) =
      pure ((freesOf names).reverse.map (fun n => (n, (env.cells.lookup n).getD 0)) ++ acc)
  | [], acc, _ => by rw [List.forIn_nil]; rfl
  | (n, k) :: r, acc, h => by
    rw [List.forIn_cons]
    cases e : k == NameKind.free with
    | true =>
      have hn : freesOf ((n, k) :: r) = n :: freesOf r := by unfold freesOf; rw [List.filter_cons_of_pos (by simpa using e)]; rfl
      rw [hn] at h ⊢
      obtain ⟨c, hc⟩ := h n List.mem_cons_self
      simp only [e, if_true]
      have h2 : cellOf env n = pure c := by unfold cellOf; rw [hc]
      rw [h2]
      have ih := closure_go env r ((n, c) :: acc) fun m hm => h m (List.mem_cons_of_mem _ hm)
      show (forIn r ((n, c) :: acc) _ : Sem (List (Str × Addr))) = _
      rw [ih, List.reverse_cons, List.map_append, List.append_assoc]
      rw [List.map_cons, List.map_nil, hc]
      rfl
    | false =>
      have hn : freesOf ((n, k) :: r) = freesOf r := by unfold freesOf; rw [List.filter_cons_of_neg (by simpa using e)]
      rw [hn] at h ⊢
      simp only [e, Bool.false_eq_true, if_false]
      exact closure_go env r acc h
theorem closure_eq (scope : Scope) (env : Env) (h : ∀ n ∈ freesOf scope.names, ∃ c, env.cells.lookup n = some c) : closureFor scope env = pure (clOf scope env) := by
  have := closure_go env scope.names [] h
  rw [List.append_nil] at this
  simp only [closureFor]
  rw [this]
  rfl
theorem mem_frees {names : List (Str × NameKind)} {y : Str} (h : (y, NameKind.free) ∈ names) : y ∈ freesOf names := by
  unfold freesOf
  exact List.mem_map.mpr ⟨(y, .free), List.mem_filter.mpr ⟨h, by rfl⟩, rfl⟩
theorem of_frees {names : List (Str × NameKind)} {y : Str} (h : y ∈ freesOf names) : (y, NameKind.free) ∈ names := by
  unfold freesOf at h
  obtain ⟨⟨a, k⟩, hm, e⟩ := List.mem_map.mp h
  obtain ⟨h1, h2⟩ := List.mem_filter.mp hm
  cases e
  have : k = .free := by simpa using h2
  rw [← this]; exact h1
theorem relabel_kind {env : Env} : ∀ {names : List (Str × NameKind)} {y : Str} {k : NameKind},
    (names.map fun (n, k) => if (k == NameKind.free && env.scope.kind == .function && env.kindOf n == some .cell) then (n, NameKind.cell) else (n, k)).lookup y = some k → (k = .cell ∨ k = .free) → (∀ z ∈ names, z.2 ≠ .cell) → (y, NameKind.free) ∈ names
  | [], y, k, h, _, _ => by cases h
  | (n, k0) :: r, y, k, h, hk, hn => by
    rw [List.map_cons] at h
    dsimp only at h
    by_cases hc : (k0 == NameKind.free && env.scope.kind == .function && env.kindOf n == some .cell) = true
    · rw [if_pos hc, List.lookup_cons] at h
      have hf : k0 = .free := by
        rw [Bool.and_eq_true, Bool.and_eq_true] at hc
        simpa using hc.1.1
      cases e : y == n with
      | true =>
        have e' : y = n := by simpa using e
        subst e'; subst hf
        exact List.mem_cons_self
      | false =>
        rw [e] at h
        exact List.mem_cons_of_mem _ (relabel_kind h hk fun z hz => hn z (List.mem_cons_of_mem _ hz))
    · rw [if_neg hc, List.lookup_cons] at h
      cases e : y == n with
      | true =>
        have e' : y = n := by simpa using e
        subst e'
        rw [e] at h
        have e2 : k0 = k := Option.some.inj h
        have := hn (y, k0) List.mem_cons_self
        rcases hk with z | z
        · rw [z] at e2; exact absurd e2 this
        · rw [z] at e2; rw [e2]; exact List.mem_cons_self
      | false =>
        rw [e] at h
        exact List.mem_cons_of_mem _ (relabel_kind h hk fun z hz => hn z (List.mem_cons_of_mem _ hz))
theorem relabel_free {env : Env} : ∀ {names : List (Str × NameKind)} {y : Str}, names.lookup y = some .free →
    (names.map fun (n, k) => if (k == NameKind.free && env.scope.kind == .function && env.kindOf n == some .cell) then (n, NameKind.cell) else (n, k)).lookup y = some .cell ∨
    (names.map fun (n, k) => if (k == NameKind.free && env.scope.kind == .function && env.kindOf n == some .cell) then (n, NameKind.cell) else (n, k)).lookup y = some .free
  | [], y, h => by cases h
  | (n, k0) :: r, y, h => by
    rw [List.lookup_cons] at h
    rw [List.map_cons]
    dsimp only
    by_cases hc : (k0 == NameKind.free && env.scope.kind == .function && env.kindOf n == some .cell) = true
    · rw [if_pos hc, List.lookup_cons]
      cases e : y == n with
      | true => exact .inl rfl
      | false => rw [e] at h; exact relabel_free h
    · rw [if_neg hc, List.lookup_cons]
      cases e : y == n with
      | true => rw [e] at h; exact .inr h
      | false => rw [e] at h; exact relabel_free h
theorem Blk.of {X : Cx} {scope esc : Scope} {x : Str} {N NB : List Str} {cap : List Nat} (eN : X.N = N) (eS : X.env.scope = esc) (hX : ∀ y, esc.names.lookup y = some .cell → ∃ c, X.env.cells.lookup y = some c)
    (hk : scope.kind = .function) (h1 : ∀ y ∈ scope.names, y.2 ≠ .cell) (h2 : ∀ y ∈ scope.names, y.2 = .local → scope.names.lookup y.1 = some .local) (h3 : ∀ y ∈ scope.names, y.2 = .free → esc.names.lookup y.1 = some .cell)
    (hl : cap.length = NB.length) (h4 : ∀ p ∈ NB.zip cap, N[p.2]? = some p.1 ∧ esc.names.lookup p.1 = some .cell ∧ scope.names.lookup p.1 = some .free) (h5 : scope.names.lookup x = some .local) (nd : (x :: NB).Nodup) :
    Blk X scope (clOf scope X.env) x NB cap := by
  have hfr : ∀ n ∈ freesOf scope.names, ∃ c, X.env.cells.lookup n = some c := fun n hn => hX n (h3 _ (of_frees hn) rfl)
  refine ⟨closure_eq scope X.env hfr, h1, hk, h2, fun y c e => ?_, fun y e => ?_, hl, fun j i e => ?_, h5, nd⟩
  · unfold clOf at e
    obtain ⟨m, q⟩ := lookup_map e
    obtain ⟨c', hc⟩ := hfr y (List.mem_reverse.mp m)
    rw [hc] at q
    rw [hc, q]; rfl
  · have hm : (y, NameKind.free) ∈ scope.names := by
      rcases e with e | e
      · exact relabel_kind e (.inl rfl) h1
      · exact relabel_kind e (.inr rfl) h1
    exact ⟨_, lookup_map_mem (List.mem_reverse.mpr (mem_frees hm))⟩
  · have hj : j < cap.length := (List.getElem?_eq_some_iff.mp e).1
    have hj2 : j < NB.length := by omega
    have ey : NB[j]? = some NB[j] := List.getElem?_eq_getElem hj2
    have ez : (NB.zip cap)[j]? = some (NB[j], i) := by rw [List.getElem?_zip_eq_some]; exact ⟨ey, e⟩
    obtain ⟨a1, a2, a3⟩ := h4 _ (List.mem_of_getElem? ez)
    refine ⟨NB[j], ey, by rw [eN]; exact a1, .inr (.inl (by rw [eS]; exact a2)), .inl (by show X.env.scope.names.lookup _ = _; rw [eS]; exact a2), ?_⟩
    exact relabel_free a3
end L2
end
section
set_option linter.all false
set_option maxRecDepth 100000
set_option maxHeartbeats 4000000
namespace L2
open PySem PySem.Spec PyProof.Rows
theorem atI_ex {α : Type} {l : List α} {i : Int} (h0 : 0 ≤ i) (h1 : i < l.length) : ∃ v, atI l i = some v ∧ v ∈ l := by
  have h2 : i.toNat < l.length := by omega
  have e : l[i.toNat]? = some l[i.toNat] := List.getElem?_eq_getElem h2
  have := atI_nat e
  rw [Int.toNat_of_nonneg h0] at this
  exact ⟨_, this, List.getElem_mem h2⟩
def AllS (xs : List V) : Prop := ∀ v ∈ xs, ∃ x, v = .str x
theorem comp_range {lo : Int} {n : Nat} {tt : TT} {te : TE} {cap : List Nat} {σ : St} {H : Hp} {D : Addr} {Q : VK} (Pv : Nat → List V → Hp → Prop) (h0 : Pv 0 [] (upd H D (.lst []))) (hD : ∀ i ys H, Pv i ys H → H D = some (.lst ys))
    (hs : ∀ i ys H, i < n → Pv i ys H → tt (some (.int (lo + i)) :: capσ cap σ) H fun b H3 =>
      if b = true then te (some (.int (lo + i)) :: capσ cap σ) H3 fun v H4 => H4 D = some (.lst ys) ∧ ys.length < sizeLine ∧ ∃ m', m' < n - i ∧ m' = n - (i + 1) ∧ i + 1 ≤ n ∧ Pv (i + 1) (ys ++ [v]) (upd H4 D (.lst (ys ++ [v])))
      else ∃ m', m' < n - i ∧ m' = n - (i + 1) ∧ i + 1 ≤ n ∧ Pv (i + 1) ys H3)
    (hd : ∀ ys H, Pv n ys H → Q (.ref D) H) :
    ∃ W : Nat → Nat → List V → Hp → Prop, (∃ m, W 0 m [] (upd H D (.lst []))) ∧ ∀ i m ys H, W i m ys H → H D = some (.lst ys) ∧
    (((Itr lo n).stop i H ∧ Q (.ref D) H) ∨ ((Itr lo n).go i H ∧ ∀ x H', (Itr lo n).yld i H x H' → tt (some x :: capσ cap σ) H' fun b H3 =>
      if b = true then te (some x :: capσ cap σ) H3 fun v H4 => H4 D = some (.lst ys) ∧ ys.length < sizeLine ∧ ∃ m', m' < m ∧ W (i + 1) m' (ys ++ [v]) (upd H4 D (.lst (ys ++ [v])))
      else ∃ m', m' < m ∧ W (i + 1) m' ys H3)) := by
  refine ⟨fun i m ys H => m = n - i ∧ i ≤ n ∧ Pv i ys H, ⟨n, by simp, Nat.zero_le _, h0⟩, ?_⟩
  rintro i m ys H ⟨rfl, hi, p⟩
  refine ⟨hD i ys H p, ?_⟩
  by_cases hlt : i < n
  · refine .inr ⟨hlt, fun x H' y => ?_⟩
    obtain ⟨e, y⟩ := y
    subst e y
    exact hs i ys _ hlt p
  · have e : i = n := by omega
    subst e
    exact .inl ⟨Nat.le_refl _, hd ys H p⟩
theorem Deck.upd {H : Hp} {d c : Addr} {cs : List Int} {a sd : Int} {p : Addr} {o : HO} (D : Deck H d c cs a sd) (h : H p = none) : Deck (upd H p o) d c cs a sd :=
  ⟨by rw [upd_ne (ne_of_none D.hd h)]; exact D.hd, by rw [upd_ne (ne_of_none D.hc h)]; exact D.hc, D.l1, D.l2⟩
theorem Deck.updNe {H : Hp} {d c : Addr} {cs : List Int} {a sd : Int} {p : Addr} {o : HO} (D : Deck H d c cs a sd) (h1 : p ≠ d) (h2 : p ≠ c) : Deck (L2.upd H p o) d c cs a sd :=
  ⟨by rw [upd_ne h1.symm]; exact D.hd, by rw [upd_ne h2.symm]; exact D.hc, D.l1, D.l2⟩
theorem Kd.new {d c : Addr} {H H1 : Hp} {p : Addr} {o : HO} (k : Kd d c H H1) (h : H1 p = none) : Kd d c H (upd H1 p o) := fun b u e n1 n2 => by
  have e1 := k b u e n1 n2
  rw [upd_ne (ne_of_none e1 h)]; exact e1
theorem Kd.put {d c : Addr} {H H1 : Hp} {p : Addr} {o : HO} (k : Kd d c H H1) (h : H p = none) : Kd d c H (upd H1 p o) := fun b u e n1 n2 => by
  rw [upd_ne (ne_of_none e h)]; exact k b u e n1 n2
end L2
namespace L2
open PySem PySem.Spec PyProof.Rows
theorem ix_listB {X : Cx} {K : PySem.W.Frag} (h : X.K = K) : IxR X (rIxL K) := by subst h; exact ix_list
end L2
namespace L2
open PySem PySem.Spec PyProof.Rows
def constV : Expr → Option V
  | .Constant (.int i) _ _ => some (.int i)
  | .Constant (.str x) _ _ => some (.str x)
  | _ => none
def constsV : List Expr → Option (List V)
  | [] => some []
  | e :: es => match constV e, constsV es with
    | some v, some vs => some (v :: vs)
    | _, _ => none
theorem pa_consts {X : Cx} : ∀ {es : List Expr} {vs : List V}, constsV es = some vs → PA X es (fun _ H Q => Q vs H)
  | [], vs, h => by
    cases h
    exact pa_nil
  | e :: es, vs, h => by
    unfold constsV at h
    cases e1 : constV e with
    | none => rw [e1] at h; cases h
    | some v =>
      cases e2 : constsV es with
      | none => rw [e1, e2] at h; cases h
      | some ws =>
        rw [e1, e2] at h
        cases h
        have ih := pa_consts (X := X) e2
        have he : PE X e (tC v) ∧ starEach (e :: es) X.env = (false, eval e X.env) :: starEach es X.env := by
          unfold constV at e1
          split at e1
          · cases e1; exact ⟨pe_int, rfl⟩
          · cases e1; exact ⟨pe_str, rfl⟩
          · cases e1
        exact pa_cons he.1 ih he.2
end L2
namespace L2
open PySem
theorem same_new {H : Hp} {p : Addr} {o : HO} (h : H p = none) : Same H (upd H p o) := fun b u e => by rw [upd_ne (ne_of_none e h)]; exact e
theorem same_upd {H H' : Hp} {p : Addr} {o : HO} (s : Same H H') (h : H p = none) : Same H (upd H' p o) := fun b u e => by rw [upd_ne (ne_of_none e h)]; exact s b u e
theorem AllS.app {xs ys : List V} (a : AllS xs) (b : AllS ys) : AllS (xs ++ ys) := fun v hv => (List.mem_append.mp hv).elim (a v) (b v)
theorem AllS.one {x : Str} : AllS [.str x] := fun v hv => ⟨x, List.mem_singleton.mp hv⟩
end L2
end
section
set_option linter.all false
set_option maxRecDepth 100000
set_option maxHeartbeats 4000000
namespace L2
open PySem PySem.Spec PyProof.Rows
@[irreducible] def QE (X : Cx) (e : Expr) (t : TE) : Prop := PE X e t
@[irreducible] def QT (X : Cx) (e : Expr) (t : TT) : Prop := PT X e t
@[irreducible] def QW (X : Cx) (e : Expr) (t : TT) : Prop := PW X e t
@[irreducible] def QA (X : Cx) (es : List Expr) (t : TA) : Prop := PA X es t
@[irreducible] def QS (X : Cx) (st : Stmt) (t : TS) : Prop := PS X st t
@[irreducible] def QSs (X : Cx) (st : List Stmt) (t : TS) : Prop := PSs X st t
@[irreducible] def QG (X : Cx) (e : Expr) (t : TG) : Prop := PG X e t
@[irreducible] def QGs (X : Cx) (e : List Expr) (t : TGs) : Prop := PGs X e t
@[irreducible] def QI (X : Cx) (tg iter : Expr) (wi : TI) : Prop := PI X tg iter wi
@[irreducible] def QTs (X : Cx) (ifs : List Expr) (t : TT) : Prop := PTs X ifs t
@[irreducible] def QO (X : Cx) (e : Option Expr) (t : TO) : Prop := PO X e t
section
variable {X : Cx} {e a b c : Expr} {es : List Expr} {t te ta tb tc : TE} {tt : TT} {pos : Pos}
theorem QE.mk {t : TE} (h : PE X e t) : QE X e t := by unfold QE; exact h
theorem QE.to {t : TE} (h : QE X e t) : PE X e t := by unfold QE at h; exact h
theorem QT.mk {t : TT} (h : PT X e t) : QT X e t := by unfold QT; exact h
theorem QT.to {t : TT} (h : QT X e t) : PT X e t := by unfold QT at h; exact h
theorem QW.mk {t : TT} (h : PW X e t) : QW X e t := by unfold QW; exact h
theorem QW.to {t : TT} (h : QW X e t) : PW X e t := by unfold QW at h; exact h
theorem QA.mk {t : TA} (h : PA X es t) : QA X es t := by unfold QA; exact h
theorem QA.to {t : TA} (h : QA X es t) : PA X es t := by unfold QA at h; exact h
theorem QS.mk {st : Stmt} {t : TS} (h : PS X st t) : QS X st t := by unfold QS; exact h
theorem QS.to {st : Stmt} {t : TS} (h : QS X st t) : PS X st t := by unfold QS at h; exact h
theorem QSs.mk {st : List Stmt} {t : TS} (h : PSs X st t) : QSs X st t := by unfold QSs; exact h
theorem QSs.to {st : List Stmt} {t : TS} (h : QSs X st t) : PSs X st t := by unfold QSs at h; exact h
theorem QG.mk {t : TG} (h : PG X e t) : QG X e t := by unfold QG; exact h
theorem QG.to {t : TG} (h : QG X e t) : PG X e t := by unfold QG at h; exact h
theorem QGs.mk {t : TGs} (h : PGs X es t) : QGs X es t := by unfold QGs; exact h
theorem QGs.to {t : TGs} (h : QGs X es t) : PGs X es t := by unfold QGs at h; exact h
theorem QI.mk {tg : Expr} {wi : TI} (h : PI X tg e wi) : QI X tg e wi := by unfold QI; exact h
theorem QI.to {tg : Expr} {wi : TI} (h : QI X tg e wi) : PI X tg e wi := by unfold QI at h; exact h
theorem QTs.mk {t : TT} (h : PTs X es t) : QTs X es t := by unfold QTs; exact h
theorem QTs.to {t : TT} (h : QTs X es t) : PTs X es t := by unfold QTs at h; exact h
theorem QO.mk {o : Option Expr} {t : TO} (h : PO X o t) : QO X o t := by unfold QO; exact h
theorem QO.to {o : Option Expr} {t : TO} (h : QO X o t) : PO X o t := by unfold QO at h; exact h
theorem qv (i : Nat) {x : Str} (hN : X.N[i]? = some x := by rfl) (hv : Vis X.env.scope x := by first | exact Or.inl rfl | exact Or.inr (Or.inl rfl) | exact Or.inr (Or.inr rfl)) (hd : (x == ("__debug__" : Str)) = false := by decide)
    (hcd : (x == ("__classdict__" : Str)) = false := by decide) : QE X (.Name x pos) (tVar i) := .mk (pe_var hN hv hd hcd)
theorem qe_int {i j} : QE X (.Constant (.int i) j pos) (tC (.int i)) := .mk pe_int
theorem qe_bl {b j} : QE X (.Constant (.bool b) j pos) (tC (.bl b)) := .mk pe_bl
theorem qe_non {j} : QE X (.Constant .none j pos) (tC .non) := .mk pe_non
theorem qe_str {x j} : QE X (.Constant (.str x) j pos) (tC (.str x)) := .mk pe_str
theorem qe_bltn {x : Str} {v : V} {u : Value} (hg : Gl X x) (hm : X.mg x = none) (hv : bootBuiltins x = some u) (r : RelV v u) (hn : x ≠ "__name__" := by decide) (hd : (x == ("__debug__" : Str)) = false := by decide) : QE X (.Name x pos) (tC v) := .mk (pe_bltn hg hm hv r hn hd)
theorem qe_op {op : Operator} {r : R2} (ho : OpR X (binaryOp op) r) (ha : QE X a ta) (hb : QE X b tb) : QE X (.BinOp a op b pos) (tOp r ta tb) := .mk (pe_op ho ha.to hb.to)
theorem qe_un {op : UnaryOp} {r : V → Hp → VK → Prop} (ho : UnR X (unaryOp op) r) (ha : QE X a ta) : QE X (.UnaryOp op a pos) (tUn r ta) := .mk (pe_un ho ha.to)
theorem qe_cmpR {op : CmpOp} {r : R2} (ho : OpR X (compareOp op) r) (ha : QE X a ta) (hb : QE X b tb) (hm : behindInMarks op b = false) : QE X (.Compare a [op] [b] pos) (tOp r ta tb) := .mk (pe_cmpR ho ha.to hb.to hm)
theorem qe_ix {r : R2} (hr : IxR X r) (ha : QE X a ta) (hb : QE X b tb) (hs : PlainIx b) : QE X (.Subscript a b pos) (tOp r ta tb) := .mk (pe_ix hr ha.to hb.to hs)
theorem qe_slice {r : V → Option Int → Option Int → Hp → VK → Prop} {lo hi : Option Expr} {tl th : TO} {p2 : Pos} (hr : SlR X r) (he : QE X e te) (hl : QO X lo tl) (hu : QO X hi th) : QE X (.Subscript e (.Slice lo hi none p2) pos) (tSl r te tl th) := .mk (pe_slice hr he.to hl.to hu.to)
theorem qo_none : QO X none tNoPart := .mk po_none
theorem qo_some (h : QE X e te) : QO X (some e) (tPart te) := .mk (po_some h.to)
theorem qe_rev {st : Expr} {ts : TE} {p2 : Pos} (he : QE X e te) (hst : QE X st ts) : QE X (.Subscript e (.Slice none none (some st) p2) pos) (tRev X.K te ts) := .mk (pe_rev he.to hst.to)
theorem qe_lst {t : TA} (h : QA X es t) : QE X (.List es pos) (tLst t) := .mk (pe_lst h.to)
theorem qe_tup {t : TA} {x1} (h : QA X es t) : QE X (.Tuple es x1 pos) (tTup t) := .mk (pe_tup h.to)
theorem qa_nil : QA X [] tNil := .mk pa_nil
theorem qa_cons {t : TA} (ha : QE X e te) (hr : QA X es t) (hs : starEach (e :: es) X.env = (false, eval e X.env) :: starEach es X.env := by rfl) : QA X (e :: es) (tCons te t) := .mk (pa_cons ha.to hr.to hs)
theorem qa_consts {vs : List V} (h : constsV es = some vs) : QA X es (fun _ H Q => Q vs H) := .mk (pa_consts h)
theorem qe_callB {id : String} {x : Str} {r : List V → Hp → VK → Prop} {p : Pos} {t : TA} (hc : CallR X (.builtin id) r) (hg : Gl X x) (hm : X.mg x = none) (hv : bootBuiltins x = some (.builtin id)) (ha : QA X (e :: es) t) (hn : x ≠ "__name__" := by decide) (hdb : (x == ("__debug__" : Str)) = false := by decide)
    (he : starEach (e :: es) X.env = (false, eval e X.env) :: starEach es X.env := by rfl) (hpl : (backTo pos (starEach es X.env)).any (·.1) = false := by rfl) : QE X (.Call (.Name x p) (e :: es) [] pos) (tCB r t) := .mk (pe_callB hc hg hm hv ha.to hn hdb he hpl)
theorem qe_callTy {T : String} {x : Str} {r : List V → Hp → VK → Prop} {p : Pos} {t : TA} (hc : CallR X (.type T) r) (hg : Gl X x) (hm : X.mg x = none) (hv : bootBuiltins x = some (.type T)) (ha : QA X (e :: es) t) (hn : x ≠ "__name__" := by decide) (hdb : (x == ("__debug__" : Str)) = false := by decide)
    (he : starEach (e :: es) X.env = (false, eval e X.env) :: starEach es X.env := by rfl) (hpl : (backTo pos (starEach es X.env)).any (·.1) = false := by rfl) : QE X (.Call (.Name x p) (e :: es) [] pos) (tCB r t) := .mk (pe_callTy hc hg hm hv ha.to hn hdb he hpl)
theorem qe_call {CX : CXT} {k : Nat} {f : Addr} {fd : FuncData} {ps : List Str} {sp : Sp} {dvs : List V} {ds : List Value} {E : XK} {x : Str} {p : Pos} {t : TA} (F : FnOk X.prog X.w X.K X.mg X.base CX k f fd ps sp) (hr : Room k X.A) (hg : Gl X x) (hm : X.mg x = some (.ref f)) (hk : PySem.W.keepIn X.K (.ref f) = true) (hb : Binds X.K fd ps ds) (hd : Vals dvs ds) (hx : Passes CX X E)
    (ha : QA X (e :: es) t) (hdb : (x == ("__debug__" : Str)) = false := by decide) (he : starEach (e :: es) X.env = (false, eval e X.env) :: starEach es X.env := by rfl) (hpl : (backTo pos (starEach es X.env)).any (·.1) = false := by rfl) :
    QE X (.Call (.Name x p) (e :: es) [] pos) (tCall sp dvs E t) := .mk (pe_call F hr hg hm hk hb hd hx ha.to hdb he hpl)
theorem qe_bm {o : Expr} {to : TE} {t : TA} {name : Str} {apos cpos : Pos} {T id : String} {r : V → List V → Hp → VK → Prop} (pa : PlainAttrs T) (slot : Slot T name id) (hty : typeOf (.builtin id) = pure (.type "method_descriptor")) (hm : MtR X id r) (ho : QE X o to) (ha : QA X (e :: es) t)
    (hbase : attributeBase o name X.env (eval o X.env) = eval o X.env := by rfl)
    (hfew : ((backTo cpos (starEach (e :: es) X.env)).all (fun x => !x.1) && (backToKw cpos (keywordEach [] X.env)).all (fun x => x.1.isSome)
      && decide ((e :: es).length + ([] : List Keyword).length + (if ([] : List Keyword).isEmpty then 0 else 1) < 30)) = true := by rfl)
    (hline : (apos.endLine == cpos.line) = true := by rfl) (hs : starEach (e :: es) X.env = (false, eval e X.env) :: starEach es X.env := by rfl) (hplain : (backTo cpos (starEach es X.env)).any (·.1) = false := by rfl) :
    QE X (.Call (.Attribute o name apos) (e :: es) [] cpos) (tBM X.K T r to t) := .mk (pe_bm pa slot hty hm ho.to ha.to hbase hfew hline hs hplain)
theorem qe_comp {elt iter : Expr} {x : Str} {px : Pos} {ifs : List Expr} {scope : Scope} {cl : List (Str × Addr)} {NB : List Str} {cap : List Nat} {wi : TI}
    (B : Blk X scope cl x NB cap) (hc : X.calm = true) (hex : X.ex = []) (hi : QI X (.Name x px) iter wi)
    (ht : ∀ C fp s₀ H₀, QTs (X.blk scope cl C (x :: NB) fp s₀ H₀) ifs tt) (he : ∀ C fp s₀ H₀, QE (X.blk scope cl C (x :: NB) fp s₀ H₀) elt te)
    (hs : ∀ v, foldedSetIterable iter X.env v = pure v := by intro _; rfl) : QE X (.ListComp elt [⟨.Name x px, iter, ifs, 0⟩] scope pos) (tComp wi tt te cap) :=
  .mk (pe_comp B hc hex hi.to (fun C fp s₀ H₀ => (ht C fp s₀ H₀).to) (fun C fp s₀ H₀ => (he C fp s₀ H₀).to) hs)
theorem qt_cmpR {op : CmpOp} {r : R2} (ho : OpR X (compareOp op) r) (ha : QE X a ta) (hb : QE X b tb) (hm : behindInMarks op b = false) : QT X (.Compare a [op] [b] pos) (tTest (tOp r ta tb)) := .mk (pt_cmpR ho ha.to hb.to hm)
theorem qt_not {tA : TT} (ha : QT X a tA) : QT X (.UnaryOp .Not a pos) (tNot tA) := .mk (pt_not ha.to)
theorem qt_val {t : TE} (h : QE X e t) (he : ∀ whole, isTrue e X.env whole = (do let v ← whole; standAt e.pos; holding [v] (truthy v)) := by intro _; rfl) : QT X e (tB t) := .mk (pt_val h.to he)
theorem QW.pt {t : TT} (h : QW X e t) : QT X e t := .mk h.to.pt
theorem qw_and1 {tA : TT} (ha : QT X a tA) : QW X (.BoolOp .And [a] pos) tA := .mk (pw_and1 ha.to)
theorem qw_or1 {tA : TT} (ha : QT X a tA) : QW X (.BoolOp .Or [a] pos) tA := .mk (pw_or1 ha.to)
theorem qw_and {tA tB' : TT} {rest : List Expr} (ha : QT X a tA) (hb : QW X (.BoolOp .And (b :: rest) pos) tB') : QW X (.BoolOp .And (a :: b :: rest) pos) (tAnd tA tB') := .mk (pw_and ha.to hb.to)
theorem qw_or {tA tB' : TT} {rest : List Expr} (ha : QT X a tA) (hb : QW X (.BoolOp .Or (b :: rest) pos) tB') : QW X (.BoolOp .Or (a :: b :: rest) pos) (tOr tA tB') := .mk (pw_or ha.to hb.to)
theorem qts_nil : QTs X [] tYes := .mk pts_nil
theorem qi_range1 {tg : Expr} {ta : TA} {p : Pos} (hg : Gl X "range") (hm : X.mg "range" = none) (ha : QA X [a] ta) (hs : starEach [a] X.env = [(false, eval a X.env)] := by rfl) : QI X tg (.Call (.Name "range" p) [a] [] pos) (iRng1 ta) := .mk (pi_range1 hg hm ha.to hs)
theorem qi_list {tg : Expr} (h : QE X e te) : QI X tg e (iList X.K te) := .mk (pi_list h.to)
theorem qg_name {i : Nat} {x : Str} (hN : X.N.Nodup) (hi : X.N[i]? = some x) (hx : Loc X.env.scope x) (hf : X.fn x = true ∨ X.env.scope.names.lookup x = some .local := by first | exact .inl rfl | exact .inr rfl | assumption) : QG X (.Name x pos) (gName i) := .mk (pg_name hN hi hx hf)
theorem qg_sub {o i : Expr} {to ti : TE} {t : TSet} (ho : QE X o to) (hi : QE X i ti) (hs : PSet X t)
    (ha : ∀ v, assign (.Subscript o i pos) X.env v = (do
      let ov ← holding [v] (eval o X.env)
      let iv ← holding [v, ov] (eval i X.env)
      standAt pos
      holding [v, ov, iv] (setItem ov iv v)
      release [v, ov, iv] []) := by intro _; rfl) : QG X (.Subscript o i pos) (gSub to ti t) := .mk (pg_sub ho.to hi.to hs ha)
theorem qgs_nil : QGs X [] gNil := .mk pgs_nil
theorem qgs_cons {t : TG} {u : TGs} (h1 : QG X e t) (h2 : QGs X es u) (hs : (assignEach (e :: es) X.env).map (·.2) = assign e X.env :: (assignEach es X.env).map (·.2) := by rfl) : QGs X (e :: es) (gCons t u) := .mk (pgs_cons h1.to h2.to hs)
theorem qg_tup {k : Nat} {t : TGs} {n : Nat} (hc : X.calm = true) (h : QGs X es t) (hn : (assignEach es X.env).length = n := by rfl) (hst : (assignEach es X.env).findIdx? (·.1) = none := by rfl) : QG X (.Tuple es k pos) (gTup X.K n t) := .mk (pg_tup hc h.to hn hst)
section
variable {st : Stmt} {rest body : List Stmt} {s u : TS}
theorem qss_nil : QSs X [] tNext := .mk pss_nil
theorem qss_cons (h1 : QS X st s) (h2 : QSs X rest u) : QSs X (st :: rest) (tSeq s u) := .mk (pss_cons h1.to h2.to)
theorem qss_one (h1 : QS X st s) : QSs X [st] s := .mk (pss_one h1.to)
theorem qs_expr (he : QE X e te) (hs : swapsWith e none pos.line X.env = pure false := by rfl) : QS X (.Expr e pos) (tDrop te) := .mk (ps_expr he.to hs)
theorem qs_ret (he : QE X e te) : QS X (.Return (some e) pos) (tRet te) := .mk (ps_ret he.to)
theorem qs_if {a' b' : List Stmt} (hc : QT X c tt) (ha : QSs X a' s) (hb : QSs X b' u) : QS X (.If c a' b' pos) (tIfS tt s u) := .mk (ps_if hc.to ha.to hb.to)
theorem qs_set {i : Nat} {x : Str} {pos' : Pos} (hN : X.N.Nodup) (hi : X.N[i]? = some x) (hx : Loc X.env.scope x) (he : QE X e te) (hs : swapsWith e (some (.Name x pos')) pos.line X.env = pure false := by rfl) (hf : X.fn x = true ∨ X.env.scope.names.lookup x = some .local := by first | exact .inl rfl | exact .inr rfl | assumption) :
    QS X (.Assign [.Name x pos'] e pos) (tAsg te (gName i)) := .mk (ps_set hN hi hx he.to hs hf)
theorem qs_asg {tg : Expr} {g : TG} (he : QE X e te) (hg : QG X tg g) (hs : swapsWithSole [tg] e pos.line X.env = pure false := by rfl) (hw : swappedStores [tg] e X.env = pure none := by rfl)
    (h1 : (assignEach [tg] X.env).map (·.2) = [assign tg X.env] := by rfl) : QS X (.Assign [tg] e pos) (tAsg te g) := .mk (ps_asg he.to hg.to hs hw h1)
theorem qs_for {tg iter : Expr} {wi : TI} {g : TG} (hp : PassesOwn (model X.prog X.w) X.A X.env X.xe) (hc : X.calm = true) (hi : QI X tg iter wi) (hg : QG X tg g) (hb : QSs X body s)
    (hs : ∀ x, foldedSetIterable iter X.env x = pure x := by intro _; rfl) : QS X (.For tg iter body [] pos) (tFor wi g s) := .mk (ps_for hp hc hi.to hg.to hb.to hs)
theorem qs_while (hp : PassesOwn (model X.prog X.w) X.A X.env X.xe) (hc : QT X c tt) (hb : QSs X body s) : QS X (.While c body [] pos) (tWhile tt s) := .mk (ps_while hp hc.to hb.to)
end
end
end L2
end
section
set_option linter.all false
set_option maxRecDepth 100000
set_option maxHeartbeats 4000000
namespace L2
open PySem PySem.Spec PyProof.Rows
open PySem.SeqAt (EqAt RcAt RcNeAt)
def okV : V → Bool
  | .byt _ => false
  | .flt _ => false
  | _ => true
inductive Al (K : PySem.W.Frag) (H : Hp) : Nat → V → V → Prop
  | same {n : Nat} {x : V} : okV x = true → Al K H n x x
  | tup {n : Nat} {a b : Addr} {xs ys : List V} : SqT K H a xs → SqT K H b ys → xs.length = ys.length → (∀ (i : Nat) (x y : V), xs[i]? = some x → ys[i]? = some y → Al K H n x y) → Al K H (n + 1) (.ref a) (.ref b)
  | lst {n : Nat} {a b : Addr} {xs ys : List V} : SqL K H a xs → SqL K H b ys → xs.length = ys.length → (∀ (i : Nat) (x y : V), xs[i]? = some x → ys[i]? = some y → Al K H n x y) → Al K H (n + 1) (.ref a) (.ref b)
theorem Vals.at {xs : List V} {us : List Value} (r : Vals xs us) {j : Nat} (h : j < us.length) : ∃ x, xs[j]? = some x ∧ RelV x us[j] := by
  have h1 : j < xs.length := by rw [r.length]; exact h
  have e : xs[j]? = some xs[j] := List.getElem?_eq_getElem h1
  obtain ⟨u, hu, ru⟩ := r.get e
  rw [List.getElem?_eq_getElem h] at hu
  cases hu
  exact ⟨_, e, ru⟩
section
variable {X : Cx}
theorem Al.eqAt {pins : List (Addr × Obj)} {σ : St} {H : Hp} {s : Shared} (I : Inv X pins σ H s) {n : Nat} {x y : V} (h : Al X.K H n x y) : ∀ {v u : Value} (A : Around), RelV x v → RelV y u → A.units + n < cLine → EqAt A s v u true := by
  induction h with
  | @same n x hk =>
    intro v u A rx ry hu
    cases x with
    | non => cases rx; cases ry; exact EqAt.same _
    | bl b => cases rx; cases ry; exact EqAt.same _
    | int i =>
      obtain ⟨t, rfl⟩ := rx
      obtain ⟨t', rfl⟩ := ry
      have := EqAt.int_int (A := A) (s := s) i t i t'
      rwa [beq_self_eq_true] at this
    | str i =>
      obtain ⟨t, rfl⟩ := rx
      obtain ⟨t', rfl⟩ := ry
      have := EqAt.str_str (A := A) (s := s) i t i t'
      rwa [beq_self_eq_true] at this
    | byt b => cases hk
    | flt b => cases hk
    | ref a => cases rx; cases ry; exact EqAt.same _
    | ty a => cases rx; cases ry; exact EqAt.same _
  | @tup n a b xs ys ha hb hl hs ih =>
    intro v u A rx ry hu
    cases rx
    cases ry
    by_cases hab : a = b
    · subst hab; exact EqAt.same _
    obtain ⟨its, r, ht, _⟩ := I.tuple ha
    obtain ⟨its2, r2, ht2, _⟩ := I.tuple hb
    have e1 := r.length
    have e2 := r2.length
    have q := RcAt.tuples (e := fun _ => true) ht ht2 (A := A) (Nat.lt_of_le_of_lt (Nat.le_add_right _ _) hu) (fun j h1 h2 => by
      obtain ⟨x, ex, rx⟩ := r.at (j := j) (by simpa using h1)
      obtain ⟨y, ey, ry⟩ := r2.at (j := j) (by simpa using h2)
      have := ih j x y ex ey A.in1 rx ry (by show A.units + 1 + n < cLine; omega)
      simpa using this)
    have z : ((List.range (min its.toArray.size its2.toArray.size)).all (fun _ => true) && its.toArray.size == its2.toArray.size) = true := by
      simp; omega
    rw [z] at q
    exact EqAt.of_refs hab q
  | @lst n a b xs ys ha hb hl hs ih =>
    intro v u A rx ry hu
    cases rx
    cases ry
    by_cases hab : a = b
    · subst hab; exact EqAt.same _
    obtain ⟨its, r, ht, _⟩ := I.list ha
    obtain ⟨its2, r2, ht2, _⟩ := I.list hb
    have e1 := r.length
    have e2 := r2.length
    have q := RcAt.lists (e := fun _ => true) ht.isList ht2.isList (A := A) (by simp; omega) (Nat.lt_of_le_of_lt (Nat.le_add_right _ _) hu) (fun j h1 h2 => by
      obtain ⟨x, ex, rx⟩ := r.at (j := j) (by simpa using h1)
      obtain ⟨y, ey, ry⟩ := r2.at (j := j) (by simpa using h2)
      have := ih j x y ex ey A.in1 rx ry (by show A.units + 1 + n < cLine; omega)
      simpa using this)
    have z : ((List.range its.toArray.size).all (fun _ => true)) = true := by simp
    rw [z] at q
    exact EqAt.of_refs hab q
def AlL (K : PySem.W.Frag) (H : Hp) (n : Nat) (xs ys : List V) : Prop := xs.length = ys.length ∧ ∀ (i : Nat) (x y : V), xs[i]? = some x → ys[i]? = some y → Al K H n x y
def rAlT (K : PySem.W.Frag) (b : Bool) : R2 := fun x y H Q => ∃ p q xs ys, x = .ref p ∧ y = .ref q ∧ SqT K H p xs ∧ SqT K H q ys ∧ AlL K H 8 xs ys ∧ Q (.bl b) H
def rAlL (K : PySem.W.Frag) (b : Bool) : R2 := fun x y H Q => ∃ p q xs ys, x = .ref p ∧ y = .ref q ∧ SqL K H p xs ∧ SqL K H q ys ∧ AlL K H 8 xs ys ∧ Q (.bl b) H
theorem op_neT (hu : X.A.units + 100 < cLine) : OpR X (compareOp .NotEq) (rAlT X.K false) := by
  intro pins s σ H x y v u Q I rx ry h
  obtain ⟨a, b, xs, ys, rfl, rfl, ha, hb, ⟨hl, al⟩, q⟩ := h
  cases rx
  cases ry
  obtain ⟨its, r, ht, _⟩ := I.tuple ha
  obtain ⟨its2, r2, ht2, _⟩ := I.tuple hb
  have e1 := r.length
  have e2 := r2.length
  refine SeqAt.RcNeAt.tuples (e := fun _ => true) ht ht2 (by omega) (fun j h1 h2 => ?_) _ _ _ _ ⟨.bl false, H, I, ?_, q⟩
  · obtain ⟨x, ex, rx⟩ := r.at (j := j) (by simpa using h1)
    obtain ⟨y, ey, ry⟩ := r2.at (j := j) (by simpa using h2)
    have := (al j x y ex ey).eqAt I X.A.in1 rx ry (by show X.A.units + 1 + 8 < cLine; omega)
    simpa using this
  · show Value.bool _ = Value.bool false
    simp; omega
end
theorem Room.u100 {k : Nat} {A : Around} (r : Room k A) : A.units + 100 < cLine := by have := r.un; omega
end L2
end
section
set_option linter.all false
set_option maxRecDepth 100000
set_option maxHeartbeats 1000000
namespace Hm
open PySem L2
abbrev g (xs : List V) (i : Nat) : V := xs.getD i .non
def sw (xs : List V) (i j : Nat) : List V := (xs.set i (g xs j)).set j (g xs i)
structure Od (lt : V → V → Bool) : Prop where
  as : ∀ a b, lt a b = true → lt b a = false
  nt : ∀ a b c, lt a b = false → lt b c = false → lt a c = false
theorem Od.irr {lt : V → V → Bool} (o : Od lt) (a : V) : lt a a = false := by
  cases e : lt a a with
  | false => rfl
  | true => have := o.as a a e; rw [e] at this; exact this
theorem g_set {xs : List V} {i k : Nat} {v : V} : g (xs.set i v) k = if i = k ∧ k < xs.length then v else g xs k := by
  simp only [g, List.getD_eq_getElem?_getD, List.getElem?_set]
  by_cases h : i = k
  · subst h
    by_cases h2 : i < xs.length
    · simp [h2]
    · simp [h2, List.getElem?_eq_none (Nat.le_of_not_lt h2)]
  · simp [h]
theorem sw_len {xs : List V} {i j : Nat} : (sw xs i j).length = xs.length := by simp [sw]
theorem g_sw {xs : List V} {i j k : Nat} (hi : i < xs.length) (hj : j < xs.length) : g (sw xs i j) k = if k = j then g xs i else if k = i then g xs j else g xs k := by
  unfold sw
  rw [g_set, g_set, List.length_set]
  by_cases h1 : k = j
  · subst h1; simp [hj]
  · rw [if_neg (by intro z; exact h1 z.1.symm), if_neg h1]
    by_cases h2 : k = i
    · subst h2; simp [hi]
    · rw [if_neg (by intro z; exact h2 z.1.symm), if_neg h2]
theorem g_get {xs : List V} {i : Nat} (h : i < xs.length) : g xs i = xs[i] := by simp [g, List.getD_eq_getElem?_getD, h]
theorem sw_perm {xs : List V} {i j : Nat} (hi : i < xs.length) (hj : j < xs.length) : (sw xs i j).Perm xs := by
  unfold sw
  rw [g_get hi, g_get hj]
  exact List.set_set_perm hi hj
def les (lt : V → V → Bool) (xs : List V) (p : Nat) : Nat := if 2 * p + 2 < xs.length ∧ lt (g xs (2 * p + 2)) (g xs (2 * p + 1)) = true then 2 * p + 2 else 2 * p + 1
def kids (n p : Nat) : Nat := if 2 * p + 2 < n then 2 else if 2 * p + 1 < n then 1 else 0
def dn (lt : V → V → Bool) : Nat → List V → Nat → Nat → List V × Nat
  | 0, xs, _, lk => (xs, lk)
  | f + 1, xs, p, lk => if 2 * p + 1 < xs.length then
      if lt (g xs (les lt xs p)) (g xs p) = true then dn lt f (sw xs p (les lt xs p)) (les lt xs p) (lk + kids xs.length p) else (xs, lk + kids xs.length p)
    else (xs, lk)
def up (lt : V → V → Bool) : Nat → List V → Nat → Nat → List V × Nat
  | 0, xs, _, lk => (xs, lk)
  | f + 1, xs, p, lk => if 0 < p then
      if lt (g xs p) (g xs ((p - 1) / 2)) = true then up lt f (sw xs p ((p - 1) / 2)) ((p - 1) / 2) (lk + 1) else (xs, lk + 1)
    else (xs, lk)
theorem les_lo {lt : V → V → Bool} {xs : List V} {p : Nat} : 2 * p + 1 ≤ les lt xs p := by unfold les; split <;> omega
theorem les_hi {lt : V → V → Bool} {xs : List V} {p : Nat} : les lt xs p ≤ 2 * p + 2 := by unfold les; split <;> omega
theorem les_lt {lt : V → V → Bool} {xs : List V} {p : Nat} (h : 2 * p + 1 < xs.length) : les lt xs p < xs.length := by unfold les; split <;> omega
theorem les_min {lt : V → V → Bool} (o : Od lt) {xs : List V} {p k : Nat} (hk : k < xs.length) (hp : k = 2 * p + 1 ∨ k = 2 * p + 2) : lt (g xs k) (g xs (les lt xs p)) = false := by
  unfold les
  split
  · rename_i h
    rcases hp with rfl | rfl
    · exact o.as _ _ h.2
    · exact o.irr _
  · rename_i h
    rcases hp with rfl | rfl
    · exact o.irr _
    · cases e : lt (g xs (2 * p + 2)) (g xs (2 * p + 1)) with
      | false => rfl
      | true => exact absurd ⟨hk, e⟩ h
theorem dn_len {lt : V → V → Bool} : ∀ {f : Nat} {xs : List V} {p lk : Nat}, (dn lt f xs p lk).1.length = xs.length
  | 0, xs, p, lk => rfl
  | f + 1, xs, p, lk => by
    unfold dn
    split
    · split
      · rw [dn_len, sw_len]
      · rfl
    · rfl
theorem dn_perm {lt : V → V → Bool} : ∀ {f : Nat} {xs : List V} {p lk : Nat}, (dn lt f xs p lk).1.Perm xs
  | 0, xs, p, lk => .refl _
  | f + 1, xs, p, lk => by
    unfold dn
    split
    · rename_i h
      split
      · exact dn_perm.trans (sw_perm (by omega) (les_lt h))
      · exact .refl _
    · exact .refl _
def HF (lt : V → V → Bool) (q : Nat) (xs : List V) : Prop := ∀ k, 0 < k → k < xs.length → q ≤ (k - 1) / 2 → lt (g xs k) (g xs ((k - 1) / 2)) = false
def IsH (lt : V → V → Bool) (xs : List V) : Prop := ∀ k, 0 < k → k < xs.length → lt (g xs k) (g xs ((k - 1) / 2)) = false
theorem HF.zero {lt : V → V → Bool} {xs : List V} (h : HF lt 0 xs) : IsH lt xs := fun k a b => h k a b (Nat.zero_le _)
theorem dn_heap {lt : V → V → Bool} (o : Od lt) {q : Nat} : ∀ {f : Nat} {xs : List V} {p lk : Nat}, xs.length ≤ p + f → q ≤ p →
    (∀ k, 0 < k → k < xs.length → q ≤ (k - 1) / 2 → (k - 1) / 2 ≠ p → lt (g xs k) (g xs ((k - 1) / 2)) = false) →
    (p = q ∨ (0 < p ∧ q ≤ (p - 1) / 2 ∧ ∀ k, 0 < k → k < xs.length → (k - 1) / 2 = p → lt (g xs k) (g xs ((p - 1) / 2)) = false)) → HF lt q (dn lt f xs p lk).1
  | 0, xs, p, lk, hf, hq, h1, h2 => by
    intro k k0 k1 k2
    exact h1 k k0 k1 k2 (by have : k < xs.length := k1; omega)
  | f + 1, xs, p, lk, hf, hq, h1, h2 => by
    unfold dn
    split
    · rename_i hc
      have b1 := les_lo (lt := lt) (xs := xs) (p := p)
      have b2 := les_hi (lt := lt) (xs := xs) (p := p)
      have b3 := les_lt (lt := lt) hc
      have bm := fun k hk hp => les_min o (xs := xs) (p := p) (k := k) hk hp
      split
      · rename_i hl
        generalize les lt xs p = b at *
        have hpl : p < xs.length := by omega
        refine dn_heap o (by rw [sw_len]; omega) (by omega) (fun k k0 k1 k2 k3 => ?_) (.inr ⟨by omega, by omega, fun k k0 k1 k2 => ?_⟩)
        · rw [sw_len] at k1
          rw [g_sw hpl b3, g_sw hpl b3]
          by_cases e1 : k = b
          · subst e1
            have e2 : (k - 1) / 2 = p := by omega
            rw [if_pos rfl, e2, if_neg (by omega), if_pos rfl]
            exact o.as _ _ hl
          · rw [if_neg e1, if_neg (by omega : ¬ (k - 1) / 2 = b)]
            by_cases e2 : (k - 1) / 2 = p
            · rw [if_neg (by omega), if_pos e2]
              exact bm k k1 (by omega)
            · rw [if_neg e2]
              by_cases e3 : k = p
              · subst e3
                rw [if_pos rfl]
                rcases h2 with h2 | ⟨_, _, h2⟩
                · omega
                · exact h2 b (by omega) b3 (by omega)
              · rw [if_neg e3]
                exact h1 k k0 k1 k2 e2
        · rw [sw_len] at k1
          have e1 : (b - 1) / 2 = p := by omega
          rw [e1, g_sw hpl b3, g_sw hpl b3, if_neg (by omega), if_neg (by omega), if_neg (by omega), if_pos rfl]
          have := h1 k k0 k1 (by omega) (by omega)
          rwa [k2] at this
      · rename_i hl
        intro k k0 k1 k2
        by_cases e2 : (k - 1) / 2 = p
        · rw [e2]
          have hl' : lt (g xs (les lt xs p)) (g xs p) = false := by simpa using hl
          exact o.nt _ _ _ (bm k k1 (by omega)) hl'
        · exact h1 k k0 k1 k2 e2
    · intro k k0 k1 k2
      exact h1 k k0 k1 k2 (by have : k < xs.length := k1; omega)
def mk (lt : V → V → Bool) : Nat → List V → Nat → List V × Nat
  | 0, xs, lk => (xs, lk)
  | k + 1, xs, lk => mk lt k (dn lt xs.length xs k 0).1 (lk + (dn lt xs.length xs k 0).2)
theorem mk_len {lt : V → V → Bool} : ∀ {k : Nat} {xs : List V} {lk : Nat}, (mk lt k xs lk).1.length = xs.length
  | 0, _, _ => rfl
  | k + 1, xs, lk => by unfold mk; rw [mk_len, dn_len]
theorem mk_perm {lt : V → V → Bool} : ∀ {k : Nat} {xs : List V} {lk : Nat}, (mk lt k xs lk).1.Perm xs
  | 0, _, _ => .refl _
  | k + 1, xs, lk => by unfold mk; exact mk_perm.trans dn_perm
theorem mk_heap {lt : V → V → Bool} (o : Od lt) : ∀ {k : Nat} {xs : List V} {lk : Nat}, HF lt k xs → IsH lt (mk lt k xs lk).1
  | 0, _, _, h => h.zero
  | k + 1, xs, lk, h => by
    unfold mk
    refine mk_heap o (dn_heap o (by omega) (Nat.le_refl _) (fun j j0 j1 j2 j3 => h j j0 j1 (by omega)) (.inl rfl))
theorem hf_half {lt : V → V → Bool} {xs : List V} : HF lt (xs.length / 2) xs := fun k k0 k1 k2 => by omega
theorem srt_heap {lt : V → V → Bool} {xs : List V} (h : xs.Pairwise (fun x y => lt y x = false)) : IsH lt xs := fun k k0 k1 => by
  rw [g_get k1, g_get (by omega)]
  exact List.pairwise_iff_getElem.mp h _ _ _ _ (by omega)
end Hm
end
section
set_option linter.all false
set_option maxRecDepth 100000
set_option maxHeartbeats 1000000
namespace L2
open PySem
def tupE : Option HO → List V
  | some (.tup [.int i, .str n, .int j]) => [.int i, .str n, .int j]
  | _ => [.int 0, .str "", .int 0]
theorem tupE_en (o : Option HO) : isEn (tupE o) := by
  unfold tupE
  split
  · exact ⟨_, _, _, rfl⟩
  · exact ⟨_, _, _, rfl⟩
def keyE (H : Hp) : V → List V
  | .ref a => tupE (H a)
  | _ => [.int 0, .str "", .int 0]
theorem keyE_en (H : Hp) (x : V) : isEn (keyE H x) := by
  unfold keyE
  split
  · exact tupE_en _
  · exact ⟨_, _, _, rfl⟩
theorem keyE_at {H : Hp} {a : Addr} {l : List V} (h : H a = some (.tup l)) (e : isEn l) : keyE H (.ref a) = l := by
  obtain ⟨i, n, j, rfl⟩ := e
  show tupE (H a) = _
  rw [h]
  rfl
def ltT (t : V → List V) (a b : V) : Bool := lexV (t a) (t b)
theorem od_ltT {t : V → List V} (h : ∀ x, isEn (t x)) : Hm.Od (ltT t) where
  as a b e := by
    unfold ltT at e ⊢
    rw [← enKey_lex (h _) (h _)] at e ⊢
    cases q : enOrd.blt (enKey (t b)) (enKey (t a)) with
    | false => rfl
    | true => have := enOrd.trans _ _ _ e q; rw [enOrd.irrefl] at this; cases this
  nt a b c e f := by
    unfold ltT at e f ⊢
    rw [← enKey_lex (h _) (h _)] at e f ⊢
    cases q : enOrd.blt (enKey (t a)) (enKey (t c)) with
    | false => rfl
    | true =>
      rcases enOrd.negTrans _ (enKey (t b)) _ q with z | z
      · rw [e] at z; cases z
      · rw [f] at z; cases z
structure EnR (t : V → List V) (H : Hp) (xs : List V) : Prop where
  tot : ∀ x, isEn (t x)
  mem : ∀ x ∈ xs, ∃ a, x = .ref a ∧ H a = some (.tup (t x))
section
variable {t : V → List V} {H H' : Hp} {xs ys : List V}
theorem EnR.sub (e : EnR t H xs) (s : ∀ y ∈ ys, y ∈ xs) : EnR t H ys := ⟨e.tot, fun x hx => e.mem x (s x hx)⟩
theorem EnR.move (e : EnR t H xs) (s : ∀ b l, H b = some (.tup l) → H' b = some (.tup l)) : EnR t H' xs := ⟨e.tot, fun x hx => by
  obtain ⟨a, rfl, h⟩ := e.mem x hx
  exact ⟨a, rfl, s _ _ h⟩⟩
theorem EnR.same (e : EnR t H xs) (s : Same H H') : EnR t H' xs := e.move fun b l h => s b _ h
theorem EnR.new (e : EnR t H xs) {p : Addr} {o : HO} (h : H p = none) : EnR t (upd H p o) xs := e.move fun b l q => by rw [upd_ne (ne_of_none q h)]; exact q
theorem EnR.put (e : EnR t H xs) {p : Addr} {o : HO} {zs : List V} (h : H p = some (.lst zs)) : EnR t (upd H p o) xs := e.move fun b l q => by rw [upd_ne (ne_of q h (by intro z; cases z))]; exact q
theorem EnR.bar (e : EnR t H xs) {r : Addr} {zs : List V} (h : H r = some (.lst zs)) (s : ∀ b o, H b = some o → b ≠ r → H' b = some o) : EnR t H' xs := e.move fun b l q =>
  s b _ q (ne_of q h (by intro z; cases z))
theorem EnR.enl {K : PySem.W.Frag} (e : EnR t H xs) : EnL K H t xs := fun x hx => by
  obtain ⟨a, rfl, h⟩ := e.mem x hx
  exact ⟨a, rfl, SqT.of h, e.tot _⟩
theorem EnR.fit (e : EnR t H xs) (x y : V) : fitL (t x) (t y) := fit_en (e.tot _) (e.tot _)
theorem EnR.gat (e : EnR t H xs) {i : Nat} (h : i < xs.length) : ∃ a, Hm.g xs i = .ref a ∧ H a = some (.tup (t (Hm.g xs i))) ∧ Hm.g xs i ∈ xs ∧ atI xs (i : Int) = some (Hm.g xs i) := by
  have hm : Hm.g xs i ∈ xs := by rw [Hm.g_get h]; exact List.getElem_mem h
  obtain ⟨a, e1, h1⟩ := e.mem _ hm
  refine ⟨a, e1, h1, hm, atI_nat ?_⟩
  rw [Hm.g_get h]
  exact List.getElem?_eq_getElem h
end
theorem at_g {xs : List V} {i : Nat} (h : i < xs.length) : atI xs (i : Int) = some (Hm.g xs i) := atI_nat (by rw [Hm.g_get h]; exact List.getElem?_eq_getElem h)
end L2
namespace Hm
open PySem L2
variable {lt : V → V → Bool} {xs : List V} {f p lk : Nat}
theorem dn_stop (h : ¬ 2 * p + 1 < xs.length) : dn lt f xs p lk = (xs, lk) := by
  cases f with
  | zero => rfl
  | succ f => unfold dn; rw [if_neg h]
theorem dn_stay (h : 2 * p + 1 < xs.length) (q : lt (g xs (les lt xs p)) (g xs p) = false) : dn lt (f + 1) xs p lk = (xs, lk + kids xs.length p) := by
  unfold dn; rw [if_pos h, if_neg (by rw [q]; exact Bool.false_ne_true)]
theorem dn_go (h : 2 * p + 1 < xs.length) (q : lt (g xs (les lt xs p)) (g xs p) = true) : dn lt (f + 1) xs p lk = dn lt f (sw xs p (les lt xs p)) (les lt xs p) (lk + kids xs.length p) := by
  conv => lhs; unfold dn
  rw [if_pos h, if_pos q]
theorem les_two (h : 2 * p + 2 < xs.length) : (les lt xs p : Int) = 2 * (p : Int) + 1 + (if lt (g xs (2 * p + 2)) (g xs (2 * p + 1)) = true then 1 else 0) := by
  unfold les
  by_cases q : lt (g xs (2 * p + 2)) (g xs (2 * p + 1)) = true
  · rw [if_pos ⟨h, q⟩, if_pos q]; omega
  · rw [if_neg (fun z => q z.2), if_neg q]; omega
theorem les_one (h : ¬ 2 * p + 2 < xs.length) : les lt xs p = 2 * p + 1 := by
  unfold les
  rw [if_neg (fun z => h z.1)]
theorem sw_mem {i j : Nat} (hi : i < xs.length) (hj : j < xs.length) : ∀ y ∈ sw xs i j, y ∈ xs := fun y hy => (sw_perm hi hj).mem_iff.mp hy
end Hm
end
section
set_option linter.all false
set_option maxRecDepth 100000
set_option maxHeartbeats 1000000
namespace L2
open PySem
end L2
namespace Hm
open PySem L2
def wy : Nat → Nat → List Nat
  | 0, _ => []
  | f + 1, p => if 0 < p then (p - 1) / 2 :: wy f ((p - 1) / 2) else []
def shf (zs : List V) (e : V) : Nat → List Nat → List V
  | p, [] => zs.set p e
  | p, q :: qs => shf (zs.set p (g zs q)) e q qs
theorem set_g {zs : List V} {p : Nat} {e : V} (h : g zs p = e) : zs.set p e = zs := by
  by_cases hp : p < zs.length
  · rw [← h, g_get hp]
    exact List.set_getElem_self hp
  · exact List.set_eq_of_length_le (by omega)
def lastW (p : Nat) : List Nat → Nat
  | [] => p
  | q :: qs => lastW q qs
theorem tw_congr {p q : Nat → Bool} : ∀ {l : List Nat}, (∀ k ∈ l, p k = q k) → l.takeWhile p = l.takeWhile q
  | [], _ => rfl
  | a :: l, h => by
    rw [List.takeWhile_cons, List.takeWhile_cons, h a List.mem_cons_self, tw_congr fun k hk => h k (List.mem_cons_of_mem _ hk)]
def mvd (lt : V → V → Bool) (xs : List V) (e : V) : List Nat := (wy xs.length xs.length).filter fun q => lt e (g xs q)
theorem g_end {xs : List V} {e : V} : g (xs ++ [e]) xs.length = e := by
  rw [g_get (by rw [List.length_append]; exact Nat.lt_succ_self _)]
  simp
def iN (l : List Nat) : List V := l.map fun (k : Nat) => V.int (k : Int)
theorem iN_len {l : List Nat} : (iN l).length = l.length := List.length_map ..
theorem iN_app {a b : List Nat} : iN (a ++ b) = iN a ++ iN b := List.map_append
theorem iN_at {l : List Nat} {k : Nat} (h : k < l.length) : atI (iN l) (k : Int) = some (.int (l.getD k 0 : Nat)) := atI_nat (by
  unfold iN
  rw [List.getElem?_map, List.getElem?_eq_getElem h]
  simp [List.getD_eq_getElem?_getD, List.getElem?_eq_getElem h])
theorem iN_get {l : List Nat} {k : Nat} {x : V} (h : (iN l)[k]? = some x) : k < l.length ∧ x = .int (l.getD k 0 : Nat) := by
  have hk : k < l.length := by
    have := (List.getElem?_eq_some_iff.mp h).1
    rwa [iN_len] at this
  refine ⟨hk, ?_⟩
  unfold iN at h
  rw [List.getElem?_map, List.getElem?_eq_getElem hk] at h
  have := Option.some.inj h
  rw [← this]
  simp [List.getD_eq_getElem?_getD, List.getElem?_eq_getElem hk]
theorem take_get {l : List Nat} {k : Nat} (h : k < l.length) : l.take (k + 1) = l.take k ++ [l.getD k 0] := by
  rw [List.take_succ, List.getElem?_eq_getElem h]
  simp [List.getD_eq_getElem?_getD, List.getElem?_eq_getElem h]
theorem drop_get {l : List Nat} {k : Nat} (h : k < l.length) : l.drop k = l.getD k 0 :: l.drop (k + 1) := by
  rw [List.drop_eq_getElem_cons h]
  simp [List.getD_eq_getElem?_getD, List.getElem?_eq_getElem h]
end Hm
end
section
set_option linter.all false
set_option maxRecDepth 100000
set_option maxHeartbeats 4000000
namespace L2
open PySem PySem.Spec PyProof.Rows
def Itd (lo : Int) (n : Nat) : It := ⟨fun i _ => i < n, fun i H x H' => H' = H ∧ x = .int (lo - i), fun i _ => n ≤ i⟩
section
variable {X : Cx} {tg : Expr}
def iRngD (ta : TA) : TI := fun σ H R => ta σ H fun vs H1 => ∃ i j : Int, vs = [.int i, .int j, .int (-1)] ∧ (-(2 ^ 62) ≤ i ∧ i < 2 ^ 62 ∧ -(2 ^ 62) ≤ j ∧ j < 2 ^ 62) ∧ R (Itd i (i - j).toNat) H1
end
end L2
namespace L2
open PySem
end L2
end
section
set_option linter.all false
set_option maxRecDepth 100000
set_option maxHeartbeats 4000000
namespace TS
open PySem PyProof.Rows
section
variable {prog : Program} {w : World} {A : Around} {E : Value → Shared → Prop} {s : Shared} {κ : KeyKind} {kd : SortKind}
end
end TS
namespace L2
open PySem PySem.Spec PyProof.Rows
section
variable {X : Cx}
end
end L2
end
section
set_option linter.all false
set_option maxRecDepth 100000
set_option maxHeartbeats 1000000
namespace Hm
open PySem L2
def lgs (n : Nat) : Nat → Nat
  | 0 => 0
  | k + 1 => lgs n k + (n / (k + 1)).log2
def cutf (lt : V → V → Bool) (xs : List V) : List V × Nat :=
  if xs.dropLast = [] then ([], 0) else dn lt xs.dropLast.length (xs.dropLast.set 0 (g xs (xs.length - 1))) 0 0
theorem split_ends {xs : List V} (h : 2 ≤ xs.length) : ∃ mid, xs = g xs 0 :: mid ++ [g xs (xs.length - 1)] ∧ xs.dropLast = g xs 0 :: mid := by
  cases xs with
  | nil => simp at h
  | cons a l =>
    have hl : l ≠ [] := by intro e; rw [e] at h; simp at h
    refine ⟨l.dropLast, ?_, ?_⟩
    · show a :: l = a :: l.dropLast ++ [g (a :: l) l.length]
      have : g (a :: l) l.length = l.getLast hl := by
        rw [g_get (by simp)]
        rw [List.getLast_eq_getElem]
        rw [List.getElem_cons]
        have : l.length ≠ 0 := by intro e; exact hl (List.length_eq_zero_iff.mp e)
        simp [this]
      rw [this, List.cons_append, List.dropLast_concat_getLast]
    · show (a :: l).dropLast = a :: l.dropLast
      exact List.dropLast_cons_of_ne_nil hl
theorem cutf_one {lt : V → V → Bool} {xs : List V} (h : xs.length = 1) : cutf lt xs = ([], 0) := by
  unfold cutf
  rw [if_pos]
  rw [← List.length_eq_zero_iff, List.length_dropLast, h]
theorem cutf_two {lt : V → V → Bool} {xs mid : List V} (e : xs.dropLast = g xs 0 :: mid) : cutf lt xs = dn lt (mid.length + 1) (g xs (xs.length - 1) :: mid) 0 0 := by
  unfold cutf
  rw [if_neg (by rw [e]; simp), e]
  rfl
theorem cutf_len {lt : V → V → Bool} {xs : List V} : (cutf lt xs).1.length = xs.length - 1 := by
  unfold cutf
  split
  · rename_i h
    have := congrArg List.length h
    rw [List.length_dropLast] at this
    exact this.symm
  · rw [dn_len, List.length_set, List.length_dropLast]
theorem cutf_perm {lt : V → V → Bool} {xs : List V} (h : 0 < xs.length) : (g xs 0 :: (cutf lt xs).1).Perm xs := by
  by_cases h2 : 2 ≤ xs.length
  · obtain ⟨mid, e, e2⟩ := split_ends h2
    rw [cutf_two e2]
    refine (List.Perm.cons _ dn_perm).trans ?_
    conv => rhs; rw [e]
    rw [List.cons_append]
    refine List.Perm.cons _ ?_
    exact (List.perm_append_comm (l₁ := [g xs (xs.length - 1)]) (l₂ := mid))
  · rw [cutf_one (by omega)]
    cases xs with
    | nil => simp at h
    | cons a l =>
      have : l = [] := List.length_eq_zero_iff.mp (by rw [List.length_cons] at h2; omega)
      subst this
      exact .refl _
end Hm
namespace L2
open PySem PySem.Spec PyProof.Rows
open PySem.SeqAt (EqAt RcAt RcNeAt)
theorem qe_bm0 {X : Cx} {o : Expr} {to : TE} {name : Str} {apos cpos : Pos} {T id : String} {r : V → List V → Hp → VK → Prop} (pa : PlainAttrs T) (slot : Slot T name id) (hty : typeOf (.builtin id) = pure (.type "method_descriptor")) (hm : MtR X id r) (ho : QE X o to)
    (hbase : attributeBase o name X.env (eval o X.env) = eval o X.env := by rfl) (hline : (apos.endLine == cpos.line) = true := by rfl) : QE X (.Call (.Attribute o name apos) [] [] cpos) (tBM0 X.K T r to) := .mk (pe_bm0 pa slot hty hm ho.to hbase hline)
end L2
end
section
set_option linter.all false
set_option maxRecDepth 100000
set_option maxHeartbeats 4000000
namespace L2
open PySem PySem.Spec PyProof.Rows
structure Ground (P : Program) (w : World) (fs : List Addr) (H H' : Hp) (h B : Heap) : Prop where
  ok : HOk P w H' B
  old : ∀ b o, h.get? b = some o → H b = none → b ∉ fs → B.get? b = some o
  there : ∀ b o, h.get? b = some o → b ∉ fs → ∃ o', B.get? b = some o'
def CXe (P : Program) (w : World) : CXT := fun outer H s E v s' => ∃ (e C : Addr) (H' : Hp) (B : Heap) (a0 : Value), v = .ref e ∧ s'.os = s.os ∧ AllBare s'.gens ∧ Un (frs outer) [] H H' s.heap s'.heap ∧
  Ground P w (frs outer) H H' s.heap B ∧ Heap.FlyingW B outer e (.ref C) a0 s'.heap ∧ E (.ref C) none H'
theorem HOk.get {P : Program} {w : World} {H : Hp} {h : Heap} {a : Addr} {o : HO} (x : HOk P w H h) (e : H a = some o) : ∃ ob, h.get? a = some ob := by
  have q := x a o e
  cases o with
  | lst xs => obtain ⟨_, _, _, _, e⟩ := q; exact ⟨_, e⟩
  | tup xs => obtain ⟨_, _, _, ob, e, _⟩ := q; exact ⟨_, e⟩
  | dK kvs => obtain ⟨_, _, _, _, o, _, _, e, _⟩ := q; exact ⟨_, e⟩
  | dT kvs => obtain ⟨_, _, _, _, o, _, _, e, _⟩ := q; exact ⟨_, e⟩
  | set S n => obtain ⟨o, _, _, _, e, _⟩ := q; exact ⟨_, e⟩
  | ins C dx fs => obtain ⟨_, _, _, e, _⟩ := q; exact ⟨_, e⟩
  | own y => obtain ⟨_, e⟩ := q; exact ⟨_, e⟩
  | xd fs => obtain ⟨_, ⟨_, _, _, e, _⟩, _⟩ := q; exact ⟨_, e⟩
  | rng lo hi => obtain ⟨_, _, _, e⟩ := q; exact ⟨_, e⟩
  | frz ob u => obtain ⟨e, _⟩ := q; exact ⟨_, e⟩
  | tbl ps => exact ⟨_, show h.get? a = some _ from q⟩
  | met f y => exact ⟨_, show h.get? a = some _ from q⟩
  | ext φ => obtain ⟨_, e, _⟩ := q; exact e
section
variable {X : Cx} {pins : List (Addr × Obj)} {σ : St} {H H' : Hp} {s s' : Shared} {B : Heap}
def Kp (X : Cx) (pins : List (Addr × Obj)) (σ : St) (H' : Hp) (s' : Shared) (B : Heap) : Prop := ∀ h' t', B.StaysIn h' → s'.heap.UpToSlots h' → Inv X pins σ H' { s' with heap := h', toks := t' }
theorem Inv.kp (I : Inv X pins σ H s) (os : s'.os = s.os) (bare : AllBare s'.gens) (U : Un (frs X.stack) [] H H' s.heap s'.heap) (G : Ground X.prog X.w (frs X.stack) H H' s.heap B) : Kp X pins σ H' s' B := fun h' t' st up => by
  have nof : ∀ b ∈ frs X.stack, ∀ o, s.heap.get? b = some o → ∃ sl, h'.get? b = some { o with slots := sl } := fun b hb o e => by
    obtain ⟨_, o', ho', hd⟩ := I.stack.mem hb
    rw [e] at ho'
    cases ho'
    obtain ⟨sl, e1⟩ := U.slot b o e (I.stkFree b hb) hb (by simp)
    exact up b { o with slots := sl } e1 hd
  have U2 : Un (frs X.stack) [] H H' s.heap h' := ⟨fun b o e n hb _ => st b o (G.old b o e n hb), fun b o e n hb _ => nof b hb o e, U.free, fun b o e _ => by
    by_cases hb : b ∈ frs X.stack
    · obtain ⟨sl, q⟩ := nof b hb o e
      exact ⟨_, q⟩
    · obtain ⟨o', q⟩ := G.there b o e hb
      exact ⟨o', st b o' q⟩, U.tups, U.frzs, U.tbls⟩
  obtain ⟨hh, g, d, t, o'⟩ := s'
  obtain rfl : o' = s.os := os
  have := I.call (h' := h') (g' := g) (d' := d) (t' := t') (ch := []) U2 (G.ok.kept st) bare (fun b z => absurd z (by simp))
  exact this
def Kt (X : Cx) (pins : List (Addr × Obj)) (σ : St) (H' : Hp) (s' : Shared) (B : Heap) : Prop := ∀ h' t' e o, B.StaysIn h' → s'.heap.UpToSlots h' → B.get? e = none → e ∉ frs X.stack → ObjOk X.prog X.w (upd H' e o) h' e o → Inv X pins σ (upd H' e o) { s' with heap := h', toks := t' }
theorem Inv.kt (I : Inv X pins σ H s) (os : s'.os = s.os) (bare : AllBare s'.gens) (U : Un (frs X.stack) [] H H' s.heap s'.heap) (G : Ground X.prog X.w (frs X.stack) H H' s.heap B) : Kt X pins σ H' s' B := fun h' t' e o st up hn hf new => by
  have nof : ∀ b ∈ frs X.stack, ∀ o, s.heap.get? b = some o → ∃ sl, h'.get? b = some { o with slots := sl } := fun b hb o e => by
    obtain ⟨_, o', ho', hd⟩ := I.stack.mem hb
    rw [e] at ho'
    cases ho'
    obtain ⟨sl, e1⟩ := U.slot b o e (I.stkFree b hb) hb (by simp)
    exact up b { o with slots := sl } e1 hd
  have tr : ∀ b u, H' b = some u → b ≠ e := fun b u q z => by
    obtain ⟨ob, q2⟩ := G.ok.get q
    rw [z, hn] at q2; cases q2
  have U2 : Un (frs X.stack) [] H (upd H' e o) s.heap h' := ⟨fun b o e n hb _ => st b o (G.old b o e n hb), fun b o e n hb _ => nof b hb o e, fun b o1 e1 n hx => by
    have hb : b ≠ e := fun z => by
      subst z
      have := G.old b o1 e1 n hf
      rw [hn] at this; cases this
    rw [upd_ne hb]
    exact U.free b o1 e1 n hx, fun b o e _ => by
    by_cases hb : b ∈ frs X.stack
    · obtain ⟨sl, q⟩ := nof b hb o e
      exact ⟨_, q⟩
    · obtain ⟨o', q⟩ := G.there b o e hb
      exact ⟨o', st b o' q⟩, fun b xs q => by rw [upd_ne (tr b _ (U.tups b xs q))]; exact U.tups b xs q, fun b ob u q => by rw [upd_ne (tr b _ (U.frzs b ob u q))]; exact U.frzs b ob u q, fun b ps q => by
      obtain ⟨m, q2⟩ := U.tbls b ps q
      exact ⟨m, by rw [upd_ne (tr b _ q2)]; exact q2⟩⟩
  have hk : HOk X.prog X.w (upd H' e o) h' := fun b u q => by
    by_cases hb : b = e
    · subst hb
      rw [upd_same] at q
      cases q
      exact new
    · rw [upd_ne hb] at q
      exact (G.ok b u q).stay (fun c v _ z => st c v z) (fun c z => by rw [upd_ne (tr c _ z)]; exact z) fun c xs z => by rw [upd_ne (tr c _ z)]; exact z
  obtain ⟨hh, g, d, t, o'⟩ := s'
  obtain rfl : o' = s.os := os
  have := I.call (h' := h') (g' := g) (d' := d) (t' := t') (ch := []) U2 hk bare (fun b z => absurd z (by simp))
  exact this
def XP (X : Cx) (pins : List (Addr × Obj)) (σ : St) (E : XK) (v : Value) (s' : Shared) : Prop := ∃ (e C : Addr) (H' : Hp) (B : Heap) (a0 : Value), v = .ref e ∧ Heap.FlyingW B X.stack e (.ref C) a0 s'.heap ∧
  Kp X pins σ H' s' B ∧ Kt X pins σ H' s' B ∧ HOk X.prog X.w H' B ∧ (∀ b o, X.s₀.heap.get? b = some o → X.H₀ b = none → b ∉ X.ex → b ∉ frs X.stack → B.get? b = some o) ∧ (∀ b o, X.s₀.heap.get? b = some o → b ∉ X.ex → b ∉ frs X.stack → ∃ o', B.get? b = some o') ∧ E (.ref C) none H'
theorem Inv.xp {E : XK} {v : Value} (I : Inv X pins σ H s) (h : CXe X.prog X.w X.stack H s E v s') : XP X pins σ E v s' := by
  have hst : ∀ b ∈ X.fs, b ∈ frs X.stack := fun b hb => by
    rcases I.ok.stk with e | ⟨e, _⟩
    · rw [e]; exact hb
    · rw [e]
      obtain ⟨env, he, hf⟩ := List.mem_filterMap.mp hb
      exact List.mem_filterMap.mpr ⟨env, List.mem_cons_of_mem _ he, hf⟩
  obtain ⟨e, C, H', B, a0, rfl, os, bare, U, G, fl, q⟩ := h
  refine ⟨e, C, H', B, a0, rfl, fl, I.kp os bare U G, I.kt os bare U G, G.ok, fun b o e n hx hb => ?_, fun b o e hx hb => ?_, q⟩
  · exact G.old b o (I.base.keep b o e n (fun z => hb (hst b z)) hx) (I.base.free b o e n hx) hb
  · obtain ⟨o', e1⟩ := I.base.there b o e hx
    exact G.there b o' e1 hb
end
section
variable {P : Program} {w : World} {K : PySem.W.Frag} {mg : Str → Option Value} {base : Heap} {N : List Str} {qual : Str} {scope : Scope} {f : Addr} {cd : Value} {A : Around} {outer : List Env} {s₀ : Shared} {H₀ : Hp} {E : XK}
theorem made_leaves {pins : List (Addr × Obj)} {σ : St} {H : Hp} {s : Shared} {h' : Heap} {e C : Addr} {args : List Value} (I : Inv (cxOf (CXe P w) P w K mg base N qual scope f cd A outer s₀ H₀ E) pins σ H s) (hx : Heap.MadeExcOf s.heap h' e (.ref C) args) (q : E (.ref C) none H) : (cxOf (CXe P w) P w K mg base N qual scope f cd A outer s₀ H₀ E).xe (.ref e) { s with heap := h' } := by
  have hin : ∀ env ∈ (cxOf (CXe P w) P w K mg base N qual scope f cd A outer s₀ H₀ E).stack, ∀ b, env.frame = some b → b ∈ frs (cxOf (CXe P w) P w K mg base N qual scope f cd A outer s₀ H₀ E).stack := fun env he b hb => List.mem_filterMap.mpr ⟨env, he, hb⟩
  have hsub : ∀ b, b ∈ frs (cxOf (CXe P w) P w K mg base N qual scope f cd A outer s₀ H₀ E).stack → b = s₀.heap.objs.size ∨ b ∈ frs outer := fun b hb => by
    obtain ⟨env, he, hf⟩ := List.mem_filterMap.mp hb
    rcases List.mem_cons.mp he with rfl | he
    · exact .inl (Option.some.inj hf).symm
    · exact .inr (List.mem_filterMap.mpr ⟨env, he, hf⟩)
  refine wpAny_leaves_madeW (base := PySem.W.hideAll s.heap (frs (cxOf (CXe P w) P w K mg base N qual scope f cd A outer s₀ H₀ E).stack)) (s := { s with heap := h' }) I.ok.frames rfl (fun b o q => PySem.W.of_hideAll _ q) (PySem.W.funFrames_hide I.stack hin) hx fun h2 t fl _ _ up => ?_
  have up2 : s.heap.UpToSlots h2 := (Heap.UpToSlots.of_keeps hx.keeps).trans up
  have st := fl.1
  have old : ∀ b o, s.heap.get? b = some o → b ∉ frs (cxOf (CXe P w) P w K mg base N qual scope f cd A outer s₀ H₀ E).stack → (PySem.W.hideAll s.heap (frs (cxOf (CXe P w) P w K mg base N qual scope f cd A outer s₀ H₀ E).stack)).get? b = some o := fun b o e nb => PySem.W.hideAll_get _ e nb
  have nL : ∀ b o, s₀.heap.get? b = some o → b ∉ frs outer → b ∉ frs (cxOf (CXe P w) P w K mg base N qual scope f cd A outer s₀ H₀ E).stack := fun b o e nb hb => by
    rcases hsub b hb with rfl | z
    · exact absurd (Heap.lt_size e) (Nat.lt_irrefl _)
    · exact nb z
  have fr2 : ∀ b ∈ frs outer, ∀ o, s.heap.get? b = some o → ∃ sl, h2.get? b = some { o with slots := sl } := fun b hb o e => by
    have hb' : b ∈ frs (cxOf (CXe P w) P w K mg base N qual scope f cd A outer s₀ H₀ E).stack := by
      obtain ⟨env, he, hf⟩ := List.mem_filterMap.mp hb
      exact List.mem_filterMap.mpr ⟨env, List.mem_cons_of_mem _ he, hf⟩
    obtain ⟨_, o', ho', hd⟩ := I.stack.mem hb'
    rw [e] at ho'
    cases ho'
    exact up2 b o e hd
  have hokB : HOk P w H (PySem.W.hideAll s.heap (frs (cxOf (CXe P w) P w K mg base N qual scope f cd A outer s₀ H₀ E).stack)) := fun a o ea => (I.hok a o ea).stay (fun b u hb q => old b u q fun z => by
    have := I.stkFree b z
    rcases hb with rfl | hb
    · rw [ea] at this; cases this
    · rw [hb] at this; cases this) (fun _ q => q) fun _ _ q => q
  refine ⟨e, C, H, PySem.W.hideAll s.heap (frs (cxOf (CXe P w) P w K mg base N qual scope f cd A outer s₀ H₀ E).stack), .ref t, rfl, I.os, I.bare, ⟨fun b o e n hb _ => ?_, fun b o e n hb _ => ?_, I.base.free, fun b o e _ => ?_, I.base.tups, I.base.frzs, I.base.tbls⟩, ⟨hokB, fun b o e n hb => old b o (I.base.keep b o e n hb (List.not_mem_nil)) (nL b o e hb), fun b o e hb => ?_⟩, fl, q⟩
  · exact st b o (old b o (I.base.keep b o e n hb List.not_mem_nil) (nL b o e hb))
  · obtain ⟨sl, e1⟩ := I.base.slot b o e n hb List.not_mem_nil
    obtain ⟨sl2, e2⟩ := fr2 b hb _ e1
    exact ⟨sl2, e2⟩
  · obtain ⟨o', e1⟩ := I.base.there b o e List.not_mem_nil
    by_cases hb : b ∈ frs outer
    · obtain ⟨sl, e2⟩ := fr2 b hb o' e1
      exact ⟨_, e2⟩
    · exact ⟨o', st b o' (old b o' e1 (nL b o e hb))⟩
  · obtain ⟨o', e1⟩ := I.base.there b o e List.not_mem_nil
    exact ⟨o', old b o' e1 (nL b o e hb)⟩
end
def mroHas (K : PySem.W.Frag) (C : Addr) (v : Value) : Bool := match K.lookup C with
  | some ⟨_, _, .cls cd, _⟩ => cd.mro.contains v
  | _ => false
theorem exc_at {K : PySem.W.Frag} {h : Heap} {C : Addr} {bmB : List Value} {newId : String} (ki : K.In h) (z : PySem.W.excIn K C bmB newId = true) :
    ∃ tl N1 nm q bs b1 b2 b3 b4 b5 b6 k0 k1 k2 k3 k5 mN, h.get? C = some (excClassObj nm q C N1 bs tl b1 b2 b3 b4 b5 b6 k0 k1 k2 k3 k5 newId) ∧ h.Ns N1 mN ∧ mN "__init__" = none ∧ OwnTail h bmB tl ∧ ∀ v, mroHas K C v = (Value.ref C :: tl).contains v := by
  unfold PySem.W.excIn at z
  split at z
  case h_2 => cases z
  rename_i dc cl so hlk
  split at z
  case h_2 => cases z
  rename_i C1 tl a0 a1 a2 a3 nw a5 hmr hso
  simp only [Bool.and_eq_true, beq_iff_eq, Bool.not_eq_true'] at z
  obtain ⟨⟨⟨⟨⟨e1, e2⟩, e3⟩, e4⟩, e5⟩, e6⟩ := z
  subst e1 e2
  cases cl with
  | mk c1 c2 c3 c4 c5 c6 c7 c8 c9 cA cB =>
    dsimp only at hmr e3 e5 e6
    subst hmr e3
    cases so with
    | mk l =>
      have hl : l = [a0, a1, a2, a3, some (.builtin nw), a5] := hso
      subst hl
      refine ⟨tl, _, _, _, _, _, _, _, _, _, _, _, _, _, _, _, _, ki _ _ hlk, .of_isNs (PySem.W.isNs_of_in ki e5), PySem.W.nsMap_none_of_in ki e5 e6, PySem.W.tail_of_in ki e4, fun v => ?_⟩
      unfold mroHas
      rw [hlk]
section
variable {P : Program} {w : World} {K : PySem.W.Frag} {mg : Str → Option Value} {base : Heap} {N : List Str} {qual : Str} {scope : Scope} {f : Addr} {cd : Value} {A : Around} {outer : List Env} {s₀ : Shared} {H₀ : Hp} {E : XK}
def tRaise (E : XK) (C : Addr) (ta : TA) : TS := fun _ σ H => ta σ H fun vs H1 => vs.length ≤ 1000 ∧ E (.ref C) none H1
theorem ps_raiseC {C : Addr} {x : Str} {e : Expr} {es : List Expr} {ta : TA} {np cpos pos : Pos} {B newId initId : String} {bm : List Value} (FB : ExcBaseFacts B newId initId bm) (hB : bm.contains (.type B) = true) (hg : Gl (cxOf (CXe P w) P w K mg base N qual scope f cd A outer s₀ H₀ E) x) (hm : mg x = some (.ref C)) (hC : PySem.W.excIn K C bm newId = true) (hh : A.handled = none)
    (ha : PA (cxOf (CXe P w) P w K mg base N qual scope f cd A outer s₀ H₀ E) (e :: es) ta) (he : starEach (e :: es) (cxOf (CXe P w) P w K mg base N qual scope f cd A outer s₀ H₀ E).env = (false, eval e (cxOf (CXe P w) P w K mg base N qual scope f cd A outer s₀ H₀ E).env) :: starEach es (cxOf (CXe P w) P w K mg base N qual scope f cd A outer s₀ H₀ E).env := by rfl) (hpl : (backTo cpos (starEach es (cxOf (CXe P w) P w K mg base N qual scope f cd A outer s₀ H₀ E).env)).any (·.1) = false := by rfl) (hd : (x == ("__debug__" : Str)) = false := by decide) :
    PS (cxOf (CXe P w) P w K mg base N qual scope f cd A outer s₀ H₀ E) (.Raise (some (.Call (.Name x np) (e :: es) [] cpos)) none pos) (tRaise E C ta) := by
  intro pins s σ H D I h
  obtain ⟨tl, N1, nm, q, bs, b1, b2, b3, b4, b5, b6, k0, k1, k2, k3, k5, mN, oC, oN, oi, oT, _⟩ := exc_at I.ok.mod.kin hC
  have h1 := ha cpos pins s σ H _ I h
  refine wpAny_Raise_call_subU (C := C) (nm := nm) (q := q) (N := N1) (bs := bs) (bm := tl) (hdct := b1) (sn := b2) (sub := b3) (ab := b4) (col := b5) (dd := b6) (k0 := k0) (k1 := k1) (k2 := k2) (k3 := k3) (k5 := k5) FB hB FB (mN := mN) (oT.hasType FB.hasBase) hh ?_ oi (ld_glob I hg hm ⟨rfl, ?_⟩ hd)
  · rw [he]
    show (false || (backTo cpos (starEach es (cxOf (CXe P w) P w K mg base N qual scope f cd A outer s₀ H₀ E).env)).any (·.1)) = false
    rw [hpl]; rfl
  rw [he] at h1 ⊢
  refine Calls.evalArgs_plain (thn h1 fun us s1 ⟨vs, H1, I1, r, hz, q1⟩ => ?_)
  have hl : us.length ≤ sizeLine := by rw [← r.length]; exact Nat.le_trans hz (by decide)
  exact ⟨rfl, hl, I1.bk _ _ oC, oN.keeps I1.bk, oT.keeps I1.bk, fun h' e' hx => made_leaves I1 hx q1⟩
end
end L2
end
section
set_option linter.all false
set_option maxRecDepth 100000
set_option maxHeartbeats 4000000
namespace L2
open PySem PySem.Spec PyProof.Rows
abbrev TEX := St → Hp → VK → XK → Prop
abbrev XS := Value → St → Hp → Prop
abbrev TSX := Ends → XS → St → Hp → Prop
def PEX (X : Cx) (e : Expr) (t : TEX) : Prop :=
  ∀ (pins : List (Addr × Obj)) (s : Shared) (σ : St) (H : Hp) (Q : VK) (E : XK), Inv X pins σ H s → t σ H Q E → wpAny (model X.prog X.w) X.A (eval e X.env) (EP X pins σ Q) (XP X pins σ E) s
def XSP (X : Cx) (pins : List (Addr × Obj)) (E : XS) (v : Value) (s' : Shared) : Prop := ∃ σ', XP X pins σ' (fun c _ H' => E c σ' H') v s'
def PSX (X : Cx) (st : Stmt) (t : TSX) : Prop :=
  ∀ (pins : List (Addr × Obj)) (s : Shared) (σ : St) (H : Hp) (D : Ends) (E : XS), Inv X pins σ H s → t D E σ H → wpAny (model X.prog X.w) X.A (exec st X.env) (SP X pins D) (XSP X pins E) s
def PSsX (X : Cx) (st : List Stmt) (t : TSX) : Prop :=
  ∀ (pins : List (Addr × Obj)) (s : Shared) (σ : St) (H : Hp) (D : Ends) (E : XS), Inv X pins σ H s → t D E σ H → wpAny (model X.prog X.w) X.A (execs st X.env) (SP X pins D) (XSP X pins E) s
section
variable {X : Cx} {k : Nat} {f : Addr} {fd : FuncData} {ps : List Str} {sp : Sp} {dvs : List V} {ds : List Value} {x : Str} {p pos : Pos} {e : Expr} {es : List Expr} {t : TA} {te : TEX}
theorem run_fnX {pins : List (Addr × Obj)} {σ : St} {H : Hp} {s : Shared} {Q : VK} {E : XK} {us : List Value} {vs : List V} (F : FnOk X.prog X.w X.K X.mg X.base (CXe X.prog X.w) k f fd ps sp) (hr : Room k X.A) (hb : Binds X.K fd ps ds) (hd : Vals dvs ds)
    (I : Inv X pins σ H s) (r : Vals vs us) (h : sp (vs ++ dvs) H Q E) : wpAny (model X.prog X.w) X.A (call (.ref f) us) (EP X pins σ Q) (XP X pins σ E) s := by
  have r2 : Vals (vs ++ dvs) (us ++ ds) := r.append hd
  have hl : (us ++ ds).length = ps.length := by rw [← r2.length]; exact F.len _ _ _ _ h
  refine wpAny_call (codeAny_mono (F.run X.A X.stack s H ⟨us, []⟩ (us ++ ds) (vs ++ dvs) Q E hr I.env0 (hb s us I.kIn hl) r2 h) fun r s' hq => ?_)
  cases r with
  | error e => exact I.xp hq
  | ok fl =>
    cases fl with
    | ret u => exact I.after hq
    | next => exact False.elim hq
    | brk => exact False.elim hq
    | cont => exact False.elim hq
def tCallX (sp : Sp) (dvs : List V) (t : TA) : TEX := fun σ H Q E => t σ H fun vs H1 => sp (vs ++ dvs) H1 Q E
theorem pex_call (F : FnOk X.prog X.w X.K X.mg X.base (CXe X.prog X.w) k f fd ps sp) (hr : Room k X.A) (hg : Gl X x) (hm : X.mg x = some (.ref f)) (hk : PySem.W.keepIn X.K (.ref f) = true) (hb : Binds X.K fd ps ds) (hd : Vals dvs ds)
    (ha : PA X.nox (e :: es) t) (hdb : (x == ("__debug__" : Str)) = false := by decide) (he : starEach (e :: es) X.env = (false, eval e X.env) :: starEach es X.env := by rfl) (hpl : (backTo pos (starEach es X.env)).any (·.1) = false := by rfl) :
    PEX X (.Call (.Name x p) (e :: es) [] pos) (tCallX sp dvs t) := by
  intro pins s σ H Q E I h
  refine wpAny_Call_Name_kw (ld_glob I hg hm ?_ hdb)
  refine PySem.W.callWith_K (h₀ := X.base) I.ok.mod.kin hk (wpAny_mono (ha pos pins s σ H _ (I.wish _) h) (fun us s1 ⟨vs, H1, I1, r, q⟩ => ⟨I1.kIn, ?_⟩) fun _ _ z => False.elim z) he hpl
  exact run_fnX F hr hb hd I1.unwish r q
def tDropX (te : TEX) : TSX := fun D E σ H => te σ H (fun _ H' => D.nx σ H') fun c _ H' => E c σ H'
theorem psx_expr (he : PEX X e te) (hs : swapsWith e none pos.line X.env = pure false := by rfl) : PSX X (.Expr e pos) (tDropX te) := by
  intro pins s σ H D E I h
  exact wpAny_Expr_any (wpAny_mono (he pins s σ H _ _ I h) (fun v s1 ⟨x, H1, I1, r1, q1⟩ => ⟨σ, H1, I1, q1⟩) fun v s1 q => ⟨σ, q⟩) I.quiet hs
def tSetX (te : TEX) (i : Nat) : TSX := fun D E σ H => te σ H (fun v H' => D.nx (σ.set i (some v)) H') fun c _ H' => E c σ H'
def tRetX (te : TEX) : TSX := fun D E σ H => te σ H D.rt fun c _ H' => E c σ H'
theorem psxs_one {st : Stmt} {t : TSX} (h1 : PSX X st t) : PSsX X [st] t := by
  intro pins s σ H D E I h
  refine wpAny_execs_cons (thn (h1 pins s σ H D E I h) fun f s1 q => ?_)
  cases f with
  | next => exact wpAny_execs_nil q
  | ret v => exact q
  | brk => exact q
  | cont => exact q
abbrev Cx.inX (X : Cx) (e : Addr) : Cx := { X with A := X.A.mark (some (.ref e)), calm := false }
theorem Cx.Ok.inX (ok : X.Ok) (e : Addr) : (X.inX e).Ok :=
  ⟨ok.mod, ok.kind, ok.glob, ok.blt, ok.above, ok.inj, ok.has, ok.cab, (fun z => by cases z), ok.frames, ok.stk, ok.exf, ok.bs, ok.bsz, ok.noex, ok.exfs, ok.funs, ok.frf⟩
theorem Cx.Ok.outX {e : Addr} (ok : (X.inX e).Ok) (hd : X.calm = true → X.A.handled = none) : X.Ok :=
  ⟨ok.mod, ok.kind, ok.glob, ok.blt, ok.above, ok.inj, ok.has, ok.cab, hd, ok.frames, ok.stk, ok.exf, ok.bs, ok.bsz, ok.noex, ok.exfs, ok.funs, ok.frf⟩
theorem Inv.inX {pins : List (Addr × Obj)} {σ : St} {H : Hp} {s : Shared} (I : Inv X pins σ H s) (e : Addr) : Inv (X.inX e) pins σ H s := ⟨I.ok.inX e, I.os, I.bare, I.base, I.loc, I.cell, I.free, I.freeC, I.pin, I.hok, I.len⟩
theorem Inv.outX {pins : List (Addr × Obj)} {σ : St} {H : Hp} {s : Shared} {e : Addr} (I : Inv (X.inX e) pins σ H s) (hd : X.calm = true → X.A.handled = none) : Inv X pins σ H s := ⟨I.ok.outX hd, I.os, I.bare, I.base, I.loc, I.cell, I.free, I.freeC, I.pin, I.hok, I.len⟩
theorem Inv.unset {pins : List (Addr × Obj)} {σ : St} {H : Hp} {s : Shared} {i : Nat} {n : Str} {m : Str → Option Value} {u : Option Value} {h' : Heap} (I : Inv X pins σ H s) (hN : X.N.Nodup) (hi : X.N[i]? = some n) (hn : s.heap.Ns X.env.locals m) (hn' : h'.Ns X.env.locals fun x => if x = n then u else m x)
    (hs : Heap.SameBut X.env.locals s.heap h') : Inv X pins (σ.set i none) H { s with heap := h' } := by
  obtain ⟨m0, hn0, hl⟩ := id I.loc
  have em : m0 = m := by
    obtain ⟨o1, es1, ep1, g1, d1, _, f1⟩ := id hn0
    obtain ⟨o2, es2, ep2, g2, d2, _, f2⟩ := id hn
    rw [g1] at g2
    cases g2
    rw [d1] at d2
    cases d2
    funext y
    rw [← f1, ← f2]
  subst em
  obtain ⟨oL, _, _, hoL, _⟩ := id hn
  have hiσ : i < σ.length := by rw [I.len]; exact (List.getElem?_eq_some_iff.mp hi).1
  have old : ∀ b o, X.s₀.heap.get? b = some o → b ≠ X.env.locals := fun b o e => Nat.ne_of_lt (Nat.lt_of_lt_of_le (Heap.lt_size e) I.ok.above)
  refine ⟨I.ok, I.os, I.bare, ⟨fun b o e n hb hx => (hs.2 b (old b o e)).trans (I.base.keep b o e n hb hx), fun b o e n hb hx => ?_, I.base.free, fun b o e hx => ?_, I.base.tups, I.base.frzs, I.base.tbls⟩, ⟨_, hn', fun j y v e1 e2 e3 => ?_⟩, fun y c e => ?_, I.free, I.freeC, fun p hp => ?_, fun b ob e => ?_, by simpa using I.len⟩
  · obtain ⟨sl, e1⟩ := I.base.slot b o e n hb hx
    exact ⟨sl, (hs.2 b (old b o e)).trans e1⟩
  · obtain ⟨o', e1⟩ := I.base.there b o e hx
    exact ⟨o', (hs.2 b (old b o e)).trans e1⟩
  · have hj : j ≠ i := fun z => by
      subst z
      rw [List.getElem?_set_self hiσ] at e2
      cases e2
    rw [List.getElem?_set_ne (Ne.symm hj)] at e2
    obtain ⟨v', r', q⟩ := hl j y v e1 e2 e3
    refine ⟨v', r', ?_⟩
    rcases q with ⟨k, e⟩ | ⟨k, c, e, z⟩
    · have hy : y ≠ n := fun e => hj (nodup_ix hN e1 (e ▸ hi))
      exact .inl ⟨k, by simp [hy, e]⟩
    · exact .inr ⟨k, c, e, z.sameBut hs (I.cne y c e)⟩
  · obtain ⟨w', z⟩ := I.cell y c e
    exact ⟨w', z.sameBut hs (I.cne y c e)⟩
  · obtain ⟨e, n, ne, nf, d⟩ := I.pin p hp
    exact ⟨(hs.2 p.1 ne).trans e, n, ne, nf, d⟩
  · refine (I.hok b ob e).stay (fun c w' hc q => (hs.2 c fun z => ?_).trans q) (fun _ q => q) fun _ _ q => q
    have fr := I.free
    subst z
    rcases hc with rfl | hc
    · rw [fr] at e; cases e
    · rw [fr] at hc; cases hc
def xcO (e C : Addr) : HO := .ext fun h => ∃ o vs, h.get? e = some o ∧ o.cls = .ref C ∧ o.data = .fields vs
theorem xc_match {M : Model} {A : Around} {E : Value → Shared → Prop} {h : Heap} {g : Array GenState} {d : Drawn} {t : Nat} {os : OsState} {e C C2 : Addr} {oe : Obj} {Q : Bool → Shared → Prop}
    {nm q : Str} {N1 : Addr} {bs tl : List Value} {b1 : Bool} {b2 : List Str} {b3 : List Value} {b4 : Bool} {b5 : Option Bool} {b6 : Option Addr} {k0 k1 k2 k3 k5 : Option Value} {newId : String}
    {nm' q' : Str} {N1' : Addr} {bs' tl' : List Value} {b1' : Bool} {b2' : List Str} {b3' : List Value} {b4' : Bool} {b5' : Option Bool} {b6' : Option Addr} {k0' k1' k2' k3' k5' : Option Value} {newId' : String}
    (hC : h.get? C = some (excClassObj nm q C N1 bs tl b1 b2 b3 b4 b5 b6 k0 k1 k2 k3 k5 newId)) (hC2 : h.get? C2 = some (excClassObj nm' q' C2 N1' bs' tl' b1' b2' b3' b4' b5' b6' k0' k1' k2' k3' k5' newId'))
    (he : h.get? e = some oe) (hcls : oe.cls = .ref C) (hbase : tl'.contains (.type "BaseException") = true) (hsub : (Value.ref C :: tl).contains (.ref C2) = true)
    (hq : Q true ⟨h, g, d, t, os⟩) : wpAny M A (excMatches (.ref e) (.ref C2)) Q E ⟨h, g, d, t, os⟩ := by
  have z1 : (Value.ref C2 :: tl').contains (.type "BaseException") = true := by rw [List.contains_cons, hbase, Bool.or_true]
  have z2 := tc_notTuple
  unfold excMatches
  repeat (first | (with_reducible refine wpAny_loadPart_at he ?_; rw [hcls]) | with_reducible refine wpAny_loadPart_at hC2 ?_ | (with_reducible refine wpAny_isSubtype_exc hC2 ?_; rw [z1]) | (with_reducible refine wpAny_isSubtype_exc hC ?_; rw [hsub]) | wp_step)
  exact hq
def endX (i : Nat) (D : Ends) : Ends := { nx := fun σ2 H2 => D.nx (σ2.set i none) H2, rt := D.rt, bk := fun σ2 H2 => D.bk (σ2.set i none) H2, ct := fun σ2 H2 => D.ct (σ2.set i none) H2 }
def tTry (tb : TSX) (K : PySem.W.Frag) (C2 : Addr) (i : Nat) (ts : TS) : TS := fun D σ H => tb D (fun c σ' H' => ∃ (C : Addr) (bm : List Value) (nid : String), c = .ref C ∧ PySem.W.excIn K C bm nid = true ∧ mroHas K C (.ref C2) = true ∧
  ∀ e, H' e = none → ts (endX i D) (σ'.set i (some (.ref e))) (upd H' e (xcO e C))) σ H
theorem ps_try {body : List Stmt} {tb : TSX} {n : Str} {C2 : Addr} {i : Nat} {b₀ : Stmt} {suite : List Stmt} {ts : TS} {np hpos : Pos} {B2 nid2 ini2 nid3 : String} {bm2 : List Value} (hb : PSsX X body tb) (hS : X.stack = X.env :: X.outer) (hF : X.env.frame = some X.env.locals)
    (hg : Gl X x) (hm : X.mg x = some (.ref C2)) (FB : ExcBaseFacts B2 nid2 ini2 bm2) (hC2 : PySem.W.excIn X.K C2 bm2 nid3 = true) (hN : X.N.Nodup) (hi : X.N[i]? = some n) (hl : X.env.scope.names.lookup n = some .local) (hs : ∀ e, PSs (X.inX e).nox (b₀ :: suite) ts) (hd : (x == ("__debug__" : Str)) = false := by decide) :
    PS X (.Try body [.ExceptHandler (some (.Name x np)) (some n) (b₀ :: suite) hpos] [] [] pos) (tTry tb X.K C2 i ts) := by
  intro pins s σ H D I h
  refine wpAny_Try_except (wpAny_mono (hb pins s σ H D _ I h) (fun f s1 hf => ?_) fun v s1 hx => ?_)
  · cases f with
    | next => exact wpAny_execs_nil hf
    | ret v => exact hf
    | brk => exact hf
    | cont => exact hf
  obtain ⟨σ', e, C, H', B, a0, rfl, fl, kp, kt, hokB, _, _, ⟨C', bm, nid, eC, hCx, sub, q⟩⟩ := hx
  cases eC
  rw [hS] at fl
  have hfr : X.A.frames = some (X.env :: X.outer) := by rw [I.ok.frames, hS]
  refine wpAny_looks_onW hfr hF fl fun h4 held up4 => ?_
  refine wpAny_landsW held fun h5 fl5 up5 => ?_
  have I5 := kp h5 s1.toks fl5.1 (up4.trans up5)
  obtain ⟨tl, c1, c2, c3, c4, c5, c6, c7, c8, c9, cA, cB, cC, cD, cE, cF, cG, oC, _, _, _, mr⟩ := exc_at I.ok.mod.kin hCx
  obtain ⟨tl2, d1, d2, d3, d4, d5, d6, d7, d8, d9, dA, dB, dC, dD, dE, dF, dG, oC2, _, _, oT2, _⟩ := exc_at I.ok.mod.kin hC2
  obtain ⟨ob, hob, hobc⟩ := fl5.there
  have sub' : (Value.ref C :: tl).contains (.ref C2) = true := by rw [← mr]; exact sub
  refine wpAny_handleBy_cons (codeAny_handlers_test (ld_glob (I5.inX e) hg hm ?_ hd)) (by intro q; cases q)
  refine xc_match (I5.bk _ _ oC) (I5.bk _ _ oC2) hob hobc (oT2.hasType FB.hasBase) sub' (codeAny_handlers_suite_as ?_)
  refine lands_againW fl5 fun h6 fl6 up6 => ?_
  obtain ⟨oe, ws, T1, oT1, ts1, he6, ⟨hc6, _⟩, hd6, _⟩ := fl6.2.2.2
  have hBe : B.get? e = none := fl6.2.1
  have nf : e ∉ frs X.stack := fun z => by
    rw [hS] at z
    obtain ⟨_, o, ho, hnf⟩ := fl6.2.2.1.mem z
    rw [he6] at ho
    cases ho
    exact hnf ws hd6
  have I6 := kt h6 s1.toks e (xcO e C) fl6.1 ((up4.trans up5).trans up6) hBe nf ⟨⟨oe, ws, he6, hc6, hd6⟩, ⟨oe, he6⟩, fun h1 h2 ⟨o, vs, a, b, c⟩ k => ⟨o, vs, k o a, b, c⟩⟩
  have hfree : H' e = none := by
    cases z : H' e with
    | none => rfl
    | some u =>
      obtain ⟨ob, q2⟩ := hokB.get z
      rw [hBe] at q2; cases q2
  refine store_ok I6 hN hi (.inl hl) (v := .ref e) rfl (fun s7 I7 => ?_) (.inr hl)
  refine wpAny_mono (hs e pins s7 _ _ _ ((I7.inX e).wish _) (q e hfree)) (fun f s8 hf => ?_) fun _ _ z => False.elim z
  have fin : ∀ {σ8 : St} {H8 : Hp} {R : Shared → Prop}, Inv X pins σ8 H8 s8 → (∀ s9, Inv X pins (σ8.set i none) H8 s9 → R s9) →
      wpAny (model X.prog X.w) X.A (do bindName X.env n .none; unbindBehindTheSuite X.env n hpos) (fun _ s3 => R s3) X.xe s8 := fun {σ8 H8 R} I8 k => by
    refine wpAny_bind (wpAny_bindName (store_ok I8 hN hi (.inl hl) (v := .non) rfl (fun s9 I9 => ?_) (.inr hl)))
    obtain ⟨m, hn, hlk⟩ := id I9.loc
    have hiσ : i < σ8.length := by rw [I8.len]; exact (List.getElem?_eq_some_iff.mp hi).1
    obtain ⟨u, ru, lk⟩ := hlk i n .non hi (List.getElem?_set_self hiσ) (.inl hl)
    cases ru
    have hv : m n = some .none := by
      rcases lk with ⟨_, z⟩ | ⟨z, _⟩
      · exact z
      · exact absurd z (by show ¬ (X.env.scope.names.lookup n = _ ∨ X.env.scope.names.lookup n = _); rw [hl]; intro w; rcases w with w | w <;> cases w)
    unfold unbindBehindTheSuite
    refine wpAny_onRaise (wpAny_unbindName_local hl hn hv (by rw [I9.ok.kind]; rfl) fun h' u hns hsame => k _ ?_)
    have z := I9.unset hN hi hn hns hsame
    rwa [List.set_set] at z
  have hd0 := I.ok.hd
  cases f with
  | next =>
    obtain ⟨σ8, H8, I8, q8⟩ := hf
    exact fin (I8.unwish.outX hd0) fun s9 I9 => ⟨_, _, I9, q8⟩
  | ret u =>
    obtain ⟨v, σ8, H8, I8, r8, q8⟩ := hf
    exact fin (I8.unwish.outX hd0) fun s9 I9 => ⟨v, _, _, I9, r8, q8⟩
  | brk =>
    obtain ⟨σ8, H8, I8, q8⟩ := hf
    exact fin (I8.unwish.outX hd0) fun s9 I9 => ⟨_, _, I9, q8⟩
  | cont =>
    obtain ⟨σ8, H8, I8, q8⟩ := hf
    exact fin (I8.unwish.outX hd0) fun s9 I9 => ⟨_, _, I9, q8⟩
end
end L2
end
section
set_option linter.all false
set_option maxRecDepth 100000
set_option maxHeartbeats 4000000
namespace L2
open PySem PySem.W PySem.Spec PySem.Calls PyProof.Rows PySem.Builtin PySem.Builtin.ObjectAttr PySem.Builtin.Getset_descriptor
def XcAt (x C : Addr) (h : Heap) : Prop := ∃ o vs, h.get? x = some o ∧ o.cls = .ref C ∧ o.data = .fields vs
theorem XcAt.ty {x C : Addr} {h : Heap} {M : Model} (I : XcAt x C h) : Looks M h (typeOf (.ref x)) (.ref C) := by
  obtain ⟨o, vs, h1, h2, _⟩ := I
  exact h2 ▸ (Looks.ld h1).andThen .now
section
variable {prog : Program} {w : World} {A : Around} {E : Value → Shared → Prop} {s : Shared} {K : Frag} {x C : Addr}
theorem xc_found {M : Model} {h : Heap} {nm : Str} {a g : Value} (X : K.In h) (ha : findIn K (.ref C) nm = some (some a)) (hg : specialIn K a "__get__" = some (some g)) (hd : takesIn K a = some true) : Looks M h (find (.ref x) (.ref C) nm) (.bind g a) :=
  (looks_findIn X ha).andThen ((show Looks M h (getOf (some a)) (some g) from looks_specialIn X hg).andThen ((show Looks M h (dataDescriptor? (some a) (some g)) (some (g, a)) from (looks_takesIn X hd).andThen .now).andThen (Looks.tag .now)))
theorem xc_class {Q : Option Value → Shared → Prop} (hp : findIn K (.ref C) "__getattribute__" = some (some (.builtin "BaseException.__getattribute__"))) (hp2 : findIn K (.ref C) "__getattr__" = some none) (ha : findIn K (.ref C) "__class__" = some (some (.builtin "object.__class__")))
    (hn : specialIn K (.builtin "object.__class__") "__get__" = some (some (.builtin "getset_descriptor.__get__"))) (htk : takesIn K (.builtin "object.__class__") = some true) (hm : mroIn K C (.type "object") = some true) (hm2 : mroIn K C (.type "BaseException") = some true)
    (X : K.In s.heap) (I : XcAt x C s.heap) (q : Q (some (.ref C)) { s with toks := s.toks + 1 }) : wpAny (model prog w) A (getAttr? (.ref x) "__class__") Q E s := by
  obtain ⟨hh, gg, dd, tt, oo⟩ := s
  have T := I.ty (M := model prog w)
  have G1 := looks_findIn (M := model prog w) X hp
  have G2 := looks_findIn (M := model prog w) X hp2
  have G3 := xc_found (x := x) (M := model prog w) X ha hn htk
  have G4 := looks_mroIn (M := model prog w) X hm
  have G5 := looks_mroIn (M := model prog w) X hm2
  have z1 : builtinKind "BaseException.__getattribute__" = some .slot := by decide +kernel
  have z2 : splitId "BaseException.__getattribute__" = some ("BaseException", "__getattribute__") := by decide +kernel
  have z3 := F.args_bexc_ga (.ref x) (.str "__class__" tt)
  unfold getAttr? getAttrBy? getAttrBy
  refine wpAny_bind (wpAny_mkText (wpAny_bind (wpAny_attempt (wpAny_holding (wpAny_bind (T.at (wpAny_bind (G1.at ?_))))))))
  show wpAny _ _ (getAttrByItsOwn _ _ _ _ _ _) _ _ _
  unfold getAttrByItsOwn
  refine wpAny_bind ((show Looks (model prog w) hh (hookBefore (.ref C)) none from G2).at ?_)
  refine wpAny_bind (wpAny_attempt (wpAny_holding ?_))
  show wpAny _ _ (boundAndCalled _ _ _) _ _ _
  unfold boundAndCalled
  refine wpAny_bind (wpAny_of_eq (F.excAttr_ValueError.ga.bind _) ?_)
  show wpAny _ _ (call (.builtin "BaseException.__getattribute__") [.ref x, .str "__class__" tt]) _ _ _
  refine wpAny_call (codeAny_call_builtin F.excAttr_ValueError.ga.plain F.entry_bexc_ga ?_)
  simp only [checkBuiltinCall, z1, z2]
  refine wpAny_bind ?_
  refine (show Looks (model prog w) hh (isInstance (.ref x) (.type "BaseException")) true from T.andThen G5).at ?_
  repeat wp_step
  obtain ⟨ob, vs, h1, h2, _⟩ := id I
  refine wpAny_loadPart_at h1 (wpAny_pure ?_)
  rw [h2]
  refine wpAny_bind (G3.at ?_)
  show wpAny _ _ (do ret (← holding [Value.builtin "object.__class__"] (call (.builtin "getset_descriptor.__get__") [.builtin "object.__class__", .ref x, .ref C]))) _ _ _
  refine wpAny_bind (wpAny_holding (wpAny_call ?_))
  refine codeAny_call_builtin KF.slot_gs.plain KF.entry_gs (KF.slot_gs.check _ _ _ _ _ _ _ _ KF.type_class (KF.args_gs _ _ _) ?_)
  (unfold Builtin.«getset_descriptor.__get__» descrGet; rw [dga_obj]; refine wpAny_bind (wpAny_pure ?_))
  (unfold descrGetter descrCheckInstance descrNameAndClass isInstance; simp only [KF.owner_class]; (repeat lk))
  refine ⟨Code.quiet_builtin _ (by decide +kernel), codeAny_builtin KF.entry_class ?_⟩
  (unfold Builtin.«object.__class__» shownTypeOf; (repeat lk))
  exact q
structure XcK (K : Frag) (C : Addr) : Prop where
  hp : findIn K (.ref C) "__getattribute__" = some (some (.builtin "BaseException.__getattribute__"))
  hp2 : findIn K (.ref C) "__getattr__" = some none
  ha : findIn K (.ref C) "__class__" = some (some (.builtin "object.__class__"))
  hn : specialIn K (.builtin "object.__class__") "__get__" = some (some (.builtin "getset_descriptor.__get__"))
  htk : takesIn K (.builtin "object.__class__") = some true
  hm : mroIn K C (.type "object") = some true
  hm2 : mroIn K C (.type "BaseException") = some true
theorem XcK.lk {K : Frag} {C : Addr} (z : XcK K C) : ∃ c d cd sl, K.lookup C = some ⟨c, d, .cls cd, sl⟩ := by
  obtain ⟨cd, h1, _⟩ := Option.bind_eq_some_iff.mp z.hm
  unfold clsIn at h1
  split at h1
  · rename_i c d cd' sl ho
    exact ⟨c, d, cd', sl, ho⟩
  · cases h1
theorem kitx_xc {K : Frag} {e C : Addr} (z : XcK K C) : KitX K (.ref e) (.ref C) (XcAt e C) where
  ty := fun _ _ _ I => I.ty
  it := fun _ _ X _ => by
    obtain ⟨c, d, cd, sl, ho⟩ := z.lk
    intro A' Q' E' s' k q
    unfold isType loadHead
    exact wpAny_bind (wpAny_loadPart (k _ _ (X _ _ ho)) (wpAny_pure q))
  ne := fun h tp dd its n sl X htp => by
    obtain ⟨c, d, cd, sl', ho⟩ := z.lk
    refine Bool.eq_false_iff.mpr fun q => ?_
    have e1 : C = tp := Value.ref.inj (beq_iff_eq.mp q)
    rw [e1] at ho
    rw [X _ _ ho] at htp
    cases htp
  ca := fun X I k => xc_class z.hp z.hp2 z.ha z.hn z.htk z.hm z.hm2 X I k
end
section
variable {X : Cx}
theorem call_isiX : CallR X (.builtin "isinstance") (fun zs H Q => ∃ (e C : Addr) (x : V) (c : Value) (b : Bool), zs = [.ref e, x] ∧ H e = some (xcO e C) ∧ XcK X.K C ∧ (∀ u, RelV x u → u = c) ∧ kitOne X.K (.ref C) c = some b ∧ Q (.bl b) H) := by
  intro pins s σ H zs us Q I r h
  obtain ⟨e, C, x, c, b, rfl, he, hC, hx, k1, q⟩ := h
  obtain ⟨u, w', rfl, ru, rw'⟩ := vals2 r
  cases ru
  have := hx _ rw'
  subst this
  obtain ⟨p, _, _⟩ := I.hok e _ he
  exact kia_one (kitx_xc hC) I.kIn p k1 (fun z => nomatch z) fun tk => ⟨.bl b, H, I.tok _, rfl, q⟩
theorem call_isiX2 : CallR X (.builtin "isinstance") (fun zs H Q => ∃ (e C t C1 C2 : Addr) (b : Bool), zs = [.ref e, .ref t] ∧ H e = some (xcO e C) ∧ XcK X.K C ∧ H t = some (.tup [.ref C1, .ref C2]) ∧ kitAny X.K (.ref C) [.ref C1, .ref C2] = some b ∧ Q (.bl b) H) := by
  intro pins s σ H zs us Q I r h
  obtain ⟨e, C, t, C1, C2, b, rfl, he, hC, ht, k1, q⟩ := h
  obtain ⟨u, w', rfl, ru, rw'⟩ := vals2 r
  cases ru
  cases rw'
  obtain ⟨p, _, _⟩ := I.hok e _ he
  obtain ⟨its, rv, ⟨o, h1, h2, n, h3⟩, _⟩ := I.tuple (SqT.of ht)
  obtain ⟨u1, u2, rfl, r1, r2⟩ := vals2 rv
  cases r1
  cases r2
  obtain ⟨oc, od, oda, os⟩ := o
  dsimp only at h2 h3
  subst h2 h3
  exact kia_tup (kitx_xc hC) I.kIn p h1 k1 (fun z => nomatch z) fun tk => ⟨.bl b, H, I.tok _, rfl, q⟩
theorem qe_glob {x : Str} {v : V} {u : Value} {pos : Pos} (hg : Gl X x) (hm : X.mg x = some u) (r : RelV v u) (hd : (x == ("__debug__" : Str)) = false := by decide) : QE X (.Name x pos) (tC v) := .mk (pe_glob hg hm r hd)
end
section
variable {P : Program} {w : World} {K : Frag} {mg : Str → Option Value} {base : Heap}
theorem passE {X : Cx} : Passes (CXe P w) X E0 := fun _ _ _ _ _ _ _ h => by
  obtain ⟨_, _, _, _, _, _, _, _, _, _, _, q⟩ := h
  exact q.elim
theorem Fun.okE {x qual : Str} {st : Stmt} {f : Addr} {fd : FuncData} {N ps : List Str} {k : Nat} {sp : Sp} (F : Fun K x qual st f fd) (S : FnScope N ps (defScope st)) (len : ∀ vs H Q E, sp vs H Q E → vs.length = ps.length)
    (hbody : ∀ (cdv : Value) (A : Around) (outer : List Env) (s : Shared) (H : Hp) (vs : List V) (Q : VK) (E : XK), Room k (A.deeper (envOfC qual (defScope st) s.heap.objs.size f cdv)) → sp vs H Q E →
      ∃ t, PSs (cxOf (CXe P w) P w K mg base N qual (defScope st) f cdv A outer s H E) (defBody st) t ∧ t { nx := fun _ H' => Q .non H', rt := Q } (start N vs) H) : FnOk P w K mg base (CXe P w) (k + 1) f fd ps sp := by
  obtain ⟨oc, od, kV, doc, pm, an, cdv, ct, osl, rfl, lk, hcd⟩ := F.ex
  exact fn_of lk hcd S len fun A outer s H vs Q E hr hsp => hbody cdv A outer s H vs Q E hr hsp
end
section
variable {P : Program} {w : World} {K : Frag} {mg : Str → Option Value} {base : Heap} {N : List Str} {qual : Str} {scope : Scope} {f : Addr} {cd : Value} {A : Around} {outer : List Env} {s₀ : Shared} {H₀ : Hp} {E : XK}
theorem qs_raiseC {C : Addr} {x : Str} {e : Expr} {es : List Expr} {ta : TA} {np cpos pos : Pos} {B newId initId : String} {bm : List Value} (FB : ExcBaseFacts B newId initId bm) (hB : bm.contains (.type B) = true) (hg : Gl (cxOf (CXe P w) P w K mg base N qual scope f cd A outer s₀ H₀ E) x) (hm : mg x = some (.ref C)) (hC : excIn K C bm newId = true) (hh : A.handled = none)
    (ha : QA (cxOf (CXe P w) P w K mg base N qual scope f cd A outer s₀ H₀ E) (e :: es) ta) (he : starEach (e :: es) (cxOf (CXe P w) P w K mg base N qual scope f cd A outer s₀ H₀ E).env = (false, eval e (cxOf (CXe P w) P w K mg base N qual scope f cd A outer s₀ H₀ E).env) :: starEach es (cxOf (CXe P w) P w K mg base N qual scope f cd A outer s₀ H₀ E).env := by rfl) (hpl : (backTo cpos (starEach es (cxOf (CXe P w) P w K mg base N qual scope f cd A outer s₀ H₀ E).env)).any (·.1) = false := by rfl) (hd : (x == ("__debug__" : Str)) = false := by decide) :
    QS (cxOf (CXe P w) P w K mg base N qual scope f cd A outer s₀ H₀ E) (.Raise (some (.Call (.Name x np) (e :: es) [] cpos)) none pos) (tRaise E C ta) := .mk (ps_raiseC FB hB hg hm hC hh ha.to he hpl hd)
end
end L2
end
section
set_option linter.all false
set_option maxRecDepth 100000
set_option maxHeartbeats 1000000
namespace Hm
open PySem L2
def wd (lt : V → V → Bool) (xs : List V) : Nat → Nat → List Nat
  | 0, _ => []
  | f + 1, p => if 2 * p + 1 < xs.length then les lt xs p :: wd lt xs f (les lt xs p) else []
variable {lt : V → V → Bool}
theorem wd_pos {xs : List V} {f p : Nat} (h : 2 * p + 1 < xs.length) : wd lt xs (f + 1) p = les lt xs p :: wd lt xs f (les lt xs p) := by
  conv => lhs; unfold wd
  rw [if_pos h]
theorem wd_end {xs : List V} {f p : Nat} (h : ¬ 2 * p + 1 < xs.length) : wd lt xs f p = [] := by
  cases f with
  | zero => rfl
  | succ f => unfold wd; rw [if_neg h]
theorem wd_mem {xs : List V} : ∀ {f p q : Nat}, q ∈ wd lt xs f p → p < q ∧ q < xs.length
  | 0, p, q, h => by cases h
  | f + 1, p, q, h => by
    by_cases hc : 2 * p + 1 < xs.length
    · rw [wd_pos hc] at h
      have b1 := les_lo (lt := lt) (xs := xs) (p := p)
      have b3 := les_lt (lt := lt) hc
      rcases List.mem_cons.mp h with z | z
      · omega
      · have := wd_mem z; omega
    · rw [wd_end hc] at h; cases h
theorem wd_asc {xs : List V} : ∀ {f p : Nat}, (p :: wd lt xs f p).Pairwise (fun a b => a < b)
  | 0, p => by unfold wd; simp
  | f + 1, p => by
    refine List.pairwise_cons.mpr ⟨fun q hq => (wd_mem hq).1, ?_⟩
    by_cases hc : 2 * p + 1 < xs.length
    · rw [wd_pos hc]; exact wd_asc
    · rw [wd_end hc]; exact .nil
theorem les_congr {xs zs : List V} {p : Nat} (hl : xs.length = zs.length) (h : ∀ j, p < j → g xs j = g zs j) : les lt xs p = les lt zs p := by
  unfold les
  rw [hl, h _ (by omega), h _ (by omega)]
theorem wd_congr {xs zs : List V} (hl : xs.length = zs.length) : ∀ {f p : Nat}, (∀ j, p < j → g xs j = g zs j) → wd lt xs f p = wd lt zs f p
  | 0, p, _ => rfl
  | f + 1, p, h => by
    by_cases hc : 2 * p + 1 < xs.length
    · rw [wd_pos hc, wd_pos (by omega), les_congr hl h]
      have b1 := les_lo (lt := lt) (xs := zs) (p := p)
      rw [wd_congr hl fun j hj => h j (by omega)]
    · rw [wd_end hc, wd_end (by omega)]
theorem wd_len {xs : List V} : ∀ {f p : Nat}, (wd lt xs f p).length ≤ f
  | 0, p => Nat.le_refl _
  | f + 1, p => by
    by_cases hc : 2 * p + 1 < xs.length
    · rw [wd_pos hc, List.length_cons]; have := wd_len (xs := xs) (f := f) (p := les lt xs p); omega
    · rw [wd_end hc]; exact Nat.zero_le _
theorem shf_over2 {ws : List V} {e v : V} {a : Nat} {qs : List Nat} (h : ∀ q ∈ qs, q ≠ a) : shf (ws.set a v) e a qs = shf ws e a qs := by
  cases qs with
  | nil => show (ws.set a v).set a e = ws.set a e; rw [List.set_set]
  | cons q qs =>
    have hq := h q List.mem_cons_self
    show shf ((ws.set a v).set a (g (ws.set a v) q)) e q qs = shf (ws.set a (g ws q)) e q qs
    rw [List.set_set, g_set, if_neg (fun z => hq z.1.symm)]
def ksum (n : Nat) (l : List Nat) : Nat := (l.map (kids n)).sum
theorem ksum_cons {n a : Nat} {l : List Nat} : ksum n (a :: l) = kids n a + ksum n l := by unfold ksum; rw [List.map_cons, List.sum_cons]
theorem ksum_app {n : Nat} {l m : List Nat} : ksum n (l ++ m) = ksum n l + ksum n m := by unfold ksum; rw [List.map_append, List.sum_append]
theorem dn_way {e : V} : ∀ {f : Nat} {zs : List V} {p lk : Nat}, zs.length ≤ p + f → p < zs.length → g zs p = e →
    dn lt f zs p lk = (shf zs e p ((wd lt zs f p).takeWhile fun q => lt (g zs q) e), lk + ksum zs.length (p :: (wd lt zs f p).takeWhile fun q => lt (g zs q) e))
  | 0, zs, p, lk, hf, hp, he => by omega
  | f + 1, zs, p, lk, hf, hp, he => by
    by_cases hc : 2 * p + 1 < zs.length
    · have b1 := les_lo (lt := lt) (xs := zs) (p := p)
      have b3 := les_lt (lt := lt) hc
      rw [wd_pos hc, List.takeWhile_cons]
      cases q : lt (g zs (les lt zs p)) e with
      | true =>
        rw [dn_go hc (by rw [he]; exact q), if_pos rfl]
        have g1 : g (sw zs p (les lt zs p)) (les lt zs p) = e := by rw [g_sw hp b3, if_pos rfl, he]
        rw [dn_way (by rw [sw_len]; omega) (by rw [sw_len]; exact b3) g1, sw_len]
        have hj : ∀ j, les lt zs p < j → g (sw zs p (les lt zs p)) j = g zs j := fun j hj => by rw [g_sw hp b3, if_neg (by omega), if_neg (by omega)]
        rw [wd_congr sw_len hj]
        have ec : ((wd lt zs f (les lt zs p)).takeWhile fun q => lt (g (sw zs p (les lt zs p)) q) e) = (wd lt zs f (les lt zs p)).takeWhile fun q => lt (g zs q) e := tw_congr fun k hk => by
          show lt (g (sw zs p (les lt zs p)) k) e = lt (g zs k) e
          rw [hj k (wd_mem hk).1]
        rw [ec]
        have hl : ∀ q ∈ (wd lt zs f (les lt zs p)).takeWhile fun q => lt (g zs q) e, q ≠ les lt zs p := fun q hq => by
          have := (wd_mem ((List.takeWhile_sublist _).mem hq)).1
          omega
        generalize (wd lt zs f (les lt zs p)).takeWhile (fun q => lt (g zs q) e) = M at hl ⊢
        refine Prod.ext ?_ ?_
        · show shf (sw zs p (les lt zs p)) e (les lt zs p) M = shf (zs.set p (g zs (les lt zs p))) e (les lt zs p) M
          unfold sw
          rw [shf_over2 hl]
        · show lk + kids zs.length p + ksum zs.length (les lt zs p :: M) = lk + ksum zs.length (p :: les lt zs p :: M)
          rw [ksum_cons (a := p)]
          omega
      | false =>
        rw [dn_stay hc (by rw [he]; exact q), if_neg Bool.false_ne_true]
        show (zs, lk + kids zs.length p) = (zs.set p e, lk + ksum zs.length [p])
        rw [set_g he, ksum_cons]
        rfl
    · rw [wd_end hc, dn_stop hc]
      show (zs, lk) = (zs.set p e, lk + ksum zs.length [p])
      rw [set_g he, ksum_cons]
      have : kids zs.length p = 0 := by unfold kids; rw [if_neg (by omega), if_neg hc]
      rw [this]
      rfl
def mvt (lt : V → V → Bool) (ys : List V) (e : V) : List Nat := (wd lt ys ys.length 0).takeWhile fun q => lt (g ys q) e
theorem cut_way {ys : List V} {e : V} (h : 0 < ys.length) : dn lt ys.length (ys.set 0 e) 0 0 = (shf ys e 0 (mvt lt ys e), ksum ys.length (0 :: mvt lt ys e)) := by
  have hj : ∀ j, 0 < j → g (ys.set 0 e) j = g ys j := fun j hj => by rw [g_set, if_neg (by omega)]
  rw [dn_way (e := e) (by rw [List.length_set]; omega) (by rw [List.length_set]; exact h) (by rw [g_set, if_pos ⟨rfl, h⟩]), wd_congr List.length_set hj]
  have ec : ((wd lt ys ys.length 0).takeWhile fun q => lt (g (ys.set 0 e) q) e) = mvt lt ys e := tw_congr fun k hk => by
    show lt (g (ys.set 0 e) k) e = lt (g ys k) e
    rw [hj k (wd_mem hk).1]
  rw [ec, List.length_set]
  have hl : ∀ q ∈ mvt lt ys e, q ≠ 0 := fun q hq => by
    have := (wd_mem ((List.takeWhile_sublist _).mem hq)).1
    omega
  rw [shf_over2 hl, Nat.zero_add]
theorem cutf_way {xs : List V} (h : xs.dropLast ≠ []) : cutf lt xs = (shf xs.dropLast (g xs (xs.length - 1)) 0 (mvt lt xs.dropLast (g xs (xs.length - 1))), ksum xs.dropLast.length (0 :: mvt lt xs.dropLast (g xs (xs.length - 1)))) := by
  unfold cutf
  rw [if_neg h]
  exact cut_way (Nat.pos_of_ne_zero fun z => h (List.length_eq_zero_iff.mp z))
theorem asc_at {l : List Nat} (h : l.Pairwise (fun a b => a < b)) {k : Nat} (hk : k + 1 < l.length) : l.getD k 0 < l.getD (k + 1) 0 := by
  have := List.pairwise_iff_getElem.mp h k (k + 1) (by omega) hk (by omega)
  simpa [List.getD_eq_getElem?_getD, List.getElem?_eq_getElem hk, List.getElem?_eq_getElem (show k < l.length by omega)] using this
theorem kids_int {n p : Nat} : (kids n p : Int) = (if (if ((n : Int) - 2 * p - 1) < 2 then ((n : Int) - 2 * p - 1) else 2) > 0 then (if ((n : Int) - 2 * p - 1) < 2 then ((n : Int) - 2 * p - 1) else 2) else 0) := by
  unfold kids
  repeat' split
  all_goals omega
end Hm
namespace L2
open PySem PySem.W
theorem mro_of {K : Frag} {C : Addr} {v : Value} {b : Bool} (e : mroIn K C v = some b) : mroHas K C v = b := by
  obtain ⟨cd, h1, h2⟩ := Option.bind_eq_some_iff.mp e
  unfold clsIn at h1
  split at h1
  · rename_i ho
    cases h1
    split at h2
    · cases h2
    · cases h2
      unfold mroHas
      rw [ho]
  · cases h1
theorem kit_self {K : Frag} {t : Value} : kitOne K t t = some true := by
  unfold kitOne
  rw [if_pos (beq_self_eq_true _)]
theorem kit_ty {K : Frag} {C : Addr} {T : String} {b : Bool} (m : kitMeta T = true) (e : subIn K (.ref C) (.type T) = some b) : kitOne K (.ref C) (.type T) = some b := by
  unfold kitOne
  rw [if_neg (by intro z; cases beq_iff_eq.mp z)]
  show (if kitMeta T = true then subIn K (.ref C) (.type T) else none) = _
  rw [if_pos m]; exact e
theorem kit_ref {K : Frag} {C D : Addr} {cd : ClassData} {b : Bool} (n : (C == D) = false) (c : clsIn K D = some cd) (t : typeIn K (.ref D) = some (.type "type")) (e : subIn K (.ref C) (.ref D) = some b) : kitOne K (.ref C) (.ref D) = some b := by
  unfold kitOne
  rw [if_neg (by intro z; have := Value.ref.inj (beq_iff_eq.mp z); rw [this] at n; simp at n)]
  show (if ((clsIn K D).isSome && typeIn K (.ref D) == some (.type "type")) = true then subIn K (.ref C) (.ref D) else none) = _
  rw [c, t, if_pos (by rfl)]; exact e
theorem kit_any2 {K : Frag} {t a b : Value} (h1 : kitOne K t a = some false) (h2 : kitOne K t b = some false) : kitAny K t [a, b] = some false := by
  unfold kitAny
  rw [h1]
  show kitAny K t [b] = _
  unfold kitAny
  rw [h2]
  rfl
end L2
end
section
set_option linter.all false
set_option maxRecDepth 100000
namespace Kx
open PySem L2
def top (i : Nat) : Stmt := PySem.Challenge.pw_lategone_k03_taken.main.body.getD i (.Pass ⟨0, 0, 0, 0⟩)
end Kx
end
section

set_option linter.all false
set_option maxRecDepth 100000
set_option maxHeartbeats 4000000
namespace Kx
open PySem L2
section
variable {P : Program} {w : World} {K : PySem.W.Frag} {mg : Str → Option Value} {base : Heap}
abbrev sTake : Stmt := top 12
theorem scTake : FnScope ["deck", "many", "at", "cell", "one"] ["deck", "many"] (defScope sTake) := ⟨rfl, rfl, rfl, (by simp only [List.nodup_cons, List.mem_cons, List.not_mem_nil, or_false, not_or, List.nodup_nil, and_true, not_false_eq_true]; decide +kernel), rfl, by decide +kernel, by decide +kernel⟩
theorem ok_take {f : Addr} {fd : FuncData} (F : Fun K "_law_take" "_law_take" sTake f fd) (T : Bl mg) : FnOk P w K mg base CX0 1 f fd ["deck", "many"] spTake := by
  have sc := scTake
  refine F.ok scTake (fun vs H Q E h => ?_) (fun cdv A outer s H vs Q E hr h => ?_)
  · obtain ⟨d, c, cs, a, sd, many, rfl, _⟩ := h
    rfl
  · obtain ⟨d, c, cs, a, sd, many, rfl, D, m0, m1, k⟩ := h
    have hu := hu_of hr
    refine ⟨_, (QSs.to (qss_cons (qs_set (i := 2) sc.nd rfl (Or.inl rfl) (qe_op op_mod (qe_ix ix_list (qv 0) qe_int (fun _ _ => rfl)) (qe_callB call_len_seq (by rfl) T.z_len (by decide +kernel) (qa_cons (qe_ix ix_list (qv 0) qe_int (fun _ _ => rfl)) qa_nil))))
      (qss_cons (qs_asg (qe_op op_add (qe_ix ix_list (qv 0) qe_int (fun _ _ => rfl)) qe_int) (qg_sub (qv 0) qe_int set_list))
      (qss_cons (qs_set (i := 3) sc.nd rfl (Or.inl rfl) (qe_ix ix_list (qe_ix ix_list (qv 0) qe_int (fun _ _ => rfl)) (qv 2) (fun _ _ => rfl)))
      (qss_cons (qs_if (QW.pt (qw_or (qt_cmpR op_eq (qv 3) qe_int (nomark _)) (qw_or1 (qt_cmpR op_eq (qv 3) (qe_un un_neg qe_int) (nomark _))))) (qss_cons (qs_set (i := 4) sc.nd rfl (Or.inl rfl) (qe_op op_mod (qe_op op_mul (qe_op op_mod (qe_op op_add (qe_ix ix_list (qv 0) qe_int (fun _ _ => rfl)) (qe_op op_mul qe_int (qe_ix ix_list (qv 0) qe_int (fun _ _ => rfl)))) qe_int) qe_int) qe_int))
      (qss_cons (qs_set (i := 4) sc.nd rfl (Or.inl rfl) (qe_op op_mod (qe_op op_mul (qe_op op_mod (qe_op op_add (qe_op op_mul (qv 4) (qv 4)) (qe_op op_mul qe_int (qe_ix ix_list (qv 0) qe_int (fun _ _ => rfl)))) qe_int) qe_int) qe_int))
      (qss_one (qs_ret (qe_op op_mod (qe_op op_fdivB (qv 4) qe_int) (qv 1)))))) qss_nil)
      (qss_cons (qs_asg (qe_op op_fdivB (qv 3) (qv 1)) (qg_sub (qe_ix ix_list (qv 0) qe_int (fun _ _ => rfl)) (qv 2) set_list))
      (qss_one (qs_ret (qe_op op_mod (qv 3) (qv 1)))))))))), ?_⟩
    have n0 : (0 : Int) < (cs.map V.int).length := by rw [List.length_map]; have := D.l1; omega
    have dc := D.ne
    -- at = deck[1] % len(deck[0])
    refine ⟨_, rfl, d, _, _, _, rfl, rfl, SqL.of D.hd, rfl, ?_⟩
    refine ⟨_, rfl, d, _, _, _, rfl, rfl, SqL.of D.hd, rfl, c, _, rfl, .inl (SqL.of D.hc), _, _, rfl, rfl, n0, ?_⟩
    rw [List.length_map] at n0 ⊢
    have j0 : 0 ≤ a % (cs.length : Int) := mod_lo n0
    have j1 : a % (cs.length : Int) < cs.length := mod_hi n0
    -- deck[1] = deck[1] + 1
    refine ⟨_, rfl, d, _, _, _, rfl, rfl, SqL.of D.hd, rfl, _, _, rfl, rfl, ?_⟩
    refine ⟨_, rfl, d, _, _, 1, rfl, rfl, D.hd, rfl, ?_⟩
    have hd1 : (upd H d (.lst ([V.ref c, .int a, .int sd].set 1 (.int (a + 1))))) d = some (.lst [.ref c, .int (a + 1), .int sd]) := upd_same
    have hc1 : (upd H d (.lst ([V.ref c, .int a, .int sd].set 1 (.int (a + 1))))) c = some (.lst (cs.map V.int)) := by rw [upd_ne dc.symm]; exact D.hc
    have kd1 : Kd d c H (upd H d (.lst ([V.ref c, .int a, .int sd].set 1 (.int (a + 1))))) := fun b o e n1 n2 => by rw [upd_ne n1]; exact e
    have kn1 : ∀ b, H b = none → (upd H d (.lst ([V.ref c, .int a, .int sd].set 1 (.int (a + 1))))) b = none := fun b e => by
      rw [upd_ne (fun z => by rw [z, D.hd] at e; cases e)]; exact e
    generalize upd H d (.lst ([V.ref c, .int a, .int sd].set 1 (.int (a + 1)))) = H1 at hd1 hc1 kd1 kn1
    -- cell = deck[0][at]
    refine ⟨_, rfl, d, _, _, _, rfl, rfl, SqL.of hd1, rfl, _, rfl, c, _, _, _, rfl, rfl, SqL.of hc1, ix_int j0 j1, ?_⟩
    refine ⟨_, rfl, rfl, _, rfl, ite2 (fun _ => iteT ?w1) (fun _ => ⟨_, rfl, _, rfl, rfl, _, rfl, ite2 (fun _ => ?w2) (fun _ => ?w3)⟩)⟩
    case w3 =>
      -- deck[0][at] = cell // many; return cell % many
      refine ⟨_, rfl, _, rfl, _, _, rfl, rfl, ⟨m0, by omega⟩, ?_⟩
      refine ⟨_, rfl, d, _, _, _, rfl, rfl, SqL.of hd1, rfl, _, rfl, c, _, _, _, rfl, rfl, hc1, ixN_ok j0 (by rw [List.length_map]; exact j1), ?_⟩
      refine ⟨_, rfl, _, rfl, _, _, rfl, rfl, m0, ?_⟩
      refine k _ (cs.set (a % (cs.length : Int)).toNat (cs.getD (a % (cs.length : Int)).toNat 0 / many)) (a + 1) _ (mod_lo m0) (mod_hi m0) ⟨by rw [upd_ne dc]; exact hd1, ?_, ?_, ?_⟩ (fun b o e n1 n2 => ?_) fun b e => ?_
      · rw [upd_same, List.map_set]
      · rw [List.length_set]; exact D.l1
      · rw [List.length_set]; exact D.l2
      · rw [upd_ne n2]; exact kd1 b o e n1 n2
      · rw [upd_ne (fun z => by rw [z, D.hc] at e; cases e)]; exact kn1 b e
    all_goals
      -- the two mixings
      refine ⟨_, rfl, d, _, _, _, rfl, rfl, SqL.of hd1, rfl, _, rfl, d, _, _, _, rfl, rfl, SqL.of hd1, rfl, _, _, rfl, rfl, .inl ⟨by decide, by decide⟩, _, _, rfl, rfl, _, _, rfl, rfl, (by show (0 : Int) < _; decide), _, _, rfl, rfl, .inr ⟨by decide, by decide⟩, _, _, rfl, rfl, (by show (0 : Int) < _; decide), ?_⟩
      refine ⟨_, rfl, _, rfl, _, _, rfl, rfl, .inl ⟨?b1, ?b2⟩, _, rfl, d, _, _, _, rfl, rfl, SqL.of hd1, rfl, _, _, rfl, rfl, .inl ⟨by decide, by decide⟩, _, _, rfl, rfl, _, _, rfl, rfl, (by show (0 : Int) < _; decide), _, _, rfl, rfl, .inr ⟨by decide, by decide⟩, _, _, rfl, rfl, (by show (0 : Int) < _; decide), ?_⟩
      case b1 => exact Int.lt_of_lt_of_le (by decide) (mod_lo (b := 2147483629) (by decide))
      case b2 => exact Int.lt_trans (mod_hi (b := 2147483629) (by decide)) (by decide)
      refine ⟨_, rfl, _, _, rfl, rfl, ⟨by decide, by decide⟩, _, rfl, _, _, rfl, rfl, m0, ?_⟩
      exact k _ cs (a + 1) H1 (mod_lo m0) (mod_hi m0) ⟨hd1, hc1, D.l1, D.l2⟩ kd1 kn1
end
end Kx
end
section

set_option linter.all false
set_option maxRecDepth 100000
set_option maxHeartbeats 4000000
namespace Kx
open PySem L2
section
variable {P : Program} {w : World} {K : PySem.W.Frag} {mg : Str → Option Value} {base : Heap}
abbrev sWorth : Stmt := top 14
theorem scWorth : FnScope ["deck", "kind", "great"] ["deck"] (defScope sWorth) := ⟨rfl, rfl, rfl, (by simp only [List.nodup_cons, List.mem_cons, List.not_mem_nil, or_false, not_or, List.nodup_nil, and_true, not_false_eq_true]; decide +kernel), rfl, by decide +kernel, by decide +kernel⟩
def spDraw : Sp := fun vs H Q _ => ∃ d c cs at' seed, vs = [.ref d] ∧ Deck H d c cs at' seed ∧
  ∀ k cs' at2 H', Deck H' d c cs' at2 seed → Kd d c H H' → Q (.int k) H'
theorem ok_worth {f ft : Addr} {fd fdt : FuncData} (F : Fun K "_law_worth" "_law_worth" sWorth f fd) (T : Bl mg) (G_law_take : FnOk P w K mg base CX0 1 ft fdt ["deck", "many"] spTake) (D_law_take : Nm K mg "_law_take" ft fdt ["deck", "many"]) :
    FnOk P w K mg base CX0 2 f fd ["deck"] spDraw := by
  have sc := scWorth
  refine F.ok scWorth (fun vs H Q E h => ?_) (fun cdv A outer s H vs Q E hr h => ?_)
  · obtain ⟨d, c, cs, a, sd, rfl, _⟩ := h
    rfl
  · obtain ⟨d, c, cs, a, sd, rfl, D, k⟩ := h
    have hu := hu_of hr
    refine ⟨_, (QSs.to (qss_cons (qs_set (i := 1) sc.nd rfl (Or.inl rfl) (qe_call G_law_take (hr.mono (by decide)) rfl D_law_take.m D_law_take.k D_law_take.b .nil pass0 (qa_cons (qv 0) (qa_cons qe_int qa_nil))))
      (qss_cons (qs_if (qt_cmpR op_lt (qv 1) qe_int (nomark _)) (qss_one (qs_ret (qe_op op_sub (qe_call G_law_take (hr.mono (by decide)) rfl D_law_take.m D_law_take.k D_law_take.b .nil pass0 (qa_cons (qv 0) (qa_cons qe_int qa_nil))) qe_int))) qss_nil)
      (qss_cons (qs_if (qt_cmpR op_eq (qv 1) qe_int (nomark _)) (qss_one (qs_ret (qe_op op_sub (qe_call G_law_take (hr.mono (by decide)) rfl D_law_take.m D_law_take.k D_law_take.b .nil pass0 (qa_cons (qv 0) (qa_cons qe_int qa_nil))) qe_int))) qss_nil)
      (qss_cons (qs_set (i := 2) sc.nd rfl (Or.inl rfl) (qe_op op_add (qe_op op_mul (qe_call G_law_take (hr.mono (by decide)) rfl D_law_take.m D_law_take.k D_law_take.b .nil pass0 (qa_cons (qv 0) (qa_cons (qe_op op_pow qe_int qe_int) qa_nil))) (qe_op op_pow qe_int qe_int)) (qe_call G_law_take (hr.mono (by decide)) rfl D_law_take.m D_law_take.k D_law_take.b .nil pass0 (qa_cons (qv 0) (qa_cons (qe_op op_pow qe_int qe_int) qa_nil)))))
      (qss_one (qs_ret (qe_op op_mul (qv 2) (qe_ix ix_list (qe_lst (qa_cons qe_int (qa_cons (qe_un un_neg qe_int) qa_nil))) (qe_op op_sub (qv 1) qe_int) (fun _ _ => rfl)))))))))), ?_⟩
    -- kind = take(deck, 6)
    refine ⟨_, rfl, d, c, cs, a, sd, _, rfl, D, by decide, by decide, fun z cs1 a1 H1 z0 z1 D1 K1 N1 => ?_⟩
    -- if kind < 3
    refine ⟨_, rfl, _, _, rfl, rfl, _, rfl, ite2 (fun q0 => ?_) (fun q0 => ?_)⟩
    · refine ⟨_, rfl, d, c, cs1, a1, sd, _, rfl, D1, by decide, by decide, fun y cs2 a2 H2 y0 y1 D2 K2 N2 => ?_⟩
      refine ⟨_, _, rfl, rfl, ?_⟩
      exact k _ cs2 a2 H2 D2 (K1.trans K2)
    -- if kind == 3
    refine ⟨_, rfl, rfl, _, rfl, ite2 (fun q1 => ?_) (fun q1 => ?_)⟩
    · refine ⟨_, rfl, d, c, cs1, a1, sd, _, rfl, D1, by decide, by decide, fun y cs2 a2 H2 y0 y1 D2 K2 N2 => ?_⟩
      refine ⟨_, _, rfl, rfl, ?_⟩
      exact k _ cs2 a2 H2 D2 (K1.trans K2)
    have z3 : 4 ≤ z := by
      have h1 : ¬ z < 3 := by simpa using q0
      have h2 : ¬ z = 3 := by simpa using q1
      omega
    -- great = take(deck, 10 ** 15) * 10 ** 15 + take(deck, 10 ** 15)
    refine ⟨_, rfl, _, _, rfl, rfl, ⟨by decide, by decide, by decide⟩, d, c, cs1, a1, sd, _, rfl, D1, by decide, by decide, fun y cs2 a2 H2 y0 y1 D2 K2 N2 => ?_⟩
    refine ⟨_, _, rfl, rfl, ⟨by decide, by decide, by decide⟩, _, _, rfl, rfl, .inr ⟨by decide, by decide⟩, ?_⟩
    refine ⟨_, rfl, _, _, rfl, rfl, ⟨by decide, by decide, by decide⟩, d, c, cs2, a2, sd, _, rfl, D2, by decide, by decide, fun x cs3 a3 H3 x0 x1 D3 K3 N3 => ?_⟩
    refine ⟨_, _, rfl, rfl, ?_⟩
    -- return great * [1, -1][kind - 4]
    refine ⟨_, rfl, _, rfl, by show 2 ≤ sizeLine; decide, fun l hl => ?_⟩
    refine ⟨_, rfl, _, _, rfl, rfl, ?_⟩
    have hll : (upd H3 l (.lst [.int 1, .int (-1)])) l = some (.lst [.int 1, .int (-1)]) := upd_same
    have DE : Deck (upd H3 l (.lst [.int 1, .int (-1)])) d c cs3 a3 sd := ⟨by rw [upd_ne (ne_of_none D3.hd hl)]; exact D3.hd, by rw [upd_ne (ne_of_none D3.hc hl)]; exact D3.hc, D3.l1, D3.l2⟩
    have KE : Kd d c H (upd H3 l (.lst [.int 1, .int (-1)])) := fun b o e n1 n2 => by
      have e3 := K3 b o (K2 b o (K1 b o e n1 n2) n1 n2) n1 n2
      rw [upd_ne (ne_of_none e3 hl)]; exact e3
    have hz : z = 4 ∨ z = 5 := by omega
    rcases hz with rfl | rfl
    · refine ⟨l, _, _, .int 1, rfl, rfl, SqL.of hll, rfl, _, _, rfl, rfl, .inr ⟨by decide, by decide⟩, ?_⟩
      exact k _ cs3 a3 _ DE KE
    · refine ⟨l, _, _, .int (-1), rfl, rfl, SqL.of hll, rfl, _, _, rfl, rfl, .inr ⟨by decide, by decide⟩, ?_⟩
      exact k _ cs3 a3 _ DE KE
end
end Kx
end
section

set_option linter.all false
set_option maxRecDepth 100000
set_option maxHeartbeats 4000000
namespace Kx
open PySem L2
section
variable {P : Program} {w : World} {K : PySem.W.Frag} {mg : Str → Option Value} {base : Heap}
theorem cut_ints (ns : List Int) (lo hi : Option Int) : ∃ ms : List Int, cutV (ns.map V.int) lo hi = ms.map V.int ∧ ms.length ≤ ns.length := by
  refine ⟨(ns.drop (HT.sIx (ns.map V.int).length 0 lo)).take (HT.sIx (ns.map V.int).length (ns.map V.int).length hi - HT.sIx (ns.map V.int).length 0 lo), ?_, ?_⟩
  · unfold cutV
    rw [List.map_take, List.map_drop]
  · rw [List.length_take, List.length_drop]; omega
abbrev sDeck : Stmt := top 11
theorem scDeck : FnScope ["script", "cells", "seed", "k", "mixed"] ["script"] (defScope sDeck) := ⟨rfl, rfl, rfl, (by simp only [List.nodup_cons, List.mem_cons, List.not_mem_nil, or_false, not_or, List.nodup_nil, and_true, not_false_eq_true]; decide +kernel), rfl, by decide +kernel, by decide +kernel⟩
def spDeck (K : PySem.W.Frag) : Sp := fun vs H Q _ => ∃ (a : Addr) (ns : List Int), vs = [.ref a] ∧ SqL K H a (ns.map V.int) ∧ ns.length ≤ 63 ∧
  ∀ d c cs at' seed H', Deck H' d c cs at' seed → Same H H' → Q (.ref d) H'
theorem ok_deck {f : Addr} {fd : FuncData} (F : Fun K "_law_deck" "_law_deck" sDeck f fd) (T : Bl mg) : FnOk P w K mg base CX0 1 f fd ["script"] (spDeck K) := by
  have sc := scDeck
  refine F.ok scDeck (fun vs H Q E h => ?_) (fun cdv A outer s H vs Q E hr h => ?_)
  · obtain ⟨a, ns, rfl, _⟩ := h
    rfl
  · obtain ⟨a, ns, rfl, hS, hl, k⟩ := h
    have hu := hu_of hr
    refine ⟨_, (QSs.to (qss_cons (qs_set (i := 1) sc.nd rfl (Or.inl rfl) (qe_op op_cat (qe_slice sl_list (qv 0) qo_none (qo_some qe_int)) (qe_lst (qa_cons (qe_callB call_len_seq (by rfl) T.z_len (by decide +kernel) (qa_cons (qv 0) qa_nil)) qa_nil))))
      (qss_cons (qs_set (i := 2) sc.nd rfl (Or.inl rfl) (qe_op op_mod (qe_op op_add (qe_op op_add (qe_op op_mul (qe_callB (call_sumL rfl) (by rfl) T.z_sum (by decide +kernel) (qa_cons (qe_slice sl_list (qv 0) qo_none (qo_some qe_int)) qa_nil)) qe_int) (qe_op op_mul qe_int (qe_callB call_len_seq (by rfl) T.z_len (by decide +kernel) (qa_cons (qv 0) qa_nil)))) qe_int) qe_int))
      (qss_cons (qs_if (qt_cmpR op_eq (qe_op op_mod (qe_callB (call_sumL rfl) (by rfl) T.z_sum (by decide +kernel) (qa_cons (qe_slice sl_list (qv 0) qo_none (qo_some qe_int)) qa_nil)) qe_int) qe_int (nomark _)) (qss_one (qs_for PassesOwn.never rfl (qi_range1 rfl T.z_range (qa_cons (qe_callB call_len_seq (by rfl) T.z_len (by decide +kernel) (qa_cons (qv 1) qa_nil)) qa_nil)) (qg_name (i := 3) sc.nd rfl (Or.inl rfl)) (qss_cons (qs_set (i := 4) sc.nd rfl (Or.inl rfl) (qe_op op_mod (qe_op op_mul (qe_op op_add (qe_op op_add (qe_op op_mod (qe_ix ix_list (qv 1) (qv 3) (fun _ _ => rfl)) qe_int) (qe_op op_mul qe_int (qv 3))) qe_int) qe_int) qe_int))
      (qss_cons (qs_set (i := 4) sc.nd rfl (Or.inl rfl) (qe_op op_mod (qe_op op_mul (qe_op op_mod (qe_op op_add (qe_op op_mul (qv 4) (qv 4)) (qe_op op_mul qe_int (qv 3))) qe_int) qe_int) qe_int))
      (qss_one (qs_asg (qe_op op_add (qe_op op_mul (qe_op op_mul (qv 4) (qv 4)) qe_int) (qe_op op_mod (qe_op op_mul (qv 4) qe_int) qe_int)) (qg_sub (qv 1) (qv 3) set_list))))))) qss_nil)
      (qss_one (qs_ret (qe_lst (qa_cons (qv 1) (qa_cons qe_int (qa_cons (qv 2) qa_nil)))))))))), ?_⟩
    obtain ⟨ms, em, lm⟩ := cut_ints ns none (some 63)
    -- cells
    refine ⟨_, rfl, _, rfl, a, _, rfl, hS, fun p1 hp1 => ?_⟩
    rw [em]
    have s1 : Same H (upd H p1 (.lst (ms.map V.int))) := same_new hp1
    have h1 : (upd H p1 (.lst (ms.map V.int))) p1 = some (.lst (ms.map V.int)) := upd_same
    generalize upd H p1 (.lst (ms.map V.int)) = H1 at s1 h1
    refine ⟨_, rfl, a, _, rfl, .inl (s1.seq hS), by show 1 ≤ sizeLine; decide, fun p2 hp2 => ?_⟩
    have s2 : Same H (upd H1 p2 (.lst [.int (ns.map V.int).length])) := s1.trans (same_new hp2)
    have h2 : (upd H1 p2 (.lst [.int (ns.map V.int).length])) p2 = some (.lst [.int (ns.map V.int).length]) := upd_same
    have h1' : (upd H1 p2 (.lst [.int (ns.map V.int).length])) p1 = some (.lst (ms.map V.int)) := by rw [upd_ne (ne_of_none h1 hp2)]; exact h1
    generalize upd H1 p2 (.lst [.int (ns.map V.int).length]) = H2 at s2 h2 h1'
    refine ⟨p1, p2, _, _, rfl, rfl, h1', h2, ?_, fun p3 hp3 => ?_⟩
    · rw [List.length_map]; show ms.length + 1 ≤ sizeLine; exact Nat.le_trans (by omega : ms.length + 1 ≤ 1000) (by decide)
    have e3 : ms.map V.int ++ [V.int (ns.map V.int).length] = (ms ++ [((ns.map V.int).length : Int)]).map V.int := by simp
    rw [e3]
    have n3 : H p3 = none := s2.free hp3
    have s3 : Same H (upd H2 p3 (.lst ((ms ++ [((ns.map V.int).length : Int)]).map V.int))) := s2.trans (same_new hp3)
    have h3 : (upd H2 p3 (.lst ((ms ++ [((ns.map V.int).length : Int)]).map V.int))) p3 = some (.lst ((ms ++ [((ns.map V.int).length : Int)]).map V.int)) := upd_same
    have lc : 1 ≤ (ms ++ [((ns.map V.int).length : Int)]).length ∧ (ms ++ [((ns.map V.int).length : Int)]).length ≤ 64 := by rw [List.length_append]; simp; omega
    generalize (ms ++ [((ns.map V.int).length : Int)]) = cs at s3 h3 lc
    generalize upd H2 p3 (.lst (cs.map V.int)) = H3 at s3 h3
    -- seed
    refine ⟨_, rfl, _, rfl, a, _, rfl, s3.seq hS, fun p4 hp4 => ?_⟩
    rw [em]
    have s4 : Same H (upd H3 p4 (.lst (ms.map V.int))) := s3.trans (same_new hp4)
    have h4 : (upd H3 p4 (.lst (ms.map V.int))) p4 = some (.lst (ms.map V.int)) := upd_same
    have h34 : (upd H3 p4 (.lst (ms.map V.int))) p3 = some (.lst (cs.map V.int)) := by rw [upd_ne (ne_of_none h3 hp4)]; exact h3
    generalize upd H3 p4 (.lst (ms.map V.int)) = H4 at s4 h4 h34
    refine ⟨p4, ms, rfl, SqL.of h4, _, _, rfl, rfl, .inr ⟨by decide, by decide⟩, ?_⟩
    refine ⟨_, rfl, a, _, rfl, .inl (s4.seq hS), _, _, rfl, rfl, .inl ⟨by decide, by decide⟩, _, _, rfl, rfl, _, _, rfl, rfl, _, _, rfl, rfl, (by show (0 : Int) < _; decide), ?_⟩
    -- if sum(..) % 2 == 1
    refine ⟨_, rfl, _, rfl, a, _, rfl, s4.seq hS, fun p5 hp5 => ?_⟩
    rw [em]
    have s5 : Same H (upd H4 p5 (.lst (ms.map V.int))) := s4.trans (same_new hp5)
    have h5 : (upd H4 p5 (.lst (ms.map V.int))) p5 = some (.lst (ms.map V.int)) := upd_same
    have h35 : (upd H4 p5 (.lst (ms.map V.int))) p3 = some (.lst (cs.map V.int)) := by rw [upd_ne (ne_of_none h34 hp5)]; exact h34
    generalize upd H4 p5 (.lst (ms.map V.int)) = H5 at s5 h5 h35
    refine ⟨p5, ms, rfl, SqL.of h5, _, _, rfl, rfl, (by show (0 : Int) < _; decide), rfl, _, rfl, ?_⟩
    have fin : ∀ (sd : Int) (cs2 : List Int) (k' m' : Option V) (H6 : Hp), H6 p3 = some (.lst (cs2.map V.int)) → cs2.length = cs.length → Same H H6 →
        tRet (tLst (tCons (tVar 1) (tCons (tC (.int 0)) (tCons (tVar 2) tNil)))) { nx := fun _ H' => Q .non H', rt := Q } [some (.ref a), some (.ref p3), some (.int sd), k', m'] H6 := by
      intro sd cs2 k' m' H6 h6 l6 s6
      refine ⟨_, rfl, _, rfl, by show 3 ≤ sizeLine; decide, fun p hp => ?_⟩
      refine k p p3 cs2 0 sd _ ⟨upd_same, by rw [upd_ne (ne_of_none h6 hp)]; exact h6, by omega, by omega⟩ (s6.trans (same_new hp))
    refine ite2 (fun _ => ?_) (fun _ => fin _ cs none none H5 h35 rfl s5)
    refine ⟨_, rfl, p3, _, rfl, .inl (SqL.of h35), _, rfl, by omega, by rw [List.length_map]; have := lc.2; omega, for_range (lo := 0) (n := (cs.map V.int).length) (fun i σ H6 => ∃ (sd : Int) (cs2 : List Int) (k' m' : Option V), σ = [some (.ref a), some (.ref p3), some (.int sd), k', m'] ∧ H6 p3 = some (.lst (cs2.map V.int)) ∧ cs2.length = cs.length ∧ Same H H6) ⟨_, cs, none, none, rfl, h35, rfl, s5⟩ ?_ ?_⟩
    · rintro i σ H6 hi ⟨sd, cs2, k', m', rfl, h6, l6, s6⟩
      rw [List.length_map] at hi
      have i0 : (0 : Int) ≤ 0 + (i : Int) := by omega
      have i1 : 0 + (i : Int) < cs2.length := by omega
      refine ⟨_, rfl, _, rfl, p3, _, _, _, rfl, rfl, SqL.of h6, ix_int i0 i1, _, _, rfl, rfl, (by show (0 : Int) < _; decide), _, rfl, _, _, rfl, rfl, .inl ⟨by decide, by decide⟩, _, _, rfl, rfl, _, _, rfl, rfl, _, _, rfl, rfl, .inr ⟨by decide, by decide⟩, _, _, rfl, rfl, (by show (0 : Int) < _; decide), ?_⟩
      refine ⟨_, rfl, _, rfl, _, _, rfl, rfl, .inl ⟨?b1, ?b2⟩, _, rfl, _, _, rfl, rfl, .inl ⟨by decide, by decide⟩, _, _, rfl, rfl, _, _, rfl, rfl, (by show (0 : Int) < _; decide), _, _, rfl, rfl, .inr ⟨by decide, by decide⟩, _, _, rfl, rfl, (by show (0 : Int) < _; decide), ?_⟩
      case b1 => exact Int.lt_of_lt_of_le (by decide) (mod_lo (b := 2147483629) (by decide))
      case b2 => exact Int.lt_trans (mod_hi (b := 2147483629) (by decide)) (by decide)
      refine ⟨_, rfl, _, rfl, _, _, rfl, rfl, .inl ⟨?c1, ?c2⟩, _, _, rfl, rfl, .inr ⟨by decide, by decide⟩, _, rfl, _, _, rfl, rfl, .inr ⟨by decide, by decide⟩, _, _, rfl, rfl, (by show (0 : Int) < _; decide), _, _, rfl, rfl, ?_⟩
      case c1 => exact Int.lt_of_lt_of_le (by decide) (mod_lo (b := 2147483549) (by decide))
      case c2 => exact Int.lt_trans (mod_hi (b := 2147483549) (by decide)) (by decide)
      refine ⟨_, rfl, _, rfl, p3, _, _, _, rfl, rfl, h6, ixN_ok i0 (by rw [List.length_map]; exact i1), ?_⟩
      refine ⟨sd, _, _, _, rfl, upd_same.trans (congrArg (fun l => some (HO.lst l)) (List.map_set (f := V.int) (l := cs2)).symm), ?_, same_upd s6 n3⟩
      rw [List.length_set]; exact l6
    · rintro σ H6 ⟨sd, cs2, k', m', rfl, h6, l6, s6⟩
      exact fin sd cs2 k' m' H6 h6 l6 s6
end
end Kx
end
section

set_option linter.all false
set_option maxRecDepth 100000
set_option maxHeartbeats 4000000
namespace Kx
open PySem L2
section
variable {P : Program} {w : World} {K : PySem.W.Frag} {mg : Str → Option Value} {base : Heap}
abbrev sNames : Stmt := top 13
theorem scNames : FnScope ["deck", "many", "letters", "pool", "k", "turn", "stride"] ["deck", "many"] (defScope sNames) := ⟨rfl, rfl, rfl, (by simp only [List.nodup_cons, List.mem_cons, List.not_mem_nil, or_false, not_or, List.nodup_nil, and_true, not_false_eq_true]; decide +kernel), rfl, by decide +kernel, by decide +kernel⟩
def spNames : Sp := fun vs H Q _ => ∃ (d c : Addr) (cs : List Int) (at' seed : Int) (many : Nat), vs = [.ref d, .int many] ∧ Deck H d c cs at' seed ∧ many ≤ 1000 ∧
  ∀ (l : Addr) (xs : List V) cs' at2 H', H' l = some (.lst xs) → AllS xs → xs.length = many → Deck H' d c cs' at2 seed → Kd d c H H' → H l = none → Q (.ref l) H'
theorem ok_names {f ft : Addr} {fd fdt : FuncData} (F : Fun K "_law_names" "_law_names" sNames f fd) (T : Bl mg) (G_law_take : FnOk P w K mg base CX0 1 ft fdt ["deck", "many"] spTake) (D_law_take : Nm K mg "_law_take" ft fdt ["deck", "many"]) :
    FnOk P w K mg base CX0 2 f fd ["deck", "many"] spNames := by
  have sc := scNames
  refine F.ok scNames (fun vs H Q E h => ?_) (fun cdv A outer s H vs Q E hr h => ?_)
  · obtain ⟨d, c, cs, a, sd, many, rfl, _⟩ := h
    rfl
  · obtain ⟨d, c, cs, a, sd, many, rfl, D, hm, k⟩ := h
    have hu := hu_of hr
    refine ⟨_, (QSs.to (qss_cons (qs_set (i := 2) sc.nd rfl (Or.inl rfl) qe_str)
      (qss_cons (qs_set (i := 3) sc.nd rfl (Or.inr rfl) (qe_op op_cat (qe_lst (qa_consts (vs := [.str "heap", .str "put", .str "drop", .str "change", .str "take", .str "least", .str "first", .str "join", .str "room", .str "works"]) (by decide +kernel))) (qe_callTy (call_listStr rfl) (by rfl) T.z_list (by decide +kernel) (qa_cons (qv 2) qa_nil))))
      (qss_cons (qs_for PassesOwn.never rfl (qi_range1 rfl T.z_range (qa_cons qe_int qa_nil)) (qg_name (i := 4) sc.nd rfl (Or.inl rfl)) (qss_one (qs_expr (qe_bm PySem.F.plainAttrs_list PySem.F.slot_list_append PySem.F.type_list_append mt_append (qv 3) (qa_cons (qe_op op_add_str (qe_op op_add_str (qe_ix ix_str (qv 2) (qe_op op_mod (qv 4) qe_int) (fun _ _ => rfl)) (qe_ix ix_str (qv 2) (qe_op op_fdivB (qv 4) qe_int) (fun _ _ => rfl))) (qe_ix ix_list (qe_lst (qa_consts (vs := [.str "", .str "x", .str "zzzzzz"]) (by decide +kernel))) (qe_op op_mod (qv 4) qe_int) (fun _ _ => rfl))) qa_nil)))))
      (qss_cons (qs_set (i := 5) sc.nd rfl (Or.inr rfl) (qe_call G_law_take (hr.mono (by decide)) rfl D_law_take.m D_law_take.k D_law_take.b .nil pass0 (qa_cons (qv 0) (qa_cons qe_int qa_nil))))
      (qss_cons (qs_set (i := 6) sc.nd rfl (Or.inr rfl) (qe_ix ix_list (qe_lst (qa_consts (vs := [.int 1, .int 5, .int 7, .int 11, .int 25, .int 35, .int 65, .int 77]) (by decide +kernel))) (qe_call G_law_take (hr.mono (by decide)) rfl D_law_take.m D_law_take.k D_law_take.b .nil pass0 (qa_cons (qv 0) (qa_cons qe_int qa_nil))) (fun _ _ => rfl)))
      (qss_one (qs_ret (qe_comp (Blk.of (N := ["deck", "many", "letters", "pool", "k", "turn", "stride"]) (esc := defScope sNames) (NB := ["pool", "turn", "stride"]) (cap := [3, 5, 6]) rfl rfl (fun y hy => cell_has hy) rfl (by decide +kernel) (by decide +kernel) (by decide +kernel) rfl (by decide +kernel) rfl (by decide +kernel)) rfl rfl (qi_range1 rfl T.z_range (qa_cons (qv 1) qa_nil)) (fun C fp s₀ H₀ => qts_nil) (fun C fp s₀ H₀ => (qe_ix (ix_listB (K := K) rfl) (qv 1) (qe_op op_mod (qe_op op_add (qv 2) (qe_op op_mul (qv 0) (qv 3))) qe_int) (fun _ _ => rfl)))))))))))), ?_⟩
    -- pool = [..] + list(letters)
    refine ⟨by show 10 ≤ sizeLine; decide, fun l1 hl1 => ?_⟩
    refine ⟨_, rfl, _, rfl, by decide +kernel, fun l2 hl2 => ?_⟩
    refine ⟨l1, l2, _, _, rfl, rfl, by rw [upd_ne (ne_of_none upd_same hl2)]; exact upd_same, upd_same, by decide +kernel, fun l3 hl3 => ?_⟩
    have L1 : ∀ v ∈ ([.str "heap", .str "put", .str "drop", .str "change", .str "take", .str "least", .str "first", .str "join", .str "room", .str "works"] : List V), ∃ x, v = V.str x := by
      intro v hv
      simp only [List.mem_cons, List.not_mem_nil, or_false] at hv
      rcases hv with h | h | h | h | h | h | h | h | h | h <;> exact ⟨_, h⟩
    have L2' : AllS ((Str.ofString "abcdefghijklmnopqrstuvwxyz").cps.toList.map fun c => V.str ⟨#[c]⟩) := fun v hv => by
      obtain ⟨c, _, e⟩ := List.mem_map.mp hv
      exact ⟨_, e.symm⟩
    have n3 : H l3 = none := by
      cases q : H l3 with
      | none => rfl
      | some o =>
        have := hl3
        rw [upd_ne (fun z => by rw [z] at q; have h := hl2; rw [upd_ne (fun y => by rw [y, hl1] at q; cases q)] at h; rw [h] at q; cases q), upd_ne (fun y => by rw [y, hl1] at q; cases q), q] at this
        cases this
    have hP : (AllS ([.str "heap", .str "put", .str "drop", .str "change", .str "take", .str "least", .str "first", .str "join", .str "room", .str "works"] ++ (Str.ofString "abcdefghijklmnopqrstuvwxyz").cps.toList.map fun c => V.str ⟨#[c]⟩)) := AllS.app L1 L2'
    have lP : ([.str "heap", .str "put", .str "drop", .str "change", .str "take", .str "least", .str "first", .str "join", .str "room", .str "works"] ++ (Str.ofString "abcdefghijklmnopqrstuvwxyz").cps.toList.map fun c => V.str ⟨#[c]⟩ : List V).length = 36 := by decide +kernel
    have D3 := ((D.upd (o := .lst [.str "heap", .str "put", .str "drop", .str "change", .str "take", .str "least", .str "first", .str "join", .str "room", .str "works"]) hl1).upd (o := .lst ((Str.ofString "abcdefghijklmnopqrstuvwxyz").cps.toList.map fun c => V.str ⟨#[c]⟩)) hl2).upd (o := .lst ([.str "heap", .str "put", .str "drop", .str "change", .str "take", .str "least", .str "first", .str "join", .str "room", .str "works"] ++ (Str.ofString "abcdefghijklmnopqrstuvwxyz").cps.toList.map fun c => V.str ⟨#[c]⟩)) hl3
    have k3 := ((Kd.refl (d := d) (c := c) (H := H)).new (o := .lst [.str "heap", .str "put", .str "drop", .str "change", .str "take", .str "least", .str "first", .str "join", .str "room", .str "works"]) hl1 |>.new (o := .lst ((Str.ofString "abcdefghijklmnopqrstuvwxyz").cps.toList.map fun c => V.str ⟨#[c]⟩)) hl2).new (o := .lst ([.str "heap", .str "put", .str "drop", .str "change", .str "take", .str "least", .str "first", .str "join", .str "room", .str "works"] ++ (Str.ofString "abcdefghijklmnopqrstuvwxyz").cps.toList.map fun c => V.str ⟨#[c]⟩)) hl3
    have ll : (Str.ofString "abcdefghijklmnopqrstuvwxyz").length ≤ sizeLine := by decide +kernel
    have lc : ((Str.ofString "abcdefghijklmnopqrstuvwxyz").cps.toList.length : Int) = 26 := by decide +kernel
    have nd3 : l3 ≠ d := fun z => by rw [z, D.hd] at n3; cases n3
    have nc3 : l3 ≠ c := fun z => by rw [z, D.hc] at n3; cases n3
    -- for k in range(180)
    refine ⟨_, rfl, by omega, by omega, for_range (lo := 0) (n := 180) (fun i σ H4 => ∃ (xs : List V) (kk : Option V), σ = [some (.ref d), some (.int many), some (.str (Str.ofString "abcdefghijklmnopqrstuvwxyz")), some (.ref l3), kk, none, none] ∧ H4 l3 = some (.lst xs) ∧ AllS xs ∧ xs.length = 36 + i ∧ Deck H4 d c cs a sd ∧ Kd d c H H4)
      ⟨_, none, rfl, upd_same, hP, lP, D3, k3⟩ ?_ ?_⟩
    · rintro i σ H4 hi ⟨xs, kk, rfl, h4, as4, ln4, D4, k4⟩
      obtain ⟨c1, e1, _⟩ := atI_ex (l := (Str.ofString "abcdefghijklmnopqrstuvwxyz").cps.toList) (i := (0 + (i : Int)) % 26) (mod_lo (by decide)) (by rw [lc]; exact mod_hi (by decide))
      obtain ⟨c2, e2, _⟩ := atI_ex (l := (Str.ofString "abcdefghijklmnopqrstuvwxyz").cps.toList) (i := (0 + (i : Int)) / 26) (by omega) (by rw [lc]; omega)
      obtain ⟨v3, e3, m3⟩ := atI_ex (l := ([.str "", .str "x", .str "zzzzzz"] : List V)) (i := (0 + (i : Int)) % 3) (mod_lo (by decide)) (mod_hi (by decide))
      have m3' : ∃ z : Str, v3 = .str z ∧ z.length ≤ 6 := by
        simp only [List.mem_cons, List.not_mem_nil, or_false] at m3
        rcases m3 with h | h | h
        · exact ⟨_, h, by decide +kernel⟩
        · exact ⟨_, h, by decide +kernel⟩
        · exact ⟨_, h, by decide +kernel⟩
      obtain ⟨z, rfl, lz⟩ := m3'
      refine ⟨_, rfl, .inl ⟨rfl, _, SqL.of h4⟩, _, rfl, _, rfl, _, _, rfl, rfl, (by show (0 : Int) < _; decide), _, _, _, rfl, rfl, ll, e1, ?_⟩
      refine ⟨_, rfl, _, rfl, _, _, rfl, rfl, ⟨by decide, by decide⟩, _, _, _, rfl, rfl, ll, e2, _, _, rfl, rfl, (show 1 + 1 ≤ sizeLine by decide), ?_⟩
      refine ⟨by show 3 ≤ sizeLine; decide, fun p hp => ⟨_, rfl, _, _, rfl, rfl, (by show (0 : Int) < _; decide), p, _, _, _, rfl, rfl, SqL.of upd_same, e3, _, _, rfl, rfl, ?_, ?_⟩⟩
      · refine Nat.le_trans (Nat.add_le_add (Nat.le_refl _) lz) ?_
        show 8 ≤ sizeLine
        decide
      have np : p ≠ l3 := (ne_of_none h4 hp).symm
      refine ⟨l3, xs, _, rfl, rfl, by rw [upd_ne np.symm]; exact h4, Nat.lt_of_le_of_lt (by omega : xs.length ≤ 1000) (by decide), ?_⟩
      exact ⟨_, _, rfl, upd_same, as4.app AllS.one, by rw [List.length_append, List.length_singleton, ln4]; omega, (D4.upd hp).updNe nd3 nc3, (k4.new hp).put n3⟩
    · rintro σ H4 ⟨xs, kk, rfl, h4, as4, ln4, D4, k4⟩
      -- turn, stride
      refine ⟨_, rfl, d, c, cs, a, sd, _, rfl, D4, by decide, by decide, fun tn cs5 a5 H5 t0 t1 D5 K5 N5 => ?_⟩
      have h5 : H5 l3 = some (.lst xs) := K5 l3 _ h4 nd3 nc3
      refine ⟨by show 8 ≤ sizeLine; decide, fun p hp => ?_⟩
      have h6 : ∀ o, (upd H5 p o) l3 = some (.lst xs) := fun o => by rw [upd_ne (ne_of_none h5 hp)]; exact h5
      have kp : Kd d c H (upd H5 p (.lst [.int 1, .int 5, .int 7, .int 11, .int 25, .int 35, .int 65, .int 77])) := (k4.trans K5).new hp
      have hpp : (upd H5 p (.lst [.int 1, .int 5, .int 7, .int 11, .int 25, .int 35, .int 65, .int 77])) p = some (.lst [.int 1, .int 5, .int 7, .int 11, .int 25, .int 35, .int 65, .int 77]) := upd_same
      have npd : p ≠ d := (ne_of_none D5.hd hp).symm
      have npc : p ≠ c := (ne_of_none D5.hc hp).symm
      refine ⟨_, rfl, d, c, cs5, a5, sd, _, rfl, D5.upd hp, by decide, by decide, fun ix cs7 a7 H7 x0 x1 D7 K7 N7 => ?_⟩
      obtain ⟨sv, es, ms⟩ := atI_ex (l := ([.int 1, .int 5, .int 7, .int 11, .int 25, .int 35, .int 65, .int 77] : List V)) (i := ix) x0 x1
      have ms' : ∃ q : Int, sv = .int q ∧ 0 ≤ q ∧ q ≤ 77 := by
        simp only [List.mem_cons, List.not_mem_nil, or_false] at ms
        rcases ms with h | h | h | h | h | h | h | h <;> exact ⟨_, h, by decide, by decide⟩
      obtain ⟨st, rfl, s0, s1⟩ := ms'
      refine ⟨p, _, _, _, rfl, rfl, SqL.of (K7 p _ hpp npd npc), es, ?_⟩
      have h7 : H7 l3 = some (.lst xs) := K7 l3 _ (h6 _) nd3 nc3
      have k7 : Kd d c H H7 := kp.trans K7
      -- the names
      refine ⟨_, rfl, _, rfl, by omega, by omega, fun L hL => ?_⟩
      have nL : H L = none := by
        cases q : H L with
        | none => rfl
        | some o =>
          by_cases z1 : L = d
          · rw [z1, D7.hd] at hL; cases hL
          · by_cases z2 : L = c
            · rw [z2, D7.hc] at hL; cases hL
            · rw [k7 L o q z1 z2] at hL; cases hL
      refine comp_range (lo := 0) (n := many) (fun i ys H8 => H8 L = some (.lst ys) ∧ AllS ys ∧ ys.length = i ∧ H8 l3 = some (.lst xs) ∧ Deck H8 d c cs7 a7 sd ∧ Kd d c H H8)
        ⟨upd_same, (show AllS [] from fun v hv => by cases hv), rfl, by rw [upd_ne (ne_of_none h7 hL)]; exact h7, D7.upd hL, k7.new hL⟩ (fun i ys H8 z => z.1) ?_ ?_
      · rintro i ys H8 hi ⟨h8, as8, ln8, g8, D8, k8⟩
        unfold tYes
        dsimp only
        rw [if_pos rfl]
        obtain ⟨v, ev, mv⟩ := atI_ex (l := xs) (i := (tn + (0 + (i : Int)) * st) % 216) (mod_lo (by decide)) (by rw [ln4]; exact mod_hi (by decide))
        obtain ⟨z, rfl⟩ := as4 v mv
        refine ⟨_, rfl, _, rfl, _, rfl, _, rfl, _, _, rfl, rfl, .inr ⟨by omega, by omega⟩, _, _, rfl, rfl, _, _, rfl, rfl, (by show (0 : Int) < _; decide), l3, _, _, _, rfl, rfl, SqL.of g8, ev, ?_⟩
        have nL3 : L ≠ l3 := (ne_of_none h7 hL).symm
        exact ⟨h8, Nat.lt_of_le_of_lt (by omega : ys.length ≤ 1000) (by decide), _, by omega, rfl, hi, upd_same, as8.app AllS.one, by rw [List.length_append, ln8]; rfl, by rw [upd_ne nL3.symm]; exact g8, D8.updNe (ne_of_none D7.hd hL).symm (ne_of_none D7.hc hL).symm, k8.put nL⟩
      · rintro ys H8 ⟨h8, as8, ln8, g8, D8, k8⟩
        exact k L ys cs7 a7 H8 h8 as8 ln8 D8 k8 nL
end
end Kx
end
section

set_option linter.all false
set_option maxRecDepth 100000
set_option maxHeartbeats 4000000
namespace Kx
open PySem L2
section
variable {P : Program} {w : World} {K : PySem.W.Frag} {mg : Str → Option Value} {base : Heap}
abbrev sSize : Stmt := top 18
theorem scSize : FnScope ["deck", "drawn"] ["deck"] (defScope sSize) := ⟨rfl, rfl, rfl, (by simp only [List.nodup_cons, List.mem_cons, List.not_mem_nil, or_false, not_or, List.nodup_nil, and_true, not_false_eq_true]; decide +kernel), rfl, by decide +kernel, by decide +kernel⟩
def spSize : Sp := fun vs H Q _ => ∃ (d c : Addr) (cs : List Int) (at' seed : Int), vs = [.ref d] ∧ Deck H d c cs at' seed ∧
  ∀ (n : Nat) cs' at2 H', n ≤ 300 → Deck H' d c cs' at2 seed → Kd d c H H' → Q (.int n) H'
theorem ok_size {f ft : Addr} {fd fdt : FuncData} (F : Fun K "_law_size" "_law_size" sSize f fd) (T : Bl mg) (G_law_take : FnOk P w K mg base CX0 1 ft fdt ["deck", "many"] spTake) (D_law_take : Nm K mg "_law_take" ft fdt ["deck", "many"]) :
    FnOk P w K mg base CX0 2 f fd ["deck"] spSize := by
  have sc := scSize
  refine F.ok scSize (fun vs H Q E h => ?_) (fun cdv A outer s H vs Q E hr h => ?_)
  · obtain ⟨d, c, cs, a, sd, rfl, _⟩ := h
    rfl
  · obtain ⟨d, c, cs, a, sd, rfl, D, k⟩ := h
    have hu := hu_of hr
    refine ⟨_, (QSs.to (qss_cons (qs_set (i := 1) sc.nd rfl (Or.inl rfl) (qe_call G_law_take (hr.mono (by decide)) rfl D_law_take.m D_law_take.k D_law_take.b .nil pass0 (qa_cons (qv 0) (qa_cons qe_int qa_nil))))
      (qss_one (qs_ret (qe_ix ix_list (qe_lst (qa_cons qe_int (qa_cons qe_int (qa_cons qe_int (qa_cons qe_int (qa_cons qe_int (qa_cons qe_int (qa_cons qe_int (qa_cons (qv 1) (qa_cons (qv 1) (qa_cons (qe_call G_law_take (hr.mono (by decide)) rfl D_law_take.m D_law_take.k D_law_take.b .nil pass0 (qa_cons (qv 0) (qa_cons qe_int qa_nil))) qa_nil))))))))))) (qe_call G_law_take (hr.mono (by decide)) rfl D_law_take.m D_law_take.k D_law_take.b .nil pass0 (qa_cons (qv 0) (qa_cons qe_int qa_nil))) (fun _ _ => rfl)))))), ?_⟩
    refine ⟨_, rfl, d, c, cs, a, sd, _, rfl, D, by decide, by decide, fun z cs1 a1 H1 z0 z1 D1 K1 N1 => ?_⟩
    refine ⟨_, rfl, _, rfl, _, rfl, d, c, cs1, a1, sd, _, rfl, D1, by decide, by decide, fun y cs2 a2 H2 y0 y1 D2 K2 N2 => ?_⟩
    refine ⟨by show 10 ≤ sizeLine; decide, fun p hp => ?_⟩
    have hpp : (upd H2 p (.lst [.int 0, .int 1, .int 2, .int 3, .int 4, .int 7, .int 8, .int z, .int z, .int y])) p = some (.lst [.int 0, .int 1, .int 2, .int 3, .int 4, .int 7, .int 8, .int z, .int z, .int y]) := upd_same
    have npd : p ≠ d := (ne_of_none D2.hd hp).symm
    have npc : p ≠ c := (ne_of_none D2.hc hp).symm
    refine ⟨_, rfl, d, c, cs2, a2, sd, _, rfl, D2.upd hp, by decide, by decide, fun x cs3 a3 H3 x0 x1 D3 K3 N3 => ?_⟩
    obtain ⟨v, ev, mv⟩ := atI_ex (l := ([.int 0, .int 1, .int 2, .int 3, .int 4, .int 7, .int 8, .int z, .int z, .int y] : List V)) (i := x) x0 x1
    have mv' : ∃ n : Nat, v = .int n ∧ n ≤ 300 := by
      have hz : V.int z = .int (z.toNat : Int) := by rw [Int.toNat_of_nonneg z0]
      have hy : V.int y = .int (y.toNat : Int) := by rw [Int.toNat_of_nonneg y0]
      simp only [List.mem_cons, List.not_mem_nil, or_false] at mv
      rcases mv with h | h | h | h | h | h | h | h | h | h
      · exact ⟨0, h, by omega⟩
      · exact ⟨1, h, by omega⟩
      · exact ⟨2, h, by omega⟩
      · exact ⟨3, h, by omega⟩
      · exact ⟨4, h, by omega⟩
      · exact ⟨7, h, by omega⟩
      · exact ⟨8, h, by omega⟩
      · exact ⟨z.toNat, h.trans hz, by omega⟩
      · exact ⟨z.toNat, h.trans hz, by omega⟩
      · exact ⟨y.toNat, h.trans hy, by omega⟩
    obtain ⟨n, rfl, hn⟩ := mv'
    refine ⟨p, _, _, _, rfl, rfl, SqL.of (K3 p _ hpp npd npc), ev, ?_⟩
    exact k n cs3 a3 H3 hn D3 (((K1.trans K2).new hp).trans K3)
end
end Kx
end
section
set_option linter.all false
set_option maxRecDepth 100000
set_option maxHeartbeats 4000000
namespace Kx
open PySem L2
section
variable {P : Program} {w : World} {K : PySem.W.Frag} {mg : Str → Option Value} {base : Heap}
def En (H : Hp) (x : V) : Prop := ∃ (a : Addr) (i : Int) (n : Str) (j : Int), x = .ref a ∧ H a = some (.tup [.int i, .str n, .int j])
def EnAll (H : Hp) (xs : List V) : Prop := ∀ x ∈ xs, En H x
theorem b01 (b : Bool) : 0 ≤ (if b = true then (1 : Int) else 0) ∧ (if b = true then (1 : Int) else 0) < 2 := by cases b <;> decide
theorem EnAll.kd {H H' : Hp} {xs : List V} {d c : Addr} {cs : List Int} {a sd : Int} (e : EnAll H xs) (D : Deck H d c cs a sd) (K : Kd d c H H') : EnAll H' xs := fun x hx => by
  obtain ⟨a, i, n, j, ex, h⟩ := e x hx
  exact ⟨a, i, n, j, ex, K a _ h (ne_of h D.hd (by intro z; cases z)) (ne_of h D.hc (by intro z; cases z))⟩
theorem EnAll.new {H : Hp} {xs : List V} {p : Addr} {o : HO} (e : EnAll H xs) (h : H p = none) : EnAll (upd H p o) xs := fun x hx => by
  obtain ⟨a, i, n, j, ex, q⟩ := e x hx
  exact ⟨a, i, n, j, ex, by rw [upd_ne (ne_of_none q h)]; exact q⟩
theorem EnAll.put {H : Hp} {xs ys : List V} {p : Addr} {o : HO} (e : EnAll H xs) (h : H p = some (.lst ys)) : EnAll (upd H p o) xs := fun x hx => by
  obtain ⟨a, i, n, j, ex, q⟩ := e x hx
  exact ⟨a, i, n, j, ex, by rw [upd_ne (ne_of q h (by intro z; cases z))]; exact q⟩
theorem EnAll.app {H : Hp} {xs : List V} {q : Addr} {i j : Int} {n : Str} (e : EnAll H xs) (h : H q = some (.tup [.int i, .str n, .int j])) : EnAll H (xs ++ [.ref q]) := fun x hx => by
  rcases List.mem_append.mp hx with z | z
  · exact e x z
  · exact ⟨q, i, n, j, List.mem_singleton.mp z, h⟩
abbrev sEntries : Stmt := top 17
theorem scEntries : FnScope ["deck", "many", "names", "stamps", "found", "k", "way", "worth", "name", "stamp", "near"] ["deck", "many"] (defScope sEntries) := ⟨rfl, rfl, rfl, (by simp only [List.nodup_cons, List.mem_cons, List.not_mem_nil, or_false, not_or, List.nodup_nil, and_true, not_false_eq_true]; (repeat' apply And.intro); all_goals decide +kernel), rfl, by decide +kernel, by decide +kernel⟩
def spEntries : Sp := fun vs H Q _ => ∃ (d c : Addr) (cs : List Int) (at' seed : Int) (many : Nat), vs = [.ref d, .int many] ∧ Deck H d c cs at' seed ∧ many ≤ 300 ∧
  ∀ (r : Addr) (xs : List V) cs' at2 H', H' r = some (.lst xs) → EnAll H' xs → xs.length = many → Deck H' d c cs' at2 seed → Kd d c H H' → H r = none → Q (.ref r) H'
theorem ok_entries {f ft fn fw : Addr} {fd fdt fdn fdw : FuncData} (F : Fun K "_law_entries" "_law_entries" sEntries f fd) (T : Bl mg) (G_law_take : FnOk P w K mg base CX0 1 ft fdt ["deck", "many"] spTake) (D_law_take : Nm K mg "_law_take" ft fdt ["deck", "many"])
    (G_law_names : FnOk P w K mg base CX0 2 fn fdn ["deck", "many"] spNames) (D_law_names : Nm K mg "_law_names" fn fdn ["deck", "many"]) (G_law_worth : FnOk P w K mg base CX0 2 fw fdw ["deck"] spDraw) (D_law_worth : Nm K mg "_law_worth" fw fdw ["deck"]) :
    FnOk P w K mg base CX0 3 f fd ["deck", "many"] spEntries := by
  have sc := scEntries
  refine F.ok scEntries (fun vs H Q E h => ?_) (fun cdv A outer s H vs Q E hr h => ?_)
  · obtain ⟨d, c, cs, a, sd, many, rfl, _⟩ := h
    rfl
  · obtain ⟨d, c, cs, a, sd, many, rfl, D, hm, k⟩ := h
    have hu := hr.units0
    refine ⟨_, (QSs.to (qss_cons (qs_set (i := 2) sc.nd rfl (Or.inl rfl) (qe_call G_law_names (hr.mono (by decide)) rfl D_law_names.m D_law_names.k D_law_names.b .nil pass0 (qa_cons (qv 0) (qa_cons qe_int qa_nil))))
      (qss_cons (qs_set (i := 3) sc.nd rfl (Or.inl rfl) (qe_ix ix_list (qe_lst (qa_cons qe_int (qa_cons qe_int (qa_cons (qe_op op_pow qe_int qe_int) (qa_cons (qe_op op_pow qe_int qe_int) qa_nil))))) (qe_call G_law_take (hr.mono (by decide)) rfl D_law_take.m D_law_take.k D_law_take.b .nil pass0 (qa_cons (qv 0) (qa_cons qe_int qa_nil))) (fun _ _ => rfl)))
      (qss_cons (qs_set (i := 4) sc.nd rfl (Or.inl rfl) (qe_lst qa_nil))
      (qss_cons (qs_for PassesOwn.never rfl (qi_range1 rfl T.z_range (qa_cons (qv 1) qa_nil)) (qg_name (i := 5) sc.nd rfl (Or.inl rfl)) (qss_cons (qs_set (i := 6) sc.nd rfl (Or.inl rfl) qe_int)
      (qss_cons (qs_if (qt_cmpR (op_neNil hu) (qv 4) (qe_lst qa_nil) (nomark _)) (qss_one (qs_set (i := 6) sc.nd rfl (Or.inl rfl) (qe_call G_law_take (hr.mono (by decide)) rfl D_law_take.m D_law_take.k D_law_take.b .nil pass0 (qa_cons (qv 0) (qa_cons qe_int qa_nil))))) qss_nil)
      (qss_one (qs_if (qt_cmpR op_lt (qv 6) qe_int (nomark _)) (qss_cons (qs_asg (qe_ix ix_list (qv 4) (qe_call G_law_take (hr.mono (by decide)) rfl D_law_take.m D_law_take.k D_law_take.b .nil pass0 (qa_cons (qv 0) (qa_cons (qe_callB call_len_seq (by rfl) T.z_len (by decide +kernel) (qa_cons (qv 4) qa_nil)) qa_nil))) (fun _ _ => rfl)) (qg_tup rfl (qgs_cons (qg_name (i := 7) sc.nd rfl (Or.inl rfl)) (qgs_cons (qg_name (i := 8) sc.nd rfl (Or.inl rfl)) (qgs_cons (qg_name (i := 9) sc.nd rfl (Or.inl rfl)) qgs_nil)))))
      (qss_cons (qs_set (i := 10) sc.nd rfl (Or.inl rfl) (qe_op op_add (qv 7) (qe_op op_mul (qv 6) (qe_op op_sub (qe_call G_law_take (hr.mono (by decide)) rfl D_law_take.m D_law_take.k D_law_take.b .nil pass0 (qa_cons (qv 0) (qa_cons qe_int qa_nil))) qe_int))))
      (qss_one (qs_expr (qe_bm PySem.F.plainAttrs_list PySem.F.slot_list_append PySem.F.type_list_append mt_append (qv 4) (qa_cons (qe_tup (qa_cons (qe_ix ix_list (qe_lst (qa_cons (qv 10) (qa_cons (qv 7) qa_nil))) (qe_callTy call_int1 (by rfl) T.z_int (by decide +kernel) (qa_cons (qe_cmpR op_ge (qe_callB call_abs (by rfl) T.z_abs (by decide +kernel) (qa_cons (qv 10) qa_nil)) (qe_op op_pow qe_int qe_int) (nomark _)) qa_nil)) (fun _ _ => rfl)) (qa_cons (qv 8) (qa_cons (qv 9) qa_nil)))) qa_nil)))))) (qss_one (qs_expr (qe_bm PySem.F.plainAttrs_list PySem.F.slot_list_append PySem.F.type_list_append mt_append (qv 4) (qa_cons (qe_tup (qa_cons (qe_call G_law_worth (hr.mono (by decide)) rfl D_law_worth.m D_law_worth.k D_law_worth.b .nil pass0 (qa_cons (qv 0) qa_nil)) (qa_cons (qe_ix ix_list (qv 2) (qe_call G_law_take (hr.mono (by decide)) rfl D_law_take.m D_law_take.k D_law_take.b .nil pass0 (qa_cons (qv 0) (qa_cons qe_int qa_nil))) (fun _ _ => rfl)) (qa_cons (qe_call G_law_take (hr.mono (by decide)) rfl D_law_take.m D_law_take.k D_law_take.b .nil pass0 (qa_cons (qv 0) (qa_cons (qv 3) qa_nil))) qa_nil)))) qa_nil)))))))))
      (qss_one (qs_ret (qv 4)))))))), ?_⟩
    -- names
    refine ⟨_, rfl, d, c, cs, a, sd, 5, rfl, D, by omega, fun nl ns cs1 a1 H1 h1 as1 ln1 D1 K1 n1 => ?_⟩
    -- stamps
    refine ⟨_, _, rfl, rfl, ⟨by decide, by decide, by decide⟩, _, _, rfl, rfl, ⟨by decide, by decide, by decide⟩, by show 4 ≤ sizeLine; decide, fun p hp => ?_⟩
    have hpp : (upd H1 p (.lst [.int 1, .int 4, .int ((10 : Int) ^ (6 : Int).toNat), .int ((10 : Int) ^ (25 : Int).toNat)])) p = some (.lst [.int 1, .int 4, .int ((10 : Int) ^ (6 : Int).toNat), .int ((10 : Int) ^ (25 : Int).toNat)]) := upd_same
    have npd : p ≠ d := (ne_of_none D1.hd hp).symm
    have npc : p ≠ c := (ne_of_none D1.hc hp).symm
    have nnd : nl ≠ d := fun z => by rw [z, D.hd] at n1; cases n1
    have nnc : nl ≠ c := fun z => by rw [z, D.hc] at n1; cases n1
    refine ⟨_, rfl, d, c, cs1, a1, sd, _, rfl, D1.upd hp, by decide, by decide, fun x cs2 a2 H2 x0 x1 D2 K2 N2 => ?_⟩
    obtain ⟨v, ev, mv⟩ := atI_ex (l := ([.int 1, .int 4, .int ((10 : Int) ^ (6 : Int).toNat), .int ((10 : Int) ^ (25 : Int).toNat)] : List V)) (i := x) x0 x1
    have mv' : ∃ st : Int, v = .int st ∧ 0 < st ∧ st < 2 ^ 100 := by
      simp only [List.mem_cons, List.not_mem_nil, or_false] at mv
      rcases mv with h | h | h | h <;> exact ⟨_, h, by decide, by decide⟩
    obtain ⟨st, rfl, s0, s1⟩ := mv'
    refine ⟨p, _, _, _, rfl, rfl, SqL.of (K2 p _ hpp npd npc), ev, ?_⟩
    have h2 : H2 nl = some (.lst ns) := K2 nl _ (by rw [upd_ne (ne_of_none h1 hp)]; exact h1) nnd nnc
    have k2 : Kd d c H H2 := (K1.new hp).trans K2
    -- found = []
    refine ⟨by show 0 ≤ sizeLine; decide, fun r hr0 => ?_⟩
    have nr : H r = none := by
      cases q : H r with
      | none => rfl
      | some o =>
        by_cases z1 : r = d
        · rw [z1, D2.hd] at hr0; cases hr0
        · by_cases z2 : r = c
          · rw [z2, D2.hc] at hr0; cases hr0
          · rw [k2 r o q z1 z2] at hr0; cases hr0
    have nrd : r ≠ d := fun z => by rw [z, D.hd] at nr; cases nr
    have nrc : r ≠ c := fun z => by rw [z, D.hc] at nr; cases nr
    have nrn : r ≠ nl := fun z => by rw [z, h2] at hr0; cases hr0
    refine ⟨_, rfl, _, rfl, by omega, by omega, for_range (lo := 0) (n := many) (fun i σ H3 => ∃ (xs : List V) (cs3 : List Int) (a3 : Int) (o1 o2 o3 o4 o5 o6 : Option V), σ = [some (.ref d), some (.int many), some (.ref nl), some (.int st), some (.ref r), o1, o2, o3, o4, o5, o6] ∧ H3 r = some (.lst xs) ∧ EnAll H3 xs ∧ xs.length = i ∧ H3 nl = some (.lst ns) ∧ Deck H3 d c cs3 a3 sd ∧ Kd d c H H3)
      ⟨[], cs2, a2, none, none, none, none, none, none, rfl, upd_same, (show EnAll _ [] from fun v hv => by cases hv), rfl, by rw [upd_ne nrn.symm]; exact h2, D2.upd hr0, k2.new hr0⟩ ?_ ?_⟩
    · rintro i σ H3 hi ⟨xs, cs3, a3, o1, o2, o3, o4, o5, o6, rfl, h3, en3, ln3, g3, D3, k3⟩
      -- way
      refine ⟨_, rfl, by show 0 ≤ sizeLine; decide, fun e he => ⟨r, e, xs, rfl, rfl, SqL.of (by rw [upd_ne (ne_of_none h3 he)]; exact h3), SqL.of upd_same, _, rfl, ?_⟩⟩
      have h4 : (upd H3 e (.lst [])) r = some (.lst xs) := by rw [upd_ne (ne_of_none h3 he)]; exact h3
      have en4 : EnAll (upd H3 e (.lst [])) xs := fun x hx => by
        obtain ⟨a, i, n, j, ex, hx⟩ := en3 x hx
        exact ⟨a, i, n, j, ex, by rw [upd_ne (ne_of_none hx he)]; exact hx⟩
      have g4 : (upd H3 e (.lst [])) nl = some (.lst ns) := by rw [upd_ne (ne_of_none g3 he)]; exact g3
      have D4 : Deck (upd H3 e (.lst [])) d c cs3 a3 sd := D3.upd he
      have k4 : Kd d c H (upd H3 e (.lst [])) := k3.new he
      generalize upd H3 e (.lst []) = H4 at h4 en4 g4 D4 k4 ⊢
      refine ite2 (fun c1 => ?_) (fun c1 => ?_)
      · -- way drawn
        have hx : xs ≠ [] := by simpa using c1
        have lx0 : (0 : Int) < xs.length := by
          cases xs with
          | nil => exact absurd rfl hx
          | cons _ _ => simp
        have lx1 : (xs.length : Int) < 2 ^ 100 := by omega
        refine ⟨_, rfl, d, c, cs3, a3, sd, _, rfl, D4, by decide, by decide, fun wv cs5 a5 H5 w0 w1 D5 K5 N5 => ?_⟩
        have h5 := K5 r _ h4 nrd nrc
        have g5 := K5 nl _ g4 nnd nnc
        have en5 := en4.kd D4 K5
        have k5 := k4.trans K5
        refine ⟨_, rfl, _, _, rfl, rfl, _, rfl, ite2 (fun c2 => ?_) (fun c2 => ?_)⟩
        · have w2 : wv < 2 := by simpa using c2
          refine ⟨_, rfl, _, rfl, _, rfl, r, _, rfl, .inl (SqL.of h5), d, c, cs5, a5, sd, _, rfl, D5, lx0, lx1, fun ix cs6 a6 H6 y0 y1 D6 K6 N6 => ?_⟩
          have h6 := K6 r _ h5 nrd nrc
          have g6 := K6 nl _ g5 nnd nnc
          have en6 := en5.kd D5 K6
          have k6 := k5.trans K6
          obtain ⟨ev, eev, mev⟩ := atI_ex (l := xs) (i := ix) y0 y1
          obtain ⟨ea, wi, wn, wj, rfl, hea⟩ := en6 ev mev
          refine ⟨r, _, _, _, rfl, rfl, SqL.of h6, eev, ea, _, rfl, SqT.of hea, rfl, _, _, rfl, _, _, rfl, _, _, rfl, rfl, ?_⟩
          refine ⟨_, rfl, _, rfl, _, rfl, d, c, cs6, a6, sd, _, rfl, D6, by decide, by decide, fun y cs7 a7 H7 v0 v1 D7 K7 N7 => ?_⟩
          have h7 := K7 r _ h6 nrd nrc
          have g7 := K7 nl _ g6 nnd nnc
          have en7 := en6.kd D6 K7
          have k7 := k6.trans K7
          refine ⟨_, _, rfl, rfl, _, _, rfl, rfl, .inl ⟨by omega, by omega⟩, _, _, rfl, rfl, ?_⟩
          refine ⟨_, rfl, .inl ⟨rfl, _, SqL.of h7⟩, _, rfl, _, rfl, by show 2 ≤ sizeLine; decide, fun p2 hp2 => ?_⟩
          refine ⟨_, rfl, _, rfl, _, _, rfl, rfl, ⟨by decide, by decide, by decide⟩, _, _, rfl, rfl, .inr ⟨_, rfl, ?_⟩⟩
          obtain ⟨bv, ebv, mbv⟩ := atI_ex (l := ([.int (wi + wv * (y - 1)), .int wi] : List V)) (i := if (decide ((10 : Int) ^ (30 : Int).toNat ≤ if wi + wv * (y - 1) < 0 then -(wi + wv * (y - 1)) else wi + wv * (y - 1))) = true then 1 else 0) (b01 _).1 (b01 _).2
          have mbv' : ∃ bi : Int, bv = .int bi := by
            simp only [List.mem_cons, List.not_mem_nil, or_false] at mbv
            rcases mbv with h | h <;> exact ⟨_, h⟩
          obtain ⟨bi, rfl⟩ := mbv'
          refine ⟨p2, _, _, _, rfl, rfl, SqL.of upd_same, ebv, _, rfl, _, rfl, by show 3 ≤ sizeLine; decide, fun q hq => ?_⟩
          have np2 : r ≠ p2 := ne_of_none h7 hp2
          have h8 : (upd H7 p2 (.lst [.int (wi + wv * (y - 1)), .int wi])) r = some (.lst xs) := by rw [upd_ne np2]; exact h7
          have g8 : (upd H7 p2 (.lst [.int (wi + wv * (y - 1)), .int wi])) nl = some (.lst ns) := by rw [upd_ne (ne_of_none g7 hp2)]; exact g7
          have en8 := en7.new (o := .lst [.int (wi + wv * (y - 1)), .int wi]) hp2
          have k8 := k7.new (o := .lst [.int (wi + wv * (y - 1)), .int wi]) hp2
          have D8 := D7.upd (o := .lst [.int (wi + wv * (y - 1)), .int wi]) hp2
          have nq : r ≠ q := ne_of_none h8 hq
          refine ⟨r, xs, _, rfl, rfl, by rw [upd_ne nq]; exact h8, Nat.lt_of_le_of_lt (by omega : xs.length ≤ 1000) (by decide), ?_⟩
          exact ⟨_, cs7, a7, _, _, _, _, _, _, rfl, upd_same, ((en8.new hq).put (ys := xs) (by rw [upd_ne nq]; exact h8)).app (by rw [upd_ne nq.symm]; exact upd_same), by rw [List.length_append, ln3]; rfl, by rw [upd_ne nrn.symm, upd_ne (ne_of_none g8 hq)]; exact g8, (D8.upd hq).updNe nrd nrc, (k8.new hq).put nr⟩
        · refine ⟨_, rfl, .inl ⟨rfl, _, SqL.of h5⟩, _, rfl, d, c, cs5, a5, sd, rfl, D5, fun wv cs6 a6 H6 D6 K6 => ?_⟩
          have h6 := K6 r _ h5 nrd nrc
          have g6 := K6 nl _ g5 nnd nnc
          have en6 := en5.kd D5 K6
          have k6 := k5.trans K6
          refine ⟨_, rfl, _, rfl, d, c, cs6, a6, sd, _, rfl, D6, by decide, by decide, fun ix cs7 a7 H7 y0 y1 D7 K7 N7 => ?_⟩
          have h7 := K7 r _ h6 nrd nrc
          have g7 := K7 nl _ g6 nnd nnc
          have en7 := en6.kd D6 K7
          have k7 := k6.trans K7
          obtain ⟨nv, env, mnv⟩ := atI_ex (l := ns) (i := ix) y0 (by rw [ln1]; exact y1)
          obtain ⟨nm, rfl⟩ := as1 nv mnv
          refine ⟨nl, _, _, _, rfl, rfl, SqL.of g7, env, _, rfl, _, rfl, d, c, cs7, a7, sd, _, rfl, D7, s0, s1, fun sv cs8 a8 H8 z0 z1 D8 K8 N8 => ?_⟩
          have h8 := K8 r _ h7 nrd nrc
          have g8 := K8 nl _ g7 nnd nnc
          have en8 := en7.kd D7 K8
          have k8 := k7.trans K8
          refine ⟨by show 3 ≤ sizeLine; decide, fun q hq => ?_⟩
          have nq : r ≠ q := ne_of_none h8 hq
          refine ⟨r, xs, _, rfl, rfl, by rw [upd_ne nq]; exact h8, Nat.lt_of_le_of_lt (by omega : xs.length ≤ 1000) (by decide), ?_⟩
          exact ⟨_, cs8, a8, _, _, _, _, _, _, rfl, upd_same, ((en8.new hq).put (ys := xs) (by rw [upd_ne nq]; exact h8)).app (by rw [upd_ne nq.symm]; exact upd_same), by rw [List.length_append, ln3]; rfl, by rw [upd_ne nrn.symm, upd_ne (ne_of_none g8 hq)]; exact g8, (D8.upd hq).updNe nrd nrc, (k8.new hq).put nr⟩
      · -- way = 9
        have h5 := h4
        have g5 := g4
        have en5 := en4
        have k5 := k4
        have D5 := D4
        obtain ⟨cs5, ecs⟩ : ∃ z, z = cs3 := ⟨_, rfl⟩
        obtain ⟨a5, ea⟩ : ∃ z, z = a3 := ⟨_, rfl⟩
        subst ecs ea
        refine ⟨_, rfl, _, _, rfl, rfl, _, rfl, iteF ?_⟩
        refine ⟨_, rfl, .inl ⟨rfl, _, SqL.of h5⟩, _, rfl, d, c, cs5, a5, sd, rfl, D5, fun wv cs6 a6 H6 D6 K6 => ?_⟩
        have h6 := K6 r _ h5 nrd nrc
        have g6 := K6 nl _ g5 nnd nnc
        have en6 := en5.kd D5 K6
        have k6 := k5.trans K6
        refine ⟨_, rfl, _, rfl, d, c, cs6, a6, sd, _, rfl, D6, by decide, by decide, fun ix cs7 a7 H7 y0 y1 D7 K7 N7 => ?_⟩
        have h7 := K7 r _ h6 nrd nrc
        have g7 := K7 nl _ g6 nnd nnc
        have en7 := en6.kd D6 K7
        have k7 := k6.trans K7
        obtain ⟨nv, env, mnv⟩ := atI_ex (l := ns) (i := ix) y0 (by rw [ln1]; exact y1)
        obtain ⟨nm, rfl⟩ := as1 nv mnv
        refine ⟨nl, _, _, _, rfl, rfl, SqL.of g7, env, _, rfl, _, rfl, d, c, cs7, a7, sd, _, rfl, D7, s0, s1, fun sv cs8 a8 H8 z0 z1 D8 K8 N8 => ?_⟩
        have h8 := K8 r _ h7 nrd nrc
        have g8 := K8 nl _ g7 nnd nnc
        have en8 := en7.kd D7 K8
        have k8 := k7.trans K8
        refine ⟨by show 3 ≤ sizeLine; decide, fun q hq => ?_⟩
        have nq : r ≠ q := ne_of_none h8 hq
        refine ⟨r, xs, _, rfl, rfl, by rw [upd_ne nq]; exact h8, Nat.lt_of_le_of_lt (by omega : xs.length ≤ 1000) (by decide), ?_⟩
        exact ⟨_, cs8, a8, _, _, _, _, _, _, rfl, upd_same, ((en8.new hq).put (ys := xs) (by rw [upd_ne nq]; exact h8)).app (by rw [upd_ne nq.symm]; exact upd_same), by rw [List.length_append, ln3]; rfl, by rw [upd_ne nrn.symm, upd_ne (ne_of_none g8 hq)]; exact g8, (D8.upd hq).updNe nrd nrc, (k8.new hq).put nr⟩
    · rintro σ H3 ⟨xs, cs3, a3, o1, o2, o3, o4, o5, o6, rfl, h3, en3, ln3, g3, D3, k3⟩
      exact ⟨_, rfl, k r xs cs3 a3 H3 h3 en3 ln3 D3 k3 nr⟩
end
end Kx
end
section
set_option linter.all false
set_option maxRecDepth 100000
set_option maxHeartbeats 4000000
namespace Kx
open PySem L2
section
variable {P : Program} {w : World} {K : PySem.W.Frag} {mg : Str → Option Value} {base : Heap}
open Hm
theorem EnAll.r {H : Hp} {xs : List V} (e : EnAll H xs) : EnR (keyE H) H xs := ⟨keyE_en H, fun x hx => by
  obtain ⟨a, i, n, j, rfl, h⟩ := e x hx
  exact ⟨a, rfl, by rw [keyE_at h ⟨_, _, _, rfl⟩]; exact h⟩⟩
abbrev sDown : Stmt := top 15
theorem scDown : FnScope ["row", "at", "looks", "below"] ["row", "at"] (defScope sDown) := ⟨rfl, rfl, rfl, (by simp only [List.nodup_cons, List.mem_cons, List.not_mem_nil, or_false, not_or, List.nodup_nil, and_true, not_false_eq_true]; (repeat' apply And.intro); all_goals decide +kernel), rfl, by decide +kernel, by decide +kernel⟩
def spDown : Sp := fun vs H Q _ => ∃ (r : Addr) (xs : List V) (a : Nat) (t : V → List V), vs = [.ref r, .int a] ∧ H r = some (.lst xs) ∧ EnR t H xs ∧ xs.length ≤ 1000 ∧
  ∀ H', H' r = some (.lst (dn (ltT t) xs.length xs a 0).1) → (∀ b o, H b = some o → b ≠ r → H' b = some o) → Q (.int (dn (ltT t) xs.length xs a 0).2) H'
theorem ok_down {f : Addr} {fd : FuncData} (F : Fun K "_law_down" "_law_down" sDown f fd) (T : Bl mg) : FnOk P w K mg base CX0 1 f fd ["row", "at"] spDown := by
  have sc := scDown
  refine F.ok scDown (fun vs H Q E h => ?_) (fun cdv A outer s H vs Q E hr h => ?_)
  · obtain ⟨r, xs, a, t, rfl, _⟩ := h
    rfl
  · obtain ⟨r, xs, a, t, rfl, hx, en, hl, k⟩ := h
    have hu := hr.units0
    refine ⟨_, (QSs.to (qss_cons (qs_set (i := 2) sc.nd rfl (Or.inl rfl) qe_int)
      (qss_cons (qs_while PassesOwn.never (qt_cmpR op_lt (qe_op op_add (qe_op op_mul qe_int (qv 1)) qe_int) (qe_callB call_len_seq (by rfl) T.z_len (by decide +kernel) (qa_cons (qv 0) qa_nil)) (nomark _)) (qss_cons (qs_set (i := 3) sc.nd rfl (Or.inl rfl) (qe_op op_add (qe_op op_mul qe_int (qv 1)) qe_int))
      (qss_cons (qs_if (qt_cmpR op_lt (qe_op op_add (qv 3) qe_int) (qe_callB call_len_seq (by rfl) T.z_len (by decide +kernel) (qa_cons (qv 0) qa_nil)) (nomark _)) (qss_cons (qs_set (i := 2) sc.nd rfl (Or.inl rfl) (qe_op op_add (qv 2) qe_int))
      (qss_one (qs_set (i := 3) sc.nd rfl (Or.inl rfl) (qe_op op_add (qv 3) (qe_callTy call_int1 (by rfl) T.z_int (by decide +kernel) (qa_cons (qe_cmpR (op_ltV hu) (qe_ix ix_list (qv 0) (qe_op op_add (qv 3) qe_int) (fun _ _ => rfl)) (qe_ix ix_list (qv 0) (qv 3) (fun _ _ => rfl)) (nomark _)) qa_nil)))))) qss_nil)
      (qss_cons (qs_set (i := 2) sc.nd rfl (Or.inl rfl) (qe_op op_add (qv 2) qe_int))
      (qss_cons (qs_if (qt_not (qt_cmpR (op_ltV hu) (qe_ix ix_list (qv 0) (qv 3) (fun _ _ => rfl)) (qe_ix ix_list (qv 0) (qv 1) (fun _ _ => rfl)) (nomark _))) (qss_one (qs_ret (qv 2))) qss_nil)
      (qss_cons (qs_asg (qe_tup (qa_cons (qe_ix ix_list (qv 0) (qv 3) (fun _ _ => rfl)) (qa_cons (qe_ix ix_list (qv 0) (qv 1) (fun _ _ => rfl)) qa_nil))) (qg_tup rfl (qgs_cons (qg_sub (qv 0) (qv 1) set_list) (qgs_cons (qg_sub (qv 0) (qv 3) set_list) qgs_nil))))
      (qss_one (qs_set (i := 1) sc.nd rfl (Or.inl rfl) (qv 3)))))))))
      (qss_one (qs_ret (qv 2)))))), ?_⟩
    refine ⟨fun m σ H2 => ∃ (f p lk : Nat) (bl : Option V) (ys : List V), σ = [some (.ref r), some (.int p), some (.int lk), bl] ∧ dn (ltT t) f ys p lk = dn (ltT t) xs.length xs a 0 ∧ ys.length ≤ p + f ∧ H2 r = some (.lst ys) ∧ ys.length = xs.length ∧ (∀ y ∈ ys, y ∈ xs) ∧ (∀ b o, H b = some o → b ≠ r → H2 b = some o) ∧ m = ys.length - p,
      ⟨_, xs.length, a, 0, none, xs, rfl, rfl, by omega, hx, rfl, fun y h => h, fun b o e _ => e, rfl⟩, ?_⟩
    rintro m σ H2 ⟨f, p, lk, bl, ys, rfl, hd, hf, h2, l2, s2, f2, rfl⟩
    have en2 : EnR t H2 ys := (en.bar hx f2).sub s2
    refine ⟨_, rfl, _, _, rfl, rfl, .inl ⟨by decide, by decide⟩, _, _, rfl, rfl, _, rfl, r, _, rfl, .inl (SqL.of h2), _, _, rfl, rfl, _, rfl, ite2 (fun c1 => ?_) (fun c1 => ⟨_, rfl, ?_⟩)⟩
    rotate_left
    · have c1' : ¬ 2 * (p : Int) + 1 < (ys.length : Int) := by simpa using c1
      rw [dn_stop (by omega)] at hd
      have := k H2
      rw [← hd] at this
      exact this h2 f2
    have c1' : 2 * (p : Int) + 1 < (ys.length : Int) := by simpa using c1
    refine ⟨fun σ' H' => ∃ m', m' < ys.length - p ∧ ∃ (f p lk : Nat) (bl : Option V) (zs : List V), σ' = [some (.ref r), some (.int p), some (.int lk), bl] ∧ dn (ltT t) f zs p lk = dn (ltT t) xs.length xs a 0 ∧ zs.length ≤ p + f ∧ H' r = some (.lst zs) ∧ zs.length = xs.length ∧ (∀ y ∈ zs, y ∈ xs) ∧ (∀ b o, H b = some o → b ≠ r → H' b = some o) ∧ m' = zs.length - p, fun σ' H' z => z, ?_⟩
    refine ⟨_, rfl, _, _, rfl, rfl, .inl ⟨by decide, by decide⟩, _, _, rfl, rfl, ?_⟩
    refine ⟨_, rfl, _, _, rfl, rfl, _, rfl, r, _, rfl, .inl (SqL.of h2), _, _, rfl, rfl, _, rfl, ite2 (fun c2 => ?_) (fun c2 => ?_)⟩
    · have c2' : 2 * (p : Int) + 1 + 1 < (ys.length : Int) := by simpa using c2
      refine ⟨_, rfl, _, _, rfl, rfl, ?_⟩
      obtain ⟨b3, e3, g3, m3, t3⟩ := en2.gat (show 2 * p + 2 < ys.length by omega)
      obtain ⟨b4, e4, g4, m4, t4⟩ := en2.gat (show 2 * p + 1 < ys.length by omega)
      rw [e3, show ((2 * p + 2 : Nat) : Int) = 2 * (p : Int) + 1 + 1 by omega] at t3
      rw [e4, show ((2 * p + 1 : Nat) : Int) = 2 * (p : Int) + 1 by omega] at t4
      refine ⟨_, rfl, _, rfl, _, rfl, _, _, rfl, rfl, r, _, _, _, rfl, rfl, SqL.of h2, t3, _, rfl, _, rfl, r, _, _, _, rfl, rfl, SqL.of h2, t4, b3, b4, _, _, rfl, rfl, SqT.of g3, SqT.of g4, en2.fit _ _, .inr ⟨_, rfl, _, _, rfl, rfl, ?_⟩⟩
      have hB : 2 * (p : Int) + 1 + (if lexV (t (g ys (2 * p + 2))) (t (g ys (2 * p + 1))) = true then 1 else 0) = ((les (ltT t) ys p : Nat) : Int) := (les_two (lt := ltT t) (by omega)).symm
      have kidsE : kids ys.length p = 2 := by unfold kids; rw [if_pos (by omega)]
      have hles : les (ltT t) ys p < ys.length := les_lt (by omega)
      have lo := les_lo (lt := ltT t) (xs := ys) (p := p)
      refine ⟨_, rfl, _, _, rfl, rfl, ?_⟩
      obtain ⟨b1, e1, g1, m1, t1⟩ := en2.gat hles
      obtain ⟨b2, e2, g2, m2, t2⟩ := en2.gat (show p < ys.length by omega)
      rw [e1] at t1
      rw [e2] at t2
      rw [← hB] at t1
      refine ⟨_, rfl, _, rfl, r, _, _, _, rfl, rfl, SqL.of h2, t1, _, rfl, _, rfl, r, _, _, _, rfl, rfl, SqL.of h2, t2, b1, b2, _, _, rfl, rfl, SqT.of g1, SqT.of g2, en2.fit _ _, _, rfl, ite2 (fun c3 => ?_) (fun c3 => ?_)⟩
      · have q3 : ltT t (g ys (les (ltT t) ys p)) (g ys p) = false := by
          cases q : ltT t (g ys (les (ltT t) ys p)) (g ys p) with
          | false => rfl
          | true => have c4 := (show (!ltT t (g ys (les (ltT t) ys p)) (g ys p)) = true from c3); rw [q] at c4; cases c4
        refine ⟨_, rfl, ?_⟩
        obtain ⟨f, rfl⟩ : ∃ f0, f = f0 + 1 := ⟨f - 1, by omega⟩
        rw [dn_stay (by omega) q3, kidsE] at hd
        have := k H2
        rw [← hd] at this
        have ez : ((lk : Int) + 1 + 1) = ((lk + 2 : Nat) : Int) := by omega
        show Q (.int ((lk : Int) + 1 + 1)) H2
        rw [ez]
        exact this h2 f2
      · have q3 : ltT t (g ys (les (ltT t) ys p)) (g ys p) = true := by
          cases q : ltT t (g ys (les (ltT t) ys p)) (g ys p) with
          | true => rfl
          | false => exact absurd (show (!ltT t (g ys (les (ltT t) ys p)) (g ys p)) = true by rw [q]; rfl) c3
        obtain ⟨f, rfl⟩ : ∃ f0, f = f0 + 1 := ⟨f - 1, by omega⟩
        rw [dn_go (by omega) q3, kidsE] at hd
        refine ⟨_, rfl, _, rfl, r, _, _, _, rfl, rfl, SqL.of h2, t1, _, rfl, _, rfl, r, _, _, _, rfl, rfl, SqL.of h2, t2, by show 2 ≤ sizeLine; decide, fun p2 hp => ?_⟩
        have hrp : r ≠ p2 := ne_of_none h2 hp
        refine ⟨p2, _, rfl, SqT.of upd_same, rfl, _, _, rfl, _, rfl, _, rfl, r, ys, _, _, rfl, rfl, by rw [upd_ne hrp]; exact h2, ixN_ok (by omega) (by omega), _, _, rfl, _, rfl, _, rfl, r, _, _, _, rfl, rfl, upd_same, ixN_ok (by omega) (by rw [List.length_set, hB]; omega), rfl, ?_⟩
        have esw : (ys.set (p : Int).toNat (.ref b1)).set (2 * (p : Int) + 1 + (if lexV (t (g ys (2 * p + 2))) (t (g ys (2 * p + 1))) = true then 1 else 0)).toNat (.ref b2) = sw ys p (les (ltT t) ys p) := by
          unfold sw
          rw [e1, e2, hB]
          rfl
        rw [upd_upd, esw]
        refine ⟨_, rfl, ys.length - les (ltT t) ys p, by omega, f, les (ltT t) ys p, lk + 2, some (.int (2 * (p : Int) + 1 + (if lexV (t (g ys (2 * p + 2))) (t (g ys (2 * p + 1))) = true then 1 else 0))), sw ys p (les (ltT t) ys p), ?_, hd, by rw [sw_len]; omega, upd_same, by rw [sw_len]; exact l2, fun y hy => s2 y (sw_mem (by omega) hles y hy), ?_, by rw [sw_len]⟩
        · have ez : ((lk : Int) + 1 + 1) = ((lk + 2 : Nat) : Int) := by omega
          show [some (V.ref r), some (V.int (2 * (p : Int) + 1 + (if lexV (t (g ys (2 * p + 2))) (t (g ys (2 * p + 1))) = true then 1 else 0))), some (V.int ((lk : Int) + 1 + 1)), some (V.int (2 * (p : Int) + 1 + (if lexV (t (g ys (2 * p + 2))) (t (g ys (2 * p + 1))) = true then 1 else 0)))] = _
          rw [ez, hB]
        · intro b o e nb
          rw [upd_ne nb]
          have q := f2 b o e nb
          rw [upd_ne (ne_of_none q hp)]; exact q
    · have c2' : ¬ 2 * (p : Int) + 1 + 1 < (ys.length : Int) := by simpa using c2
      have hB : 2 * (p : Int) + 1 = ((les (ltT t) ys p : Nat) : Int) := by rw [les_one (by omega)]; omega
      have kidsE : kids ys.length p = 1 := by unfold kids; rw [if_neg (by omega), if_pos (by omega)]
      have hles : les (ltT t) ys p < ys.length := les_lt (by omega)
      have lo := les_lo (lt := ltT t) (xs := ys) (p := p)
      refine ⟨_, rfl, _, _, rfl, rfl, ?_⟩
      obtain ⟨b1, e1, g1, m1, t1⟩ := en2.gat hles
      obtain ⟨b2, e2, g2, m2, t2⟩ := en2.gat (show p < ys.length by omega)
      rw [e1] at t1
      rw [e2] at t2
      rw [← hB] at t1
      refine ⟨_, rfl, _, rfl, r, _, _, _, rfl, rfl, SqL.of h2, t1, _, rfl, _, rfl, r, _, _, _, rfl, rfl, SqL.of h2, t2, b1, b2, _, _, rfl, rfl, SqT.of g1, SqT.of g2, en2.fit _ _, _, rfl, ite2 (fun c3 => ?_) (fun c3 => ?_)⟩
      · have q3 : ltT t (g ys (les (ltT t) ys p)) (g ys p) = false := by
          cases q : ltT t (g ys (les (ltT t) ys p)) (g ys p) with
          | false => rfl
          | true => have c4 := (show (!ltT t (g ys (les (ltT t) ys p)) (g ys p)) = true from c3); rw [q] at c4; cases c4
        refine ⟨_, rfl, ?_⟩
        obtain ⟨f, rfl⟩ : ∃ f0, f = f0 + 1 := ⟨f - 1, by omega⟩
        rw [dn_stay (by omega) q3, kidsE] at hd
        have := k H2
        rw [← hd] at this
        have ez : ((lk : Int) + 1) = ((lk + 1 : Nat) : Int) := by omega
        show Q (.int ((lk : Int) + 1)) H2
        rw [ez]
        exact this h2 f2
      · have q3 : ltT t (g ys (les (ltT t) ys p)) (g ys p) = true := by
          cases q : ltT t (g ys (les (ltT t) ys p)) (g ys p) with
          | true => rfl
          | false => exact absurd (show (!ltT t (g ys (les (ltT t) ys p)) (g ys p)) = true by rw [q]; rfl) c3
        obtain ⟨f, rfl⟩ : ∃ f0, f = f0 + 1 := ⟨f - 1, by omega⟩
        rw [dn_go (by omega) q3, kidsE] at hd
        refine ⟨_, rfl, _, rfl, r, _, _, _, rfl, rfl, SqL.of h2, t1, _, rfl, _, rfl, r, _, _, _, rfl, rfl, SqL.of h2, t2, by show 2 ≤ sizeLine; decide, fun p2 hp => ?_⟩
        have hrp : r ≠ p2 := ne_of_none h2 hp
        refine ⟨p2, _, rfl, SqT.of upd_same, rfl, _, _, rfl, _, rfl, _, rfl, r, ys, _, _, rfl, rfl, by rw [upd_ne hrp]; exact h2, ixN_ok (by omega) (by omega), _, _, rfl, _, rfl, _, rfl, r, _, _, _, rfl, rfl, upd_same, ixN_ok (by omega) (by rw [List.length_set, hB]; omega), rfl, ?_⟩
        have esw : (ys.set (p : Int).toNat (.ref b1)).set (2 * (p : Int) + 1).toNat (.ref b2) = sw ys p (les (ltT t) ys p) := by
          unfold sw
          rw [e1, e2, hB]
          rfl
        rw [upd_upd, esw]
        refine ⟨_, rfl, ys.length - les (ltT t) ys p, by omega, f, les (ltT t) ys p, lk + 1, some (.int (2 * (p : Int) + 1)), sw ys p (les (ltT t) ys p), ?_, hd, by rw [sw_len]; omega, upd_same, by rw [sw_len]; exact l2, fun y hy => s2 y (sw_mem (by omega) hles y hy), ?_, by rw [sw_len]⟩
        · have ez : ((lk : Int) + 1) = ((lk + 1 : Nat) : Int) := by omega
          show [some (V.ref r), some (V.int (2 * (p : Int) + 1)), some (V.int ((lk : Int) + 1)), some (V.int (2 * (p : Int) + 1))] = _
          rw [ez, hB]
        · intro b o e nb
          rw [upd_ne nb]
          have q := f2 b o e nb
          rw [upd_ne (ne_of_none q hp)]; exact q
end
end Kx
end
section
set_option linter.all false
set_option maxRecDepth 100000
set_option maxHeartbeats 4000000
namespace Kx
open PySem L2
section
variable {P : Program} {w : World} {K : PySem.W.Frag} {mg : Str → Option Value} {base : Heap}
open Hm
abbrev sHeaped : Stmt := top 16
theorem scHeaped : FnScope ["row", "looks", "at"] ["row"] (defScope sHeaped) := ⟨rfl, rfl, rfl, (by simp only [List.nodup_cons, List.mem_cons, List.not_mem_nil, or_false, not_or, List.nodup_nil, and_true, not_false_eq_true]; (repeat' apply And.intro); all_goals decide +kernel), rfl, by decide +kernel, by decide +kernel⟩
def spHeaped : Sp := fun vs H Q _ => ∃ (r : Addr) (xs : List V) (t : V → List V), vs = [.ref r] ∧ H r = some (.lst xs) ∧ EnR t H xs ∧ xs.length ≤ 1000 ∧
  ∀ H', H' r = some (.lst (mk (ltT t) (xs.length / 2) xs 0).1) → (∀ b o, H b = some o → b ≠ r → H' b = some o) → Q (.int (mk (ltT t) (xs.length / 2) xs 0).2) H'
theorem rev_at {n i : Nat} {x : V} (h : ((List.range n).map fun (k : Nat) => V.int k).reverse[i]? = some x) : i < n ∧ x = .int ((n - 1 - i : Nat) : Int) := by
  have hi : i < n := by
    have := (List.getElem?_eq_some_iff.mp h).1
    simpa using this
  rw [List.getElem?_reverse (by simpa using hi)] at h
  simp only [List.length_map, List.length_range, List.getElem?_map] at h
  rw [List.getElem?_range (by omega)] at h
  exact ⟨hi, (Option.some.inj h).symm⟩
theorem ok_heaped {f fn : Addr} {fd fdn : FuncData} (F : Fun K "_law_heaped" "_law_heaped" sHeaped f fd) (T : Bl mg) (G_law_down : FnOk P w K mg base CX0 1 fn fdn ["row", "at"] spDown) (D_law_down : Nm K mg "_law_down" fn fdn ["row", "at"]) :
    FnOk P w K mg base CX0 2 f fd ["row"] spHeaped := by
  have sc := scHeaped
  refine F.ok scHeaped (fun vs H Q E h => ?_) (fun cdv A outer s H vs Q E hr h => ?_)
  · obtain ⟨r, xs, t, rfl, _⟩ := h
    rfl
  · obtain ⟨r, xs, t, rfl, hx, en, hl, k⟩ := h
    have hu := hr.units0
    refine ⟨_, (QSs.to (qss_cons (qs_set (i := 1) sc.nd rfl (Or.inl rfl) qe_int)
      (qss_cons (qs_for PassesOwn.never rfl (qi_list (qe_rev (qe_callTy (call_listRange rfl) (by rfl) T.z_list (by decide +kernel) (qa_cons (qe_callTy call_range1 (by rfl) T.z_range (by decide +kernel) (qa_cons (qe_op op_fdivB (qe_callB call_len_seq (by rfl) T.z_len (by decide +kernel) (qa_cons (qv 0) qa_nil)) qe_int) qa_nil)) qa_nil)) (qe_un un_neg qe_int))) (qg_name (i := 2) sc.nd rfl (Or.inl rfl)) (qss_one (qs_set (i := 1) sc.nd rfl (Or.inl rfl) (qe_op op_add (qv 1) (qe_call G_law_down (hr.mono (by decide)) rfl D_law_down.m D_law_down.k D_law_down.b .nil pass0 (qa_cons (qv 0) (qa_cons (qv 2) qa_nil)))))))
      (qss_one (qs_ret (qv 1)))))), ?_⟩
    refine ⟨_, rfl, r, _, rfl, .inl (SqL.of hx), _, _, rfl, rfl, ⟨by decide, by decide⟩, _, rfl, fun p1 hp1 => ?_⟩
    refine ⟨p1, xs.length / 2, rfl, upd_same.trans (by rw [show ((xs.length : Int) / 2) = ((xs.length / 2 : Nat) : Int) by omega]), by omega, fun p2 hp2 => ?_⟩
    refine ⟨_, rfl, rfl, p2, _, rfl, SqL.of upd_same, fun p3 hp3 => ⟨p3, rfl, ⟨_, SqL.of upd_same⟩, ?_⟩⟩
    have k0 : Same H (upd (upd (upd H p1 (.rng 0 ((xs.length : Int) / 2))) p2 (.lst ((List.range (xs.length / 2)).map fun (k : Nat) => V.int k))) p3 (.lst ((List.range (xs.length / 2)).map fun (k : Nat) => V.int k).reverse)) := ((same_new hp1).trans (same_new hp2)).trans (same_new hp3)
    have h3 : (upd (upd (upd H p1 (.rng 0 ((xs.length : Int) / 2))) p2 (.lst ((List.range (xs.length / 2)).map fun (k : Nat) => V.int k))) p3 (.lst ((List.range (xs.length / 2)).map fun (k : Nat) => V.int k).reverse)) p3 = some (.lst ((List.range (xs.length / 2)).map fun (k : Nat) => V.int k).reverse) := upd_same
    have n3 : p3 ≠ r := fun z => by
      rw [z] at hp3
      rw [((same_new hp1).trans (same_new hp2)) r _ hx] at hp3
      cases hp3
    generalize upd (upd (upd H p1 (.rng 0 ((xs.length : Int) / 2))) p2 (.lst ((List.range (xs.length / 2)).map fun (k : Nat) => V.int k))) p3 (.lst ((List.range (xs.length / 2)).map fun (k : Nat) => V.int k).reverse) = H3 at k0 h3 ⊢
    refine for_list (K := K) (a := p3) (xs := ((List.range (xs.length / 2)).map fun (k : Nat) => V.int k).reverse) (fun i σ H4 => ∃ (lk : Nat) (o : Option V) (ys : List V), σ = [some (.ref r), some (.int lk), o] ∧ H4 r = some (.lst ys) ∧ ys.length = xs.length ∧ (∀ y ∈ ys, y ∈ xs) ∧ (∀ b o, H b = some o → b ≠ r → H4 b = some o) ∧ H4 p3 = some (.lst ((List.range (xs.length / 2)).map fun (k : Nat) => V.int k).reverse) ∧ mk (ltT t) (xs.length / 2 - i) ys lk = mk (ltT t) (xs.length / 2) xs 0)
      ⟨0, none, xs, rfl, k0 r _ hx, rfl, fun y h => h, fun b o e _ => k0 b o e, h3, rfl⟩ (fun i σ H4 _ ⟨_, _, _, _, _, _, _, _, q, _⟩ => SqL.of q) ?_ ?_
    · rintro i x σ H4 hi ⟨lk, o, ys, rfl, h4, l4, s4, f4, g4, m4⟩
      obtain ⟨hi', rfl⟩ := rev_at hi
      have en4 : EnR t H4 ys := (en.bar hx f4).sub s4
      refine ⟨_, rfl, _, rfl, _, rfl, r, ys, _, t, rfl, h4, en4, by omega, fun H5 h5 f5 => ⟨_, _, rfl, rfl, ?_⟩⟩
      refine ⟨lk + (dn (ltT t) ys.length ys (xs.length / 2 - 1 - i) 0).2, _, _, rfl, h5, dn_len.trans l4, fun y hy => s4 y (dn_perm.mem_iff.mp hy), fun b o e nb => f5 b o (f4 b o e nb) nb, f5 p3 _ g4 n3, ?_⟩
      rw [← m4, show xs.length / 2 - i = (xs.length / 2 - (i + 1)) + 1 by omega]
      conv => rhs; unfold mk
      rw [show xs.length / 2 - (i + 1) = xs.length / 2 - 1 - i by omega]
    · rintro σ H4 ⟨lk, o, ys, rfl, h4, l4, s4, f4, g4, m4⟩
      rw [List.length_reverse, List.length_map, List.length_range, Nat.sub_self] at m4
      have m5 : (ys, lk) = mk (ltT t) (xs.length / 2) xs 0 := m4
      have := k H4
      rw [← m5] at this
      exact ⟨_, rfl, this h4 f4⟩
end
end Kx
end
section
set_option linter.all false
set_option maxRecDepth 100000
set_option maxHeartbeats 4000000
namespace Kx
open PySem L2
section
variable {P : Program} {w : World} {K : PySem.W.Frag} {mg : Str → Option Value} {base : Heap}
open Hm
abbrev sHeap : Stmt := top 19
theorem scHeap : FnScope ["deck", "many", "row"] ["deck", "many"] (defScope sHeap) := ⟨rfl, rfl, rfl, (by simp only [List.nodup_cons, List.mem_cons, List.not_mem_nil, or_false, not_or, List.nodup_nil, and_true, not_false_eq_true]; (repeat' apply And.intro); all_goals decide +kernel), rfl, by decide +kernel, by decide +kernel⟩
def spHeap : Sp := fun vs H Q _ => ∃ (d c : Addr) (cs : List Int) (at' seed : Int) (many : Nat), vs = [.ref d, .int many] ∧ Deck H d c cs at' seed ∧ many ≤ 300 ∧
  ∀ (r : Addr) (xs : List V) (t : V → List V) cs' at2 H', H' r = some (.lst xs) → EnR t H' xs → IsH (ltT t) xs → xs.length = many → Deck H' d c cs' at2 seed → Kd d c H H' → H r = none → Q (.ref r) H'
theorem ok_heap {f ft fe fh : Addr} {fd fdt fde fdh : FuncData} (F : Fun K "_law_heap" "_law_heap" sHeap f fd) (T : Bl mg) (G_law_take : FnOk P w K mg base CX0 1 ft fdt ["deck", "many"] spTake) (D_law_take : Nm K mg "_law_take" ft fdt ["deck", "many"])
    (G_law_entries : FnOk P w K mg base CX0 3 fe fde ["deck", "many"] spEntries) (D_law_entries : Nm K mg "_law_entries" fe fde ["deck", "many"]) (G_law_heaped : FnOk P w K mg base CX0 2 fh fdh ["row"] spHeaped) (D_law_heaped : Nm K mg "_law_heaped" fh fdh ["row"]) :
    FnOk P w K mg base CX0 4 f fd ["deck", "many"] spHeap := by
  have sc := scHeap
  refine F.ok scHeap (fun vs H Q E h => ?_) (fun cdv A outer s H vs Q E hr h => ?_)
  · obtain ⟨d, c, cs, a, sd, many, rfl, _⟩ := h
    rfl
  · obtain ⟨d, c, cs, a, sd, many, rfl, D, hm, k⟩ := h
    have hu := hr.units0
    refine ⟨_, (QSs.to (qss_cons (qs_set (i := 2) sc.nd rfl (Or.inl rfl) (qe_call G_law_entries (hr.mono (by decide)) rfl D_law_entries.m D_law_entries.k D_law_entries.b .nil pass0 (qa_cons (qv 0) (qa_cons (qv 1) qa_nil))))
      (qss_cons (qs_if (qt_cmpR op_eq (qe_call G_law_take (hr.mono (by decide)) rfl D_law_take.m D_law_take.k D_law_take.b .nil pass0 (qa_cons (qv 0) (qa_cons qe_int qa_nil))) qe_int (nomark _)) (qss_one (qs_ret (qe_callB call_sortedE (by rfl) T.z_sorted (by decide +kernel) (qa_cons (qv 2) qa_nil)))) qss_nil)
      (qss_cons (qs_expr (qe_call G_law_heaped (hr.mono (by decide)) rfl D_law_heaped.m D_law_heaped.k D_law_heaped.b .nil pass0 (qa_cons (qv 2) qa_nil)))
      (qss_one (qs_ret (qv 2))))))), ?_⟩
    refine ⟨_, rfl, _, rfl, d, c, cs, a, sd, many, rfl, D, hm, fun r xs cs1 a1 H1 h1 en1 l1 D1 K1 n1 => ?_⟩
    have nrd : r ≠ d := fun z => by rw [z, D.hd] at n1; cases n1
    have nrc : r ≠ c := fun z => by rw [z, D.hc] at n1; cases n1
    refine ⟨_, rfl, d, c, cs1, a1, sd, _, rfl, D1, by decide, by decide, fun z cs2 a2 H2 z0 z1 D2 K2 N2 => ?_⟩
    have h2 := K2 r _ h1 nrd nrc
    have en2 := (en1.kd D1 K2).r
    have k2 := K1.trans K2
    refine ⟨rfl, _, rfl, ite2 (fun _ => ?_) (fun _ => ?_)⟩
    · refine ⟨_, rfl, r, xs, keyE H2, rfl, SqL.of h2, en2.enl, fun l ys hl pm so => ?_⟩
      have nl : H l = none := by
        cases q : H l with
        | none => rfl
        | some o =>
          by_cases y1 : l = d
          · rw [y1, D2.hd] at hl; cases hl
          · by_cases y2 : l = c
            · rw [y2, D2.hc] at hl; cases hl
            · rw [k2 l o q y1 y2] at hl; cases hl
      exact k l ys (keyE H2) cs2 a2 _ upd_same ((en2.sub fun y hy => pm.mem_iff.mp hy).new hl) (srt_heap so) (by rw [pm.length_eq]; exact l1) (D2.upd hl) (k2.new hl) nl
    · refine ⟨_, rfl, r, xs, keyE H2, rfl, h2, en2, by omega, fun H3 h3 f3 => ?_⟩
      refine ⟨_, rfl, k r _ (keyE H2) cs2 a2 H3 h3 ((en2.bar h2 f3).sub fun y hy => mk_perm.mem_iff.mp hy) (mk_heap (od_ltT (keyE_en _)) hf_half) (mk_len.trans l1) ⟨f3 d _ D2.hd nrd.symm, f3 c _ D2.hc nrc.symm, D2.l1, D2.l2⟩ (fun b o e y1 y2 => f3 b o (k2 b o e y1 y2) (ne_of_none e n1)) n1⟩
end
end Kx
end
section
set_option linter.all false
set_option maxRecDepth 100000
set_option maxHeartbeats 4000000
namespace Kx
open PySem L2
section
variable {P : Program} {w : World} {K : PySem.W.Frag} {mg : Str → Option Value} {base : Heap}
open Hm
abbrev sExch : Stmt := top 9
theorem scExch : FnScope ["heap", "place", "other", "held"] ["heap", "place", "other"] (defScope sExch) := ⟨rfl, rfl, rfl, (by simp only [List.nodup_cons, List.mem_cons, List.not_mem_nil, or_false, not_or, List.nodup_nil, and_true, not_false_eq_true]; (repeat' apply And.intro); all_goals decide +kernel), rfl, by decide +kernel, by decide +kernel⟩
def spExch : Sp := fun vs H Q _ => ∃ (r : Addr) (xs : List V) (i j : Nat), vs = [.ref r, .int i, .int j] ∧ H r = some (.lst xs) ∧ i < xs.length ∧ j < xs.length ∧ Q .non (upd H r (.lst (sw xs i j)))
theorem ok_exch {f : Addr} {fd : FuncData} (F : Fun K "exchange" "exchange" sExch f fd) (T : Bl mg) : FnOk P w K mg base CX0 1 f fd ["heap", "place", "other"] spExch := by
  have sc := scExch
  refine F.ok scExch (fun vs H Q E h => ?_) (fun cdv A outer s H vs Q E hr h => ?_)
  · obtain ⟨r, xs, i, j, rfl, _⟩ := h
    rfl
  · obtain ⟨r, xs, i, j, rfl, hx, hi, hj, k⟩ := h
    have hu := hr.units0
    refine ⟨_, (QSs.to (qss_cons (qs_set (i := 3) sc.nd rfl (Or.inl rfl) (qe_ix ix_list (qv 0) (qv 1) (fun _ _ => rfl)))
      (qss_cons (qs_asg (qe_ix ix_list (qv 0) (qv 2) (fun _ _ => rfl)) (qg_sub (qv 0) (qv 1) set_list))
      (qss_one (qs_asg (qv 3) (qg_sub (qv 0) (qv 2) set_list)))))), ?_⟩
    refine ⟨_, rfl, _, rfl, r, _, _, _, rfl, rfl, SqL.of hx, at_g hi, ?_⟩
    refine ⟨_, rfl, _, rfl, r, _, _, _, rfl, rfl, SqL.of hx, at_g hj, ?_⟩
    refine ⟨_, rfl, _, rfl, r, xs, _, i, rfl, rfl, hx, ixN_ok (by omega) (by omega), ?_⟩
    refine ⟨_, rfl, _, rfl, _, rfl, r, _, _, j, rfl, rfl, upd_same, ixN_ok (by omega) (by rw [List.length_set]; omega), ?_⟩
    rw [upd_upd]
    exact k
end
end Kx
end
section
set_option linter.all false
set_option maxRecDepth 100000
set_option maxHeartbeats 4000000
namespace Kx
open PySem L2
section
variable {P : Program} {w : World} {K : PySem.W.Frag} {mg : Str → Option Value} {base : Heap}
open Hm
abbrev sLetDown : Stmt := top 8
theorem scLetDown : FnScope ["heap", "start", "place", "looks", "beneath"] ["heap", "start"] (defScope sLetDown) := ⟨rfl, rfl, rfl, (by simp only [List.nodup_cons, List.mem_cons, List.not_mem_nil, or_false, not_or, List.nodup_nil, and_true, not_false_eq_true]; (repeat' apply And.intro); all_goals decide +kernel), rfl, by decide +kernel, by decide +kernel⟩
def spLetDown : Sp := fun vs H Q _ => ∃ (r : Addr) (xs : List V) (a : Nat) (t : V → List V), vs = [.ref r, .int a] ∧ H r = some (.lst xs) ∧ EnR t H xs ∧ xs.length ≤ 1000 ∧
  ∀ H', H' r = some (.lst (dn (ltT t) xs.length xs a 0).1) → (∀ b o, H b = some o → b ≠ r → H' b = some o) → Q (.int (dn (ltT t) xs.length xs a 0).2) H'
theorem ok_letdown {f fe : Addr} {fd fde : FuncData} (F : Fun K "let_down" "let_down" sLetDown f fd) (T : Bl mg) (Gexchange : FnOk P w K mg base CX0 1 fe fde ["heap", "place", "other"] spExch) (Dexchange : Nm K mg "exchange" fe fde ["heap", "place", "other"]) :
    FnOk P w K mg base CX0 2 f fd ["heap", "start"] spLetDown := by
  have sc := scLetDown
  refine F.ok scLetDown (fun vs H Q E h => ?_) (fun cdv A outer s H vs Q E hr h => ?_)
  · obtain ⟨r, xs, a, t, rfl, _⟩ := h
    rfl
  · obtain ⟨r, xs, a, t, rfl, hx, en, hl, k⟩ := h
    have hu := hr.units0
    refine ⟨_, (QSs.to (qss_cons (qs_set (i := 2) sc.nd rfl (Or.inl rfl) (qv 1))
      (qss_cons (qs_set (i := 3) sc.nd rfl (Or.inl rfl) qe_int)
      (qss_cons (qs_while PassesOwn.never (qt_cmpR op_lt (qe_op op_add (qe_op op_mul qe_int (qv 2)) qe_int) (qe_callB call_len_seq (by rfl) T.z_len (by decide +kernel) (qa_cons (qv 0) qa_nil)) (nomark _)) (qss_cons (qs_set (i := 4) sc.nd rfl (Or.inl rfl) (qe_op op_add (qe_op op_mul qe_int (qv 2)) qe_int))
      (qss_cons (qs_if (qt_cmpR op_lt (qe_op op_add (qv 4) qe_int) (qe_callB call_len_seq (by rfl) T.z_len (by decide +kernel) (qa_cons (qv 0) qa_nil)) (nomark _)) (qss_cons (qs_set (i := 3) sc.nd rfl (Or.inl rfl) (qe_op op_add (qv 3) qe_int))
      (qss_one (qs_if (qt_cmpR (op_ltV hu) (qe_ix ix_list (qv 0) (qe_op op_add (qv 4) qe_int) (fun _ _ => rfl)) (qe_ix ix_list (qv 0) (qv 4) (fun _ _ => rfl)) (nomark _)) (qss_one (qs_set (i := 4) sc.nd rfl (Or.inl rfl) (qe_op op_add (qv 4) qe_int))) qss_nil))) qss_nil)
      (qss_cons (qs_set (i := 3) sc.nd rfl (Or.inl rfl) (qe_op op_add (qv 3) qe_int))
      (qss_cons (qs_if (qt_not (qt_cmpR (op_ltV hu) (qe_ix ix_list (qv 0) (qv 4) (fun _ _ => rfl)) (qe_ix ix_list (qv 0) (qv 2) (fun _ _ => rfl)) (nomark _))) (qss_one (qs_ret (qv 3))) qss_nil)
      (qss_cons (qs_expr (qe_call Gexchange (hr.mono (by decide)) rfl Dexchange.m Dexchange.k Dexchange.b .nil pass0 (qa_cons (qv 0) (qa_cons (qv 2) (qa_cons (qv 4) qa_nil)))))
      (qss_one (qs_set (i := 2) sc.nd rfl (Or.inl rfl) (qv 4)))))))))
      (qss_one (qs_ret (qv 3))))))), ?_⟩
    refine ⟨_, rfl, ?_⟩
    refine ⟨fun m σ H2 => ∃ (f p lk : Nat) (bl : Option V) (ys : List V), σ = [some (.ref r), some (.int a), some (.int p), some (.int lk), bl] ∧ dn (ltT t) f ys p lk = dn (ltT t) xs.length xs a 0 ∧ ys.length ≤ p + f ∧ H2 r = some (.lst ys) ∧ ys.length = xs.length ∧ (∀ y ∈ ys, y ∈ xs) ∧ (∀ b o, H b = some o → b ≠ r → H2 b = some o) ∧ m = ys.length - p,
      ⟨_, xs.length, a, 0, none, xs, rfl, rfl, by omega, hx, rfl, fun y h => h, fun b o e _ => e, rfl⟩, ?_⟩
    rintro m σ H2 ⟨f, p, lk, bl, ys, rfl, hd, hf, h2, l2, s2, f2, rfl⟩
    have en2 : EnR t H2 ys := (en.bar hx f2).sub s2
    refine ⟨_, rfl, _, _, rfl, rfl, .inl ⟨by decide, by decide⟩, _, _, rfl, rfl, _, rfl, r, _, rfl, .inl (SqL.of h2), _, _, rfl, rfl, _, rfl, ite2 (fun c1 => ?_) (fun c1 => ⟨_, rfl, ?_⟩)⟩
    rotate_left
    · have c1' : ¬ 2 * (p : Int) + 1 < (ys.length : Int) := by simpa using c1
      rw [dn_stop (by omega)] at hd
      have := k H2
      rw [← hd] at this
      exact this h2 f2
    have c1' : 2 * (p : Int) + 1 < (ys.length : Int) := by simpa using c1
    refine ⟨fun σ' H' => ∃ m', m' < ys.length - p ∧ ∃ (f p lk : Nat) (bl : Option V) (zs : List V), σ' = [some (.ref r), some (.int a), some (.int p), some (.int lk), bl] ∧ dn (ltT t) f zs p lk = dn (ltT t) xs.length xs a 0 ∧ zs.length ≤ p + f ∧ H' r = some (.lst zs) ∧ zs.length = xs.length ∧ (∀ y ∈ zs, y ∈ xs) ∧ (∀ b o, H b = some o → b ≠ r → H' b = some o) ∧ m' = zs.length - p, fun σ' H' z => z, ?_⟩
    refine ⟨_, rfl, _, _, rfl, rfl, .inl ⟨by decide, by decide⟩, _, _, rfl, rfl, ?_⟩
    refine ⟨_, rfl, _, _, rfl, rfl, _, rfl, r, _, rfl, .inl (SqL.of h2), _, _, rfl, rfl, _, rfl, ite2 (fun c2 => ?_) (fun c2 => ?_)⟩
    · have c2' : 2 * (p : Int) + 1 + 1 < (ys.length : Int) := by simpa using c2
      refine ⟨_, rfl, _, _, rfl, rfl, ?_⟩
      obtain ⟨b3, e3, g3, m3, t3⟩ := en2.gat (show 2 * p + 2 < ys.length by omega)
      obtain ⟨b4, e4, g4, m4, t4⟩ := en2.gat (show 2 * p + 1 < ys.length by omega)
      rw [e3, show ((2 * p + 2 : Nat) : Int) = 2 * (p : Int) + 1 + 1 by omega] at t3
      rw [e4, show ((2 * p + 1 : Nat) : Int) = 2 * (p : Int) + 1 by omega] at t4
      have kidsE : kids ys.length p = 2 := by unfold kids; rw [if_pos (by omega)]
      have hB2 := les_two (lt := ltT t) (xs := ys) (p := p) (by omega)
      refine ⟨_, rfl, _, rfl, _, _, rfl, rfl, r, _, _, _, rfl, rfl, SqL.of h2, t3, _, rfl, _, rfl, r, _, _, _, rfl, rfl, SqL.of h2, t4, b3, b4, _, _, rfl, rfl, SqT.of g3, SqT.of g4, en2.fit _ _, _, rfl, ite2 (fun c4 => ?_) (fun c4 => ?_)⟩
      · refine ⟨_, rfl, _, _, rfl, rfl, ?_⟩
        have hB : 2 * (p : Int) + 1 + 1 = ((les (ltT t) ys p : Nat) : Int) := by rw [hB2, if_pos (show ltT t (g ys (2 * p + 2)) (g ys (2 * p + 1)) = true from c4)]
        have hles : les (ltT t) ys p < ys.length := les_lt (by omega)
        have lo := les_lo (lt := ltT t) (xs := ys) (p := p)
        refine ⟨_, rfl, _, _, rfl, rfl, ?_⟩
        obtain ⟨b1, e1, g1, m1, t1⟩ := en2.gat hles
        obtain ⟨b2, e2, g2, m2, t2⟩ := en2.gat (show p < ys.length by omega)
        rw [e1] at t1
        rw [e2] at t2
        rw [← hB] at t1
        refine ⟨_, rfl, _, rfl, r, _, _, _, rfl, rfl, SqL.of h2, t1, _, rfl, _, rfl, r, _, _, _, rfl, rfl, SqL.of h2, t2, b1, b2, _, _, rfl, rfl, SqT.of g1, SqT.of g2, en2.fit _ _, _, rfl, ite2 (fun c3 => ?_) (fun c3 => ?_)⟩
        · have q3 : ltT t (g ys (les (ltT t) ys p)) (g ys p) = false := by
            cases q : ltT t (g ys (les (ltT t) ys p)) (g ys p) with
            | false => rfl
            | true => have c4 := (show (!ltT t (g ys (les (ltT t) ys p)) (g ys p)) = true from c3); rw [q] at c4; cases c4
          refine ⟨_, rfl, ?_⟩
          obtain ⟨f, rfl⟩ : ∃ f0, f = f0 + 1 := ⟨f - 1, by omega⟩
          rw [dn_stay (by omega) q3, kidsE] at hd
          have := k H2
          rw [← hd] at this
          have ez : ((lk : Int) + 1 + 1) = ((lk + 2 : Nat) : Int) := by omega
          show Q (.int ((lk : Int) + 1 + 1)) H2
          rw [ez]
          exact this h2 f2
        · have q3 : ltT t (g ys (les (ltT t) ys p)) (g ys p) = true := by
            cases q : ltT t (g ys (les (ltT t) ys p)) (g ys p) with
            | true => rfl
            | false => exact absurd (show (!ltT t (g ys (les (ltT t) ys p)) (g ys p)) = true by rw [q]; rfl) c3
          obtain ⟨f, rfl⟩ : ∃ f0, f = f0 + 1 := ⟨f - 1, by omega⟩
          rw [dn_go (by omega) q3, kidsE] at hd
          refine ⟨_, rfl, _, rfl, _, rfl, r, ys, p, les (ltT t) ys p, (by show [V.ref r, V.int (p : Int), V.int (2 * (p : Int) + 1 + 1)] = _; rw [hB]), h2, by omega, hles, ?_⟩
          refine ⟨_, rfl, ys.length - les (ltT t) ys p, by omega, f, les (ltT t) ys p, lk + 2, some (.int (2 * (p : Int) + 1 + 1)), sw ys p (les (ltT t) ys p), ?_, hd, by rw [sw_len]; omega, upd_same, by rw [sw_len]; exact l2, fun y hy => s2 y (sw_mem (by omega) hles y hy), fun b o e nb => by rw [upd_ne nb]; exact f2 b o e nb, by rw [sw_len]⟩
          have ez : ((lk : Int) + 1 + 1) = ((lk + 2 : Nat) : Int) := by omega
          show [some (V.ref r), some (V.int a), some (V.int (2 * (p : Int) + 1 + 1)), some (V.int ((lk : Int) + 1 + 1)), some (V.int (2 * (p : Int) + 1 + 1))] = _
          rw [ez, hB]
      · have hB : 2 * (p : Int) + 1 = ((les (ltT t) ys p : Nat) : Int) := by rw [hB2, if_neg (show ¬ ltT t (g ys (2 * p + 2)) (g ys (2 * p + 1)) = true from c4)]; omega
        have hles : les (ltT t) ys p < ys.length := les_lt (by omega)
        have lo := les_lo (lt := ltT t) (xs := ys) (p := p)
        refine ⟨_, rfl, _, _, rfl, rfl, ?_⟩
        obtain ⟨b1, e1, g1, m1, t1⟩ := en2.gat hles
        obtain ⟨b2, e2, g2, m2, t2⟩ := en2.gat (show p < ys.length by omega)
        rw [e1] at t1
        rw [e2] at t2
        rw [← hB] at t1
        refine ⟨_, rfl, _, rfl, r, _, _, _, rfl, rfl, SqL.of h2, t1, _, rfl, _, rfl, r, _, _, _, rfl, rfl, SqL.of h2, t2, b1, b2, _, _, rfl, rfl, SqT.of g1, SqT.of g2, en2.fit _ _, _, rfl, ite2 (fun c3 => ?_) (fun c3 => ?_)⟩
        · have q3 : ltT t (g ys (les (ltT t) ys p)) (g ys p) = false := by
            cases q : ltT t (g ys (les (ltT t) ys p)) (g ys p) with
            | false => rfl
            | true => have c4 := (show (!ltT t (g ys (les (ltT t) ys p)) (g ys p)) = true from c3); rw [q] at c4; cases c4
          refine ⟨_, rfl, ?_⟩
          obtain ⟨f, rfl⟩ : ∃ f0, f = f0 + 1 := ⟨f - 1, by omega⟩
          rw [dn_stay (by omega) q3, kidsE] at hd
          have := k H2
          rw [← hd] at this
          have ez : ((lk : Int) + 1 + 1) = ((lk + 2 : Nat) : Int) := by omega
          show Q (.int ((lk : Int) + 1 + 1)) H2
          rw [ez]
          exact this h2 f2
        · have q3 : ltT t (g ys (les (ltT t) ys p)) (g ys p) = true := by
            cases q : ltT t (g ys (les (ltT t) ys p)) (g ys p) with
            | true => rfl
            | false => exact absurd (show (!ltT t (g ys (les (ltT t) ys p)) (g ys p)) = true by rw [q]; rfl) c3
          obtain ⟨f, rfl⟩ : ∃ f0, f = f0 + 1 := ⟨f - 1, by omega⟩
          rw [dn_go (by omega) q3, kidsE] at hd
          refine ⟨_, rfl, _, rfl, _, rfl, r, ys, p, les (ltT t) ys p, (by show [V.ref r, V.int (p : Int), V.int (2 * (p : Int) + 1)] = _; rw [hB]), h2, by omega, hles, ?_⟩
          refine ⟨_, rfl, ys.length - les (ltT t) ys p, by omega, f, les (ltT t) ys p, lk + 2, some (.int (2 * (p : Int) + 1)), sw ys p (les (ltT t) ys p), ?_, hd, by rw [sw_len]; omega, upd_same, by rw [sw_len]; exact l2, fun y hy => s2 y (sw_mem (by omega) hles y hy), fun b o e nb => by rw [upd_ne nb]; exact f2 b o e nb, by rw [sw_len]⟩
          have ez : ((lk : Int) + 1 + 1) = ((lk + 2 : Nat) : Int) := by omega
          show [some (V.ref r), some (V.int a), some (V.int (2 * (p : Int) + 1)), some (V.int ((lk : Int) + 1 + 1)), some (V.int (2 * (p : Int) + 1))] = _
          rw [ez, hB]
    · have c2' : ¬ 2 * (p : Int) + 1 + 1 < (ys.length : Int) := by simpa using c2
      have hB : 2 * (p : Int) + 1 = ((les (ltT t) ys p : Nat) : Int) := by rw [les_one (by omega)]; omega
      have kidsE : kids ys.length p = 1 := by unfold kids; rw [if_neg (by omega), if_pos (by omega)]
      have hles : les (ltT t) ys p < ys.length := les_lt (by omega)
      have lo := les_lo (lt := ltT t) (xs := ys) (p := p)
      refine ⟨_, rfl, _, _, rfl, rfl, ?_⟩
      obtain ⟨b1, e1, g1, m1, t1⟩ := en2.gat hles
      obtain ⟨b2, e2, g2, m2, t2⟩ := en2.gat (show p < ys.length by omega)
      rw [e1] at t1
      rw [e2] at t2
      rw [← hB] at t1
      refine ⟨_, rfl, _, rfl, r, _, _, _, rfl, rfl, SqL.of h2, t1, _, rfl, _, rfl, r, _, _, _, rfl, rfl, SqL.of h2, t2, b1, b2, _, _, rfl, rfl, SqT.of g1, SqT.of g2, en2.fit _ _, _, rfl, ite2 (fun c3 => ?_) (fun c3 => ?_)⟩
      · have q3 : ltT t (g ys (les (ltT t) ys p)) (g ys p) = false := by
          cases q : ltT t (g ys (les (ltT t) ys p)) (g ys p) with
          | false => rfl
          | true => have c4 := (show (!ltT t (g ys (les (ltT t) ys p)) (g ys p)) = true from c3); rw [q] at c4; cases c4
        refine ⟨_, rfl, ?_⟩
        obtain ⟨f, rfl⟩ : ∃ f0, f = f0 + 1 := ⟨f - 1, by omega⟩
        rw [dn_stay (by omega) q3, kidsE] at hd
        have := k H2
        rw [← hd] at this
        have ez : ((lk : Int) + 1) = ((lk + 1 : Nat) : Int) := by omega
        show Q (.int ((lk : Int) + 1)) H2
        rw [ez]
        exact this h2 f2
      · have q3 : ltT t (g ys (les (ltT t) ys p)) (g ys p) = true := by
          cases q : ltT t (g ys (les (ltT t) ys p)) (g ys p) with
          | true => rfl
          | false => exact absurd (show (!ltT t (g ys (les (ltT t) ys p)) (g ys p)) = true by rw [q]; rfl) c3
        obtain ⟨f, rfl⟩ : ∃ f0, f = f0 + 1 := ⟨f - 1, by omega⟩
        rw [dn_go (by omega) q3, kidsE] at hd
        refine ⟨_, rfl, _, rfl, _, rfl, r, ys, p, les (ltT t) ys p, (by show [V.ref r, V.int (p : Int), V.int (2 * (p : Int) + 1)] = _; rw [hB]), h2, by omega, hles, ?_⟩
        refine ⟨_, rfl, ys.length - les (ltT t) ys p, by omega, f, les (ltT t) ys p, lk + 1, some (.int (2 * (p : Int) + 1)), sw ys p (les (ltT t) ys p), ?_, hd, by rw [sw_len]; omega, upd_same, by rw [sw_len]; exact l2, fun y hy => s2 y (sw_mem (by omega) hles y hy), fun b o e nb => by rw [upd_ne nb]; exact f2 b o e nb, by rw [sw_len]⟩
        have ez : ((lk : Int) + 1) = ((lk + 1 : Nat) : Int) := by omega
        show [some (V.ref r), some (V.int a), some (V.int (2 * (p : Int) + 1)), some (V.int ((lk : Int) + 1)), some (V.int (2 * (p : Int) + 1))] = _
        rw [ez, hB]
end
end Kx
end
section
set_option linter.all false
set_option maxRecDepth 100000
set_option maxHeartbeats 4000000
namespace Kx
open PySem L2
section
variable {P : Program} {w : World} {K : PySem.W.Frag} {mg : Str → Option Value} {base : Heap}
open Hm
abbrev sCut : Stmt := top 7
theorem scCut : FnScope ["heap", "last"] ["heap"] (defScope sCut) := ⟨rfl, rfl, rfl, (by simp only [List.nodup_cons, List.mem_cons, List.not_mem_nil, or_false, not_or, List.nodup_nil, and_true, not_false_eq_true]; (repeat' apply And.intro); all_goals decide +kernel), rfl, by decide +kernel, by decide +kernel⟩
def spCut : Sp := fun vs H Q _ => ∃ (r : Addr) (xs : List V) (t : V → List V), vs = [.ref r] ∧ H r = some (.lst xs) ∧ EnR t H xs ∧ 0 < xs.length ∧ xs.length ≤ 1000 ∧
  ∀ H', H' r = some (.lst (cutf (ltT t) xs).1) → (∀ b o, H b = some o → b ≠ r → H' b = some o) → Q (.int (cutf (ltT t) xs).2) H'
theorem ok_cut {f fe : Addr} {fd fde : FuncData} (F : Fun K "cut_first" "cut_first" sCut f fd) (T : Bl mg) (Glet_down : FnOk P w K mg base CX0 2 fe fde ["heap", "start"] spLetDown) (Dlet_down : Nm K mg "let_down" fe fde ["heap", "start"]) :
    FnOk P w K mg base CX0 3 f fd ["heap"] spCut := by
  have sc := scCut
  refine F.ok scCut (fun vs H Q E h => ?_) (fun cdv A outer s H vs Q E hr h => ?_)
  · obtain ⟨r, xs, t, rfl, _⟩ := h
    rfl
  · obtain ⟨r, xs, t, rfl, hx, en, h0, hl, k⟩ := h
    have hu := hr.units0
    refine ⟨_, (QSs.to (qss_cons (qs_set (i := 1) sc.nd rfl (Or.inl rfl) (qe_bm0 PySem.F.plainAttrs_list PySem.F.slot_list_pop PySem.F.type_list_pop mt_pop (qv 0)))
      (qss_cons (qs_if (qt_cmpR op_eq (qe_callB call_len_seq (by rfl) T.z_len (by decide +kernel) (qa_cons (qv 0) qa_nil)) qe_int (nomark _)) (qss_one (qs_ret qe_int)) qss_nil)
      (qss_cons (qs_asg (qv 1) (qg_sub (qv 0) qe_int set_list))
      (qss_one (qs_ret (qe_call Glet_down (hr.mono (by decide)) rfl Dlet_down.m Dlet_down.k Dlet_down.b .nil pass0 (qa_cons (qv 0) (qa_cons qe_int qa_nil))))))))), ?_⟩
    have eg : xs[xs.length - 1]? = some (g xs (xs.length - 1)) := by rw [g_get (by omega)]; exact List.getElem?_eq_getElem _
    have mg' : g xs (xs.length - 1) ∈ xs := List.mem_of_getElem? eg
    refine ⟨_, rfl, .inl ⟨rfl, _, SqL.of hx⟩, r, xs, _, rfl, rfl, hx, eg, ?_⟩
    have ld : xs.dropLast.length = xs.length - 1 := List.length_dropLast
    refine ⟨_, rfl, r, _, rfl, .inl (SqL.of upd_same), rfl, _, rfl, ite2 (fun c1 => ?_) (fun c1 => ?_)⟩
    · have c1' : xs.dropLast.length = 0 := by
        have := of_decide_eq_true c1
        have := V.int.inj this
        omega
      have ec : cutf (ltT t) xs = ([], 0) := cutf_one (by omega)
      have := k (upd H r (.lst xs.dropLast))
      rw [ec] at this
      exact this (by rw [upd_same, List.length_eq_zero_iff.mp c1']) fun b o e nb => by rw [upd_ne nb]; exact e
    · have c1' : xs.dropLast.length ≠ 0 := fun z => c1 (decide_eq_true (by rw [z]; rfl))
      have l2 : (xs.dropLast.set 0 (g xs (xs.length - 1))).length = xs.dropLast.length := List.length_set
      refine ⟨_, rfl, _, rfl, r, xs.dropLast, _, 0, rfl, rfl, upd_same, ixN_ok (by omega) (by omega), ?_⟩
      rw [upd_upd]
      have ec : cutf (ltT t) xs = dn (ltT t) xs.dropLast.length (xs.dropLast.set 0 (g xs (xs.length - 1))) 0 0 := by
        unfold cutf
        rw [if_neg (fun z => c1' (by rw [z]; rfl))]
      refine ⟨_, rfl, r, _, 0, t, rfl, upd_same, (en.sub fun y hy => ?_).put hx, by omega, fun H' h' f' => ?_⟩
      · rcases List.mem_or_eq_of_mem_set hy with z | z
        · exact (List.dropLast_sublist xs).mem z
        · rw [z]; exact mg'
      · rw [l2, ← ec] at h'
        rw [l2, ← ec]
        exact k H' h' fun b o e nb => f' b o (by rw [upd_ne nb]; exact e) nb
end
end Kx
end
section
set_option linter.all false
set_option maxRecDepth 100000
set_option maxHeartbeats 4000000
namespace Kx
open PySem L2
section
variable {P : Program} {w : World} {K : PySem.W.Frag} {mg : Str → Option Value} {base : Heap}
open Hm
abbrev bmV : List Value := [.type "ValueError", .type "Exception", .type "BaseException", .type "object"]
abbrev sTaken : Stmt := top 6
theorem scTaken : FnScope ["row", "heap", "looks"] ["row"] (defScope sTaken) := ⟨rfl, rfl, rfl, (by simp only [List.nodup_cons, List.mem_cons, List.not_mem_nil, or_false, not_or, List.nodup_nil, and_true, not_false_eq_true]; (repeat' apply And.intro); all_goals decide +kernel), rfl, by decide +kernel, by decide +kernel⟩
def spTaken (C : Addr) : Sp := fun vs H Q E => ∃ (r : Addr) (xs : List V) (t : V → List V), vs = [.ref r] ∧ H r = some (.tup xs) ∧ EnR t H xs ∧ xs.length ≤ 1000 ∧
  (0 < xs.length → ∀ p q H', H' p = some (.tup [g xs 0, .ref q, .int (cutf (ltT t) xs).2]) → H' q = some (.tup (cutf (ltT t) xs).1) → Same H H' → Q (.ref p) H') ∧ (xs.length = 0 → E (.ref C) none H)
theorem ok_taken {f fe C : Addr} {fd fde : FuncData} (F : Fun K "taken" "taken" sTaken f fd) (T : Bl mg) (mNoThing : mg "NoThing" = some (.ref C)) (xNoThing : PySem.W.excIn K C bmV "ValueError.__new__" = true) (Gcut_first : FnOk P w K mg base CX0 3 fe fde ["heap"] spCut) (Dcut_first : Nm K mg "cut_first" fe fde ["heap"]) :
    FnOk P w K mg base (CXe P w) 4 f fd ["row"] (spTaken C) := by
  have sc := scTaken
  refine F.okE scTaken (fun vs H Q E h => ?_) (fun cdv A outer s H vs Q E hr h => ?_)
  · obtain ⟨r, xs, t, rfl, _⟩ := h
    rfl
  · obtain ⟨r, xs, t, rfl, hx, en, hl, k, kE⟩ := h
    have hu := hr.units0
    refine ⟨_, (QSs.to (qss_cons (qs_if (qt_cmpR op_eq (qe_callB call_len_seq (by rfl) T.z_len (by decide +kernel) (qa_cons (qv 0) qa_nil)) qe_int (nomark _)) (qss_one (qs_raiseC PySem.F.excBase_ValueError (by decide +kernel) rfl mNoThing xNoThing hr.hd (qa_cons qe_str qa_nil))) qss_nil)
      (qss_cons (qs_set (i := 1) sc.nd rfl (Or.inl rfl) (qe_callTy call_list_of (by rfl) T.z_list (by decide +kernel) (qa_cons (qv 0) qa_nil)))
      (qss_cons (qs_set (i := 2) sc.nd rfl (Or.inl rfl) (qe_call Gcut_first (hr.mono (by decide)) rfl Dcut_first.m Dcut_first.k Dcut_first.b .nil pass0 (qa_cons (qv 1) qa_nil)))
      (qss_one (qs_ret (qe_tup (qa_cons (qe_ix ix_tup (qv 0) qe_int (fun _ _ => rfl)) (qa_cons (qe_callTy call_tuple_of (by rfl) T.z_tuple (by decide +kernel) (qa_cons (qv 1) qa_nil)) (qa_cons (qv 2) qa_nil)))))))))), ?_⟩
    refine ⟨_, rfl, r, _, rfl, .inr (SqT.of hx), rfl, _, rfl, ite2 (fun c1 => ?_) (fun c1 => ?_)⟩
    · have := V.int.inj (of_decide_eq_true c1)
      exact ⟨by show 1 ≤ 1000; decide, kE (by omega)⟩
    have h0 : 0 < xs.length := Nat.pos_of_ne_zero fun z => c1 (decide_eq_true (by rw [z]; rfl))
    refine ⟨_, rfl, r, xs, rfl, .inr (SqT.of hx), fun l hl1 => ?_⟩
    refine ⟨_, rfl, l, xs, t, rfl, upd_same, en.new hl1, h0, hl, fun H2 h2 f2 => ?_⟩
    have s2 : Same H H2 := fun b o q => f2 b o (by rw [upd_ne (ne_of_none q hl1)]; exact q) (ne_of_none q hl1)
    refine ⟨_, rfl, r, xs, 0, g xs 0, rfl, rfl, SqT.of (s2 _ _ hx), at_g h0, _, rfl, l, _, rfl, .inl ⟨SqL.of h2, fun q hq => ?_⟩⟩
    refine ⟨_, rfl, by show 3 ≤ sizeLine; decide, fun p hp => ?_⟩
    exact k h0 p q _ upd_same (by rw [upd_ne (ne_of_none upd_same hp)]; exact upd_same) (s2.trans ((same_new hq).trans (same_new hp)))
abbrev sWay : Stmt := top 20
theorem scWay : FnScope ["row", "way", "one"] ["row"] (defScope sWay) := ⟨rfl, rfl, rfl, (by simp only [List.nodup_cons, List.mem_cons, List.not_mem_nil, or_false, not_or, List.nodup_nil, and_true, not_false_eq_true]; (repeat' apply And.intro); all_goals decide +kernel), rfl, by decide +kernel, by decide +kernel⟩
def spWay : Sp := fun vs H Q _ => ∃ (r : Addr) (ys : List V) (t : V → List V), vs = [.ref r] ∧ H r = some (.lst ys) ∧ EnR t H ys ∧ ys.length ≤ 1000 ∧
  ∀ l H', H' l = some (.lst (iN (0 :: wd (ltT t) ys ys.length 0))) → Same H H' → Q (.ref l) H'
theorem ok_way {f : Addr} {fd : FuncData} (F : Fun K "_law_way" "_law_way" sWay f fd) (T : Bl mg) : FnOk P w K mg base CX0 1 f fd ["row"] spWay := by
  have sc := scWay
  refine F.ok scWay (fun vs H Q E h => ?_) (fun cdv A outer s H vs Q E hr h => ?_)
  · obtain ⟨r, ys, t, rfl, _⟩ := h
    rfl
  · obtain ⟨r, ys, t, rfl, hx, en, hl, k⟩ := h
    have hu := hr.units0
    refine ⟨_, (QSs.to (qss_cons (qs_set (i := 1) sc.nd rfl (Or.inl rfl) (qe_lst (qa_cons qe_int qa_nil)))
      (qss_cons (qs_while PassesOwn.never (qt_cmpR op_lt (qe_op op_add (qe_op op_mul qe_int (qe_ix ix_list (qv 1) (qe_un un_neg qe_int) (fun _ _ => rfl))) qe_int) (qe_callB call_len_seq (by rfl) T.z_len (by decide +kernel) (qa_cons (qv 0) qa_nil)) (nomark _)) (qss_cons (qs_set (i := 2) sc.nd rfl (Or.inl rfl) (qe_op op_add (qe_op op_mul qe_int (qe_ix ix_list (qv 1) (qe_un un_neg qe_int) (fun _ _ => rfl))) qe_int))
      (qss_cons (qs_if (QW.pt (qw_and (qt_cmpR op_lt (qe_op op_add (qv 2) qe_int) (qe_callB call_len_seq (by rfl) T.z_len (by decide +kernel) (qa_cons (qv 0) qa_nil)) (nomark _)) (qw_and1 (qt_cmpR (op_ltV hu) (qe_ix ix_list (qv 0) (qe_op op_add (qv 2) qe_int) (fun _ _ => rfl)) (qe_ix ix_list (qv 0) (qv 2) (fun _ _ => rfl)) (nomark _))))) (qss_one (qs_set (i := 2) sc.nd rfl (Or.inl rfl) (qe_op op_add (qv 2) qe_int))) qss_nil)
      (qss_one (qs_expr (qe_bm PySem.F.plainAttrs_list PySem.F.slot_list_append PySem.F.type_list_append mt_append (qv 1) (qa_cons (qv 2) qa_nil)))))))
      (qss_one (qs_ret (qv 1)))))), ?_⟩
    refine ⟨by show 1 ≤ sizeLine; decide, fun y hy => ?_⟩
    refine ⟨fun m σ H2 => ∃ (pre : List Nat) (p f : Nat) (o1 : Option V), σ = [some (.ref r), some (.ref y), o1] ∧ H2 y = some (.lst (iN (pre ++ [p]))) ∧ (pre ++ [p]) ++ wd (ltT t) ys f p = 0 :: wd (ltT t) ys ys.length 0 ∧ ys.length ≤ p + f ∧ Same H H2 ∧ m = ys.length - p,
      ⟨_, [], 0, ys.length, none, rfl, upd_same, rfl, by omega, same_new hy, rfl⟩, ?_⟩
    rintro m σ H2 ⟨pre, p, f, o1, rfl, h2, hw, hf, s2, rfl⟩
    have e1 : atI (iN (pre ++ [p])) (-1) = some (.int p) := by rw [iN_app]; exact atI_last _ _
    have x2 := s2 _ _ hx
    have en2 := en.same s2
    refine ⟨_, rfl, _, rfl, y, _, _, _, rfl, rfl, SqL.of h2, e1, _, _, rfl, rfl, .inl ⟨by decide, by decide⟩, _, _, rfl, rfl, _, rfl, r, _, rfl, .inl (SqL.of x2), _, _, rfl, rfl, _, rfl, ite2 (fun c1 => ?_) (fun c1 => ?_)⟩
    rotate_left
    · have c1' : ¬ 2 * (p : Int) + 1 < (ys.length : Int) := by simpa using c1
      rw [wd_end (by omega), List.append_nil] at hw
      rw [hw] at h2
      exact ⟨_, rfl, k y H2 h2 s2⟩
    have c1' : 2 * (p : Int) + 1 < (ys.length : Int) := by simpa using c1
    obtain ⟨f, rfl⟩ : ∃ f0, f = f0 + 1 := ⟨f - 1, by omega⟩
    rw [wd_pos (by omega)] at hw
    have lw : (pre ++ [p]).length ≤ ys.length + 1 := by
      have := congrArg List.length hw
      rw [List.length_append, List.length_cons (a := 0)] at this
      have := wd_len (lt := ltT t) (xs := ys) (f := ys.length) (p := 0)
      omega
    refine ⟨fun σ' H' => ∃ m', m' < ys.length - p ∧ ∃ (pre : List Nat) (p f : Nat) (o1 : Option V), σ' = [some (.ref r), some (.ref y), o1] ∧ H' y = some (.lst (iN (pre ++ [p]))) ∧ (pre ++ [p]) ++ wd (ltT t) ys f p = 0 :: wd (ltT t) ys ys.length 0 ∧ ys.length ≤ p + f ∧ Same H H' ∧ m' = ys.length - p, fun σ' H' z => z, ?_⟩
    refine ⟨_, rfl, _, rfl, y, _, _, _, rfl, rfl, SqL.of h2, e1, _, _, rfl, rfl, .inl ⟨by decide, by decide⟩, _, _, rfl, rfl, ?_⟩
    refine ⟨_, rfl, _, _, rfl, rfl, _, rfl, r, _, rfl, .inl (SqL.of x2), _, _, rfl, rfl, _, rfl, ite2 (fun c2 => ?_) (fun c2 => iteF ?_)⟩
    · have c2' : 2 * (p : Int) + 1 + 1 < (ys.length : Int) := by simpa using c2
      obtain ⟨b3, e3, g3, m3, t3⟩ := en2.gat (show 2 * p + 2 < ys.length by omega)
      obtain ⟨b4, e4, g4, m4, t4⟩ := en2.gat (show 2 * p + 1 < ys.length by omega)
      rw [e3, show ((2 * p + 2 : Nat) : Int) = 2 * (p : Int) + 1 + 1 by omega] at t3
      rw [e4, show ((2 * p + 1 : Nat) : Int) = 2 * (p : Int) + 1 by omega] at t4
      have hB2 := les_two (lt := ltT t) (xs := ys) (p := p) (by omega)
      refine ⟨_, rfl, _, rfl, _, _, rfl, rfl, r, _, _, _, rfl, rfl, SqL.of x2, t3, _, rfl, _, rfl, r, _, _, _, rfl, rfl, SqL.of x2, t4, b3, b4, _, _, rfl, rfl, SqT.of g3, SqT.of g4, en2.fit _ _, _, rfl, ite2 (fun c4 => ?_) (fun c4 => ?_)⟩
      · refine ⟨_, rfl, _, _, rfl, rfl, ?_⟩
        have hB : 2 * (p : Int) + 1 + 1 = ((les (ltT t) ys p : Nat) : Int) := by rw [hB2, if_pos (show ltT t (g ys (2 * p + 2)) (g ys (2 * p + 1)) = true from c4)]
        have hles : les (ltT t) ys p < ys.length := les_lt (by omega)
        have lo := les_lo (lt := ltT t) (xs := ys) (p := p)
        refine ⟨_, rfl, .inl ⟨rfl, _, SqL.of h2⟩, _, rfl, y, _, _, rfl, rfl, h2, by rw [iN_len]; exact Nat.lt_of_le_of_lt (Nat.le_trans lw (Nat.succ_le_succ hl)) (by decide), ?_⟩
        refine ⟨ys.length - les (ltT t) ys p, by omega, pre ++ [p], les (ltT t) ys p, f, _, rfl, ?_, ?_, by omega, same_upd s2 hy, rfl⟩
        · show upd H2 y (.lst (iN (pre ++ [p]) ++ [V.int (2 * (p : Int) + 1 + 1)])) y = _
          rw [iN_app (a := pre ++ [p]), hB]; exact upd_same
        · rw [List.append_assoc (pre ++ [p])]; exact hw
      · have hB : 2 * (p : Int) + 1 = ((les (ltT t) ys p : Nat) : Int) := by rw [hB2, if_neg (show ¬ ltT t (g ys (2 * p + 2)) (g ys (2 * p + 1)) = true from c4)]; omega
        have hles : les (ltT t) ys p < ys.length := les_lt (by omega)
        have lo := les_lo (lt := ltT t) (xs := ys) (p := p)
        refine ⟨_, rfl, .inl ⟨rfl, _, SqL.of h2⟩, _, rfl, y, _, _, rfl, rfl, h2, by rw [iN_len]; exact Nat.lt_of_le_of_lt (Nat.le_trans lw (Nat.succ_le_succ hl)) (by decide), ?_⟩
        refine ⟨ys.length - les (ltT t) ys p, by omega, pre ++ [p], les (ltT t) ys p, f, _, rfl, ?_, ?_, by omega, same_upd s2 hy, rfl⟩
        · show upd H2 y (.lst (iN (pre ++ [p]) ++ [V.int (2 * (p : Int) + 1)])) y = _
          rw [iN_app (a := pre ++ [p]), hB]; exact upd_same
        · rw [List.append_assoc (pre ++ [p])]; exact hw
    · have c2' : ¬ 2 * (p : Int) + 1 + 1 < (ys.length : Int) := by simpa using c2
      have hB : 2 * (p : Int) + 1 = ((les (ltT t) ys p : Nat) : Int) := by rw [les_one (by omega)]; omega
      have hles : les (ltT t) ys p < ys.length := les_lt (by omega)
      have lo := les_lo (lt := ltT t) (xs := ys) (p := p)
      refine ⟨_, rfl, .inl ⟨rfl, _, SqL.of h2⟩, _, rfl, y, _, _, rfl, rfl, h2, by rw [iN_len]; exact Nat.lt_of_le_of_lt (Nat.le_trans lw (Nat.succ_le_succ hl)) (by decide), ?_⟩
      refine ⟨ys.length - les (ltT t) ys p, by omega, pre ++ [p], les (ltT t) ys p, f, _, rfl, ?_, ?_, by omega, same_upd s2 hy, rfl⟩
      · show upd H2 y (.lst (iN (pre ++ [p]) ++ [V.int (2 * (p : Int) + 1)])) y = _
        rw [iN_app (a := pre ++ [p]), hB]; exact upd_same
      · rw [List.append_assoc (pre ++ [p])]; exact hw
end
end Kx
end
section
set_option linter.all false
set_option maxRecDepth 100000
set_option maxHeartbeats 4000000
namespace Kx
open PySem L2
section
variable {P : Program} {w : World} {K : PySem.W.Frag} {mg : Str → Option Value} {base : Heap}
open Hm
theorem cut_m1 {xs : List V} : cutV xs none (some (-1)) = xs.dropLast := by
  unfold cutV
  rw [HT.sIx_none, List.drop_zero, List.dropLast_eq_take]
  congr 1
  show (if (-1 : Int) < 0 then ((-1 : Int) + (xs.length : Int)).toNat else min (-1 : Int).toNat xs.length) - 0 = _
  rw [if_pos (by decide)]
  omega
theorem cut_to {l : List Nat} {k : Nat} (h : k ≤ l.length) : cutV (iN l) none (some (k : Int)) = iN (l.take k) := by
  unfold cutV iN
  rw [HT.sIx_none, HT.sIx_nat, List.drop_zero, List.length_map, Nat.sub_zero, Nat.min_eq_left h, List.map_take]
theorem tw_split {p : Nat → Bool} : ∀ {l : List Nat} {m : Nat}, m ≤ l.length → (∀ j, j < m → p (l.getD j 0) = true) → (m < l.length → p (l.getD m 0) = false) → l.takeWhile p = l.take m
  | [], m, h, _, _ => by rw [List.take_nil]; rfl
  | a :: l, 0, h, h1, h2 => by
    have := h2 (Nat.succ_pos _)
    rw [List.takeWhile_cons, show p a = false from this]
    rfl
  | a :: l, m + 1, h, h1, h2 => by
    have q : p a = true := h1 0 (Nat.succ_pos _)
    rw [List.takeWhile_cons, q, if_pos rfl, List.take_succ_cons]
    rw [tw_split (Nat.le_of_succ_le_succ h) (fun j hj => h1 (j + 1) (Nat.succ_lt_succ hj)) (fun hm => h2 (Nat.succ_lt_succ hm))]
abbrev sDue : Stmt := top 21
theorem scDue : FnScope ["row", "last", "left", "way", "moved", "told", "k", "looks", "place"] ["row"] (defScope sDue) := ⟨rfl, rfl, rfl, (by simp only [List.nodup_cons, List.mem_cons, List.not_mem_nil, or_false, not_or, List.nodup_nil, and_true, not_false_eq_true]; (repeat' apply And.intro); all_goals decide +kernel), rfl, by decide +kernel, by decide +kernel⟩
def spDue : Sp := fun vs H Q _ => ∃ (r : Addr) (xs : List V) (t : V → List V), vs = [.ref r] ∧ H r = some (.lst xs) ∧ EnR t H xs ∧ 0 < xs.length ∧ xs.length ≤ 1000 ∧
  ∀ p q H', H' p = some (.tup [g xs 0, .ref q, .int (cutf (ltT t) xs).2]) → H' q = some (.tup (cutf (ltT t) xs).1) → Same H H' → Q (.ref p) H'
theorem ok_due {f fy : Addr} {fd fdy : FuncData} (F : Fun K "_law_due" "_law_due" sDue f fd) (T : Bl mg) (z_max : mg "max" = none) (z_min : mg "min" = none) (G_law_way : FnOk P w K mg base CX0 1 fy fdy ["row"] spWay) (D_law_way : Nm K mg "_law_way" fy fdy ["row"]) :
    FnOk P w K mg base CX0 2 f fd ["row"] spDue := by
  have sc := scDue
  refine F.ok scDue (fun vs H Q E h => ?_) (fun cdv A outer s H vs Q E hr h => ?_)
  · obtain ⟨r, xs, t, rfl, _⟩ := h
    rfl
  · obtain ⟨r, xs, t, rfl, hx, en, h0, hl, k⟩ := h
    have hu := hr.units0
    refine ⟨_, (QSs.to (qss_cons (qs_set (i := 1) sc.nd rfl (Or.inl rfl) (qe_ix ix_list (qv 0) (qe_un un_neg qe_int) (fun _ _ => rfl)))
      (qss_cons (qs_set (i := 2) sc.nd rfl (Or.inl rfl) (qe_slice sl_list (qv 0) qo_none (qo_some (qe_un un_neg qe_int))))
      (qss_cons (qs_if (qt_cmpR (op_eqNil hu) (qv 2) (qe_lst qa_nil) (nomark _)) (qss_one (qs_ret (qe_tup (qa_cons (qv 1) (qa_cons (qe_tup qa_nil) (qa_cons qe_int qa_nil)))))) qss_nil)
      (qss_cons (qs_set (i := 3) sc.nd rfl (Or.inl rfl) (qe_call G_law_way (hr.mono (by decide)) rfl D_law_way.m D_law_way.k D_law_way.b .nil pass0 (qa_cons (qv 2) qa_nil)))
      (qss_cons (qs_set (i := 4) sc.nd rfl (Or.inl rfl) qe_int)
      (qss_cons (qs_while PassesOwn.never (QW.pt (qw_and (qt_cmpR op_lt (qe_op op_add (qv 4) qe_int) (qe_callB call_len_seq (by rfl) T.z_len (by decide +kernel) (qa_cons (qv 3) qa_nil)) (nomark _)) (qw_and1 (qt_cmpR (op_ltV hu) (qe_ix ix_list (qv 2) (qe_ix ix_list (qv 3) (qe_op op_add (qv 4) qe_int) (fun _ _ => rfl)) (fun _ _ => rfl)) (qv 1) (nomark _))))) (qss_one (qs_set (i := 4) sc.nd rfl (Or.inl rfl) (qe_op op_add (qv 4) qe_int))))
      (qss_cons (qs_set (i := 5) sc.nd rfl (Or.inl rfl) (qe_callTy call_list_of (by rfl) T.z_list (by decide +kernel) (qa_cons (qv 2) qa_nil)))
      (qss_cons (qs_for PassesOwn.never rfl (qi_range1 rfl T.z_range (qa_cons (qv 4) qa_nil)) (qg_name (i := 6) sc.nd rfl (Or.inl rfl)) (qss_one (qs_asg (qe_ix ix_list (qv 2) (qe_ix ix_list (qv 3) (qe_op op_add (qv 6) qe_int) (fun _ _ => rfl)) (fun _ _ => rfl)) (qg_sub (qv 5) (qe_ix ix_list (qv 3) (qv 6) (fun _ _ => rfl)) set_list))))
      (qss_cons (qs_asg (qv 1) (qg_sub (qv 5) (qe_ix ix_list (qv 3) (qv 4) (fun _ _ => rfl)) set_list))
      (qss_cons (qs_set (i := 7) sc.nd rfl (Or.inl rfl) qe_int)
      (qss_cons (qs_for PassesOwn.never rfl (qi_list (qe_slice sl_list (qv 3) qo_none (qo_some (qe_op op_add (qv 4) qe_int)))) (qg_name (i := 8) sc.nd rfl (Or.inl rfl)) (qss_one (qs_set (i := 7) sc.nd rfl (Or.inl rfl) (qe_op op_add (qv 7) (qe_callB (call_max2 rfl) (by rfl) z_max (by decide +kernel) (qa_cons qe_int (qa_cons (qe_callB (call_min2 rfl) (by rfl) z_min (by decide +kernel) (qa_cons qe_int (qa_cons (qe_op op_sub (qe_op op_sub (qe_callB call_len_seq (by rfl) T.z_len (by decide +kernel) (qa_cons (qv 2) qa_nil)) (qe_op op_mul qe_int (qv 8))) qe_int) qa_nil))) qa_nil)))))))
      (qss_one (qs_ret (qe_tup (qa_cons (qe_ix ix_list (qv 0) qe_int (fun _ _ => rfl)) (qa_cons (qe_callTy call_tuple_of (by rfl) T.z_tuple (by decide +kernel) (qa_cons (qv 5) qa_nil)) (qa_cons (qv 7) qa_nil)))))))))))))))))), ?_⟩
    have ld : xs.dropLast.length = xs.length - 1 := List.length_dropLast
    have eg : atI xs (-1) = some (g xs (xs.length - 1)) := by
      obtain ⟨a, v, rfl⟩ := List.eq_nil_or_concat xs |>.resolve_left (by intro e; rw [e] at h0; exact absurd h0 (by decide))
      rw [List.concat_eq_append]
      have : g (a ++ [v]) ((a ++ [v]).length - 1) = v := by
        rw [show (a ++ [v]).length - 1 = a.length by simp]
        exact g_end
      rw [this]
      exact atI_last a v
    obtain ⟨bl, ebl, gbl, mbl, _⟩ := en.gat (show xs.length - 1 < xs.length by omega)
    -- last, left
    refine ⟨_, rfl, _, rfl, r, xs, _, _, rfl, rfl, SqL.of hx, eg, ?_⟩
    refine ⟨_, rfl, _, rfl, _, rfl, r, xs, rfl, SqL.of hx, fun l hl1 => ?_⟩
    rw [cut_m1]
    have s1 := same_new (o := .lst xs.dropLast) hl1
    have l1 := upd_same (H := H) (a := l) (o := .lst xs.dropLast)
    generalize upd H l (.lst xs.dropLast) = H1 at s1 l1 ⊢
    refine ⟨_, rfl, by show 0 ≤ sizeLine; decide, fun e he => ⟨l, e, _, rfl, rfl, SqL.of (same_new he _ _ l1), SqL.of upd_same, _, rfl, ?_⟩⟩
    have s2 := s1.trans (same_new (o := .lst []) he)
    have l2 := same_new (o := .lst []) he _ _ l1
    generalize upd H1 e (.lst []) = H2 at s2 l2 ⊢
    refine ite2 (fun c1 => ?_) (fun c1 => ?_)
    · have c1' : xs.dropLast = [] := of_decide_eq_true c1
      have l0 : xs.length = 1 := by
        have := congrArg List.length c1'
        rw [ld] at this
        have : xs.length - 1 = 0 := this
        omega
      rw [cutf_one l0] at k
      refine ⟨_, rfl, by show 0 ≤ sizeLine; decide, fun q hq => ⟨by show 3 ≤ sizeLine; decide, fun p hp => ?_⟩⟩
      refine k p q _ ?_ (by rw [upd_ne (ne_of_none upd_same hp)]; exact upd_same) (s2.trans ((same_new hq).trans (same_new hp)))
      rw [upd_same, l0]
      rfl
    have c1' : xs.dropLast ≠ [] := fun z => c1 (decide_eq_true z)
    have lp : 0 < xs.dropLast.length := Nat.pos_of_ne_zero fun z => c1' (List.length_eq_zero_iff.mp z)
    have en2 : EnR t H2 xs.dropLast := (en.same s2).sub fun y hy => (List.dropLast_sublist xs).mem hy
    have hcw := cutf_way (lt := ltT t) c1'
    -- way
    refine ⟨_, rfl, l, xs.dropLast, t, rfl, l2, en2, by omega, fun y H3 y3 s3 => ?_⟩
    have s4 := s2.trans s3
    have l4 := s3 _ _ l2
    have wl := wd_len (lt := ltT t) (xs := xs.dropLast) (f := xs.dropLast.length) (p := 0)
    have wa := wd_asc (lt := ltT t) (xs := xs.dropLast) (f := xs.dropLast.length) (p := 0)
    have wm : ∀ q ∈ wd (ltT t) xs.dropLast xs.dropLast.length 0, q < xs.dropLast.length := fun q hq => (wd_mem hq).2
    have em : mvt (ltT t) xs.dropLast (g xs (xs.length - 1)) = (wd (ltT t) xs.dropLast xs.dropLast.length 0).takeWhile fun q => ltT t (g xs.dropLast q) (g xs (xs.length - 1)) := rfl
    generalize wd (ltT t) xs.dropLast xs.dropLast.length 0 = W at y3 wl wa wm em
    have wg : ∀ j, j < W.length → W.getD j 0 < xs.dropLast.length := fun j hj => wm _ (by
      rw [List.getD_eq_getElem?_getD, List.getElem?_eq_getElem hj]; exact List.getElem_mem hj)
    have wat : ∀ j, j ≤ W.length → atI (iN (0 :: W)) (j : Int) = some (.int ((0 :: W).getD j 0 : Nat)) := fun j hj => iN_at (by rw [List.length_cons]; omega)
    have en4 := en2.same s3
    have gl4 := s4 _ _ gbl
    -- moved
    refine ⟨fun n σ H4 => H4 = H3 ∧ ∃ m : Nat, σ = [some (.ref r), some (g xs (xs.length - 1)), some (.ref l), some (.ref y), some (.int m), none, none, none, none] ∧ m ≤ W.length ∧ (∀ j, j < m → ltT t (g xs.dropLast (W.getD j 0)) (g xs (xs.length - 1)) = true) ∧ n = W.length - m,
      ⟨_, rfl, 0, rfl, Nat.zero_le _, fun j hj => absurd hj (Nat.not_lt_zero _), rfl⟩, ?_⟩
    rintro n σ H4 ⟨rfl, m, rfl, hm, hj, rfl⟩
    have after : ∀ (c : m < W.length → ltT t (g xs.dropLast (W.getD m 0)) (g xs (xs.length - 1)) = false), mvt (ltT t) xs.dropLast (g xs (xs.length - 1)) = W.take m := fun c => by
      rw [em]; exact tw_split hm hj c
    refine ⟨_, rfl, _, _, rfl, rfl, _, rfl, y, _, rfl, .inl (SqL.of y3), _, _, rfl, rfl, _, rfl, ite2 (fun c2 => ?_) (fun c2 => iteF ?_)⟩
    · have c2' : m < W.length := by
        have := of_decide_eq_true c2
        rw [iN_len, List.length_cons] at this
        omega
      have t1 : atI (iN (0 :: W)) ((m : Int) + 1) = some (.int (W.getD m 0 : Nat)) := by
        rw [show (m : Int) + 1 = ((m + 1 : Nat) : Int) by omega]; exact wat (m + 1) (by omega)
      obtain ⟨b1, e1, g1, m1, a1⟩ := en4.gat (wg m c2')
      rw [e1] at a1
      refine ⟨_, rfl, _, rfl, _, rfl, _, _, rfl, rfl, y, _, _, _, rfl, rfl, SqL.of y3, t1, l, _, _, _, rfl, rfl, SqL.of l4, a1, _, rfl, b1, bl, _, _, rfl, ebl, SqT.of g1, SqT.of gl4, en4.fit _ _, _, rfl, ite2 (fun c3 => ?_) (fun c3 => ?_)⟩
      · refine ⟨fun σ' H' => ∃ n', n' < W.length - m ∧ H' = H4 ∧ ∃ m : Nat, σ' = [some (.ref r), some (g xs (xs.length - 1)), some (.ref l), some (.ref y), some (.int m), none, none, none, none] ∧ m ≤ W.length ∧ (∀ j, j < m → ltT t (g xs.dropLast (W.getD j 0)) (g xs (xs.length - 1)) = true) ∧ n' = W.length - m, fun σ' H' z => z, ?_⟩
        refine ⟨_, rfl, _, _, rfl, rfl, W.length - (m + 1), by omega, rfl, m + 1, rfl, by omega, fun j hj2 => ?_, rfl⟩
        by_cases q : j = m
        · subst q; exact c3
        · exact hj j (by omega)
      have hM := after fun _ => by
        cases q : ltT t (g xs.dropLast (W.getD m 0)) (g xs (xs.length - 1)) with
        | false => rfl
        | true => exact absurd q c3
      rw [hcw, hM] at k
      clear em after c2
      have lM : (W.take m).length = m := by rw [List.length_take]; omega
      -- told
      refine ⟨_, rfl, l, xs.dropLast, rfl, .inl (SqL.of l4), fun v hv => ?_⟩
      have s5 := same_new (H := H4) (o := .lst xs.dropLast) hv
      have v5 := upd_same (H := H4) (a := v) (o := .lst xs.dropLast)
      generalize upd H4 v (.lst xs.dropLast) = H5 at s5 v5 ⊢
      refine ⟨_, rfl, _, rfl, by omega, by omega, for_range (lo := 0) (n := m) (fun i σ H7 => ∃ (o : Option V) (Z : List V), σ = [some (.ref r), some (g xs (xs.length - 1)), some (.ref l), some (.ref y), some (.int m), some (.ref v), o, none, none] ∧ H7 v = some (.lst Z) ∧ Z.length = xs.dropLast.length ∧ shf Z (g xs (xs.length - 1)) ((0 :: W).getD i 0) ((W.take m).drop i) = shf xs.dropLast (g xs (xs.length - 1)) 0 (W.take m) ∧ (∀ j, (0 :: W).getD i 0 ≤ j → g Z j = g xs.dropLast j) ∧ Same H4 H7)
        ⟨_, xs.dropLast, rfl, v5, rfl, rfl, fun j hj => rfl, s5⟩ ?_ ?_⟩
      · rintro i σ H7 hi ⟨o, Z, rfl, v7, l7, sh7, g7, s7⟩
        have y7 := s7 _ _ y3
        have x7 := s7 _ _ l4
        have t1 : atI (iN (0 :: W)) (0 + (i : Int) + 1) = some (.int (W.getD i 0 : Nat)) := by
          rw [show (0 : Int) + (i : Int) + 1 = ((i + 1 : Nat) : Int) by omega]; exact wat (i + 1) (by omega)
        have t2 : atI (iN (0 :: W)) (0 + (i : Int)) = some (.int ((0 :: W).getD i 0 : Nat)) := by
          rw [show (0 : Int) + (i : Int) = (i : Int) by omega]; exact wat i (by omega)
        have c1 := wg i (by omega)
        have c2 : (0 :: W).getD i 0 < W.getD i 0 := asc_at wa (k := i) (by rw [List.length_cons]; omega)
        have ed : (W.take m).drop i = W.getD i 0 :: (W.take m).drop (i + 1) := by
          rw [drop_get (l := W.take m) (k := i) (by omega)]
          congr 1
          rw [List.getD_eq_getElem?_getD, List.getElem?_take_of_lt hi, List.getD_eq_getElem?_getD]
        refine ⟨_, rfl, _, rfl, _, rfl, _, _, rfl, rfl, y, _, _, _, rfl, rfl, SqL.of y7, t1, l, _, _, _, rfl, rfl, SqL.of x7, at_g c1, ?_⟩
        refine ⟨_, rfl, _, rfl, _, rfl, y, _, _, _, rfl, rfl, SqL.of y7, t2, v, Z, _, _, rfl, rfl, v7, ixN_ok (by omega) (by rw [l7]; omega), ?_⟩
        refine ⟨_, _, rfl, upd_same, by rw [List.length_set]; exact l7, ?_, ?_, same_upd s7 hv⟩
        · rw [← sh7, ed]
          show _ = shf (Z.set _ (g Z (W.getD i 0))) _ (W.getD i 0) ((W.take m).drop (i + 1))
          rw [g7 (W.getD i 0) (Nat.le_of_lt c2)]
          rfl
        · intro j hj
          have hj' : W.getD i 0 ≤ j := hj
          rw [g_set, if_neg (by show ¬ ((((0 :: W).getD i 0 : Nat) : Int).toNat = j ∧ _); omega)]
          exact g7 j (by omega)
      rintro σ H7 ⟨o, Z, rfl, v7, l7, sh7, g7, s7⟩
      rw [List.drop_eq_nil_of_le (by omega)] at sh7
      change Z.set ((0 :: W).getD m 0) (g xs (xs.length - 1)) = _ at sh7
      have y7 := s7 _ _ y3
      have c4 : (0 :: W).getD m 0 < xs.dropLast.length := by
        cases m with
        | zero => exact lp
        | succ m => exact wg m (by omega)
      refine ⟨_, rfl, _, rfl, _, rfl, _, rfl, y, _, _, _, rfl, rfl, SqL.of y7, wat m hm, v, Z, _, _, rfl, rfl, v7, ixN_ok (by omega) (by rw [l7]; omega), ?_⟩
      rw [show (((0 :: W).getD m 0 : Nat) : Int).toNat = (0 :: W).getD m 0 from Int.toNat_natCast _, sh7]
      have v8 := upd_same (H := H7) (a := v) (o := .lst (shf xs.dropLast (g xs (xs.length - 1)) 0 (W.take m)))
      have s8 : Same H4 (upd H7 v (.lst (shf xs.dropLast (g xs (xs.length - 1)) 0 (W.take m)))) := same_upd s7 hv
      generalize upd H7 v (.lst (shf xs.dropLast (g xs (xs.length - 1)) 0 (W.take m))) = H8 at v8 s8 ⊢
      -- looks
      refine ⟨_, rfl, _, rfl, _, _, rfl, rfl, _, rfl, y, _, rfl, SqL.of (s8 _ _ y3), fun u hu2 => ?_⟩
      have ec : cutV (iN (0 :: W)) none (some ((m : Int) + 1)) = iN (0 :: W.take m) := by
        rw [show (m : Int) + 1 = ((m + 1 : Nat) : Int) by omega, cut_to (by rw [List.length_cons]; omega), List.take_succ_cons]
      rw [ec]
      have s9 := s8.trans (same_new (o := .lst (iN (0 :: W.take m))) hu2)
      have u9 := upd_same (H := H8) (a := u) (o := .lst (iN (0 :: W.take m)))
      have v9 := same_new (o := .lst (iN (0 :: W.take m))) hu2 _ _ v8
      generalize upd H8 u (.lst (iN (0 :: W.take m))) = H9 at s9 u9 v9 ⊢
      refine ⟨u, rfl, ⟨_, SqL.of u9⟩, ?_⟩
      refine for_list (K := K) (a := u) (xs := iN (0 :: W.take m)) (fun i σ HA => HA = H9 ∧ ∃ (o1 o2 : Option V), σ = [some (.ref r), some (g xs (xs.length - 1)), some (.ref l), some (.ref y), some (.int m), some (.ref v), o1, some (.int (ksum xs.dropLast.length ((0 :: W.take m).take i) : Nat)), o2]) ⟨rfl, _, _, rfl⟩ (fun i σ HA _ ⟨e, _⟩ => by rw [e]; exact SqL.of u9) ?_ ?_
      · rintro i x σ HA hi ⟨rfl, o1, o2, rfl⟩
        obtain ⟨hi', rfl⟩ := iN_get hi
        refine ⟨_, rfl, _, rfl, l, _, rfl, .inl (SqL.of (s9 _ _ l4)), _, rfl, _, _, rfl, rfl, .inl ⟨by decide, by decide⟩, _, _, rfl, rfl, _, _, rfl, rfl, _, _, rfl, _, _, rfl, _, _, rfl, rfl, ?_⟩
        refine ⟨rfl, o1, some (.int ((0 :: W.take m).getD i 0 : Nat)), ?_⟩
        have ek : (ksum xs.dropLast.length ((0 :: W.take m).take (i + 1)) : Int) = (ksum xs.dropLast.length ((0 :: W.take m).take i) : Int) + (kids xs.dropLast.length ((0 :: W.take m).getD i 0) : Int) := by
          rw [take_get hi', ksum_app, ksum_cons]
          show (((ksum _ _ + (kids _ _ + 0) : Nat)) : Int) = _
          omega
        rw [ek, kids_int]
        rfl
      rintro σ HA ⟨rfl, o1, o2, rfl⟩
      have sA := s4.trans s9
      refine ⟨_, rfl, r, xs, 0, g xs 0, rfl, rfl, SqL.of (sA _ _ hx), at_g h0, _, rfl, v, _, rfl, .inl ⟨SqL.of v9, fun q hq => ?_⟩⟩
      refine ⟨_, rfl, by show 3 ≤ sizeLine; decide, fun p hp => ?_⟩
      refine k p q _ ?_ (by rw [upd_ne (ne_of_none upd_same hp)]; exact upd_same) (sA.trans ((same_new hq).trans (same_new hp)))
      rw [upd_same, iN_len, List.take_length]
    · have c2' : ¬ m < W.length := by
        intro z
        refine c2 (decide_eq_true ?_)
        rw [iN_len, List.length_cons]
        omega
      have hM := after fun z => absurd z c2'
      rw [hcw, hM] at k
      clear em after c2
      have lM : (W.take m).length = m := by rw [List.length_take]; omega
      -- told
      refine ⟨_, rfl, l, xs.dropLast, rfl, .inl (SqL.of l4), fun v hv => ?_⟩
      have s5 := same_new (H := H4) (o := .lst xs.dropLast) hv
      have v5 := upd_same (H := H4) (a := v) (o := .lst xs.dropLast)
      generalize upd H4 v (.lst xs.dropLast) = H5 at s5 v5 ⊢
      refine ⟨_, rfl, _, rfl, by omega, by omega, for_range (lo := 0) (n := m) (fun i σ H7 => ∃ (o : Option V) (Z : List V), σ = [some (.ref r), some (g xs (xs.length - 1)), some (.ref l), some (.ref y), some (.int m), some (.ref v), o, none, none] ∧ H7 v = some (.lst Z) ∧ Z.length = xs.dropLast.length ∧ shf Z (g xs (xs.length - 1)) ((0 :: W).getD i 0) ((W.take m).drop i) = shf xs.dropLast (g xs (xs.length - 1)) 0 (W.take m) ∧ (∀ j, (0 :: W).getD i 0 ≤ j → g Z j = g xs.dropLast j) ∧ Same H4 H7)
        ⟨_, xs.dropLast, rfl, v5, rfl, rfl, fun j hj => rfl, s5⟩ ?_ ?_⟩
      · rintro i σ H7 hi ⟨o, Z, rfl, v7, l7, sh7, g7, s7⟩
        have y7 := s7 _ _ y3
        have x7 := s7 _ _ l4
        have t1 : atI (iN (0 :: W)) (0 + (i : Int) + 1) = some (.int (W.getD i 0 : Nat)) := by
          rw [show (0 : Int) + (i : Int) + 1 = ((i + 1 : Nat) : Int) by omega]; exact wat (i + 1) (by omega)
        have t2 : atI (iN (0 :: W)) (0 + (i : Int)) = some (.int ((0 :: W).getD i 0 : Nat)) := by
          rw [show (0 : Int) + (i : Int) = (i : Int) by omega]; exact wat i (by omega)
        have c1 := wg i (by omega)
        have c2 : (0 :: W).getD i 0 < W.getD i 0 := asc_at wa (k := i) (by rw [List.length_cons]; omega)
        have ed : (W.take m).drop i = W.getD i 0 :: (W.take m).drop (i + 1) := by
          rw [drop_get (l := W.take m) (k := i) (by omega)]
          congr 1
          rw [List.getD_eq_getElem?_getD, List.getElem?_take_of_lt hi, List.getD_eq_getElem?_getD]
        refine ⟨_, rfl, _, rfl, _, rfl, _, _, rfl, rfl, y, _, _, _, rfl, rfl, SqL.of y7, t1, l, _, _, _, rfl, rfl, SqL.of x7, at_g c1, ?_⟩
        refine ⟨_, rfl, _, rfl, _, rfl, y, _, _, _, rfl, rfl, SqL.of y7, t2, v, Z, _, _, rfl, rfl, v7, ixN_ok (by omega) (by rw [l7]; omega), ?_⟩
        refine ⟨_, _, rfl, upd_same, by rw [List.length_set]; exact l7, ?_, ?_, same_upd s7 hv⟩
        · rw [← sh7, ed]
          show _ = shf (Z.set _ (g Z (W.getD i 0))) _ (W.getD i 0) ((W.take m).drop (i + 1))
          rw [g7 (W.getD i 0) (Nat.le_of_lt c2)]
          rfl
        · intro j hj
          have hj' : W.getD i 0 ≤ j := hj
          rw [g_set, if_neg (by show ¬ ((((0 :: W).getD i 0 : Nat) : Int).toNat = j ∧ _); omega)]
          exact g7 j (by omega)
      rintro σ H7 ⟨o, Z, rfl, v7, l7, sh7, g7, s7⟩
      rw [List.drop_eq_nil_of_le (by omega)] at sh7
      change Z.set ((0 :: W).getD m 0) (g xs (xs.length - 1)) = _ at sh7
      have y7 := s7 _ _ y3
      have c4 : (0 :: W).getD m 0 < xs.dropLast.length := by
        cases m with
        | zero => exact lp
        | succ m => exact wg m (by omega)
      refine ⟨_, rfl, _, rfl, _, rfl, _, rfl, y, _, _, _, rfl, rfl, SqL.of y7, wat m hm, v, Z, _, _, rfl, rfl, v7, ixN_ok (by omega) (by rw [l7]; omega), ?_⟩
      rw [show (((0 :: W).getD m 0 : Nat) : Int).toNat = (0 :: W).getD m 0 from Int.toNat_natCast _, sh7]
      have v8 := upd_same (H := H7) (a := v) (o := .lst (shf xs.dropLast (g xs (xs.length - 1)) 0 (W.take m)))
      have s8 : Same H4 (upd H7 v (.lst (shf xs.dropLast (g xs (xs.length - 1)) 0 (W.take m)))) := same_upd s7 hv
      generalize upd H7 v (.lst (shf xs.dropLast (g xs (xs.length - 1)) 0 (W.take m))) = H8 at v8 s8 ⊢
      -- looks
      refine ⟨_, rfl, _, rfl, _, _, rfl, rfl, _, rfl, y, _, rfl, SqL.of (s8 _ _ y3), fun u hu2 => ?_⟩
      have ec : cutV (iN (0 :: W)) none (some ((m : Int) + 1)) = iN (0 :: W.take m) := by
        rw [show (m : Int) + 1 = ((m + 1 : Nat) : Int) by omega, cut_to (by rw [List.length_cons]; omega), List.take_succ_cons]
      rw [ec]
      have s9 := s8.trans (same_new (o := .lst (iN (0 :: W.take m))) hu2)
      have u9 := upd_same (H := H8) (a := u) (o := .lst (iN (0 :: W.take m)))
      have v9 := same_new (o := .lst (iN (0 :: W.take m))) hu2 _ _ v8
      generalize upd H8 u (.lst (iN (0 :: W.take m))) = H9 at s9 u9 v9 ⊢
      refine ⟨u, rfl, ⟨_, SqL.of u9⟩, ?_⟩
      refine for_list (K := K) (a := u) (xs := iN (0 :: W.take m)) (fun i σ HA => HA = H9 ∧ ∃ (o1 o2 : Option V), σ = [some (.ref r), some (g xs (xs.length - 1)), some (.ref l), some (.ref y), some (.int m), some (.ref v), o1, some (.int (ksum xs.dropLast.length ((0 :: W.take m).take i) : Nat)), o2]) ⟨rfl, _, _, rfl⟩ (fun i σ HA _ ⟨e, _⟩ => by rw [e]; exact SqL.of u9) ?_ ?_
      · rintro i x σ HA hi ⟨rfl, o1, o2, rfl⟩
        obtain ⟨hi', rfl⟩ := iN_get hi
        refine ⟨_, rfl, _, rfl, l, _, rfl, .inl (SqL.of (s9 _ _ l4)), _, rfl, _, _, rfl, rfl, .inl ⟨by decide, by decide⟩, _, _, rfl, rfl, _, _, rfl, rfl, _, _, rfl, _, _, rfl, _, _, rfl, rfl, ?_⟩
        refine ⟨rfl, o1, some (.int ((0 :: W.take m).getD i 0 : Nat)), ?_⟩
        have ek : (ksum xs.dropLast.length ((0 :: W.take m).take (i + 1)) : Int) = (ksum xs.dropLast.length ((0 :: W.take m).take i) : Int) + (kids xs.dropLast.length ((0 :: W.take m).getD i 0) : Int) := by
          rw [take_get hi', ksum_app, ksum_cons]
          show (((ksum _ _ + (kids _ _ + 0) : Nat)) : Int) = _
          omega
        rw [ek, kids_int]
        rfl
      rintro σ HA ⟨rfl, o1, o2, rfl⟩
      have sA := s4.trans s9
      refine ⟨_, rfl, r, xs, 0, g xs 0, rfl, rfl, SqL.of (sA _ _ hx), at_g h0, _, rfl, v, _, rfl, .inl ⟨SqL.of v9, fun q hq => ?_⟩⟩
      refine ⟨_, rfl, by show 3 ≤ sizeLine; decide, fun p hp => ?_⟩
      refine k p q _ ?_ (by rw [upd_ne (ne_of_none upd_same hp)]; exact upd_same) (sA.trans ((same_new hq).trans (same_new hp)))
      rw [upd_same, iN_len, List.take_length]
end
end Kx
end
section
set_option linter.all false
set_option maxRecDepth 100000
set_option maxHeartbeats 4000000
namespace Kx
open PySem L2
section
variable {P : Program} {w : World} {K : PySem.W.Frag} {mg : Str → Option Value} {base : Heap}
open Hm
theorem al_three {H : Hp} {q1 q2 : Addr} {zs : List V} {l : Int} {v : V} (hv : okV v = true) (h1 : H q1 = some (.tup zs)) (h2 : H q2 = some (.tup zs)) (ok : ∀ x ∈ zs, okV x = true) : AlL K H 8 [v, .ref q1, .int l] [v, .ref q2, .int l] := ⟨rfl, fun i x y e1 e2 => by
  match i, e1, e2 with
  | 0, e1, e2 =>
    cases e1
    cases e2
    exact .same hv
  | 1, e1, e2 =>
    cases e1
    cases e2
    refine .tup (SqT.of h1) (SqT.of h2) rfl fun j x y e1 e2 => ?_
    rw [e1] at e2
    cases e2
    exact .same (ok x (List.mem_of_getElem? e1))
  | 2, e1, e2 =>
    cases e1
    cases e2
    exact .same rfl
  | j + 3, e1, e2 => cases e1⟩
theorem _root_.L2.EnR.ok {t : V → List V} {H : Hp} {xs : List V} (e : EnR t H xs) : ∀ x ∈ xs, okV x = true := fun x hx => by
  obtain ⟨a, rfl, _⟩ := e.mem x hx
  rfl
abbrev sRight : Stmt := top 22
theorem scRight : FnScope ["row", "handed", "due", "turn", "found"] ["row"] (defScope sRight) := ⟨rfl, rfl, rfl, (by simp only [List.nodup_cons, List.mem_cons, List.not_mem_nil, or_false, not_or, List.nodup_nil, and_true, not_false_eq_true]; (repeat' apply And.intro); all_goals decide +kernel), rfl, by decide +kernel, by decide +kernel⟩
def spRight : Sp := fun vs H Q _ => ∃ (r : Addr) (xs : List V) (t : V → List V), vs = [.ref r] ∧ H r = some (.lst xs) ∧ EnR t H xs ∧ 0 < xs.length ∧ xs.length ≤ 1000 ∧ ∀ H', Same H H' → Q (.bl true) H'
theorem ok_right {f fp fu CN : Addr} {fd fdp fdu : FuncData} (F : Fun K "_law_right" "_law_right" sRight f fd) (T : Bl mg) (G_law_due : FnOk P w K mg base CX0 2 fu fdu ["row"] spDue) (D_law_due : Nm K mg "_law_due" fu fdu ["row"]) (Gtaken : FnOk P w K mg base (CXe P w) 4 fp fdp ["row"] (spTaken CN)) (Dtaken : Nm K mg "taken" fp fdp ["row"]) :
    FnOk P w K mg base CX0 5 f fd ["row"] spRight := by
  have sc := scRight
  refine F.ok scRight (fun vs H Q E h => ?_) (fun cdv A outer s H vs Q E hr h => ?_)
  · obtain ⟨r, xs, t, rfl, _⟩ := h
    rfl
  · obtain ⟨r, xs, t, rfl, hx, en, h0, hl, k⟩ := h
    have hu := hr.units0
    have hu1 := hr.u100
    refine ⟨_, (QSs.to (qss_cons (qs_set (i := 1) sc.nd rfl (Or.inl rfl) (qe_callTy call_tuple_of (by rfl) T.z_tuple (by decide +kernel) (qa_cons (qv 0) qa_nil)))
      (qss_cons (qs_set (i := 2) sc.nd rfl (Or.inl rfl) (qe_call G_law_due (hr.mono (by decide)) rfl D_law_due.m D_law_due.k D_law_due.b .nil pass0 (qa_cons (qv 0) qa_nil)))
      (qss_cons (qs_for PassesOwn.never rfl (qi_range1 rfl T.z_range (qa_cons qe_int qa_nil)) (qg_name (i := 3) sc.nd rfl (Or.inl rfl)) (qss_cons (qs_set (i := 4) sc.nd rfl (Or.inl rfl) (qe_call Gtaken (hr.mono (by decide)) rfl Dtaken.m Dtaken.k Dtaken.b .nil passE (qa_cons (qv 1) qa_nil)))
      (qss_cons (qs_if (QW.pt (qw_or (qt_not (qt_val (qe_callB call_isi (by rfl) T.z_isinstance (by decide +kernel) (qa_cons (qv 4) (qa_cons (qe_bltn (v := .ty "tuple") (u := .type "tuple") (by rfl) T.z_tuple (by decide +kernel) (by rfl)) qa_nil))))) (qw_or (qt_cmpR op_ne (qe_callB call_len_seq (by rfl) T.z_len (by decide +kernel) (qa_cons (qv 4) qa_nil)) qe_int (nomark _)) (qw_or1 (qt_cmpR (op_neT hu1) (qv 4) (qv 2) (nomark _)))))) (qss_one (qs_ret qe_bl)) qss_nil)
      (qss_cons (qs_if (qt_not (qt_val (qe_callB call_isi (by rfl) T.z_isinstance (by decide +kernel) (qa_cons (qe_ix ix_tup (qv 4) qe_int (fun _ _ => rfl)) (qa_cons (qe_bltn (v := .ty "tuple") (u := .type "tuple") (by rfl) T.z_tuple (by decide +kernel) (by rfl)) qa_nil))))) (qss_one (qs_ret qe_bl)) qss_nil)
      (qss_one (qs_if (QW.pt (qw_or (qt_val (qe_callB call_isi (by rfl) T.z_isinstance (by decide +kernel) (qa_cons (qe_ix ix_tup (qv 4) qe_int (fun _ _ => rfl)) (qa_cons (qe_bltn (v := .ty "bool") (u := .type "bool") (by rfl) T.z_bool (by decide +kernel) (by rfl)) qa_nil)))) (qw_or1 (qt_not (qt_val (qe_callB call_isi (by rfl) T.z_isinstance (by decide +kernel) (qa_cons (qe_ix ix_tup (qv 4) qe_int (fun _ _ => rfl)) (qa_cons (qe_bltn (v := .ty "int") (u := .type "int") (by rfl) T.z_int (by decide +kernel) (by rfl)) qa_nil)))))))) (qss_one (qs_ret qe_bl)) qss_nil))))))
      (qss_one (qs_ret qe_bl)))))), ?_⟩
    refine ⟨_, rfl, r, xs, rfl, .inl ⟨SqL.of hx, fun hd hhd => ?_⟩⟩
    have s1 := same_new (o := .tup xs) hhd
    refine ⟨_, rfl, r, xs, t, rfl, s1 _ _ hx, en.same s1, h0, hl, fun p q H2 p2 q2 s2 => ?_⟩
    have s3 := s1.trans s2
    have d3 := s2 _ _ (upd_same (H := H) (a := hd) (o := .tup xs))
    have ok0 : okV (g xs 0) = true := en.ok _ (by rw [g_get h0]; exact List.getElem_mem h0)
    have okz : ∀ x ∈ (cutf (ltT t) xs).1, okV x = true := fun x hx2 => en.ok x ((cutf_perm h0).mem_iff.mp (List.mem_cons_of_mem _ hx2))
    refine ⟨_, rfl, by omega, by omega, for_range (lo := 0) (n := 2) (fun i σ H3 => (∃ o1 o2, σ = [some (.ref r), some (.ref hd), some (.ref p), o1, o2]) ∧ Same H2 H3) ⟨⟨none, none, rfl⟩, fun b o h => h⟩ ?_ ?_⟩
    · rintro i σ H3 hi ⟨⟨o1, o2, rfl⟩, s4⟩
      have s5 := s3.trans s4
      refine ⟨_, rfl, hd, xs, t, rfl, s4 _ _ d3, en.same s5, hl, fun _ p' q' H4 p4 q4 s6 => ?_, fun z => by omega⟩
      have p3 := s6 _ _ (s4 _ _ p2)
      have q3 := s6 _ _ (s4 _ _ q2)
      refine ⟨_, rfl, _, _, _, true, rfl, .tup p4, rfl, _, rfl, iteF ?_⟩
      refine ⟨_, rfl, p', _, rfl, .inr (SqT.of p4), rfl, _, rfl, ite2 (fun z => by simp at z) (fun _ => ?_)⟩
      refine ⟨_, rfl, _, rfl, p', p, _, _, rfl, rfl, SqT.of p4, SqT.of p3, al_three ok0 q4 q3 okz, _, rfl, iteF ?_⟩
      refine ⟨_, rfl, p', _, _, _, rfl, rfl, SqT.of p4, rfl, _, _, _, true, rfl, .tup q4, rfl, _, rfl, iteF ?_⟩
      refine ⟨_, rfl, p', _, _, _, rfl, rfl, SqT.of p4, rfl, _, _, _, false, rfl, .int _, rfl, _, rfl, iteF ?_⟩
      refine ⟨_, rfl, p', _, _, _, rfl, rfl, SqT.of p4, rfl, _, _, _, true, rfl, .int _, rfl, _, rfl, iteF ?_⟩
      exact ⟨⟨_, _, rfl⟩, s4.trans s6⟩
    · rintro σ H3 ⟨_, s4⟩
      exact k H3 (s3.trans s4)
abbrev sRefused : Stmt := top 23
theorem scRefused : FnScope ["row", "caught", "e"] ["row"] (defScope sRefused) := ⟨rfl, rfl, rfl, (by simp only [List.nodup_cons, List.mem_cons, List.not_mem_nil, or_false, not_or, List.nodup_nil, and_true, not_false_eq_true]; (repeat' apply And.intro); all_goals decide +kernel), rfl, by decide +kernel, by decide +kernel⟩
def spRefused : Sp := fun vs H Q _ => ∃ (r : Addr), vs = [.ref r] ∧ H r = some (.tup []) ∧ ∀ H', Q (.bl true) H'
theorem ok_refused {f fp CN CH CC CA : Addr} {fd fdp : FuncData} (F : Fun K "_law_refused" "_law_refused" sRefused f fd) (T : Bl mg) (z_ValueError : mg "ValueError" = none) (mNoThing : mg "NoThing" = some (.ref CN)) (mHeapError : mg "HeapError" = some (.ref CH)) (mClash : mg "Clash" = some (.ref CC)) (mNoAsk : mg "NoAsk" = some (.ref CA))
    (xNoThing : PySem.W.excIn K CN bmV "ValueError.__new__" = true) (xHeapError : PySem.W.excIn K CH bmV "ValueError.__new__" = true) (sub1 : mroHas K CN (.ref CH) = true) (xk : XcK K CN)
    (i1 : PySem.W.kitAny K (.ref CN) [.ref CC, .ref CA] = some false) (i2 : PySem.W.kitOne K (.ref CN) (.ref CN) = some true) (i3 : PySem.W.kitOne K (.ref CN) (.type "ValueError") = some true)
    (Gtaken : FnOk P w K mg base (CXe P w) 4 fp fdp ["row"] (spTaken CN)) (Dtaken : Nm K mg "taken" fp fdp ["row"]) :
    FnOk P w K mg base CX0 5 f fd ["row"] spRefused := by
  have sc := scRefused
  refine F.ok scRefused (fun vs H Q E h => ?_) (fun cdv A outer s H vs Q E hr h => ?_)
  · obtain ⟨r, rfl, _⟩ := h
    rfl
  · obtain ⟨r, rfl, hx, k⟩ := h
    have hu := hr.units0
    refine ⟨_, (QSs.to (qss_cons (qs_set (i := 1) sc.nd rfl (Or.inl rfl) qe_non)
      (qss_cons (QS.mk (ps_try (i := 2) (psxs_one (psx_expr (pex_call Gtaken (hr.mono (by decide)) rfl Dtaken.m Dtaken.k Dtaken.b .nil (QA.to (qa_cons (qv 0) qa_nil))))) rfl rfl rfl mHeapError PySem.F.excBase_ValueError xHeapError sc.nd rfl rfl (fun e => QSs.to (qss_one (qs_set (i := 1) sc.nd rfl (Or.inl rfl) (qv 2))))))
      (qss_cons (qs_if (qt_val (qe_callB call_isiX2 (by rfl) T.z_isinstance (by decide +kernel) (qa_cons (qv 1) (qa_cons (qe_tup (qa_cons (qe_glob (v := .ref CC) rfl mClash rfl) (qa_cons (qe_glob (v := .ref CA) rfl mNoAsk rfl) qa_nil))) qa_nil)))) (qss_one (qs_ret qe_bl)) qss_nil)
      (qss_one (qs_ret (QE.mk (pe_and (QE.to (qe_callB call_isiX (by rfl) T.z_isinstance (by decide +kernel) (qa_cons (qv 1) (qa_cons (qe_glob (v := .ref CN) rfl mNoThing rfl) qa_nil)))) (pe_one (QE.to (qe_callB call_isiX (by rfl) T.z_isinstance (by decide +kernel) (qa_cons (qv 1) (qa_cons (qe_bltn (v := .ty "ValueError") (u := .type "ValueError") (by rfl) z_ValueError (by decide +kernel) (by rfl)) qa_nil))))))))))))), ?_⟩
    refine ⟨_, rfl, r, [], keyE H, rfl, hx, ⟨keyE_en H, fun x hx => by cases hx⟩, by show 0 ≤ 1000; decide, fun z => absurd z (by decide), fun _ => ⟨CN, bmV, _, rfl, xNoThing, sub1, fun e he => ?_⟩⟩
    refine ⟨_, rfl, ?_⟩
    refine ⟨_, rfl, by show 2 ≤ sizeLine; decide, fun u hu2 => ?_⟩
    have e1 := same_new (o := .tup [.ref CC, .ref CA]) hu2 e _ upd_same
    refine ⟨e, CN, u, CC, CA, false, rfl, e1, xk, upd_same, i1, _, rfl, iteF ?_⟩
    refine ⟨_, rfl, e, CN, .ref CN, .ref CN, true, rfl, e1, xk, (fun u r => by cases r; rfl), i2, _, rfl, iteT ?_⟩
    exact ⟨_, rfl, e, CN, .ty "ValueError", .type "ValueError", true, rfl, e1, xk, (fun u r => by cases r; rfl), i3, k _⟩
end
end Kx
end
section
set_option linter.all false
set_option maxRecDepth 100000
set_option maxHeartbeats 4000000
namespace Kx
open PySem L2
section
variable {P : Program} {w : World} {K : PySem.W.Frag} {mg : Str → Option Value} {base : Heap}
open Hm
abbrev sLaw : Stmt := top 24
theorem scLaw : FnScope ["script", "deck", "turn", "row", "k"] ["script"] (defScope sLaw) := ⟨rfl, rfl, rfl, (by simp only [List.nodup_cons, List.mem_cons, List.not_mem_nil, or_false, not_or, List.nodup_nil, and_true, not_false_eq_true]; (repeat' apply And.intro); all_goals decide +kernel), rfl, by decide +kernel, by decide +kernel⟩
def spLaw (K : PySem.W.Frag) : Sp := fun vs H Q _ => ∃ (a : Addr) (ns : List Int), vs = [.ref a] ∧ SqL K H a (ns.map V.int) ∧ ns.length ≤ 63 ∧ ∀ H', Q (.bl true) H'
theorem _root_.L2.Deck.same {H H' : Hp} {d c : Addr} {cs : List Int} {a sd : Int} (D : Deck H d c cs a sd) (s : Same H H') : Deck H' d c cs a sd := ⟨s _ _ D.hd, s _ _ D.hc, D.l1, D.l2⟩
theorem ok_law {f a_law_deck a_law_size a_law_heap a_law_right a_law_due a_law_refused : Addr} {fd f_law_deck f_law_size f_law_heap f_law_right f_law_due f_law_refused : FuncData} (F : Fun K "law" "law" sLaw f fd) (T : Bl mg)
    (G_law_deck : FnOk P w K mg base CX0 1 a_law_deck f_law_deck ["script"] (spDeck K)) (D_law_deck : Nm K mg "_law_deck" a_law_deck f_law_deck ["script"])
    (G_law_size : FnOk P w K mg base CX0 2 a_law_size f_law_size ["deck"] spSize) (D_law_size : Nm K mg "_law_size" a_law_size f_law_size ["deck"])
    (G_law_heap : FnOk P w K mg base CX0 4 a_law_heap f_law_heap ["deck", "many"] spHeap) (D_law_heap : Nm K mg "_law_heap" a_law_heap f_law_heap ["deck", "many"])
    (G_law_right : FnOk P w K mg base CX0 5 a_law_right f_law_right ["row"] spRight) (D_law_right : Nm K mg "_law_right" a_law_right f_law_right ["row"])
    (G_law_due : FnOk P w K mg base CX0 2 a_law_due f_law_due ["row"] spDue) (D_law_due : Nm K mg "_law_due" a_law_due f_law_due ["row"])
    (G_law_refused : FnOk P w K mg base CX0 5 a_law_refused f_law_refused ["row"] spRefused) (D_law_refused : Nm K mg "_law_refused" a_law_refused f_law_refused ["row"]) :
    FnOk P w K mg base CX0 6 f fd ["script"] (spLaw K) := by
  have sc := scLaw
  refine F.ok scLaw (fun vs H Q E h => ?_) (fun cdv A outer s H vs Q E hr h => ?_)
  · obtain ⟨a, ns, rfl, _⟩ := h
    rfl
  · obtain ⟨a, ns, rfl, hS, hn, k⟩ := h
    have hu := hr.units0
    refine ⟨_, (QSs.to (qss_cons (qs_set (i := 1) sc.nd rfl (Or.inl rfl) (qe_call G_law_deck (hr.mono (by decide)) rfl D_law_deck.m D_law_deck.k D_law_deck.b .nil pass0 (qa_cons (qv 0) qa_nil)))
      (qss_cons (qs_for PassesOwn.never rfl (qi_range1 rfl T.z_range (qa_cons qe_int qa_nil)) (qg_name (i := 2) sc.nd rfl (Or.inl rfl)) (qss_cons (qs_set (i := 3) sc.nd rfl (Or.inl rfl) (qe_call G_law_heap (hr.mono (by decide)) rfl D_law_heap.m D_law_heap.k D_law_heap.b .nil pass0 (qa_cons (qv 1) (qa_cons (qe_call G_law_size (hr.mono (by decide)) rfl D_law_size.m D_law_size.k D_law_size.b .nil pass0 (qa_cons (qv 1) qa_nil)) qa_nil))))
      (qss_one (qs_for PassesOwn.never rfl (qi_range1 rfl T.z_range (qa_cons qe_int qa_nil)) (qg_name (i := 4) sc.nd rfl (Or.inl rfl)) (qss_one (qs_if (qt_cmpR (op_neNil hu) (qv 3) (qe_lst qa_nil) (nomark _)) (qss_cons (qs_if (qt_not (qt_val (qe_call G_law_right (hr.mono (by decide)) rfl D_law_right.m D_law_right.k D_law_right.b .nil pass0 (qa_cons (qv 3) qa_nil)))) (qss_one (qs_ret qe_bl)) qss_nil)
      (qss_one (qs_set (i := 3) sc.nd rfl (Or.inl rfl) (qe_callTy call_list_of (by rfl) T.z_list (by decide +kernel) (qa_cons (qe_ix ix_tup (qe_call G_law_due (hr.mono (by decide)) rfl D_law_due.m D_law_due.k D_law_due.b .nil pass0 (qa_cons (qv 3) qa_nil)) qe_int (fun _ _ => rfl)) qa_nil))))) qss_nil))))))
      (qss_one (qs_ret (qe_call G_law_refused (hr.mono (by decide)) rfl D_law_refused.m D_law_refused.k D_law_refused.b .nil pass0 (qa_cons (qe_tup qa_nil) qa_nil))))))), ?_⟩
    refine ⟨_, rfl, a, ns, rfl, hS, hn, fun d c cs at' sd H1 D1 s1 => ?_⟩
    refine ⟨_, rfl, by omega, by omega, for_range (lo := 0) (n := 6) (fun i σ H2 => (∃ o1 o2 o3, σ = [some (.ref a), some (.ref d), o1, o2, o3]) ∧ ∃ cs2 a2, Deck H2 d c cs2 a2 sd) ⟨⟨none, none, none, rfl⟩, cs, at', D1⟩ ?_ ?_⟩
    · rintro i σ H2 hi ⟨⟨o1, o2, o3, rfl⟩, cs2, a2, D2⟩
      refine ⟨_, rfl, _, rfl, d, c, cs2, a2, sd, rfl, D2, fun n3 cs3 a3 H3 hn3 D3 K3 => ?_⟩
      refine ⟨d, c, cs3, a3, sd, n3, rfl, D3, hn3, fun r xs t cs4 a4 H4 hx en hh hl D4 K4 _ => ?_⟩
      refine ⟨_, rfl, by omega, by omega, for_range (lo := 0) (n := 3) (fun i' σ H5 => ∃ (r : Addr) (xs : List V) (t : V → List V) (o1 o3 : Option V), σ = [some (.ref a), some (.ref d), o1, some (.ref r), o3] ∧ H5 r = some (.lst xs) ∧ EnR t H5 xs ∧ xs.length ≤ 300 ∧ Deck H5 d c cs4 a4 sd)
        ⟨r, xs, t, _, _, rfl, hx, en, by omega, D4⟩ ?_ ?_⟩
      · rintro i' σ H5 hi' ⟨r, xs, t, p1, p3, rfl, h5, e5, l5, D5⟩
        refine ⟨_, rfl, by show 0 ≤ sizeLine; decide, fun e he => ⟨r, e, _, rfl, rfl, SqL.of (same_new he _ _ h5), SqL.of upd_same, _, rfl, ?_⟩⟩
        have s6 := same_new (H := H5) (o := .lst []) he
        have h6 := s6 _ _ h5
        have e6 := e5.same s6
        have D6 := D5.same s6
        generalize upd H5 e (.lst []) = H6 at s6 h6 e6 D6 ⊢
        refine ite2 (fun c1 => ?_) (fun c1 => ⟨r, xs, t, _, _, rfl, h6, e6, l5, D6⟩)
        have h0 : 0 < xs.length := by
          cases xs with
          | nil => exact absurd c1 (by decide)
          | cons a l => exact Nat.succ_pos _
        refine ⟨_, rfl, r, xs, t, rfl, h6, e6, h0, by omega, fun H7 s7 => ⟨_, rfl, iteF ?_⟩⟩
        refine ⟨_, rfl, r, xs, t, rfl, s7 _ _ h6, e6.same s7, h0, by omega, fun p q H8 p8 q8 s8 => ?_⟩
        refine ⟨p, _, _, _, rfl, rfl, SqT.of p8, rfl, q, _, rfl, .inr (SqT.of q8), fun l hl9 => ?_⟩
        have s9 := (s7.trans s8).trans (same_new (o := .lst (cutf (ltT t) xs).1) hl9)
        refine ⟨l, _, t, _, _, rfl, upd_same, (e6.same s9).sub fun y hy => (cutf_perm h0).mem_iff.mp (List.mem_cons_of_mem _ hy), by rw [cutf_len]; omega, D6.same s9⟩
      · rintro σ H5 ⟨r, xs, t, p1, p3, rfl, h5, e5, l5, D5⟩
        exact ⟨⟨_, _, _, rfl⟩, _, _, D5⟩
    · rintro σ H2 ⟨⟨o1, o2, o3, rfl⟩, _⟩
      exact ⟨by show 0 ≤ sizeLine; decide, fun u hu2 => ⟨u, rfl, upd_same, fun H' => k H'⟩⟩
end
end Kx
end
section
set_option linter.all false
set_option maxRecDepth 100000
set_option maxHeartbeats 4000000
namespace Kx
open PySem L2
section
variable {P : Program} {w : World} {K : PySem.W.Frag} {mg : Str → Option Value} {base : Heap}
theorem all_mk {l : PySem.W.OpenLaw} {w : World} {K : PySem.W.Frag} {h : Heap} {mg : Str → Option Value} {fa f0 f1 f2 f3 f4 f5 f6 f7 f8 f9 f10 f11 f12 f13 f14 f15 f16 f17 CN CH CC CA : Addr} (X : K.In h) (G : h.Ns mainGlobals mg) (hfa : mg "law" = some (.ref fa))
    {cdC cdA : ClassData} {od0 an0 od1 an1 od2 an2 od3 an3 od4 an4 od5 an5 od6 an6 od7 an7 od8 an8 od9 an9 od10 an10 od11 an11 od12 an12 od13 an13 od14 an14 od15 an15 od16 an16 od17 an17 : Option Addr} {sl0 sl1 sl2 sl3 sl4 sl5 sl6 sl7 sl8 sl9 sl10 sl11 sl12 sl13 sl14 sl15 sl16 sl17 : Array (Option Value)} {oc0 kV0 dc0 pm0 cd0 ct0 oc1 kV1 dc1 pm1 cd1 ct1 oc2 kV2 dc2 pm2 cd2 ct2 oc3 kV3 dc3 pm3 cd3 ct3 oc4 kV4 dc4 pm4 cd4 ct4 oc5 kV5 dc5 pm5 cd5 ct5 oc6 kV6 dc6 pm6 cd6 ct6 oc7 kV7 dc7 pm7 cd7 ct7 oc8 kV8 dc8 pm8 cd8 ct8 oc9 kV9 dc9 pm9 cd9 ct9 oc10 kV10 dc10 pm10 cd10 ct10 oc11 kV11 dc11 pm11 cd11 ct11 oc12 kV12 dc12 pm12 cd12 ct12 oc13 kV13 dc13 pm13 cd13 ct13 oc14 kV14 dc14 pm14 cd14 ct14 oc15 kV15 dc15 pm15 cd15 ct15 oc16 kV16 dc16 pm16 cd16 ct16 oc17 kV17 dc17 pm17 cd17 ct17 : Value}
    (a0 : PySem.W.nsIn K mainGlobals "_law_deck" = some (some (.ref f0))) (l0 : K.lookup f0 = some ⟨oc0, od0, .func (PySem.W.fnOf "_law_deck" "_law_deck" (defArgs sDeck) (defBody sDeck) (defScope sDeck) .none kV0 dc0 pm0 an0 cd0 ct0), sl0⟩) (c0 : PySem.W.codeIn K cd0 "_law_deck" = true) (k0 : PySem.W.keepIn K (.ref f0) = true)
    (a1 : PySem.W.nsIn K mainGlobals "_law_take" = some (some (.ref f1))) (l1 : K.lookup f1 = some ⟨oc1, od1, .func (PySem.W.fnOf "_law_take" "_law_take" (defArgs sTake) (defBody sTake) (defScope sTake) .none kV1 dc1 pm1 an1 cd1 ct1), sl1⟩) (c1 : PySem.W.codeIn K cd1 "_law_take" = true) (k1 : PySem.W.keepIn K (.ref f1) = true)
    (a2 : PySem.W.nsIn K mainGlobals "_law_names" = some (some (.ref f2))) (l2 : K.lookup f2 = some ⟨oc2, od2, .func (PySem.W.fnOf "_law_names" "_law_names" (defArgs sNames) (defBody sNames) (defScope sNames) .none kV2 dc2 pm2 an2 cd2 ct2), sl2⟩) (c2 : PySem.W.codeIn K cd2 "_law_names" = true) (k2 : PySem.W.keepIn K (.ref f2) = true)
    (a3 : PySem.W.nsIn K mainGlobals "_law_worth" = some (some (.ref f3))) (l3 : K.lookup f3 = some ⟨oc3, od3, .func (PySem.W.fnOf "_law_worth" "_law_worth" (defArgs sWorth) (defBody sWorth) (defScope sWorth) .none kV3 dc3 pm3 an3 cd3 ct3), sl3⟩) (c3 : PySem.W.codeIn K cd3 "_law_worth" = true) (k3 : PySem.W.keepIn K (.ref f3) = true)
    (a4 : PySem.W.nsIn K mainGlobals "_law_down" = some (some (.ref f4))) (l4 : K.lookup f4 = some ⟨oc4, od4, .func (PySem.W.fnOf "_law_down" "_law_down" (defArgs sDown) (defBody sDown) (defScope sDown) .none kV4 dc4 pm4 an4 cd4 ct4), sl4⟩) (c4 : PySem.W.codeIn K cd4 "_law_down" = true) (k4 : PySem.W.keepIn K (.ref f4) = true)
    (a5 : PySem.W.nsIn K mainGlobals "_law_heaped" = some (some (.ref f5))) (l5 : K.lookup f5 = some ⟨oc5, od5, .func (PySem.W.fnOf "_law_heaped" "_law_heaped" (defArgs sHeaped) (defBody sHeaped) (defScope sHeaped) .none kV5 dc5 pm5 an5 cd5 ct5), sl5⟩) (c5 : PySem.W.codeIn K cd5 "_law_heaped" = true) (k5 : PySem.W.keepIn K (.ref f5) = true)
    (a6 : PySem.W.nsIn K mainGlobals "_law_entries" = some (some (.ref f6))) (l6 : K.lookup f6 = some ⟨oc6, od6, .func (PySem.W.fnOf "_law_entries" "_law_entries" (defArgs sEntries) (defBody sEntries) (defScope sEntries) .none kV6 dc6 pm6 an6 cd6 ct6), sl6⟩) (c6 : PySem.W.codeIn K cd6 "_law_entries" = true) (k6 : PySem.W.keepIn K (.ref f6) = true)
    (a7 : PySem.W.nsIn K mainGlobals "_law_size" = some (some (.ref f7))) (l7 : K.lookup f7 = some ⟨oc7, od7, .func (PySem.W.fnOf "_law_size" "_law_size" (defArgs sSize) (defBody sSize) (defScope sSize) .none kV7 dc7 pm7 an7 cd7 ct7), sl7⟩) (c7 : PySem.W.codeIn K cd7 "_law_size" = true) (k7 : PySem.W.keepIn K (.ref f7) = true)
    (a8 : PySem.W.nsIn K mainGlobals "_law_heap" = some (some (.ref f8))) (l8 : K.lookup f8 = some ⟨oc8, od8, .func (PySem.W.fnOf "_law_heap" "_law_heap" (defArgs sHeap) (defBody sHeap) (defScope sHeap) .none kV8 dc8 pm8 an8 cd8 ct8), sl8⟩) (c8 : PySem.W.codeIn K cd8 "_law_heap" = true) (k8 : PySem.W.keepIn K (.ref f8) = true)
    (a9 : PySem.W.nsIn K mainGlobals "exchange" = some (some (.ref f9))) (l9 : K.lookup f9 = some ⟨oc9, od9, .func (PySem.W.fnOf "exchange" "exchange" (defArgs sExch) (defBody sExch) (defScope sExch) .none kV9 dc9 pm9 an9 cd9 ct9), sl9⟩) (c9 : PySem.W.codeIn K cd9 "exchange" = true) (k9 : PySem.W.keepIn K (.ref f9) = true)
    (a10 : PySem.W.nsIn K mainGlobals "let_down" = some (some (.ref f10))) (l10 : K.lookup f10 = some ⟨oc10, od10, .func (PySem.W.fnOf "let_down" "let_down" (defArgs sLetDown) (defBody sLetDown) (defScope sLetDown) .none kV10 dc10 pm10 an10 cd10 ct10), sl10⟩) (c10 : PySem.W.codeIn K cd10 "let_down" = true) (k10 : PySem.W.keepIn K (.ref f10) = true)
    (a11 : PySem.W.nsIn K mainGlobals "cut_first" = some (some (.ref f11))) (l11 : K.lookup f11 = some ⟨oc11, od11, .func (PySem.W.fnOf "cut_first" "cut_first" (defArgs sCut) (defBody sCut) (defScope sCut) .none kV11 dc11 pm11 an11 cd11 ct11), sl11⟩) (c11 : PySem.W.codeIn K cd11 "cut_first" = true) (k11 : PySem.W.keepIn K (.ref f11) = true)
    (a12 : PySem.W.nsIn K mainGlobals "taken" = some (some (.ref f12))) (l12 : K.lookup f12 = some ⟨oc12, od12, .func (PySem.W.fnOf "taken" "taken" (defArgs sTaken) (defBody sTaken) (defScope sTaken) .none kV12 dc12 pm12 an12 cd12 ct12), sl12⟩) (c12 : PySem.W.codeIn K cd12 "taken" = true) (k12 : PySem.W.keepIn K (.ref f12) = true)
    (a13 : PySem.W.nsIn K mainGlobals "_law_way" = some (some (.ref f13))) (l13 : K.lookup f13 = some ⟨oc13, od13, .func (PySem.W.fnOf "_law_way" "_law_way" (defArgs sWay) (defBody sWay) (defScope sWay) .none kV13 dc13 pm13 an13 cd13 ct13), sl13⟩) (c13 : PySem.W.codeIn K cd13 "_law_way" = true) (k13 : PySem.W.keepIn K (.ref f13) = true)
    (a14 : PySem.W.nsIn K mainGlobals "_law_due" = some (some (.ref f14))) (l14 : K.lookup f14 = some ⟨oc14, od14, .func (PySem.W.fnOf "_law_due" "_law_due" (defArgs sDue) (defBody sDue) (defScope sDue) .none kV14 dc14 pm14 an14 cd14 ct14), sl14⟩) (c14 : PySem.W.codeIn K cd14 "_law_due" = true) (k14 : PySem.W.keepIn K (.ref f14) = true)
    (a15 : PySem.W.nsIn K mainGlobals "_law_right" = some (some (.ref f15))) (l15 : K.lookup f15 = some ⟨oc15, od15, .func (PySem.W.fnOf "_law_right" "_law_right" (defArgs sRight) (defBody sRight) (defScope sRight) .none kV15 dc15 pm15 an15 cd15 ct15), sl15⟩) (c15 : PySem.W.codeIn K cd15 "_law_right" = true) (k15 : PySem.W.keepIn K (.ref f15) = true)
    (a16 : PySem.W.nsIn K mainGlobals "_law_refused" = some (some (.ref f16))) (l16 : K.lookup f16 = some ⟨oc16, od16, .func (PySem.W.fnOf "_law_refused" "_law_refused" (defArgs sRefused) (defBody sRefused) (defScope sRefused) .none kV16 dc16 pm16 an16 cd16 ct16), sl16⟩) (c16 : PySem.W.codeIn K cd16 "_law_refused" = true) (k16 : PySem.W.keepIn K (.ref f16) = true)
    (a17 : PySem.W.nsIn K mainGlobals "law" = some (some (.ref f17))) (l17 : K.lookup f17 = some ⟨oc17, od17, .func (PySem.W.fnOf "law" "law" (defArgs sLaw) (defBody sLaw) (defScope sLaw) .none kV17 dc17 pm17 an17 cd17 ct17), sl17⟩) (c17 : PySem.W.codeIn K cd17 "law" = true) (k17 : PySem.W.keepIn K (.ref f17) = true)
    (z_len : PySem.W.nsIn K mainGlobals "len" = some none)
    (z_sum : PySem.W.nsIn K mainGlobals "sum" = some none)
    (z_abs : PySem.W.nsIn K mainGlobals "abs" = some none)
    (z_range : PySem.W.nsIn K mainGlobals "range" = some none)
    (z_list : PySem.W.nsIn K mainGlobals "list" = some none)
    (z_tuple : PySem.W.nsIn K mainGlobals "tuple" = some none)
    (z_int : PySem.W.nsIn K mainGlobals "int" = some none)
    (z_bool : PySem.W.nsIn K mainGlobals "bool" = some none)
    (z_sorted : PySem.W.nsIn K mainGlobals "sorted" = some none)
    (z_isinstance : PySem.W.nsIn K mainGlobals "isinstance" = some none)
    (z_max : PySem.W.nsIn K mainGlobals "max" = some none)
    (z_min : PySem.W.nsIn K mainGlobals "min" = some none)
    (z_ValueError : PySem.W.nsIn K mainGlobals "ValueError" = some none)
    (aCN : PySem.W.nsIn K mainGlobals "NoThing" = some (some (.ref CN)))
    (aCH : PySem.W.nsIn K mainGlobals "HeapError" = some (some (.ref CH)))
    (aCC : PySem.W.nsIn K mainGlobals "Clash" = some (some (.ref CC)))
    (aCA : PySem.W.nsIn K mainGlobals "NoAsk" = some (some (.ref CA)))
    (xN : PySem.W.excIn K CN bmV "ValueError.__new__" = true)
    (xH : PySem.W.excIn K CH bmV "ValueError.__new__" = true)
    (sub1 : PySem.W.mroIn K CN (.ref CH) = some true)
    (x_k1 : PySem.W.findIn K (.ref CN) "__getattribute__" = some (some (.builtin "BaseException.__getattribute__")))
    (x_k6 : PySem.W.findIn K (.ref CN) "__getattr__" = some none)
    (x_k2 : PySem.W.findIn K (.ref CN) "__class__" = some (some (.builtin "object.__class__")))
    (x_k3 : PySem.W.specialIn K (.builtin "object.__class__") "__get__" = some (some (.builtin "getset_descriptor.__get__")))
    (x_k4 : PySem.W.takesIn K (.builtin "object.__class__") = some true)
    (x_k5 : PySem.W.mroIn K CN (.type "object") = some true)
    (x_k7 : PySem.W.mroIn K CN (.type "BaseException") = some true)
    (v1 : PySem.W.subIn K (.ref CN) (.type "ValueError") = some true)
    (cC : PySem.W.clsIn K CC = some cdC)
    (tC : PySem.W.typeIn K (.ref CC) = some (.type "type"))
    (sC : PySem.W.subIn K (.ref CN) (.ref CC) = some false)
    (nC : (CN == CC) = false)
    (cA : PySem.W.clsIn K CA = some cdA)
    (tA : PySem.W.typeIn K (.ref CA) = some (.type "type"))
    (sA : PySem.W.subIn K (.ref CN) (.ref CA) = some false)
    (nA : (CN == CA) = false) :
    ∃ fd : FuncData, (∀ (s : Shared) (v : Value), BindsTo s fd ⟨[v], []⟩ [("script", v)]) ∧ ∀ base : Heap, K.In base → base.Ns mainGlobals mg → FnOk l.prog w K mg base CX0 6 fa fd ["script"] (spLaw K) := by
  have e := hfa.symm.trans (PySem.W.mg_of X G a17)
  cases e
  have T : Bl mg := ⟨PySem.W.mg_none_of X G z_len, PySem.W.mg_none_of X G z_sum, PySem.W.mg_none_of X G z_abs, PySem.W.mg_none_of X G z_range, PySem.W.mg_none_of X G z_list, PySem.W.mg_none_of X G z_tuple, PySem.W.mg_none_of X G z_int, PySem.W.mg_none_of X G z_bool, PySem.W.mg_none_of X G z_sorted, PySem.W.mg_none_of X G z_isinstance⟩
  have F0 := fun_mk (st := sDeck) l0 c0 k0
  have D0 : Nm K mg "_law_deck" f0 _ ["script"] := ⟨PySem.W.mg_of X G a0, k0, F0.binds (ps := ["script"]) fun _ _ _ _ _ _ us hl => match us, hl with | [_], _ => rfl⟩
  have F1 := fun_mk (st := sTake) l1 c1 k1
  have D1 : Nm K mg "_law_take" f1 _ ["deck", "many"] := ⟨PySem.W.mg_of X G a1, k1, F1.binds (ps := ["deck", "many"]) fun _ _ _ _ _ _ us hl => match us, hl with | [_, _], _ => rfl⟩
  have F2 := fun_mk (st := sNames) l2 c2 k2
  have D2 : Nm K mg "_law_names" f2 _ ["deck", "many"] := ⟨PySem.W.mg_of X G a2, k2, F2.binds (ps := ["deck", "many"]) fun _ _ _ _ _ _ us hl => match us, hl with | [_, _], _ => rfl⟩
  have F3 := fun_mk (st := sWorth) l3 c3 k3
  have D3 : Nm K mg "_law_worth" f3 _ ["deck"] := ⟨PySem.W.mg_of X G a3, k3, F3.binds (ps := ["deck"]) fun _ _ _ _ _ _ us hl => match us, hl with | [_], _ => rfl⟩
  have F4 := fun_mk (st := sDown) l4 c4 k4
  have D4 : Nm K mg "_law_down" f4 _ ["row", "at"] := ⟨PySem.W.mg_of X G a4, k4, F4.binds (ps := ["row", "at"]) fun _ _ _ _ _ _ us hl => match us, hl with | [_, _], _ => rfl⟩
  have F5 := fun_mk (st := sHeaped) l5 c5 k5
  have D5 : Nm K mg "_law_heaped" f5 _ ["row"] := ⟨PySem.W.mg_of X G a5, k5, F5.binds (ps := ["row"]) fun _ _ _ _ _ _ us hl => match us, hl with | [_], _ => rfl⟩
  have F6 := fun_mk (st := sEntries) l6 c6 k6
  have D6 : Nm K mg "_law_entries" f6 _ ["deck", "many"] := ⟨PySem.W.mg_of X G a6, k6, F6.binds (ps := ["deck", "many"]) fun _ _ _ _ _ _ us hl => match us, hl with | [_, _], _ => rfl⟩
  have F7 := fun_mk (st := sSize) l7 c7 k7
  have D7 : Nm K mg "_law_size" f7 _ ["deck"] := ⟨PySem.W.mg_of X G a7, k7, F7.binds (ps := ["deck"]) fun _ _ _ _ _ _ us hl => match us, hl with | [_], _ => rfl⟩
  have F8 := fun_mk (st := sHeap) l8 c8 k8
  have D8 : Nm K mg "_law_heap" f8 _ ["deck", "many"] := ⟨PySem.W.mg_of X G a8, k8, F8.binds (ps := ["deck", "many"]) fun _ _ _ _ _ _ us hl => match us, hl with | [_, _], _ => rfl⟩
  have F9 := fun_mk (st := sExch) l9 c9 k9
  have D9 : Nm K mg "exchange" f9 _ ["heap", "place", "other"] := ⟨PySem.W.mg_of X G a9, k9, F9.binds (ps := ["heap", "place", "other"]) fun _ _ _ _ _ _ us hl => match us, hl with | [_, _, _], _ => rfl⟩
  have F10 := fun_mk (st := sLetDown) l10 c10 k10
  have D10 : Nm K mg "let_down" f10 _ ["heap", "start"] := ⟨PySem.W.mg_of X G a10, k10, F10.binds (ps := ["heap", "start"]) fun _ _ _ _ _ _ us hl => match us, hl with | [_, _], _ => rfl⟩
  have F11 := fun_mk (st := sCut) l11 c11 k11
  have D11 : Nm K mg "cut_first" f11 _ ["heap"] := ⟨PySem.W.mg_of X G a11, k11, F11.binds (ps := ["heap"]) fun _ _ _ _ _ _ us hl => match us, hl with | [_], _ => rfl⟩
  have F12 := fun_mk (st := sTaken) l12 c12 k12
  have D12 : Nm K mg "taken" f12 _ ["row"] := ⟨PySem.W.mg_of X G a12, k12, F12.binds (ps := ["row"]) fun _ _ _ _ _ _ us hl => match us, hl with | [_], _ => rfl⟩
  have F13 := fun_mk (st := sWay) l13 c13 k13
  have D13 : Nm K mg "_law_way" f13 _ ["row"] := ⟨PySem.W.mg_of X G a13, k13, F13.binds (ps := ["row"]) fun _ _ _ _ _ _ us hl => match us, hl with | [_], _ => rfl⟩
  have F14 := fun_mk (st := sDue) l14 c14 k14
  have D14 : Nm K mg "_law_due" f14 _ ["row"] := ⟨PySem.W.mg_of X G a14, k14, F14.binds (ps := ["row"]) fun _ _ _ _ _ _ us hl => match us, hl with | [_], _ => rfl⟩
  have F15 := fun_mk (st := sRight) l15 c15 k15
  have D15 : Nm K mg "_law_right" f15 _ ["row"] := ⟨PySem.W.mg_of X G a15, k15, F15.binds (ps := ["row"]) fun _ _ _ _ _ _ us hl => match us, hl with | [_], _ => rfl⟩
  have F16 := fun_mk (st := sRefused) l16 c16 k16
  have D16 : Nm K mg "_law_refused" f16 _ ["row"] := ⟨PySem.W.mg_of X G a16, k16, F16.binds (ps := ["row"]) fun _ _ _ _ _ _ us hl => match us, hl with | [_], _ => rfl⟩
  have F17 := fun_mk (st := sLaw) l17 c17 k17
  refine ⟨PySem.W.fnOf "law" "law" (defArgs sLaw) (defBody sLaw) (defScope sLaw) .none kV17 dc17 pm17 an17 cd17 ct17, fun s v => .of_eq rfl, fun base _ _ => ?_⟩
  have G0 := ok_deck (P := l.prog) (w := w) (base := base) F0 T 
  have G1 := ok_take (P := l.prog) (w := w) (base := base) F1 T 
  have G2 := ok_names (P := l.prog) (w := w) (base := base) F2 T G1 D1
  have G3 := ok_worth (P := l.prog) (w := w) (base := base) F3 T G1 D1
  have G4 := ok_down (P := l.prog) (w := w) (base := base) F4 T 
  have G5 := ok_heaped (P := l.prog) (w := w) (base := base) F5 T G4 D4
  have G6 := ok_entries (P := l.prog) (w := w) (base := base) F6 T G1 D1 G2 D2 G3 D3
  have G7 := ok_size (P := l.prog) (w := w) (base := base) F7 T G1 D1
  have G8 := ok_heap (P := l.prog) (w := w) (base := base) F8 T G1 D1 G6 D6 G5 D5
  have G9 := ok_exch (P := l.prog) (w := w) (base := base) F9 T 
  have G10 := ok_letdown (P := l.prog) (w := w) (base := base) F10 T G9 D9
  have G11 := ok_cut (P := l.prog) (w := w) (base := base) F11 T G10 D10
  have G12 := ok_taken (P := l.prog) (w := w) (base := base) F12 T (PySem.W.mg_of X G aCN) xN G11 D11
  have G13 := ok_way (P := l.prog) (w := w) (base := base) F13 T 
  have G14 := ok_due (P := l.prog) (w := w) (base := base) F14 T (PySem.W.mg_none_of X G z_max) (PySem.W.mg_none_of X G z_min) G13 D13
  have G15 := ok_right (P := l.prog) (w := w) (base := base) F15 T G14 D14 G12 D12
  have G16 := ok_refused (P := l.prog) (w := w) (base := base) F16 T (PySem.W.mg_none_of X G z_ValueError) (PySem.W.mg_of X G aCN) (PySem.W.mg_of X G aCH) (PySem.W.mg_of X G aCC) (PySem.W.mg_of X G aCA) xN xH (mro_of sub1) ⟨x_k1, x_k6, x_k2, x_k3, x_k4, x_k5, x_k7⟩ (kit_any2 (kit_ref nC cC tC sC) (kit_ref nA cA tA sA)) kit_self (kit_ty (by decide +kernel) v1) G12 D12
  exact ok_law F17 T G0 D0 G7 D7 G8 D8 G15 D15 G14 D14 G16 D16
theorem walk {l : PySem.W.OpenLaw} {q : Program} {loose : List Str} {XP : (Str → Option Value) → Heap → Prop} {YP : World → Heap → Prop} {d : DefRec} {K : Params → PySem.W.Frag} (hn : l.most = some 63) (hdf : d.params.defaults = [])
    (hY : ∀ (w : World) (h : Heap), YP w h → (K w.params).In h)
    (F : ∀ (w : World) (mg : Str → Option Value) (fa : Addr) (h : Heap), (K w.params).In h → h.Ns mainGlobals mg → mg d.name = some (.ref fa) →
      ∃ fd : FuncData, (∀ (s : Shared) (u : Value), BindsTo s fd ⟨[u], []⟩ [("script", u)]) ∧ ∀ base : Heap, (K w.params).In base → base.Ns mainGlobals mg → FnOk l.prog w (K w.params) mg base CX0 6 fa fd ["script"] (spLaw (K w.params))) :
    PySem.W.WalkO q loose XP YP l.row.toRowW d [] (fun f vs => PySem.call f vs) :=
  L2.walk_of (n := 63) (k := 6) (x := "script") (CX := fun _ => CX0) (sp := fun w => spLaw (K w.params)) hn (by decide) hdf ⟨rfl, by decide, by decide⟩ hY F (fun _ _ a ns hl _ hS => ⟨a, ns, rfl, hS, hl, fun _ => rfl⟩) fun _ _ _ _ _ z => z
end
end Kx
end
section
set_option linter.all false
open PySem PySem.W PyProof.Rows
set_option maxRecDepth 100000 in
set_option maxHeartbeats 0 in
theorem PySem.Challenge.cw_lategone_k03_taken_holds : PySem.Challenge.rw_lategone_k03_taken.Holds := by
  w_on; o_law; k_head; (case hw => w_witness2)
  k_fill
  refine Kx.walk (l := PySem.Challenge.rw_lategone_k03_taken) rfl rfl (fun w h Y => PySem.W.kIn_of Y) ?F
  case F =>
    intro w mg fa h KX G hmg
    refine' Kx.all_mk KX G hmg ?a0 ?l0 ?c0 ?k0 ?a1 ?l1 ?c1 ?k1 ?a2 ?l2 ?c2 ?k2 ?a3 ?l3 ?c3 ?k3 ?a4 ?l4 ?c4 ?k4 ?a5 ?l5 ?c5 ?k5 ?a6 ?l6 ?c6 ?k6 ?a7 ?l7 ?c7 ?k7 ?a8 ?l8 ?c8 ?k8 ?a9 ?l9 ?c9 ?k9 ?a10 ?l10 ?c10 ?k10 ?a11 ?l11 ?c11 ?k11 ?a12 ?l12 ?c12 ?k12 ?a13 ?l13 ?c13 ?k13 ?a14 ?l14 ?c14 ?k14 ?a15 ?l15 ?c15 ?k15 ?a16 ?l16 ?c16 ?k16 ?a17 ?l17 ?c17 ?k17 ?z_len ?z_sum ?z_abs ?z_range ?z_list ?z_tuple ?z_int ?z_bool ?z_sorted ?z_isinstance ?z_max ?z_min ?z_ValueError ?aCN ?aCH ?aCC ?aCA ?xN ?xH ?sub1 ?x_k1 ?x_k6 ?x_k2 ?x_k3 ?x_k4 ?x_k5 ?x_k7 ?v1 ?cC ?tC ?sC ?nC ?cA ?tA ?sA ?nA
    (case a0 => k_is)
    (case l0 => k_is)
    (case c0 => k_is)
    (case k0 => k_is)
    (case a1 => k_is)
    (case l1 => k_is)
    (case c1 => k_is)
    (case k1 => k_is)
    (case a2 => k_is)
    (case l2 => k_is)
    (case c2 => k_is)
    (case k2 => k_is)
    (case a3 => k_is)
    (case l3 => k_is)
    (case c3 => k_is)
    (case k3 => k_is)
    (case a4 => k_is)
    (case l4 => k_is)
    (case c4 => k_is)
    (case k4 => k_is)
    (case a5 => k_is)
    (case l5 => k_is)
    (case c5 => k_is)
    (case k5 => k_is)
    (case a6 => k_is)
    (case l6 => k_is)
    (case c6 => k_is)
    (case k6 => k_is)
    (case a7 => k_is)
    (case l7 => k_is)
    (case c7 => k_is)
    (case k7 => k_is)
    (case a8 => k_is)
    (case l8 => k_is)
    (case c8 => k_is)
    (case k8 => k_is)
    (case a9 => k_is)
    (case l9 => k_is)
    (case c9 => k_is)
    (case k9 => k_is)
    (case a10 => k_is)
    (case l10 => k_is)
    (case c10 => k_is)
    (case k10 => k_is)
    (case a11 => k_is)
    (case l11 => k_is)
    (case c11 => k_is)
    (case k11 => k_is)
    (case a12 => k_is)
    (case l12 => k_is)
    (case c12 => k_is)
    (case k12 => k_is)
    (case a13 => k_is)
    (case l13 => k_is)
    (case c13 => k_is)
    (case k13 => k_is)
    (case a14 => k_is)
    (case l14 => k_is)
    (case c14 => k_is)
    (case k14 => k_is)
    (case a15 => k_is)
    (case l15 => k_is)
    (case c15 => k_is)
    (case k15 => k_is)
    (case a16 => k_is)
    (case l16 => k_is)
    (case c16 => k_is)
    (case k16 => k_is)
    (case a17 => k_is)
    (case l17 => k_is)
    (case c17 => k_is)
    (case k17 => k_is)
    (case z_len => k_is)
    (case z_sum => k_is)
    (case z_abs => k_is)
    (case z_range => k_is)
    (case z_list => k_is)
    (case z_tuple => k_is)
    (case z_int => k_is)
    (case z_bool => k_is)
    (case z_sorted => k_is)
    (case z_isinstance => k_is)
    (case z_max => k_is)
    (case z_min => k_is)
    (case z_ValueError => k_is)
    (case aCN => k_is)
    (case aCH => k_is)
    (case aCC => k_is)
    (case aCA => k_is)
    (case xN => k_exc)
    (case xH => k_exc)
    (case sub1 => k_is)
    (case x_k1 => k_is)
    (case x_k6 => k_is)
    (case x_k2 => k_is)
    (case x_k3 => k_is)
    (case x_k4 => k_is)
    (case x_k5 => k_is)
    (case x_k7 => k_is)
    (case v1 => k_is)
    (case cC => k_is)
    (case tC => k_is)
    (case sC => k_is)
    (case nC => decide)
    (case cA => k_is)
    (case tA => k_is)
    (case sA => k_is)
    (case nA => decide)
#print axioms PySem.Challenge.cw_lategone_k03_taken_holds
end
