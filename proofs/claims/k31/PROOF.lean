import PyProof.Rows.All
import Wide.All
import OpenK.AllK
import Wide.FinOn
import Lean
import PyProof.EqAt
import PyProof.EqKinds
import PyProof.TupleCall
import PyProof.LongRange
import KE.KDictLaws
import KE.KDictList
import KE.KDictOf
import KE.KDictSum
import KE.KEqDict
import KE.LcSums
import PyProof.AttrMissHeap
import PyProof.ConsumeWalk
import PyProof.DictValues
import PyProof.DictWalks
import PyProof.Rows.SetFrom
import PyProof.Rows.SortKey
import PyProof.Rows.SortRuns
import PyProof.Rows.SortShellK
import PyProof.SetRoads
import PyProof.StrBlockI
import PyProof.StrCalls2
import PyProof.StrLawsJoin
import PySem.Challenge.RW_lategone_k31_lengths_looked_at
set_option Elab.async false
def PySem.W.Fast.tw3328128347120215538 : Nat := 0
def PySem.W.Fast.tw636797873663846185 : Nat := 0
def PySem.W.Fast.tw13925288241836169015 : Nat := 0
def PySem.W.Fast.tw6479290430186304731 : Nat := 0
section
set_option linter.all false
set_option maxRecDepth 100000
set_option maxHeartbeats 4000000
namespace TS
open PySem PyProof.Rows
section ord
variable {κ : KeyKind} {p q r : Keyed}
end ord
section
variable {kd : SortKind} {a₀ : Array Keyed} {st : SortSt} {κ : KeyKind}
end
section
variable {prog : Program} {w : World} {A : Around} {E : Value → Shared → Prop} {s : Shared} {κ : KeyKind} {kd : SortKind} {a₀ : Array Keyed} {st : SortSt}
def Kp (lo : Nat) (xs ys : Array Keyed) : Prop := ∀ k, k < lo → xs[k]? = ys[k]?
end
end TS
end
section
set_option linter.all false
set_option maxRecDepth 100000
set_option maxHeartbeats 4000000
namespace TS
open PySem PyProof.Rows
section
variable {prog : Program} {w : World} {A : Around} {E : Value → Shared → Prop} {s : Shared} {κ : KeyKind} {kd : SortKind} {a₀ : Array Keyed} {st : SortSt}
end
end TS
end
section
set_option linter.all false
set_option maxRecDepth 100000
set_option maxHeartbeats 4000000
namespace TS
open PySem PyProof.Rows
section
variable {κ : KeyKind} {a b out : List Keyed} {ia ib : Nat}
end
section
variable {prog : Program} {w : World} {A : Around} {E : Value → Shared → Prop} {s : Shared} {κ : KeyKind} {kd : SortKind} {a₀ : Array Keyed} {st : SortSt}
end
end TS
end
section
set_option linter.all false
set_option maxRecDepth 100000
set_option maxHeartbeats 4000000
namespace TS
open PySem PyProof.Rows
section
variable {κ : KeyKind} {a b out : List Keyed} {na nb : Nat}
end
section
variable {prog : Program} {w : World} {A : Around} {E : Value → Shared → Prop} {s : Shared} {κ : KeyKind} {kd : SortKind} {a₀ : Array Keyed} {st : SortSt}
end
end TS
end
section
set_option linter.all false
set_option maxRecDepth 100000
set_option maxHeartbeats 4000000
namespace TS
open PySem PyProof.Rows
section
variable {κ : KeyKind}
end
section
variable {prog : Program} {w : World} {A : Around} {E : Value → Shared → Prop} {s : Shared} {κ : KeyKind} {kd : SortKind} {a₀ : Array Keyed} {st : SortSt}
end
end TS
end
section
set_option linter.all false
set_option maxRecDepth 100000
set_option maxHeartbeats 4000000
namespace TS
open PySem PyProof.Rows
section
variable {κ : KeyKind} {xs ys : Array Keyed}
end
section
variable {prog : Program} {w : World} {A : Around} {E : Value → Shared → Prop} {s : Shared} {κ : KeyKind} {kd : SortKind} {a₀ : Array Keyed} {st : SortSt}
end
end TS
end
section
set_option linter.all false
set_option maxRecDepth 100000
set_option maxHeartbeats 4000000
namespace TS
open PySem PyProof.Rows
section
variable {prog : Program} {w : World} {A : Around} {E : Value → Shared → Prop} {s : Shared} {κ : KeyKind} {kd : SortKind} {a₀ : Array Keyed} {st : SortSt}
end
end TS
end
section
set_option linter.all false
set_option maxRecDepth 100000
set_option maxHeartbeats 4000000
namespace TS
open PySem PyProof.Rows
section
variable {prog : Program} {w : World} {A : Around} {E : Value → Shared → Prop} {s : Shared} {κ : KeyKind} {kd : SortKind}
end
end TS
end
section
-- CHANGE: your row's module here, as the last of these rows
set_option Elab.async false
set_option linter.all false
set_option maxRecDepth 100000
namespace L2
open PySem PySem.Spec PyProof.Rows
abbrev Key := Sum Int Str
def keyIs : Key → Value → Bool
  | .inl k, v => Value.isInt k v
  | .inr x, v => Value.isStrOf x v
def keyH (w : World) : Key → Int
  | .inl k => hashInt k
  | .inr x => hashStr w x
theorem keyIs_shape : ∀ {k : Key} {v : Value}, keyIs k v = true → (∃ i t, k = Sum.inl i ∧ v = Value.int i t) ∨ (∃ x t, k = Sum.inr x ∧ v = Value.str x t)
  | .inl i, v, h => by
    obtain ⟨t, e⟩ := Value.isInt_shape (k := i) (v := v) h
    exact .inl ⟨i, t, rfl, e⟩
  | .inr x, v, h => by
    obtain ⟨t, e⟩ := Value.isStrOf_shape (x := x) (v := v) h
    exact .inr ⟨x, t, rfl, e⟩
theorem keyIs_int (i : Int) (t : Tok) : keyIs (.inl i) (.int i t) = true := by simp [keyIs, Value.isInt]
theorem keyIs_str (x : Str) (t : Tok) : keyIs (.inr x) (.str x t) = true := by simp [keyIs, Value.isStrOf]
theorem key_ll (a b : Int) : decide ((Sum.inl a : Key) = Sum.inl b) = (a == b) := by
  by_cases e : a = b
  · subst e; simp
  · have h : ¬ (Sum.inl a : Key) = Sum.inl b := fun q => e (Sum.inl.inj q)
    rw [decide_eq_false h]
    exact (beq_eq_false_iff_ne.mpr e).symm
theorem key_rr (a b : Str) : decide ((Sum.inr a : Key) = Sum.inr b) = decide (a = b) := by
  by_cases e : a = b
  · subst e; simp
  · have h : ¬ (Sum.inr a : Key) = Sum.inr b := fun q => e (Sum.inr.inj q)
    rw [decide_eq_false h, decide_eq_false e]
theorem key_lr (a : Int) (b : Str) : decide ((Sum.inl a : Key) = Sum.inr b) = false := decide_eq_false (fun q => nomatch q)
theorem key_rl (a : Str) (b : Int) : decide ((Sum.inr a : Key) = Sum.inl b) = false := decide_eq_false (fun q => nomatch q)
def mixKind (prog : Program) (w : World) : PySem.KeyKind prog w Key where
  is := keyIs
  hash := keyH w
  inj := fun v a b ha hb => by
    rcases keyIs_shape ha with ⟨i, t, rfl, rfl⟩ | ⟨x, t, rfl, rfl⟩
    · rcases keyIs_shape hb with ⟨j, u, rfl, e⟩ | ⟨y, u, rfl, e⟩
      · injection e with e1 _; rw [e1]
      · exact nomatch e
    · rcases keyIs_shape hb with ⟨j, u, rfl, e⟩ | ⟨y, u, rfl, e⟩
      · exact nomatch e
      · injection e with e1 _; rw [e1]
  byValue := fun k v h => by
    rcases keyIs_shape h with ⟨i, t, rfl, rfl⟩ | ⟨x, t, rfl, rfl⟩ <;> rfl
  pyHash := fun hv h => by
    rcases keyIs_shape hv with ⟨i, t, rfl, rfl⟩ | ⟨x, t, rfl, rfl⟩
    · exact wpAny_pyHash_int h
    · exact wpAny_pyHash_str h
  eqBool := fun hu hv h => by
    rcases keyIs_shape hu with ⟨i, t, rfl, rfl⟩ | ⟨x, t, rfl, rfl⟩
    · rcases keyIs_shape hv with ⟨j, u, rfl, rfl⟩ | ⟨y, u, rfl, rfl⟩
      · rw [key_ll] at h; exact wpAny_eqBool_int h
      · rw [key_lr] at h; exact SeqAt.EqAt.int_str i t y u _ _ _ _ h
    · rcases keyIs_shape hv with ⟨j, u, rfl, rfl⟩ | ⟨y, u, rfl, rfl⟩
      · rw [key_rl] at h; exact SeqAt.EqAt.str_int x t j u _ _ _ _ h
      · rw [key_rr] at h; exact wpAny_eqBool_str h
  «strs» := fun k x t v h => by
    rcases keyIs_shape h with ⟨i, u, rfl, e⟩ | ⟨y, u, rfl, e⟩
    · exact nomatch e
    · injection e with e1 _
      subst e1
      cases v <;> rfl
theorem mixKind_int (prog : Program) (w : World) (i : Int) (t : Tok) : (mixKind prog w).is (.inl i) (.int i t) = true := keyIs_int i t
theorem mixKind_str (prog : Program) (w : World) (x : Str) (t : Tok) : (mixKind prog w).is (.inr x) (.str x t) = true := keyIs_str x t
end L2
namespace L2
open PySem PySem.Spec PyProof.Rows
inductive V where
  | non | bl (b : Bool) | int (i : Int) | str (x : Str) | byt (b : Array UInt8) | flt (b : UInt64) | ref (a : Addr) | ty (n : String)
  deriving DecidableEq
def RelV : V → Value → Prop
  | .non, u => u = Value.none
  | .bl b, u => u = Value.bool b
  | .int i, u => ∃ t, u = Value.int i t
  | .str x, u => ∃ t, u = Value.str x t
  | .byt b, u => ∃ t, u = Value.bytes b t
  | .flt b, u => ∃ t, u = Value.float b t
  | .ref a, u => u = Value.ref a
  | .ty n, u => u = Value.type n
abbrev Vals : List V → List Value → Prop := Paired RelV
theorem Vals.length {xs : List V} {us : List Value} (r : Vals xs us) : xs.length = us.length := Paired.length r
theorem Vals.get : ∀ {xs : List V} {us : List Value} {i : Nat} {x : V}, Vals xs us → xs[i]? = some x → ∃ u, us[i]? = some u ∧ RelV x u
  | _, _, _, _, .nil, e => by simp at e
  | _, _, 0, _, .cons r _, e => by simp at e; subst e; exact ⟨_, rfl, r⟩
  | _, _, i + 1, x, .cons _ t, e => by
    obtain ⟨u, h1, h2⟩ := Vals.get (i := i) (x := x) t (by simpa using e)
    exact ⟨u, by simpa using h1, h2⟩
theorem Vals.append : ∀ {xs ys : List V} {us ws : List Value}, Vals xs us → Vals ys ws → Vals (xs ++ ys) (us ++ ws)
  | _, _, _, _, .nil, s => s
  | _, _, _, _, .cons r t, s => .cons r (Vals.append t s)
theorem Vals.take : ∀ {xs : List V} {us : List Value} (n : Nat), Vals xs us → Vals (xs.take n) (us.take n)
  | _, _, 0, _ => .nil
  | _, _, _ + 1, .nil => .nil
  | _, _, n + 1, .cons r t => .cons r (Vals.take n t)
theorem Vals.drop : ∀ {xs : List V} {us : List Value} (n : Nat), Vals xs us → Vals (xs.drop n) (us.drop n)
  | _, _, 0, r => r
  | _, _, _ + 1, .nil => .nil
  | _, _, n + 1, .cons _ t => Vals.drop n t
def RelO : Option V → Option Value → Prop
  | some v, some u => RelV v u
  | none, none => True
  | _, _ => False
def KV {κ : Type} : List (κ × V) → List (κ × Value) → Prop := Paired fun (p : κ × V) (q : κ × Value) => p.1 = q.1 ∧ RelV p.2 q.2
def kV : Key → V
  | .inl i => .int i
  | .inr x => .str x
inductive HO where
  /-- a list -/
  | lst (xs : List V)
  /-- a tuple (never changes) -/
  | tup (xs : List V)
  /-- a dict whose keys are ints and texts; one whose keys are tuples of ints and texts (the empty one is both) -/
  | dK (kvs : List (Key × V)) | dT (kvs : List (List Key × V))
  /-- a set of ints: its members, its size -/
  | set (S : Int → Bool) (n : Nat)
  /-- an instance of the class at C, its dict at dx, its attributes -/
  | ins (C dx : Addr) (fs : List (Str × V))
  /-- the dict of the instance at x -/
  | own (x : Addr)
  /-- the dict of an exception -/
  | xd (fs : List (Str × V))
  /-- a bound method, f of x -/
  | met (f x : Addr)
  /-- a range object lo, lo + 1, .. below hi -/
  | rng (lo hi : Int)
  /-- a thing that is known to the object (the script; a dict while a loop walks it): read, never written while it is so -/
  | frz (o : Obj) (u : HO)
  /-- a code object's table -/
  | tbl (ps : Array Value)
  /-- any other thing, by what is true of its one object (a def of one's own: SetO a S n := HO.ext fun h => ..) -/
  | ext (φ : Heap → Prop)
abbrev Hp := Addr → Option HO
def upd (H : Hp) (a : Addr) (o : HO) : Hp := fun b => if b = a then some o else H b
theorem upd_same {H : Hp} {a : Addr} {o : HO} : upd H a o a = some o := by unfold upd; rw [if_pos rfl]
theorem upd_ne {H : Hp} {a b : Addr} {o : HO} (h : b ≠ a) : upd H a o b = H b := by unfold upd; rw [if_neg h]
theorem upd_upd {H : Hp} {a : Addr} {o u : HO} : upd (upd H a o) a u = upd H a u := by
  funext b; unfold upd; split <;> rfl
theorem ne_of {H : Hp} {a b : Addr} {o u : HO} (h : H a = some o) (h' : H b = some u) (d : o ≠ u) : a ≠ b := by
  intro e; subst e; rw [h] at h'; exact d (Option.some.inj h')
theorem ne_of_none {H : Hp} {a b : Addr} {o : HO} (h : H a = some o) (h' : H b = none) : a ≠ b := by
  intro e; subst e; rw [h] at h'; cases h'
section
variable (P : Program) (w : World)
def ObjOk (H : Hp) (h : Heap) (a : Addr) : HO → Prop
  | .lst xs => xs.length ≤ sizeLine ∧ ∃ (its : List Value) (n : Nat), Vals xs its ∧ h.get? a = some { cls := .type "list", data := .seq its.toArray n }
  | .tup xs => xs.length ≤ sizeLine ∧ ∃ its : List Value, Vals xs its ∧ IsTup h a its.toArray
  | .dK kvs => kvs.length ≤ sizeLine ∧ (a == sysModules) = false ∧ ∃ vs, KV kvs vs ∧ h.DictOf (mixKind P w) a vs
  | .dT kvs => kvs.length ≤ sizeLine ∧ (a == sysModules) = false ∧ ∃ xs : List (List Key × Addr × Value),
      Paired (fun (p : List Key × V) (q : List Key × Addr × Value) => p.1 = q.1 ∧ H q.2.1 = some (.tup (p.1.map kV)) ∧ RelV p.2 q.2.2) kvs xs ∧
      ∃ o es ep, h.get? a = some o ∧ o.ExactDict ∧ o.data = .dict es ep ∧ es.toList = xs.map (entryOfKey (tupleKind (mixKind P w))) ∧ (xs.map (·.1)).Nodup
  | .set S n => h.SetOf (intKind P w) a S n
  | .ins C dx fs => H dx = some (.own a) ∧ fs.length ≤ 1000 ∧ dx ≠ a ∧ h.get? a = some (PySem.W.instObj C dx) ∧
      ∃ mA, h.Ns1 dx mA ∧ (∀ f, RelO (fs.lookup f) (mA f)) ∧ PySem.Within mA (fs.map (·.1))
  | .own _ => ∃ o, h.get? a = some o
  | .xd fs => ∃ mA, h.Ns1 a mA ∧ ∀ f, RelO (fs.lookup f) (mA f)
  | .rng lo hi => ∃ t u v, h.get? a = some { cls := .type "range", data := .fields #[.int lo t, .int hi u, .int 1 v] }
  | .frz o u => h.get? a = some o ∧ ObjOk H h a u
  | .tbl ps => h.get? a = some { cls := .none, data := .fields ps }
  | .met f x => h.get? a = some (PySem.W.methodObj (.ref f) (.ref x))
  | .ext φ => φ h ∧ (∃ o, h.get? a = some o) ∧ ∀ h1 h2 : Heap, φ h1 → (∀ o, h1.get? a = some o → h2.get? a = some o) → φ h2
def HOk (H : Hp) (h : Heap) : Prop := ∀ a o, H a = some o → ObjOk P w H h a o
end
section
variable {P : Program} {w : World} {H H' : Hp} {h h' : Heap} {a : Addr} {o : HO}
theorem ObjOk.lt (x : ObjOk P w H h a o) : a < h.objs.size := by
  cases o with
  | lst xs => obtain ⟨_, _, _, _, e⟩ := x; exact Heap.lt_size e
  | tup xs => obtain ⟨_, _, _, p⟩ := x; exact p.lt
  | dK kvs => obtain ⟨_, _, _, _, o, _, _, e, _⟩ := x; exact Heap.lt_size e
  | dT kvs => obtain ⟨_, _, _, _, o, _, _, e, _⟩ := x; exact Heap.lt_size e
  | set S n => obtain ⟨o, _, _, _, e, _⟩ := x; exact Heap.lt_size e
  | ins C dx fs => obtain ⟨_, _, _, e, _⟩ := x; exact Heap.lt_size e
  | own y => obtain ⟨_, e⟩ := x; exact Heap.lt_size e
  | xd fs => obtain ⟨_, ⟨_, _, _, e, _⟩, _⟩ := x; exact Heap.lt_size e
  | rng lo hi => obtain ⟨_, _, _, e⟩ := x; exact Heap.lt_size e
  | frz ob u => obtain ⟨e, _⟩ := x; exact Heap.lt_size e
  | tbl ps => exact Heap.lt_size (show h.get? a = some _ from x)
  | met f y => exact Heap.lt_size (show h.get? a = some _ from x)
  | ext φ => obtain ⟨_, ⟨_, e⟩, _⟩ := x; exact Heap.lt_size e
theorem Paired.mapP {α β : Type} {F G : α → β → Prop} : ∀ {l₁ : List α} {l₂ : List β}, Paired F l₁ l₂ → (∀ a b, F a b → G a b) → Paired G l₁ l₂
  | _, _, .nil, _ => .nil
  | _, _, .cons r t, f => .cons (f _ _ r) (Paired.mapP t f)
theorem ObjOk.stay (x : ObjOk P w H h a o) (k : ∀ b u, (b = a ∨ H b = some (.own a)) → h.get? b = some u → h'.get? b = some u)
    (ho : ∀ b, H b = some (.own a) → H' b = some (.own a)) (ht : ∀ b xs, H b = some (.tup xs) → H' b = some (.tup xs)) : ObjOk P w H' h' a o := by
  induction o with
  | lst xs => obtain ⟨z, its, n, r, e⟩ := x; exact ⟨z, its, n, r, k _ _ (.inl rfl) e⟩
  | tup xs => obtain ⟨z, its, r, ob, e, c⟩ := x; exact ⟨z, its, r, ob, k _ _ (.inl rfl) e, c⟩
  | dK kvs => obtain ⟨z, y, vs, r, ob, es, ep, e, c⟩ := x; exact ⟨z, y, vs, r, ob, es, ep, k _ _ (.inl rfl) e, c⟩
  | dT kvs =>
    obtain ⟨z, y, xs, r, ob, es, ep, e, c⟩ := x
    exact ⟨z, y, xs, Paired.mapP r fun p q z => ⟨z.1, ht _ _ z.2.1, z.2.2⟩, ob, es, ep, k _ _ (.inl rfl) e, c⟩
  | set S n => obtain ⟨ob, es, ep, t, e, c⟩ := x; exact ⟨ob, es, ep, t, k _ _ (.inl rfl) e, c⟩
  | ins C dx fs =>
    obtain ⟨d, z, ne, e, mA, ⟨od, es, ep, e2, c⟩, r⟩ := x
    exact ⟨ho _ d, z, ne, k _ _ (.inl rfl) e, mA, ⟨od, es, ep, k _ _ (.inr d) e2, c⟩, r⟩
  | own y => obtain ⟨ob, e⟩ := x; exact ⟨ob, k _ _ (.inl rfl) e⟩
  | xd fs => obtain ⟨mA, ⟨od, es, ep, e, c⟩, r⟩ := x; exact ⟨mA, ⟨od, es, ep, k _ _ (.inl rfl) e, c⟩, r⟩
  | rng lo hi => obtain ⟨t, u, v, e⟩ := x; exact ⟨t, u, v, k _ _ (.inl rfl) e⟩
  | frz ob u ih => obtain ⟨e, q⟩ := x; exact ⟨k _ _ (.inl rfl) e, ih q⟩
  | tbl ps =>
    have e : h.get? a = some { cls := .none, data := .fields ps } := x
    show h'.get? a = some { cls := .none, data := .fields ps }
    exact k a _ (.inl rfl) e
  | met f y =>
    have e : h.get? a = some (PySem.W.methodObj (.ref f) (.ref y)) := x
    show h'.get? a = some (PySem.W.methodObj (.ref f) (.ref y))
    exact k a _ (.inl rfl) e
  | ext φ => obtain ⟨p, ⟨o, e⟩, st⟩ := x; exact ⟨st _ _ p fun o q => k _ _ (.inl rfl) q, ⟨o, k _ _ (.inl rfl) e⟩, st⟩
theorem HOk.lt (x : HOk P w H h) (e : H a = some o) : a < h.objs.size := (x a o e).lt
theorem HOk.fresh (x : HOk P w H h) (e : h.objs.size ≤ a) : H a = none := by
  cases q : H a with
  | none => rfl
  | some u => exact absurd (Nat.lt_of_lt_of_le (x.lt q) e) (Nat.lt_irrefl _)
theorem HOk.kept (x : HOk P w H h) (k : ∀ b u, h.get? b = some u → h'.get? b = some u) : HOk P w H h' := fun a o e =>
  (x a o e).stay (fun b u _ q => k b u q) (fun _ q => q) fun _ _ q => q
theorem HOk.laid (x : HOk P w H h) (k : ∀ b u, h.get? b = some u → h'.get? b = some u) (hp : h.objs.size ≤ a) (new : ObjOk P w (upd H a o) h' a o) : HOk P w (upd H a o) h' := fun b u e => by
  have hn := x.fresh hp
  by_cases hb : b = a
  · subst hb; rw [upd_same] at e; cases e; exact new
  · rw [upd_ne hb] at e
    exact (x b u e).stay (fun c v _ q => k c v q) (fun c q => by rw [upd_ne (ne_of_none q hn)]; exact q) fun c xs q => by rw [upd_ne (ne_of_none q hn)]; exact q
end
def Rd (H : Hp) (a : Addr) (u : HO) : Prop := H a = some u ∨ ∃ o, H a = some (.frz o u)
theorem Rd.ok {P : Program} {w : World} {H : Hp} {h : Heap} {a : Addr} {u : HO} (r : Rd H a u) (x : HOk P w H h) : ObjOk P w H h a u := by
  rcases r with r | ⟨o, r⟩
  · exact x a u r
  · obtain ⟨_, q⟩ := x a _ r
    exact q
def Mut : Option HO → Prop
  | some (.lst _) => True
  | some (.dK _) => True
  | some (.dT _) => True
  | some (.set _ _) => True
  | some (.ins _ _ _) => True
  | some (.ext _) => True
  | _ => False
section
variable {P : Program} {w : World} {H : Hp} {h h' : Heap} {x e : Addr} {o' : HO}
theorem HOk.write (ok : HOk P w H h) (mu : Mut (H x)) (he : e = x ∨ H e = some (.own x)) (k : ∀ b u, b ≠ e → h.get? b = some u → h'.get? b = some u) (heo : ∃ u, h'.get? e = some u)
    (new : ObjOk P w (upd H x o') h' x o') : HOk P w (upd H x o') h' := fun b u q => by
  have nown : ∀ c y, H c = some (.own y) → c ≠ x := fun c y r z => by subst z; rw [r] at mu; exact mu
  have ntup : ∀ c xs, H c = some (.tup xs) → c ≠ x := fun c xs r z => by subst z; rw [r] at mu; exact mu
  by_cases hb : b = x
  · subst hb; rw [upd_same] at q; cases q; exact new
  · rw [upd_ne hb] at q
    by_cases hbe : b = e
    · have q' : H b = some (.own x) := by
        rcases he with z | z
        · exact absurd (hbe.trans z) hb
        · rw [hbe]; exact z
      rw [q] at q'; cases q'
      obtain ⟨v, hv⟩ := heo
      exact ⟨v, by rw [hbe]; exact hv⟩
    · refine (ok b u q).stay (fun c v hc r => k c v ?_ r) (fun c r => by rw [upd_ne (nown c b r)]; exact r) fun c xs r => by rw [upd_ne (ntup c xs r)]; exact r
      rcases hc with rfl | hc
      · exact hbe
      · rintro rfl
        rcases he with z | z
        · exact nown c b hc z
        · rw [hc] at z; cases z; exact hb rfl
end
structure Un (fs ex : List Addr) (H H' : Hp) (h h' : Heap) : Prop where
  keep : ∀ b o, h.get? b = some o → H b = none → b ∉ fs → b ∉ ex → h'.get? b = some o
  slot : ∀ b o, h.get? b = some o → H b = none → b ∈ fs → b ∉ ex → ∃ sl, h'.get? b = some { o with slots := sl }
  free : ∀ b o, h.get? b = some o → H b = none → b ∉ ex → H' b = none
  there : ∀ b o, h.get? b = some o → b ∉ ex → ∃ o', h'.get? b = some o'
  tups : ∀ b xs, H b = some (.tup xs) → H' b = some (.tup xs)
  frzs : ∀ b o u, H b = some (.frz o u) → H' b = some (.frz o u)
  tbls : ∀ b ps, H b = some (.tbl ps) → ∃ more, H' b = some (.tbl (ps ++ more))
section
variable {fs fs' ex ex' : List Addr} {H H1 H2 : Hp} {h h1 h2 h' : Heap} {a x e : Addr} {o : HO}
theorem Un.any (u : Un fs ex H H1 h h1) {b : Addr} {ob : Obj} (q : h.get? b = some ob) (n : H b = none) (hx : b ∉ ex) : ∃ sl, h1.get? b = some { ob with slots := sl } := by
  by_cases hb : b ∈ fs
  · exact u.slot b ob q n hb hx
  · exact ⟨ob.slots, u.keep b ob q n hb hx⟩
theorem Un.kept (k : ∀ b u, h.get? b = some u → h'.get? b = some u) : Un fs ex H H h h' :=
  ⟨fun b ob q _ _ _ => k b ob q, fun b ob q _ _ _ => ⟨ob.slots, k b ob q⟩, fun _ _ _ n _ => n, fun b ob q _ => ⟨ob, k b ob q⟩, fun _ _ q => q, fun _ _ _ q => q, fun _ ps q => ⟨#[], by rw [q]; simp⟩⟩
theorem Un.refl : Un fs ex H H h h := Un.kept fun _ _ q => q
theorem Un.laid (k : ∀ b u, h.get? b = some u → h'.get? b = some u) (hp : h.objs.size ≤ a) (hn : H a = none) : Un fs ex H (upd H a o) h h' where
  keep := fun b u q _ _ _ => k b u q
  slot := fun b u q _ _ _ => ⟨u.slots, k b u q⟩
  free := fun b u q n _ => by rw [upd_ne (Nat.ne_of_lt (Nat.lt_of_lt_of_le (Heap.lt_size q) hp))]; exact n
  there := fun b u q _ => ⟨u, k b u q⟩
  tups := fun b xs q => by rw [upd_ne (ne_of_none q hn)]; exact q
  frzs := fun b u xs q => by rw [upd_ne (ne_of_none q hn)]; exact q
  tbls := fun b ps q => ⟨#[], by rw [upd_ne (ne_of_none q hn), q]; simp⟩
theorem Un.write (mu : Mut (H x)) (he : e = x ∨ H e = some (.own x)) (k : ∀ b u, b ≠ e → h.get? b = some u → h'.get? b = some u) (heo : ∃ u, h'.get? e = some u) : Un fs ex H (upd H x o) h h' := by
  have hx : ∀ b, H b = none → b ≠ x := fun b n z => by subst z; rw [n] at mu; exact mu
  have hb : ∀ b, H b = none → b ≠ e := fun b n z => by
    subst z
    rcases he with r | r
    · exact hx b n r
    · rw [n] at r; cases r
  have hm : ∀ b u, H b = some u → ¬ Mut (some u) → b ≠ x := fun b u q nm z => by subst z; rw [q] at mu; exact nm mu
  refine ⟨fun b u q n _ _ => k b u (hb b n) q, fun b u q n _ _ => ⟨u.slots, k b u (hb b n) q⟩, fun b u q n _ => by rw [upd_ne (hx b n)]; exact n, fun b u q _ => ?_,
    fun b xs q => by rw [upd_ne (hm b _ q fun z => z)]; exact q, fun b u xs q => by rw [upd_ne (hm b _ q fun z => z)]; exact q, fun b ps q => ⟨#[], by rw [upd_ne (hm b _ q fun z => z), q]; simp⟩⟩
  by_cases hbe : b = e
  · subst hbe; exact heo
  · exact ⟨u, k b u hbe q⟩
end
def trk (h : Heap) (H : Hp) : List Addr := (List.range h.objs.size).filter fun a => (H a).isSome
def hidT (h : Heap) (H : Hp) : Heap := PySem.W.hideAll h (trk h H)
theorem hidT_size (h : Heap) (H : Hp) : (hidT h H).objs.size = h.objs.size := PySem.W.hideAll_size _ _
theorem hidT_get {h : Heap} {H : Hp} {b : Addr} {o : Obj} (e : h.get? b = some o) (n : H b = none) : (hidT h H).get? b = some o :=
  PySem.W.hideAll_get _ e fun hm => by
    have q : (H b).isSome = true := (List.mem_filter.mp hm).2
    rw [n] at q; simp at q
theorem of_hidT {h : Heap} {H : Hp} {b : Addr} {o : Obj} (e : (hidT h H).get? b = some o) : h.get? b = some o ∧ H b = none := by
  have e' : h.get? b = some o := PySem.W.of_hideAll (trk h H) e
  refine ⟨e', ?_⟩
  cases q : H b with
  | none => rfl
  | some x =>
    have hm : b ∈ trk h H := List.mem_filter.mpr ⟨List.mem_range.mpr (Heap.lt_size e'), by simp [q]⟩
    have z : (hidT h H).get? b = none := PySem.W.hideAll_none (trk h H) hm
    rw [z] at e; cases e
def allNews (g h : Heap) (L : Addr) : List (Addr × Obj) := (List.range h.objs.size).filterMap fun a => if a = L ∨ (g.get? a).isSome = true then none else (h.get? a).map fun o => (a, o)
def rest (g h : Heap) (L d : Addr) : List (Addr × Obj) := (allNews g h L).filter fun p => decide (p.1 ≠ d)
end L2
namespace L2
open PySem PySem.Spec PyProof.Rows
structure Mod (K : PySem.W.Frag) (mg : Str → Option Value) (base : Heap) : Prop where
  kin : K.In base
  glob : base.Ns mainGlobals mg
  blt : ∃ mb, base.Ns builtinsNs mb ∧ ∀ x : Str, x ≠ "__name__" → mb x = bootBuiltins x
  nolimit : base.NoLimit
structure Cx where
  prog : Program
  w : World
  K : PySem.W.Frag
  mg : Str → Option Value
  base : Heap
  A : Around
  N : List Str
  s₀ : Shared
  H₀ : Hp
  env : Env
  outer : List Env
  stack : List Env
  ex : List Addr
  fn : Str → Bool
  calm : Bool
  pn : List (Addr × Obj)
  xe : Value → Shared → Prop
def frs (l : List Env) : List Addr := l.filterMap (·.frame)
abbrev Cx.fs (X : Cx) : List Addr := frs X.outer
def Vis (sc : Scope) (x : Str) : Prop := sc.names.lookup x = some .local ∨ sc.names.lookup x = some .cell ∨ sc.names.lookup x = some .free
def Loc (sc : Scope) (x : Str) : Prop := sc.names.lookup x = some .local ∨ sc.names.lookup x = some .cell
def Look (env : Env) (h : Heap) (m : Str → Option Value) (x : Str) (u : Value) : Prop :=
  (env.kindOf x = some .local ∧ m x = some u) ∨ ((env.kindOf x = some .cell ∨ env.kindOf x = some .free) ∧ ∃ c, env.cells.lookup x = some c ∧ h.IsCell c (some u))
structure Cx.Ok (X : Cx) : Prop where
  mod : Mod X.K X.mg X.base
  kind : X.env.scope.kind = .function
  glob : X.env.globals = mainGlobals
  blt : X.env.builtins = builtinsNs
  above : X.s₀.heap.objs.size ≤ X.env.locals
  inj : ∀ x y c, X.env.cells.lookup x = some c → X.env.cells.lookup y = some c → x = y
  has : ∀ x, (X.env.kindOf x = some .cell ∨ X.env.kindOf x = some .free) → ∃ c, X.env.cells.lookup x = some c
  cab : ∀ x c, X.fn x = true → X.env.cells.lookup x = some c → X.s₀.heap.objs.size ≤ c
  hd : X.calm = true → X.A.handled = none
  frames : X.A.frames = some X.stack
  stk : X.stack = X.outer ∨ (X.stack = X.env :: X.outer ∧ X.env.frame = some X.env.locals)
  exf : ∀ b ∈ X.ex, b ≠ X.env.locals ∧ ∀ x c, X.env.cells.lookup x = some c → c ≠ b
  bs : ∀ b o, X.base.get? b = some o → X.s₀.heap.get? b = some o ∧ X.H₀ b = none
  bsz : X.base.objs.size ≤ X.s₀.heap.objs.size
  noex : ∀ b o, X.base.get? b = some o → b ∉ X.ex
  exfs : ∀ b ∈ X.ex, b ∉ X.fs
  funs : X.s₀.heap.FunFrames X.base X.outer
  frf : ∀ b ∈ X.fs, X.H₀ b = none
structure Inv (X : Cx) (pins : List (Addr × Obj)) (σ : List (Option V)) (H : Hp) (s : Shared) : Prop where
  ok : X.Ok
  os : s.os = X.s₀.os
  bare : AllBare s.gens
  base : Un X.fs X.ex X.H₀ H X.s₀.heap s.heap
  loc : ∃ m, s.heap.Ns X.env.locals m ∧ ∀ (i : Nat) (x : Str) (v : V), X.N[i]? = some x → σ[i]? = some (some v) → Vis X.env.scope x → ∃ u, RelV v u ∧ Look X.env s.heap m x u
  cell : ∀ x c, X.env.cells.lookup x = some c → ∃ v, s.heap.IsCell c v
  free : H X.env.locals = none
  freeC : ∀ x c, X.env.cells.lookup x = some c → H c = none
  pin : ∀ p ∈ X.pn ++ pins, s.heap.get? p.1 = some p.2 ∧ H p.1 = none ∧ p.1 ≠ X.env.locals ∧ p.1 ∉ X.fs ∧ ∀ v, p.2.data ≠ .cell v
  hok : HOk X.prog X.w H s.heap
  len : σ.length = X.N.length
section
variable {X : Cx} {pins : List (Addr × Obj)} {σ : List (Option V)} {H H' : Hp} {s : Shared} {h' : Heap}
theorem Cx.Ok.nofr (ok : X.Ok) {b : Addr} {o : Obj} (e : X.base.get? b = some o) : b ∉ X.fs := fun hb => by
  have := (ok.funs.mem hb).1
  rw [e] at this; cases this
theorem Inv.bs (I : Inv X pins σ H s) : ∀ b o, X.base.get? b = some o → s.heap.get? b = some o ∧ H b = none := fun b o e =>
  ⟨I.base.keep b o (I.ok.bs b o e).1 (I.ok.bs b o e).2 (I.ok.nofr e) (I.ok.noex b o e), I.base.free b o (I.ok.bs b o e).1 (I.ok.bs b o e).2 (I.ok.noex b o e)⟩
theorem Inv.bk (I : Inv X pins σ H s) : ∀ b o, X.base.get? b = some o → s.heap.get? b = some o := fun b o e => (I.bs b o e).1
theorem Inv.mod (I : Inv X pins σ H s) : Mod X.K X.mg X.base := I.ok.mod
theorem Inv.kIn (I : Inv X pins σ H s) : X.K.In s.heap := I.ok.mod.kin.keeps I.bk
theorem Inv.lt (I : Inv X pins σ H s) : X.env.locals < s.heap.objs.size := let ⟨_, hn, _⟩ := I.loc; hn.lt
theorem Inv.sz (I : Inv X pins σ H s) : X.s₀.heap.objs.size ≤ s.heap.objs.size := Nat.le_trans I.ok.above (Nat.le_of_lt I.lt)
theorem Inv.nofs (I : Inv X pins σ H s) {a : Addr} (h : s.heap.objs.size ≤ a) : a ∉ X.fs := fun hb => by
  obtain ⟨_, o, ho, _⟩ := I.ok.funs.mem hb
  exact absurd (Nat.lt_of_lt_of_le (Heap.lt_size ho) (Nat.le_trans I.sz h)) (Nat.lt_irrefl _)
theorem Inv.cne (I : Inv X pins σ H s) : ∀ x c, X.env.cells.lookup x = some c → c ≠ X.env.locals := fun x c e z => by
  obtain ⟨v, o, ho, hd⟩ := I.cell x c e
  obtain ⟨m, ⟨o', es, ep, ho', hd', _⟩, _⟩ := I.loc
  rw [z, ho'] at ho; cases ho; rw [hd'] at hd; cases hd
theorem Inv.funs (I : Inv X pins σ H s) : s.heap.FunFrames X.base X.outer := by
  have all : ∀ (l : List Env), (∀ b ∈ frs l, b ∈ X.fs) → X.s₀.heap.FunFrames X.base l → s.heap.FunFrames X.base l := by
    intro l
    induction l with
    | nil => intro _ _; trivial
    | cons env r ih =>
      intro hs hl
      obtain ⟨hk, ⟨L, o, hf, hn, ho, hd⟩, hr⟩ := hl
      have hL : L ∈ X.fs := hs L (by unfold frs; rw [List.filterMap_cons, hf]; exact List.mem_cons_self)
      obtain ⟨sl, e⟩ := I.base.slot L o ho (I.ok.frf L hL) hL fun z => I.ok.exfs L z hL
      exact ⟨hk, ⟨L, _, hf, hn, e, hd⟩, ih (fun b hb => hs b (by unfold frs; rw [List.filterMap_cons, hf]; exact List.mem_cons_of_mem _ hb)) hr⟩
  exact all X.outer (fun _ hb => hb) I.ok.funs
theorem Inv.stack (I : Inv X pins σ H s) : s.heap.FunFrames X.base X.stack := by
  rcases I.ok.stk with e | ⟨e, hf⟩
  · rw [e]; exact I.funs
  · rw [e]
    obtain ⟨m, hn, _⟩ := I.loc
    refine .cons (by rw [I.ok.kind]; decide) hf hn ?_ I.funs
    exact Heap.get?_none_of_le (Nat.le_trans I.ok.bsz I.ok.above)
theorem Inv.stkSub (I : Inv X pins σ H s) : ∀ b ∈ frs X.stack, b ∈ X.env.locals :: X.fs := fun b hb => by
  rcases I.ok.stk with e | ⟨e, hf⟩
  · rw [e] at hb; exact List.mem_cons_of_mem _ hb
  · rw [e] at hb
    unfold frs at hb
    rw [List.filterMap_cons, hf] at hb
    exact hb
theorem Inv.stkFree (I : Inv X pins σ H s) : ∀ b ∈ frs X.stack, H b = none := fun b hb => by
  rcases List.mem_cons.mp (I.stkSub b hb) with e | hb
  · rw [e]; exact I.free
  · obtain ⟨_, o, ho, _⟩ := I.ok.funs.mem hb
    exact I.base.free b o ho (I.ok.frf b hb) fun z => I.ok.exfs b z hb
theorem Inv.step {g' : Array GenState} {t' : Nat} {d' : Drawn} {ch : List Addr} (I : Inv X pins σ H s)
    (hch : ∀ b ∈ ch, (b ∈ X.ex ∨ X.s₀.heap.objs.size ≤ b) ∧ b ≠ X.env.locals ∧ (∀ x c, X.env.cells.lookup x = some c → c ≠ b) ∧ ∀ p ∈ X.pn ++ pins, p.1 ≠ b)
    (keep : ∀ b o, b ≠ X.env.locals → b ∉ X.fs → b ∉ ch → s.heap.get? b = some o → H b = none → h'.get? b = some o)
    (slot : ∀ b o, b ≠ X.env.locals → b ∈ X.fs → b ∉ ch → s.heap.get? b = some o → H b = none → ∃ sl, h'.get? b = some { o with slots := sl }) (free : ∀ b o, b ∉ ch → s.heap.get? b = some o → H b = none → H' b = none)
    (there : ∀ b o, b ∉ ch → s.heap.get? b = some o → ∃ o', h'.get? b = some o')
    (tups : ∀ b xs, H b = some (.tup xs) → H' b = some (.tup xs)) (frzs : ∀ b o u, H b = some (.frz o u) → H' b = some (.frz o u)) (tbls : ∀ b ps, H b = some (.tbl ps) → ∃ more, H' b = some (.tbl (ps ++ more)))
    (ns : ∀ m, s.heap.Ns X.env.locals m → h'.Ns X.env.locals m) (hok : HOk X.prog X.w H' h') (hg : AllBare g') :
    Inv X pins σ H' { s with heap := h', gens := g', drawn := d', toks := t' } := by
  have neL : ∀ b o, X.s₀.heap.get? b = some o → b ≠ X.env.locals := fun b o e => Nat.ne_of_lt (Nat.lt_of_lt_of_le (Heap.lt_size e) I.ok.above)
  have neC : ∀ b o, X.s₀.heap.get? b = some o → b ∉ X.ex → b ∉ ch := fun b o e hx hb => by
    rcases (hch b hb).1 with z | z
    · exact hx z
    · exact absurd (Nat.lt_of_lt_of_le (Heap.lt_size e) z) (Nat.lt_irrefl _)
  have cellK : ∀ x c, X.env.cells.lookup x = some c → ∀ v, s.heap.IsCell c v → h'.IsCell c v := fun x c e v ⟨o, ho, hd⟩ => by
    have nch : c ∉ ch := fun z => (hch c z).2.2.1 x c e rfl
    by_cases hc : c ∈ X.fs
    · obtain ⟨sl, q⟩ := slot c o (I.cne x c e) hc nch ho (I.freeC x c e)
      exact ⟨_, q, hd⟩
    · exact ⟨o, keep c o (I.cne x c e) hc nch ho (I.freeC x c e), hd⟩
  refine ⟨I.ok, I.os, hg, ⟨fun b o e n hb hx => ?_, fun b o e n hb hx => ?_, fun b o e n hx => ?_, fun b o e hx => ?_, fun b xs e => tups b xs (I.base.tups b xs e), fun b o xs e => frzs b o xs (I.base.frzs b o xs e), fun b ps e => ?_⟩, ?_, fun x c e => ?_, ?_, fun x c e => ?_, fun p hp => ?_, hok, I.len⟩
  · exact keep b o (neL b o e) hb (neC b o e hx) (I.base.keep b o e n hb hx) (I.base.free b o e n hx)
  · obtain ⟨sl, e1⟩ := I.base.slot b o e n hb hx
    obtain ⟨sl', e2⟩ := slot b _ (neL b o e) hb (neC b o e hx) e1 (I.base.free b o e n hx)
    exact ⟨sl', e2⟩
  · obtain ⟨o', e1⟩ := I.base.there b o e hx
    exact free b o' (neC b o e hx) e1 (I.base.free b o e n hx)
  · obtain ⟨o', e1⟩ := I.base.there b o e hx
    exact there b o' (neC b o e hx) e1
  · obtain ⟨m1, e1⟩ := I.base.tbls b ps e
    obtain ⟨m2, e2⟩ := tbls b _ e1
    exact ⟨m1 ++ m2, by rw [e2, Array.append_assoc]⟩
  · obtain ⟨m, hn, hl⟩ := I.loc
    refine ⟨m, ns m hn, fun i x v e1 e2 e3 => ?_⟩
    obtain ⟨u, r, l⟩ := hl i x v e1 e2 e3
    refine ⟨u, r, ?_⟩
    rcases l with l | ⟨k, c, e, z⟩
    · exact .inl l
    · exact .inr ⟨k, c, e, cellK x c e _ z⟩
  · obtain ⟨v, z⟩ := I.cell x c e
    exact ⟨v, cellK x c e v z⟩
  · obtain ⟨m, ⟨o, _, _, ho, _⟩, _⟩ := I.loc
    exact free _ o (fun z => (hch _ z).2.1 rfl) ho I.free
  · obtain ⟨v, o, ho, hd⟩ := I.cell x c e
    exact free c o (fun z => (hch c z).2.2.1 x c e rfl) ho (I.freeC x c e)
  · obtain ⟨e, n, ne, nf, d⟩ := I.pin p hp
    have nch : p.1 ∉ ch := fun z => (hch p.1 z).2.2.2 p hp rfl
    exact ⟨keep p.1 p.2 ne nf nch e n, free p.1 p.2 nch e n, ne, nf, d⟩
theorem Inv.un {t' : Nat} (I : Inv X pins σ H s) (u : Un X.fs [] H H' s.heap h') (hok : HOk X.prog X.w H' h') : Inv X pins σ H' { s with heap := h', toks := t' } := by
  obtain ⟨m, ⟨o, es, ep, ho, r⟩, _⟩ := id I.loc
  obtain ⟨sl, hL⟩ := u.any ho I.free (by simp)
  exact I.step (g' := s.gens) (d' := s.drawn) (ch := []) (fun _ z => nomatch z) (fun b o _ hb _ e n => u.keep b o e n hb (by simp)) (fun b o _ hb _ e n => u.slot b o e n hb (by simp)) (fun b o _ e n => u.free b o e n (by simp)) (fun b o _ e => u.there b o e (by simp)) u.tups u.frzs u.tbls (fun m' hm => by
    obtain ⟨o', es', ep', ho', r'⟩ := hm
    rw [ho] at ho'; cases ho'
    exact ⟨_, es', ep', hL, r'⟩) hok I.bare
theorem Inv.call {g' : Array GenState} {t' : Nat} {d' : Drawn} {ch : List Addr} (I : Inv X pins σ H s) (u : Un (frs X.stack) ch H H' s.heap h') (hok : HOk X.prog X.w H' h') (hg : AllBare g')
    (hch : ∀ b ∈ ch, (b ∈ X.ex ∨ X.s₀.heap.objs.size ≤ b) ∧ b ≠ X.env.locals ∧ (∀ x c, X.env.cells.lookup x = some c → c ≠ b) ∧ ∀ p ∈ X.pn ++ pins, p.1 ≠ b) :
    Inv X pins σ H' { s with heap := h', gens := g', drawn := d', toks := t' } := by
  obtain ⟨m, ⟨o, es, ep, ho, r⟩, _⟩ := id I.loc
  obtain ⟨sl, hL⟩ := u.any ho I.free fun z => (hch _ z).2.1 rfl
  exact I.step (ch := ch) hch (fun b o hL hb hc e n => u.keep b o e n (fun z => (List.mem_cons.mp (I.stkSub b z)).elim hL hb) hc) (fun b o _ _ hc e n => u.any e n hc) (fun b o hc e n => u.free b o e n hc) (fun b o hc e => u.there b o e hc) u.tups u.frzs u.tbls (fun m' hm => by
    obtain ⟨o', es', ep', ho', r'⟩ := hm
    rw [ho] at ho'; cases ho'
    exact ⟨_, es', ep', hL, r'⟩) hok hg
theorem Inv.turned {t' : Nat} {it : Addr} (I : Inv X pins σ H s) (k : ∀ b o, b ≠ it → s.heap.get? b = some o → h'.get? b = some o) (hn : H it = none) (hL : it ≠ X.env.locals)
    (h1 : it ∈ X.ex ∨ X.s₀.heap.objs.size ≤ it) (h2 : ∀ x c, X.env.cells.lookup x = some c → c ≠ it) (h3 : ∀ p ∈ X.pn ++ pins, p.1 ≠ it) : Inv X pins σ H { s with heap := h', toks := t' } := by
  have nit : ∀ b u, H b = some u → b ≠ it := fun b u e z => by rw [z, hn] at e; cases e
  refine I.step (g' := s.gens) (d' := s.drawn) (ch := [it]) (fun b hb => ?_) (fun b o _ _ hc e _ => k b o (fun z => hc (by simp [z])) e) (fun b o _ _ hc e _ => ⟨o.slots, k b o (fun z => hc (by simp [z])) e⟩) (fun _ _ _ _ n => n)
    (fun b o hc e => ⟨o, k b o (fun z => hc (by simp [z])) e⟩) (fun _ _ e => e) (fun _ _ _ e => e) (fun b ps e => ⟨#[], by rw [e]; simp⟩) (fun m hm => ?_) (fun b u e => ?_) I.bare
  · have e : b = it := by simpa using hb
    subst e
    exact ⟨h1, hL, h2, h3⟩
  · obtain ⟨o, es, ep, ho, r⟩ := hm
    exact ⟨o, es, ep, k _ o (Ne.symm hL) ho, r⟩
  · refine (I.hok b u e).stay (fun c v hc q => k c v ?_ q) (fun _ q => q) fun _ _ q => q
    rcases hc with z | z
    · rw [z]; exact nit b u e
    · exact nit c _ z
theorem Inv.tok (I : Inv X pins σ H s) (t : Nat) : Inv X pins σ H { s with toks := t } := I.un (h' := s.heap) (t' := t) Un.refl I.hok
theorem Inv.kept {t' : Nat} (I : Inv X pins σ H s) (k : ∀ b u, s.heap.get? b = some u → h'.get? b = some u) : Inv X pins σ H { s with heap := h', toks := t' } := I.un (Un.kept k) (I.hok.kept k)
theorem Inv.laid {a : Addr} {o : HO} {t' : Nat} (I : Inv X pins σ H s) (k : ∀ b u, s.heap.get? b = some u → h'.get? b = some u) (hp : s.heap.objs.size ≤ a) (new : ObjOk X.prog X.w (upd H a o) h' a o) :
    Inv X pins σ (upd H a o) { s with heap := h', toks := t' } := I.un (Un.laid k hp (I.hok.fresh hp)) (I.hok.laid k hp new)
theorem Inv.write {x e : Addr} {o : HO} {t' : Nat} (I : Inv X pins σ H s) (mu : Mut (H x)) (he : e = x ∨ H e = some (.own x)) (k : ∀ b u, b ≠ e → s.heap.get? b = some u → h'.get? b = some u) (heo : ∃ u, h'.get? e = some u)
    (new : ObjOk X.prog X.w (upd H x o) h' x o) : Inv X pins σ (upd H x o) { s with heap := h', toks := t' } := I.un (Un.write mu he k heo) (I.hok.write mu he k heo new)
theorem Inv.weak {σ' : List (Option V)} (I : Inv X pins σ H s) (hl : σ'.length = σ.length) (w : ∀ (i : Nat) v, σ'[i]? = some (some v) → σ[i]? = some (some v)) : Inv X pins σ' H s :=
  ⟨I.ok, I.os, I.bare, I.base, let ⟨m, hn, hl'⟩ := I.loc; ⟨m, hn, fun i x v e1 e2 e3 => hl' i x v e1 (w i v e2) e3⟩, I.cell, I.free, I.freeC, I.pin, I.hok, hl.trans I.len⟩
theorem Inv.pins_of {pins' : List (Addr × Obj)} (I : Inv X pins σ H s) (h : ∀ p ∈ pins', s.heap.get? p.1 = some p.2 ∧ H p.1 = none ∧ p.1 ≠ X.env.locals ∧ p.1 ∉ X.fs ∧ ∀ v, p.2.data ≠ .cell v) : Inv X pins' σ H s :=
  ⟨I.ok, I.os, I.bare, I.base, I.loc, I.cell, I.free, I.freeC, fun p hp => (List.mem_append.mp hp).elim (fun z => I.pin p (List.mem_append_left _ z)) (h p), I.hok, I.len⟩
theorem nodup_ix {N : List Str} (hN : N.Nodup) {i j : Nat} {x : Str} (a : N[i]? = some x) (b : N[j]? = some x) : i = j := by
  obtain ⟨h1, e1⟩ := List.getElem?_eq_some_iff.mp a
  obtain ⟨h2, e2⟩ := List.getElem?_eq_some_iff.mp b
  exact (List.getElem_inj hN).mp (e1.trans e2.symm)
theorem store_ok2 {M : Model} {A : Around} {E : Value → Shared → Prop} {i : Nat} {x : Str} {v : V} {u : Value} {Q : Unit → Shared → Prop} (I : Inv X pins σ H s) (hN : X.N.Nodup) (hi : X.N[i]? = some x) (hx : Loc X.env.scope x) (r : RelV v u)
    (h : ∀ s', Inv X pins (σ.set i (some v)) H s' → (∃ a, Heap.SameBut a s.heap s'.heap ∧ (a = X.env.locals ∨ X.env.cells.lookup x = some a)) → Q () s') (hf : X.fn x = true ∨ X.env.scope.names.lookup x = some .local := by first | exact .inl rfl | exact .inr rfl | assumption) : wpAny M A (storeName X.env x u) Q E s := by
  obtain ⟨m, hn, hl⟩ := id I.loc
  have hcls : (X.env.scope.kind == .class || (X.env.scope.kind == .module && X.env.locals != X.env.globals)) = false := by rw [I.ok.kind]; rfl
  have hiσ : i < σ.length := by rw [I.len]; exact (List.getElem?_eq_some_iff.mp hi).1
  have cne := I.cne
  have tracked : ∀ {a : Addr} {h' : Heap}, (∃ o, s.heap.get? a = some o ∧ H a = none) → Heap.SameBut a s.heap h' → HOk X.prog X.w H h' := fun {a h'} ha hs b ob e => by
    obtain ⟨_, _, hfree⟩ := ha
    refine (I.hok b ob e).stay (fun c w' hc q => (hs.2 c ?_).trans q) (fun _ q => q) fun _ _ q => q
    rintro rfl
    rcases hc with rfl | hc
    · rw [hfree] at e; cases e
    · rw [hfree] at hc; cases hc
  rcases hx with hk | hk
  · refine wpAny_storeName_local hk hn (fun h' hn' hs => ?_) hcls
    obtain ⟨oL, _, _, hoL, _⟩ := id hn
    refine h _ ⟨I.ok, I.os, I.bare, ⟨fun b o e n hb hx => ?_, fun b o e n hb hx => ?_, I.base.free, fun b o e hx => ?_, I.base.tups, I.base.frzs, I.base.tbls⟩, ⟨_, hn', fun j y v' e1 e2 e3 => ?_⟩, fun y c e => ?_, I.free, I.freeC, fun p hp => ?_, tracked ⟨oL, hoL, I.free⟩ hs, by simpa using I.len⟩ ⟨_, hs, .inl rfl⟩
    · exact (hs.2 b (Nat.ne_of_lt (Nat.lt_of_lt_of_le (Heap.lt_size e) I.ok.above))).trans (I.base.keep b o e n hb hx)
    · obtain ⟨sl, e1⟩ := I.base.slot b o e n hb hx
      exact ⟨sl, (hs.2 b (Nat.ne_of_lt (Nat.lt_of_lt_of_le (Heap.lt_size e) I.ok.above))).trans e1⟩
    · obtain ⟨o', e1⟩ := I.base.there b o e hx
      exact ⟨o', (hs.2 b (Nat.ne_of_lt (Nat.lt_of_lt_of_le (Heap.lt_size e) I.ok.above))).trans e1⟩
    · by_cases hj : j = i
      · subst hj
        rw [hi] at e1; cases e1
        rw [List.getElem?_set_self hiσ] at e2
        cases e2
        exact ⟨u, r, .inl ⟨hk, by simp⟩⟩
      · rw [List.getElem?_set_ne (Ne.symm hj)] at e2
        obtain ⟨u', r', q⟩ := hl j y v' e1 e2 e3
        refine ⟨u', r', ?_⟩
        rcases q with ⟨k, e⟩ | ⟨k, c, e, z⟩
        · refine .inl ⟨k, ?_⟩
          have : y ≠ x := fun e => hj (nodup_ix hN e1 (e ▸ hi))
          simp [this, e]
        · exact .inr ⟨k, c, e, z.sameBut hs (cne y c e)⟩
    · obtain ⟨w', z⟩ := I.cell y c e
      exact ⟨w', z.sameBut hs (cne y c e)⟩
    · obtain ⟨e, n, ne, nf, d⟩ := I.pin p hp
      exact ⟨(hs.2 p.1 ne).trans e, n, ne, nf, d⟩
  · have hfn : X.fn x = true := by
      rcases hf with z | z
      · exact z
      · rw [z] at hk; cases hk
    obtain ⟨c, hc⟩ := I.ok.has x (.inl hk)
    obtain ⟨w', z⟩ := I.cell x c hc
    refine wpAny_storeName_cell I.ok.kind hk hc z (fun h' hc' hs => ?_)
    obtain ⟨oc, hoc, hocd⟩ := id z
    refine h { s with heap := h' } ⟨I.ok, I.os, I.bare, ⟨fun b o e n hb hx => ?_, fun b o e n hb hx => ?_, I.base.free, fun b o e hx => ?_, I.base.tups, I.base.frzs, I.base.tbls⟩, ⟨m, hn.sameBut hs (Ne.symm (cne x c hc)), fun j y v' e1 e2 e3 => ?_⟩, fun y c' e => ?_, I.free, I.freeC, fun p hp => ?_, tracked ⟨oc, hoc, I.freeC x c hc⟩ hs, by simpa using I.len⟩ ⟨c, hs, .inr hc⟩
    · exact (hs.2 b (Nat.ne_of_lt (Nat.lt_of_lt_of_le (Heap.lt_size e) (I.ok.cab x c hfn hc)))).trans (I.base.keep b o e n hb hx)
    · obtain ⟨sl, e1⟩ := I.base.slot b o e n hb hx
      exact ⟨sl, (hs.2 b (Nat.ne_of_lt (Nat.lt_of_lt_of_le (Heap.lt_size e) (I.ok.cab x c hfn hc)))).trans e1⟩
    · obtain ⟨o', e1⟩ := I.base.there b o e hx
      exact ⟨o', (hs.2 b (Nat.ne_of_lt (Nat.lt_of_lt_of_le (Heap.lt_size e) (I.ok.cab x c hfn hc)))).trans e1⟩
    · by_cases hj : j = i
      · subst hj
        rw [hi] at e1; cases e1
        rw [List.getElem?_set_self hiσ] at e2
        cases e2
        exact ⟨u, r, .inr ⟨.inl hk, c, hc, hc'⟩⟩
      · rw [List.getElem?_set_ne (Ne.symm hj)] at e2
        obtain ⟨u', r', q⟩ := hl j y v' e1 e2 e3
        refine ⟨u', r', ?_⟩
        rcases q with q | ⟨k, c', e, z'⟩
        · exact .inl q
        · refine .inr ⟨k, c', e, z'.sameBut hs ?_⟩
          rintro rfl
          exact hj (nodup_ix hN e1 (I.ok.inj _ _ _ e hc ▸ hi))
    · by_cases hcc : c' = c
      · subst hcc; exact ⟨_, hc'⟩
      · obtain ⟨w2, z2⟩ := I.cell y c' e
        exact ⟨w2, z2.sameBut hs hcc⟩
    · obtain ⟨e, n, ne, nf, d⟩ := I.pin p hp
      refine ⟨(hs.2 p.1 ?_).trans e, n, ne, nf, d⟩
      intro q
      rw [q, hoc] at e
      have q' : oc = p.2 := Option.some.inj e
      exact d w' (by rw [← q']; exact hocd)
theorem store_ok {M : Model} {A : Around} {E : Value → Shared → Prop} {i : Nat} {x : Str} {v : V} {u : Value} {Q : Unit → Shared → Prop} (I : Inv X pins σ H s) (hN : X.N.Nodup) (hi : X.N[i]? = some x) (hx : Loc X.env.scope x) (r : RelV v u)
    (h : ∀ s', Inv X pins (σ.set i (some v)) H s' → Q () s') (hf : X.fn x = true ∨ X.env.scope.names.lookup x = some .local := by first | exact .inl rfl | exact .inr rfl | assumption) : wpAny M A (storeName X.env x u) Q E s :=
  store_ok2 I hN hi hx r (fun s' I' _ => h s' I') hf
theorem Inv.call' {s' : Shared} {ch : List Addr} (I : Inv X pins σ H s) (ho : s'.os = s.os) (u : Un (frs X.stack) ch H H' s.heap s'.heap) (hok : HOk X.prog X.w H' s'.heap) (hg : AllBare s'.gens)
    (hch : ∀ b ∈ ch, (b ∈ X.ex ∨ X.s₀.heap.objs.size ≤ b) ∧ b ≠ X.env.locals ∧ (∀ x c, X.env.cells.lookup x = some c → c ≠ b) ∧ ∀ p ∈ X.pn ++ pins, p.1 ≠ b) : Inv X pins σ H' s' := by
  obtain ⟨h', g', d', t', o'⟩ := s'
  have e : o' = s.os := ho
  subst e
  exact I.call (g' := g') (t' := t') (d' := d') u hok hg hch
end
abbrev XK := Value → Option Addr → Hp → Prop
abbrev St := List (Option V)
abbrev VK := V → Hp → Prop
abbrev TE := St → Hp → VK → Prop
abbrev TT := St → Hp → (Bool → Hp → Prop) → Prop
abbrev TA := St → Hp → (List V → Hp → Prop) → Prop
structure Ends where
  nx : St → Hp → Prop
  rt : VK
  bk : St → Hp → Prop := fun _ _ => False
  ct : St → Hp → Prop := fun _ _ => False
abbrev TS := Ends → St → Hp → Prop
def EP (X : Cx) (pins : List (Addr × Obj)) (σ : St) (Q : VK) (u : Value) (s' : Shared) : Prop := ∃ v H', Inv X pins σ H' s' ∧ RelV v u ∧ Q v H'
def TP (X : Cx) (pins : List (Addr × Obj)) (σ : St) (Q : Bool → Hp → Prop) (b : Bool) (s' : Shared) : Prop := ∃ H', Inv X pins σ H' s' ∧ Q b H'
def AP (X : Cx) (pins : List (Addr × Obj)) (σ : St) (Q : List V → Hp → Prop) (us : List Value) (s' : Shared) : Prop := ∃ vs H', Inv X pins σ H' s' ∧ Vals vs us ∧ Q vs H'
def SP (X : Cx) (pins : List (Addr × Obj)) (D : Ends) (f : Flow) (s' : Shared) : Prop :=
  match f with
  | .next => ∃ σ' H', Inv X pins σ' H' s' ∧ D.nx σ' H'
  | .brk => ∃ σ' H', Inv X pins σ' H' s' ∧ D.bk σ' H'
  | .cont => ∃ σ' H', Inv X pins σ' H' s' ∧ D.ct σ' H'
  | .ret u => ∃ v σ' H', Inv X pins σ' H' s' ∧ RelV v u ∧ D.rt v H'
def PE (X : Cx) (e : Expr) (t : TE) : Prop :=
  ∀ (pins : List (Addr × Obj)) (s : Shared) (σ : St) (H : Hp) (Q : VK), Inv X pins σ H s → t σ H Q → wpAny (model X.prog X.w) X.A (eval e X.env) (EP X pins σ Q) X.xe s
def PT (X : Cx) (e : Expr) (t : TT) : Prop :=
  ∀ (pins : List (Addr × Obj)) (s : Shared) (σ : St) (H : Hp) (Q : Bool → Hp → Prop), Inv X pins σ H s → t σ H Q → wpAny (model X.prog X.w) X.A (isTrue e X.env (eval e X.env)) (TP X pins σ Q) X.xe s
def PW (X : Cx) (e : Expr) (t : TT) : Prop :=
  ∀ (whole : Sem Value) (pins : List (Addr × Obj)) (s : Shared) (σ : St) (H : Hp) (Q : Bool → Hp → Prop), Inv X pins σ H s → t σ H Q → wpAny (model X.prog X.w) X.A (isTrue e X.env whole) (TP X pins σ Q) X.xe s
theorem PW.pt {X : Cx} {e : Expr} {t : TT} (h : PW X e t) : PT X e t := h _
def PA (X : Cx) (es : List Expr) (t : TA) : Prop :=
  ∀ (pos : Pos) (pins : List (Addr × Obj)) (s : Shared) (σ : St) (H : Hp) (Q : List V → Hp → Prop), Inv X pins σ H s → t σ H Q → wpAny (model X.prog X.w) X.A (spliced (backTo pos (starEach es X.env))) (AP X pins σ Q) X.xe s
def PS (X : Cx) (st : Stmt) (t : TS) : Prop :=
  ∀ (pins : List (Addr × Obj)) (s : Shared) (σ : St) (H : Hp) (D : Ends), Inv X pins σ H s → t D σ H → wpAny (model X.prog X.w) X.A (exec st X.env) (SP X pins D) X.xe s
def PSs (X : Cx) (st : List Stmt) (t : TS) : Prop :=
  ∀ (pins : List (Addr × Obj)) (s : Shared) (σ : St) (H : Hp) (D : Ends), Inv X pins σ H s → t D σ H → wpAny (model X.prog X.w) X.A (execs st X.env) (SP X pins D) X.xe s
theorem thn {α : Type} {t : Sem α} {Q Q' : α → Shared → Prop} {M : Model} {A : Around} {E : Value → Shared → Prop} {s : Shared} (h : wpAny M A t Q E s) (hQ : ∀ a s, Q a s → Q' a s) : wpAny M A t Q' E s := wpAny_mono h hQ fun _ _ x => x
end L2
namespace L2
open PySem PySem.Spec PyProof.Rows
section
variable {X : Cx}
def tVar (i : Nat) : TE := fun σ H Q => ∃ v, σ[i]? = some (some v) ∧ Q v H
def tC (v : V) : TE := fun _ H Q => Q v H
theorem pe_var {i : Nat} {x : Str} {pos : Pos} (hN : X.N[i]? = some x) (hv : Vis X.env.scope x) (hd : (x == ("__debug__" : Str)) = false := by decide) (hcd : (x == ("__classdict__" : Str)) = false := by decide) : PE X (.Name x pos) (tVar i) := by
  intro pins s σ H Q I h
  obtain ⟨v, e, h⟩ := h
  obtain ⟨m, hn, hl⟩ := I.loc
  obtain ⟨u, r, l⟩ := hl i x v hN e hv
  have fin : EP X pins σ Q u s := ⟨v, H, I, r, h⟩
  rcases l with ⟨hk, hm⟩ | ⟨hk, c, hc, hcell⟩
  · exact wpAny_Name (wpAny_loadName_local I.ok.kind hk hn hm fin) hd
  · rcases hk with hk | hk
    · exact wpAny_Name (wpAny_loadName_cell I.ok.kind hk hc hcell fin) hd
    · exact wpAny_Name (wpAny_loadName_free I.ok.kind hk hc hcell fin hcd) hd
theorem pe_int {i j pos} : PE X (.Constant (.int i) j pos) (tC (.int i)) := fun _ _ _ H _ I h => wpAny_Constant_int ⟨.int i, H, I.tok _, ⟨_, rfl⟩, h⟩
theorem pe_bl {b j pos} : PE X (.Constant (.bool b) j pos) (tC (.bl b)) := fun _ _ _ H _ I h => Constant_bool ⟨.bl b, H, I, rfl, h⟩
theorem pe_str {x j pos} : PE X (.Constant (.str x) j pos) (tC (.str x)) := fun _ _ _ H _ I h => Calls.Constant_str ⟨.str x, H, I.tok _, ⟨_, rfl⟩, h⟩
def Gl (X : Cx) (x : Str) : Prop := X.env.kindOf x = some .globalImplicit
theorem ld_glob {E : Value → Shared → Prop} {pins : List (Addr × Obj)} {s : Shared} {σ : St} {H : Hp} {x : Str} {u : Value} {pos : Pos} {Q : Value → Shared → Prop} (I : Inv X pins σ H s) (hg : Gl X x) (hm : X.mg x = some u) (h : Q u s)
    (hd : (x == ("__debug__" : Str)) = false := by decide) : wpAny (model X.prog X.w) X.A (eval (.Name x pos) X.env) Q E s :=
  Calls.Name_function_global I.ok.kind hg (Calls.loadGlobal_global (by rw [I.ok.glob]; exact I.mod.glob.keeps I.bk) hm h) hd
theorem ld_blt {E : Value → Shared → Prop} {pins : List (Addr × Obj)} {s : Shared} {σ : St} {H : Hp} {x : Str} {u : Value} {pos : Pos} {Q : Value → Shared → Prop} (I : Inv X pins σ H s) (hg : Gl X x) (hm : X.mg x = none) (hv : bootBuiltins x = some u) (h : Q u s)
    (hn : x ≠ "__name__" := by decide) (hd : (x == ("__debug__" : Str)) = false := by decide) : wpAny (model X.prog X.w) X.A (eval (.Name x pos) X.env) Q E s := by
  obtain ⟨mb, h1, h2⟩ := I.mod.blt
  exact Calls.Name_function_global I.ok.kind hg (Calls.loadGlobal_builtin (by rw [I.ok.glob]; exact I.mod.glob.keeps I.bk) hm (by rw [I.ok.blt]; exact h1.keeps I.bk) ((h2 x hn).trans hv) h) hd
theorem pe_bltn {x : Str} {v : V} {u : Value} {pos : Pos} (hg : Gl X x) (hm : X.mg x = none) (hv : bootBuiltins x = some u) (r : RelV v u) (hn : x ≠ "__name__" := by decide) (hd : (x == ("__debug__" : Str)) = false := by decide) : PE X (.Name x pos) (tC v) :=
  fun _ _ _ H _ I h => ld_blt I hg hm hv ⟨v, H, I, r, h⟩ hn hd
variable {a b : Expr} {ta tb : TE} {pos : Pos}
def PC (X : Cx) (op : CmpOp) (a b : Expr) (t : TE) : Prop :=
  ∀ (pins : List (Addr × Obj)) (s : Shared) (σ : St) (H : Hp) (Q : VK), Inv X pins σ H s → t σ H Q →
    wpAny (model X.prog X.w) X.A (eval a X.env) (fun v s₁ => wpAny (model X.prog X.w) X.A (eval b X.env) (fun u s₂ => wpAny (model X.prog X.w) X.A (compareOp op v u) (EP X pins σ Q) X.xe s₂) X.xe s₁) X.xe s
def tB (t : TE) : TT := fun σ H Q => t σ H fun x H1 => ∃ c, x = .bl c ∧ Q c H1
theorem pe_cmp {op : CmpOp} {t : TE} (h : PC X op a b t) (h1 : behindInMarks op b = false := by first | exact nobehind _ (by decide) (by decide) | rfl) : PE X (.Compare a [op] [b] pos) t := fun pins s σ H Q I hw => wpAny_Compare1 (h pins s σ H Q I hw) h1
theorem pt_cmp {op : CmpOp} {t : TE} (h : PC X op a b t) (h1 : behindInMarks op b = false := by first | exact nobehind _ (by decide) (by decide) | rfl) : PT X (.Compare a [op] [b] pos) (tB t) := by
  intro pins s σ H Q I hw
  refine wpAny_isTrue_Compare1 (thn (h pins s σ H _ I hw) fun v s1 h1 => thn h1 fun u s2 h2 => thn h2 fun c s3 ⟨x, H1, I1, r1, q1⟩ => ?_) h1
  obtain ⟨d, rfl, q⟩ := q1
  cases r1
  exact wpAny_truthy_bool ⟨H1, I1, q⟩
theorem pt_val {e : Expr} {t : TE} (h : PE X e t) (he : ∀ whole, isTrue e X.env whole = (do let v ← whole; standAt e.pos; holding [v] (truthy v)) := by intro _; rfl) : PT X e (tB t) := by
  intro pins s σ H Q I hw
  refine isTrue_plain (thn (h pins s σ H _ I hw) fun v s1 ⟨x, H1, I1, r1, q1⟩ => ?_) (he _)
  obtain ⟨d, rfl, q⟩ := q1
  cases r1
  exact wpAny_truthy_bool ⟨H1, I1, q⟩
variable {tA tB' : TT} {rest : List Expr}
def tAnd (t u : TT) : TT := fun σ H Q => t σ H fun c H1 => if c = true then u σ H1 Q else Q false H1
def tOr (t u : TT) : TT := fun σ H Q => t σ H fun c H1 => if c = true then Q true H1 else u σ H1 Q
def tNot (t : TT) : TT := fun σ H Q => t σ H fun c H1 => Q (!c) H1
theorem pw_and1 (ha : PT X a tA) : PW X (.BoolOp .And [a] pos) tA := by
  intro wh pins s σ H Q I h
  refine isTrue_and (thn (ha pins s σ H Q I h) fun c s1 e => ?_)
  cases c with
  | true => exact isTrue_and_nil e
  | false => exact e
theorem pw_or1 (ha : PT X a tA) : PW X (.BoolOp .Or [a] pos) tA := by
  intro wh pins s σ H Q I h
  refine isTrue_or (thn (ha pins s σ H Q I h) fun c s1 e => ?_)
  cases c with
  | false => exact isTrue_or_nil e
  | true => exact e
theorem pw_and (ha : PT X a tA) (hb : PW X (.BoolOp .And (b :: rest) pos) tB') : PW X (.BoolOp .And (a :: b :: rest) pos) (tAnd tA tB') := by
  intro wh pins s σ H Q I h
  refine isTrue_and (thn (ha pins s σ H _ I h) fun c s1 ⟨H1, I1, q1⟩ => ?_)
  cases c with
  | true => exact hb wh pins s1 σ H1 Q I1 q1
  | false => exact ⟨H1, I1, q1⟩
theorem pw_or (ha : PT X a tA) (hb : PW X (.BoolOp .Or (b :: rest) pos) tB') : PW X (.BoolOp .Or (a :: b :: rest) pos) (tOr tA tB') := by
  intro wh pins s σ H Q I h
  refine isTrue_or (thn (ha pins s σ H _ I h) fun c s1 ⟨H1, I1, q1⟩ => ?_)
  cases c with
  | true => exact ⟨H1, I1, q1⟩
  | false => exact hb wh pins s1 σ H1 Q I1 q1
theorem pt_not (ha : PT X a tA) : PT X (.UnaryOp .Not a pos) (tNot tA) := by
  intro pins s σ H Q I h
  exact isTrue_not (ha pins s σ H (fun c H1 => Q (!c) H1) I h)
def tAndV (ta tb : TE) : TE := fun σ H Q => ta σ H fun x H1 => ∃ c, x = .bl c ∧ if c = true then tb σ H1 Q else Q (.bl false) H1
def tOrV (ta tb : TE) : TE := fun σ H Q => ta σ H fun x H1 => ∃ c, x = .bl c ∧ if c = true then Q (.bl true) H1 else tb σ H1 Q
theorem pe_one {op} {t : TE} (h : PE X a t) : PE X (.BoolOp op [a] pos) t := fun pins s σ H Q I hw => BoolOp_one (h pins s σ H Q I hw)
theorem pe_and (ha : PE X a ta) (hb : PE X (.BoolOp .And (b :: rest) pos) tb) : PE X (.BoolOp .And (a :: b :: rest) pos) (tAndV ta tb) := by
  intro pins s σ H Q I h
  refine BoolOp_and (thn (ha pins s σ H _ I h) fun v s1 ⟨x, H1, I1, r1, q1⟩ => ?_)
  obtain ⟨c, rfl, q1⟩ := q1
  cases r1
  refine wpAny_truthy_bool ?_
  cases c with
  | true => exact hb pins s1 σ H1 Q I1 q1
  | false => exact ⟨.bl false, H1, I1, rfl, q1⟩
theorem pe_or (ha : PE X a ta) (hb : PE X (.BoolOp .Or (b :: rest) pos) tb) : PE X (.BoolOp .Or (a :: b :: rest) pos) (tOrV ta tb) := by
  intro pins s σ H Q I h
  refine BoolOp_or (thn (ha pins s σ H _ I h) fun v s1 ⟨x, H1, I1, r1, q1⟩ => ?_)
  obtain ⟨c, rfl, q1⟩ := q1
  cases r1
  refine wpAny_truthy_bool ?_
  cases c with
  | false => exact hb pins s1 σ H1 Q I1 q1
  | true => exact ⟨.bl true, H1, I1, rfl, q1⟩
end
end L2
namespace L2
open PySem PySem.Spec PyProof.Rows
def SqL (K : PySem.W.Frag) (H : Hp) (a : Addr) (xs : List V) : Prop :=
  Rd H a (.lst xs) ∨
    ∃ (o : Obj) (its : Array Value) (n : Nat), K.lookup a = some o ∧ o.cls = .type "list" ∧ o.dict = none ∧ o.data = .seq its n ∧ its.size ≤ sizeLine ∧ Vals xs its.toList
def SqT (K : PySem.W.Frag) (H : Hp) (a : Addr) (xs : List V) : Prop :=
  Rd H a (.tup xs) ∨
    ∃ (o : Obj) (its : Array Value) (n : Nat), K.lookup a = some o ∧ o.cls = .type "tuple" ∧ o.data = .seq its n ∧ its.size ≤ sizeLine ∧ Vals xs its.toList
def absV : Value → Option V
  | .none => some .non
  | .bool b => some (.bl b)
  | .int i _ => some (.int i)
  | .str x _ => some (.str x)
  | .bytes b _ => some (.byt b)
  | .float b _ => some (.flt b)
  | .ref a => some (.ref a)
  | .type n => some (.ty n)
  | _ => none
theorem RelV.abs {x : V} {u : Value} (r : RelV x u) : absV u = some x := by
  cases x with
  | non => cases r; rfl
  | bl _ => cases r; rfl
  | int _ => obtain ⟨t, rfl⟩ := r; rfl
  | str _ => obtain ⟨t, rfl⟩ := r; rfl
  | byt _ => obtain ⟨t, rfl⟩ := r; rfl
  | flt _ => obtain ⟨t, rfl⟩ := r; rfl
  | ref _ => cases r; rfl
  | ty _ => cases r; rfl
theorem RelV.inj {x y : V} {u : Value} (r : RelV x u) (q : RelV y u) : x = y := Option.some.inj (r.abs.symm.trans q.abs)
theorem Vals.inj : ∀ {xs ys : List V} {us : List Value}, Vals xs us → Vals ys us → xs = ys
  | _, _, _, .nil, .nil => rfl
  | _, _, _, .cons r t, .cons r' t' => by rw [r.inj r', Vals.inj t t']
section
variable {X : Cx} {pins : List (Addr × Obj)} {σ : St} {H : Hp} {s : Shared} {a : Addr} {xs ys : List V}
theorem SqL.of {K : PySem.W.Frag} (h : H a = some (.lst xs)) : SqL K H a xs := .inl (.inl h)
theorem SqT.of {K : PySem.W.Frag} (h : H a = some (.tup xs)) : SqT K H a xs := .inl (.inl h)
theorem Inv.list (I : Inv X pins σ H s) (h : SqL X.K H a xs) : ∃ its : List Value, Vals xs its ∧ PlainL s.heap a its.toArray ∧ xs.length ≤ sizeLine := by
  rcases h with h | ⟨o, its, n, hk, hc, hd, hs, hz, r⟩
  · obtain ⟨z, its, n, r, e⟩ := h.ok I.hok
    exact ⟨its, r, ⟨_, n, e, rfl, rfl, rfl⟩, z⟩
  · refine ⟨its.toList, r, ⟨o, n, I.kIn a o hk, hc, hd, by simpa using hs⟩, ?_⟩
    have e := r.length
    simp only [Array.length_toList] at e
    lia
theorem Inv.tuple (I : Inv X pins σ H s) (h : SqT X.K H a xs) : ∃ its : List Value, Vals xs its ∧ IsTup s.heap a its.toArray ∧ xs.length ≤ sizeLine := by
  rcases h with h | ⟨o, its, n, hk, hc, hs, hz, r⟩
  · obtain ⟨z, its, r, p⟩ := h.ok I.hok
    exact ⟨its, r, p, z⟩
  · refine ⟨its.toList, r, ⟨o, I.kIn a o hk, hc, n, by simpa using hs⟩, ?_⟩
    have e := r.length
    simp only [Array.length_toList] at e
    lia
theorem Inv.list_inj (I : Inv X pins σ H s) (h : SqL X.K H a xs) (h' : SqL X.K H a ys) : xs = ys := by
  obtain ⟨its, r, ⟨o, n, e, _, _, d⟩, _⟩ := I.list h
  obtain ⟨its', r', ⟨o', n', e', _, _, d'⟩, _⟩ := I.list h'
  rw [e] at e'; cases e'
  rw [d] at d'
  injection d' with d1 _
  have : its = its' := by simpa using congrArg Array.toList d1
  subst this
  exact r.inj r'
theorem Inv.tuple_inj (I : Inv X pins σ H s) (h : SqT X.K H a xs) (h' : SqT X.K H a ys) : xs = ys := by
  obtain ⟨its, r, ⟨o, e, _, n, d⟩, _⟩ := I.tuple h
  obtain ⟨its', r', ⟨o', e', _, n', d'⟩, _⟩ := I.tuple h'
  rw [e] at e'; cases e'
  rw [d] at d'
  injection d' with d1 _
  have : its = its' := by simpa using congrArg Array.toList d1
  subst this
  exact r.inj r'
end
abbrev Cx.wish (X : Cx) (E : Value → Shared → Prop) : Cx := { X with xe := E }
abbrev Cx.nox (X : Cx) : Cx := X.wish fun _ _ => False
theorem Cx.Ok.wish {X : Cx} (ok : X.Ok) (E : Value → Shared → Prop) : (X.wish E).Ok :=
  ⟨ok.mod, ok.kind, ok.glob, ok.blt, ok.above, ok.inj, ok.has, ok.cab, ok.hd, ok.frames, ok.stk, ok.exf, ok.bs, ok.bsz, ok.noex, ok.exfs, ok.funs, ok.frf⟩
theorem Cx.Ok.unwish {X : Cx} {E : Value → Shared → Prop} (ok : (X.wish E).Ok) : X.Ok :=
  ⟨ok.mod, ok.kind, ok.glob, ok.blt, ok.above, ok.inj, ok.has, ok.cab, ok.hd, ok.frames, ok.stk, ok.exf, ok.bs, ok.bsz, ok.noex, ok.exfs, ok.funs, ok.frf⟩
section
variable {X : Cx} {pins : List (Addr × Obj)} {σ : St} {H : Hp} {s : Shared} {E : Value → Shared → Prop}
theorem Inv.wish (I : Inv X pins σ H s) (E : Value → Shared → Prop) : Inv (X.wish E) pins σ H s := ⟨I.ok.wish E, I.os, I.bare, I.base, I.loc, I.cell, I.free, I.freeC, I.pin, I.hok, I.len⟩
theorem Inv.unwish (I : Inv (X.wish E) pins σ H s) : Inv X pins σ H s := ⟨I.ok.unwish, I.os, I.bare, I.base, I.loc, I.cell, I.free, I.freeC, I.pin, I.hok, I.len⟩
theorem SP.unwish {D : Ends} {f : Flow} {s' : Shared} (h : SP (X.wish E) pins D f s') : SP X pins D f s' := by
  cases f with
  | next => obtain ⟨σ', H', I, q⟩ := h; exact ⟨σ', H', I.unwish, q⟩
  | brk => obtain ⟨σ', H', I, q⟩ := h; exact ⟨σ', H', I.unwish, q⟩
  | cont => obtain ⟨σ', H', I, q⟩ := h; exact ⟨σ', H', I.unwish, q⟩
  | ret u => obtain ⟨v, σ', H', I, r, q⟩ := h; exact ⟨v, σ', H', I.unwish, r, q⟩
theorem PSs.nox {st : List Stmt} {t : TS} (h : PSs X.nox st t) : PSs X st t := fun pins s σ H D I hw =>
  wpAny_mono (h pins s σ H D (I.wish _) hw) (fun _ _ q => q.unwish) fun _ _ z => False.elim z
end
section
variable {X : Cx} {st : Stmt} {rest : List Stmt} {t u : TS} {e : Expr} {te : TE} {pos : Pos}
def tNext : TS := fun D σ H => D.nx σ H
def tSeq (t u : TS) : TS := fun D σ H => t { D with nx := u D } σ H
theorem pss_nil : PSs X [] tNext := fun _ _ σ H _ I h => wpAny_execs_nil ⟨σ, H, I, h⟩
theorem pss_cons (h1 : PS X st t) (h2 : PSs X rest u) : PSs X (st :: rest) (tSeq t u) := by
  intro pins s σ H D I h
  refine wpAny_execs_cons (thn (h1 pins s σ H { D with nx := u D } I h) fun f s1 q => ?_)
  cases f with
  | next =>
    obtain ⟨σ', H', I', q⟩ := q
    exact h2 pins s1 σ' H' D I' q
  | ret v => exact q
  | brk => exact q
  | cont => exact q
theorem pss_one (h1 : PS X st t) : PSs X [st] t := by
  intro pins s σ H D I h
  refine wpAny_execs_cons (thn (h1 pins s σ H D I h) fun f s1 q => ?_)
  cases f with
  | next => exact wpAny_execs_nil q
  | ret v => exact q
  | brk => exact q
  | cont => exact q
theorem Inv.quiet {pins : List (Addr × Obj)} {σ : St} {H : Hp} {s : Shared} (I : Inv X pins σ H s) : interactive X.env = false := by simp [interactive, I.ok.kind]
def tDrop (te : TE) : TS := fun D σ H => te σ H fun _ H1 => D.nx σ H1
theorem ps_expr (he : PE X e te) (hs : swapsWith e none pos.line X.env = pure false := by rfl) : PS X (.Expr e pos) (tDrop te) := by
  intro pins s σ H D I h
  exact wpAny_Expr_any (thn (he pins s σ H _ I h) fun v s1 ⟨x, H1, I1, r1, q1⟩ => ⟨σ, H1, I1, q1⟩) I.quiet hs
def tRet (te : TE) : TS := fun D σ H => te σ H D.rt
theorem ps_ret (he : PE X e te) : PS X (.Return (some e) pos) (tRet te) := by
  intro pins s σ H D I h
  exact wpAny_Return_some (thn (he pins s σ H _ I h) fun v s1 ⟨x, H1, I1, r1, q1⟩ => ⟨x, σ, H1, I1, r1, q1⟩)
def tIfS (c : TT) (t u : TS) : TS := fun D σ H => c σ H fun b H1 => if b = true then t D σ H1 else u D σ H1
theorem ps_if {c : Expr} {a b : List Stmt} {tc : TT} (hc : PT X c tc) (ha : PSs X a t) (hb : PSs X b u) : PS X (.If c a b pos) (tIfS tc t u) := by
  intro pins s σ H D I h
  refine wpAny_If (thn (hc pins s σ H _ I h) fun d s1 ⟨H1, I1, q1⟩ => ?_)
  cases d with
  | true => exact ha pins s1 σ H1 D I1 q1
  | false => exact hb pins s1 σ H1 D I1 q1
end
abbrev TG := V → St → Hp → (St → Hp → Prop) → Prop
abbrev TGs := List V → St → Hp → (St → Hp → Prop) → Prop
def PG (X : Cx) (target : Expr) (t : TG) : Prop :=
  ∀ (pins : List (Addr × Obj)) (s : Shared) (σ : St) (H : Hp) (v : V) (u : Value) (Q : St → Hp → Prop), Inv X pins σ H s → RelV v u → t v σ H Q →
    wpAny (model X.prog X.w) X.A (assign target X.env u) (fun _ s' => ∃ σ' H', Inv X pins σ' H' s' ∧ Q σ' H') X.xe s
def PGs (X : Cx) (ts : List Expr) (t : TGs) : Prop :=
  ∀ (pins : List (Addr × Obj)) (s : Shared) (σ : St) (H : Hp) (vs : List V) (us : List Value) (Q : St → Hp → Prop), Inv X pins σ H s → Vals vs us → t vs σ H Q →
    wpAny (model X.prog X.w) X.A (assignInOrder ((assignEach ts X.env).map (·.2)) us) (fun _ s' => ∃ σ' H', Inv X pins σ' H' s' ∧ Q σ' H') X.xe s
section
variable {X : Cx} {pos : Pos}
def gName (i : Nat) : TG := fun v σ H Q => Q (σ.set i (some v)) H
theorem pg_name {i : Nat} {x : Str} (hN : X.N.Nodup) (hi : X.N[i]? = some x) (hx : Loc X.env.scope x) (hf : X.fn x = true ∨ X.env.scope.names.lookup x = some .local := by first | exact .inl rfl | exact .inr rfl | assumption) : PG X (.Name x pos) (gName i) := by
  intro pins s σ H v u Q I r h
  exact wpAny_assign_Name (store_ok I hN hi hx r (fun s' I' => ⟨_, H, I', h⟩) hf)
def gNil : TGs := fun vs σ H Q => vs = [] ∧ Q σ H
def gCons (t : TG) (u : TGs) : TGs := fun vs σ H Q => ∃ v r, vs = v :: r ∧ t v σ H fun σ' H' => u r σ' H' Q
theorem pgs_nil : PGs X [] gNil := by
  intro pins s σ H vs us Q I r h
  obtain ⟨e, h⟩ := h
  subst e
  cases r
  exact assignInOrder_nil ⟨σ, H, I, h⟩
theorem pgs_cons {e : Expr} {es : List Expr} {t : TG} {u : TGs} (h1 : PG X e t) (h2 : PGs X es u)
    (hs : (assignEach (e :: es) X.env).map (·.2) = assign e X.env :: (assignEach es X.env).map (·.2) := by rfl) : PGs X (e :: es) (gCons t u) := by
  intro pins s σ H vs us Q I r h
  obtain ⟨v, vr, e1, h⟩ := h
  subst e1
  cases r with
  | cons r rr =>
    rw [hs]
    refine assignInOrder_cons (thn (h1 pins s σ H _ _ _ I r h) fun _ s1 ⟨σ1, H1, I1, q1⟩ => ?_)
    exact h2 pins s1 σ1 H1 _ _ Q I1 rr q1
def gTup (K : PySem.W.Frag) (n : Nat) (t : TGs) : TG := fun v σ H Q => ∃ a xs, v = .ref a ∧ SqT K H a xs ∧ xs.length = n ∧ t xs σ H Q
theorem pg_tup {es : List Expr} {k : Nat} {t : TGs} {n : Nat} (hc : X.calm = true) (h : PGs X es t)
    (hn : (assignEach es X.env).length = n := by rfl) (hst : (assignEach es X.env).findIdx? (·.1) = none := by rfl) : PG X (.Tuple es k pos) (gTup X.K n t) := by
  intro pins s σ H v u Q I r hw
  obtain ⟨a, xs, e1, hq, hl, hw⟩ := hw
  subst e1
  cases r
  obtain ⟨its, rv, ht, hz⟩ := I.tuple hq
  refine assign_Tuple_tuple (I.ok.hd hc) ht (by simp [hn, ← hl, rv.length]) hst fun h' hx => ?_
  have I1 : Inv X pins σ H { s with heap := h' } := I.kept (t' := s.toks) fun b o e => hx b o (Nat.ne_of_lt (Heap.lt_size e)) e
  exact h pins _ σ H xs _ Q I1 (by simpa using rv) hw
def tAsg (te : TE) (g : TG) : TS := fun D σ H => te σ H fun x H1 => g x σ H1 D.nx
theorem ps_asg {tg e : Expr} {te : TE} {g : TG} (he : PE X e te) (hg : PG X tg g) (hs : swapsWithSole [tg] e pos.line X.env = pure false := by rfl) (hw : swappedStores [tg] e X.env = pure none := by rfl)
    (h1 : (assignEach [tg] X.env).map (·.2) = [assign tg X.env] := by rfl) : PS X (.Assign [tg] e pos) (tAsg te g) := by
  intro pins s σ H D I h
  refine wpAny_Assign_stores (thn (he pins s σ H _ I h) fun v s1 ⟨x, H1, I1, r1, q1⟩ => ?_) hs hw
  rw [h1]
  exact thn (hg pins s1 σ H1 x v _ I1 r1 q1) fun _ s2 q => q
theorem ps_set {i : Nat} {x : Str} {e : Expr} {te : TE} {pos' : Pos} (hN : X.N.Nodup) (hi : X.N[i]? = some x) (hx : Loc X.env.scope x) (he : PE X e te) (hs : swapsWith e (some (.Name x pos')) pos.line X.env = pure false := by rfl) (hf : X.fn x = true ∨ X.env.scope.names.lookup x = some .local := by first | exact .inl rfl | exact .inr rfl | assumption) :
    PS X (.Assign [.Name x pos'] e pos) (tAsg te (gName i)) := by
  intro pins s σ H D I h
  refine wpAny_Assign_Name (thn (he pins s σ H _ I h) fun v s1 ⟨y, H1, I1, r1, q1⟩ => ?_) hs
  exact store_ok I1 hN hi hx r1 (fun s2 I2 => ⟨_, H1, I2, q1⟩) hf
end
section
variable {X : Cx} {pos : Pos}
def tWhile (c : TT) (tb : TS) : TS := fun D σ H => ∃ W : Nat → St → Hp → Prop, (∃ m, W m σ H) ∧ ∀ m σ H, W m σ H →
  c σ H fun b H1 => if b = true then ∃ N : St → Hp → Prop, (∀ σ' H', N σ' H' → ∃ m', m' < m ∧ W m' σ' H') ∧ tb { D with nx := N, ct := N, bk := D.nx } σ H1 else D.nx σ H1
theorem ps_while {c : Expr} {body : List Stmt} {tc : TT} {tb : TS} (hp : PassesOwn (model X.prog X.w) X.A X.env X.xe) (hc : PT X c tc) (hb : PSs X body tb) : PS X (.While c body [] pos) (tWhile tc tb) := by
  intro pins s σ H D I h
  obtain ⟨W, ⟨m0, w0⟩, turn⟩ := h
  refine wpAny_While (codeAny_whileLoop (fun n s' => ∃ σ' H', Inv X pins σ' H' s' ∧ W n σ' H') ?_ m0 ⟨σ, H, I, w0⟩)
  rintro n s1 ⟨σ1, H1, I1, w1⟩
  refine wpAny_passesOwn hp (thn (hc pins s1 σ1 H1 _ I1 (turn n σ1 H1 w1)) fun b s2 ⟨H2, I2, q2⟩ => ?_)
  cases b with
  | true =>
    obtain ⟨N, hN, q2⟩ := q2
    rw [if_pos rfl]
    refine wpAny_passesOwn hp (thn (hb pins s2 σ1 H2 _ I2 q2) fun f s3 q3 => ?_)
    cases f with
    | next =>
      obtain ⟨σ3, H3, I3, n3⟩ := q3
      obtain ⟨m', hm, w3⟩ := hN σ3 H3 n3
      exact ⟨m', hm, σ3, H3, I3, w3⟩
    | cont =>
      obtain ⟨σ3, H3, I3, n3⟩ := q3
      obtain ⟨m', hm, w3⟩ := hN σ3 H3 n3
      exact ⟨m', hm, σ3, H3, I3, w3⟩
    | brk => exact q3
    | ret v => exact q3
  | false =>
    rw [if_neg Bool.false_ne_true]
    exact wpAny_execs_nil ⟨σ1, H2, I2, q2⟩
end
structure It where
  go : Nat → Hp → Prop
  yld : Nat → Hp → V → Hp → Prop
  stop : Nat → Hp → Prop
def FpOk (X : Cx) (pins : List (Addr × Obj)) (H : Hp) (b : Addr) : Prop :=
  H b = none ∧ b ≠ X.env.locals ∧ b ∉ X.fs ∧ (b ∈ X.ex ∨ X.s₀.heap.objs.size ≤ b) ∧ (∀ x c, X.env.cells.lookup x = some c → c ≠ b) ∧ ∀ p ∈ X.pn ++ pins, p.1 ≠ b
theorem Inv.fpOk {X : Cx} {pins : List (Addr × Obj)} {σ : St} {H H' : Hp} {s : Shared} {b : Addr} (I : Inv X pins σ H s) (hb : s.heap.objs.size ≤ b) (hn : H' b = none) : FpOk X pins H' b := by
  refine ⟨hn, Nat.ne_of_gt (Nat.lt_of_lt_of_le I.lt hb), I.nofs hb, .inr (Nat.le_trans I.sz hb), fun x c e z => ?_, fun p hp z => ?_⟩
  · obtain ⟨v, q⟩ := I.cell x c e
    exact absurd (Nat.lt_of_lt_of_le q.lt (by rw [z]; exact hb)) (Nat.lt_irrefl _)
  · exact absurd (Nat.lt_of_lt_of_le (Heap.lt_size (I.pin p hp).1) (by rw [z]; exact hb)) (Nat.lt_irrefl _)
structure Turn (P : Program) (w : World) (K : PySem.W.Frag) (tg : Expr) (J : It) (fp : List Addr) (it : Addr) (tn : Nat → Heap → Prop) : Prop where
  mem : it ∈ fp
  obj : ∀ i h, tn i h → ∀ b ∈ fp, ∃ o, h.get? b = some o ∧ ∀ v, o.data ≠ .cell v
  keep : ∀ i h h', tn i h → (∀ b ∈ fp, ∀ o, h.get? b = some o → h'.get? b = some o) → tn i h'
  item : ∀ (X : Cx), X.prog = P → X.w = w → X.K = K → X.calm = true → ∀ (i : Nat) (pins : List (Addr × Obj)) (s : Shared) (σ : St) (H : Hp) (E : Value → Shared → Prop), Inv X pins σ H s → (∀ b ∈ fp, FpOk X pins H b) → tn i s.heap → J.go i H →
    wpAny (model P w) X.A (pyNext (.ref it)) (fun r s1 => ∃ u, r = some u ∧
      wpAny (model P w) X.A (letOwnedTupleGo tg (.ref it) u) (fun _ s2 => ∃ x H', Inv X pins σ H' s2 ∧ RelV x u ∧ J.yld i H x H' ∧ tn (i + 1) s2.heap ∧ ∀ b ∈ fp, H' b = none) E s1) E s
  done : ∀ (X : Cx), X.prog = P → X.w = w → X.K = K → X.calm = true → ∀ (i : Nat) (pins : List (Addr × Obj)) (s : Shared) (σ : St) (H : Hp) (E : Value → Shared → Prop), Inv X pins σ H s → (∀ b ∈ fp, FpOk X pins H b) → tn i s.heap → J.stop i H →
    wpAny (model P w) X.A (pyNext (.ref it)) (fun r s1 => r = none ∧ Inv X pins σ H s1) E s
  self : ∀ (A : Around) (i : Nat) (s : Shared) (Q : Value → Shared → Prop) (E : Value → Shared → Prop), tn i s.heap → Q (.ref it) s → wpAny (model P w) A (pyIter (.ref it)) Q E s
abbrev TI := St → Hp → (It → Hp → Prop) → Prop
def PIE (X : Cx) (pins : List (Addr × Obj)) (σ : St) (tg : Expr) (R : It → Hp → Prop) (itv : Value) (s2 : Shared) : Prop :=
  ∃ (it : Addr) (fp : List Addr) (tn : Nat → Heap → Prop) (J : It) (H' : Hp), itv = .ref it ∧ Inv X pins σ H' s2 ∧ Turn X.prog X.w X.K tg J fp it tn ∧ tn 0 s2.heap ∧ (∀ b ∈ fp, FpOk X pins H' b) ∧ R J H'
def PI (X : Cx) (tg iter : Expr) (wi : TI) : Prop :=
  ∀ (pins : List (Addr × Obj)) (s : Shared) (σ : St) (H : Hp) (R : It → Hp → Prop), Inv X pins σ H s → wi σ H R →
    wpAny (model X.prog X.w) X.A (eval iter X.env) (fun v s1 => wpAny (model X.prog X.w) X.A (pyIter v) (PIE X pins σ tg R) X.xe s1) X.xe s
theorem go_of {M : Model} {A : Around} {E : Value → Shared → Prop} {s : Shared} {tg : Expr} {it : Addr} {u : Value} {o : Obj} {n : String} {vs : Array Value} {Q : Unit → Shared → Prop} (ho : s.heap.get? it = some o) (hc : o.cls = .type n) (hd : o.data = .fields vs)
    (hn : ["enumerate", "zip", "dict_itemiterator", "dict_reverseitemiterator", "odict_iterator", "itertools.zip_longest", "itertools.pairwise"].contains n = false) (hQ : Q () s) : wpAny M A (letOwnedTupleGo tg (.ref it) u) Q E s := by
  unfold letOwnedTupleGo
  cases tg <;> first
    | exact wpAny_pure hQ
    | (cases u <;> first
        | exact wpAny_pure hQ
        | (refine wpAny_bind (wpAny_load ho ?_)
           rw [hc, hd]
           show wpAny M A (if (["enumerate", "zip", "dict_itemiterator", "dict_reverseitemiterator", "odict_iterator", "itertools.zip_longest", "itertools.pairwise"].contains n && vs[0]? == some (rawInt _)) = true then _ else _) Q E s
           rw [if_neg (by intro h; rw [hn, Bool.false_and] at h; cases h)]
           exact wpAny_pure hQ))
def Itl (K : PySem.W.Frag) (a : Addr) : It :=
  ⟨fun i H => ∃ xs x, SqL K H a xs ∧ xs[i]? = some x, fun i H x H' => H' = H ∧ ∀ xs, SqL K H a xs → xs[i]? = some x, fun i H => ∃ xs, SqL K H a xs ∧ xs.length ≤ i⟩
def Itt (K : PySem.W.Frag) (a : Addr) : It :=
  ⟨fun i H => ∃ xs x, SqT K H a xs ∧ xs[i]? = some x, fun i H x H' => H' = H ∧ ∀ xs, SqT K H a xs → xs[i]? = some x, fun i H => ∃ xs, SqT K H a xs ∧ xs.length ≤ i⟩
def Itr (lo : Int) (n : Nat) : It := ⟨fun i _ => i < n, fun i H x H' => H' = H ∧ x = .int (lo + i), fun i _ => n ≤ i⟩
theorem turn_list {P : Program} {w : World} {K : PySem.W.Frag} {tg : Expr} (a it : Addr) : Turn P w K tg (Itl K a) [it] it (fun i h => h.IsListIter it a i) where
  mem := by simp
  obj := fun i h st b hb => by
    have e : b = it := by simpa using hb
    subst e
    obtain ⟨o, e, c, d⟩ := st
    exact ⟨o, e, fun v z => by rw [d] at z; cases z⟩
  keep := fun i h h' st k => st.at fun o e => k it (by simp) o e
  item := by
    intro X hP hw hK hc i pins s σ H E I hf st hg
    subst hP hw hK
    obtain ⟨xs, x, hq, hx⟩ := hg
    obtain ⟨its, rv, p, hz⟩ := I.list hq
    obtain ⟨u, hu, ru⟩ := rv.get hx
    obtain ⟨f0, f1, f2, f3, f4, f5⟩ := hf it (by simp)
    refine wpAny_pyNext_list_item st p.isList (x := u) (by simpa using hu) fun h' st' sb => ?_
    have I1 : Inv X pins σ H { s with heap := h' } := I.turned (t' := s.toks) (fun b o hb e => (sb.2 b hb).trans e) f0 f1 f3 f4 f5
    obtain ⟨o, e, c, d⟩ := id st'
    exact ⟨u, rfl, go_of (s := { s with heap := h' }) e c d (by decide) ⟨x, H, I1, ru, ⟨rfl, fun ys hy => by rw [I.list_inj hy hq]; exact hx⟩, st', fun b hb => (hf b hb).1⟩⟩
  done := by
    intro X hP hw hK hc i pins s σ H E I hf st hg
    subst hP hw hK
    obtain ⟨xs, hq, hx⟩ := hg
    obtain ⟨its, rv, p, hz⟩ := I.list hq
    obtain ⟨f0, f1, f2, f3, f4, f5⟩ := hf it (by simp)
    have hl := rv.length
    exact wpAny_pyNext_list_end (I.ok.hd hc) st p.isList (by simp; lia) fun h' eb => ⟨rfl, I.turned (t' := s.toks) (fun b o hb e => eb b o hb e) f0 f1 f3 f4 f5⟩
  self := fun _ _ _ _ _ st h => wpAny_pyIter_listiter st h
theorem turn_tuple {P : Program} {w : World} {K : PySem.W.Frag} {tg : Expr} (a it : Addr) : Turn P w K tg (Itt K a) [it] it (fun i h => h.IsTupleIter it a i) where
  mem := by simp
  obj := fun i h st b hb => by
    have e : b = it := by simpa using hb
    subst e
    obtain ⟨o, e, c, d⟩ := st
    exact ⟨o, e, fun v z => by rw [d] at z; cases z⟩
  keep := fun i h h' st k => st.at fun o e => k it (by simp) o e
  item := by
    intro X hP hw hK hc i pins s σ H E I hf st hg
    subst hP hw hK
    obtain ⟨xs, x, hq, hx⟩ := hg
    obtain ⟨its, rv, p, hz⟩ := I.tuple hq
    obtain ⟨u, hu, ru⟩ := rv.get hx
    obtain ⟨f0, f1, f2, f3, f4, f5⟩ := hf it (by simp)
    refine wpAny_pyNext_tuple_item st (show s.heap.IsTuple a its.toArray from p) (x := u) (by simpa using hu) fun h' st' sb => ?_
    have I1 : Inv X pins σ H { s with heap := h' } := I.turned (t' := s.toks) (fun b o hb e => (sb.2 b hb).trans e) f0 f1 f3 f4 f5
    obtain ⟨o, e, c, d⟩ := id st'
    exact ⟨u, rfl, go_of (s := { s with heap := h' }) e c d (by decide) ⟨x, H, I1, ru, ⟨rfl, fun ys hy => by rw [I.tuple_inj hy hq]; exact hx⟩, st', fun b hb => (hf b hb).1⟩⟩
  done := by
    intro X hP hw hK hc i pins s σ H E I hf st hg
    subst hP hw hK
    obtain ⟨xs, hq, hx⟩ := hg
    obtain ⟨its, rv, p, hz⟩ := I.tuple hq
    obtain ⟨f0, f1, f2, f3, f4, f5⟩ := hf it (by simp)
    have hl := rv.length
    exact wpAny_pyNext_tuple_end (I.ok.hd hc) st (show s.heap.IsTuple a its.toArray from p) (by simp; lia) fun h' eb => ⟨rfl, I.turned (t' := s.toks) (fun b o hb e => eb b o hb e) f0 f1 f3 f4 f5⟩
  self := fun _ _ _ _ _ st h => wpAny_pyIter_tupleiter st h
theorem turn_range {P : Program} {w : World} {K : PySem.W.Frag} {tg : Expr} (it : Addr) (lo : Int) (n : Nat) : Turn P w K tg (Itr lo n) [it] it (fun i h => IsRangeIter h it (lo + (i : Nat) * 1) ((n : Int) - (i : Nat)) 1) where
  mem := by simp
  obj := fun i h st b hb => by
    have e : b = it := by simpa using hb
    subst e
    exact ⟨_, st, fun v z => by
      have z' : Data.fields _ = Data.cell v := z
      cases z'⟩
  keep := fun i h h' st k => k it (by simp) _ st
  item := by
    intro X hP hw hK hc i pins s σ H E I hf st hg
    subst hP hw hK
    obtain ⟨f0, f1, f2, f3, f4, f5⟩ := hf it (by simp)
    have W := Walks.range (prog := X.prog) (w := X.w) (I.ok.hd hc) it lo 1 n
    refine W.item i s _ _ hg st fun v h' tk hv st' kk => ?_
    obtain ⟨t, rfl⟩ := hv
    have I1 : Inv X pins σ H { s with heap := h', toks := tk } := I.turned (fun b o hb e => kk b o (by simpa using hb) e) f0 f1 f3 f4 f5
    refine ⟨_, rfl, go_of (s := { s with heap := h', toks := tk }) (n := "range_iterator") st' rfl rfl (by decide) ⟨.int (lo + i), H, I1, ⟨t, ?_⟩, ⟨rfl, rfl⟩, st', fun b hb => (hf b hb).1⟩⟩
    rw [Int.mul_one]
  done := by
    intro X hP hw hK hc i pins s σ H E I hf st hg
    subst hP hw hK
    obtain ⟨f0, f1, f2, f3, f4, f5⟩ := hf it (by simp)
    exact wpAny_pyNext_range_end (I.ok.hd hc) st (by have : n ≤ i := hg; lia) fun h' eb => ⟨rfl, I.turned (t' := s.toks) (fun b o hb e => eb b o hb e) f0 f1 f3 f4 f5⟩
  self := fun _ _ _ _ _ st h => wpAny_pyIter_rangeiter st h
end L2
namespace L2
open PySem PySem.Spec PyProof.Rows
section
variable {X : Cx} {tg : Expr}
def iList (K : PySem.W.Frag) (tl : TE) : TI := fun σ H R => tl σ H fun x H1 => ∃ a, x = .ref a ∧ (∃ xs, SqL K H1 a xs) ∧ R (Itl K a) H1
def iTup (K : PySem.W.Frag) (tl : TE) : TI := fun σ H R => tl σ H fun x H1 => ∃ a, x = .ref a ∧ (∃ xs, SqT K H1 a xs) ∧ R (Itt K a) H1
theorem pi_list {l : Expr} {tl : TE} (hl : PE X l tl) : PI X tg l (iList X.K tl) := by
  intro pins s σ H R I h
  refine thn (hl pins s σ H _ I h) fun v s1 ⟨x, H1, I1, r1, q1⟩ => ?_
  obtain ⟨a, e, ⟨xs, hq⟩, q⟩ := q1
  subst e
  cases r1
  obtain ⟨its, rv, p, hz⟩ := I1.list hq
  refine wpAny_pyIter_list p.isList ?_
  refine ⟨s1.heap.objs.size, [s1.heap.objs.size], _, _, H1, rfl, I1.kept (t' := s1.toks) fun b o e => Heap.get?_push_of_some _ e, turn_list a _, ⟨_, Heap.get?_push_size _ rfl, rfl, rfl⟩, fun b hb => ?_, q⟩
  have e : b = s1.heap.objs.size := by simpa using hb
  subst e
  exact I1.fpOk (Nat.le_refl _) (I1.hok.fresh (Nat.le_refl _))
theorem pi_tup {l : Expr} {tl : TE} (hl : PE X l tl) : PI X tg l (iTup X.K tl) := by
  intro pins s σ H R I h
  refine thn (hl pins s σ H _ I h) fun v s1 ⟨x, H1, I1, r1, q1⟩ => ?_
  obtain ⟨a, e, ⟨xs, hq⟩, q⟩ := q1
  subst e
  cases r1
  obtain ⟨its, rv, p, hz⟩ := I1.tuple hq
  refine wpAny_pyIter_tuple (show s1.heap.IsTuple a its.toArray from p) ?_
  refine ⟨s1.heap.objs.size, [s1.heap.objs.size], _, _, H1, rfl, I1.kept (t' := s1.toks) fun b o e => Heap.get?_push_of_some _ e, turn_tuple a _, ⟨_, Heap.get?_push_size _ rfl, rfl, rfl⟩, fun b hb => ?_, q⟩
  have e : b = s1.heap.objs.size := by simpa using hb
  subst e
  exact I1.fpOk (Nat.le_refl _) (I1.hok.fresh (Nat.le_refl _))
theorem range_it {pins : List (Addr × Obj)} {σ : St} {H : Hp} {s : Shared} {R : It → Hp → Prop} {E : Value → Shared → Prop} {lo hi : Int} {t u v : Tok} {tk : Nat} (I : Inv X pins σ H s) (h1 : -(2 ^ 62) ≤ lo) (h2 : lo < 2 ^ 62) (h3 : -(2 ^ 62) ≤ hi) (h4 : hi < 2 ^ 62)
    (q : R (Itr lo (hi - lo).toNat) H) : wpAny (model X.prog X.w) X.A (pyIter (.ref s.heap.objs.size)) (PIE X pins σ tg R) E { s with heap := s.heap.push { cls := .type "range", data := .fields #[.int lo t, .int hi u, .int 1 v] }, toks := tk } := by
  refine wpAny_pyIter_range (IsRange.new ..) (small_one h1 h2 h3 h4) ?_
  have I1 : Inv X pins σ H { s with heap := s.heap.push { cls := .type "range", data := .fields #[.int lo t, .int hi u, .int 1 v] }, toks := tk } := I.kept fun b o e => Heap.get?_push_of_some _ e
  refine ⟨(s.heap.push { cls := .type "range", data := .fields #[.int lo t, .int hi u, .int 1 v] }).objs.size, [(s.heap.push { cls := .type "range", data := .fields #[.int lo t, .int hi u, .int 1 v] }).objs.size], _, _, H, rfl,
    I1.kept (t' := tk) fun b o e => Heap.get?_push_of_some _ e, turn_range _ lo (hi - lo).toNat, ?_, fun b hb => ?_, q⟩
  · have e1 : lo + ((0 : Nat) : Int) * 1 = lo := by simp
    have e2 : (((hi - lo).toNat : Nat) : Int) - ((0 : Nat) : Int) = Builtin.Range.rangeSize lo hi 1 := by rw [rangeSize_one]; split <;> lia
    show IsRangeIter _ _ (lo + ((0 : Nat) : Int) * 1) ((((hi - lo).toNat : Nat) : Int) - ((0 : Nat) : Int)) 1
    rw [e1, e2]
    exact Heap.get?_push_size _ rfl
  · have e : b = (s.heap.push { cls := .type "range", data := .fields #[.int lo t, .int hi u, .int 1 v] }).objs.size := by simpa using hb
    subst e
    exact I1.fpOk (Nat.le_refl _) (I1.hok.fresh (Nat.le_refl _))
def iRng1 (ta : TA) : TI := fun σ H R => ta σ H fun vs H1 => ∃ j : Int, vs = [.int j] ∧ -(2 ^ 62) ≤ j ∧ j < 2 ^ 62 ∧ R (Itr 0 j.toNat) H1
theorem pi_range1 {a : Expr} {ta : TA} {p pos : Pos} (hg : Gl X "range") (hm : X.mg "range" = none) (ha : PA X [a] ta) (hs : starEach [a] X.env = [(false, eval a X.env)] := by rfl) : PI X tg (.Call (.Name "range" p) [a] [] pos) (iRng1 ta) := by
  intro pins s σ H R I h
  refine Call_ (ld_blt I hg hm boot_range (PyProof.Rows.callWith_type1 (thn (ha pos pins s σ H _ I h) fun us s1 ⟨vs, H1, I1, r1, q1⟩ => ?_) hs rfl))
  obtain ⟨j, e, q1, q2, q⟩ := q1
  subst e
  cases r1 with
  | cons r rr =>
    cases rr
    obtain ⟨t, rfl⟩ := r
    exact call_range_1 (range_it I1 (by lia) (by lia) q1 q2 (by simpa using q))
def tFor (wi : TI) (g : TG) (tb : TS) : TS := fun D σ H => wi σ H fun J H1 => ∃ W : Nat → Nat → St → Hp → Prop, (∃ m, W 0 m σ H1) ∧ ∀ i m σ H, W i m σ H →
  (J.stop i H ∧ D.nx σ H) ∨ (J.go i H ∧ ∃ N : St → Hp → Prop, (∀ σ' H', N σ' H' → ∃ m', m' < m ∧ W (i + 1) m' σ' H') ∧ ∀ x H', J.yld i H x H' → g x σ H' fun σ2 H2 => tb { D with nx := N, ct := N, bk := D.nx } σ2 H2)
def pinsAt (fp : List Addr) (h : Heap) : List (Addr × Obj) := fp.filterMap fun b => (h.get? b).map fun o => (b, o)
theorem mem_pinsAt {fp : List Addr} {h : Heap} {b : Addr} {o : Obj} (hb : b ∈ fp) (e : h.get? b = some o) : (b, o) ∈ pinsAt fp h := List.mem_filterMap.mpr ⟨b, hb, by rw [e]; rfl⟩
theorem of_pinsAt {fp : List Addr} {h : Heap} {p : Addr × Obj} (hp : p ∈ pinsAt fp h) : p.1 ∈ fp ∧ h.get? p.1 = some p.2 := by
  obtain ⟨b, hb, e⟩ := List.mem_filterMap.mp hp
  cases q : h.get? b with
  | none => rw [q] at e; cases e
  | some o =>
    rw [q] at e
    have e' : (b, o) = p := Option.some.inj e
    subst e'
    exact ⟨hb, q⟩
theorem Inv.pinned {pins : List (Addr × Obj)} {σ : St} {H : Hp} {s : Shared} {fp : List Addr} (I : Inv X pins σ H s) (hf : ∀ b ∈ fp, FpOk X pins H b) (ho : ∀ b ∈ fp, ∃ o, s.heap.get? b = some o ∧ ∀ v, o.data ≠ .cell v) : Inv X (pins ++ pinsAt fp s.heap) σ H s :=
  I.pins_of fun p hp => (List.mem_append.mp hp).elim (fun z => I.pin p (List.mem_append_right _ z)) fun z => by
    obtain ⟨hb, e⟩ := of_pinsAt z
    obtain ⟨f0, f1, f2, _⟩ := hf p.1 hb
    obtain ⟨o, e', d⟩ := ho p.1 hb
    rw [e] at e'; cases e'
    exact ⟨e, f0, f1, f2, d⟩
theorem Inv.unpinned {pins pl : List (Addr × Obj)} {σ : St} {H : Hp} {s : Shared} (I : Inv X (pins ++ pl) σ H s) : Inv X pins σ H s := I.pins_of fun p hp => I.pin p (List.mem_append_right _ (List.mem_append_left _ hp))
theorem ps_for {iter : Expr} {body : List Stmt} {wi : TI} {g : TG} {tb : TS} {pos : Pos} (hp : PassesOwn (model X.prog X.w) X.A X.env X.xe) (hc : X.calm = true) (hi : PI X tg iter wi) (hg : PG X tg g) (hb : PSs X body tb)
    (hs : ∀ x, foldedSetIterable iter X.env x = pure x := by intro _; rfl) : PS X (.For tg iter body [] pos) (tFor wi g tb) := by
  intro pins s σ H D I h
  refine wpAny_For (thn (hi pins s σ H _ I h) fun v s1 h1 => thn h1 fun itv s2 h2 => ?_) hs
  obtain ⟨it, fp, tn, J, H2, e, I2, T, st2, f2, W, ⟨m0, w0⟩, turn⟩ := h2
  subst e
  -- what stays true of the iterator's objects through the loop
  have stat : ∀ {H' : Hp}, (∀ b ∈ fp, H' b = none) → ∀ b ∈ fp, FpOk X pins H' b := fun hn b hb => ⟨hn b hb, (f2 b hb).2⟩
  refine codeAny_forLoop_any (fun n s' => ∃ i σ' H', Inv X pins σ' H' s' ∧ tn i s'.heap ∧ (∀ b ∈ fp, H' b = none) ∧ W i n σ' H') ?_ m0 ⟨0, σ, H2, I2, st2, fun b hb => (f2 b hb).1, w0⟩
  rintro n s3 ⟨i, σ3, H3, I3, st3, fr3, w3⟩
  rcases turn i n σ3 H3 w3 with ⟨stop, qn⟩ | ⟨go, N, hN, step⟩
  · refine wpAny_passesOwn hp (thn (T.done X rfl rfl rfl hc i pins s3 σ3 H3 X.xe I3 (stat fr3) st3 stop) fun r s4 ⟨hr, I4⟩ => ?_)
    subst hr
    exact wpAny_execs_nil ⟨σ3, H3, I4, qn⟩
  · refine wpAny_passesOwn hp (thn (T.item X rfl rfl rfl hc i pins s3 σ3 H3 X.xe I3 (stat fr3) st3 go) fun r s4 ⟨u, hr, h4⟩ => ?_)
    subst hr
    refine wpAny_passesOwn hp (thn h4 fun _ s5 ⟨x, H5, I5, r5, y5, st5, fr5⟩ => ?_)
    have I5' := I5.pinned (stat fr5) (T.obj _ _ st5)
    refine wpAny_passesOwn hp (thn (hg _ s5 σ3 H5 x u _ I5' r5 (step x H5 y5)) fun _ s6 ⟨σ6, H6, I6, q6⟩ => ?_)
    refine wpAny_passesOwn hp (thn (hb _ s6 σ6 H6 _ I6 q6) fun f s7 q7 => ?_)
    have again : ∀ {σ7 : St} {H7 : Hp}, Inv X (pins ++ pinsAt fp s5.heap) σ7 H7 s7 → N σ7 H7 → ∃ m, m < n ∧ ∃ i σ' H', Inv X pins σ' H' s7 ∧ tn i s7.heap ∧ (∀ b ∈ fp, H' b = none) ∧ W i m σ' H' := fun {σ7 H7} I7 n7 => by
      obtain ⟨m', hm, w7⟩ := hN σ7 H7 n7
      refine ⟨m', hm, i + 1, σ7, H7, I7.unpinned, T.keep _ _ _ st5 fun b hb o e => (I7.pin (b, o) (List.mem_append_right _ (List.mem_append_right _ (mem_pinsAt hb e)))).1, fun b hb => ?_, w7⟩
      obtain ⟨o, e, d⟩ := T.obj _ _ st5 b hb
      exact (I7.pin (b, o) (List.mem_append_right _ (List.mem_append_right _ (mem_pinsAt hb e)))).2.1
    cases f with
    | next => obtain ⟨σ7, H7, I7, n7⟩ := q7; exact again I7 n7
    | cont => obtain ⟨σ7, H7, I7, n7⟩ := q7; exact again I7 n7
    | brk => obtain ⟨σ7, H7, I7, q7⟩ := q7; exact ⟨σ7, H7, I7.unpinned, q7⟩
    | ret v => obtain ⟨x7, σ7, H7, I7, r7, q7⟩ := q7; exact ⟨x7, σ7, H7, I7.unpinned, r7, q7⟩
end
theorem for_list {K : PySem.W.Frag} {a : Addr} {xs : List V} {g : TG} {tb : TS} {D : Ends} {σ : St} {H : Hp} (Pv : Nat → St → Hp → Prop) (h0 : Pv 0 σ H) (hl : ∀ i σ H, i ≤ xs.length → Pv i σ H → SqL K H a xs)
    (hs : ∀ i x σ H, xs[i]? = some x → Pv i σ H → g x σ H fun σ2 H2 => tb { D with nx := Pv (i + 1), ct := Pv (i + 1), bk := D.nx } σ2 H2) (hd : ∀ σ H, Pv xs.length σ H → D.nx σ H) :
    ∃ W : Nat → Nat → St → Hp → Prop, (∃ m, W 0 m σ H) ∧ ∀ i m σ H, W i m σ H →
      ((Itl K a).stop i H ∧ D.nx σ H) ∨ ((Itl K a).go i H ∧ ∃ N : St → Hp → Prop, (∀ σ' H', N σ' H' → ∃ m', m' < m ∧ W (i + 1) m' σ' H') ∧ ∀ x H', (Itl K a).yld i H x H' → g x σ H' fun σ2 H2 => tb { D with nx := N, ct := N, bk := D.nx } σ2 H2) := by
  refine ⟨fun i m σ H => m = xs.length - i ∧ i ≤ xs.length ∧ Pv i σ H, ⟨xs.length, by simp, Nat.zero_le _, h0⟩, ?_⟩
  rintro i m σ H ⟨rfl, hi, p⟩
  have q := hl i σ H hi p
  by_cases hlt : i < xs.length
  · refine .inr ⟨⟨xs, xs[i], q, by simp [hlt]⟩, Pv (i + 1), fun σ' H' p' => ⟨xs.length - (i + 1), by lia, rfl, hlt, p'⟩, fun x H' y => ?_⟩
    obtain ⟨e, y⟩ := y
    subst e
    exact hs i x σ _ (y xs q) p
  · have e : i = xs.length := by lia
    subst e
    exact .inl ⟨⟨xs, q, Nat.le_refl _⟩, hd σ H p⟩
theorem for_tup {K : PySem.W.Frag} {a : Addr} {xs : List V} {g : TG} {tb : TS} {D : Ends} {σ : St} {H : Hp} (Pv : Nat → St → Hp → Prop) (h0 : Pv 0 σ H) (hl : ∀ i σ H, i ≤ xs.length → Pv i σ H → SqT K H a xs)
    (hs : ∀ i x σ H, xs[i]? = some x → Pv i σ H → g x σ H fun σ2 H2 => tb { D with nx := Pv (i + 1), ct := Pv (i + 1), bk := D.nx } σ2 H2) (hd : ∀ σ H, Pv xs.length σ H → D.nx σ H) :
    ∃ W : Nat → Nat → St → Hp → Prop, (∃ m, W 0 m σ H) ∧ ∀ i m σ H, W i m σ H →
      ((Itt K a).stop i H ∧ D.nx σ H) ∨ ((Itt K a).go i H ∧ ∃ N : St → Hp → Prop, (∀ σ' H', N σ' H' → ∃ m', m' < m ∧ W (i + 1) m' σ' H') ∧ ∀ x H', (Itt K a).yld i H x H' → g x σ H' fun σ2 H2 => tb { D with nx := N, ct := N, bk := D.nx } σ2 H2) := by
  refine ⟨fun i m σ H => m = xs.length - i ∧ i ≤ xs.length ∧ Pv i σ H, ⟨xs.length, by simp, Nat.zero_le _, h0⟩, ?_⟩
  rintro i m σ H ⟨rfl, hi, p⟩
  have q := hl i σ H hi p
  by_cases hlt : i < xs.length
  · refine .inr ⟨⟨xs, xs[i], q, by simp [hlt]⟩, Pv (i + 1), fun σ' H' p' => ⟨xs.length - (i + 1), by lia, rfl, hlt, p'⟩, fun x H' y => ?_⟩
    obtain ⟨e, y⟩ := y
    subst e
    exact hs i x σ _ (y xs q) p
  · have e : i = xs.length := by lia
    subst e
    exact .inl ⟨⟨xs, q, Nat.le_refl _⟩, hd σ H p⟩
theorem for_range {lo : Int} {n : Nat} {g : TG} {tb : TS} {D : Ends} {σ : St} {H : Hp} (Pv : Nat → St → Hp → Prop) (h0 : Pv 0 σ H)
    (hs : ∀ i σ H, i < n → Pv i σ H → g (.int (lo + i)) σ H fun σ2 H2 => tb { D with nx := Pv (i + 1), ct := Pv (i + 1), bk := D.nx } σ2 H2) (hd : ∀ σ H, Pv n σ H → D.nx σ H) :
    ∃ W : Nat → Nat → St → Hp → Prop, (∃ m, W 0 m σ H) ∧ ∀ i m σ H, W i m σ H →
      ((Itr lo n).stop i H ∧ D.nx σ H) ∨ ((Itr lo n).go i H ∧ ∃ N : St → Hp → Prop, (∀ σ' H', N σ' H' → ∃ m', m' < m ∧ W (i + 1) m' σ' H') ∧ ∀ x H', (Itr lo n).yld i H x H' → g x σ H' fun σ2 H2 => tb { D with nx := N, ct := N, bk := D.nx } σ2 H2) := by
  refine ⟨fun i m σ H => m = n - i ∧ i ≤ n ∧ Pv i σ H, ⟨n, by simp, Nat.zero_le _, h0⟩, ?_⟩
  rintro i m σ H ⟨rfl, hi, p⟩
  by_cases hlt : i < n
  · refine .inr ⟨hlt, Pv (i + 1), fun σ' H' p' => ⟨n - (i + 1), by lia, rfl, hlt, p'⟩, fun x H' y => ?_⟩
    obtain ⟨e, y⟩ := y
    subst e y
    exact hs i σ _ hlt p
  · have e : i = n := by lia
    subst e
    exact .inl ⟨Nat.le_refl _, hd σ H p⟩
end L2
namespace L2
open PySem PySem.Spec PyProof.Rows
abbrev R2 := V → V → Hp → VK → Prop
def OpR (X : Cx) (f : Value → Value → Sem Value) (r : R2) : Prop :=
  ∀ (pins : List (Addr × Obj)) (s : Shared) (σ : St) (H : Hp) (x y : V) (v u : Value) (Q : VK), Inv X pins σ H s → RelV x v → RelV y u → r x y H Q →
    wpAny (model X.prog X.w) X.A (f v u) (EP X pins σ Q) X.xe s
def UnR (X : Cx) (f : Value → Sem Value) (r : V → Hp → VK → Prop) : Prop :=
  ∀ (pins : List (Addr × Obj)) (s : Shared) (σ : St) (H : Hp) (x : V) (v : Value) (Q : VK), Inv X pins σ H s → RelV x v → r x H Q →
    wpAny (model X.prog X.w) X.A (f v) (EP X pins σ Q) X.xe s
def CallR (X : Cx) (f : Value) (r : List V → Hp → VK → Prop) : Prop :=
  ∀ (pins : List (Addr × Obj)) (s : Shared) (σ : St) (H : Hp) (xs : List V) (us : List Value) (Q : VK), Inv X pins σ H s → Vals xs us → r xs H Q →
    wpAny (model X.prog X.w) X.A (call f us) (EP X pins σ Q) X.xe s
def tOp (r : R2) (ta tb : TE) : TE := fun σ H Q => ta σ H fun x H1 => tb σ H1 fun y H2 => r x y H2 Q
def tUn (r : V → Hp → VK → Prop) (ta : TE) : TE := fun σ H Q => ta σ H fun x H1 => r x H1 Q
def rI (C : Int → Int → Prop) (g : Int → Int → V) : R2 := fun x y H Q => ∃ i j, x = .int i ∧ y = .int j ∧ C i j ∧ Q (g i j) H
def rI0 (g : Int → Int → V) : R2 := fun x y H Q => ∃ i j, x = .int i ∧ y = .int j ∧ Q (g i j) H
def rU (g : Int → V) : V → Hp → VK → Prop := fun x H Q => ∃ i, x = .int i ∧ Q (g i) H
section
variable {X : Cx} {a b c : Expr} {ta tb tc : TE} {pos : Pos}
theorem binT (ha : PE X a ta) (hb : PE X b tb) {pins : List (Addr × Obj)} {s : Shared} {σ : St} {H : Hp} {R : V → V → Hp → Prop} (I : Inv X pins σ H s)
    (h : ta σ H fun x H1 => tb σ H1 fun y H2 => R x y H2) {Q : Value → Shared → Prop} {f : Value → Value → Sem Value}
    (hf : ∀ v u s2 x y H2, Inv X pins σ H2 s2 → RelV x v → RelV y u → R x y H2 → wpAny (model X.prog X.w) X.A (f v u) Q X.xe s2) :
    wpAny (model X.prog X.w) X.A (eval a X.env) (fun v s₁ => wpAny (model X.prog X.w) X.A (eval b X.env) (fun u s₂ => wpAny (model X.prog X.w) X.A (f v u) Q X.xe s₂) X.xe s₁) X.xe s := by
  refine thn (ha pins s σ H _ I h) fun v s1 ⟨x, H1, I1, r1, q1⟩ => ?_
  refine thn (hb pins s1 σ H1 _ I1 q1) fun u s2 ⟨y, H2, I2, r2, q2⟩ => ?_
  exact hf v u s2 x y H2 I2 r1 r2 q2
theorem pe_op {op : Operator} {r : R2} (ho : OpR X (binaryOp op) r) (ha : PE X a ta) (hb : PE X b tb) : PE X (.BinOp a op b pos) (tOp r ta tb) := by
  intro pins s σ H Q I h
  exact wpAny_BinOp (binT ha hb I h fun v u s2 x y H2 I2 rx ry q => ho pins s2 σ H2 x y v u Q I2 rx ry q)
theorem pe_un {op : UnaryOp} {r : V → Hp → VK → Prop} (ho : UnR X (unaryOp op) r) (ha : PE X a ta) : PE X (.UnaryOp op a pos) (tUn r ta) := by
  intro pins s σ H Q I h
  exact UnaryOp_ (thn (ha pins s σ H _ I h) fun v s1 ⟨x, H1, I1, r1, q1⟩ => ho pins s1 σ H1 x v Q I1 r1 q1)
theorem opI {f : Value → Value → Sem Value} {C : Int → Int → Prop} {g : Int → Int → Int}
    (rule : ∀ (i j : Int) (t u : Tok) (s : Shared) (Q : Value → Shared → Prop) (E : Value → Shared → Prop), C i j → Q (.int (g i j) s.toks) { s with toks := s.toks + 1 } → wpAny (model X.prog X.w) X.A (f (.int i t) (.int j u)) Q E s) :
    OpR X f (rI C fun i j => .int (g i j)) := by
  intro pins s σ H x y v u Q I rx ry h
  obtain ⟨i, j, rfl, rfl, hc, q⟩ := h
  obtain ⟨t, rfl⟩ := rx
  obtain ⟨t', rfl⟩ := ry
  exact rule i j t t' s _ _ hc ⟨.int (g i j), H, I.tok _, ⟨_, rfl⟩, q⟩
theorem opI0 {f : Value → Value → Sem Value} {g : Int → Int → Int}
    (rule : ∀ (i j : Int) (t u : Tok) (s : Shared) (Q : Value → Shared → Prop) (E : Value → Shared → Prop), Q (.int (g i j) s.toks) { s with toks := s.toks + 1 } → wpAny (model X.prog X.w) X.A (f (.int i t) (.int j u)) Q E s) :
    OpR X f (rI0 fun i j => .int (g i j)) := by
  intro pins s σ H x y v u Q I rx ry h
  obtain ⟨i, j, rfl, rfl, q⟩ := h
  obtain ⟨t, rfl⟩ := rx
  obtain ⟨t', rfl⟩ := ry
  exact rule i j t t' s _ _ ⟨.int (g i j), H, I.tok _, ⟨_, rfl⟩, q⟩
theorem opB0 {f : Value → Value → Sem Value} {g : Int → Int → Bool}
    (rule : ∀ (i j : Int) (t u : Tok) (s : Shared) (Q : Value → Shared → Prop) (E : Value → Shared → Prop), Q (.bool (g i j)) s → wpAny (model X.prog X.w) X.A (f (.int i t) (.int j u)) Q E s) :
    OpR X f (rI0 fun i j => .bl (g i j)) := by
  intro pins s σ H x y v u Q I rx ry h
  obtain ⟨i, j, rfl, rfl, q⟩ := h
  obtain ⟨t, rfl⟩ := rx
  obtain ⟨t', rfl⟩ := ry
  exact rule i j t t' s _ _ ⟨.bl (g i j), H, I, rfl, q⟩
def CPow (i j : Int) : Prop := 0 ≤ j ∧ j ≤ 1000000 ∧ i.natAbs < 2 ^ 64
def CMul (i j : Int) : Prop := (-(2 ^ 64) < i ∧ i < 2 ^ 64) ∨ (-(2 ^ 64) < j ∧ j < 2 ^ 64)
theorem CMul.ok {i j : Int} (h : CMul i j) : IntMulOk i j := by
  rcases h with ⟨h1, h2⟩ | ⟨h1, h2⟩
  · exact .of_left (intBits_le_64 h1 h2)
  · exact .of_right (intBits_le_64 h1 h2)
theorem op_add : OpR X (binaryOp .Add) (rI0 fun i j => .int (i + j)) := opI0 fun _ _ _ _ _ _ _ q => add_int q
theorem op_sub : OpR X (binaryOp .Sub) (rI0 fun i j => .int (i - j)) := opI0 fun _ _ _ _ _ _ _ q => sub_int q
theorem op_mul : OpR X (binaryOp .Mult) (rI CMul fun i j => .int (i * j)) := opI fun _ _ _ _ _ _ _ hc q => mul_int q hc.ok
theorem op_mod : OpR X (binaryOp .Mod) (rI (fun _ j => 0 < j) fun i j => .int (i % j)) := opI fun i j _ _ _ _ _ hc q => by
  have h1 : (0 : Int) < j := hc
  exact mod_int' (by lia) (by rw [Int.fmod_eq_emod_of_nonneg i (by lia)]; exact q)
theorem op_pow : OpR X (binaryOp .Pow) (rI CPow fun i j => .int (i ^ j.toNat)) := opI fun _ _ _ _ _ _ _ hc q => pow_int_small hc.1 hc.2.1 hc.2.2 q
theorem unI {f : Value → Sem Value} {g : Int → Int}
    (rule : ∀ (i : Int) (t : Tok) (s : Shared) (Q : Value → Shared → Prop) (E : Value → Shared → Prop), Q (.int (g i) s.toks) { s with toks := s.toks + 1 } → wpAny (model X.prog X.w) X.A (f (.int i t)) Q E s) :
    UnR X f (rU fun i => .int (g i)) := by
  intro pins s σ H x v Q I rx h
  obtain ⟨i, rfl, q⟩ := h
  obtain ⟨t, rfl⟩ := rx
  exact rule i t s _ _ ⟨.int (g i), H, I.tok _, ⟨_, rfl⟩, q⟩
theorem un_neg : UnR X (unaryOp .USub) (rU fun i => .int (-i)) := unI fun _ _ _ _ _ q => neg_int q
end
def scal : V → V → Bool
  | .non, .non => true | .non, .int _ => true | .int _, .non => true | .non, .bl _ => true | .bl _, .non => true | .non, .str _ => true | .str _, .non => true
  | .int _, .int _ => true | .bl _, .bl _ => true | .str _, .str _ => true | .byt _, .byt _ => true
  | .int _, .str _ => true | .str _, .int _ => true | .bl _, .str _ => true | .str _, .bl _ => true
  | _, _ => false
def rEq : R2 := fun x y H Q => scal x y = true ∧ Q (.bl (decide (x = y))) H
def rNe : R2 := fun x y H Q => scal x y = true ∧ Q (.bl (!decide (x = y))) H
theorem dec_int {i j : Int} : decide (V.int i = V.int j) = (i == j) := by
  rw [Bool.eq_iff_iff]
  simp
theorem dec_bl {i j : Bool} : decide (V.bl i = V.bl j) = (i == j) := by
  rw [Bool.eq_iff_iff]
  simp
theorem dec_str {i j : Str} : decide (V.str i = V.str j) = (i == j) := by
  rw [Bool.eq_iff_iff]
  simp
theorem dec_byt {i j : Array UInt8} : decide (V.byt i = V.byt j) = (i.toList == j.toList) := by
  rw [Bool.eq_iff_iff]
  cases i
  cases j
  simp
section
variable {X : Cx} {a b c : Expr} {ta tb tc : TE} {pos : Pos}
theorem fin_bl {pins : List (Addr × Obj)} {σ : St} {H : Hp} {s : Shared} {Q : VK} {k k' : Bool} (I : Inv X pins σ H s) (q : Q (.bl k) H) (e : k = k') : EP X pins σ Q (.bool k') s := by
  subst e
  exact ⟨.bl k, H, I, rfl, q⟩
theorem op_eq : OpR X (compareOp .Eq) rEq := by
  intro pins s σ H x y v u Q I rx ry h
  obtain ⟨hs, q⟩ := h
  cases x with
  | non =>
    cases rx
    cases y with
    | non => cases ry; exact PySem.EqNone.eq_none_none (fin_bl I q (by simp))
    | bl j => cases ry; exact PySem.EqNone.eq_none_bool (fin_bl I q (by simp))
    | int j => obtain ⟨t', rfl⟩ := ry; exact PySem.EqNone.eq_none_int (fin_bl I q (by simp))
    | str j => obtain ⟨t', rfl⟩ := ry; exact PySem.EqNone.eq_none_str (fin_bl I q (by simp))
    | _ => exact absurd (show false = true from hs) Bool.false_ne_true
  | bl i =>
    cases rx
    cases y with
    | non => cases ry; exact PySem.EqNone.eq_bool_none (fin_bl I q (by simp))
    | bl j => cases ry; exact eq_bool (fin_bl I q dec_bl)
    | str j => obtain ⟨t', rfl⟩ := ry; exact PySem.EqMixed.eq_bool_str (fin_bl I q (by simp))
    | _ => exact absurd (show false = true from hs) Bool.false_ne_true
  | int i =>
    obtain ⟨t, rfl⟩ := rx
    cases y with
    | non => cases ry; exact PySem.EqNone.eq_int_none (fin_bl I q (by simp))
    | int j => obtain ⟨t', rfl⟩ := ry; exact eq_int (fin_bl I q dec_int)
    | str j => obtain ⟨t', rfl⟩ := ry; exact PySem.EqMixed.eq_int_str (fin_bl I q (by simp))
    | _ => exact absurd (show false = true from hs) Bool.false_ne_true
  | str i =>
    obtain ⟨t, rfl⟩ := rx
    cases y with
    | non => cases ry; exact PySem.EqNone.eq_str_none (fin_bl I q (by simp))
    | bl j => cases ry; exact PySem.EqMixed.eq_str_bool (fin_bl I q (by simp))
    | int j => obtain ⟨t', rfl⟩ := ry; exact PySem.EqMixed.eq_str_int (fin_bl I q (by simp))
    | str j => obtain ⟨t', rfl⟩ := ry; exact eq_str (fin_bl I q dec_str)
    | _ => exact absurd (show false = true from hs) Bool.false_ne_true
  | byt i =>
    obtain ⟨t, rfl⟩ := rx
    cases y with
    | byt j => obtain ⟨t', rfl⟩ := ry; exact PySem.W.eq_bytes (fin_bl I q dec_byt)
    | _ => exact absurd (show false = true from hs) Bool.false_ne_true
  | _ => cases y <;> exact absurd (show false = true from hs) Bool.false_ne_true
theorem op_ne : OpR X (compareOp .NotEq) rNe := by
  intro pins s σ H x y v u Q I rx ry h
  obtain ⟨hs, q⟩ := h
  cases x with
  | non =>
    cases rx
    cases y with
    | non => cases ry; exact PySem.EqNone.ne_none_none (fin_bl I q (by simp))
    | bl j => cases ry; exact PySem.EqNone.ne_none_bool (fin_bl I q (by simp))
    | int j => obtain ⟨t', rfl⟩ := ry; exact PySem.EqNone.ne_none_int (fin_bl I q (by simp))
    | str j => obtain ⟨t', rfl⟩ := ry; exact PySem.EqNone.ne_none_str (fin_bl I q (by simp))
    | _ => exact absurd (show false = true from hs) Bool.false_ne_true
  | bl i =>
    cases rx
    cases y with
    | non => cases ry; exact PySem.EqNone.ne_bool_none (fin_bl I q (by simp))
    | bl j => cases ry; exact ne_bool (fin_bl I q (congrArg not dec_bl))
    | str j => obtain ⟨t', rfl⟩ := ry; exact PySem.EqMixed.ne_bool_str (fin_bl I q (by simp))
    | _ => exact absurd (show false = true from hs) Bool.false_ne_true
  | int i =>
    obtain ⟨t, rfl⟩ := rx
    cases y with
    | non => cases ry; exact PySem.EqNone.ne_int_none (fin_bl I q (by simp))
    | int j => obtain ⟨t', rfl⟩ := ry; exact ne_int (fin_bl I q (congrArg not dec_int))
    | str j => obtain ⟨t', rfl⟩ := ry; exact PySem.EqMixed.ne_int_str (fin_bl I q (by simp))
    | _ => exact absurd (show false = true from hs) Bool.false_ne_true
  | str i =>
    obtain ⟨t, rfl⟩ := rx
    cases y with
    | non => cases ry; exact PySem.EqNone.ne_str_none (fin_bl I q (by simp))
    | bl j => cases ry; exact PySem.EqMixed.ne_str_bool (fin_bl I q (by simp))
    | int j => obtain ⟨t', rfl⟩ := ry; exact PySem.EqMixed.ne_str_int (fin_bl I q (by simp))
    | str j => obtain ⟨t', rfl⟩ := ry; exact ne_str (fin_bl I q (congrArg not dec_str))
    | _ => exact absurd (show false = true from hs) Bool.false_ne_true
  | byt i =>
    obtain ⟨t, rfl⟩ := rx
    cases y with
    | byt j => obtain ⟨t', rfl⟩ := ry; exact PySem.W.ne_bytes (fin_bl I q (congrArg not dec_byt))
    | _ => exact absurd (show false = true from hs) Bool.false_ne_true
  | _ => cases y <;> exact absurd (show false = true from hs) Bool.false_ne_true
theorem op_lt : OpR X (compareOp .Lt) (rI0 fun i j => .bl (decide (i < j))) := opB0 fun _ _ _ _ _ _ _ q => lt_int q
theorem op_gt : OpR X (compareOp .Gt) (rI0 fun i j => .bl (decide (j < i))) := opB0 fun _ _ _ _ _ _ _ q => gt_int q
theorem op_ge : OpR X (compareOp .GtE) (rI0 fun i j => .bl (decide (j ≤ i))) := opB0 fun _ _ _ _ _ _ _ q => ge_int q
theorem nomark (b : Expr) {op : CmpOp} (h : op ≠ .In := by decide) (h2 : op ≠ .NotIn := by decide) : behindInMarks op b = false := by
  have e1 : (op == CmpOp.In) = false := by cases op <;> first | rfl | exact absurd rfl h
  have e2 : (op == CmpOp.NotIn) = false := by cases op <;> first | rfl | exact absurd rfl h2
  cases b <;> simp [behindInMarks, e1, e2]
theorem pe_cmpR {op : CmpOp} {r : R2} (ho : OpR X (compareOp op) r) (ha : PE X a ta) (hb : PE X b tb) (hm : behindInMarks op b = false) : PE X (.Compare a [op] [b] pos) (tOp r ta tb) := by
  intro pins s σ H Q I h
  exact wpAny_Compare1 (binT ha hb I h fun v u s2 x y H2 I2 rx ry q => ho pins s2 σ H2 x y v u Q I2 rx ry q) hm
def tTest (t : TE) : TT := fun σ H Q => t σ H fun x H' => ∃ k, x = .bl k ∧ Q k H'
theorem pt_cmpR {op : CmpOp} {r : R2} (ho : OpR X (compareOp op) r) (ha : PE X a ta) (hb : PE X b tb) (hm : behindInMarks op b = false) : PT X (.Compare a [op] [b] pos) (tTest (tOp r ta tb)) := by
  intro pins s σ H Q I h
  refine wpAny_isTrue_Compare1 (thn (ha pins s σ H _ I h) fun v s1 ⟨x, H1, I1, r1, q1⟩ => thn (hb pins s1 σ H1 _ I1 q1) fun u s2 ⟨y, H2, I2, r2, q2⟩ =>
    thn (ho pins s2 σ H2 x y v u _ I2 r1 r2 q2) fun c s3 ⟨z, H3, I3, r3, k, e, q3⟩ => ?_) hm
  subst e
  cases r3
  exact wpAny_truthy_bool ⟨H3, I3, q3⟩
theorem line63 : (sizeLine : Nat) < 2 ^ 63 := by rw [sizeLine_eq]; decide
theorem op_add_str : OpR X (binaryOp .Add) (fun x y H Q => ∃ i j, x = .str i ∧ y = .str j ∧ i.length + j.length ≤ sizeLine ∧ Q (.str (i ++ j)) H) := by
  intro pins s σ H x y v u Q I rx ry h
  obtain ⟨i, j, rfl, rfl, hz, q⟩ := h
  obtain ⟨t, rfl⟩ := rx
  obtain ⟨t', rfl⟩ := ry
  exact add_str (fun t' tk => ⟨.str (i ++ j), H, I.tok _, ⟨_, rfl⟩, q⟩) hz
theorem vals1 {x : V} {us : List Value} (r : Vals [x] us) : ∃ u, us = [u] ∧ RelV x u := by
  cases r with
  | cons r1 r2 => cases r2; exact ⟨_, rfl, r1⟩
theorem vals2 {x y : V} {us : List Value} (r : Vals [x, y] us) : ∃ u w', us = [u, w'] ∧ RelV x u ∧ RelV y w' := by
  cases r with
  | cons r1 r2 =>
    cases r2 with
    | cons r3 r4 => cases r4; exact ⟨_, _, rfl, r1, r3⟩
theorem call_max2 (hc : X.calm = true) : CallR X (.builtin "max") (fun xs H Q => ∃ i j, xs = [.int i, .int j] ∧ Q (.int (if j > i then j else i)) H) := by
  intro pins s σ H xs us Q I r h
  obtain ⟨i, j, rfl, q⟩ := h
  obtain ⟨u, w', rfl, ⟨t, rfl⟩, ⟨t', rfl⟩⟩ := vals2 r
  refine max_two_ints (I.ok.hd hc) fun h' tk k => ⟨_, H, I.kept k, ?_, q⟩
  by_cases hj : j > i
  · rw [if_pos hj, if_pos hj]; exact ⟨_, rfl⟩
  · rw [if_neg hj, if_neg hj]; exact ⟨_, rfl⟩
theorem call_min2 (hc : X.calm = true) : CallR X (.builtin "min") (fun xs H Q => ∃ i j, xs = [.int i, .int j] ∧ Q (.int (if j < i then j else i)) H) := by
  intro pins s σ H xs us Q I r h
  obtain ⟨i, j, rfl, q⟩ := h
  obtain ⟨u, w', rfl, ⟨t, rfl⟩, ⟨t', rfl⟩⟩ := vals2 r
  refine min_two_ints (I.ok.hd hc) fun h' tk k => ⟨_, H, I.kept k, ?_, q⟩
  by_cases hj : j < i
  · rw [if_pos hj, if_pos hj]; exact ⟨_, rfl⟩
  · rw [if_neg hj, if_neg hj]; exact ⟨_, rfl⟩
theorem call_int1 : CallR X (.type "int") (fun xs H Q => (∃ i, xs = [.int i] ∧ Q (.int i) H) ∨ ∃ k, xs = [.bl k] ∧ Q (.int (if k then 1 else 0)) H) := by
  intro pins s σ H xs us Q I r h
  rcases h with ⟨i, rfl, q⟩ | ⟨k, rfl, q⟩
  · obtain ⟨u, rfl, t, rfl⟩ := vals1 r
    exact call_int_int ⟨.int i, H, I, ⟨_, rfl⟩, q⟩
  · obtain ⟨u, rfl, r1⟩ := vals1 r
    cases r1
    exact call_int_bool ⟨.int (if k then 1 else 0), H, I.tok _, ⟨_, rfl⟩, q⟩
end
end L2
namespace L2
open PySem PySem.Spec PyProof.Rows
structure ObjM (h : Heap) (x dx C : Addr) (mA : Str → Option Value) : Prop where
  obj : h.get? x = some (PySem.W.instObj C dx)
  ns : h.Ns1 dx mA
  ne : dx ≠ x
theorem lookIn_ns {h : Heap} {dx : Addr} {mA : Str → Option Value} (n : h.Ns1 dx mA) : ∃ od, h.get? dx = some od ∧ ∀ name, PySem.W.lookIn name od = some (mA name) := by
  obtain ⟨o, es, ep, ho, hd, hk, _, hm⟩ := n
  refine ⟨o, ho, fun name => ?_⟩
  have e := hm name
  unfold nsFind findBy at e
  rw [← Array.find?_toList] at e
  unfold PySem.W.lookIn
  rw [hd]
  dsimp only
  split
  · rename_i y q
    rw [q] at e
    exact congrArg some e
  · rename_i q
    rw [q] at e
    have a : es.toList.any (·.refKey) = false := by
      rw [List.any_eq_false]
      intro y hy
      obtain ⟨z, t, hkey⟩ := hk y (Array.mem_toList_iff.mp hy)
      simp [DictEntry.refKey, hkey]
    have a' : ¬ es.toList.any (·.refKey) = true := by rw [a]; exact Bool.false_ne_true
    rw [if_neg a']
    exact congrArg some e
theorem ObjM.look {h : Heap} {x dx C : Addr} {mA : Str → Option Value} (I : ObjM h x dx C mA) : ∃ od, PySem.W.InstAt h x (PySem.W.instObj C dx) C (some od) ∧ ∀ name, PySem.W.lookIn name od = some (mA name) :=
  let ⟨od, ho, hl⟩ := lookIn_ns I.ns
  ⟨od, ⟨I.obj, rfl, rfl, ho⟩, hl⟩
section
variable {prog : Program} {w : World} {A : Around} {E : Value → Shared → Prop} {s : Shared} {K : PySem.W.Frag} {x dx C f : Addr} {mA : Str → Option Value} {name : Str} {v : Value}
end
theorem RelO.some_of {v : V} {o : Option Value} (r : RelO (some v) o) : ∃ u, o = some u ∧ RelV v u := by
  cases o with
  | none => exact (show False from r).elim
  | some u => exact ⟨u, rfl, r⟩
section
variable {P : Program} {w : World} {H H' : Hp} {h h' : Heap} {a C dx : Addr} {fs fs' : List (Str × V)}
theorem ins_get (hok : HOk P w H h) (e : H a = some (.ins C dx fs)) : ∃ mA, ObjM h a dx C mA ∧ (∀ f, RelO (fs.lookup f) (mA f)) ∧ PySem.Within mA (fs.map (·.1)) ∧ fs.length ≤ 1000 ∧ H dx = some (.own a) := by
  obtain ⟨d, z, ne, ob, mA, n, r, q⟩ := (show ObjOk P w H h a (.ins C dx fs) from hok a _ e)
  exact ⟨mA, ⟨ob, n, ne⟩, r, q, z, d⟩
end
structure Cls (K : PySem.W.Frag) (C : Addr) : Prop where
  pg : PySem.W.plainGet K C Str.empty = true
  hd : PySem.W.hasDictIn K C = true
  po : PySem.W.plainOver K C = true
  sa : PySem.W.findIn K (.ref C) "__setattr__" = some (some (.builtin "object.__setattr__"))
theorem Cls.get {K : PySem.W.Frag} {C : Addr} (c : Cls K C) (f : Str) : PySem.W.plainGet K C f = true := c.pg
section
variable {X : Cx} {pins : List (Addr × Obj)} {σ : St} {H : Hp} {s : Shared} {a C dx : Addr} {fs : List (Str × V)} {f : Str} {v : V} {A : Around} {E : Value → Shared → Prop}
end
section
variable {X : Cx} {o e value : Expr} {f : Str} {pos pos' tpos : Pos} {ta tv : TE}
end
section
variable {X : Cx} {pins : List (Addr × Obj)} {σ : St} {H : Hp} {s : Shared} {A : Around} {E : Value → Shared → Prop} {Q : Value → Shared → Prop} {c : Value} {b : Bool}
inductive TyOf (K : PySem.W.Frag) (H : Hp) : V → Value → Prop where
  | non : TyOf K H .non (.type "NoneType")
  | bl (x : Bool) : TyOf K H (.bl x) (.type "bool")
  | int (i : Int) : TyOf K H (.int i) (.type "int")
  | str (x : Str) : TyOf K H (.str x) (.type "str")
  | flt (x : UInt64) : TyOf K H (.flt x) (.type "float")
  | lst {a : Addr} {xs : List V} (e : H a = some (.lst xs)) : TyOf K H (.ref a) (.type "list")
  | frz {a : Addr} {o : Obj} {xs : List V} (e : H a = some (.frz o (.lst xs))) : TyOf K H (.ref a) (.type "list")
  | tup {a : Addr} {xs : List V} (e : H a = some (.tup xs)) : TyOf K H (.ref a) (.type "tuple")
  | dK {a : Addr} {kvs : List (Key × V)} (e : H a = some (.dK kvs)) : TyOf K H (.ref a) (.type "dict")
  | dT {a : Addr} {kvs : List (List Key × V)} (e : H a = some (.dT kvs)) : TyOf K H (.ref a) (.type "dict")
  | ins {a C dx : Addr} {fs : List (Str × V)} (e : H a = some (.ins C dx fs)) (cl : Cls K C) (ha : PySem.W.findIn K (.ref C) "__class__" = some (some (.builtin "object.__class__")))
      (hn : PySem.W.specialIn K (.builtin "object.__class__") "__get__" = some (some (.builtin "getset_descriptor.__get__"))) (htk : PySem.W.takesIn K (.builtin "object.__class__") = some true)
      (hm : PySem.W.mroIn K C (.type "object") = some true) : TyOf K H (.ref a) (.ref C)
theorem isinst_ok {x : V} {u t : Value} (I : Inv X pins σ H s) (rx : RelV x u) (ty : TyOf X.K H x t) (e : PySem.W.kitOne X.K t c = some b) (h : ∀ tk, Q (.bool b) { s with toks := tk }) :
    wpAny (model X.prog X.w) A (call (.builtin "isinstance") [u, c]) Q E s := by
  cases ty with
  | non => cases (show u = Value.none from rx); exact PySem.W.kia_one PySem.W.kitx_none I.kIn True.intro e (fun z => nomatch z) h
  | bl y => cases (show u = Value.bool y from rx); exact PySem.W.kia_one PySem.W.kitx_bool I.kIn True.intro e (fun z => nomatch z) h
  | int i => obtain ⟨t, q⟩ := (show ∃ t, u = Value.int i t from rx); cases q; exact PySem.W.kia_one PySem.W.kitx_int I.kIn True.intro e (fun z => nomatch z) h
  | str y => obtain ⟨t, q⟩ := (show ∃ t, u = Value.str y t from rx); cases q; exact PySem.W.kia_one PySem.W.kitx_str I.kIn True.intro e (fun z => nomatch z) h
  | flt y => obtain ⟨t, q⟩ := (show ∃ t, u = Value.float y t from rx); cases q; exact PySem.W.kia_one PySem.W.kitx_float I.kIn True.intro e (fun z => nomatch z) h
  | @lst a xs ea =>
    cases (show u = Value.ref a from rx)
    obtain ⟨_, _, n, _, h1⟩ := (show ObjOk X.prog X.w H s.heap a (.lst xs) from I.hok a _ ea)
    exact PySem.W.kia_one PySem.W.kitx_list I.kIn ⟨_, h1, rfl⟩ e (fun z => nomatch z) h
  | @frz a ob xs ea =>
    cases (show u = Value.ref a from rx)
    obtain ⟨_, _, _, n, _, h1⟩ := (show ObjOk X.prog X.w H s.heap a (.frz ob (.lst xs)) from I.hok a _ ea)
    exact PySem.W.kia_one PySem.W.kitx_list I.kIn ⟨_, h1, rfl⟩ e (fun z => nomatch z) h
  | @tup a xs ea =>
    cases (show u = Value.ref a from rx)
    obtain ⟨_, _, _, p⟩ := (show ObjOk X.prog X.w H s.heap a (.tup xs) from I.hok a _ ea)
    obtain ⟨o, h1, h2, _⟩ := p
    exact PySem.W.kia_one PySem.W.kitx_tuple I.kIn ⟨o, h1, h2⟩ e (fun z => nomatch z) h
  | @dK a kvs ea =>
    cases (show u = Value.ref a from rx)
    obtain ⟨_, _, vs, _, p⟩ := (show ObjOk X.prog X.w H s.heap a (.dK kvs) from I.hok a _ ea)
    obtain ⟨o, es, ep, h1, h2, _⟩ := p
    exact PySem.W.kia_one PySem.W.kitx_dict I.kIn ⟨o, h1, h2.1⟩ e (fun z => nomatch z) h
  | @dT a kvs ea =>
    cases (show u = Value.ref a from rx)
    obtain ⟨_, _, xs, _, o, es, ep, h1, h2, _⟩ := (show ObjOk X.prog X.w H s.heap a (.dT kvs) from I.hok a _ ea)
    exact PySem.W.kia_one PySem.W.kitx_dict I.kIn ⟨o, h1, h2.1⟩ e (fun z => nomatch z) h
  | @ins a C dx fs ea cl ha hn htk hm =>
    cases (show u = Value.ref a from rx)
    obtain ⟨mA, O, _⟩ := ins_get I.hok ea
    obtain ⟨od, J, _⟩ := O.look
    exact PySem.W.kia_one (PySem.W.kitx_own (cl.get _) cl.hd ha hn htk hm) I.kIn J e (fun z => nomatch z) h
end
end L2
namespace L2
open PySem PySem.Spec PyProof.Rows
structure Room (k : Nat) (A : Around) : Prop where
  hd : A.handled = none
  dp : A.depth + 3 * k + 5 < recursionLimit
  un : A.units + 16 * k + 200 < cLine
theorem Room.mono {j k : Nat} {A : Around} (r : Room k A) (h : j ≤ k) : Room j A := ⟨r.hd, by have := r.dp; lia, by have := r.un; lia⟩
theorem Room.deeper {k : Nat} {A : Around} (r : Room (k + 1) A) (env : Env) : Room k (A.deeper env) :=
  ⟨r.hd, by have := r.dp; show A.depth + 1 + 3 * k + 5 < _; lia, by have := r.un; show A.units + 3 + 16 * k + 200 < _; lia⟩
theorem Room.depth {k : Nat} {A : Around} (r : Room k A) : A.depth < recursionLimit := by have := r.dp; lia
theorem Room.units {k : Nat} {A : Around} (r : Room k A) : A.units + 64 < cLine := by have := r.un; lia
theorem Room.units0 {k : Nat} {A : Around} (r : Room k A) : A.units < cLine := by have := r.un; lia
def tNil : TA := fun _ H Q => Q [] H
def tCons (ta : TE) (tr : TA) : TA := fun σ H Q => ta σ H fun x H1 => tr σ H1 fun xs H2 => Q (x :: xs) H2
section
variable {X : Cx} {e : Expr} {es : List Expr} {te : TE} {t : TA} {pos : Pos}
theorem pa_nil : PA X [] tNil := fun _ _ _ _ H Q I h => Calls.spliced_nil ⟨[], H, I, .nil, h⟩
theorem pa_cons (ha : PE X e te) (hr : PA X es t) (hs : starEach (e :: es) X.env = (false, eval e X.env) :: starEach es X.env := by rfl) : PA X (e :: es) (tCons te t) := by
  intro pos pins s σ H Q I h
  rw [hs]
  show wpAny _ _ (spliced ((false, eval e X.env) :: backTo pos (starEach es X.env))) _ _ s
  refine Calls.spliced_cons (thn (ha pins s σ H _ I h) fun u s1 ⟨x, H1, I1, r1, q1⟩ => ?_)
  exact thn (hr pos pins s1 σ H1 _ I1 q1) fun us s2 ⟨xs, H2, I2, r2, q2⟩ => ⟨x :: xs, H2, I2, .cons r1 r2, q2⟩
def tTup (t : TA) : TE := fun σ H Q => t σ H fun xs H1 => xs.length ≤ sizeLine ∧ ∀ p, H1 p = none → Q (.ref p) (upd H1 p (.tup xs))
def tLst (t : TA) : TE := fun σ H Q => t σ H fun xs H1 => xs.length ≤ sizeLine ∧ ∀ p, H1 p = none → Q (.ref p) (upd H1 p (.lst xs))
theorem pe_tup {x1} (h : PA X es t) : PE X (.Tuple es x1 pos) (tTup t) := by
  intro pins s σ H Q I hq
  refine wpAny_Tuple_spliced (thn (h pos pins s σ H _ I hq) fun us s1 ⟨xs, H1, I1, r, z, q⟩ => ⟨by rw [← r.length]; exact z, ?_⟩)
  have hf : H1 s1.heap.objs.size = none := I1.hok.fresh (Nat.le_refl _)
  refine ⟨.ref s1.heap.objs.size, upd H1 s1.heap.objs.size (.tup xs), I1.laid (t' := s1.toks) (fun b u e => Heap.get?_push_of_some _ e) (Nat.le_refl _) ?_, rfl, q _ hf⟩
  exact ⟨z, us, r, ⟨_, Heap.get?_push_size _ rfl, rfl, _, rfl⟩⟩
theorem pe_lst (h : PA X es t) : PE X (.List es pos) (tLst t) := by
  intro pins s σ H Q I hq
  refine wpAny_List_spliced (thn (h pos pins s σ H _ I hq) fun us s1 ⟨xs, H1, I1, r, z, q⟩ => ⟨by rw [← r.length]; exact z, ?_⟩)
  have hf : H1 s1.heap.objs.size = none := I1.hok.fresh (Nat.le_refl _)
  refine ⟨.ref s1.heap.objs.size, upd H1 s1.heap.objs.size (.lst xs), I1.laid (t' := s1.toks) (fun b u e => Heap.get?_push_of_some _ e) (Nat.le_refl _) ?_, rfl, q _ hf⟩
  exact ⟨z, us, 0, r, Heap.get?_push_size _ rfl⟩
end
abbrev Sp := List V → Hp → VK → XK → Prop
abbrev CXT := List Env → Hp → Shared → XK → Value → Shared → Prop
structure Env0 (P : Program) (w : World) (K : PySem.W.Frag) (mg : Str → Option Value) (base : Heap) (A : Around) (outer : List Env) (s : Shared) (H : Hp) : Prop where
  frames : A.frames = some outer
  mod : Mod K mg base
  bs : ∀ b o, base.get? b = some o → s.heap.get? b = some o ∧ H b = none
  bsz : base.objs.size ≤ s.heap.objs.size
  funs : s.heap.FunFrames base outer
  frf : ∀ b ∈ frs outer, H b = none
  hok : HOk P w H s.heap
  bare : AllBare s.gens
def CE (outer : List Env) (P : Program) (w : World) (H : Hp) (s : Shared) (Q : VK) (u : Value) (s' : Shared) : Prop :=
  ∃ v H', s'.os = s.os ∧ AllBare s'.gens ∧ Un (frs outer) [] H H' s.heap s'.heap ∧ HOk P w H' s'.heap ∧ RelV v u ∧ Q v H'
def CR (CX : CXT) (outer : List Env) (P : Program) (w : World) (H : Hp) (s : Shared) (Q : VK) (E : XK) (r : Result) (s' : Shared) : Prop :=
  match r with
  | .ok (.ret u) => CE outer P w H s Q u s'
  | .ok _ => False
  | .error e => CX outer H s E e s'
structure FnOk (P : Program) (w : World) (K : PySem.W.Frag) (mg : Str → Option Value) (base : Heap) (CX : CXT) (k : Nat) (f : Addr) (fd : FuncData) (ps : List Str) (sp : Sp) : Prop where
  len : ∀ vs H Q E, sp vs H Q E → vs.length = ps.length
  run : ∀ (A : Around) (outer : List Env) (s : Shared) (H : Hp) (args : Args) (us : List Value) (vs : List V) (Q : VK) (E : XK), Room k A → Env0 P w K mg base A outer s H → BindsTo s fd args (ps.zip us) → Vals vs us → sp vs H Q E →
    codeAny (model P w) A (.call (.ref f) args) (CR CX outer P w H s Q E) s
section
variable {X : Cx} {pins : List (Addr × Obj)} {σ : St} {H : Hp} {s s' : Shared}
theorem Inv.env0 (I : Inv X pins σ H s) : Env0 X.prog X.w X.K X.mg X.base X.A X.stack s H :=
  ⟨I.ok.frames, I.ok.mod, I.bs, Nat.le_trans I.ok.bsz I.sz, I.stack, I.stkFree, I.hok, I.bare⟩
theorem Inv.after {Q : VK} {u : Value} (I : Inv X pins σ H s) (h : CE X.stack X.prog X.w H s Q u s') : EP X pins σ Q u s' := by
  obtain ⟨v, H', os, bare, un, hok, r, q⟩ := h
  obtain ⟨hh, g, d, t, os'⟩ := s'
  obtain rfl : os' = s.os := os
  exact ⟨v, H', I.call (h' := hh) (g' := g) (d' := d) (t' := t) (ch := []) un hok bare (fun b z => absurd z (by simp)), r, q⟩
end
def tCall (sp : Sp) (dvs : List V) (E : XK) (t : TA) : TE := fun σ H Q => t σ H fun vs H1 => sp (vs ++ dvs) H1 Q E
def Binds (K : PySem.W.Frag) (fd : FuncData) (ps : List Str) (ds : List Value) : Prop :=
  ∀ (s : Shared) (us : List Value), K.In s.heap → (us ++ ds).length = ps.length → BindsTo s fd ⟨us, []⟩ (ps.zip (us ++ ds))
theorem Binds.all {K : PySem.W.Frag} {fd : FuncData} {ps : List Str} (h : ∀ us : List Value, us.length = ps.length → bindArgs fd ⟨us, []⟩ = pure (ps.zip us)) : Binds K fd ps [] := fun s us _ hl => by
  rw [List.append_nil] at hl ⊢
  exact .of_eq (h us hl)
def Passes (CX : CXT) (X : Cx) (E : XK) : Prop := ∀ (pins : List (Addr × Obj)) (σ : St) (H : Hp) (s : Shared) (e : Value) (s' : Shared), Inv X pins σ H s → CX X.stack H s E e s' → X.xe e s'
section
variable {X : Cx} {CX : CXT} {k : Nat} {f C : Addr} {fd : FuncData} {ps : List Str} {sp : Sp} {dvs : List V} {ds : List Value} {E : XK} {x m : Str} {p pos apos : Pos} {e o : Expr} {es : List Expr} {ta : TE} {t : TA}
theorem run_fn {pins : List (Addr × Obj)} {σ : St} {H : Hp} {s : Shared} {Q : VK} {us : List Value} {vs : List V} (F : FnOk X.prog X.w X.K X.mg X.base CX k f fd ps sp) (hr : Room k X.A) (hb : Binds X.K fd ps ds) (hd : Vals dvs ds) (hx : Passes CX X E)
    (I : Inv X pins σ H s) (r : Vals vs us) (h : sp (vs ++ dvs) H Q E) : wpAny (model X.prog X.w) X.A (call (.ref f) us) (EP X pins σ Q) X.xe s := by
  have r2 : Vals (vs ++ dvs) (us ++ ds) := r.append hd
  have hl : (us ++ ds).length = ps.length := by rw [← r2.length]; exact F.len _ _ _ _ h
  refine wpAny_call (codeAny_mono (F.run X.A X.stack s H ⟨us, []⟩ (us ++ ds) (vs ++ dvs) Q E hr I.env0 (hb s us I.kIn hl) r2 h) fun r s' hq => ?_)
  cases r with
  | error e => exact hx pins σ H s e s' I hq
  | ok fl =>
    cases fl with
    | ret u => exact I.after hq
    | next => exact False.elim hq
    | brk => exact False.elim hq
    | cont => exact False.elim hq
theorem pe_call (F : FnOk X.prog X.w X.K X.mg X.base CX k f fd ps sp) (hr : Room k X.A) (hg : Gl X x) (hm : X.mg x = some (.ref f)) (hk : PySem.W.keepIn X.K (.ref f) = true) (hb : Binds X.K fd ps ds) (hd : Vals dvs ds) (hx : Passes CX X E)
    (ha : PA X (e :: es) t) (hdb : (x == ("__debug__" : Str)) = false := by decide) (he : starEach (e :: es) X.env = (false, eval e X.env) :: starEach es X.env := by rfl) (hpl : (backTo pos (starEach es X.env)).any (·.1) = false := by rfl) :
    PE X (.Call (.Name x p) (e :: es) [] pos) (tCall sp dvs E t) := by
  intro pins s σ H Q I h
  refine wpAny_Call_Name_kw (ld_glob I hg hm ?_ hdb)
  refine PySem.W.callWith_K (h₀ := X.base) I.ok.mod.kin hk (thn (ha pos pins s σ H _ I h) fun us s1 ⟨vs, H1, I1, r, q⟩ => ⟨I1.kIn, ?_⟩) he hpl
  exact run_fn F hr hb hd hx I1 r q
end
section
variable {X : Cx} {CX : CXT} {k : Nat} {f C : Addr} {fd : FuncData} {ps ks : List Str} {sp : Sp} {E : XK} {x m : Str} {p pos apos kpos : Pos} {e o : Expr} {es : List Expr} {kws : List Keyword} {te ta : TE} {t tk : TA} {nm : Option Str}
variable {g : List Value → List Value → List Value} {gV : List V → List V → List V}
end
structure FnScope (N P : List Str) (sc : Scope) : Prop where
  kind : sc.kind = .function
  co : sc.isCoroutine = false
  gen : sc.isGenerator = false
  nd : N.Nodup
  pre : N.take P.length = P
  par : ∀ x ∈ P, sc.names.lookup x = some .local ∨ sc.names.lookup x = some .cell
  nofree : ∀ y ∈ sc.names, y.2 ≠ .free
theorem bindL_out {kindOf : Str → Option NameKind} {x : Str} : ∀ {binds : List (Str × Value)} {m : Str → Option Value}, (∀ v, (x, v) ∉ binds) → bindL kindOf binds m x = m x
  | [], _, _ => rfl
  | (n, v) :: r, m, h => by
    unfold bindL
    rw [bindL_out fun w hw => h w (List.mem_cons_of_mem _ hw)]
    split
    · have : x ≠ n := by rintro rfl; exact h v List.mem_cons_self
      simp [this]
    · rfl
theorem bindC_out {kindOf : Str → Option NameKind} {x : Str} : ∀ {binds : List (Str × Value)} {m : Str → Option Value}, (∀ v, (x, v) ∉ binds) → bindC kindOf binds m x = m x
  | [], _, _ => rfl
  | (n, v) :: r, m, h => by
    unfold bindC
    rw [bindC_out fun w hw => h w (List.mem_cons_of_mem _ hw)]
    split
    · rfl
    · have : x ≠ n := by rintro rfl; exact h v List.mem_cons_self
      simp [this]
theorem bindL_get {kindOf : Str → Option NameKind} {x : Str} {v : Value} : ∀ {P : List Str} {vs : List Value} {i : Nat} {m : Str → Option Value}, P.Nodup → P[i]? = some x → vs[i]? = some v → kindOf x = some .local →
    bindL kindOf (P.zip vs) m x = some v
  | [], _, _, _, _, h, _, _ => by simp at h
  | _ :: _, [], _, _, _, _, h, _ => by simp at h
  | p :: P, w :: vs, 0, m, nd, h1, h2, hk => by
    simp at h1 h2; subst h1; subst h2
    show bindL kindOf ((p, w) :: P.zip vs) m p = _
    unfold bindL
    rw [bindL_out fun v hv => (List.nodup_cons.mp nd).1 (List.of_mem_zip hv).1, if_pos hk]
    simp
  | p :: P, w :: vs, i + 1, m, nd, h1, h2, hk => by
    show bindL kindOf ((p, w) :: P.zip vs) m x = _
    unfold bindL
    exact bindL_get (i := i) (List.nodup_cons.mp nd).2 (by simpa using h1) (by simpa using h2) hk
theorem bindC_get {kindOf : Str → Option NameKind} {x : Str} {v : Value} : ∀ {P : List Str} {vs : List Value} {i : Nat} {m : Str → Option Value}, P.Nodup → P[i]? = some x → vs[i]? = some v → kindOf x ≠ some .local →
    bindC kindOf (P.zip vs) m x = some v
  | [], _, _, _, _, h, _, _ => by simp at h
  | _ :: _, [], _, _, _, _, h, _ => by simp at h
  | p :: P, w :: vs, 0, m, nd, h1, h2, hk => by
    simp at h1 h2; subst h1; subst h2
    show bindC kindOf ((p, w) :: P.zip vs) m p = _
    unfold bindC
    rw [bindC_out fun v hv => (List.nodup_cons.mp nd).1 (List.of_mem_zip hv).1, if_neg hk]
    simp
  | p :: P, w :: vs, i + 1, m, nd, h1, h2, hk => by
    show bindC kindOf ((p, w) :: P.zip vs) m x = _
    unfold bindC
    exact bindC_get (i := i) (List.nodup_cons.mp nd).2 (by simpa using h1) (by simpa using h2) hk
def start (N : List Str) (vs : List V) : St := vs.map some ++ List.replicate (N.length - vs.length) none
def cxOf (CX : CXT) (P : Program) (w : World) (K : PySem.W.Frag) (mg : Str → Option Value) (base : Heap) (N : List Str) (qual : Str) (scope : Scope) (f : Addr) (cd : Value) (A : Around) (outer : List Env) (s : Shared) (H : Hp) (E : XK) : Cx where
  prog := P
  w := w
  K := K
  mg := mg
  base := base
  A := A.deeper (envOfC qual scope s.heap.objs.size f cd)
  N := N
  s₀ := s
  H₀ := H
  env := envOfC qual scope s.heap.objs.size f cd
  outer := outer
  stack := envOfC qual scope s.heap.objs.size f cd :: outer
  ex := []
  calm := true
  fn := fun _ => true
  pn := []
  xe := fun e s' => wpAny (model P w) (A.deeper (envOfC qual scope s.heap.objs.size f cd)) (leaving (envOfC qual scope s.heap.objs.size f cd) e) (fun _ s'' => CX outer H s E e s'') (fun e' s'' => CX outer H s E e' s'') s'
theorem cell_has {sc : Scope} {n : Nat} {x : Str} (h : sc.names.lookup x = some .cell) : ∃ c, (cellsFrom n sc.names []).lookup x = some c := by
  have q := PySem.W.cellsFrom_some sc.names n [] (.inl h)
  exact Option.isSome_iff_exists.mp q
theorem inv_start {CX : CXT} {P : Program} {w : World} {K : PySem.W.Frag} {mg : Str → Option Value} {base : Heap} {N ps : List Str} {qual : Str} {scope : Scope} {f : Addr} {cd : Value} {A : Around} {outer : List Env} {s s1 : Shared} {H : Hp} {E : XK} {us : List Value} {vs : List V}
    (S : FnScope N ps scope) (hd : A.handled = none) (e0 : Env0 P w K mg base A outer s H) (hl : vs.length = ps.length) (r : Vals vs us)
    (x : InCallC s s.heap.objs.size (bindL (envOfC qual scope s.heap.objs.size f cd).kindOf (ps.zip us) fun _ => none) (cellsFrom (s.heap.objs.size + 1) scope.names []) (bindC (envOfC qual scope s.heap.objs.size f cd).kindOf (ps.zip us) fun _ => none) s1) :
    Inv (cxOf CX P w K mg base N qual scope f cd A outer s H E) [] (start N vs) H s1 := by
  have hpl : ps.length ≤ N.length := by have := congrArg List.length S.pre; rw [List.length_take] at this; lia
  obtain ⟨h1, tk, rfl, hk⟩ := x.done
  have noA : ∀ b : Addr, b ∉ (cxOf CX P w K mg base N qual scope f cd A outer s H E).ex := fun b z => absurd (show b ∈ ([] : List Addr) from z) (by simp)
  refine ⟨⟨e0.mod, S.kind, rfl, rfl, Nat.le_refl _, fun y z c h1 h2 => ?_, fun y hy => ?_, fun y c _ h => ?_, fun _ => hd, Around.frames_deeper e0.frames, .inr ⟨rfl, rfl⟩, fun b z => absurd z (noA b), e0.bs, e0.bsz, fun b _ _ => noA b, fun b z => absurd z (noA b), e0.funs, e0.frf⟩,
    rfl, e0.bare, Un.kept hk, ⟨_, x.toInCall.ns, fun i y v h1 h2 h3 => ?_⟩, fun y c h => ⟨_, x.cell y c h⟩, e0.hok.fresh (Nat.le_refl _), fun y c h => ?_, fun p hp => absurd (show p ∈ ([] : List (Addr × Obj)) from hp) (by simp), e0.hok.kept hk, ?_⟩
  · exact name_of_addr x.apart (PySem.mem_of_lookup h1) (PySem.mem_of_lookup h2)
  · have hy : scope.names.lookup y = some .cell ∨ scope.names.lookup y = some .free := hy
    rcases hy with hy | hy
    · exact cell_has hy
    · exact absurd rfl (S.nofree _ (PySem.mem_of_lookup hy))
  · exact Nat.le_of_lt (x.above y c (PySem.mem_of_lookup h))
  · have hi : i < vs.length := by
      unfold start at h2
      by_cases hi : i < vs.length
      · exact hi
      · rw [List.getElem?_append_right (by simpa using hi)] at h2
        rw [List.getElem?_replicate] at h2
        split at h2 <;> cases h2
    have ha : vs[i]? = some v := by
      unfold start at h2
      rw [List.getElem?_append_left (by simpa using hi), List.getElem?_map] at h2
      cases e : vs[i]? with
      | none => rw [e] at h2; cases h2
      | some a => rw [e] at h2; cases h2; rfl
    obtain ⟨u, hu, rv⟩ := r.get ha
    have hp : ps[i]? = some y := by
      rw [← S.pre, List.getElem?_take_of_lt (by lia)]; exact h1
    have ndP : ps.Nodup := by rw [← S.pre]; exact S.nd.sublist (List.take_sublist _ _)
    refine ⟨u, rv, ?_⟩
    rcases S.par y (List.mem_of_getElem? hp) with k | k
    · exact .inl ⟨k, bindL_get ndP hp hu k⟩
    · obtain ⟨c, e⟩ := cell_has (n := s.heap.objs.size + 1) k
      refine .inr ⟨.inl k, c, e, ?_⟩
      have q := x.cell y c e
      rw [bindC_get ndP hp hu (by show scope.names.lookup y ≠ _; rw [k]; decide)] at q
      exact q
  · exact e0.hok.fresh (Nat.le_of_lt (x.above y c (PySem.mem_of_lookup h)))
  · unfold start
    show _ = N.length
    rw [List.length_append, List.length_map, List.length_replicate]
    lia
theorem fn_of {CX : CXT} {P : Program} {w : World} {K : PySem.W.Frag} {mg : Str → Option Value} {base : Heap} {k : Nat} {f : Addr} {name qual : Str} {params : Arguments} {body : List Stmt} {scope : Scope} {dV kV doc pm cdv ct oc : Value} {an od : Option Addr}
    {osl : Array (Option Value)} {N ps : List Str} {sp : Sp} (lk : K.lookup f = some ⟨oc, od, .func (PySem.W.fnOf name qual params body scope dV kV doc pm an cdv ct), osl⟩) (hcd : PySem.W.codeIn K cdv qual = true) (S : FnScope N ps scope)
    (len : ∀ vs H Q E, sp vs H Q E → vs.length = ps.length)
    (hbody : ∀ (A : Around) (outer : List Env) (s : Shared) (H : Hp) (vs : List V) (Q : VK) (E : XK), Room k (A.deeper (envOfC qual scope s.heap.objs.size f cdv)) → sp vs H Q E →
      ∃ t, PSs (cxOf CX P w K mg base N qual scope f cdv A outer s H E) body t ∧ t { nx := fun _ H' => Q .non H', rt := Q } (start N vs) H) :
    FnOk P w K mg base CX (k + 1) f (PySem.W.fnOf name qual params body scope dV kV doc pm an cdv ct) ps sp := by
  refine ⟨len, fun A outer s H args us vs Q E hr e0 hb r hsp => ?_⟩
  have hl := len _ _ _ _ hsp
  have KX : K.In s.heap := e0.mod.kin.keeps fun b o e => (e0.bs b o e).1
  have lim : s.heap.NoLimit := e0.mod.nolimit.keeps fun b o e => (e0.bs b o e).1
  have hkind : ∀ y ∈ ps.zip us, scope.names.lookup y.1 = some .local ∨ (scope.names.lookup y.1 = some .cell ∧ ((cellsFrom (s.heap.objs.size + 1) scope.names []).lookup y.1).isSome = true) := fun ⟨n, v⟩ hy => by
    rcases S.par n (List.of_mem_zip hy).1 with q | q
    · exact .inl q
    · exact .inr ⟨q, PySem.W.cellsFrom_some _ _ _ (.inl q)⟩
  refine codeAny_call_function hr.depth (KX _ _ lk) rfl S.co S.gen rfl (PySem.W.codeRec_of KX hcd) (hb _ _ _ _ ?_)
  refine wpAny_newFunctionEnv_cells S.kind hkind fun env he s1 x => ?_
  subst he
  refine ⟨lim.keeps x.toInCall.keep, codeAny_func ?_⟩
  obtain ⟨t, ht, hq⟩ := hbody A outer s H vs Q E (hr.deeper _) hsp
  have I : Inv (cxOf CX P w K mg base N qual scope f cdv A outer s H E) [] (start N vs) H s1 := inv_start S hr.hd e0 hl r x
  refine wpAny_mono (ht [] s1 (start N vs) H _ I hq) (fun fl s' hs => ?_) fun e s' hs => hs
  have fin : ∀ {σ' : St} {H' : Hp} {v : V} {u : Value}, Inv (cxOf CX P w K mg base N qual scope f cdv A outer s H E) [] σ' H' s' → RelV v u → Q v H' → CE outer P w H s Q u s' :=
    fun {σ' H' v u} J rv q => ⟨v, H', J.os, J.bare, J.base, J.hok, rv, q⟩
  cases fl with
  | ret u =>
    obtain ⟨v, σ', H', J, rv, q⟩ := hs
    exact fin J rv q
  | next =>
    obtain ⟨σ', H', J, q⟩ := hs
    exact fin (v := V.non) (u := Value.none) J rfl q
  | brk =>
    obtain ⟨_, _, _, q⟩ := hs
    exact False.elim q
  | cont =>
    obtain ⟨_, _, _, q⟩ := hs
    exact False.elim q
end L2
namespace L2
open PySem PySem.Spec PyProof.Rows
section
variable {X : Cx} {x : Str} {p pos : Pos} {e : Expr} {es : List Expr} {t : TA} {id T : String} {r : List V → Hp → VK → Prop}
def tCB (r : List V → Hp → VK → Prop) (t : TA) : TE := fun σ H Q => t σ H fun vs H1 => r vs H1 Q
theorem pe_callB (hc : CallR X (.builtin id) r) (hg : Gl X x) (hm : X.mg x = none) (hv : bootBuiltins x = some (.builtin id)) (ha : PA X (e :: es) t) (hn : x ≠ "__name__" := by decide) (hdb : (x == ("__debug__" : Str)) = false := by decide)
    (he : starEach (e :: es) X.env = (false, eval e X.env) :: starEach es X.env := by rfl) (hpl : (backTo pos (starEach es X.env)).any (·.1) = false := by rfl) : PE X (.Call (.Name x p) (e :: es) [] pos) (tCB r t) := by
  intro pins s σ H Q I h
  refine wpAny_Call_Name_kw (ld_blt I hg hm hv ?_ hn hdb)
  exact PyProof.Rows.callWith_builtin1 (thn (ha pos pins s σ H _ I h) fun us s1 ⟨vs, H1, I1, r1, q1⟩ => hc pins s1 σ H1 vs us Q I1 r1 q1) he hpl
theorem pe_callTy (hc : CallR X (.type T) r) (hg : Gl X x) (hm : X.mg x = none) (hv : bootBuiltins x = some (.type T)) (ha : PA X (e :: es) t) (hn : x ≠ "__name__" := by decide) (hdb : (x == ("__debug__" : Str)) = false := by decide)
    (he : starEach (e :: es) X.env = (false, eval e X.env) :: starEach es X.env := by rfl) (hpl : (backTo pos (starEach es X.env)).any (·.1) = false := by rfl) : PE X (.Call (.Name x p) (e :: es) [] pos) (tCB r t) := by
  intro pins s σ H Q I h
  refine wpAny_Call_Name_kw (ld_blt I hg hm hv ?_ hn hdb)
  exact PyProof.Rows.callWith_type1 (thn (ha pos pins s σ H _ I h) fun us s1 ⟨vs, H1, I1, r1, q1⟩ => hc pins s1 σ H1 vs us Q I1 r1 q1) he hpl
end
end L2
namespace HT
open PySem PyProof.Rows
section
open PySem.SeqAt
open PySem.AutoSeq1 (wpAny_loadPart')
open PySem.MeetsSeq PySem.MeetsSeq2 PySem.MeetsSeq3
end
section
variable {prog : Program} {w : World} {A : Around} {E : Value → Shared → Prop} {s : Shared}
def sIx (n d : Nat) : Option Int → Nat
  | none => d
  | some v => if v < 0 then (v + (n : Int)).toNat else min v.toNat n
theorem sIx_nat (n d k : Nat) : sIx n d (some (k : Int)) = min k n := by
  show (if (k : Int) < 0 then ((k : Int) + (n : Int)).toNat else min (k : Int).toNat n) = min k n
  rw [if_neg (by lia), Int.toNat_natCast]
theorem sIx_le (n d : Nat) (hd : d ≤ n) (o : Option Int) : sIx n d o ≤ n := by
  cases o with
  | none => exact hd
  | some v =>
    show (if v < 0 then (v + (n : Int)).toNat else min v.toNat n) ≤ n
    by_cases hv : v < 0
    · rw [if_pos hv]; lia
    · rw [if_neg hv]; exact Nat.min_le_right _ _
theorem clip_eq (v : Int) (n d : Nat) : (if v < 0 then max (v + (n : Int)) 0 else min v (n : Int)) = ((sIx n d (some v) : Nat) : Int) := by
  show (if v < 0 then max (v + (n : Int)) 0 else min v (n : Int)) = (((if v < 0 then (v + (n : Int)).toNat else min v.toNat n) : Nat) : Int)
  by_cases hv : v < 0
  · simp only [if_pos hv]; lia
  · simp only [if_neg hv]; lia
theorem adjust_gen (lo hi : Option Int) (n : Nat) : Builtin.Slice.sliceAdjust lo hi 1 (n : Int) = (((sIx n 0 lo : Nat) : Int), ((sIx n n hi : Nat) : Int)) := by
  have h1 : ¬ ((1 : Int) < 0) := by lia
  unfold Builtin.Slice.sliceAdjust
  simp only [h1, if_false]
  refine Prod.ext ?_ ?_
  · cases lo with
    | none => rfl
    | some v => exact clip_eq v n 0
  · cases hi with
    | none => rfl
    | some v => exact clip_eq v n n
theorem places_gen (i j : Nat) : Builtin.Slice.slicePlaces (i : Int) (j : Int) 1 = j - i := by
  unfold Builtin.Slice.slicePlaces
  have h1 : (1 : Int) > 0 := by lia
  simp only [h1, if_true, Int.ediv_one]
  split <;> lia
theorem slicePart_ {v : Value} {o : Option Int} {Q : Option Int → Shared → Prop} (p : IsPart v o) (h : Q o s) : wpAny (model prog w) A (Builtin.Slice.slicePartIndex v) Q E s := by
  cases p with
  | none => exact slicePart_none h
  | int i t => exact slicePart_int h
theorem sliceApplied_gen {sl : Addr} {vl vu : Value} {lo hi : Option Int} {n : Nat} {Q : Int × Int × Nat → Shared → Prop} (hs : s.heap.IsSliceOf sl vl vu .none) (pl : IsPart vl lo) (pu : IsPart vu hi)
    (h : Q (((sIx n 0 lo : Nat) : Int), 1, sIx n n hi - sIx n 0 lo) s) : wpAny (model prog w) A (Builtin.Slice.sliceApplied (.ref sl) (pure (n : Int))) Q E s := by
  obtain ⟨os, hos, hcs, hds⟩ := id hs
  unfold Builtin.Slice.sliceApplied Builtin.Slice.sliceFields
  refine wpAny_bind (wpAny_bind (wpAny_field hos hds (x := vl) rfl (wpAny_bind (wpAny_field hos hds (x := vu) rfl (wpAny_bind (wpAny_field hos hds (x := .none) rfl (wpAny_pure ?_)))))))
  refine wpAny_bind (slicePart_none ?_)
  show wpAny _ _ (if ((1 : Int) == 0) = true then _ else _) _ _ s
  rw [if_neg (by decide)]
  refine wpAny_bind (slicePart_ pl (wpAny_bind (slicePart_ pu (wpAny_bind (wpAny_pure ?_)))))
  show wpAny _ _ (match Builtin.Slice.sliceAdjust lo hi 1 (n : Int) with | (lo, hi) => pure (lo, (1 : Int), Builtin.Slice.slicePlaces lo hi 1)) _ _ s
  rw [adjust_gen lo hi n]
  show wpAny _ _ (pure (((sIx n 0 lo : Nat) : Int), (1 : Int), Builtin.Slice.slicePlaces ((sIx n 0 lo : Nat) : Int) ((sIx n n hi : Nat) : Int) 1)) _ _ s
  rw [places_gen]
  exact wpAny_pure h
theorem pick_gen (xs : Array Value) (i k : Nat) : ((List.range k).filterMap fun (m : Nat) => xs[((i : Int) + (m : Int) * 1).toNat]?).toArray = ((xs.toList.drop i).take k).toArray := by
  have e : (fun (m : Nat) => xs[((i : Int) + (m : Int) * 1).toNat]?) = fun m => xs[i + m]? := by
    funext m
    have : ((i : Int) + (m : Int) * 1).toNat = i + m := by lia
    rw [this]
  rw [e]
  have := pick_run xs i k
  rw [List.filterMap_map] at this
  have e2 : ((fun x => xs[x]?) ∘ fun x => i + x) = fun m => xs[i + m]? := rfl
  rw [e2] at this
  rw [this]
theorem getItem_tuple_cut {t sl : Addr} {items : Array Value} {vl vu : Value} {lo hi : Option Int} {Q : Value → Shared → Prop} (ht : IsTup s.heap t items) (hs : s.heap.IsSliceOf sl vl vu .none) (pl : IsPart vl lo) (pu : IsPart vu hi)
    (hw : ¬ (sIx items.size 0 lo = 0 ∧ sIx items.size items.size hi = items.size))
    (h : Q (.ref s.heap.objs.size) { s with heap := s.heap.push { cls := .type "tuple", data := .seq ((items.toList.drop (sIx items.size 0 lo)).take (sIx items.size items.size hi - sIx items.size 0 lo)).toArray } })
    (hsz : items.size ≤ sizeLine) : wpAny (model prog w) A (getItem (.ref t) (.ref sl)) Q E s := by
  have htake : sizeOk (.seq ((items.toList.drop (sIx items.size 0 lo)).take (sIx items.size items.size hi - sIx items.size 0 lo)).toArray) := by
    show ((items.toList.drop (sIx items.size 0 lo)).take (sIx items.size items.size hi - sIx items.size 0 lo)).toArray.size ≤ sizeLine
    rw [List.size_toArray, List.length_take, List.length_drop, Array.length_toList]
    lia
  have hj : sIx items.size items.size hi ≤ items.size := sIx_le _ _ (Nat.le_refl _) hi
  obtain ⟨os, hos, hcs, hds⟩ := id hs
  have hTs : s.TypeIs (.ref sl) "slice" := ⟨os, hos, hcs⟩
  unfold getItem
  try with_reducible refine wpAny_holding ?_
  first | refine wpAny_bind (wpAny_pure ?_) | skip
  refine wpAny_bind (wpAny_sequenceKey ht.typeIs (by decide) ?_)
  refine wpAny_bind (wpAny_callSpecial?_slot (name := Str.ofString "__getitem__") ht.typeIs PyProof.Rows.slot_tuple_getitem
    (wpAny_call_entry PyProof.Rows.slot_tuple_getitem ht.typeIs entry_tuple_getitem ?_ (args_tuple_getitem _ _)))
  show wpAny _ _ (Builtin.Tuple.tupleItemsOf (.ref t) >>= _) _ _ s
  refine wpAny_bind (tupleItemsOf_ ht ?_)
  refine wpAny_bind (wpAny_typeOf hTs ?_)
  rw [if_pos (by decide)]
  refine wpAny_bind (sliceApplied_gen hs pl pu ?_)
  have hno : ¬ ((((sIx items.size 0 lo : Nat) : Int) == 0 && (1 : Int) == 1 && (sIx items.size items.size hi - sIx items.size 0 lo) == items.size) = true) := by
    intro q
    rw [Bool.and_eq_true, Bool.and_eq_true] at q
    have q1 : ((sIx items.size 0 lo : Nat) : Int) = 0 := eq_of_beq q.1.1
    have q2 : sIx items.size items.size hi - sIx items.size 0 lo = items.size := eq_of_beq q.2
    exact hw ⟨by lia, by lia⟩
  show wpAny _ _ (if (((sIx items.size 0 lo : Nat) : Int) == 0 && (1 : Int) == 1 && (sIx items.size items.size hi - sIx items.size 0 lo) == items.size) = true then _ else _) _ _ s
  rw [if_neg hno, pick_gen]
  first
    | exact wpAny_bind (m := Builtin.Tuple.tupleExact _) (wpAny_newObj_type (wpAny_pure ⟨_, rfl, wpAny_pure h⟩) htake)
    | exact wpAny_bind (m := Builtin.Tuple.tupleExact _) (wpAny_newObj_type (wpAny_bind (wpAny_pure (wpAny_pure ⟨_, rfl, wpAny_pure h⟩))) htake)
    | exact wpAny_bind (wpAny_bind (m := Builtin.Tuple.tupleExact _) (wpAny_newObj_type (wpAny_pure (wpAny_pure ⟨_, rfl, wpAny_pure h⟩)) htake))
    | exact wpAny_bind (wpAny_bind (m := Builtin.Tuple.tupleExact _) (wpAny_newObj_type (wpAny_pure ⟨_, rfl, wpAny_pure h⟩) htake))
end
end HT
namespace L2
open PySem PySem.Spec PyProof.Rows
abbrev TO := St → Hp → (Option Int → Hp → Prop) → Prop
def PO (X : Cx) (e : Option Expr) (t : TO) : Prop :=
  ∀ (pins : List (Addr × Obj)) (s : Shared) (σ : St) (H : Hp) (Q : Option Int → Hp → Prop), Inv X pins σ H s → t σ H Q →
    wpAny (model X.prog X.w) X.A (evalPart e X.env) (fun u s' => ∃ o H', Inv X pins σ H' s' ∧ IsPart u o ∧ Q o H') X.xe s
def tNoPart : TO := fun _ H Q => Q none H
def tPart (t : TE) : TO := fun σ H Q => t σ H fun x H1 => ∃ i, x = .int i ∧ Q (some i) H1
section
variable {X : Cx} {e : Expr} {te : TE} {lo hi : Option Expr} {tl th : TO} {pos p2 : Pos}
theorem po_none : PO X none tNoPart := by
  intro pins s σ H Q I h
  rw [evalPart_none]
  exact wpAny_pure ⟨none, H, I, .none, h⟩
theorem po_some (h : PE X e te) : PO X (some e) (tPart te) := by
  intro pins s σ H Q I hw
  rw [evalPart_some]
  refine thn (h pins s σ H _ I hw) fun u s1 ⟨x, H1, I1, r1, q1⟩ => ?_
  obtain ⟨i, rfl, q⟩ := q1
  obtain ⟨t, rfl⟩ := r1
  exact ⟨some i, H1, I1, .int i t, q⟩
def SlR (X : Cx) (r : V → Option Int → Option Int → Hp → VK → Prop) : Prop :=
  ∀ (pins : List (Addr × Obj)) (s : Shared) (σ : St) (H : Hp) (x : V) (v vl vu : Value) (lo hi : Option Int) (sl : Addr) (Q : VK), Inv X pins σ H s → RelV x v → s.heap.IsSliceOf sl vl vu .none → IsPart vl lo → IsPart vu hi → r x lo hi H Q →
    ∃ T id, typeLookup (.type T) "__getitem__" = pure (some (.builtin id)) ∧ s.TypeIs v T ∧ wpAny (model X.prog X.w) X.A (getItem v (.ref sl)) (EP X pins σ Q) X.xe s
theorem SlR.or {r r' : V → Option Int → Option Int → Hp → VK → Prop} (h : SlR X r) (h' : SlR X r') : SlR X (fun x lo hi H Q => r x lo hi H Q ∨ r' x lo hi H Q) := by
  intro pins s σ H x v vl vu lo hi sl Q I rx hs pl pu q
  rcases q with q | q
  · exact h pins s σ H x v vl vu lo hi sl Q I rx hs pl pu q
  · exact h' pins s σ H x v vl vu lo hi sl Q I rx hs pl pu q
def tSl (r : V → Option Int → Option Int → Hp → VK → Prop) (te : TE) (tl th : TO) : TE := fun σ H Q => te σ H fun x H1 => tl σ H1 fun l H2 => th σ H2 fun u H3 => r x l u H3 Q
theorem pe_slice {r : V → Option Int → Option Int → Hp → VK → Prop} (hr : SlR X r) (he : PE X e te) (hl : PO X lo tl) (hu : PO X hi th) : PE X (.Subscript e (.Slice lo hi none p2) pos) (tSl r te tl th) := by
  intro pins s σ H Q I h
  refine Subscript_ (thn (he pins s σ H _ I h) fun v s1 ⟨x, H1, I1, r1, q1⟩ => ?_)
  refine wpAny_Slice (thn (hl pins s1 σ H1 _ I1 q1) fun vl s2 ⟨l, H2, I2, pl, q2⟩ => thn (hu pins s2 σ H2 _ I2 q2) fun vu s3 ⟨u, H3, I3, pu, q3⟩ => ?_)
  rw [evalPart_none]
  refine wpAny_pure ?_
  have I4 : Inv X pins σ H3 { s3 with heap := s3.heap.push { cls := .type "slice", data := .fields #[vl, vu, .none] } } := I3.kept (t' := s3.toks) fun b ob q => Heap.get?_push_of_some _ q
  obtain ⟨T, id, hT, ht, hg⟩ := hr pins { s3 with heap := s3.heap.push { cls := .type "slice", data := .fields #[vl, vu, .none] } } σ H3 x v vl vu l u s3.heap.objs.size Q I4 r1 (Heap.IsSliceOf.new ..) pl pu q3
  show wpAny (model X.prog X.w) X.A (subscriptTail e (.Slice lo hi none p2) v (.ref s3.heap.objs.size)) (EP X pins σ Q) X.xe { s3 with heap := s3.heap.push { cls := .type "slice", data := .fields #[vl, vu, .none] } }
  exact tail_any (ops := [.ref s3.heap.objs.size, v]) ht hT hg (by with_unfolding_all rfl)
def cutV (xs : List V) (lo hi : Option Int) : List V := (xs.drop (HT.sIx xs.length 0 lo)).take (HT.sIx xs.length xs.length hi - HT.sIx xs.length 0 lo)
theorem cutV_length (xs : List V) (lo hi : Option Int) : (cutV xs lo hi).length ≤ xs.length := by
  unfold cutV
  rw [List.length_take, List.length_drop]
  lia
def rSlT (K : PySem.W.Frag) : V → Option Int → Option Int → Hp → VK → Prop := fun x lo hi H Q => ∃ a xs, x = .ref a ∧ SqT K H a xs ∧
  ¬ (HT.sIx xs.length 0 lo = 0 ∧ HT.sIx xs.length xs.length hi = xs.length) ∧ ∀ p, H p = none → Q (.ref p) (upd H p (.tup (cutV xs lo hi)))
theorem sl_tup : SlR X (rSlT X.K) := by
  intro pins s σ H x v vl vu lo hi sl Q I rx hs pl pu h
  obtain ⟨a, xs, rfl, hx, hw, q⟩ := h
  cases rx
  obtain ⟨its, r, ht, hz⟩ := I.tuple hx
  have hlen : its.toArray.size = xs.length := by rw [List.size_toArray]; exact r.length.symm
  refine ⟨"tuple", _, PyProof.Rows.slot_tuple_getitem.lookup, ht.typeIs, ?_⟩
  refine HT.getItem_tuple_cut ht hs pl pu (by rw [hlen]; exact hw) ?_ (by rw [hlen]; exact hz)
  rw [hlen]
  refine ⟨.ref s.heap.objs.size, _, I.laid (t' := s.toks) (o := .tup (cutV xs lo hi)) (fun b ob q => Heap.get?_push_of_some _ q) (Nat.le_refl _) ?_, rfl, q _ (I.hok.fresh (Nat.le_refl _))⟩
  exact ⟨Nat.le_trans (cutV_length xs lo hi) hz, _, (r.drop (HT.sIx xs.length 0 lo)).take (HT.sIx xs.length xs.length hi - HT.sIx xs.length 0 lo), IsTup.new _ _⟩
end
end L2
namespace L2
open PySem PySem.Spec PyProof.Rows
def ixN (n : Nat) (i : Int) : Option Nat := if 0 ≤ i then (if i < n then some i.toNat else none) else if -(n : Int) ≤ i then some (i + n).toNat else none
def atI {α : Type} (xs : List α) (i : Int) : Option α := (ixN xs.length i).bind fun j => xs[j]?
theorem ixN_seq {n : Nat} {i : Int} {j : Nat} (h : ixN n i = some j) : seqIndex? i n = some j ∧ j < n ∧ -(n : Int) ≤ i ∧ i < n := by
  unfold ixN at h
  by_cases h0 : 0 ≤ i
  · rw [if_pos h0] at h
    by_cases h1 : i < n
    · rw [if_pos h1] at h
      have e : i.toNat = j := Option.some.inj h
      exact ⟨by rw [seqIndex_of h0 h1, e], by lia, by lia, h1⟩
    · rw [if_neg h1] at h; cases h
  · rw [if_neg h0] at h
    by_cases h1 : -(n : Int) ≤ i
    · rw [if_pos h1] at h
      have e : (i + n).toNat = j := Option.some.inj h
      exact ⟨by rw [seqIndex_neg (by lia) h1, e], by lia, h1, by lia⟩
    · rw [if_neg h1] at h; cases h
theorem atI_get {α : Type} {xs : List α} {i : Int} {v : α} (h : atI xs i = some v) : ∃ j, seqIndex? i xs.length = some j ∧ xs[j]? = some v ∧ j < xs.length ∧ -(xs.length : Int) ≤ i ∧ i < xs.length := by
  unfold atI at h
  cases e : ixN xs.length i with
  | none => rw [e] at h; cases h
  | some j =>
    rw [e] at h
    obtain ⟨h1, h2, h3, h4⟩ := ixN_seq e
    exact ⟨j, h1, h, h2, h3, h4⟩
theorem atI_nat {α : Type} {xs : List α} {j : Nat} {v : α} (h : xs[j]? = some v) : atI xs (j : Int) = some v := by
  have hj : j < xs.length := (List.getElem?_eq_some_iff.mp h).1
  have e : ixN xs.length (j : Int) = some j := by
    unfold ixN
    rw [if_pos (by lia), if_pos (by lia)]; simp
  unfold atI; rw [e]; exact h
def PlainIx (b : Expr) : Prop := ∀ o i, subscripted b false o i = operate [o, i] (getItem o i)
def IxR (X : Cx) (r : R2) : Prop :=
  ∀ (value slice : Expr) (pins : List (Addr × Obj)) (s : Shared) (σ : St) (H : Hp) (x y : V) (v u : Value) (Q : VK), Inv X pins σ H s → RelV x v → RelV y u → r x y H Q →
    subscripted slice false v u = operate [v, u] (getItem v u) → wpAny (model X.prog X.w) X.A (subscriptTail value slice v u) (EP X pins σ Q) X.xe s
def MtR (X : Cx) (id : String) (r : V → List V → Hp → VK → Prop) : Prop :=
  ∀ (pins : List (Addr × Obj)) (s : Shared) (σ : St) (H : Hp) (x : V) (xs : List V) (v : Value) (us : List Value) (Q : VK), Inv X pins σ H s → RelV x v → Vals xs us → r x xs H Q →
    wpAny (model X.prog X.w) X.A (call (.builtin id) (v :: us)) (EP X pins σ Q) X.xe s
section
variable {X : Cx} {a b : Expr} {ta tb : TE} {pos : Pos}
theorem pe_ix {r : R2} (hr : IxR X r) (ha : PE X a ta) (hb : PE X b tb) (hs : PlainIx b) : PE X (.Subscript a b pos) (tOp r ta tb) := by
  intro pins s σ H Q I h
  exact Subscript_ (binT ha hb I h fun v u s2 x y H2 I2 rx ry q => hr a b pins s2 σ H2 x y v u Q I2 rx ry q (hs _ _))
def rIxL (K : PySem.W.Frag) : R2 := fun x y H Q => ∃ p xs i v, x = .ref p ∧ y = .int i ∧ SqL K H p xs ∧ atI xs i = some v ∧ Q v H
def rIxT (K : PySem.W.Frag) : R2 := fun x y H Q => ∃ p xs i v, x = .ref p ∧ y = .int i ∧ SqT K H p xs ∧ atI xs i = some v ∧ Q v H
def rIxS : R2 := fun x y H Q => ∃ z i c, x = .str z ∧ y = .int i ∧ z.length ≤ sizeLine ∧ atI z.cps.toList i = some c ∧ Q (.str ⟨#[c]⟩) H
theorem ix_list : IxR X (rIxL X.K) := by
  intro value slice pins s σ H x y v u Q I rx ry h hs
  obtain ⟨p, xs, i, z, rfl, rfl, hq, he, q⟩ := h
  cases rx
  obtain ⟨t, rfl⟩ := ry
  obtain ⟨its, r, pl, hz⟩ := I.list hq
  obtain ⟨j, h1, h2, h3, h4, h5⟩ := atI_get he
  obtain ⟨w, ew, rw'⟩ := r.get h2
  have hl := r.length
  have hn := line63
  have fin : EP X pins σ Q w s := ⟨z, H, I, rw', q⟩
  by_cases h0 : 0 ≤ i
  · have hj : i.toNat = j := by
      rw [seqIndex_of h0 h5] at h1
      exact Option.some.inj h1
    exact item_listR pl.isList h0 (by lia) (by rw [hj]; simpa using ew) fin hs
  · have hj : (i + (its.toArray.size : Int)).toNat = j := by
      rw [seqIndex_neg (by lia) h4] at h1
      rw [List.size_toArray, ← hl]
      exact Option.some.inj h1
    exact subscriptTail_builtinR (x := w) pl.isList.typeIs slot_list_getitem.lookup
      (wpAny_getItem_list_neg (Q := fun r s' => r = w ∧ EP X pins σ Q r s') pl.isList (by lia) (by rw [List.size_toArray] <;> lia) (by lia) (by rw [hj]; simpa using ew) ⟨rfl, fin⟩) hs
theorem ix_tup : IxR X (rIxT X.K) := by
  intro value slice pins s σ H x y v u Q I rx ry h hs
  obtain ⟨p, xs, i, z, rfl, rfl, hq, he, q⟩ := h
  cases rx
  obtain ⟨t, rfl⟩ := ry
  obtain ⟨its, r, pl, hz⟩ := I.tuple hq
  obtain ⟨j, h1, h2, h3, h4, h5⟩ := atI_get he
  obtain ⟨w, ew, rw'⟩ := r.get h2
  have hl := r.length
  have hn := line63
  have fin : EP X pins σ Q w s := ⟨z, H, I, rw', q⟩
  exact subscriptTail_builtinR (x := w) pl.typeIs slot_tuple_getitem.lookup
    (getItem_tuple (j := j) (Q := fun r s' => r = w ∧ EP X pins σ Q r s') pl (by lia) (by lia) (by rw [List.size_toArray, ← hl]; exact h1) (by simpa using ew) ⟨rfl, fin⟩) hs
theorem ix_str : IxR X rIxS := by
  intro value slice pins s σ H x y v u Q I rx ry h hs
  obtain ⟨z, i, c, rfl, rfl, hz, he, q⟩ := h
  obtain ⟨t, rfl⟩ := rx
  obtain ⟨t', rfl⟩ := ry
  obtain ⟨j, h1, h2, h3, h4, h5⟩ := atI_get he
  have hl : z.cps.toList.length = z.length := by simp [Str.length]
  rw [hl] at h1 h4 h5
  have hn := line63
  exact tail_any (typeIs_str s z t) slot_str_getitem.lookup (getItem_str (c := c) (by
    have e1 : decide (i < -(2 ^ 63 : Int)) = false := decide_eq_false (by lia)
    have e2 : decide (i ≥ 2 ^ 63) = false := decide_eq_false (by lia)
    rw [e1, e2, Bool.or_false]) (by rw [h1]; simpa using h2) ⟨.str ⟨#[c]⟩, H, I.tok _, ⟨_, rfl⟩, q⟩) hs
theorem call_len_seq : CallR X (.builtin "len") (fun xs H Q => ∃ p ys, xs = [.ref p] ∧ (SqL X.K H p ys ∨ SqT X.K H p ys) ∧ Q (.int ys.length) H) := by
  intro pins s σ H xs us Q I r h
  obtain ⟨p, ys, rfl, hq, q⟩ := h
  obtain ⟨u, rfl, rx⟩ := vals1 r
  cases rx
  have hn := line63
  rcases hq with hq | hq
  · obtain ⟨its, r', pl, hz⟩ := I.list hq
    have hlen := r'.length
    exact Calls.call_len_list pl.isList (by simp only [List.size_toArray] <;> lia) ⟨.int ys.length, H, I.tok _, ⟨s.toks + 1, by rw [List.size_toArray, hlen]⟩, q⟩
  · obtain ⟨its, r', pl, hz⟩ := I.tuple hq
    have hlen := r'.length
    exact len_tuple pl (by simp only [List.size_toArray] <;> lia) ⟨.int ys.length, H, I.tok _, ⟨s.toks + 1, by rw [List.size_toArray, hlen]⟩, q⟩
theorem call_list_of : CallR X (.type "list") (fun xs H Q => ∃ p ys, xs = [.ref p] ∧ (SqL X.K H p ys ∨ SqT X.K H p ys) ∧ ∀ l, H l = none → Q (.ref l) (upd H l (.lst ys))) := by
  intro pins s σ H xs us Q I r h
  obtain ⟨p, ys, rfl, hq, q⟩ := h
  obtain ⟨u, rfl, rx⟩ := vals1 r
  cases rx
  have fin : ∀ (its : List Value), Vals ys its → ys.length ≤ sizeLine → ∀ (h' : Heap) (c' : Nat), (∀ b o', s.heap.get? b = some o' → h'.get? b = some o') →
      h'.get? s.heap.objs.size = some { cls := .type "list", dict := none, data := .seq its.toArray c', slots := #[] } → EP X pins σ Q (.ref s.heap.objs.size) { s with heap := h' } := fun its r' hz h' c' kp e =>
    ⟨.ref s.heap.objs.size, _, I.laid (t' := s.toks) kp (Nat.le_refl _) (show ObjOk X.prog X.w _ h' _ (.lst ys) from ⟨hz, its, c', r', e⟩), rfl, q _ (I.hok.fresh (Nat.le_refl _))⟩
  rcases hq with hq | hq
  · obtain ⟨its, r', pl, hz⟩ := I.list hq
    have hlen := r'.length
    obtain ⟨o, ho, hc, n, hd⟩ := pl.isList
    exact call_list_seq p (.inl rfl) ho hc hd (fun h' c' kp e => fin its r' hz h' c' kp e) (by simp only [List.size_toArray] <;> lia)
  · obtain ⟨its, r', pl, hz⟩ := I.tuple hq
    have hlen := r'.length
    obtain ⟨o, ho, hc, n, hd⟩ := pl
    exact call_list_seq p (.inr rfl) ho hc hd (fun h' c' kp e => fin its r' hz h' c' kp e) (by simp only [List.size_toArray] <;> lia)
theorem call_tuple_of : CallR X (.type "tuple") (fun xs H Q => ∃ p ys, xs = [.ref p] ∧ ((SqL X.K H p ys ∧ ∀ l, H l = none → Q (.ref l) (upd H l (.tup ys))) ∨ (SqT X.K H p ys ∧ Q (.ref p) H))) := by
  intro pins s σ H xs us Q I r h
  obtain ⟨p, ys, rfl, h⟩ := h
  obtain ⟨u, rfl, rx⟩ := vals1 r
  cases rx
  rcases h with ⟨hq, q⟩ | ⟨hq, q⟩
  · obtain ⟨its, r', pl, hz⟩ := I.list hq
    have hlen := r'.length
    refine call_tuple_list pl.isList (fun h' kp => ?_) (by simp only [List.size_toArray] <;> lia)
    have I1 : Inv X pins σ H { s with heap := h' } := I.kept (t' := s.toks) kp
    have I2 : Inv X pins σ (upd H h'.objs.size (.tup ys)) { s with heap := h'.push { cls := .type "tuple", data := .seq its.toArray } } :=
      I1.laid (t' := s.toks) (fun b o e => Heap.get?_push_of_some _ e) (Nat.le_refl _) (show ObjOk X.prog X.w _ _ _ (.tup ys) from ⟨hz, its, r', IsTup.new _ _⟩)
    exact ⟨.ref h'.objs.size, _, I2, rfl, q _ (I1.hok.fresh (Nat.le_refl _))⟩
  · obtain ⟨its, r', pl, hz⟩ := I.tuple hq
    exact call_tuple_same pl ⟨.ref p, H, I, rfl, q⟩
def tyV (K : PySem.W.Frag) (T : String) (x : V) (H : Hp) : Prop := match x with
  | .str _ => T = "str"
  | .int _ => T = "int"
  | .ref p => (T = "list" ∧ ∃ xs, SqL K H p xs) ∨ (T = "tuple" ∧ ∃ o, K.lookup p = some o ∧ o.cls = .type "tuple" ∧ o.dict = none) ∨
      (T = "dict" ∧ ((∃ kvs, H p = some (.dK kvs)) ∨ ∃ kvs, H p = some (.dT kvs))) ∨ (T = "set" ∧ ∃ S n, H p = some (.set S n))
  | _ => False
theorem tyV_is {pins : List (Addr × Obj)} {σ : St} {H : Hp} {s : Shared} {T : String} {x : V} {v : Value} (I : Inv X pins σ H s) (r : RelV x v) (ty : tyV X.K T x H) :
    s.TypeIs v T ∧ ∀ a, v = .ref a → ∃ ob, s.heap.get? a = some ob ∧ ob.dict = none := by
  cases x with
  | str z =>
    obtain ⟨t, rfl⟩ := r
    cases (show T = "str" from ty)
    exact ⟨typeIs_str s z t, fun _ e => nomatch e⟩
  | int i =>
    obtain ⟨t, rfl⟩ := r
    cases (show T = "int" from ty)
    exact ⟨typeIs_int s i t, fun _ e => nomatch e⟩
  | ref p =>
    cases r
    rcases ty with ⟨rfl, xs, hq⟩ | ⟨rfl, o, hk, hc, hd⟩ | ⟨rfl, hk⟩ | ⟨rfl, S, n, hk⟩
    · obtain ⟨its, _, pl, _⟩ := I.list hq
      refine ⟨pl.isList.typeIs, fun a e => ?_⟩
      cases e
      obtain ⟨o, n, e, c, hd, _⟩ := pl
      exact ⟨o, e, hd⟩
    · refine ⟨⟨o, I.kIn p o hk, hc⟩, fun a e => ?_⟩
      cases e
      exact ⟨o, I.kIn _ o hk, hd⟩
    · have z : ∃ o, s.heap.get? p = some o ∧ o.ExactDict := by
        rcases hk with ⟨kvs, hk⟩ | ⟨kvs, hk⟩
        · obtain ⟨_, _, _, _, o, _, _, e, ex, _⟩ := I.hok p _ hk
          exact ⟨o, e, ex⟩
        · obtain ⟨_, _, _, _, o, _, _, e, ex, _⟩ := I.hok p _ hk
          exact ⟨o, e, ex⟩
      obtain ⟨o, e, ex⟩ := z
      refine ⟨⟨o, e, ex.1⟩, fun a e2 => ?_⟩
      cases e2
      exact ⟨o, e, ex.2.1⟩
    · obtain ⟨o, _, _, _, e, ex, _⟩ := I.hok p _ hk
      refine ⟨⟨o, e, ex.1⟩, fun a e2 => ?_⟩
      cases e2
      exact ⟨o, e, ex.2.1⟩
  | _ => exact False.elim ty
def tBM0 (K : PySem.W.Frag) (T : String) (r : V → List V → Hp → VK → Prop) (to : TE) : TE := fun σ H Q => to σ H fun x H1 => tyV K T x H1 ∧ r x [] H1 Q
def tBM (K : PySem.W.Frag) (T : String) (r : V → List V → Hp → VK → Prop) (to : TE) (t : TA) : TE := fun σ H Q => to σ H fun x H1 => tyV K T x H1 ∧ t σ H1 fun xs H2 => r x xs H2 Q
variable {o e : Expr} {es : List Expr} {to : TE} {t : TA} {name : Str} {apos cpos : Pos} {T id : String} {r : V → List V → Hp → VK → Prop}
theorem pe_bm0 (pa : PlainAttrs T) (slot : Slot T name id) (hty : typeOf (.builtin id) = pure (.type "method_descriptor")) (hm : MtR X id r) (ho : PE X o to)
    (hbase : attributeBase o name X.env (eval o X.env) = eval o X.env := by rfl) (hline : (apos.endLine == cpos.line) = true := by rfl) : PE X (.Call (.Attribute o name apos) [] [] cpos) (tBM0 X.K T r to) := by
  intro pins s σ H Q I h
  refine wpAny_Call_method0_late hbase hline (thn (ho pins s σ H _ I h) fun v s1 ⟨x, H1, I1, r1, ty, q1⟩ => ?_)
  obtain ⟨h1, h2⟩ := tyV_is I1 r1 ty
  exact ⟨T, id, pa, slot, hty, h1, h2, Calls.callWith_builtin rfl (PySem.evalArgs_none (hm pins s1 σ H1 x [] v [] Q I1 r1 .nil q1))⟩
theorem pe_bm (pa : PlainAttrs T) (slot : Slot T name id) (hty : typeOf (.builtin id) = pure (.type "method_descriptor")) (hm : MtR X id r) (ho : PE X o to) (ha : PA X (e :: es) t)
    (hbase : attributeBase o name X.env (eval o X.env) = eval o X.env := by rfl)
    (hfew : ((backTo cpos (starEach (e :: es) X.env)).all (fun x => !x.1) && (backToKw cpos (keywordEach [] X.env)).all (fun x => x.1.isSome)
      && decide ((e :: es).length + ([] : List Keyword).length + (if ([] : List Keyword).isEmpty then 0 else 1) < 30)) = true := by rfl)
    (hline : (apos.endLine == cpos.line) = true := by rfl) (hs : starEach (e :: es) X.env = (false, eval e X.env) :: starEach es X.env := by rfl) (hplain : (backTo cpos (starEach es X.env)).any (·.1) = false := by rfl) :
    PE X (.Call (.Attribute o name apos) (e :: es) [] cpos) (tBM X.K T r to t) := by
  intro pins s σ H Q I h
  refine wpAny_Call_method_late hbase hfew hline rfl (thn (ho pins s σ H _ I h) fun v s1 ⟨x, H1, I1, r1, ty, q1⟩ => ?_)
  obtain ⟨h1, h2⟩ := tyV_is I1 r1 ty
  refine ⟨T, id, pa, slot, hty, h1, h2, ?_⟩
  have hA := ha cpos pins s1 σ H1 _ I1 q1
  rw [hs] at hA ⊢
  refine Calls.callWith_builtin (by show (false || (backTo cpos (starEach es X.env)).any (·.1)) = false; rw [hplain] <;> rfl) (Calls.evalArgs_plain ?_)
  exact thn hA fun us s2 ⟨vs, H2, I2, r2, q2⟩ => hm pins s2 σ H2 x vs v us Q I2 r1 r2 q2
end
end L2
namespace L2
open PySem PySem.Spec PyProof.Rows
def MtM (X : Cx) (id : String) (r : V → List V → Hp → VK → Prop) : Prop :=
  ∀ (pins : List (Addr × Obj)) (s : Shared) (σ : St) (H : Hp) (x : V) (xs : List V) (v : Value) (us : List Value) (Q : VK), Inv X pins σ H s → RelV x v → Vals xs us → r x xs H Q →
    wpAny (model X.prog X.w) X.A (call (.builtin id) (v :: us)) (EP X pins σ Q) X.xe s
theorem Vals.one : ∀ {x : V} {us : List Value}, Vals [x] us → ∃ u, us = [u] ∧ RelV x u
  | _, _, .cons r .nil => ⟨_, rfl, r⟩
theorem Vals.zero : ∀ {us : List Value}, Vals [] us → us = []
  | _, .nil => rfl
theorem Vals.dropLast {xs : List V} {us : List Value} (h : Vals xs us) : Vals xs.dropLast us.dropLast := by
  induction h with
  | nil => exact .nil
  | cons r t ih =>
    cases t with
    | nil => exact .nil
    | cons q t' => exact .cons r ih
theorem erase_last {α : Type} (l : List α) : l.eraseIdx (l.length - 1) = l.dropLast := by
  induction l with
  | nil => rfl
  | cons a r ih =>
    cases r with
    | nil => rfl
    | cons b r =>
      have e : (a :: b :: r).length - 1 = ((b :: r).length - 1) + 1 := by
        have h1 : (a :: b :: r).length = r.length + 2 := rfl
        have h2 : (b :: r).length = r.length + 1 := rfl
        lia
      rw [e, List.eraseIdx_cons_succ, ih]
      all_goals rfl
section
variable {X : Cx} {pins : List (Addr × Obj)} {σ : St} {H : Hp} {s : Shared} {l b : Addr} {xs ys zs : List V}
theorem Inv.lset {its its' : List Value} {n : Nat} {f : Array Value → Array Value} {t' : Nat} (I : Inv X pins σ H s) (hH : H l = some (.lst xs))
    (e : s.heap.get? l = some { cls := .type "list", data := .seq its.toArray n }) (hf : f its.toArray = its'.toArray) (hv : Vals ys its') (hz : ys.length ≤ sizeLine) :
    Inv X pins σ (upd H l (.lst ys)) { s with heap := s.heap.update l (Obj.mapSeq f), toks := t' } := by
  have q := PySem.IsL.update e f
  rw [hf] at q
  refine I.write (x := l) (e := l) (by rw [hH]; exact trivial) (.inl rfl) (fun b' u hb hu => (Heap.get?_update_other s.heap (Obj.mapSeq f) (Ne.symm hb)).trans hu) ⟨_, q⟩ ?_
  exact ⟨hz, its', _, hv, q⟩
theorem Inv.lnew {its : List Value} {t' : Nat} (I : Inv X pins σ H s) (hv : Vals ys its) (hz : ys.length ≤ sizeLine) :
    Inv X pins σ (upd H s.heap.objs.size (.lst ys)) { s with heap := s.heap.push { cls := .type "list", data := .seq its.toArray }, toks := t' } :=
  I.laid (fun _ _ q => Heap.get?_push_of_some _ q) (Nat.le_refl _) ⟨hz, its, 0, hv, Heap.get?_push_size _ rfl⟩
theorem Inv.fresh (I : Inv X pins σ H s) : H s.heap.objs.size = none := I.hok.fresh (Nat.le_refl _)
theorem Inv.lstM (I : Inv X pins σ H s) (hH : H l = some (.lst xs)) : xs.length ≤ sizeLine ∧ ∃ (its : List Value) (n : Nat), Vals xs its ∧ xs.length = its.length ∧ s.heap.get? l = some { cls := .type "list", data := .seq its.toArray n } := by
  obtain ⟨z, its, n, r, e⟩ := I.hok l _ hH
  exact ⟨z, its, n, r, r.length, e⟩
end
section
variable {X : Cx}
def rAppend : V → List V → Hp → VK → Prop := fun x vs H Q => ∃ l xs y, x = .ref l ∧ vs = [y] ∧ H l = some (.lst xs) ∧ xs.length < sizeLine ∧ Q .non (upd H l (.lst (xs ++ [y])))
theorem mt_append : MtM X "list.append" rAppend := by
  intro pins s σ H x vs v us Q I rx rv h
  obtain ⟨l, xs, y, rfl, rfl, hH, hz, q⟩ := h
  cases rx
  obtain ⟨u, rfl, ru⟩ := rv.one
  obtain ⟨z, its, n, r, hl, e⟩ := I.lstM hH
  refine call_meets F.slot_list_append ⟨_, e, rfl⟩ F.entry_list_append (F.args_list_append_2 _ _) (PySem.list_append l its.toArray n u (by rw [List.size_toArray]; lia)) ⟨e, ?_⟩
  refine ⟨.non, _, I.lset (its' := its ++ [u]) hH e (by simp) (r.append (.cons ru .nil)) ?_, rfl, q⟩
  rw [List.length_append, List.length_singleton]
  lia
def rPop : V → List V → Hp → VK → Prop := fun x vs H Q => ∃ l xs y, x = .ref l ∧ vs = [] ∧ H l = some (.lst xs) ∧ xs[xs.length - 1]? = some y ∧ Q y (upd H l (.lst xs.dropLast))
theorem mt_pop : MtM X "list.pop" rPop := by
  intro pins s σ H x vs v us Q I rx rv h
  obtain ⟨l, xs, y, rfl, rfl, hH, hy, q⟩ := h
  cases rx
  have hus := rv.zero
  subst hus
  obtain ⟨z, its, n, r, hl, e⟩ := I.lstM hH
  obtain ⟨u, hu, ru⟩ := r.get hy
  have hy' : its.toArray[its.toArray.size - 1]? = some u := by
    show its.toArray[its.length - 1]? = some u
    rw [← Array.getElem?_toList, ← hl]
    exact hu
  refine call_meets F.slot_list_pop ⟨_, e, rfl⟩ F.entry_list_pop (F.args_list_pop_1 _) (MeetsSeq.list_pop_last l its.toArray n u hy' (by rw [List.size_toArray]; lia)) ⟨e, ?_⟩
  refine ⟨y, _, I.lset (its' := its.dropLast) hH e ?_ r.dropLast ?_, ru, q⟩
  · show its.toArray.eraseIdxIfInBounds (its.toArray.size - 1) = its.dropLast.toArray
    rw [List.size_toArray, List.eraseIdxIfInBounds_toArray, erase_last]
  · rw [List.length_dropLast]
    lia
def rCat : R2 := fun x y H Q => ∃ l b xs zs, x = .ref l ∧ y = .ref b ∧ H l = some (.lst xs) ∧ H b = some (.lst zs) ∧ xs.length + zs.length ≤ sizeLine ∧ ∀ p, H p = none → Q (.ref p) (upd H p (.lst (xs ++ zs)))
theorem op_cat : OpR X (binaryOp .Add) rCat := by
  intro pins s σ H x y v u Q I rx ry h
  obtain ⟨l, b, xs, zs, rfl, rfl, hH, hB, hz, q⟩ := h
  cases rx
  cases ry
  obtain ⟨z, its, n, r, hl, e⟩ := I.lstM hH
  obtain ⟨z2, its2, n2, r2, hl2, e2⟩ := I.lstM hB
  refine PySem.P.add_list e e2 ?_ (by rw [List.size_toArray, List.size_toArray]; lia)
  have ea : its.toArray ++ its2.toArray = (its ++ its2).toArray := by simp
  rw [ea]
  exact ⟨.ref _, _, I.lnew (t' := s.toks) (r.append r2) (by rw [List.length_append]; lia), rfl, q _ I.fresh⟩
end
section
variable {prog : Program} {w : World} {A : Around} {E : Value → Shared → Prop} {s : Shared}
end
section
variable {X : Cx}
end
end L2
namespace Att
open PySem PySem.W PySem.Calls PyProof.Rows
theorem ints_of_wellAll {P : Params} {h : Heap} : ∀ (ns : List Int) (vs : List Value), WellAll P h vs (ns.map WData.int) → IntsAre vs ns := by
  intro ns
  induction ns with
  | nil =>
    intro vs w
    rw [List.map_nil] at w
    cases w
    exact .nil
  | cons n ns ih =>
    intro vs w
    rw [List.map_cons] at w
    cases w with
    | cons a b =>
      cases a
      exact .cons _ _ (ih _ b)
theorem script_of {l : OpenLaw} {n : Nat} (hn : l.most = some n) {P : Params} {h : Heap} {args : List WData} {vals : List Value}
    (hpre : l.row.toRowW.claim.pre args = true) (hwl : WellAll P h vals args) :
    ∃ a vs ns, vals = [Value.ref a] ∧ args = [WData.list (ns.map WData.int)] ∧ h.get? a = some { cls := .type "list", data := .seq vs.toArray } ∧ IntsAre vs ns ∧ ns.length ≤ n := by
  have hsh : WShape.hasAll [] args [.list .int] = true := (pre_splitW hpre).1
  have hc : l.pre.holds [] { args := args } = true := (pre_splitW hpre).2
  obtain ⟨d, r, rfl, h1, h2⟩ := hasAllW_cons hsh
  obtain rfl := hasAllW_nil h2
  obtain ⟨xs, rfl, h3⟩ := hasW_list h1
  obtain ⟨ns, rfl⟩ := items_int h3
  have hlen : ns.length ≤ n := by
    unfold OpenLaw.pre at hc
    have h4 : (WTm.not (.lt (.lit (.int (n : Int))) (.len (.arg 0)))).holds [] { args := [.list (ns.map .int)] } = true := by
      have h4 := (holds_andW hc).1
      rw [hn] at h4
      exact h4
    have h5 := condW_of h4 (w_not (w_lt w_lit (w_len_list (w_arg rfl))))
    rw [List.length_map] at h5
    refine Nat.le_of_not_lt fun q => ?_
    have q' : (n : Int) < ((ns.length : Nat) : Int) := by lia
    first
      | (rw [decide_eq_true q'] at h5; exact absurd h5 (by decide))
      | (simp at h5; lia)
  cases hwl with
  | cons w1 w2 =>
    cases w2
    cases w1 with
    | list ho hall => exact ⟨_, _, ns, rfl, rfl, ho, ints_of_wellAll ns _ hall, hlen⟩
theorem post_true (l : OpenLaw) (args : List WData) : l.row.toRowW.claim.post args (.bool true) args = true :=
  postW_of (r := l.row.toRowW) (X := (true == true))
    (show WShape.has [] (.bool true) .bool = true by first | rfl | decide | simp [WShape.has, WShape.arms, WShape.armsAll])
    (show (WTm.eq .res (.lit (.bool true))).value [] { args := args, res := some (.bool true), after := args } = some (.bool (true == true)) from w_eq_bool (w_res rfl) w_lit) rfl
theorem attach_call {l : OpenLaw} {n : Nat} {q : Program} {loose : List Str} {XP : (Str → Option Value) → Heap → Prop} {YP : World → Heap → Prop} {d : DefRec}
    (hn : l.most = some n) (hdf : d.params.defaults = [])
    (call : ∀ (w : World) (s₀ s₁ : Shared) (mg mb : Str → Option Value) (fa : Addr) (o : Obj) (pm cd doc : Value) (a : Addr) (vs : List Value) (ns : List Int),
      Ground q loose [] XP w s₀ mg mb s₁.heap → YP w s₁.heap →
      s₁.heap.get? fa = some o → o.data = .func (docDef d.name d.params d.body d.scope pm cd doc) → s₁.heap.CodeRec cd d.name → mg d.name = some (.ref fa) →
      s₁.heap.get? a = some { cls := .type "list", data := .seq vs.toArray } → IntsAre vs ns → ns.length ≤ n → s₁.gens = #[] →
      codeAny (model l.prog w) callerA (.call (.ref fa) ⟨[.ref a], []⟩) (fun r s' => r = .ok (.ret (.bool true)) ∧ OldK s₁.heap s'.heap ∧ s'.os = s₁.os ∧ AllBare s'.gens) s₁) :
    WalkO q loose XP YP l.row.toRowW d [] (fun f vs => PySem.call f vs) := by
  intro w s₀ s₁ mg mb G Y fa o pm cd doc dV kV ho hd hcd hD hmg hg args vals as hpre hlay hrd hwl hlo
  obtain rfl : dV = .none := Dflts.none hD hdf
  obtain rfl : kV = .none := Dflts.noKw hD
  obtain ⟨a, vs, ns, rfl, rfl, hobj, hints, hlen⟩ := script_of hn hpre hwl
  refine enter_call (codeAny_mono (call w s₀ s₁ mg mb fa o pm cd doc a vs ns G Y ho (fd_plain hd) hcd hmg hobj hints hlen hg) fun r s' hq => ?_)
  obtain ⟨rfl, h2, h3, h4⟩ := hq
  exact ⟨.inl ⟨.bool true, .bool true, [], rfl, fun _ => rfl, .bool true, post_true l _, fun _ => ⟨List.Pairwise.nil, fun _ hm => (nomatch hm)⟩⟩, h2, h3, h4⟩
section
variable {prog : Program} {w : World} {A : Around} {E : Value → Shared → Prop} {s : Shared} {K : Frag}
end
end Att
namespace L2
open PySem PySem.Spec PyProof.Rows
theorem vals_ints : ∀ {vs : List Value} {ns : List Int}, IntsAre vs ns → Vals (ns.map V.int) vs
  | _, _, .nil => .nil
  | _, _, .cons n t h => .cons ⟨t, rfl⟩ (vals_ints h)
def Only (H : Hp) : Prop := ∀ b, H b = none ∨ ∃ o xs, H b = some (.frz o (.lst xs))
theorem law_call {P : Program} {w : World} {K : PySem.W.Frag} {mg mb : Str → Option Value} {CX : CXT} {k : Nat} {fa a : Addr} {fd : FuncData} {x : Str} {sp : Sp} {s₁ : Shared} {vs : List Value} {ns : List Int}
    (KX : K.In s₁.heap) (hns : s₁.heap.Ns mainGlobals mg) (hb : s₁.heap.Ns builtinsNs mb) (hbb : ∀ x : Str, x ≠ "__name__" → mb x = bootBuiltins x) (hlim : s₁.heap.NoLimit) (hg : s₁.gens = #[])
    (ha : s₁.heap.get? a = some { cls := .type "list", data := .seq vs.toArray }) (hi : IntsAre vs ns) (hl : ns.length ≤ sizeLine) (hr : Room k callerA)
    (F : ∀ base : Heap, K.In base → base.Ns mainGlobals mg → FnOk P w K mg base CX k fa fd [x] sp) (hbind : ∀ (s : Shared) (u : Value), BindsTo s fd ⟨[u], []⟩ [(x, u)])
    (hsp : ∀ H : Hp, Only H → SqL K H a (ns.map V.int) → sp [.ref a] H (fun v _ => v = .bl true) fun _ _ _ => False)
    (hCX : ∀ H e s', CX [] H s₁ (fun _ _ _ => False) e s' → False) :
    codeAny (model P w) callerA (.call (.ref fa) ⟨[.ref a], []⟩) (fun r s' => r = .ok (.ret (.bool true)) ∧ OldK s₁.heap s'.heap ∧ s'.os = s₁.os ∧ AllBare s'.gens) s₁ := by
  have rv := vals_ints hi
  have lenV := hi.length
  -- from an abstract heap in which nothing but the script may be tracked
  have core : ∀ H : Hp, Only H → SqL K H a (ns.map V.int) → HOk P w H s₁.heap → (∀ b, H b ≠ none → b = a) → (H a ≠ none → K.lookup a = none) →
      codeAny (model P w) callerA (.call (.ref fa) ⟨[.ref a], []⟩) (fun r s' => r = .ok (.ret (.bool true)) ∧ OldK s₁.heap s'.heap ∧ s'.os = s₁.os ∧ AllBare s'.gens) s₁ := by
    intro H hO hS hok hA hK
    have base_of : ∀ {b : Addr} {o : Obj}, s₁.heap.get? b = some o → H b = none → (hidT s₁.heap H).get? b = some o := fun e n => hidT_get e n
    have noA : ∀ {b : Addr} {o : Obj} {es : Array DictEntry} {ep : Nat}, s₁.heap.get? b = some o → o.data = .dict es ep → H b = none := fun {b o es ep} e d => by
      cases q : H b with
      | none => rfl
      | some u =>
        have e' : b = a := hA b (by rw [q]; simp)
        subst e'
        rw [ha] at e; cases e
        have d' : Data.seq vs.toArray _ = Data.dict es ep := d
        cases d'
    have nsK : ∀ {b : Addr} {m : Str → Option Value}, s₁.heap.Ns b m → (hidT s₁.heap H).Ns b m := fun {b m} ⟨o, es, ep, e, d, r⟩ => ⟨o, es, ep, base_of e (noA e d), d, r⟩
    have hKb : K.In (hidT s₁.heap H) := fun b o e => base_of (KX b o e) (by
      cases q : H b with
      | none => rfl
      | some u =>
        have e' : b = a := hA b (by rw [q]; simp)
        subst e'
        rw [hK (by rw [q]; simp)] at e; cases e)
    have hM : Mod K mg (hidT s₁.heap H) := ⟨hKb, nsK hns, ⟨mb, nsK hb, hbb⟩, let ⟨mc, h1, h2⟩ := hlim; ⟨mc, nsK h1, h2⟩⟩
    have e0 : Env0 P w K mg (hidT s₁.heap H) callerA [] s₁ H := ⟨rfl, hM, fun b o e => of_hidT e, Nat.le_of_eq (hidT_size _ _), trivial, fun b hb => absurd (show b ∈ ([] : List Addr) from hb) (by simp), hok, .of_eq hg⟩
    refine codeAny_mono ((F _ hKb (nsK hns)).run callerA [] s₁ H ⟨[.ref a], []⟩ [.ref a] [.ref a] _ _ hr e0 (hbind s₁ (.ref a)) (.cons rfl .nil) (hsp H hO hS)) fun r s' h => ?_
    cases r with
    | error e => exact (hCX H e s' h).elim
    | ok fl =>
      cases fl with
      | next => exact False.elim h
      | brk => exact False.elim h
      | cont => exact False.elim h
      | ret u =>
        obtain ⟨v, H', os, bare, un, hok', r', q⟩ := h
        have q' : v = .bl true := q
        subst q'
        obtain rfl : u = Value.bool true := r'
        refine ⟨rfl, OldK.of_keep fun b o e => ?_, os, bare⟩
        cases q : H b with
        | none => exact un.keep b o e q (by intro z; exact absurd (show b ∈ ([] : List Addr) from z) (by simp)) (by simp)
        | some u =>
          rcases hO b with z | ⟨ob, xs, z⟩
          · rw [q] at z; cases z
          · have z2 := un.frzs b ob _ z
            obtain ⟨e1, _⟩ := hok b _ z
            obtain ⟨e2, _⟩ := hok' b _ z2
            rw [e] at e1; cases e1
            exact e2
  cases hk : K.lookup a with
  | some o =>
    -- the script is one of the module's own objects
    have e := KX a o hk
    rw [ha] at e
    cases e
    refine core (fun _ => none) (fun _ => .inl rfl) (.inr ⟨_, vs.toArray, _, hk, rfl, rfl, rfl, by rw [List.size_toArray, lenV]; exact hl, by simpa using rv⟩) (fun b u z => by have z' : (none : Option HO) = some u := z; cases z') (fun b z => absurd rfl z) fun z => absurd rfl z
  | none =>
    refine core (fun b => if b = a then some (.frz { cls := .type "list", data := .seq vs.toArray } (.lst (ns.map V.int))) else none) (fun b => ?_) (.inl (.inr ⟨{ cls := .type "list", data := .seq vs.toArray }, if_pos rfl⟩)) (fun b u z => ?_) (fun b z => ?_) fun _ => hk
    · by_cases hb : b = a
      · exact .inr ⟨_, _, if_pos hb⟩
      · exact .inl (if_neg hb)
    · by_cases hb : b = a
      · have z' := (if_pos hb).symm.trans z
        cases z'
        subst hb
        exact ⟨ha, by rw [List.length_map]; exact hl, vs, _, rv, ha⟩
      · have z' := (if_neg hb).symm.trans z
        cases z'
    · by_cases hb : b = a
      · exact hb
      · exact absurd (if_neg hb) z
end L2
namespace L2
open PySem PySem.Spec PyProof.Rows
theorem walk_of {l : PySem.W.OpenLaw} {n k : Nat} {q : Program} {loose : List Str} {XP : (Str → Option Value) → Heap → Prop} {YP : World → Heap → Prop} {d : DefRec} {K : Params → PySem.W.Frag} {CX : World → CXT} {sp : World → Sp} {x : Str}
    (hn : l.most = some n) (hn2 : n ≤ sizeLine) (hdf : d.params.defaults = []) (hr : Room k callerA)
    (hY : ∀ (w : World) (h : Heap), YP w h → (K w.params).In h)
    (F : ∀ (w : World) (mg : Str → Option Value) (fa : Addr) (h : Heap), (K w.params).In h → h.Ns mainGlobals mg → mg d.name = some (.ref fa) →
      ∃ fd : FuncData, (∀ (s : Shared) (u : Value), BindsTo s fd ⟨[u], []⟩ [(x, u)]) ∧
        ∀ base : Heap, (K w.params).In base → base.Ns mainGlobals mg → FnOk l.prog w (K w.params) mg base (CX w) k fa fd [x] (sp w))
    (hsp : ∀ (w : World) (H : Hp) (a : Addr) (ns : List Int), ns.length ≤ n → Only H → SqL (K w.params) H a (ns.map V.int) → sp w [.ref a] H (fun v _ => v = .bl true) fun _ _ _ => False)
    (hCX : ∀ (w : World) (H : Hp) (s : Shared) (e : Value) (s' : Shared), CX w [] H s (fun _ _ _ => False) e s' → False) :
    PySem.W.WalkO q loose XP YP l.row.toRowW d [] (fun f vs => PySem.call f vs) := by
  refine Att.attach_call hn hdf fun w s₀ s₁ mg mb fa o pm cd doc a vs ns G Y ho hd hcd hmg hobj hints hlen hg => ?_
  have KX := hY w _ Y
  obtain ⟨fd, hb, hF⟩ := F w mg fa _ KX G.T.g hmg
  exact law_call KX G.T.g G.T.b G.T.builtins G.T.nolimit hg hobj hints (Nat.le_trans hlen hn2) hr hF hb (fun H hO hS => hsp w H a ns hlen hO hS) fun H e s' => hCX w H s₁ e s'
end L2
namespace L2
open PySem PySem.Spec PyProof.Rows
def defArgs (s : Stmt) : Arguments := match s with
  | .FunctionDef _ a _ _ _ _ _ _ _ _ => a
  | _ => { posonlyargs := [], args := [], vararg := none, kwonlyargs := [], kw_defaults := [], kwarg := none, defaults := [] }
def defBody (s : Stmt) : List Stmt := match s with
  | .FunctionDef _ _ b _ _ _ _ _ _ _ => b
  | _ => []
def defScope (s : Stmt) : Scope := match s with
  | .FunctionDef _ _ _ _ _ _ sc _ _ _ => sc
  | _ => { kind := .function, names := [], isGenerator := false, isCoroutine := false }
abbrev CX0 : CXT := fun _ _ _ _ _ _ => False
abbrev E0 : XK := fun _ _ _ => False
theorem pass0 {X : Cx} : Passes CX0 X E0 := fun _ _ _ _ _ _ _ h => h.elim
structure Fun (K : PySem.W.Frag) (x qual : Str) (st : Stmt) (f : Addr) (fd : FuncData) : Prop where
  ex : ∃ (oc : Value) (od : Option Addr) (kV doc pm : Value) (an : Option Addr) (cdv ct : Value) (osl : Array (Option Value)),
    fd = PySem.W.fnOf x qual (defArgs st) (defBody st) (defScope st) .none kV doc pm an cdv ct ∧ K.lookup f = some ⟨oc, od, .func fd, osl⟩ ∧ PySem.W.codeIn K cdv qual = true
  kp : PySem.W.keepIn K (.ref f) = true
section
variable {P : Program} {w : World} {K : PySem.W.Frag} {mg : Str → Option Value} {base : Heap}
theorem Fun.ok {x qual : Str} {st : Stmt} {f : Addr} {fd : FuncData} {N ps : List Str} {k : Nat} {sp : Sp} (F : Fun K x qual st f fd) (S : FnScope N ps (defScope st)) (len : ∀ vs H Q E, sp vs H Q E → vs.length = ps.length)
    (hbody : ∀ (cdv : Value) (A : Around) (outer : List Env) (s : Shared) (H : Hp) (vs : List V) (Q : VK) (E : XK), Room k (A.deeper (envOfC qual (defScope st) s.heap.objs.size f cdv)) → sp vs H Q E →
      ∃ t, PSs (cxOf CX0 P w K mg base N qual (defScope st) f cdv A outer s H E).nox (defBody st) t ∧ t { nx := fun _ H' => Q .non H', rt := Q } (start N vs) H) : FnOk P w K mg base CX0 (k + 1) f fd ps sp := by
  obtain ⟨oc, od, kV, doc, pm, an, cdv, ct, osl, rfl, lk, hcd⟩ := F.ex
  refine fn_of lk hcd S len fun A outer s H vs Q E hr hsp => ?_
  obtain ⟨t, h, q⟩ := hbody cdv A outer s H vs Q E hr hsp
  exact ⟨t, h.nox, q⟩
theorem Fun.binds {x qual : Str} {st : Stmt} {f : Addr} {fd : FuncData} {ps : List Str} (F : Fun K x qual st f fd)
    (h : ∀ (kV doc pm : Value) (an : Option Addr) (cdv ct : Value) (us : List Value), us.length = ps.length → bindArgs (PySem.W.fnOf x qual (defArgs st) (defBody st) (defScope st) .none kV doc pm an cdv ct) ⟨us, []⟩ = pure (ps.zip us)) : Binds K fd ps [] := by
  obtain ⟨oc, od, kV, doc, pm, an, cdv, ct, osl, rfl, lk, hcd⟩ := F.ex
  exact .all (h kV doc pm an cdv ct)
theorem fun_mk {x qual : Str} {st : Stmt} {f : Addr} {oc : Value} {od an : Option Addr} {osl : Array (Option Value)} {kV doc pm cdv ct : Value} (l : K.lookup f = some ⟨oc, od, .func (PySem.W.fnOf x qual (defArgs st) (defBody st) (defScope st) .none kV doc pm an cdv ct), osl⟩)
    (c : PySem.W.codeIn K cdv qual = true) (k : PySem.W.keepIn K (.ref f) = true) : Fun K x qual st f (PySem.W.fnOf x qual (defArgs st) (defBody st) (defScope st) .none kV doc pm an cdv ct) := ⟨⟨oc, od, kV, doc, pm, an, cdv, ct, osl, rfl, l, c⟩, k⟩
end
theorem hu_of {A : Around} {k : Nat} (hr : Room k A) : A.units + 1 < cLine := Nat.lt_of_le_of_lt (Nat.add_le_add_left (by decide : 1 ≤ 64) _) hr.units
theorem small1000 {n : Nat} (h : n ≤ 1000) : n < sizeLine := Nat.lt_of_le_of_lt h (by decide)
section
variable {X : Cx}
end
theorem iteF {A B : Prop} (h : B) : if false = true then A else B := by
  rw [if_neg Bool.false_ne_true]
  exact h
theorem ite2 {c A B : Prop} [Decidable c] (h1 : c → A) (h2 : ¬ c → B) : if c then A else B := by
  by_cases h : c
  · rw [if_pos h]
    exact h1 h
  · rw [if_neg h]
    exact h2 h
def Same (H H' : Hp) : Prop := ∀ b o, H b = some o → H' b = some o
theorem Same.refl (H : Hp) : Same H H := fun _ _ h => h
theorem Same.trans {H H1 H2 : Hp} (a : Same H H1) (b : Same H1 H2) : Same H H2 := fun c o h => b c o (a c o h)
end L2
end
section
set_option linter.all false
set_option maxRecDepth 100000
set_option maxHeartbeats 4000000
namespace L2
open PySem PySem.Spec PyProof.Rows
theorem str_beq_iff (a c : Str) : ((a == c) = true) ↔ a = c := by simp
section
open PySem.SeqAt
open PySem.AutoSeq1 (wpAny_loadPart')
open PySem.MeetsSeq PySem.MeetsSeq2 PySem.MeetsSeq3
end
end L2
end
section
set_option linter.all false
set_option maxRecDepth 100000
set_option maxHeartbeats 4000000
namespace L2
open PySem PySem.Spec PyProof.Rows
section
variable {X : Cx}
end
end L2
end
section
set_option linter.all false
set_option maxRecDepth 100000
set_option maxHeartbeats 4000000
namespace L2
open PySem PySem.Spec PyProof.Rows
def Cx.blk (X : Cx) (scope : Scope) (cl : List (Str × Addr)) (C : Addr) (NB : List Str) (fp : List Addr) (s₀ : Shared) (H₀ : Hp) : Cx :=
  { X with N := NB, s₀ := s₀, H₀ := H₀, env := compEnvC scope cl C X.env, outer := X.stack, ex := X.ex ++ fp, fn := fun _ => false, pn := [], xe := fun _ _ => False }
structure Blk (X : Cx) (scope : Scope) (cl : List (Str × Addr)) (x : Str) (NB : List Str) (cap : List Nat) : Prop where
  clos : closureFor scope X.env = pure cl
  nocell : ∀ y ∈ scope.names, y.2 ≠ .cell
  kind : scope.kind = .function
  names : ∀ y ∈ scope.names, y.2 = .local → scope.names.lookup y.1 = some .local
  cells : ∀ y c, cl.lookup y = some c → X.env.cells.lookup y = some c
  has : ∀ y, ((relabel scope X.env).names.lookup y = some .cell ∨ (relabel scope X.env).names.lookup y = some .free) → ∃ c, cl.lookup y = some c
  len : cap.length = NB.length
  /-- the slot j + 1 of the block is the slot i of X, by a cell -/
  cap : ∀ (j i : Nat), cap[j]? = some i → ∃ y, NB[j]? = some y ∧ X.N[i]? = some y ∧ Vis X.env.scope y ∧ (X.env.kindOf y = some .cell ∨ X.env.kindOf y = some .free) ∧ ((relabel scope X.env).names.lookup y = some .cell ∨ (relabel scope X.env).names.lookup y = some .free)
  own : scope.names.lookup x = some .local
  nd : (x :: NB).Nodup
def capσ (cap : List Nat) (σ : St) : St := cap.map fun i => σ[i]?.join
def tComp (wi : TI) (tt : TT) (te : TE) (cap : List Nat) : TE := fun σ H Q => wi σ H fun J H1 => ∀ D, H1 D = none →
  ∃ W : Nat → Nat → List V → Hp → Prop, (∃ m, W 0 m [] (upd H1 D (.lst []))) ∧ ∀ i m ys H, W i m ys H → H D = some (.lst ys) ∧
    ((J.stop i H ∧ Q (.ref D) H) ∨ (J.go i H ∧ ∀ x H', J.yld i H x H' → tt (some x :: capσ cap σ) H' fun b H3 =>
      if b = true then te (some x :: capσ cap σ) H3 fun v H4 => H4 D = some (.lst ys) ∧ ys.length < sizeLine ∧ ∃ m', m' < m ∧ W (i + 1) m' (ys ++ [v]) (upd H4 D (.lst (ys ++ [v])))
      else ∃ m', m' < m ∧ W (i + 1) m' ys H3))
def PTs (X : Cx) (ifs : List Expr) (t : TT) : Prop :=
  ∀ (pins : List (Addr × Obj)) (s : Shared) (σ : St) (H : Hp) (Q : Bool → Hp → Prop), Inv X pins σ H s → t σ H Q →
    wpAny (model X.prog X.w) X.A (forIn ifs true fun c r => if r = true then do let ok ← isTrue c X.env (eval c X.env); pure (ForInStep.yield ok) else pure (ForInStep.yield r)) (TP X pins σ Q) X.xe s
def tYes : TT := fun _ H Q => Q true H
theorem pts_nil {X : Cx} : PTs X [] tYes := fun pins s σ H Q I h => wpAny_tests_nil ⟨H, I, h⟩
theorem pts_one {X : Cx} {c : Expr} {t : TT} (h : PT X c t) : PTs X [c] t := fun pins s σ H Q I hq => wpAny_tests_one (h pins s σ H Q I hq)
theorem compLoop_own {prog : Program} {w : World} {A : Around} {R : Result → Shared → Prop} {s : Shared} {elt target iter : Expr} {ifs : List Expr} {scope : Scope} {pos : Pos} {it acc : Value} {env : Env} (I : Nat → Shared → Prop)
    (turn : ∀ n s, I n s → wpAny (model prog w) A (pyNext it) (fun r s₁ => match r with
      | none => R (.ok .next) s₁
      | some v => wpAny (model prog w) A (letOwnedTupleGo target it v) (fun _ s₁' => wpAny (model prog w) A (assign target env v) (fun _ s₂ =>
          wpAny (model prog w) A (forIn ifs true fun c r => if r = true then do let ok ← isTrue c env (eval c env); pure (ForInStep.yield ok) else pure (ForInStep.yield r)) (fun ok s₃ =>
            if ok = true then wpAny (model prog w) A (eval elt env) (fun x s₄ =>
              wpAny (model prog w) A (call (.builtin "list.append") [acc, x]) (fun _ s₅ => ∃ m, m < n ∧ I m s₅) (fun _ _ => False) s₄) (fun _ _ => False) s₃
            else ∃ m, m < n ∧ I m s₃) (fun _ _ => False) s₂) (fun _ _ => False) s₁') (fun _ _ => False) s₁) (fun _ _ => False) s)
    (n : Nat) (h : I n s) : codeAny (model prog w) A (.compLoop (.ListComp elt [⟨target, iter, ifs, 0⟩] scope pos) 0 it acc env) R s := by
  refine codeAny_loop rfl I (fun n s hI => ?_) n h
  show wpAny _ A ((compTurn (.ListComp elt [⟨target, iter, ifs, 0⟩] scope pos) 0 it acc env).onRaise (fun x => do noteFrame x env; theTreesLotGoes x)) _ _ s
  refine wpAny_noted ?_
  rw [compTurn_list]
  refine wpAny_bind (wpAny_standAt (wpAny_bind (wpAny_mono (turn n s hI) (fun r s₁ h₁ => ?_) fun _ _ z => z.elim)))
  cases r with
  | none => exact wpAny_pure h₁
  | some v =>
    refine wpAny_bind (wpAny_mono h₁ (fun _ s₁' h₁' => ?_) fun _ _ z => z.elim)
    refine wpAny_bind (wpAny_mono h₁' (fun _ s₂ h₂ => wpAny_bind (wpAny_mono h₂ (fun ok s₃ h₃ => ?_) fun _ _ z => z.elim)) fun _ _ z => z.elim)
    cases ok with
    | false => exact wpAny_pure ⟨rfl, h₃⟩
    | true =>
      exact wpAny_bind (wpAny_bind (wpAny_mono h₃ (fun x s₄ h₄ => wpAny_bind (wpAny_mono h₄ (fun _ s₅ h₅ => wpAny_pure (wpAny_pure ⟨rfl, h₅⟩)) fun _ _ z => z.elim)) fun _ _ z => z.elim))
structure Gone (X : Cx) (pins : List (Addr × Obj)) (H : Hp) (C : Addr) (s : Shared) : Prop where
  ns : ∃ m, s.heap.Ns C m
  fp : FpOk X pins H C
theorem comp_core {X : Cx} {elt iter : Expr} {x : Str} {px pos pos' : Pos} {ifs : List Expr} {scope : Scope} {cl : List (Str × Addr)} {NB : List Str} {cap : List Nat} {wi : TI} {tt : TT} {te : TE}
    {pins : List (Addr × Obj)} {s : Shared} {σ : St} {H : Hp} {Q : VK} {use : Option (Value → Sem Unit)} {R : Value → Shared → Prop}
    (B : Blk X scope cl x NB cap) (hc : X.calm = true) (hex : X.ex = []) (hi : PI X (.Name x px) iter wi)
    (ht : ∀ C fp s₀ H₀, PTs (X.blk scope cl C (x :: NB) fp s₀ H₀) ifs tt) (he : ∀ C fp s₀ H₀, PE (X.blk scope cl C (x :: NB) fp s₀ H₀) elt te)
    (hs : ∀ v, foldedSetIterable iter X.env v = pure v) (I : Inv X pins σ H s) (h : tComp wi tt te cap σ H Q)
    (fin : ∀ (D C : Addr) (H' : Hp) (s' : Shared), Inv X pins σ H' s' → Gone X pins H' C s' → Q (.ref D) H' → compPost (model X.prog X.w) X.A X.xe use R (.ref D) C (.ok .next) s') :
    wpAny (model X.prog X.w) X.A (comprehension (.ListComp elt [⟨.Name x px, iter, ifs, 0⟩] scope pos) scope X.env pos' (newList []) false (eval iter X.env) use) R X.xe s := by
  refine wpAny_comprehension_free (use := use) rfl hs B.clos B.kind B.names (thn (hi pins s σ H _ I h) fun v s1 h1 => thn h1 fun itv s2 h2 => ?_)
  obtain ⟨it, fp, tn, J, H2, e, I2, T, st2, f2, h2⟩ := h2
  subst e
  refine wpAny_newObj_type (wpAny_newFunctionEnv B.nocell (by intro y hy; simp at hy) (fun h₁ hns₁ hsb₁ => ?_) B.kind)
  dsimp only at hns₁ hsb₁ ⊢
  have I3 := I2.lnew (ys := []) (its := []) (t' := s2.toks) .nil (Nat.zero_le _)
  have hD := I2.fresh
  obtain ⟨W, ⟨m0, w0⟩, turn⟩ := h2 _ hD
  generalize eD : s2.heap.objs.size = D at hD I3 W w0 turn ⊢
  generalize eH2 : s2.heap.push { cls := .type "list", dict := none, data := .seq ([] : List Value).toArray } = G3 at hns₁ hsb₁ I3 ⊢
  generalize eH3 : upd H2 D (.lst []) = H3 at I3 w0
  have hC : G3.objs.size = D + 1 := by rw [← eH2, Heap.size_push, eD]
  generalize eC : G3.objs.size = C at hns₁ hsb₁ hC ⊢
  -- what stood ahead of the block stands in it
  have old : ∀ b o, G3.get? b = some o → h₁.get? b = some o := fun b o e =>
    hsb₁.extBut b o (by rw [← eC]; exact Nat.ne_of_lt (Heap.lt_size e)) (Heap.get?_push_of_some _ e)
  have old2 : ∀ b o, s2.heap.get? b = some o → G3.get? b = some o := fun b o e => by rw [← eH2]; exact Heap.get?_push_of_some _ e
  have fpo : ∀ b ∈ fp, b < D := fun b hb => by
    obtain ⟨o, e, _⟩ := T.obj 0 _ st2 b hb
    rw [← eD]; exact Heap.lt_size e
  have fpx : ∀ b ∈ fp, b ∉ frs X.stack := fun b hb z => by
    obtain ⟨f0, f1, f2', _⟩ := f2 b hb
    rcases List.mem_cons.mp (I2.stkSub b z) with q | q
    · exact f1 q
    · exact f2' q
  let Y : Cx := X.blk scope cl C (x :: NB) fp { s2 with heap := G3, toks := s2.toks } H3
  have okY : Y.Ok := by
    refine ⟨I3.ok.mod, B.kind, I3.ok.glob, I3.ok.blt, ?_, ?_, B.has, ?_, I3.ok.hd, I3.ok.frames, .inl rfl, ?_, I3.bs, ?_, ?_, ?_, I3.stack, I3.stkFree⟩
    · show G3.objs.size ≤ C
      lia
    · intro y z c e1 e2
      exact I3.ok.inj y z c (B.cells y c e1) (B.cells z c e2)
    · intro y c z
      cases z
    · intro b hb
      have hb' : b ∈ fp := by
        have : b ∈ X.ex ++ fp := hb
        rw [hex] at this; simpa using this
      refine ⟨?_, fun y c e => (f2 b hb').2.2.2.2.1 y c (B.cells y c e)⟩
      show b ≠ C
      exact Nat.ne_of_lt (Nat.lt_of_lt_of_le (fpo b hb') (by rw [hC]; exact Nat.le_succ _))
    · show X.base.objs.size ≤ G3.objs.size
      exact Nat.le_trans I3.ok.bsz I3.sz
    · intro b o e hb
      have hb' : b ∈ fp := by
        have : b ∈ X.ex ++ fp := hb
        rw [hex] at this; simpa using this
      rcases (f2 b hb').2.2.2.1 with z | z
      · rw [hex] at z; cases z
      · exact absurd (Nat.lt_of_lt_of_le (Nat.lt_of_lt_of_le (Heap.lt_size e) I3.ok.bsz) z) (Nat.lt_irrefl _)
    · intro b hb
      have hb' : b ∈ fp := by
        have : b ∈ X.ex ++ fp := hb
        rw [hex] at this; simpa using this
      exact fpx b hb'
  have IY : Inv Y [] (none :: capσ cap σ) H3 { s2 with heap := h₁, toks := s2.toks } := by
    refine ⟨okY, rfl, I3.bare, Un.kept old, ⟨_, hns₁, ?_⟩, ?_, ?_, ?_, ?_, I3.hok.kept old, ?_⟩
    · intro j y v e1 e2 hv
      cases j with
      | zero => cases e2
      | succ j =>
        have e1' : NB[j]? = some y := e1
        have e2' : (capσ cap σ)[j]? = some (some v) := e2
        unfold capσ at e2'
        rw [List.getElem?_map] at e2'
        cases ec : cap[j]? with
        | none => rw [ec] at e2'; cases e2'
        | some i =>
          rw [ec] at e2'
          have e3 : σ[i]?.join = some v := Option.some.inj e2'
          have e4 : σ[i]? = some (some v) := by
            cases q : σ[i]? with
            | none => rw [q] at e3; cases e3
            | some z => rw [q] at e3; exact congrArg some e3
          obtain ⟨y', n1, n2, n3, n4, n5⟩ := B.cap j i ec
          rw [e1'] at n1
          cases n1
          obtain ⟨m, hn, hl⟩ := I3.loc
          obtain ⟨u, r, lk⟩ := hl i y v n2 e4 n3
          refine ⟨u, r, .inr ⟨n5, ?_⟩⟩
          obtain ⟨c, hcl⟩ := B.has y n5
          refine ⟨c, hcl, ?_⟩
          rcases lk with ⟨k1, _⟩ | ⟨_, c', ec', cell⟩
          · rcases n4 with n4 | n4 <;> (rw [n4] at k1; cases k1)
          · rw [B.cells y c hcl] at ec'
            cases ec'
            obtain ⟨o, ho, hd⟩ := cell
            exact ⟨o, old c o ho, hd⟩
    · intro y c e
      obtain ⟨v, o, ho, hd⟩ := I3.cell y c (B.cells y c e)
      exact ⟨v, o, old c o ho, hd⟩
    · exact I3.hok.fresh (show G3.objs.size ≤ C by lia)
    · intro y c e
      exact I3.freeC y c (B.cells y c e)
    · intro p hp
      cases hp
    · show (none :: capσ cap σ).length = (x :: NB).length
      rw [List.length_cons, List.length_cons, ← B.len]
      unfold capσ
      rw [List.length_map]
  have fpY : ∀ {H' : Hp}, (∀ b ∈ fp, H' b = none) → ∀ b ∈ fp, FpOk Y [] H' b := fun {H'} hn b hb => by
    refine ⟨hn b hb, ?_, fpx b hb, .inl ?_, fun y c e => (f2 b hb).2.2.2.2.1 y c (B.cells y c e), fun p hp => by cases hp⟩
    · show b ≠ C
      exact Nat.ne_of_lt (Nat.lt_of_lt_of_le (fpo b hb) (by rw [hC]; exact Nat.le_succ _))
    · show b ∈ X.ex ++ fp
      exact List.mem_append_right _ hb
  have st4 : tn 0 h₁ := T.keep _ _ _ st2 fun b hb o e => old b o (old2 b o e)
  have fr4 : ∀ b ∈ fp, H3 b = none := fun b hb => by
    rw [← eH3, upd_ne (Nat.ne_of_lt (fpo b hb))]; exact (f2 b hb).1
  -- behind the block
  have leave : ∀ (H' : Hp) (s' : Shared), Inv Y [] (none :: capσ cap σ) H' s' → Q (.ref D) H' → compPost (model X.prog X.w) X.A X.xe use R (.ref D) C (.ok .next) s' := by
    intro H' s' I' q
    obtain ⟨m, hn, _⟩ := id I'.loc
    have u := I'.base
    have I5 : Inv X pins σ H' s' := by
      refine I3.call' (s' := s') (ch := X.ex ++ fp) I'.os u I'.hok I'.bare fun b hb => ?_
      have hb' : b ∈ fp := by rw [hex] at hb; simpa using hb
      obtain ⟨f0, f1, f2', f3, f4, f5⟩ := f2 b hb'
      exact ⟨f3, f1, f4, f5⟩
    exact fin D C H' s' I5 ⟨⟨m, hn⟩, I3.fpOk (show G3.objs.size ≤ C by rw [eC]; exact Nat.le_refl _) I'.free⟩ q
  have loop : ∀ s₄ : Shared, s₄ = { s2 with heap := h₁, toks := s2.toks } →
      codeAny (model X.prog X.w) X.A (.compLoop (.ListComp elt [⟨.Name x px, iter, ifs, 0⟩] scope pos) 0 (.ref it) (.ref D) (compEnvC scope cl C X.env)) (compPost (model X.prog X.w) X.A X.xe use R (.ref D) C) s₄ := by
    rintro s₄ rfl
    refine compLoop_own (fun n s' => ∃ i ys H', Inv Y [] (none :: capσ cap σ) H' s' ∧ tn i s'.heap ∧ (∀ b ∈ fp, H' b = none) ∧ W i n ys H') ?_ m0 ⟨0, [], H3, IY, st4, fr4, w0⟩
    rintro n s3 ⟨i, ys, H', I', st', fr', w'⟩
    obtain ⟨hDl, tr⟩ := turn i n ys H' w'
    rcases tr with ⟨stop, q⟩ | ⟨go, step⟩
    · refine thn (T.done Y rfl rfl rfl hc i [] s3 _ H' (fun _ _ => False) I' (fpY fr') st' stop) fun r s4 ⟨hr, I4⟩ => ?_
      subst hr
      exact leave H' s4 I4 q
    · refine thn (T.item Y rfl rfl rfl hc i [] s3 _ H' (fun _ _ => False) I' (fpY fr') st' go) fun r s4 ⟨u, hr, h4⟩ => ?_
      subst hr
      refine thn h4 fun _ s5 ⟨v, H5, I5, r5, y5, st5, fr5⟩ => ?_
      have I5' := I5.pinned (fpY fr5) (T.obj _ _ st5)
      have back : ∀ {σ7 : St} {H7 : Hp} {s7 : Shared}, Inv Y ([] ++ pinsAt fp s5.heap) (some v :: capσ cap σ) H7 s7 → Inv Y [] (none :: capσ cap σ) H7 s7 ∧ tn (i + 1) s7.heap ∧ ∀ b ∈ fp, H7 b = none := fun {σ7 H7 s7} I7 => by
        refine ⟨I7.unpinned.weak (by simp) fun j z e => ?_, T.keep _ _ _ st5 fun b hb o e => (I7.pin (b, o) (List.mem_append_right _ (List.mem_append_right _ (mem_pinsAt hb e)))).1, fun b hb => ?_⟩
        · cases j with
          | zero => cases e
          | succ j => exact e
        · obtain ⟨o, e, d⟩ := T.obj _ _ st5 b hb
          exact (I7.pin (b, o) (List.mem_append_right _ (List.mem_append_right _ (mem_pinsAt hb e)))).2.1
      have hgN : PG Y (.Name x px) (gName 0) := pg_name (i := 0) B.nd rfl (.inl (lookup_relabel_local B.own)) (.inr (lookup_relabel_local B.own))
      refine thn (hgN _ s5 _ H5 v u (fun σ6 H6 => σ6 = some v :: capσ cap σ ∧ H6 = H5) I5' r5 ⟨rfl, rfl⟩) fun _ s6 ⟨σ6, H6, I6, e6, e6'⟩ => ?_
      subst e6 e6'
      refine thn (ht C fp _ _ _ s6 _ H6 _ I6 (step v H6 y5)) fun ok s7 ⟨H7, I7, q7⟩ => ?_
      cases ok with
      | false =>
        simp only [Bool.false_eq_true, if_false] at q7 ⊢
        obtain ⟨m', hm, w7⟩ := q7
        obtain ⟨a, b, c⟩ := back (σ7 := []) I7
        exact ⟨m', hm, i + 1, ys, H7, a, b, c, w7⟩
      | true =>
        simp only [if_true] at q7 ⊢
        refine thn (he C fp _ _ _ s7 _ H7 _ I7 q7) fun u8 s8 ⟨v8, H8, I8, r8, q8⟩ => ?_
        obtain ⟨d8, l8, m', hm, w8⟩ := q8
        refine thn (mt_append (X := Y) _ s8 _ H8 (.ref D) [v8] (.ref D) [u8] (fun _ H9 => H9 = upd H8 D (.lst (ys ++ [v8]))) I8 rfl (.cons r8 .nil) ⟨D, ys, v8, rfl, rfl, d8, l8, rfl⟩) fun _ s9 ⟨_, H9, I9, _, e9⟩ => ?_
        subst e9
        obtain ⟨a, b, c⟩ := back (σ7 := []) I9
        exact ⟨m', hm, i + 1, ys ++ [v8], _, a, b, c, w8⟩
  refine codeAny_compStart_list (loop _ ?_) (T.self _ 0 _ _ _ ?_ (loop _ ?_))
  · rfl
  · exact st4
  · rfl
theorem pe_comp {X : Cx} {elt iter : Expr} {x : Str} {px pos : Pos} {ifs : List Expr} {scope : Scope} {cl : List (Str × Addr)} {NB : List Str} {cap : List Nat} {wi : TI} {tt : TT} {te : TE}
    (B : Blk X scope cl x NB cap) (hc : X.calm = true) (hex : X.ex = []) (hi : PI X (.Name x px) iter wi)
    (ht : ∀ C fp s₀ H₀, PTs (X.blk scope cl C (x :: NB) fp s₀ H₀) ifs tt) (he : ∀ C fp s₀ H₀, PE (X.blk scope cl C (x :: NB) fp s₀ H₀) elt te)
    (hs : ∀ v, foldedSetIterable iter X.env v = pure v := by intro _; rfl) : PE X (.ListComp elt [⟨.Name x px, iter, ifs, 0⟩] scope pos) (tComp wi tt te cap) := by
  intro pins s σ H Q I h
  rw [eval_ListComp]
  refine comp_core (use := none) (R := EP X pins σ Q) B hc hex hi ht he hs I h fun D C H' s' I' G q => ?_
  obtain ⟨m, hn⟩ := G.ns
  obtain ⟨f0, f1, f2, f3, f4, f5⟩ := G.fp
  refine ⟨m, hn, fun h' hs' => ⟨.ref D, H', ?_, rfl, q⟩⟩
  exact I'.turned (t' := s'.toks) (fun b o hb e => (hs'.2 b hb).trans e) f0 f1 f3 f4 f5
end L2
end
section
set_option linter.all false
set_option maxRecDepth 100000
set_option maxHeartbeats 4000000
namespace L2
open PySem PySem.Spec PyProof.Rows
section
variable {X : Cx}
theorem vals_of {α : Type} (f : α → V) : ∀ (l : List α) (us : List Value), us.length = l.length → (∀ (j : Nat) v, us[j]? = some v → ∃ a, l[j]? = some a ∧ RelV (f a) v) → Vals (l.map f) us
  | [], us, h, _ => by
    cases us with
    | nil => exact .nil
    | cons _ _ => cases h
  | a :: l, us, h, k => by
    cases us with
    | nil => cases h
    | cons u us =>
      obtain ⟨b, e, r⟩ := k 0 u rfl
      cases e
      exact .cons r (vals_of f l us (by simpa using h) fun j v e => k (j + 1) v e)
theorem call_isi : CallR X (.builtin "isinstance") (fun zs H Q => ∃ x T t b, zs = [x, .ty T] ∧ TyOf X.K H x t ∧ PySem.W.kitOne X.K t (.type T) = some b ∧ Q (.bl b) H) := by
  intro pins s σ H zs us Q I r h
  obtain ⟨x, T, t, b, rfl, ty, e, q⟩ := h
  obtain ⟨u, w', rfl, ru, rw'⟩ := vals2 r
  cases rw'
  exact isinst_ok I ru ty e fun tk => ⟨.bl b, H, I.tok _, rfl, q⟩
end
end L2
end
section
set_option linter.all false
set_option maxRecDepth 100000
set_option maxHeartbeats 4000000
namespace L2
open PySem PySem.Spec PyProof.Rows
def CDivB (_ j : Int) : Prop := 0 < j ∧ j < 2 ^ 200
theorem op_fdivB {X : Cx} : OpR X (binaryOp .FloorDiv) (rI CDivB fun i j => .int (i / j)) := opI fun i j _ _ _ _ _ hc q => by
  have h1 : (0 : Int) < j := hc.1
  have h2 : j < 2 ^ 200 := hc.2
  rw [← Int.fdiv_eq_ediv_of_nonneg i (by lia)] at q
  refine floordiv_int (by lia) q (.inl (PyProof.noPylong_of_log2 ?_))
  have h3 : j.natAbs < 2 ^ 200 := by lia
  have h4 : j.natAbs.log2 < 200 := (Nat.log2_lt (by lia)).mpr h3
  lia
structure Bl (mg : Str → Option Value) : Prop where
  z_len : mg "len" = none
  z_sum : mg "sum" = none
  z_abs : mg "abs" = none
  z_range : mg "range" = none
  z_list : mg "list" = none
  z_tuple : mg "tuple" = none
  z_int : mg "int" = none
  z_bool : mg "bool" = none
  z_sorted : mg "sorted" = none
  z_isinstance : mg "isinstance" = none
structure Nm (K : PySem.W.Frag) (mg : Str → Option Value) (x : Str) (a : Addr) (fd : FuncData) (ps : List Str) : Prop where
  m : mg x = some (.ref a)
  k : PySem.W.keepIn K (.ref a) = true
  b : Binds K fd ps []
theorem ix_int {cs : List Int} {i : Int} (h0 : 0 ≤ i) (h1 : i < cs.length) : atI (cs.map V.int) i = some (.int (cs.getD i.toNat 0)) := by
  have h2 : i.toNat < cs.length := by lia
  have e : (cs.map V.int)[i.toNat]? = some (.int (cs.getD i.toNat 0)) := by
    rw [List.getElem?_map, List.getElem?_eq_getElem h2]
    simp [List.getD, List.getElem?_eq_getElem h2]
  have := atI_nat e
  rwa [Int.toNat_of_nonneg h0] at this
theorem mod_lo {a b : Int} (h : 0 < b) : 0 ≤ a % b := Int.emod_nonneg _ (by lia)
theorem mod_hi {a b : Int} (h : 0 < b) : a % b < b := Int.emod_lt_of_pos _ h
end L2
end
section
set_option linter.all false
set_option maxRecDepth 100000
set_option maxHeartbeats 4000000
namespace L2
open PySem PySem.Spec PyProof.Rows
def freesOf (names : List (Str × NameKind)) : List Str := (names.filter fun y => y.2 == .free).map (·.1)
def clOf (scope : Scope) (env : Env) : List (Str × Addr) := (freesOf scope.names).reverse.map fun n => (n, (env.cells.lookup n).getD 0)
theorem lookup_map {g : Str → Addr} {y : Str} {c : Addr} : ∀ {l : List Str}, (l.map fun n => (n, g n)).lookup y = some c → y ∈ l ∧ c = g y
  | [], h => by cases h
  | a :: l, h => by
    rw [List.map_cons, List.lookup_cons] at h
    cases e : y == a with
    | true =>
      rw [e] at h
      have e' : y = a := by simpa using e
      subst e'
      exact ⟨List.mem_cons_self, (Option.some.inj h).symm⟩
    | false =>
      rw [e] at h
      obtain ⟨m, q⟩ := lookup_map h
      exact ⟨List.mem_cons_of_mem _ m, q⟩
theorem lookup_map_mem {g : Str → Addr} {y : Str} : ∀ {l : List Str}, y ∈ l → (l.map fun n => (n, g n)).lookup y = some (g y)
  | [], h => by cases h
  | a :: l, h => by
    rw [List.map_cons, List.lookup_cons]
    cases e : y == a with
    | true =>
      have e' : y = a := by simpa using e
      subst e'
      rfl
    | false =>
      rcases List.mem_cons.mp h with z | z
      · subst z; simp at e
      · exact lookup_map_mem z
theorem closure_go (env : Env) : ∀ (names : List (Str × NameKind)) (acc : List (Str × Addr)), (∀ n ∈ freesOf names, ∃ c, env.cells.lookup n = some c) →
    (forIn names acc fun y cs => if (y.2 == NameKind.free) = true then (do let c ← cellOf env y.1; pure (ForInStep.yield ((y.1, c) :: cs))) else pure (ForInStep.yield cs) : Sem (List (Str × Addr))) =
      pure ((freesOf names).reverse.map (fun n => (n, (env.cells.lookup n).getD 0)) ++ acc)
  | [], acc, _ => by rw [List.forIn_nil]; rfl
  | (n, k) :: r, acc, h => by
    rw [List.forIn_cons]
    cases e : k == NameKind.free with
    | true =>
      have hn : freesOf ((n, k) :: r) = n :: freesOf r := by unfold freesOf; rw [List.filter_cons_of_pos (by simpa using e)]; rfl
      rw [hn] at h ⊢
      obtain ⟨c, hc⟩ := h n List.mem_cons_self
      simp only [e, if_true]
      have h2 : cellOf env n = pure c := by unfold cellOf; rw [hc]
      rw [h2]
      have ih := closure_go env r ((n, c) :: acc) fun m hm => h m (List.mem_cons_of_mem _ hm)
      show (forIn r ((n, c) :: acc) _ : Sem (List (Str × Addr))) = _
      rw [ih, List.reverse_cons, List.map_append, List.append_assoc]
      rw [List.map_cons, List.map_nil, hc]
      rfl
    | false =>
      have hn : freesOf ((n, k) :: r) = freesOf r := by unfold freesOf; rw [List.filter_cons_of_neg (by simpa using e)]
      rw [hn] at h ⊢
      simp only [e, Bool.false_eq_true, if_false]
      exact closure_go env r acc h
theorem closure_eq (scope : Scope) (env : Env) (h : ∀ n ∈ freesOf scope.names, ∃ c, env.cells.lookup n = some c) : closureFor scope env = pure (clOf scope env) := by
  have := closure_go env scope.names [] h
  rw [List.append_nil] at this
  simp only [closureFor]
  rw [this]
  rfl
theorem mem_frees {names : List (Str × NameKind)} {y : Str} (h : (y, NameKind.free) ∈ names) : y ∈ freesOf names := by
  unfold freesOf
  exact List.mem_map.mpr ⟨(y, .free), List.mem_filter.mpr ⟨h, by rfl⟩, rfl⟩
theorem of_frees {names : List (Str × NameKind)} {y : Str} (h : y ∈ freesOf names) : (y, NameKind.free) ∈ names := by
  unfold freesOf at h
  obtain ⟨⟨a, k⟩, hm, e⟩ := List.mem_map.mp h
  obtain ⟨h1, h2⟩ := List.mem_filter.mp hm
  cases e
  have : k = .free := by simpa using h2
  rw [← this]; exact h1
theorem relabel_kind {env : Env} : ∀ {names : List (Str × NameKind)} {y : Str} {k : NameKind},
    (names.map fun (n, k) => if (k == NameKind.free && env.scope.kind == .function && env.kindOf n == some .cell) then (n, NameKind.cell) else (n, k)).lookup y = some k → (k = .cell ∨ k = .free) → (∀ z ∈ names, z.2 ≠ .cell) → (y, NameKind.free) ∈ names
  | [], y, k, h, _, _ => by cases h
  | (n, k0) :: r, y, k, h, hk, hn => by
    rw [List.map_cons] at h
    dsimp only at h
    by_cases hc : (k0 == NameKind.free && env.scope.kind == .function && env.kindOf n == some .cell) = true
    · rw [if_pos hc, List.lookup_cons] at h
      have hf : k0 = .free := by
        rw [Bool.and_eq_true, Bool.and_eq_true] at hc
        simpa using hc.1.1
      cases e : y == n with
      | true =>
        have e' : y = n := by simpa using e
        subst e'; subst hf
        exact List.mem_cons_self
      | false =>
        rw [e] at h
        exact List.mem_cons_of_mem _ (relabel_kind h hk fun z hz => hn z (List.mem_cons_of_mem _ hz))
    · rw [if_neg hc, List.lookup_cons] at h
      cases e : y == n with
      | true =>
        have e' : y = n := by simpa using e
        subst e'
        rw [e] at h
        have e2 : k0 = k := Option.some.inj h
        have := hn (y, k0) List.mem_cons_self
        rcases hk with z | z
        · rw [z] at e2; exact absurd e2 this
        · rw [z] at e2; rw [e2]; exact List.mem_cons_self
      | false =>
        rw [e] at h
        exact List.mem_cons_of_mem _ (relabel_kind h hk fun z hz => hn z (List.mem_cons_of_mem _ hz))
theorem relabel_free {env : Env} : ∀ {names : List (Str × NameKind)} {y : Str}, names.lookup y = some .free →
    (names.map fun (n, k) => if (k == NameKind.free && env.scope.kind == .function && env.kindOf n == some .cell) then (n, NameKind.cell) else (n, k)).lookup y = some .cell ∨
    (names.map fun (n, k) => if (k == NameKind.free && env.scope.kind == .function && env.kindOf n == some .cell) then (n, NameKind.cell) else (n, k)).lookup y = some .free
  | [], y, h => by cases h
  | (n, k0) :: r, y, h => by
    rw [List.lookup_cons] at h
    rw [List.map_cons]
    dsimp only
    by_cases hc : (k0 == NameKind.free && env.scope.kind == .function && env.kindOf n == some .cell) = true
    · rw [if_pos hc, List.lookup_cons]
      cases e : y == n with
      | true => exact .inl rfl
      | false => rw [e] at h; exact relabel_free h
    · rw [if_neg hc, List.lookup_cons]
      cases e : y == n with
      | true => rw [e] at h; exact .inr h
      | false => rw [e] at h; exact relabel_free h
theorem Blk.of {X : Cx} {scope esc : Scope} {x : Str} {N NB : List Str} {cap : List Nat} (eN : X.N = N) (eS : X.env.scope = esc) (hX : ∀ y, esc.names.lookup y = some .cell → ∃ c, X.env.cells.lookup y = some c)
    (hk : scope.kind = .function) (h1 : ∀ y ∈ scope.names, y.2 ≠ .cell) (h2 : ∀ y ∈ scope.names, y.2 = .local → scope.names.lookup y.1 = some .local) (h3 : ∀ y ∈ scope.names, y.2 = .free → esc.names.lookup y.1 = some .cell)
    (hl : cap.length = NB.length) (h4 : ∀ p ∈ NB.zip cap, N[p.2]? = some p.1 ∧ esc.names.lookup p.1 = some .cell ∧ scope.names.lookup p.1 = some .free) (h5 : scope.names.lookup x = some .local) (nd : (x :: NB).Nodup) :
    Blk X scope (clOf scope X.env) x NB cap := by
  have hfr : ∀ n ∈ freesOf scope.names, ∃ c, X.env.cells.lookup n = some c := fun n hn => hX n (h3 _ (of_frees hn) rfl)
  refine ⟨closure_eq scope X.env hfr, h1, hk, h2, fun y c e => ?_, fun y e => ?_, hl, fun j i e => ?_, h5, nd⟩
  · unfold clOf at e
    obtain ⟨m, q⟩ := lookup_map e
    obtain ⟨c', hc⟩ := hfr y (List.mem_reverse.mp m)
    rw [hc] at q
    rw [hc, q]; rfl
  · have hm : (y, NameKind.free) ∈ scope.names := by
      rcases e with e | e
      · exact relabel_kind e (.inl rfl) h1
      · exact relabel_kind e (.inr rfl) h1
    exact ⟨_, lookup_map_mem (List.mem_reverse.mpr (mem_frees hm))⟩
  · have hj : j < cap.length := (List.getElem?_eq_some_iff.mp e).1
    have hj2 : j < NB.length := by lia
    have ey : NB[j]? = some NB[j] := List.getElem?_eq_getElem hj2
    have ez : (NB.zip cap)[j]? = some (NB[j], i) := by rw [List.getElem?_zip_eq_some]; exact ⟨ey, e⟩
    obtain ⟨a1, a2, a3⟩ := h4 _ (List.mem_of_getElem? ez)
    refine ⟨NB[j], ey, by rw [eN]; exact a1, .inr (.inl (by rw [eS]; exact a2)), .inl (by show X.env.scope.names.lookup _ = _; rw [eS]; exact a2), ?_⟩
    exact relabel_free a3
end L2
end
section
set_option linter.all false
set_option maxRecDepth 100000
set_option maxHeartbeats 4000000
namespace L2
open PySem PySem.Spec PyProof.Rows
theorem atI_ex {α : Type} {l : List α} {i : Int} (h0 : 0 ≤ i) (h1 : i < l.length) : ∃ v, atI l i = some v ∧ v ∈ l := by
  have h2 : i.toNat < l.length := by lia
  have e : l[i.toNat]? = some l[i.toNat] := List.getElem?_eq_getElem h2
  have := atI_nat e
  rw [Int.toNat_of_nonneg h0] at this
  exact ⟨_, this, List.getElem_mem h2⟩
end L2
namespace L2
open PySem PySem.Spec PyProof.Rows
end L2
namespace L2
open PySem PySem.Spec PyProof.Rows
def constV : Expr → Option V
  | .Constant (.int i) _ _ => some (.int i)
  | .Constant (.str x) _ _ => some (.str x)
  | _ => none
def constsV : List Expr → Option (List V)
  | [] => some []
  | e :: es => match constV e, constsV es with
    | some v, some vs => some (v :: vs)
    | _, _ => none
theorem pa_consts {X : Cx} : ∀ {es : List Expr} {vs : List V}, constsV es = some vs → PA X es (fun _ H Q => Q vs H)
  | [], vs, h => by
    cases h
    exact pa_nil
  | e :: es, vs, h => by
    unfold constsV at h
    cases e1 : constV e with
    | none => rw [e1] at h; cases h
    | some v =>
      cases e2 : constsV es with
      | none => rw [e1, e2] at h; cases h
      | some ws =>
        rw [e1, e2] at h
        cases h
        have ih := pa_consts (X := X) e2
        have he : PE X e (tC v) ∧ starEach (e :: es) X.env = (false, eval e X.env) :: starEach es X.env := by
          unfold constV at e1
          split at e1
          · cases e1; exact ⟨pe_int, rfl⟩
          · cases e1; exact ⟨pe_str, rfl⟩
          · cases e1
        exact pa_cons he.1 ih he.2
end L2
namespace L2
open PySem
theorem same_new {H : Hp} {p : Addr} {o : HO} (h : H p = none) : Same H (upd H p o) := fun b u e => by rw [upd_ne (ne_of_none e h)]; exact e
end L2
end
section
set_option linter.all false
set_option maxRecDepth 100000
set_option maxHeartbeats 4000000
namespace L2
open PySem PySem.Spec PyProof.Rows
@[irreducible] def QE (X : Cx) (e : Expr) (t : TE) : Prop := PE X e t
@[irreducible] def QT (X : Cx) (e : Expr) (t : TT) : Prop := PT X e t
@[irreducible] def QW (X : Cx) (e : Expr) (t : TT) : Prop := PW X e t
@[irreducible] def QA (X : Cx) (es : List Expr) (t : TA) : Prop := PA X es t
@[irreducible] def QS (X : Cx) (st : Stmt) (t : TS) : Prop := PS X st t
@[irreducible] def QSs (X : Cx) (st : List Stmt) (t : TS) : Prop := PSs X st t
@[irreducible] def QG (X : Cx) (e : Expr) (t : TG) : Prop := PG X e t
@[irreducible] def QGs (X : Cx) (e : List Expr) (t : TGs) : Prop := PGs X e t
@[irreducible] def QI (X : Cx) (tg iter : Expr) (wi : TI) : Prop := PI X tg iter wi
@[irreducible] def QTs (X : Cx) (ifs : List Expr) (t : TT) : Prop := PTs X ifs t
@[irreducible] def QO (X : Cx) (e : Option Expr) (t : TO) : Prop := PO X e t
section
variable {X : Cx} {e a b c : Expr} {es : List Expr} {t te ta tb tc : TE} {tt : TT} {pos : Pos}
theorem QE.mk {t : TE} (h : PE X e t) : QE X e t := by unfold QE; exact h
theorem QE.to {t : TE} (h : QE X e t) : PE X e t := by unfold QE at h; exact h
theorem QT.mk {t : TT} (h : PT X e t) : QT X e t := by unfold QT; exact h
theorem QT.to {t : TT} (h : QT X e t) : PT X e t := by unfold QT at h; exact h
theorem QW.mk {t : TT} (h : PW X e t) : QW X e t := by unfold QW; exact h
theorem QW.to {t : TT} (h : QW X e t) : PW X e t := by unfold QW at h; exact h
theorem QA.mk {t : TA} (h : PA X es t) : QA X es t := by unfold QA; exact h
theorem QA.to {t : TA} (h : QA X es t) : PA X es t := by unfold QA at h; exact h
theorem QS.mk {st : Stmt} {t : TS} (h : PS X st t) : QS X st t := by unfold QS; exact h
theorem QS.to {st : Stmt} {t : TS} (h : QS X st t) : PS X st t := by unfold QS at h; exact h
theorem QSs.mk {st : List Stmt} {t : TS} (h : PSs X st t) : QSs X st t := by unfold QSs; exact h
theorem QSs.to {st : List Stmt} {t : TS} (h : QSs X st t) : PSs X st t := by unfold QSs at h; exact h
theorem QG.mk {t : TG} (h : PG X e t) : QG X e t := by unfold QG; exact h
theorem QG.to {t : TG} (h : QG X e t) : PG X e t := by unfold QG at h; exact h
theorem QGs.mk {t : TGs} (h : PGs X es t) : QGs X es t := by unfold QGs; exact h
theorem QGs.to {t : TGs} (h : QGs X es t) : PGs X es t := by unfold QGs at h; exact h
theorem QI.mk {tg : Expr} {wi : TI} (h : PI X tg e wi) : QI X tg e wi := by unfold QI; exact h
theorem QI.to {tg : Expr} {wi : TI} (h : QI X tg e wi) : PI X tg e wi := by unfold QI at h; exact h
theorem QTs.mk {t : TT} (h : PTs X es t) : QTs X es t := by unfold QTs; exact h
theorem QTs.to {t : TT} (h : QTs X es t) : PTs X es t := by unfold QTs at h; exact h
theorem QO.mk {o : Option Expr} {t : TO} (h : PO X o t) : QO X o t := by unfold QO; exact h
theorem QO.to {o : Option Expr} {t : TO} (h : QO X o t) : PO X o t := by unfold QO at h; exact h
theorem qv (i : Nat) {x : Str} (hN : X.N[i]? = some x := by rfl) (hv : Vis X.env.scope x := by first | exact Or.inl rfl | exact Or.inr (Or.inl rfl) | exact Or.inr (Or.inr rfl)) (hd : (x == ("__debug__" : Str)) = false := by decide)
    (hcd : (x == ("__classdict__" : Str)) = false := by decide) : QE X (.Name x pos) (tVar i) := .mk (pe_var hN hv hd hcd)
theorem qe_int {i j} : QE X (.Constant (.int i) j pos) (tC (.int i)) := .mk pe_int
theorem qe_bl {b j} : QE X (.Constant (.bool b) j pos) (tC (.bl b)) := .mk pe_bl
theorem qe_str {x j} : QE X (.Constant (.str x) j pos) (tC (.str x)) := .mk pe_str
theorem qe_bltn {x : Str} {v : V} {u : Value} (hg : Gl X x) (hm : X.mg x = none) (hv : bootBuiltins x = some u) (r : RelV v u) (hn : x ≠ "__name__" := by decide) (hd : (x == ("__debug__" : Str)) = false := by decide) : QE X (.Name x pos) (tC v) := .mk (pe_bltn hg hm hv r hn hd)
theorem qe_op {op : Operator} {r : R2} (ho : OpR X (binaryOp op) r) (ha : QE X a ta) (hb : QE X b tb) : QE X (.BinOp a op b pos) (tOp r ta tb) := .mk (pe_op ho ha.to hb.to)
theorem qe_un {op : UnaryOp} {r : V → Hp → VK → Prop} (ho : UnR X (unaryOp op) r) (ha : QE X a ta) : QE X (.UnaryOp op a pos) (tUn r ta) := .mk (pe_un ho ha.to)
theorem qe_cmpR {op : CmpOp} {r : R2} (ho : OpR X (compareOp op) r) (ha : QE X a ta) (hb : QE X b tb) (hm : behindInMarks op b = false) : QE X (.Compare a [op] [b] pos) (tOp r ta tb) := .mk (pe_cmpR ho ha.to hb.to hm)
theorem qe_ix {r : R2} (hr : IxR X r) (ha : QE X a ta) (hb : QE X b tb) (hs : PlainIx b) : QE X (.Subscript a b pos) (tOp r ta tb) := .mk (pe_ix hr ha.to hb.to hs)
theorem qe_slice {r : V → Option Int → Option Int → Hp → VK → Prop} {lo hi : Option Expr} {tl th : TO} {p2 : Pos} (hr : SlR X r) (he : QE X e te) (hl : QO X lo tl) (hu : QO X hi th) : QE X (.Subscript e (.Slice lo hi none p2) pos) (tSl r te tl th) := .mk (pe_slice hr he.to hl.to hu.to)
theorem qo_none : QO X none tNoPart := .mk po_none
theorem qo_some (h : QE X e te) : QO X (some e) (tPart te) := .mk (po_some h.to)
theorem qe_lst {t : TA} (h : QA X es t) : QE X (.List es pos) (tLst t) := .mk (pe_lst h.to)
theorem qe_tup {t : TA} {x1} (h : QA X es t) : QE X (.Tuple es x1 pos) (tTup t) := .mk (pe_tup h.to)
theorem qa_nil : QA X [] tNil := .mk pa_nil
theorem qa_cons {t : TA} (ha : QE X e te) (hr : QA X es t) (hs : starEach (e :: es) X.env = (false, eval e X.env) :: starEach es X.env := by rfl) : QA X (e :: es) (tCons te t) := .mk (pa_cons ha.to hr.to hs)
theorem qa_consts {vs : List V} (h : constsV es = some vs) : QA X es (fun _ H Q => Q vs H) := .mk (pa_consts h)
theorem qe_callB {id : String} {x : Str} {r : List V → Hp → VK → Prop} {p : Pos} {t : TA} (hc : CallR X (.builtin id) r) (hg : Gl X x) (hm : X.mg x = none) (hv : bootBuiltins x = some (.builtin id)) (ha : QA X (e :: es) t) (hn : x ≠ "__name__" := by decide) (hdb : (x == ("__debug__" : Str)) = false := by decide)
    (he : starEach (e :: es) X.env = (false, eval e X.env) :: starEach es X.env := by rfl) (hpl : (backTo pos (starEach es X.env)).any (·.1) = false := by rfl) : QE X (.Call (.Name x p) (e :: es) [] pos) (tCB r t) := .mk (pe_callB hc hg hm hv ha.to hn hdb he hpl)
theorem qe_callTy {T : String} {x : Str} {r : List V → Hp → VK → Prop} {p : Pos} {t : TA} (hc : CallR X (.type T) r) (hg : Gl X x) (hm : X.mg x = none) (hv : bootBuiltins x = some (.type T)) (ha : QA X (e :: es) t) (hn : x ≠ "__name__" := by decide) (hdb : (x == ("__debug__" : Str)) = false := by decide)
    (he : starEach (e :: es) X.env = (false, eval e X.env) :: starEach es X.env := by rfl) (hpl : (backTo pos (starEach es X.env)).any (·.1) = false := by rfl) : QE X (.Call (.Name x p) (e :: es) [] pos) (tCB r t) := .mk (pe_callTy hc hg hm hv ha.to hn hdb he hpl)
theorem qe_call {CX : CXT} {k : Nat} {f : Addr} {fd : FuncData} {ps : List Str} {sp : Sp} {dvs : List V} {ds : List Value} {E : XK} {x : Str} {p : Pos} {t : TA} (F : FnOk X.prog X.w X.K X.mg X.base CX k f fd ps sp) (hr : Room k X.A) (hg : Gl X x) (hm : X.mg x = some (.ref f)) (hk : PySem.W.keepIn X.K (.ref f) = true) (hb : Binds X.K fd ps ds) (hd : Vals dvs ds) (hx : Passes CX X E)
    (ha : QA X (e :: es) t) (hdb : (x == ("__debug__" : Str)) = false := by decide) (he : starEach (e :: es) X.env = (false, eval e X.env) :: starEach es X.env := by rfl) (hpl : (backTo pos (starEach es X.env)).any (·.1) = false := by rfl) :
    QE X (.Call (.Name x p) (e :: es) [] pos) (tCall sp dvs E t) := .mk (pe_call F hr hg hm hk hb hd hx ha.to hdb he hpl)
theorem qe_bm {o : Expr} {to : TE} {t : TA} {name : Str} {apos cpos : Pos} {T id : String} {r : V → List V → Hp → VK → Prop} (pa : PlainAttrs T) (slot : Slot T name id) (hty : typeOf (.builtin id) = pure (.type "method_descriptor")) (hm : MtR X id r) (ho : QE X o to) (ha : QA X (e :: es) t)
    (hbase : attributeBase o name X.env (eval o X.env) = eval o X.env := by rfl)
    (hfew : ((backTo cpos (starEach (e :: es) X.env)).all (fun x => !x.1) && (backToKw cpos (keywordEach [] X.env)).all (fun x => x.1.isSome)
      && decide ((e :: es).length + ([] : List Keyword).length + (if ([] : List Keyword).isEmpty then 0 else 1) < 30)) = true := by rfl)
    (hline : (apos.endLine == cpos.line) = true := by rfl) (hs : starEach (e :: es) X.env = (false, eval e X.env) :: starEach es X.env := by rfl) (hplain : (backTo cpos (starEach es X.env)).any (·.1) = false := by rfl) :
    QE X (.Call (.Attribute o name apos) (e :: es) [] cpos) (tBM X.K T r to t) := .mk (pe_bm pa slot hty hm ho.to ha.to hbase hfew hline hs hplain)
theorem qe_comp {elt iter : Expr} {x : Str} {px : Pos} {ifs : List Expr} {scope : Scope} {cl : List (Str × Addr)} {NB : List Str} {cap : List Nat} {wi : TI}
    (B : Blk X scope cl x NB cap) (hc : X.calm = true) (hex : X.ex = []) (hi : QI X (.Name x px) iter wi)
    (ht : ∀ C fp s₀ H₀, QTs (X.blk scope cl C (x :: NB) fp s₀ H₀) ifs tt) (he : ∀ C fp s₀ H₀, QE (X.blk scope cl C (x :: NB) fp s₀ H₀) elt te)
    (hs : ∀ v, foldedSetIterable iter X.env v = pure v := by intro _; rfl) : QE X (.ListComp elt [⟨.Name x px, iter, ifs, 0⟩] scope pos) (tComp wi tt te cap) :=
  .mk (pe_comp B hc hex hi.to (fun C fp s₀ H₀ => (ht C fp s₀ H₀).to) (fun C fp s₀ H₀ => (he C fp s₀ H₀).to) hs)
theorem qt_cmpR {op : CmpOp} {r : R2} (ho : OpR X (compareOp op) r) (ha : QE X a ta) (hb : QE X b tb) (hm : behindInMarks op b = false) : QT X (.Compare a [op] [b] pos) (tTest (tOp r ta tb)) := .mk (pt_cmpR ho ha.to hb.to hm)
theorem qt_not {tA : TT} (ha : QT X a tA) : QT X (.UnaryOp .Not a pos) (tNot tA) := .mk (pt_not ha.to)
theorem qt_val {t : TE} (h : QE X e t) (he : ∀ whole, isTrue e X.env whole = (do let v ← whole; standAt e.pos; holding [v] (truthy v)) := by intro _; rfl) : QT X e (tB t) := .mk (pt_val h.to he)
theorem QW.pt {t : TT} (h : QW X e t) : QT X e t := .mk h.to.pt
theorem qw_and1 {tA : TT} (ha : QT X a tA) : QW X (.BoolOp .And [a] pos) tA := .mk (pw_and1 ha.to)
theorem qw_or1 {tA : TT} (ha : QT X a tA) : QW X (.BoolOp .Or [a] pos) tA := .mk (pw_or1 ha.to)
theorem qw_and {tA tB' : TT} {rest : List Expr} (ha : QT X a tA) (hb : QW X (.BoolOp .And (b :: rest) pos) tB') : QW X (.BoolOp .And (a :: b :: rest) pos) (tAnd tA tB') := .mk (pw_and ha.to hb.to)
theorem qw_or {tA tB' : TT} {rest : List Expr} (ha : QT X a tA) (hb : QW X (.BoolOp .Or (b :: rest) pos) tB') : QW X (.BoolOp .Or (a :: b :: rest) pos) (tOr tA tB') := .mk (pw_or ha.to hb.to)
theorem qts_nil : QTs X [] tYes := .mk pts_nil
theorem qts_one {t : TT} (h : QT X c t) : QTs X [c] t := .mk (pts_one h.to)
theorem qi_range1 {tg : Expr} {ta : TA} {p : Pos} (hg : Gl X "range") (hm : X.mg "range" = none) (ha : QA X [a] ta) (hs : starEach [a] X.env = [(false, eval a X.env)] := by rfl) : QI X tg (.Call (.Name "range" p) [a] [] pos) (iRng1 ta) := .mk (pi_range1 hg hm ha.to hs)
theorem qi_list {tg : Expr} (h : QE X e te) : QI X tg e (iList X.K te) := .mk (pi_list h.to)
theorem qi_tup {tg : Expr} (h : QE X e te) : QI X tg e (iTup X.K te) := .mk (pi_tup h.to)
theorem qg_name {i : Nat} {x : Str} (hN : X.N.Nodup) (hi : X.N[i]? = some x) (hx : Loc X.env.scope x) (hf : X.fn x = true ∨ X.env.scope.names.lookup x = some .local := by first | exact .inl rfl | exact .inr rfl | assumption) : QG X (.Name x pos) (gName i) := .mk (pg_name hN hi hx hf)
theorem qgs_nil : QGs X [] gNil := .mk pgs_nil
theorem qgs_cons {t : TG} {u : TGs} (h1 : QG X e t) (h2 : QGs X es u) (hs : (assignEach (e :: es) X.env).map (·.2) = assign e X.env :: (assignEach es X.env).map (·.2) := by rfl) : QGs X (e :: es) (gCons t u) := .mk (pgs_cons h1.to h2.to hs)
theorem qg_tup {k : Nat} {t : TGs} {n : Nat} (hc : X.calm = true) (h : QGs X es t) (hn : (assignEach es X.env).length = n := by rfl) (hst : (assignEach es X.env).findIdx? (·.1) = none := by rfl) : QG X (.Tuple es k pos) (gTup X.K n t) := .mk (pg_tup hc h.to hn hst)
section
variable {st : Stmt} {rest body : List Stmt} {s u : TS}
theorem qss_nil : QSs X [] tNext := .mk pss_nil
theorem qss_cons (h1 : QS X st s) (h2 : QSs X rest u) : QSs X (st :: rest) (tSeq s u) := .mk (pss_cons h1.to h2.to)
theorem qss_one (h1 : QS X st s) : QSs X [st] s := .mk (pss_one h1.to)
theorem qs_expr (he : QE X e te) (hs : swapsWith e none pos.line X.env = pure false := by rfl) : QS X (.Expr e pos) (tDrop te) := .mk (ps_expr he.to hs)
theorem qs_ret (he : QE X e te) : QS X (.Return (some e) pos) (tRet te) := .mk (ps_ret he.to)
theorem qs_if {a' b' : List Stmt} (hc : QT X c tt) (ha : QSs X a' s) (hb : QSs X b' u) : QS X (.If c a' b' pos) (tIfS tt s u) := .mk (ps_if hc.to ha.to hb.to)
theorem qs_set {i : Nat} {x : Str} {pos' : Pos} (hN : X.N.Nodup) (hi : X.N[i]? = some x) (hx : Loc X.env.scope x) (he : QE X e te) (hs : swapsWith e (some (.Name x pos')) pos.line X.env = pure false := by rfl) (hf : X.fn x = true ∨ X.env.scope.names.lookup x = some .local := by first | exact .inl rfl | exact .inr rfl | assumption) :
    QS X (.Assign [.Name x pos'] e pos) (tAsg te (gName i)) := .mk (ps_set hN hi hx he.to hs hf)
theorem qs_asg {tg : Expr} {g : TG} (he : QE X e te) (hg : QG X tg g) (hs : swapsWithSole [tg] e pos.line X.env = pure false := by rfl) (hw : swappedStores [tg] e X.env = pure none := by rfl)
    (h1 : (assignEach [tg] X.env).map (·.2) = [assign tg X.env] := by rfl) : QS X (.Assign [tg] e pos) (tAsg te g) := .mk (ps_asg he.to hg.to hs hw h1)
theorem qs_for {tg iter : Expr} {wi : TI} {g : TG} (hp : PassesOwn (model X.prog X.w) X.A X.env X.xe) (hc : X.calm = true) (hi : QI X tg iter wi) (hg : QG X tg g) (hb : QSs X body s)
    (hs : ∀ x, foldedSetIterable iter X.env x = pure x := by intro _; rfl) : QS X (.For tg iter body [] pos) (tFor wi g s) := .mk (ps_for hp hc hi.to hg.to hb.to hs)
theorem qs_while (hp : PassesOwn (model X.prog X.w) X.A X.env X.xe) (hc : QT X c tt) (hb : QSs X body s) : QS X (.While c body [] pos) (tWhile tt s) := .mk (ps_while hp hc.to hb.to)
end
end
end L2
end
section
set_option linter.all false
set_option maxRecDepth 100000
set_option maxHeartbeats 4000000
namespace L2
open PySem PySem.Spec PyProof.Rows
open PySem.SeqAt (EqAt RcAt RcNeAt)
theorem Vals.at {xs : List V} {us : List Value} (r : Vals xs us) {j : Nat} (h : j < us.length) : ∃ x, xs[j]? = some x ∧ RelV x us[j] := by
  have h1 : j < xs.length := by rw [r.length]; exact h
  have e : xs[j]? = some xs[j] := List.getElem?_eq_getElem h1
  obtain ⟨u, hu, ru⟩ := r.get e
  rw [List.getElem?_eq_getElem h] at hu
  cases hu
  exact ⟨_, e, ru⟩
section
variable {X : Cx}
end
theorem Room.u100 {k : Nat} {A : Around} (r : Room k A) : A.units + 100 < cLine := by have := r.un; lia
end L2
end
section
set_option linter.all false
set_option maxRecDepth 100000
set_option maxHeartbeats 1000000
namespace Hm
open PySem L2
abbrev g (xs : List V) (i : Nat) : V := xs.getD i .non
def sw (xs : List V) (i j : Nat) : List V := (xs.set i (g xs j)).set j (g xs i)
structure Od (lt : V → V → Bool) : Prop where
 as : ∀ a b, lt a b = true → lt b a = false
 nt : ∀ a b c, lt a b = false → lt b c = false → lt a c = false
def les (lt : V → V → Bool) (xs : List V) (p : Nat) : Nat := if 2 * p + 2 < xs.length ∧ lt (g xs (2 * p + 2)) (g xs (2 * p + 1)) = true then 2 * p + 2 else 2 * p + 1
def kids (n p : Nat) : Nat := if 2 * p + 2 < n then 2 else if 2 * p + 1 < n then 1 else 0
def dn (lt : V → V → Bool) : Nat → List V → Nat → Nat → List V × Nat
 | 0, xs, _, lk => (xs, lk)
 | f + 1, xs, p, lk => if 2 * p + 1 < xs.length then
   if lt (g xs (les lt xs p)) (g xs p) = true then dn lt f (sw xs p (les lt xs p)) (les lt xs p) (lk + kids xs.length p) else (xs, lk + kids xs.length p)
  else (xs, lk)
def up (lt : V → V → Bool) : Nat → List V → Nat → Nat → List V × Nat
 | 0, xs, _, lk => (xs, lk)
 | f + 1, xs, p, lk => if 0 < p then
   if lt (g xs p) (g xs ((p - 1) / 2)) = true then up lt f (sw xs p ((p - 1) / 2)) ((p - 1) / 2) (lk + 1) else (xs, lk + 1)
  else (xs, lk)
def HF (lt : V → V → Bool) (q : Nat) (xs : List V) : Prop := ∀ k, 0 < k → k < xs.length → q ≤ (k - 1) / 2 → lt (g xs k) (g xs ((k - 1) / 2)) = false
def IsH (lt : V → V → Bool) (xs : List V) : Prop := ∀ k, 0 < k → k < xs.length → lt (g xs k) (g xs ((k - 1) / 2)) = false
def mk (lt : V → V → Bool) : Nat → List V → Nat → List V × Nat
 | 0, xs, lk => (xs, lk)
 | k + 1, xs, lk => mk lt k (dn lt xs.length xs k 0).1 (lk + (dn lt xs.length xs k 0).2)
end Hm
end
section
set_option linter.all false
set_option maxRecDepth 100000
set_option maxHeartbeats 1000000
namespace L2
open PySem
section
variable {t : V → List V} {H H' : Hp} {xs ys : List V}
end
end L2
namespace Hm
open PySem L2
variable {lt : V → V → Bool} {xs : List V} {f p lk : Nat}
end Hm
end
section
set_option linter.all false
set_option maxRecDepth 100000
set_option maxHeartbeats 1000000
namespace L2
open PySem
end L2
namespace Hm
open PySem L2
end Hm
end
section
set_option linter.all false
set_option maxRecDepth 100000
set_option maxHeartbeats 4000000
namespace L2
open PySem PySem.Spec PyProof.Rows
section
variable {X : Cx} {tg : Expr}
end
end L2
namespace L2
open PySem
end L2
end
section
set_option linter.all false
set_option maxRecDepth 100000
set_option maxHeartbeats 4000000
namespace TS
open PySem PyProof.Rows
section
variable {prog : Program} {w : World} {A : Around} {E : Value → Shared → Prop} {s : Shared} {κ : KeyKind} {kd : SortKind}
end
end TS
namespace L2
open PySem PySem.Spec PyProof.Rows
section
variable {X : Cx}
end
end L2
end
section
set_option linter.all false
set_option maxRecDepth 100000
set_option maxHeartbeats 1000000
namespace Hm
open PySem L2
def lgs (n : Nat) : Nat → Nat
 | 0 => 0
 | k + 1 => lgs n k + (n / (k + 1)).log2
def cutf (lt : V → V → Bool) (xs : List V) : List V × Nat :=
 if xs.dropLast = [] then ([], 0) else dn lt xs.dropLast.length (xs.dropLast.set 0 (g xs (xs.length - 1))) 0 0
end Hm
namespace L2
open PySem PySem.Spec PyProof.Rows
open PySem.SeqAt (EqAt RcAt RcNeAt)
theorem qe_bm0 {X : Cx} {o : Expr} {to : TE} {name : Str} {apos cpos : Pos} {T id : String} {r : V → List V → Hp → VK → Prop} (pa : PlainAttrs T) (slot : Slot T name id) (hty : typeOf (.builtin id) = pure (.type "method_descriptor")) (hm : MtR X id r) (ho : QE X o to)
  (hbase : attributeBase o name X.env (eval o X.env) = eval o X.env := by rfl) (hline : (apos.endLine == cpos.line) = true := by rfl) : QE X (.Call (.Attribute o name apos) [] [] cpos) (tBM0 X.K T r to) := .mk (pe_bm0 pa slot hty hm ho.to hbase hline)
end L2
end
section
set_option linter.all false
set_option maxRecDepth 100000
set_option maxHeartbeats 4000000
namespace L2
open PySem PySem.Spec PyProof.Rows
structure Ground (P : Program) (w : World) (fs : List Addr) (H H' : Hp) (h B : Heap) : Prop where
  ok : HOk P w H' B
  old : ∀ b o, h.get? b = some o → H b = none → b ∉ fs → B.get? b = some o
  there : ∀ b o, h.get? b = some o → b ∉ fs → ∃ o', B.get? b = some o'
theorem HOk.get {P : Program} {w : World} {H : Hp} {h : Heap} {a : Addr} {o : HO} (x : HOk P w H h) (e : H a = some o) : ∃ ob, h.get? a = some ob := by
  have q := x a o e
  cases o with
  | lst xs => obtain ⟨_, _, _, _, e⟩ := q; exact ⟨_, e⟩
  | tup xs => obtain ⟨_, _, _, ob, e, _⟩ := q; exact ⟨_, e⟩
  | dK kvs => obtain ⟨_, _, _, _, o, _, _, e, _⟩ := q; exact ⟨_, e⟩
  | dT kvs => obtain ⟨_, _, _, _, o, _, _, e, _⟩ := q; exact ⟨_, e⟩
  | set S n => obtain ⟨o, _, _, _, e, _⟩ := q; exact ⟨_, e⟩
  | ins C dx fs => obtain ⟨_, _, _, e, _⟩ := q; exact ⟨_, e⟩
  | own y => obtain ⟨_, e⟩ := q; exact ⟨_, e⟩
  | xd fs => obtain ⟨_, ⟨_, _, _, e, _⟩, _⟩ := q; exact ⟨_, e⟩
  | rng lo hi => obtain ⟨_, _, _, e⟩ := q; exact ⟨_, e⟩
  | frz ob u => obtain ⟨e, _⟩ := q; exact ⟨_, e⟩
  | tbl ps => exact ⟨_, show h.get? a = some _ from q⟩
  | met f y => exact ⟨_, show h.get? a = some _ from q⟩
  | ext φ => obtain ⟨_, e, _⟩ := q; exact e
section
variable {X : Cx} {pins : List (Addr × Obj)} {σ : St} {H H' : Hp} {s s' : Shared} {B : Heap}
def Kp (X : Cx) (pins : List (Addr × Obj)) (σ : St) (H' : Hp) (s' : Shared) (B : Heap) : Prop := ∀ h' t', B.StaysIn h' → s'.heap.UpToSlots h' → Inv X pins σ H' { s' with heap := h', toks := t' }
def Kt (X : Cx) (pins : List (Addr × Obj)) (σ : St) (H' : Hp) (s' : Shared) (B : Heap) : Prop := ∀ h' t' e o, B.StaysIn h' → s'.heap.UpToSlots h' → B.get? e = none → e ∉ frs X.stack → ObjOk X.prog X.w (upd H' e o) h' e o → Inv X pins σ (upd H' e o) { s' with heap := h', toks := t' }
def XP (X : Cx) (pins : List (Addr × Obj)) (σ : St) (E : XK) (v : Value) (s' : Shared) : Prop := ∃ (e C : Addr) (H' : Hp) (B : Heap) (a0 : Value), v = .ref e ∧ Heap.FlyingW B X.stack e (.ref C) a0 s'.heap ∧
  Kp X pins σ H' s' B ∧ Kt X pins σ H' s' B ∧ HOk X.prog X.w H' B ∧ (∀ b o, X.s₀.heap.get? b = some o → X.H₀ b = none → b ∉ X.ex → b ∉ frs X.stack → B.get? b = some o) ∧ (∀ b o, X.s₀.heap.get? b = some o → b ∉ X.ex → b ∉ frs X.stack → ∃ o', B.get? b = some o') ∧ E (.ref C) none H'
end
section
variable {P : Program} {w : World} {K : PySem.W.Frag} {mg : Str → Option Value} {base : Heap} {N : List Str} {qual : Str} {scope : Scope} {f : Addr} {cd : Value} {A : Around} {outer : List Env} {s₀ : Shared} {H₀ : Hp} {E : XK}
end
section
variable {P : Program} {w : World} {K : PySem.W.Frag} {mg : Str → Option Value} {base : Heap} {N : List Str} {qual : Str} {scope : Scope} {f : Addr} {cd : Value} {A : Around} {outer : List Env} {s₀ : Shared} {H₀ : Hp} {E : XK}
end
end L2
end
section
set_option linter.all false
set_option maxRecDepth 100000
set_option maxHeartbeats 4000000
namespace L2
open PySem PySem.Spec PyProof.Rows
abbrev TEX := St → Hp → VK → XK → Prop
section
variable {X : Cx} {k : Nat} {f : Addr} {fd : FuncData} {ps : List Str} {sp : Sp} {dvs : List V} {ds : List Value} {x : Str} {p pos : Pos} {e : Expr} {es : List Expr} {t : TA} {te : TEX}
end
end L2
end
section
set_option linter.all false
set_option maxRecDepth 100000
set_option maxHeartbeats 4000000
namespace L2
open PySem PySem.W PySem.Spec PySem.Calls PyProof.Rows PySem.Builtin PySem.Builtin.ObjectAttr PySem.Builtin.Getset_descriptor
section
variable {prog : Program} {w : World} {A : Around} {E : Value → Shared → Prop} {s : Shared} {K : Frag} {x C : Addr}
end
section
variable {X : Cx}
end
section
variable {P : Program} {w : World} {K : Frag} {mg : Str → Option Value} {base : Heap}
end
section
variable {P : Program} {w : World} {K : Frag} {mg : Str → Option Value} {base : Heap} {N : List Str} {qual : Str} {scope : Scope} {f : Addr} {cd : Value} {A : Around} {outer : List Env} {s₀ : Shared} {H₀ : Hp} {E : XK}
end
end L2
end
section
set_option linter.all false
set_option maxRecDepth 100000
set_option maxHeartbeats 1000000
namespace Hm
open PySem L2
variable {lt : V → V → Bool}
end Hm
namespace L2
open PySem PySem.W
end L2
end
section
set_option linter.all false
set_option maxRecDepth 100000
set_option maxHeartbeats 4000000
namespace L2
open PySem PySem.Spec PyProof.Rows
section
variable {κ : Type} [DecidableEq κ]
def valV (kvs : List (κ × V)) (k : κ) : Option V := (kvs.find? fun kv => decide (kv.1 = k)).map (·.2)
def putK (kvs : List (κ × V)) (k : κ) (v : V) : List (κ × V) :=
  if (kvs.any fun kv => decide (kv.1 = k)) = true then kvs.map (fun kv => if kv.1 = k then (kv.1, v) else kv) else kvs ++ [(k, v)]
def dropK (kvs : List (κ × V)) (k : κ) : List (κ × V) := kvs.filter fun kv => decide (kv.1 ≠ k)
theorem valV_pos {p : κ × V} {r : List (κ × V)} {k : κ} (e : p.1 = k) : valV (p :: r) k = some p.2 := by simp [valV, List.find?_cons, e]
theorem valV_neg {p : κ × V} {r : List (κ × V)} {k : κ} (e : ¬ p.1 = k) : valV (p :: r) k = valV r k := by simp [valV, List.find?_cons, e]
theorem valV_any (k : κ) : ∀ kvs : List (κ × V), (kvs.any fun kv => decide (kv.1 = k)) = (valV kvs k).isSome
  | [] => rfl
  | p :: r => by
    rw [List.any_cons]
    by_cases e : p.1 = k
    · simp only [valV_pos e, decide_eq_true e, Bool.true_or, Option.isSome_some]
    · rw [valV_neg e, decide_eq_false e, Bool.false_or]; exact valV_any k r
theorem valV_snoc (k j : κ) (y : V) : ∀ kvs : List (κ × V), valV kvs k = none → valV (kvs ++ [(k, y)]) j = if j = k then some y else valV kvs j
  | [], _ => by
    by_cases e : k = j
    · rw [if_pos e.symm]; exact valV_pos (p := (k, y)) e
    · rw [if_neg (fun z => e z.symm)]; exact valV_neg (p := (k, y)) e
  | p :: r, hn => by
    rw [List.cons_append]
    have hk : ¬ p.1 = k := fun z => by rw [valV_pos z] at hn; cases hn
    rw [valV_neg hk] at hn
    have ih := valV_snoc k j y r hn
    by_cases e : p.1 = j
    · rw [valV_pos e, valV_pos e, if_neg (fun z => hk (e.trans z))]
    · rw [valV_neg e, valV_neg e, ih]
theorem length_putK (kvs : List (κ × V)) (k : κ) (v : V) : (putK kvs k v).length ≤ kvs.length + 1 := by
  unfold putK
  split
  · rw [List.length_map]; lia
  · rw [List.length_append, List.length_cons, List.length_nil]; lia
theorem putK_new {kvs : List (κ × V)} {k : κ} (v : V) (h : valV kvs k = none) : putK kvs k v = kvs ++ [(k, v)] := by
  unfold putK
  rw [valV_any, h]
  exact if_neg (by decide)
theorem RelO.isSome_eq {o : Option V} {u : Option Value} (r : RelO o u) : o.isSome = u.isSome := by
  cases o with
  | none => cases u with
    | none => rfl
    | some _ => exact (show False from r).elim
  | some _ => cases u with
    | none => exact (show False from r).elim
    | some _ => rfl
theorem RelO.getD {o : Option V} {u : Option Value} {d : V} {d' : Value} (r : RelO o u) (rd : RelV d d') : RelV (o.getD d) (u.getD d') := by
  cases o with
  | none => cases u with
    | none => exact rd
    | some _ => exact (show False from r).elim
  | some _ => cases u with
    | none => exact (show False from r).elim
    | some _ => exact r
theorem KV.val {kvs : List (κ × V)} {vs : List (κ × Value)} (r : KV kvs vs) (k : κ) : RelO (valV kvs k) (valueAt vs k) := by
  unfold KV at r
  induction r with
  | nil => exact True.intro
  | @cons p q ps qs h t ih =>
    obtain ⟨h1, h2⟩ := h
    by_cases e : p.1 = k
    · have e' : q.1 = k := h1.symm.trans e
      have b : valueAt (q :: qs) k = some q.2 := by simp [valueAt, List.find?_cons, e']
      rw [valV_pos e, b]; exact h2
    · have e' : ¬ q.1 = k := fun z => e (h1.trans z)
      have b : valueAt (q :: qs) k = valueAt qs k := by simp [valueAt, List.find?_cons, e']
      rw [valV_neg e, b]; exact ih
theorem KV.any {kvs : List (κ × V)} {vs : List (κ × Value)} (r : KV kvs vs) (k : κ) : (kvs.any fun kv => decide (kv.1 = k)) = vs.any fun kv => decide (kv.1 = k) := by
  unfold KV at r
  induction r with
  | nil => rfl
  | cons h t ih => rw [List.any_cons, List.any_cons, ih, h.1]
theorem KV.repl {kvs : List (κ × V)} {vs : List (κ × Value)} (r : KV kvs vs) (k : κ) {y : V} {u : Value} (ry : RelV y u) :
    KV (kvs.map fun kv => if kv.1 = k then (kv.1, y) else kv) (vs.map fun kv => if kv.1 = k then (kv.1, u) else kv) := by
  unfold KV at r ⊢
  induction r with
  | nil => exact .nil
  | @cons p q ps qs h t ih =>
    rw [List.map_cons, List.map_cons]
    refine .cons ?_ ih
    obtain ⟨h1, h2⟩ := h
    by_cases e : p.1 = k
    · rw [if_pos e, if_pos (h1.symm.trans e)]; exact ⟨h1, ry⟩
    · rw [if_neg e, if_neg (fun z => e (h1.trans z))]; exact ⟨h1, h2⟩
theorem KV.put {kvs : List (κ × V)} {vs : List (κ × Value)} (r : KV kvs vs) (k : κ) {y : V} {u : Value} (ry : RelV y u) : KV (putK kvs k y) (stored vs k u) := by
  unfold putK stored
  rw [r.any k]
  by_cases e : (vs.any fun kv => decide (kv.1 = k)) = true
  · rw [if_pos e, if_pos e]; exact r.repl k ry
  · rw [if_neg e, if_neg e]; exact Paired.snoc r ⟨rfl, ry⟩
theorem KV.drop {kvs : List (κ × V)} {vs : List (κ × Value)} (r : KV kvs vs) (k : κ) : KV (dropK kvs k) (without vs k) := by
  unfold KV at r ⊢
  unfold dropK without
  induction r with
  | nil => exact .nil
  | @cons p q ps qs h t ih =>
    obtain ⟨h1, h2⟩ := h
    rw [List.filter_cons, List.filter_cons]
    by_cases e : p.1 = k
    · have a : ¬ decide (p.1 ≠ k) = true := by simp [e]
      have b : ¬ decide (q.1 ≠ k) = true := by simp [h1.symm.trans e]
      rw [if_neg a, if_neg b]; exact ih
    · have e' : ¬ q.1 = k := fun z => e (h1.trans z)
      have a : decide (p.1 ≠ k) = true := by simp [e]
      have b : decide (q.1 ≠ k) = true := by simp [e']
      rw [if_pos a, if_pos b]; exact .cons ⟨h1, h2⟩ ih
theorem KV.keys {kvs : List (κ × V)} {vs : List (κ × Value)} (r : KV kvs vs) : kvs.map (·.1) = vs.map (·.1) := by
  unfold KV at r
  induction r with
  | nil => rfl
  | cons h t ih => rw [List.map_cons, List.map_cons, ih, h.1]
theorem KV.length {kvs : List (κ × V)} {vs : List (κ × Value)} (r : KV kvs vs) : kvs.length = vs.length := Paired.length r
theorem dropK_le (kvs : List (κ × V)) (k : κ) : (dropK kvs k).length ≤ kvs.length := List.length_filter_le _ _
end
theorem kV_is {P : Program} {w : World} {k : Key} {u : Value} (r : RelV (kV k) u) : (mixKind P w).is k u = true := by
  cases k with
  | inl i => obtain ⟨t, e⟩ := (show ∃ t, u = Value.int i t from r); subst e; exact mixKind_int P w i t
  | inr x => obtain ⟨t, e⟩ := (show ∃ t, u = Value.str x t from r); subst e; exact mixKind_str P w x t
theorem items_are {P : Program} {w : World} : ∀ {ks : List Key} {us : List Value}, Vals (ks.map kV) us → ItemsAre (mixKind P w) ks us
  | [], _, r => by rw [List.map_nil] at r; cases r; exact .nil
  | k :: ks, _, r => by
    rw [List.map_cons] at r
    cases r with
    | cons h t => exact .cons (kV_is h) (items_are t)
abbrev KT (H : Hp) : List (List Key × V) → List (List Key × Addr × Value) → Prop := Paired fun p q => p.1 = q.1 ∧ H q.2.1 = some (.tup (p.1.map kV)) ∧ RelV p.2 q.2.2
theorem KT.val {H : Hp} {kvs : List (List Key × V)} {xs : List (List Key × Addr × Value)} (r : KT H kvs xs) (k : List Key) : RelO (valV kvs k) ((atKey xs k).map (·.2)) := by
  induction r with
  | nil => exact True.intro
  | @cons p q ps qs h t ih =>
    obtain ⟨h1, _, h2⟩ := h
    by_cases e : p.1 = k
    · have e' : q.1 = k := h1.symm.trans e
      have b : atKey (q :: qs) k = some q.2 := by simp [atKey, List.find?_cons, e']
      rw [valV_pos e, b]; exact h2
    · have e' : ¬ q.1 = k := fun z => e (h1.trans z)
      have b : atKey (q :: qs) k = atKey qs k := by simp [atKey, List.find?_cons, e']
      rw [valV_neg e, b]; exact ih
theorem KT.repl {H : Hp} {kvs : List (List Key × V)} {xs : List (List Key × Addr × Value)} (r : KT H kvs xs) (k : List Key) {y : V} {u : Value} (ry : RelV y u) :
    KT H (kvs.map fun kv => if kv.1 = k then (kv.1, y) else kv) (xs.map (putAt k u)) := by
  induction r with
  | nil => exact .nil
  | @cons p q ps qs h t ih =>
    rw [List.map_cons, List.map_cons]
    refine .cons ?_ ih
    obtain ⟨h1, h2, h3⟩ := h
    unfold putAt
    by_cases e : p.1 = k
    · rw [if_pos e, if_pos (h1.symm.trans e)]; exact ⟨h1, h2, ry⟩
    · rw [if_neg e, if_neg (fun z => e (h1.trans z))]; exact ⟨h1, h2, h3⟩
theorem KT.put {H : Hp} {kvs : List (List Key × V)} {xs : List (List Key × Addr × Value)} (r : KT H kvs xs) (k : List Key) {b : Addr} {y : V} {u : Value} (hb : H b = some (.tup (k.map kV))) (ry : RelV y u) :
    KT H (putK kvs k y) (storedH xs k b u) := by
  have e : (kvs.any fun kv => decide (kv.1 = k)) = (atKey xs k).isSome := by
    rw [valV_any, (r.val k).isSome_eq, Option.isSome_map]
  unfold putK storedH
  rw [e]
  by_cases q : (atKey xs k).isSome = true
  · rw [if_pos q, if_pos q]; exact r.repl k ry
  · rw [if_neg q, if_neg q]; exact Paired.snoc r ⟨rfl, hb, ry⟩
theorem KT.keeps {H H' : Hp} {kvs : List (List Key × V)} {xs : List (List Key × Addr × Value)} (r : KT H kvs xs) (ht : ∀ b ys, H b = some (.tup ys) → H' b = some (.tup ys)) : KT H' kvs xs :=
  Paired.mapP r fun _ _ z => ⟨z.1, ht _ _ z.2.1, z.2.2⟩
section
variable {P : Program} {w : World} {H : Hp} {h : Heap} {a : Addr}
theorem rd_of {u : HO} (ok : HOk P w H h) (e : Rd H a u) : ObjOk P w H h a u := e.ok ok
theorem dk_rd {kvs : List (Key × V)} (ok : HOk P w H h) (e : Rd H a (.dK kvs)) : kvs.length ≤ sizeLine ∧ (a == sysModules) = false ∧ ∃ vs, KV kvs vs ∧ h.DictOf (mixKind P w) a vs :=
  show ObjOk P w H h a (.dK kvs) from rd_of ok e
theorem dk_of {kvs : List (Key × V)} (ok : HOk P w H h) (e : H a = some (.dK kvs)) : kvs.length ≤ sizeLine ∧ (a == sysModules) = false ∧ ∃ vs, KV kvs vs ∧ h.DictOf (mixKind P w) a vs := dk_rd ok (.inl e)
theorem key_of {ks : List Key} (ok : HOk P w H h) (e : H a = some (.tup (ks.map kV))) : (tupleKind (mixKind P w)).is h ks a := by
  obtain ⟨_, its, r, o, h1, h2, n, h3⟩ := (show ObjOk P w H h a (.tup (ks.map kV)) from ok a _ e)
  exact ⟨o, its.toArray, n, h1, h2, h3, by simpa using items_are r⟩
theorem dt_rd {kvs : List (List Key × V)} (ok : HOk P w H h) (e : Rd H a (.dT kvs)) : kvs.length ≤ sizeLine ∧ (a == sysModules) = false ∧
    ∃ xs, KT H kvs xs ∧ h.DictOfH (tupleKind (mixKind P w)) a xs := by
  obtain ⟨z, y, xs, r, o, es, ep, h1, h2, h3, h4, h5⟩ := (show ObjOk P w H h a (.dT kvs) from rd_of ok e)
  refine ⟨z, y, xs, r, o, es, ep, h1, h2, h3, h4, fun x hx => ?_, h5⟩
  have all : ∀ {l : List (List Key × V)} {m : List (List Key × Addr × Value)}, KT H l m → ∀ x ∈ m, (tupleKind (mixKind P w)).is h x.1 x.2.1 := by
    intro l m q
    induction q with
    | nil => intro x hx; exact nomatch hx
    | @cons p q ps qs hq t ih =>
      intro x hx
      rcases List.mem_cons.mp hx with e | hx
      · subst e
        exact key_of ok (by rw [← hq.1]; exact hq.2.1)
      · exact ih x hx
  exact all r x hx
theorem dt_of {kvs : List (List Key × V)} (ok : HOk P w H h) (e : H a = some (.dT kvs)) : kvs.length ≤ sizeLine ∧ (a == sysModules) = false ∧
    ∃ xs, KT H kvs xs ∧ h.DictOfH (tupleKind (mixKind P w)) a xs := dt_rd ok (.inl e)
end
def DGet (H : Hp) (a : Addr) (y : V) (r : Option V) : Prop :=
  (∃ kvs k, Rd H a (.dK kvs) ∧ y = kV k ∧ r = valV kvs k) ∨ ∃ kvs k b, Rd H a (.dT kvs) ∧ y = .ref b ∧ H b = some (.tup (k.map kV)) ∧ r = valV kvs k
def DPut (H : Hp) (a : Addr) (y v : V) (H' : Hp) : Prop :=
  (∃ kvs k, H a = some (.dK kvs) ∧ y = kV k ∧ kvs.length < sizeLine ∧ H' = upd H a (.dK (putK kvs k v))) ∨
  ∃ kvs k b, H a = some (.dT kvs) ∧ y = .ref b ∧ H b = some (.tup (k.map kV)) ∧ kvs.length < sizeLine ∧ H' = upd H a (.dT (putK kvs k v))
theorem DGet.k {H : Hp} {a : Addr} {kvs : List (Key × V)} {k : Key} (e : H a = some (.dK kvs)) : DGet H a (kV k) (valV kvs k) := .inl ⟨kvs, k, .inl e, rfl, rfl⟩
theorem DPut.k {H : Hp} {a : Addr} {kvs : List (Key × V)} {k : Key} {v : V} (e : H a = some (.dK kvs)) (hl : kvs.length < sizeLine) : DPut H a (kV k) v (upd H a (.dK (putK kvs k v))) := .inl ⟨kvs, k, e, rfl, hl, rfl⟩
section
variable {X : Cx} {pins : List (Addr × Obj)} {σ : St} {H : Hp} {s : Shared} {a : Addr} {y v : V} {u r : Value} {o : Option V} {A : Around} {E : Value → Shared → Prop}
theorem Inv.big (I : Inv X pins σ H s) : sysModules < s.heap.objs.size := by
  have h : mainGlobals < s.heap.objs.size := (I.mod.glob.keeps I.bk).lt
  exact Nat.lt_trans (by decide) h
theorem d_getItem {Q : Value → Shared → Prop} (hu : A.units + 1 < cLine) (I : Inv X pins σ H s) (g : DGet H a y (some v)) (ry : RelV y u) (h : ∀ w' s', Inv X pins σ H s' → RelV v w' → Q w' s') :
    wpAny (model X.prog X.w) A (getItem (.ref a) u) Q E s := by
  rcases g with ⟨kvs, k, e, ey, l⟩ | ⟨kvs, k, b, e, ey, eb, l⟩
  · subst ey
    obtain ⟨z, hd, vs, rel, dd⟩ := dk_rd I.hok e
    obtain ⟨w', hw, rw'⟩ := RelO.some_of (v := v) (o := valueAt vs k) (by rw [l]; exact rel.val k)
    exact wpAny_getItem_of (kV_is ry) dd.mapOf hw (h w' _ (I.tok _) rw')
  · subst ey
    cases (show u = Value.ref b from ry)
    obtain ⟨z, hd, xs, rel, dd⟩ := dt_rd I.hok e
    obtain ⟨w', hw, rw'⟩ := RelO.some_of (v := v) (o := (atKey xs k).map (·.2)) (by rw [l]; exact rel.val k)
    obtain ⟨p, hp, hp2⟩ := Option.map_eq_some_iff.mp hw
    refine wpAny_getItem_heap (tupleKind_room_in1 hu) (key_of I.hok eb) dd hp ?_
    rw [hp2]
    exact h w' _ (I.tok _) rw'
theorem d_in {Q : Value → Shared → Prop} (hu : A.units + 1 < cLine) (I : Inv X pins σ H s) (g : DGet H a y o) (ry : RelV y u) (h : ∀ s', Inv X pins σ H s' → Q (.bool o.isSome) s') :
    wpAny (model X.prog X.w) A (compareOp .In u (.ref a)) Q E s := by
  rcases g with ⟨kvs, k, e, ey, l⟩ | ⟨kvs, k, b, e, ey, eb, l⟩
  · subst ey
    obtain ⟨z, hd, vs, rel, dd⟩ := dk_rd I.hok e
    refine wpAny_in_of (kV_is ry) hd dd.mapOf ?_
    rw [← (rel.val k).isSome_eq, ← l]
    exact h _ (I.tok _)
  · subst ey
    cases (show u = Value.ref b from ry)
    obtain ⟨z, hd, xs, rel, dd⟩ := dt_rd I.hok e
    refine wpAny_in_heap (tupleKind_room_in1 hu) (key_of I.hok eb) hd dd ?_
    have q := (rel.val k).isSome_eq
    rw [Option.isSome_map] at q
    rw [← q, ← l]
    exact h _ (I.tok _)
theorem d_notIn {Q : Value → Shared → Prop} (hu : A.units + 1 < cLine) (I : Inv X pins σ H s) (g : DGet H a y o) (ry : RelV y u) (h : ∀ s', Inv X pins σ H s' → Q (.bool (!o.isSome)) s') :
    wpAny (model X.prog X.w) A (compareOp .NotIn u (.ref a)) Q E s := by
  rcases g with ⟨kvs, k, e, ey, l⟩ | ⟨kvs, k, b, e, ey, eb, l⟩
  · subst ey
    obtain ⟨z, hd, vs, rel, dd⟩ := dk_rd I.hok e
    refine wpAny_notIn_of (kV_is ry) hd dd.mapOf ?_
    rw [← (rel.val k).isSome_eq, ← l]
    exact h _ (I.tok _)
  · subst ey
    cases (show u = Value.ref b from ry)
    obtain ⟨z, hd, xs, rel, dd⟩ := dt_rd I.hok e
    refine wpAny_notIn_heap (tupleKind_room_in1 hu) (key_of I.hok eb) hd dd ?_
    have q := (rel.val k).isSome_eq
    rw [Option.isSome_map] at q
    rw [← q, ← l]
    exact h _ (I.tok _)
theorem d_write {h' : Heap} {t' : Nat} {ob : HO} (I : Inv X pins σ H s) (mu : Mut (H a)) (hs : Heap.SameBut a s.heap h') (he : ∃ q, h'.get? a = some q) (new : ObjOk X.prog X.w (upd H a ob) h' a ob) :
    Inv X pins σ (upd H a ob) { s with heap := h', toks := t' } :=
  I.write (x := a) (e := a) mu (.inl rfl) (fun b q hb z => (hs.2 b hb).trans z) he new
theorem dk_new {P : Program} {w : World} {H' : Hp} {h' : Heap} {kvs : List (Key × V)} {vs : List (Key × Value)} (z : kvs.length ≤ sizeLine) (hd : (a == sysModules) = false) (rel : KV kvs vs) (dd : h'.DictOf (mixKind P w) a vs) :
    ObjOk P w H' h' a (.dK kvs) := ⟨z, hd, vs, rel, dd⟩
theorem d_setItem {H' : Hp} {Q : Unit → Shared → Prop} (hu : A.units + 1 < cLine) (I : Inv X pins σ H s) (g : DPut H a y v H') (ry : RelV y u) (rv : RelV v r) (h : ∀ s', Inv X pins σ H' s' → Q () s') :
    wpAny (model X.prog X.w) A (setItem (.ref a) u r) Q E s := by
  rcases g with ⟨kvs, k, e, ey, l, eH⟩ | ⟨kvs, k, b, e, ey, eb, l, eH⟩
  · subst ey eH
    obtain ⟨z, hd, vs, rel, dd⟩ := dk_of I.hok e
    have hz : vs.length ≤ sizeLine := by rw [← rel.length]; exact z
    have hl : (putK kvs k v).length ≤ sizeLine := by have := length_putK kvs k v; lia
    refine wpAny_setItem_pairs (hsz := hz) (kV_is ry) dd fun h' dd' hs => h _ ?_
    have he : ∃ q, h'.get? a = some q := let ⟨q, _, _, hq, _⟩ := dd'; ⟨q, hq⟩
    exact d_write I (by rw [e]; exact True.intro) hs he (dk_new hl hd (rel.put k rv) dd')
  · subst ey eH
    cases (show u = Value.ref b from ry)
    obtain ⟨z, hd, xs, rel, dd⟩ := dt_of I.hok e
    have hz : xs.length ≤ sizeLine := by rw [← Paired.length rel]; exact z
    have hl : (putK kvs k v).length ≤ sizeLine := by have := length_putK kvs k v; lia
    refine wpAny_setItem_heap (hsz := hz) (tupleKind_room_in1 hu) (key_of I.hok eb) dd fun h' dd' hs => h _ ?_
    obtain ⟨q, es, ep, hq, h2, h3, h4, _, h5⟩ := dd'
    refine d_write I (by rw [e]; exact True.intro) hs ⟨q, hq⟩ ⟨hl, hd, _, (rel.put k eb rv).keeps fun c ys ec => ?_, q, es, ep, hq, h2, h3, h4, h5⟩
    rw [upd_ne (ne_of ec e (fun z => nomatch z))]
    exact ec
end
section
variable {X : Cx} {pins : List (Addr × Obj)} {σ : St} {H : Hp} {s : Shared} {a : Addr} {kvs : List (Key × V)} {k : Key} {u : Value} {A : Around} {E : Value → Shared → Prop}
theorem d_pop {v : V} {more : List Value} {Q : Value → Shared → Prop} (I : Inv X pins σ H s) (e : H a = some (.dK kvs)) (ry : RelV (kV k) u) (l : valV kvs k = some v) (hm : more = [] ∨ ∃ x, more = [x])
    (h : ∀ w' s', Inv X pins σ (upd H a (.dK (dropK kvs k))) s' → RelV v w' → Q w' s') : wpAny (model X.prog X.w) A (call (.builtin "dict.pop") (.ref a :: u :: more)) Q E s := by
  obtain ⟨z, hd, vs, rel, dd⟩ := dk_of I.hok e
  obtain ⟨w', hw, rw'⟩ := RelO.some_of (v := v) (o := valueAt vs k) (by rw [← l]; exact rel.val k)
  have hp : (keyPart u).isSome = true := by
    cases k with
    | inl i => obtain ⟨t, q⟩ := (show ∃ t, u = Value.int i t from ry); subst q; rfl
    | inr x => obtain ⟨t, q⟩ := (show ∃ t, u = Value.str x t from ry); subst q; rfl
  have ha : argsOk "dict.pop" ⟨.ref a :: u :: more, []⟩ := by
    rcases hm with q | ⟨x, q⟩
    · subst q; exact PySem.F.args_dict_pop_2 _ _
    · subst q; exact PySem.F.args_dict_pop_3 _ _ _
  refine call_meetsIn PySem.F.slot_dict_pop dd.typeIs PySem.F.entry_dict_pop ha (meets_dict_pop_there (mixKind X.prog X.w) a (kV_is ry) more hm hp)
    ⟨vs, w', dd, by rw [← rel.length]; exact z, hw, fun h' dd' hs => h w' _ ?_ rw'⟩
  have he : ∃ q, h'.get? a = some q := let ⟨q, _, _, hq, _⟩ := dd'; ⟨q, hq⟩
  exact d_write I (by rw [e]; exact True.intro) hs he (dk_new (Nat.le_trans (dropK_le kvs k) z) hd (rel.drop k) dd')
theorem d_len {Q : Value → Shared → Prop} (I : Inv X pins σ H s) (e : Rd H a (.dK kvs)) (h : ∀ t s', Inv X pins σ H s' → Q (.int kvs.length t) s') : wpAny (model X.prog X.w) A (call (.builtin "len") [.ref a]) Q E s := by
  obtain ⟨z, hd, vs, rel, dd⟩ := dk_rd I.hok e
  refine call_len_dict hd dd (by rw [← rel.length]; rw [sizeLine_eq] at z; lia) ?_
  rw [← rel.length]
  exact h _ _ (I.tok _)
end
def NoSl (i : Expr) : Prop := ∀ ov iv, subscripted i false ov iv = operate [ov, iv] (getItem ov iv)
theorem subD_of {prog : Program} {w : World} {A : Around} {E : Value → Shared → Prop} {s : Shared} {env : Env} {value slice : Expr} {pos : Pos} {T id : String} {Q : Value → Shared → Prop}
    (hl : typeLookup (.type T) "__getitem__" = pure (some (.builtin id))) (hs : NoSl slice)
    (h : wpAny (model prog w) A (eval value env) (fun o s₁ => wpAny (model prog w) A (eval slice env) (fun i s₂ => s₂.TypeIs o T ∧ wpAny (model prog w) A (getItem o i) Q E s₂) E s₁) E s) :
    wpAny (model prog w) A (eval (.Subscript value slice pos) env) Q E s := by
  refine Subscript_ (wpAny_mono h (fun o s₁ h₁ => wpAny_mono h₁ (fun i s₂ h₂ => ?_) fun _ _ x => x) fun _ _ x => x)
  obtain ⟨hT, h₂⟩ := h₂
  unfold subscriptTail
  refine wpAny_bind ?_
  rw [getitemInPython_of_ne hT.not_modules]
  refine wpAny_bind (wpAny_specialOf hT hl ?_)
  have fin : wpAny (model prog w) A (subscripted slice false o i) (fun r s₃ => wpAny (model prog w) A (letTemporaryGo value o r >>= fun _ => pure r) Q E s₃) E s₂ := by
    rw [hs o i]
    exact wpAny_operating (wpAny_mono h₂ (fun r s₃ h₃ => wpAny_bind (wpAny_letTemporaryGo (wpAny_pure h₃))) fun _ _ x => x)
  first
    | exact wpAny_pure (wpAny_bind fin)
    | exact wpAny_bind (wpAny_pure (wpAny_bind fin))
    | exact wpAny_bind fin
theorem dict_typeIs {X : Cx} {pins : List (Addr × Obj)} {σ : St} {H : Hp} {s : Shared} {a : Addr} {y : V} {o : Option V} (I : Inv X pins σ H s) (g : DGet H a y o) : s.TypeIs (.ref a) "dict" := by
  rcases g with ⟨kvs, k, e, _, _⟩ | ⟨kvs, k, b, e, _, _, _⟩
  · obtain ⟨_, _, vs, _, dd⟩ := dk_rd I.hok e
    exact dd.typeIs
  · obtain ⟨_, _, xs, _, dd⟩ := dt_rd I.hok e
    exact dd.typeIs
def tDGet (td ty : TE) : TE := fun σ H Q => td σ H fun x H1 => ty σ H1 fun y H2 => ∃ a v, x = .ref a ∧ DGet H2 a y (some v) ∧ Q v H2
def tDIn (ty td : TE) : TE := fun σ H Q => ty σ H fun y H1 => td σ H1 fun x H2 => ∃ a o, x = .ref a ∧ DGet H2 a y o ∧ Q (.bl o.isSome) H2
def tDNotIn (ty td : TE) : TE := fun σ H Q => ty σ H fun y H1 => td σ H1 fun x H2 => ∃ a o, x = .ref a ∧ DGet H2 a y o ∧ Q (.bl (!o.isSome)) H2
def sDPut (td ty tv : TE) : TS := fun D σ H => tv σ H fun v H1 => td σ H1 fun x H2 => ty σ H2 fun y H3 => ∃ a H4, x = .ref a ∧ DPut H3 a y v H4 ∧ D.nx σ H4
section
variable {X : Cx} {o i e value : Expr} {pos pos' tpos : Pos} {td ty tv : TE}
theorem pe_dget (hu : X.A.units + 1 < cLine) (ho : PE X o td) (hi : PE X i ty) (hs : NoSl i) : PE X (.Subscript o i pos) (tDGet td ty) := by
  intro pins s σ H Q I h
  refine subD_of PySem.F.slot_dict_getitem.lookup hs (thn (ho pins s σ H _ I h) fun u s1 ⟨x, H1, I1, rx, q1⟩ => thn (hi pins s1 σ H1 _ I1 q1) fun iv s2 ⟨y, H2, I2, ry, a, v, ex, g, q2⟩ => ?_)
  subst ex
  obtain rfl : u = Value.ref a := rx
  exact ⟨dict_typeIs I2 g, d_getItem hu I2 g ry fun w' s3 I3 rw' => ⟨v, H2, I3, rw', q2⟩⟩
theorem pc_din (hu : X.A.units + 1 < cLine) (hi : PE X i ty) (ho : PE X o td) : PC X .In i o (tDIn ty td) := by
  intro pins s σ H Q I h
  refine thn (hi pins s σ H _ I h) fun iv s1 ⟨y, H1, I1, ry, q1⟩ => thn (ho pins s1 σ H1 _ I1 q1) fun u s2 ⟨x, H2, I2, rx, a, ov, ex, g, q2⟩ => ?_
  subst ex
  obtain rfl : u = Value.ref a := rx
  exact d_in hu I2 g ry fun s3 I3 => ⟨.bl ov.isSome, H2, I3, rfl, q2⟩
theorem pc_dnotin (hu : X.A.units + 1 < cLine) (hi : PE X i ty) (ho : PE X o td) : PC X .NotIn i o (tDNotIn ty td) := by
  intro pins s σ H Q I h
  refine thn (hi pins s σ H _ I h) fun iv s1 ⟨y, H1, I1, ry, q1⟩ => thn (ho pins s1 σ H1 _ I1 q1) fun u s2 ⟨x, H2, I2, rx, a, ov, ex, g, q2⟩ => ?_
  subst ex
  obtain rfl : u = Value.ref a := rx
  exact d_notIn hu I2 g ry fun s3 I3 => ⟨.bl (!ov.isSome), H2, I3, rfl, q2⟩
theorem ps_dput (hu : X.A.units + 1 < cLine) (ho : PE X o td) (hi : PE X i ty) (hv : PE X value tv) (hs : swapsWith value (some (.Subscript o i pos')) pos.line X.env = pure false) :
    PS X (.Assign [.Subscript o i pos'] value pos) (sDPut td ty tv) := by
  intro pins s σ H D I h
  refine wpAny_Assign_Subscript (thn (hv pins s σ H _ I h) fun r s1 ⟨v, H1, I1, rv, q1⟩ => thn (ho pins s1 σ H1 _ I1 q1) fun u s2 ⟨x, H2, I2, rx, q2⟩ => thn (hi pins s2 σ H2 _ I2 q2) fun iv s3 ⟨y, H3, I3, ry, a, H4, ex, g, q3⟩ => ?_) hs
  subst ex
  obtain rfl : u = Value.ref a := rx
  exact d_setItem hu I3 g ry rv fun s4 I4 => ⟨σ, H4, I4, q3⟩
end
theorem dk_empty {P : Program} {w : World} {H : Hp} (h : Heap) (hb : sysModules < h.objs.size) : ObjOk P w H (h.push { cls := .type "dict", data := .dict #[] }) h.objs.size (.dK []) :=
  ⟨Nat.zero_le _, beq_eq_false_iff_ne.mpr (Ne.symm (Nat.ne_of_lt hb)), [], .nil, Heap.DictOf.new h⟩
def tDNewK : TE := fun _ H Q => ∀ p, H p = none → Q (.ref p) (upd H p (.dK []))
section
variable {X : Cx} {pos : Pos}
theorem pe_dnewK : PE X (.Dict [] [] pos) tDNewK := fun pins s σ H Q I h =>
  wpAny_Dict_empty ⟨.ref s.heap.objs.size, _, I.laid (a := s.heap.objs.size) (o := .dK []) (t' := s.toks) (fun _ _ q => Heap.get?_push_of_some _ q) (Nat.le_refl _) (dk_empty s.heap I.big), rfl, h _ (I.hok.fresh (Nat.le_refl _))⟩
end
def tPairs : List (TE × TE) → St → Hp → (List (V × V) → Hp → Prop) → Prop
  | [], _, H, Q => Q [] H
  | (tk, tv) :: r, σ, H, Q => tk σ H fun x H1 => tv σ H1 fun y H2 => tPairs r σ H2 fun ps H3 => Q ((x, y) :: ps) H3
abbrev VV : List (V × V) → List (Value × Value) → Prop := Paired fun p q => RelV p.1 q.1 ∧ RelV p.2 q.2
def PPs (X : Cx) (pos : Pos) (keys : List (Option Expr)) (values : List Expr) (trs : List (TE × TE)) : Prop :=
  ∀ (pins : List (Addr × Obj)) (s : Shared) (σ : St) (H : Hp) (Q : List (V × V) → Hp → Prop), Inv X pins σ H s → tPairs trs σ H Q →
    wpAny (model X.prog X.w) X.A (evalPairs (pairTrees keys values X.env pos)) (fun vs s' => ∃ ps H', Inv X pins σ H' s' ∧ VV ps vs ∧ Q ps H') X.xe s
theorem pps_nil {X : Cx} {pos : Pos} : PPs X pos [] [] [] := fun pins s σ H Q I h => pairTrees_nil_walk ⟨[], H, I, .nil, h⟩
theorem pps_cons {X : Cx} {pos : Pos} {k v : Expr} {ks : List (Option Expr)} {vs : List Expr} {tk tv : TE} {trs : List (TE × TE)} (hk : PE X k tk) (hv : PE X v tv) (hr : PPs X pos ks vs trs) :
    PPs X pos (some k :: ks) (v :: vs) ((tk, tv) :: trs) := fun pins s σ H Q I h =>
  pairTrees_cons_walk (thn (hk pins s σ H _ I h) fun u s1 ⟨x, H1, I1, rx, q1⟩ => thn (hv pins s1 σ H1 _ I1 q1) fun w2 s2 ⟨y, H2, I2, ry, q2⟩ =>
    thn (hr pins s2 σ H2 _ I2 q2) fun ws s3 ⟨ps, H3, I3, rel, q3⟩ => ⟨(x, y) :: ps, H3, I3, .cons ⟨rx, ry⟩ rel, q3⟩)
def mergeK (kvs more : List (Key × V)) : List (Key × V) := more.foldl (fun acc kv => putK acc kv.1 kv.2) kvs
theorem KV.merge : ∀ {more : List (Key × V)} {rs : List (Key × Value)} {kvs : List (Key × V)} {vs : List (Key × Value)}, KV more rs → KV kvs vs → KV (mergeK kvs more) (merged vs rs) := by
  intro more rs kvs vs r
  unfold KV at r
  induction r generalizing kvs vs with
  | nil => intro q; exact q
  | @cons p q ps qs h t ih =>
    intro r0
    have e : KV (putK kvs p.1 p.2) (stored vs q.1 q.2) := by
      have := r0.put p.1 h.2
      rw [← h.1]; exact this
    exact ih e
theorem length_mergeK : ∀ (more kvs : List (Key × V)), (mergeK kvs more).length ≤ kvs.length + more.length
  | [], kvs => by show kvs.length ≤ kvs.length + 0; lia
  | p :: r, kvs => by
    have h1 := length_mergeK r (putK kvs p.1 p.2)
    have h2 := length_putK kvs p.1 p.2
    show (mergeK (putK kvs p.1 p.2) r).length ≤ _
    rw [List.length_cons]; lia
theorem carries_of {P : Program} {w : World} : ∀ {kvs : List (Key × V)} {ws : List (Value × Value)}, VV (kvs.map fun kv => (kV kv.1, kv.2)) ws → ∃ rs, Carries (mixKind P w) ws rs ∧ KV kvs rs
  | [], _, r => by rw [List.map_nil] at r; cases r; exact ⟨[], True.intro, .nil⟩
  | p :: kvs, _, r => by
    rw [List.map_cons] at r
    cases r with
    | @cons a b as bs h t =>
      obtain ⟨rs, c, q⟩ := carries_of (P := P) (w := w) t
      obtain ⟨b1, b2⟩ := b
      exact ⟨(p.1, b2) :: rs, ⟨kV_is h.1, rfl, c⟩, .cons ⟨rfl, h.2⟩ q⟩
def tDisp (trs : List (TE × TE)) : TE := fun σ H Q => ∀ p, H p = none → tPairs trs σ (upd H p (.dK [])) fun ps H2 => H2 p = some (.dK []) ∧ ∃ kvs : List (Key × V), ps = kvs.map (fun kv => (kV kv.1, kv.2)) ∧ kvs.length ≤ 15 ∧ Q (.ref p) (upd H2 p (.dK (mergeK [] kvs)))
theorem pe_disp {X : Cx} {pos : Pos} {keys : List (Option Expr)} {values : List Expr} {trs : List (TE × TE)} (h : PPs X pos keys values trs) (hall : keys.all (·.isSome) = true) (hl : keys.length = values.length) (h0 : keys ≠ [])
    (h15 : keys.length ≤ 15) : PE X (.Dict keys values pos) (tDisp trs) := by
  intro pins s σ H Q I q
  have hn := I.hok.fresh (Nat.le_refl s.heap.objs.size)
  have I1 := I.laid (a := s.heap.objs.size) (o := .dK []) (h' := s.heap.push { cls := .type "dict", data := .dict #[] }) (t' := s.toks) (fun _ _ q => Heap.get?_push_of_some _ q) (Nat.le_refl _) (dk_empty s.heap I.big)
  refine wpAny_Dict_walk (knd := mixKind X.prog X.w) hall hl h0 h15 (thn (h pins _ σ _ _ I1 (q _ hn)) fun ws s2 ⟨ps, H2, I2, rel, e, kvs, ep, lk, q2⟩ => ?_)
  subst ep
  obtain ⟨rs, c, rk⟩ := carries_of (P := X.prog) (w := X.w) rel
  obtain ⟨z, hd, vs0, r0, dd⟩ := dk_of I2.hok e
  cases r0
  refine ⟨rs, c, dd, fun h' dd' hs => ⟨.ref s.heap.objs.size, _, ?_, rfl, q2⟩⟩
  have hz : (mergeK [] kvs).length ≤ sizeLine := by
    have h1 := length_mergeK kvs []
    rw [List.length_nil] at h1
    rw [sizeLine_eq]; lia
  have he : ∃ q, h'.get? s.heap.objs.size = some q := let ⟨q, _, _, hq, _⟩ := dd'; ⟨q, hq⟩
  exact d_write I2 (by rw [e]; exact True.intro) hs he (dk_new hz hd (rk.merge .nil) dd')
structure M1 (X : Cx) (o : Expr) (m : Str) (apos : Pos) (e : Expr) (cpos : Pos) : Prop where
  base : attributeBase o m X.env (eval o X.env) = eval o X.env
  few : ((backTo cpos (starEach [e] X.env)).all (fun x => !x.1) && (backToKw cpos (keywordEach [] X.env)).all (fun x => x.1.isSome)
    && decide (([e] : List Expr).length + ([] : List Keyword).length + (if ([] : List Keyword).isEmpty then 0 else 1) < 30)) = true
  line : (apos.endLine == cpos.line) = true
  trees : backTo cpos (starEach [e] X.env) = [(false, eval e X.env)]
structure M2 (X : Cx) (o : Expr) (m : Str) (apos : Pos) (e f : Expr) (cpos : Pos) : Prop where
  base : attributeBase o m X.env (eval o X.env) = eval o X.env
  few : ((backTo cpos (starEach [e, f] X.env)).all (fun x => !x.1) && (backToKw cpos (keywordEach [] X.env)).all (fun x => x.1.isSome)
    && decide (([e, f] : List Expr).length + ([] : List Keyword).length + (if ([] : List Keyword).isEmpty then 0 else 1) < 30)) = true
  line : (apos.endLine == cpos.line) = true
  trees : backTo cpos (starEach [e, f] X.env) = [(false, eval e X.env), (false, eval f X.env)]
def IsD (H : Hp) (a : Addr) : Prop := (∃ kvs, Rd H a (.dK kvs)) ∨ ∃ kvs, Rd H a (.dT kvs)
theorem isD_at {X : Cx} {pins : List (Addr × Obj)} {σ : St} {H : Hp} {s : Shared} {a : Addr} (I : Inv X pins σ H s) (d : IsD H a) :
    s.TypeIs (.ref a) "dict" ∧ (∀ b, Value.ref a = .ref b → ∃ ob, s.heap.get? b = some ob ∧ ob.dict = none) ∧ (a == sysModules) = false := by
  rcases d with ⟨kvs, e⟩ | ⟨kvs, e⟩
  · obtain ⟨_, hd, vs, _, dd⟩ := dk_rd I.hok e
    refine ⟨dd.typeIs, fun b q => ?_, hd⟩
    cases q
    obtain ⟨ob, _, _, h1, h2, _⟩ := dd
    exact ⟨ob, h1, h2.2.1⟩
  · obtain ⟨_, hd, xs, _, dd⟩ := dt_rd I.hok e
    refine ⟨dd.typeIs, fun b q => ?_, hd⟩
    cases q
    obtain ⟨ob, _, _, h1, h2, _⟩ := dd
    exact ⟨ob, h1, h2.2.1⟩
section
variable {X : Cx} {pins : List (Addr × Obj)} {σ : St} {H : Hp} {s : Shared} {a : Addr} {y d : V} {u r : Value} {o : Option V} {A : Around} {E : Value → Shared → Prop}
theorem d_get1 {Q : Value → Shared → Prop} (hu : A.units + 1 < cLine) (I : Inv X pins σ H s) (g : DGet H a y o) (ry : RelV y u) (h : ∀ w' s', Inv X pins σ H s' → RelV (o.getD .non) w' → Q w' s') :
    wpAny (model X.prog X.w) A (call (.builtin "dict.get") [.ref a, u]) Q E s := by
  rcases g with ⟨kvs, k, e, ey, l⟩ | ⟨kvs, k, b, e, ey, eb, l⟩
  · subst ey
    obtain ⟨z, hd, vs, rel, dd⟩ := dk_rd I.hok e
    refine call_meetsIn PySem.F.slot_dict_get dd.typeIs PySem.F.entry_dict_get (PySem.F.args_dict_get_2 _ _) (meets_dict_get (mixKind X.prog X.w) a (kV_is ry) hd) ⟨_, dd.mapOf, h _ _ (I.tok _) ?_⟩
    rw [l]
    exact (rel.val k).getD rfl
  · subst ey
    cases (show u = Value.ref b from ry)
    obtain ⟨z, hd, xs, rel, dd⟩ := dt_rd I.hok e
    refine call_meetsIn PySem.F.slot_dict_get dd.typeIs PySem.F.entry_dict_get (PySem.F.args_dict_get_2 _ _) (meetsH_dict_get (tupleKind (mixKind X.prog X.w)) a b hd) ⟨tupleKind_room_in1 hu, k, xs, key_of I.hok eb, dd, h _ _ (I.tok _) ?_⟩
    rw [l]
    exact (rel.val k).getD rfl
theorem d_get2 {Q : Value → Shared → Prop} (hu : A.units + 1 < cLine) (I : Inv X pins σ H s) (g : DGet H a y o) (ry : RelV y u) (rd : RelV d r) (h : ∀ w' s', Inv X pins σ H s' → RelV (o.getD d) w' → Q w' s') :
    wpAny (model X.prog X.w) A (call (.builtin "dict.get") [.ref a, u, r]) Q E s := by
  rcases g with ⟨kvs, k, e, ey, l⟩ | ⟨kvs, k, b, e, ey, eb, l⟩
  · subst ey
    obtain ⟨z, hd, vs, rel, dd⟩ := dk_rd I.hok e
    refine call_meetsIn PySem.F.slot_dict_get dd.typeIs PySem.F.entry_dict_get (PySem.F.args_dict_get_3 _ _ _) (meets_dict_get_default (mixKind X.prog X.w) a (kV_is ry) hd r) ⟨_, dd.mapOf, h _ _ (I.tok _) ?_⟩
    rw [l]
    exact (rel.val k).getD rd
  · subst ey
    cases (show u = Value.ref b from ry)
    obtain ⟨z, hd, xs, rel, dd⟩ := dt_rd I.hok e
    refine call_meetsIn PySem.F.slot_dict_get dd.typeIs PySem.F.entry_dict_get (PySem.F.args_dict_get_3 _ _ _) (meetsH_dict_get_default (tupleKind (mixKind X.prog X.w)) a b hd r) ⟨tupleKind_room_in1 hu, k, xs, key_of I.hok eb, dd, h _ _ (I.tok _) ?_⟩
    rw [l]
    exact (rel.val k).getD rd
end
def tDGet1 (td ty : TE) : TE := fun σ H Q => td σ H fun x H1 => ∃ a, x = .ref a ∧ IsD H1 a ∧ ty σ H1 fun y H2 => ∃ o, DGet H2 a y o ∧ Q (o.getD .non) H2
def tDGet2 (td ty tx : TE) : TE := fun σ H Q => td σ H fun x H1 => ∃ a, x = .ref a ∧ IsD H1 a ∧ ty σ H1 fun y H2 => tx σ H2 fun z H3 => ∃ o, DGet H3 a y o ∧ Q (o.getD z) H3
def tDPop1 (td ty : TE) : TE := fun σ H Q => td σ H fun x H1 => ∃ a, x = .ref a ∧ IsD H1 a ∧ ty σ H1 fun y H2 => ∃ kvs k v, H2 a = some (.dK kvs) ∧ y = kV k ∧ valV kvs k = some v ∧ Q v (upd H2 a (.dK (dropK kvs k)))
section
variable {X : Cx} {o e f : Expr} {apos cpos : Pos} {td ty tx : TE}
theorem pe_dget1 (hu : X.A.units + 1 < cLine) (ho : PE X o td) (he : PE X e ty) (m : M1 X o "get" apos e cpos) : PE X (.Call (.Attribute o "get" apos) [e] [] cpos) (tDGet1 td ty) := by
  intro pins s σ H Q I h
  refine wpAny_Call_method m.base m.few m.line PySem.F.plainAttrs_dict PySem.F.slot_dict_get PySem.F.type_dict_get (thn (ho pins s σ H _ I h) fun u s1 ⟨x, H1, I1, rx, a, ex, d, q1⟩ => ?_)
  subst ex
  obtain rfl : u = Value.ref a := rx
  obtain ⟨t1, t2, _⟩ := isD_at I1 d
  refine ⟨t1, t2, ?_⟩
  rw [m.trees]
  refine Calls.callWith_builtin rfl (Calls.evalArgs_plain (Calls.spliced_cons (thn (he pins s1 σ H1 _ I1 q1) fun iv s2 ⟨y, H2, I2, ry, ov, g, q2⟩ => Calls.spliced_nil ?_)))
  exact d_get1 hu I2 g ry fun w' s3 I3 rw' => ⟨_, H2, I3, rw', q2⟩
theorem pe_dget2 (hu : X.A.units + 1 < cLine) (ho : PE X o td) (he : PE X e ty) (hf : PE X f tx) (m : M2 X o "get" apos e f cpos) : PE X (.Call (.Attribute o "get" apos) [e, f] [] cpos) (tDGet2 td ty tx) := by
  intro pins s σ H Q I h
  refine wpAny_Call_method m.base m.few m.line PySem.F.plainAttrs_dict PySem.F.slot_dict_get PySem.F.type_dict_get (thn (ho pins s σ H _ I h) fun u s1 ⟨x, H1, I1, rx, a, ex, d, q1⟩ => ?_)
  subst ex
  obtain rfl : u = Value.ref a := rx
  obtain ⟨t1, t2, _⟩ := isD_at I1 d
  refine ⟨t1, t2, ?_⟩
  rw [m.trees]
  refine Calls.callWith_builtin rfl (Calls.evalArgs_plain (Calls.spliced_cons (thn (he pins s1 σ H1 _ I1 q1) fun iv s2 ⟨y, H2, I2, ry, q2⟩ =>
    Calls.spliced_cons (thn (hf pins s2 σ H2 _ I2 q2) fun fv s3 ⟨z, H3, I3, rz, ov, g, q3⟩ => Calls.spliced_nil ?_))))
  exact d_get2 hu I3 g ry rz fun w' s4 I4 rw' => ⟨_, H3, I4, rw', q3⟩
theorem pe_dpop1 (ho : PE X o td) (he : PE X e ty) (m : M1 X o "pop" apos e cpos) : PE X (.Call (.Attribute o "pop" apos) [e] [] cpos) (tDPop1 td ty) := by
  intro pins s σ H Q I h
  refine wpAny_Call_method m.base m.few m.line PySem.F.plainAttrs_dict PySem.F.slot_dict_pop PySem.F.type_dict_pop (thn (ho pins s σ H _ I h) fun u s1 ⟨x, H1, I1, rx, a, ex, d, q1⟩ => ?_)
  subst ex
  obtain rfl : u = Value.ref a := rx
  obtain ⟨t1, t2, _⟩ := isD_at I1 d
  refine ⟨t1, t2, ?_⟩
  rw [m.trees]
  refine Calls.callWith_builtin rfl (Calls.evalArgs_plain (Calls.spliced_cons (thn (he pins s1 σ H1 _ I1 q1) fun iv s2 ⟨y, H2, I2, ry, kvs, k, v, ea, ey, l, q2⟩ => Calls.spliced_nil ?_)))
  subst ey
  exact d_pop I2 ea ry l (.inl rfl) fun w' s3 I3 rw' => ⟨v, _, I3, rw', q2⟩
end
section
variable {X : Cx} {pins : List (Addr × Obj)} {σ : St} {H : Hp} {s : Shared} {a : Addr} {kvs : List (Key × V)} {A : Around} {E : Value → Shared → Prop}
theorem d_copyOf {Q : Value → Shared → Prop} (I : Inv X pins σ H s) (e : Rd H a (.dK kvs)) (h : ∀ p s', H p = none → Inv X pins σ (upd H p (.dK kvs)) s' → Q (.ref p) s') : wpAny (model X.prog X.w) A (call (.type "dict") [.ref a]) Q E s := by
  obtain ⟨z, hd, vs, rel, dd⟩ := dk_rd I.hok e
  refine kt_call_dict hd dd (by rw [← rel.length]; exact z) fun h' dd' hs => ?_
  refine h _ _ (I.hok.fresh (Nat.le_refl _)) (I.laid (a := s.heap.objs.size) (o := .dK kvs) (t' := s.toks) (fun b q hq => ?_) (Nat.le_refl _) (dk_new z (beq_eq_false_iff_ne.mpr (Ne.symm (Nat.ne_of_lt I.big))) rel dd'))
  exact (hs.2 b (Nat.ne_of_lt (Heap.lt_size hq))).trans (Heap.get?_push_of_some _ hq)
end
section
variable {X : Cx} {pins : List (Addr × Obj)} {σ : St} {H : Hp} {s : Shared} {a : Addr} {y : V} {u : Value} {A : Around} {E : Value → Shared → Prop}
end
end L2
namespace L2
open PySem PySem.Spec PyProof.Rows
section
variable {X : Cx}
theorem call_lenD : CallR X (.builtin "len") (fun xs H Q => ∃ a kvs, xs = [V.ref a] ∧ H a = some (.dK kvs) ∧ Q (.int kvs.length) H) := by
  intro pins s σ H xs us Q I r h
  obtain ⟨a, kvs, rfl, ha, q⟩ := h
  obtain ⟨u, rfl, ru⟩ := vals1 r
  cases ru
  exact d_len I (.inl ha) fun t s' I' => ⟨.int kvs.length, H, I', ⟨t, rfl⟩, q⟩
end
section
variable {κ : Type} [DecidableEq κ]
end
end L2
end
section
set_option linter.all false
set_option maxRecDepth 100000
set_option maxHeartbeats 4000000
namespace L2
open PySem PySem.W PySem.Spec PySem.Calls PyProof.Rows
section
variable {P : Program} {w : World} {K : Frag} {mg : Str → Option Value} {base : Heap} {N : List Str} {qual : Str} {scope : Scope} {f : Addr} {cd : Value} {A : Around} {outer : List Env} {s₀ : Shared} {H₀ : Hp} {E : XK}
end
section
variable {X : Cx}
section
variable {C f : Addr} {m : Str} {k : Nat} {fd : FuncData} {ps : List Str} {sp : Sp} {dvs : List V} {ds : List Value} {o e : Expr} {es : List Expr} {ta : TE} {t : TA} {apos pos : Pos} {pl : Sem Bool}
end
end
end L2
end
section
set_option linter.all false
set_option maxRecDepth 100000
set_option maxHeartbeats 4000000
namespace L2
open PySem PySem.Spec PyProof.Rows
open PySem.SeqAt (EqAt RcAt RcNeAt)
section
variable {X : Cx}
end
end L2
end
section
set_option linter.all false
set_option maxRecDepth 100000
set_option maxHeartbeats 4000000
namespace L2
open PySem PySem.W PySem.Spec PySem.Calls PyProof.Rows
section
variable {X : Cx} {pins : List (Addr × Obj)} {σ : St} {H : Hp} {s : Shared} {d : Addr} {kvs : List (Key × V)}
theorem hok_swap {P : Program} {w : World} {H : Hp} {h : Heap} {d : Addr} {o u : HO} (hok : HOk P w H h) (e : H d = some o) (no : ∀ y, o ≠ .own y) (nt : ∀ xs, o ≠ .tup xs) (new : ObjOk P w (upd H d u) h d u) : HOk P w (upd H d u) h := fun b v q => by
 by_cases hb : b = d
 ·subst hb; rw [upd_same] at q; cases q; exact new
 ·rw [upd_ne hb] at q
  refine (hok b v q).stay (fun _ _ _ z => z) (fun c z => ?_) fun c xs z => ?_
  ·rw [upd_ne (fun y => by subst y; rw [e] at z; cases z; exact no _ rfl)]; exact z
  ·rw [upd_ne (fun y => by subst y; rw [e] at z; cases z; exact nt _ rfl)]; exact z
theorem dK_stay {P : Program} {w : World} {H H' : Hp} {h : Heap} {d : Addr} {kvs : List (Key × V)} (x : ObjOk P w H h d (.dK kvs)) : ObjOk P w H' h d (.dK kvs) := x
theorem Inv.freeze (I : Inv X pins σ H s) (e : H d = some (.dK kvs)) : ∃ o, s.heap.get? d = some o ∧ Inv X pins σ (upd H d (.frz o (.dK kvs))) s := by
 obtain ⟨o, ho⟩ := I.hok.get e
 have ne : ∀ b u, H b = some u → (∀ k, u ≠ .dK k) → b ≠ d := fun b u q n z => by subst z; rw [e] at q; cases q; exact n _ rfl
 refine ⟨o, ho, I.step (h' := s.heap) (g' := s.gens) (d' := s.drawn) (t' := s.toks) (ch := []) (fun _ z => nomatch z) (fun b o _ _ _ e _ => e) (fun b o _ _ _ e _ => ⟨o.slots, e⟩) (fun b o _ _ n => ?_) (fun b o _ e => ⟨o, e⟩) (fun b xs q => ?_) (fun b o u q => ?_) (fun b ps q => ⟨#[], ?_⟩) (fun m hm => hm) ?_ I.bare⟩
 ·rw [upd_ne (fun z => by subst z; rw [e] at n; cases n)]; exact n
 ·rw [upd_ne (ne b _ q (fun _ z => nomatch z))]; exact q
 ·rw [upd_ne (ne b _ q (fun _ z => nomatch z))]; exact q
 ·rw [upd_ne (ne b _ q (fun _ z => nomatch z)), q]; simp
 ·exact hok_swap I.hok e (fun _ z => nomatch z) (fun _ z => nomatch z) ⟨ho, dK_stay (I.hok d _ e)⟩
theorem Inv.thaw {o : Obj} (I : Inv X pins σ H s) (e : H d = some (.frz o (.dK kvs))) (n : ∀ o u, X.H₀ d ≠ some (.frz o u)) : Inv X pins σ (upd H d (.dK kvs)) s := by
 have nn : ∀ b, H b = none → (upd H d (.dK kvs)) b = none := fun b q => by rw [upd_ne (fun z => by subst z; rw [e] at q; cases q)]; exact q
 refine ⟨I.ok, I.os, I.bare, ⟨I.base.keep, I.base.slot, fun b ob e1 n1 hx => nn b (I.base.free b ob e1 n1 hx), I.base.there, fun b xs q => ?_, fun b ob u q => ?_, fun b ps q => ?_⟩, I.loc, I.cell, nn _ I.free, fun x c q => nn _ (I.freeC x c q), fun p hp => ?_, ?_, I.len⟩
 ·have q2 := I.base.tups b xs q
  rw [upd_ne (fun z => by subst z; rw [e] at q2; cases q2)]; exact q2
 ·have q2 := I.base.frzs b ob u q
  rw [upd_ne (fun z => by subst z; exact n _ _ q)]; exact q2
 ·obtain ⟨m, q2⟩ := I.base.tbls b ps q
  exact ⟨m, by rw [upd_ne (fun z => by subst z; rw [e] at q2; cases q2)]; exact q2⟩
 ·obtain ⟨a1, a2, a3⟩ := I.pin p hp
  exact ⟨a1, nn _ a2, a3⟩
 ·exact hok_swap I.hok e (fun _ z => nomatch z) (fun _ z => nomatch z) (dK_stay (I.hok d _ e).2)
end
def tThaw (H0 : Hp) (t : TE) : TE := fun σ H Q => t σ H fun v H1 => ∃ d o kvs, H1 d = some (.frz o (.dK kvs)) ∧ (∀ o u, H0 d ≠ some (.frz o u)) ∧ Q v (upd H1 d (.dK kvs))
theorem pe_thaw {X : Cx} {e : Expr} {t : TE} (h : PE X e t) : PE X e (tThaw X.H₀ t) := fun pins s σ H Q I q =>
 thn (h pins s σ H _ I q) fun u s1 ⟨v, H1, I1, r, d, o, kvs, e1, n, q1⟩ => ⟨v, _, I1.thaw e1 n, r, q1⟩
theorem keyIs_rel {k : Key} {v : Value} (h : keyIs k v = true) : RelV (kV k) v := by
 rcases keyIs_shape h with ⟨i, t, rfl, rfl⟩ | ⟨x, t, rfl, rfl⟩
 ·exact ⟨t, rfl⟩
 ·exact ⟨t, rfl⟩
def Itk (d : Addr) (o : Obj) (kvs : List (Key × V)) : It :=
 ⟨fun i H => i < kvs.length ∧ H d = some (.frz o (.dK kvs)), fun i H x H' => H' = H ∧ (kvs.map fun kv => kV kv.1)[i]? = some x, fun i H => kvs.length ≤ i ∧ H d = some (.frz o (.dK kvs))⟩
theorem KV.at {κ : Type} {kvs : List (κ × V)} {vs : List (κ × Value)} (r : KV kvs vs) {i : Nat} {p : κ × V} (h : kvs[i]? = some p) : ∃ v, vs[i]? = some (p.1, v) := by
 induction r generalizing i with
 | nil => cases h
 | @cons a b l l' h1 _ ih =>
  cases i with
  | zero =>
   cases h
   exact ⟨b.2, by show some b = _; rw [h1.1]⟩
  | succ i => exact ih h
theorem turn_dict {P : Program} {w : World} {K : Frag} {tg : Expr} {d it : Addr} {o : Obj} {kvs : List (Key × V)} {es : Array DictEntry} {ep : Nat} (hdo : o.data = .dict es ep) : Turn P w K tg (Itk d o kvs) [it] it (fun i h => h.IsKeyIter it d i kvs.length ep) where
 mem := List.mem_singleton.mpr rfl
 obj := fun i h st b hb => by
  obtain rfl := List.mem_singleton.mp hb
  obtain ⟨o, e, c, d⟩ := st
  exact ⟨o, e, fun v z => by rw [d] at z; cases z⟩
 keep := fun i h h' st k => st.at fun o e => k it (List.mem_singleton.mpr rfl) o e
 item := by
  intro X hP hw hK hc i pins s σ H E I hf st hg
  subst hP hw hK
  obtain ⟨hi, hd⟩ := hg
  obtain ⟨ho, _, nsm, vs, rel, o2, es2, ep2, ho2, hx2, hdo2, rest⟩ := (show _ ∧ ObjOk X.prog X.w H s.heap d (.dK kvs) from I.hok d _ hd)
  rw [ho] at ho2
  cases ho2
  rw [hdo] at hdo2
  cases hdo2
  obtain ⟨f0, f1, f2, f3, f4, f5⟩ := hf it (List.mem_singleton.mpr rfl)
  obtain ⟨v, hv⟩ := rel.at (List.getElem?_eq_getElem hi)
  have st1 := st
  rw [rel.length] at st1
  refine wpAny_pyNext_dict_item st1 ⟨o, es, ho, hx2, hdo, rest⟩ hv fun key h' hk st' sb => ?_
  rw [← rel.length] at st'
  have I1 : Inv X pins σ H { s with heap := h' } := I.turned (t' := s.toks) (fun b o hb e => (sb.2 b hb).trans e) f0 f1 f3 f4 f5
  obtain ⟨oi, e, c, dd⟩ := id st'
  refine ⟨key, rfl, go_of (s := { s with heap := h' }) e c dd (by decide) ⟨_, H, I1, keyIs_rel hk, ⟨rfl, ?_⟩, st', fun b hb => (hf b hb).1⟩⟩
  rw [List.getElem?_map, List.getElem?_eq_getElem hi]
  rfl
 done := by
  intro X hP hw hK hc i pins s σ H E I hf st hg
  subst hP hw hK
  obtain ⟨hi, hd⟩ := hg
  obtain ⟨ho, _, nsm, vs, rel, o2, es2, ep2, ho2, hx2, hdo2, rest⟩ := (show _ ∧ ObjOk X.prog X.w H s.heap d (.dK kvs) from I.hok d _ hd)
  rw [ho] at ho2
  cases ho2
  rw [hdo] at hdo2
  cases hdo2
  obtain ⟨f0, f1, f2, f3, f4, f5⟩ := hf it (List.mem_singleton.mpr rfl)
  have st1 := st
  rw [rel.length] at st1
  exact wpAny_pyNext_dict_end (I.ok.hd hc) st1 ⟨o, es, ho, hx2, hdo, rest⟩ (List.getElem?_eq_none (by rw [← rel.length]; exact hi)) fun h' eb => ⟨rfl, I.turned (t' := s.toks) (fun b o hb e => eb b o hb e) f0 f1 f3 f4 f5⟩
 self := fun _ _ _ _ _ st h => wpAny_pyIter_keyiter st h
def iDict (td : TE) : TI := fun σ H R => td σ H fun x H1 => ∃ d kvs, x = .ref d ∧ H1 d = some (.dK kvs) ∧ ∀ o, R (Itk d o kvs) (upd H1 d (.frz o (.dK kvs)))
section
variable {X : Cx} {tg : Expr}
theorem pi_dict {l : Expr} {tl : TE} (hl : PE X l tl) : PI X tg l (iDict tl) := by
 intro pins s σ H R I h
 refine thn (hl pins s σ H _ I h) fun v s1 ⟨x, H1, I1, r1, d, kvs, e, hd, q⟩ => ?_
 subst e
 cases r1
 obtain ⟨o, ho, I2⟩ := I1.freeze hd
 obtain ⟨_, nsm, vs, rel, o2, es, ep, ho2, hx, hdo, rest⟩ := (show ObjOk X.prog X.w H1 s1.heap d (.dK kvs) from I1.hok d _ hd)
 rw [ho] at ho2
 cases ho2
 refine wpAny_pyIter_dict nsm ⟨o, es, ho, hx, hdo, rest⟩ ?_
 refine ⟨s1.heap.objs.size, [s1.heap.objs.size], _, _, _, rfl, I2.kept (t' := s1.toks) fun b o e => Heap.get?_push_of_some _ e, turn_dict hdo, ⟨_, Heap.get?_push_size _ rfl, rfl, ?_⟩, fun b hb => ?_, q o⟩
 ·show Data.fields _ = _
  rw [rel.length]
  rfl
 ·obtain rfl := List.mem_singleton.mp hb
  exact I2.fpOk (Nat.le_refl _) (I2.hok.fresh (Nat.le_refl _))
end
theorem comp_dict {d : Addr} {o : Obj} {kvs : List (Key × V)} {tt : TT} {te : TE} {cap : List Nat} {σ : St} {H : Hp} {D : Addr} {Q : VK} (Pv : Nat → List V → Hp → Prop) (h0 : Pv 0 [] (upd H D (.lst []))) (hD : ∀ i ys H, Pv i ys H → H D = some (.lst ys) ∧ H d = some (.frz o (.dK kvs)))
  (hs : ∀ i k v ys H, kvs[i]? = some (k, v) → Pv i ys H → tt (some (kV k) :: capσ cap σ) H fun b H3 =>
   if b = true then te (some (kV k) :: capσ cap σ) H3 fun v H4 => H4 D = some (.lst ys) ∧ ys.length < sizeLine ∧ ∃ m', m' < kvs.length - i ∧ m' = kvs.length - (i + 1) ∧ i + 1 ≤ kvs.length ∧ Pv (i + 1) (ys ++ [v]) (upd H4 D (.lst (ys ++ [v])))
   else ∃ m', m' < kvs.length - i ∧ m' = kvs.length - (i + 1) ∧ i + 1 ≤ kvs.length ∧ Pv (i + 1) ys H3)
  (hd : ∀ ys H, Pv kvs.length ys H → Q (.ref D) H) :
  ∃ W : Nat → Nat → List V → Hp → Prop, (∃ m, W 0 m [] (upd H D (.lst []))) ∧ ∀ i m ys H, W i m ys H → H D = some (.lst ys) ∧
   (((Itk d o kvs).stop i H ∧ Q (.ref D) H) ∨ ((Itk d o kvs).go i H ∧ ∀ x H', (Itk d o kvs).yld i H x H' → tt (some x :: capσ cap σ) H' fun b H3 =>
    if b = true then te (some x :: capσ cap σ) H3 fun v H4 => H4 D = some (.lst ys) ∧ ys.length < sizeLine ∧ ∃ m', m' < m ∧ W (i + 1) m' (ys ++ [v]) (upd H4 D (.lst (ys ++ [v])))
    else ∃ m', m' < m ∧ W (i + 1) m' ys H3)) := by
 refine ⟨fun i m ys H => m = kvs.length - i ∧ i ≤ kvs.length ∧ Pv i ys H, ⟨kvs.length, rfl, Nat.zero_le _, h0⟩, ?_⟩
 rintro i m ys H ⟨rfl, hi, p⟩
 obtain ⟨q1, q2⟩ := hD i ys H p
 refine ⟨q1, ?_⟩
 by_cases hlt : i < kvs.length
 ·refine .inr ⟨⟨hlt, q2⟩, fun x H' y => ?_⟩
  obtain ⟨e, y⟩ := y
  subst e
  obtain ⟨k, v⟩ : ∃ kv : Key × V, kvs[i]? = some kv := ⟨_, List.getElem?_eq_getElem hlt⟩
  obtain ⟨k, z⟩ := k
  rw [List.getElem?_map, v] at y
  cases y
  exact hs i k z ys _ v p
 ·have e : i = kvs.length := by lia
  subst e
  exact .inl ⟨⟨Nat.le_refl _, q2⟩, hd ys H p⟩
section
variable {X : Cx} {CX : CXT} {k : Nat} {f C : Addr} {mc : Value} {fd : FuncData} {ps : List Str} {sp : Sp} {dvs : List V} {ds : List Value} {E : XK} {m : Str} {pos apos : Pos} {e o : Expr} {es : List Expr} {t : TA} {pl : Sem Bool}
end
end L2
end
section
set_option linter.all false
set_option maxRecDepth 100000
set_option maxHeartbeats 4000000
namespace L2
open PySem PySem.W PySem.Spec PySem.Calls PyProof.Rows
open PySem.SeqAt (EqAt RcAt RcNeAt)
section
variable {X : Cx}
end
end L2
namespace TS
open PySem PyProof.Rows PySem.W
section
variable {prog : Program} {w : World} {A : Around} {E : Value → Shared → Prop} {s : Shared}
end
end TS
namespace L2
open PySem PySem.W PySem.Spec PySem.Calls PyProof.Rows
def slt (a b : Str) : Bool := decide (a.cps.toList < b.cps.toList)
section
variable {X : Cx}
end
end L2
namespace TS
open PySem PyProof.Rows PySem.W
section
variable {prog : Program} {w : World} {A : Around} {R : Result → Shared → Prop} {I : Addr} {fp wr : List Addr} {n : Nat} {P : Nat → Value → Prop} {St : Nat → Heap → Prop} {Gd : Heap → Prop} {bt : Nat → Nat → Bool} {S : Addr}
end
end TS
namespace L2
open PySem PySem.W PySem.Spec PySem.Calls PyProof.Rows
section
variable {X : Cx}
end
section
variable {X : Cx} {e o i a b : Expr} {te to ti ta tb : TE} {pos pos' : Pos} {f : Str}
theorem qe_dnewK : QE X (.Dict [] [] pos) tDNewK := .mk pe_dnewK
theorem qe_dget (hu : X.A.units + 1 < cLine) (ho : QE X o to) (hi : QE X i ti) (hs : NoSl i) : QE X (.Subscript o i pos) (tDGet to ti) := .mk (pe_dget hu ho.to hi.to hs)
theorem qe_din (hu : X.A.units + 1 < cLine) (hi : QE X i ti) (ho : QE X o to) (h1 : behindInMarks .In o = false := by rfl) : QE X (.Compare i [.In] [o] pos) (tDIn ti to) := .mk (pe_cmp (pc_din hu hi.to ho.to) h1)
theorem qt_din (hu : X.A.units + 1 < cLine) (hi : QE X i ti) (ho : QE X o to) (h1 : behindInMarks .In o = false := by rfl) : QT X (.Compare i [.In] [o] pos) (tB (tDIn ti to)) := .mk (pt_cmp (pc_din hu hi.to ho.to) h1)
theorem qt_dnotin (hu : X.A.units + 1 < cLine) (hi : QE X i ti) (ho : QE X o to) (h1 : behindInMarks .NotIn o = false := by rfl) : QT X (.Compare i [.NotIn] [o] pos) (tB (tDNotIn ti to)) := .mk (pt_cmp (pc_dnotin hu hi.to ho.to) h1)
theorem qs_dput {value : Expr} {tv : TE} (hu : X.A.units + 1 < cLine) (ho : QE X o to) (hi : QE X i ti) (hv : QE X value tv) (hs : swapsWith value (some (.Subscript o i pos')) pos.line X.env = pure false) : QS X (.Assign [.Subscript o i pos'] value pos) (sDPut to ti tv) := .mk (ps_dput hu ho.to hi.to hv.to hs)
theorem qe_dget1 {apos cpos : Pos} (hu : X.A.units + 1 < cLine) (ho : QE X o to) (he : QE X e te) (m : M1 X o "get" apos e cpos) : QE X (.Call (.Attribute o "get" apos) [e] [] cpos) (tDGet1 to te) := .mk (pe_dget1 hu ho.to he.to m)
theorem qe_dpop1 {apos cpos : Pos} (ho : QE X o to) (he : QE X e te) (m : M1 X o "pop" apos e cpos) : QE X (.Call (.Attribute o "pop" apos) [e] [] cpos) (tDPop1 to te) := .mk (pe_dpop1 ho.to he.to m)
theorem qe_thaw (h : QE X e te) : QE X e (tThaw X.H₀ te) := .mk (pe_thaw h.to)
theorem qi_dict {tg : Expr} (h : QE X e te) : QI X tg e (iDict te) := .mk (pi_dict h.to)
theorem qe_and {rest : List Expr} (ha : QE X a ta) (hb : QE X (.BoolOp .And (b :: rest) pos) tb) : QE X (.BoolOp .And (a :: b :: rest) pos) (tAndV ta tb) := .mk (pe_and ha.to hb.to)
theorem qe_or {rest : List Expr} (ha : QE X a ta) (hb : QE X (.BoolOp .Or (b :: rest) pos) tb) : QE X (.BoolOp .Or (a :: b :: rest) pos) (tOrV ta tb) := .mk (pe_or ha.to hb.to)
theorem qe_one {op} (h : QE X a ta) : QE X (.BoolOp op [a] pos) ta := .mk (pe_one h.to)
section
variable {CX : CXT} {k : Nat} {g C : Addr} {mc : Value} {fd : FuncData} {ps : List Str} {sp : Sp} {dvs : List V} {ds : List Value} {E : XK} {m x : Str} {p apos : Pos} {es : List Expr} {t : TA} {pl : Sem Bool}
end
end
end L2
namespace L2
open PySem PySem.W PySem.Spec PySem.Calls PyProof.Rows
end L2
end
section
set_option linter.all false
set_option maxRecDepth 100000
set_option maxHeartbeats 1000000
namespace Hg
section
variable {α : Type} [Inhabited α]
abbrev g (xs : List α) (i : Nat) : α := xs.getD i default
def sw (xs : List α) (i j : Nat) : List α := (xs.set i (g xs j)).set j (g xs i)
structure Od (lt : α → α → Bool) : Prop where
  as : ∀ a b, lt a b = true → lt b a = false
  nt : ∀ a b c, lt a b = false → lt b c = false → lt a c = false
def les (lt : α → α → Bool) (xs : List α) (p : Nat) : Nat := if 2 * p + 2 < xs.length ∧ lt (g xs (2 * p + 2)) (g xs (2 * p + 1)) = true then 2 * p + 2 else 2 * p + 1
def kids (n p : Nat) : Nat := if 2 * p + 2 < n then 2 else if 2 * p + 1 < n then 1 else 0
def dn (lt : α → α → Bool) : Nat → List α → Nat → Nat → List α × Nat
  | 0, xs, _, lk => (xs, lk)
  | f + 1, xs, p, lk => if 2 * p + 1 < xs.length then
      if lt (g xs (les lt xs p)) (g xs p) = true then dn lt f (sw xs p (les lt xs p)) (les lt xs p) (lk + kids xs.length p) else (xs, lk + kids xs.length p)
    else (xs, lk)
def up (lt : α → α → Bool) : Nat → List α → Nat → Nat → List α × Nat
  | 0, xs, _, lk => (xs, lk)
  | f + 1, xs, p, lk => if 0 < p then
      if lt (g xs p) (g xs ((p - 1) / 2)) = true then up lt f (sw xs p ((p - 1) / 2)) ((p - 1) / 2) (lk + 1) else (xs, lk + 1)
    else (xs, lk)
def HF (lt : α → α → Bool) (q : Nat) (xs : List α) : Prop := ∀ k, 0 < k → k < xs.length → q ≤ (k - 1) / 2 → lt (g xs k) (g xs ((k - 1) / 2)) = false
def IsH (lt : α → α → Bool) (xs : List α) : Prop := ∀ k, 0 < k → k < xs.length → lt (g xs k) (g xs ((k - 1) / 2)) = false
def mk (lt : α → α → Bool) : Nat → List α → Nat → List α × Nat
  | 0, xs, lk => (xs, lk)
  | k + 1, xs, lk => mk lt k (dn lt xs.length xs k 0).1 (lk + (dn lt xs.length xs k 0).2)
variable {lt : α → α → Bool} {xs : List α} {f p lk : Nat}
def lgs (n : Nat) : Nat → Nat
  | 0 => 0
  | k + 1 => lgs n k + (n / (k + 1)).log2
def cutf (lt : α → α → Bool) (xs : List α) : List α × Nat :=
  if xs.dropLast = [] then ([], 0) else dn lt xs.dropLast.length (xs.dropLast.set 0 (g xs (xs.length - 1))) 0 0
end
end Hg
end
section
set_option linter.all false
set_option maxRecDepth 100000
set_option maxHeartbeats 1000000
namespace Gm
open Hg
structure En (N : Type) where
 w : Int
 n : N
 s : Int
 deriving DecidableEq
instance {N : Type} [Inhabited N] : Inhabited (En N) := ⟨⟨0, default, 0⟩⟩
section
variable {N : Type} [DecidableEq N] [Inhabited N] (sl : N → N → Bool)
def ltE (a b : En N) : Bool := if a.w = b.w then if a.n = b.n then decide (a.s < b.s) else sl a.n b.n else decide (a.w < b.w)
variable {sl}
end
section
variable {N β γ : Type} [DecidableEq N]
def dget (L : List (N × β)) (n : N) : Option β := (L.find? fun p => decide (p.1 = n)).map (·.2)
def dput (L : List (N × β)) (n : N) (b : β) : List (N × β) := if L.any (fun p => decide (p.1 = n)) then L.map (fun p => if p.1 = n then (p.1, b) else p) else L ++ [(n, b)]
def ddel (L : List (N × β)) (n : N) : List (N × β) := L.filter fun p => decide (p.1 ≠ n)
theorem dget_some {L : List (N × β)} {n : N} {b : β} (h : dget L n = some b) : (n, b) ∈ L := by
 unfold dget at h
 obtain ⟨p, hp, rfl⟩ := Option.map_eq_some_iff.mp h
 have h1 := List.mem_of_find?_eq_some hp
 have h2 := List.find?_some hp
 simp at h2
 subst h2
 exact h1
theorem dget_of {L : List (N × β)} (nd : (L.map (·.1)).Nodup) {n : N} {b : β} (h : (n, b) ∈ L) : dget L n = some b := by
 induction L with
 | nil => cases h
 | cons p r ih =>
  rw [List.map_cons, List.nodup_cons] at nd
  unfold dget
  rw [List.find?_cons]
  by_cases e : p.1 = n
  ·rw [decide_eq_true e]
   rcases List.mem_cons.mp h with rfl | h
   ·rfl
   ·exact absurd (List.mem_map.mpr ⟨_, h, e.symm⟩) nd.1
  ·rw [decide_eq_false e]
   rcases List.mem_cons.mp h with rfl | h
   ·exact absurd rfl e
   ·exact ih nd.2 h
theorem dget_none {L : List (N × β)} {n : N} : dget L n = none ↔ n ∉ L.map (·.1) := by
 unfold dget
 rw [Option.map_eq_none_iff, List.find?_eq_none]
 constructor
 ·intro h z
  obtain ⟨p, hp, e⟩ := List.mem_map.mp z
  have := h p hp
  simp [e] at this
 ·intro h p hp
  simp
  intro e
  exact h (List.mem_map.mpr ⟨p, hp, e⟩)
theorem dput_keys {L : List (N × β)} {n : N} {b : β} : (dput L n b).map (·.1) = if n ∈ L.map (·.1) then L.map (·.1) else L.map (·.1) ++ [n] := by
 unfold dput
 by_cases h : L.any (fun p => decide (p.1 = n)) = true
 ·rw [if_pos h]
  have : n ∈ L.map (·.1) := by
   obtain ⟨p, hp, e⟩ := List.any_eq_true.mp h
   exact List.mem_map.mpr ⟨p, hp, of_decide_eq_true e⟩
  rw [if_pos this, List.map_map]
  apply List.map_congr_left
  intro p _
  show (if p.1 = n then (p.1, b) else p).1 = p.1
  split <;> rfl
 ·rw [if_neg h]
  have : ¬ n ∈ L.map (·.1) := fun z => h (by
   obtain ⟨p, hp, e⟩ := List.mem_map.mp z
   exact List.any_eq_true.mpr ⟨p, hp, decide_eq_true e⟩)
  rw [if_neg this, List.map_append]
  rfl
theorem dput_nd {L : List (N × β)} {n : N} {b : β} (nd : (L.map (·.1)).Nodup) : ((dput L n b).map (·.1)).Nodup := by
 rw [dput_keys]
 split
 ·exact nd
 ·rename_i h
  rw [List.nodup_append]
  refine ⟨nd, List.nodup_cons.mpr ⟨List.not_mem_nil, List.nodup_nil⟩, ?_⟩
  intro a ha c hc
  rw [List.mem_singleton] at hc
  subst hc
  intro z; subst z; exact h ha
theorem dput_mem {L : List (N × β)} {n m : N} {b c : β} (h : (m, c) ∈ dput L n b) : (m = n ∧ c = b) ∨ (m ≠ n ∧ (m, c) ∈ L) := by
 unfold dput at h
 split at h
 ·obtain ⟨p, hp, e⟩ := List.mem_map.mp h
  split at e
  ·rename_i q
   cases e
   exact .inl ⟨q, rfl⟩
  ·rename_i q
   subst e
   exact .inr ⟨q, hp⟩
 ·rename_i hn
  rcases List.mem_append.mp h with h | h
  ·refine .inr ⟨fun z => hn (List.any_eq_true.mpr ⟨_, h, decide_eq_true z⟩), h⟩
  ·rw [List.mem_singleton] at h
   cases h
   exact .inl ⟨rfl, rfl⟩
theorem dput_in {L : List (N × β)} {n m : N} {b c : β} (h : (m, c) ∈ L) (hm : m ≠ n) : (m, c) ∈ dput L n b := by
 unfold dput
 split
 ·exact List.mem_map.mpr ⟨_, h, by rw [if_neg hm]⟩
 ·exact List.mem_append.mpr (.inl h)
theorem dput_self {L : List (N × β)} {n : N} {b : β} : (n, b) ∈ dput L n b := by
 unfold dput
 split
 ·rename_i h
  obtain ⟨p, hp, e⟩ := List.any_eq_true.mp h
  have e := of_decide_eq_true e
  exact List.mem_map.mpr ⟨p, hp, by rw [if_pos e, e]⟩
 ·exact List.mem_append.mpr (.inr (List.mem_singleton.mpr rfl))
theorem ddel_nd {L : List (N × β)} {n : N} (nd : (L.map (·.1)).Nodup) : ((ddel L n).map (·.1)).Nodup :=
 (List.Sublist.map _ List.filter_sublist).nodup nd
theorem dput_len {L : List (N × β)} {n : N} {b : β} : (dput L n b).length ≤ L.length + 1 := by
 unfold dput
 split
 ·rw [List.length_map]; lia
 ·rw [List.length_append]; exact Nat.le_refl _
theorem ddel_len {L : List (N × β)} {n : N} : (ddel L n).length ≤ L.length := List.length_filter_le _ _
end
structure LS (N : Type) where
 slack : Int
 there : List (N × En N)
 stamp : Nat
 row : List (En N)
 looks : Nat
section
variable {N : Type} [DecidableEq N] [Inhabited N] (sl : N → N → Bool)
def holds (T : List (N × En N)) (e : En N) : Bool := decide (dget T e.n = some e)
def cut (s : LS N) : LS N := { s with row := (cutf (ltE sl) s.row).1, looks := s.looks + (cutf (ltE sl) s.row).2 }
def clean : Nat → LS N → LS N
 | 0, s => s
 | f + 1, s => if holds s.there (g s.row 0) then s else clean f (cut sl s)
def leastL (s : LS N) : LS N := clean sl s.row.length s
variable {sl}
end
end Gm
end
section
set_option linter.all false
set_option maxRecDepth 100000
set_option maxHeartbeats 1000000
namespace L2
open PySem
instance : Inhabited Str := ⟨""⟩
abbrev En := Gm.En Str
abbrev LS := Gm.LS Str
section
variable {H H' : Hp} {xs ys : List V} {es fs : List En}
end
section
variable {H : Hp} {xs : List V}
end
section
variable {F G : List Addr} {H H1 H2 : Hp}
end
section
variable {H H' : Hp} {ks : List (Key × V)} {T : List (Str × En)}
theorem inr_ne {a b : Str} (h : ¬ a = b) : ¬ (Sum.inr a : Key) = Sum.inr b := fun z => h (Sum.inr.inj z)
end
end L2
end
section
set_option linter.all false
set_option maxRecDepth 100000
set_option maxHeartbeats 1000000
namespace L2
open PySem
inductive Deed where
  | put (n : Str) (w : Int) | drop (n : Str) | change (n : Str) (w : Int) | take | least
def Deed.v : Deed → List V
  | .put n w => [.str "put", .str n, .int w]
  | .drop n => [.str "drop", .str n]
  | .change n w => [.str "change", .str n, .int w]
  | .take => [.str "take"]
  | .least => [.str "least"]
def Deed.ok : Deed → Prop
  | .put n _ => n.length ≤ 10
  | .drop n => n.length ≤ 10
  | .change n _ => n.length ≤ 10
  | _ => True
def hd (s : LS) : En := Hg.g (Gm.leastL slt s).row 0
abbrev Tb := List (Str × Int)
end L2
end
section
set_option linter.all false
set_option maxRecDepth 100000
set_option maxHeartbeats 4000000
namespace L2
open PySem PySem.Spec PyProof.Rows
end L2
namespace L2
open PySem PySem.Spec PyProof.Rows
section
variable {P : Program} {w : World} {K : PySem.W.Frag} {mg : Str → Option Value} {base : Heap}
theorem Fun.okQ {x qual : Str} {st : Stmt} {f : Addr} {fd : FuncData} {N ps : List Str} {k : Nat} {sp : Sp} (F : Fun K x qual st f fd) (S : FnScope N ps (defScope st)) (len : ∀ vs H Q E, sp vs H Q E → vs.length = ps.length)
  (hbody : ∀ (cdv : Value) (A : Around) (outer : List Env) (s : Shared) (H : Hp) (vs : List V) (Q : VK) (E : XK), Room k (A.deeper (envOfC qual (defScope st) s.heap.objs.size f cdv)) → sp vs H Q E →
   ∃ t, QSs (cxOf CX0 P w K mg base N qual (defScope st) f cdv A outer s H E).nox (defBody st) t ∧ t { nx := fun _ H' => Q .non H', rt := Q } (start N vs) H) : FnOk P w K mg base CX0 (k + 1) f fd ps sp :=
 F.ok S len fun cdv A outer s H vs Q E hr h => let ⟨t, a, b⟩ := hbody cdv A outer s H vs Q E hr h; ⟨t, a.to, b⟩
end
def kvW (t : Tb) : List (Key × V) := t.map fun p => (Sum.inr p.1, V.int p.2)
theorem kvW_get {t : Tb} {n : Str} : valV (kvW t) (Sum.inr n) = (Gm.dget t n).map V.int := by
 unfold valV kvW Gm.dget
 rw [List.find?_map, Option.map_map, Option.map_map]
 have : ((fun kv : Key × V => decide (kv.1 = Sum.inr n)) ∘ fun p : Str × Int => (Sum.inr p.1, V.int p.2)) = fun p => decide (p.1 = n) := by
  funext p
  show decide ((Sum.inr p.1 : Key) = Sum.inr n) = _
  by_cases z : p.1 = n
  ·rw [decide_eq_true z, decide_eq_true (by rw [z])]
  ·rw [decide_eq_false z, decide_eq_false (inr_ne z)]
 rw [this]
 rfl
theorem kvW_put {t : Tb} {n : Str} {w : Int} : putK (kvW t) (Sum.inr n) (.int w) = kvW (Gm.dput t n w) := by
 unfold putK Gm.dput kvW
 have ha : (List.any (t.map fun p : Str × Int => ((Sum.inr p.1 : Key), V.int p.2)) fun kv => decide (kv.1 = Sum.inr n)) = t.any fun p => decide (p.1 = n) := by
  rw [List.any_map]
  congr 1
  funext p
  show decide ((Sum.inr p.1 : Key) = Sum.inr n) = _
  by_cases z : p.1 = n
  ·rw [decide_eq_true z, decide_eq_true (by rw [z])]
  ·rw [decide_eq_false z, decide_eq_false (inr_ne z)]
 rw [ha]
 split
 ·rw [List.map_map, List.map_map]
  apply List.map_congr_left
  intro p _
  show (if (Sum.inr p.1 : Key) = Sum.inr n then (Sum.inr p.1, V.int w) else (Sum.inr p.1, V.int p.2)) = (Sum.inr (if p.1 = n then (p.1, w) else p).1, V.int (if p.1 = n then (p.1, w) else p).2)
  by_cases z : p.1 = n
  ·rw [if_pos z, if_pos (by rw [z])]
  ·rw [if_neg z, if_neg (inr_ne z)]
 ·rw [List.map_append]; rfl
theorem kvW_del {t : Tb} {n : Str} : dropK (kvW t) (Sum.inr n) = kvW (Gm.ddel t n) := by
 unfold dropK Gm.ddel kvW
 rw [List.filter_map]
 congr 1
 apply List.filter_congr
 intro p _
 show decide ((Sum.inr p.1 : Key) ≠ Sum.inr n) = decide (p.1 ≠ n)
 by_cases z : p.1 = n
 ·rw [decide_eq_false (by simp [z]), decide_eq_false (by simp [z])]
 ·rw [decide_eq_true (inr_ne z), decide_eq_true z]
theorem kvW_len {t : Tb} : (kvW t).length = t.length := List.length_map ..
theorem kvW_keys {t : Tb} : (kvW t).map (·.1) = (t.map (·.1)).map Sum.inr := by unfold kvW; rw [List.map_map, List.map_map]; rfl
end L2
namespace L2
open PySem PySem.Spec PyProof.Rows
theorem comp_dictR {d : Addr} {o : Obj} {kvs : List (Key × V)} {tt : TT} {te : TE} {cap : List Nat} {σ : St} {H : Hp} {D : Addr} {R : Hp → Prop} (Pv : Nat → List V → Hp → Prop) (h0 : Pv 0 [] (upd H D (.lst []))) (hD : ∀ i ys H, Pv i ys H → H D = some (.lst ys) ∧ H d = some (.frz o (.dK kvs)))
  (hs : ∀ i k v ys H, kvs[i]? = some (k, v) → Pv i ys H → tt (some (kV k) :: capσ cap σ) H fun b H3 =>
   if b = true then te (some (kV k) :: capσ cap σ) H3 fun v H4 => H4 D = some (.lst ys) ∧ ys.length < sizeLine ∧ ∃ m', m' < kvs.length - i ∧ m' = kvs.length - (i + 1) ∧ i + 1 ≤ kvs.length ∧ Pv (i + 1) (ys ++ [v]) (upd H4 D (.lst (ys ++ [v])))
   else ∃ m', m' < kvs.length - i ∧ m' = kvs.length - (i + 1) ∧ i + 1 ≤ kvs.length ∧ Pv (i + 1) ys H3)
  (hd : ∀ ys H, Pv kvs.length ys H → R H) :
  ∃ W : Nat → Nat → List V → Hp → Prop, (∃ m, W 0 m [] (upd H D (.lst []))) ∧ ∀ i m ys H, W i m ys H → H D = some (.lst ys) ∧
   (((Itk d o kvs).stop i H ∧ R H) ∨ ((Itk d o kvs).go i H ∧ ∀ x H', (Itk d o kvs).yld i H x H' → tt (some x :: capσ cap σ) H' fun b H3 =>
    if b = true then te (some x :: capσ cap σ) H3 fun v H4 => H4 D = some (.lst ys) ∧ ys.length < sizeLine ∧ ∃ m', m' < m ∧ W (i + 1) m' (ys ++ [v]) (upd H4 D (.lst (ys ++ [v])))
    else ∃ m', m' < m ∧ W (i + 1) m' ys H3)) := comp_dict (Q := fun _ H => R H) Pv h0 hD hs hd
end L2
namespace L2
open PySem PySem.Spec PyProof.Rows
end L2
namespace L2
open PySem PySem.Spec PyProof.Rows
def NR (H : Hp) (zs : List V) (L : List (Str × Int)) : Prop := Paired (fun (z : V) (nw : Str × Int) => ∃ a, z = .ref a ∧ H a = some (.tup [.str nw.1, .int nw.2])) zs L
theorem NR.stay {H H' : Hp} {zs : List V} {L : List (Str × Int)} (r : NR H zs L) (k : ∀ b l, H b = some (.tup l) → H' b = some (.tup l)) : NR H' zs L := Paired.mapP r fun p q ⟨a, b, c⟩ => ⟨a, b, k _ _ c⟩
end L2
namespace L2
open PySem PySem.Spec PyProof.Rows
section
variable {X : Cx}
def tIfJ (c : TT) (t u : TS) : TS := fun D σ H => ∃ J : St → Hp → Prop, (c σ H fun b H1 => if b = true then t { D with nx := J } σ H1 else u { D with nx := J } σ H1) ∧ ∀ σ' H', J σ' H' → D.nx σ' H'
theorem ps_ifJ {c : Expr} {a b : List Stmt} {tc : TT} {t u : TS} {pos : Pos} (hc : PT X c tc) (ha : PSs X a t) (hb : PSs X b u) : PS X (.If c a b pos) (tIfJ tc t u) := by
 intro pins s σ H D I ⟨J, h, j⟩
 refine thn (ps_if hc ha hb pins s σ H { D with nx := J } I h) fun f s' q => ?_
 cases f with
 | next => obtain ⟨σ', H', I', z⟩ := q; exact ⟨σ', H', I', j _ _ z⟩
 | ret v => exact q
 | brk => exact q
 | cont => exact q
theorem qs_ifJ {c : Expr} {a b : List Stmt} {tc : TT} {t u : TS} {pos : Pos} (hc : QT X c tc) (ha : QSs X a t) (hb : QSs X b u) : QS X (.If c a b pos) (tIfJ tc t u) := .mk (ps_ifJ hc.to ha.to hb.to)
end
end L2
end
section
set_option linter.all false
set_option maxRecDepth 100000
set_option maxHeartbeats 1000000
namespace TS
open PySem PyProof.Rows
section
variable {prog : Program} {w : World} {A : Around} {E : Value → Shared → Prop}
variable {s : Shared}
end
end TS
namespace L2
open PySem PyProof.Rows
section
variable {X : Cx} {pos : Pos}
end
end L2
end
section
set_option linter.all false
set_option maxRecDepth 100000
set_option maxHeartbeats 1000000
namespace L2
open PySem PySem.Spec PyProof.Rows
section
variable {prog : Program} {w : World} {A : Around} {E : Value → Shared → Prop} {s : Shared}
end
end L2
namespace L2
open PySem PySem.W PyProof.Rows
section
variable {X : Cx} {o : Expr} {to : TE} {pos p2 : Pos}
end
end L2
end
section
set_option linter.all false
set_option maxRecDepth 100000
set_option maxHeartbeats 4000000
namespace L2
open PySem PySem.W PySem.Spec PyProof.Rows
section
variable {X : Cx}
theorem call_listD (hc : X.calm = true) : CallR X (.type "list") (fun zs H Q => ∃ (d : Addr) (kvs : List (Key × V)) (ks : List Str), zs = [.ref d] ∧ H d = some (.dK kvs) ∧ kvs.map (·.1) = ks.map Sum.inr ∧
    ∀ l, H l = none → Q (.ref l) (upd H l (.lst (ks.map V.str)))) := by
  intro pins s σ H zs us Q I r h
  obtain ⟨d, kvs, ks, rfl, hd, hks, q⟩ := h
  obtain ⟨u, rfl, ru⟩ := vals1 r
  cases ru
  obtain ⟨hz, nsm, vs, rel, dd⟩ := dk_of I.hok hd
  obtain ⟨ep, da⟩ := dd.dictAt
  have ek : vs.map (·.1) = ks.map Sum.inr := by rw [← rel.keys]; exact hks
  have lks : vs.length = ks.length := by have := congrArg List.length ek; rw [List.length_map, List.length_map] at this; exact this
  refine kdl_call (kdl_dict (kvs := vs) (ep := ep) nsm) (I.ok.hd hc) da (by rw [← rel.length]; exact hz) fun h' tk acc' c' kp e it => ?_
  refine ⟨.ref s.heap.objs.size, _, I.laid (o := .lst (ks.map V.str)) kp (Nat.le_refl _) ?_, rfl, q _ (I.hok.fresh (Nat.le_refl _))⟩
  refine ⟨by rw [List.length_map, ← lks, ← rel.length]; exact hz, acc'.toList, c', vals_of _ _ _ ?_ fun j v ej => ?_, by simpa using e⟩
  · have := it.1
    rw [Array.length_toList, this, lks]
  · obtain ⟨k, x, e1, e2⟩ := it.2 j v (by simpa using ej)
    have e3 : (vs.map (·.1))[j]? = some k := by rw [List.getElem?_map, e1]; rfl
    rw [ek, List.getElem?_map] at e3
    cases e4 : ks[j]? with
    | none => rw [e4] at e3; cases e3
    | some y =>
      rw [e4] at e3
      cases e3
      have e2' : keyIs (Sum.inr y) v = true := e2
      rcases keyIs_shape e2' with ⟨_, _, z, _⟩ | ⟨y', t, z, e5⟩
      · cases z
      · cases z
        exact ⟨y, rfl, t, e5⟩
end
end L2
end
section
set_option linter.all false
set_option maxRecDepth 100000
set_option maxHeartbeats 1000000
namespace TS
open PySem PyProof.Rows PySem.W
section
variable {prog : Program} {w : World} {A : Around} {E : Value → Shared → Prop} {s : Shared}
end
end TS
namespace L2
open PySem PySem.W PySem.Spec PySem.Calls PyProof.Rows
section
variable {X : Cx}
def iSeq (K : PySem.W.Frag) (tl : TE) : TI := fun σ H R => tl σ H fun x H1 => ∃ a, x = .ref a ∧ (((∃ xs, SqL K H1 a xs) ∧ R (Itl K a) H1) ∨ ((∃ xs, SqT K H1 a xs) ∧ R (Itt K a) H1))
theorem pi_seq {tg l : Expr} {tl : TE} (hl : PE X l tl) : PI X tg l (iSeq X.K tl) := by
  intro pins s σ H R I h
  refine thn (hl pins s σ H _ I h) fun v s1 ⟨x, H1, I1, r1, q1⟩ => ?_
  obtain ⟨a, e, q1⟩ := q1
  subst e
  cases r1
  rcases q1 with ⟨⟨xs, hq⟩, q⟩ | ⟨⟨xs, hq⟩, q⟩
  · obtain ⟨its, rv, p, hz⟩ := I1.list hq
    refine wpAny_pyIter_list p.isList ?_
    refine ⟨s1.heap.objs.size, [s1.heap.objs.size], _, _, H1, rfl, I1.kept (t' := s1.toks) fun b o e => Heap.get?_push_of_some _ e, turn_list a _, ⟨_, Heap.get?_push_size _ rfl, rfl, rfl⟩, fun b hb => ?_, q⟩
    have e : b = s1.heap.objs.size := by simpa using hb
    subst e
    exact I1.fpOk (Nat.le_refl _) (I1.hok.fresh (Nat.le_refl _))
  · obtain ⟨its, rv, p, hz⟩ := I1.tuple hq
    refine wpAny_pyIter_tuple (show s1.heap.IsTuple a its.toArray from p) ?_
    refine ⟨s1.heap.objs.size, [s1.heap.objs.size], _, _, H1, rfl, I1.kept (t' := s1.toks) fun b o e => Heap.get?_push_of_some _ e, turn_tuple a _, ⟨_, Heap.get?_push_size _ rfl, rfl, rfl⟩, fun b hb => ?_, q⟩
    have e : b = s1.heap.objs.size := by simpa using hb
    subst e
    exact I1.fpOk (Nat.le_refl _) (I1.hok.fresh (Nat.le_refl _))
theorem qi_seq {tg e : Expr} {te : TE} (h : QE X e te) : QI X tg e (iSeq X.K te) := .mk (pi_seq h.to)
end
theorem comp_tupR {K : PySem.W.Frag} {a : Addr} {xs : List V} {tt : TT} {te : TE} {cap : List Nat} {σ : St} {H : Hp} {D : Addr} {R : Hp → Prop} (Pv : Nat → List V → Hp → Prop) (h0 : Pv 0 [] (upd H D (.lst []))) (hD : ∀ i ys H, Pv i ys H → H D = some (.lst ys) ∧ SqT K H a xs)
    (hs : ∀ i x ys H, xs[i]? = some x → Pv i ys H → tt (some x :: capσ cap σ) H fun b H3 =>
      if b = true then te (some x :: capσ cap σ) H3 fun v H4 => H4 D = some (.lst ys) ∧ ys.length < sizeLine ∧ ∃ m', m' < xs.length - i ∧ m' = xs.length - (i + 1) ∧ i + 1 ≤ xs.length ∧ Pv (i + 1) (ys ++ [v]) (upd H4 D (.lst (ys ++ [v])))
      else ∃ m', m' < xs.length - i ∧ m' = xs.length - (i + 1) ∧ i + 1 ≤ xs.length ∧ Pv (i + 1) ys H3)
    (hd : ∀ ys H, Pv xs.length ys H → R H) :
    ∃ W : Nat → Nat → List V → Hp → Prop, (∃ m, W 0 m [] (upd H D (.lst []))) ∧ ∀ i m ys H, W i m ys H → H D = some (.lst ys) ∧
    (((Itt K a).stop i H ∧ R H) ∨ ((Itt K a).go i H ∧ ∀ x H', (Itt K a).yld i H x H' → tt (some x :: capσ cap σ) H' fun b H3 =>
      if b = true then te (some x :: capσ cap σ) H3 fun v H4 => H4 D = some (.lst ys) ∧ ys.length < sizeLine ∧ ∃ m', m' < m ∧ W (i + 1) m' (ys ++ [v]) (upd H4 D (.lst (ys ++ [v])))
      else ∃ m', m' < m ∧ W (i + 1) m' ys H3)) := by
  refine ⟨fun i m ys H => m = xs.length - i ∧ i ≤ xs.length ∧ Pv i ys H, ⟨xs.length, by simp, Nat.zero_le _, h0⟩, ?_⟩
  rintro i m ys H ⟨rfl, hi, p⟩
  obtain ⟨q1, q⟩ := hD i ys H p
  refine ⟨q1, ?_⟩
  by_cases hlt : i < xs.length
  · refine .inr ⟨⟨xs, xs[i], q, by simp [hlt]⟩, fun x H' y => ?_⟩
    obtain ⟨e, y⟩ := y
    subst e
    exact hs i x ys _ (y xs q) p
  · have e : i = xs.length := by lia
    subst e
    exact .inl ⟨⟨xs, q, Nat.le_refl _⟩, hd ys H p⟩
end L2
namespace L2
open PySem PySem.Spec PyProof.Rows
section
variable {X : Cx} {tg : Expr}
end
end L2
namespace L2
open PySem PySem.Spec PyProof.Rows
section
variable {X : Cx} {K : PySem.W.Frag}
end
end L2
namespace L2
open PySem PySem.Spec PyProof.Rows
end L2
end
section
set_option linter.all false
set_option maxRecDepth 100000
set_option maxHeartbeats 1000000
namespace Gm
open Hg
section
variable {N : Type} [DecidableEq N] [Inhabited N] {sl : N → N → Bool}
end
end Gm
end
section
set_option linter.all false
set_option maxRecDepth 100000
set_option maxHeartbeats 1000000
namespace Gm
open Hg
section
variable {N : Type} [DecidableEq N] [Inhabited N] {sl : N → N → Bool}
end
section
variable {N : Type} [DecidableEq N] {β : Type}
end
end Gm
namespace L2
open PySem
end L2
namespace L2
open PySem
end L2
end
section
set_option linter.all false
set_option maxRecDepth 100000
set_option maxHeartbeats 1000000
namespace L2
open PySem
section
variable {t : Tb} {ns : List Int} {lo hi : Nat}
end
end L2
end
section
set_option linter.all false
set_option maxRecDepth 100000
set_option maxHeartbeats 1000000
namespace L2
open PySem PyProof.Rows
section
variable {X : Cx}
end
end L2
end
section
set_option linter.all false
set_option maxRecDepth 100000
set_option maxHeartbeats 4000000
namespace L2
open PySem PySem.Spec PyProof.Rows
end L2
namespace L2
open PySem
end L2
end
section
set_option linter.all false
set_option maxRecDepth 100000
set_option maxHeartbeats 1000000
namespace L2
open PySem
section
variable {H H' : Hp} {ks : List (Key × V)} {T : List (Str × En)}
end
end L2
namespace L2
open PySem PySem.W PySem.Spec PySem.Calls PyProof.Rows
end L2
namespace Gm
open Hg
section
variable {N : Type} [DecidableEq N] [Inhabited N] {sl : N → N → Bool}
end
end Gm
end
section
set_option linter.all false
set_option maxRecDepth 100000
set_option maxHeartbeats 4000000
namespace PySem
namespace F
theorem entry_dict_update_loop : entryFor table "dict.update.loop" = some Builtin.«dict.update.loop» := entryFor_of_tree (by kernel_rfl)
theorem plain_dict_update_loop : plainId "dict.update.loop" = true := by decide +kernel
end F
section
variable {prog : Program} {w : World} {A : Around} {E : Value → Shared → Prop} {s : Shared}
end
end PySem
namespace PySem
section
variable {prog : Program} {w : World} {K : Type} [DecidableEq K] {knd : KeyKind prog w K} {A : Around} {R : Result → Shared → Prop} {I ax d : Addr} {items : Array Value} {kvs : List (K × Value)}
theorem stored_new (l : List (K × Value)) (k : K) (v : Value) (h : k ∉ l.map (·.1)) : stored l k v = l ++ [(k, v)] := by
  unfold stored
  rw [if_neg]
  rw [List.any_eq_true]
  rintro ⟨kv, hkv, he⟩
  exact h (List.mem_map.mpr ⟨kv, hkv, of_decide_eq_true he⟩)
def PairsIn (knd : KeyKind prog w K) (I d : Addr) (items : Array Value) (kvs : List (K × Value)) (h : Heap) : Prop :=
  ∀ (i : Nat) (kv : K × Value), kvs[i]? = some kv → ∃ (b : Addr) (key : Value), items[i]? = some (.ref b) ∧ b ≠ d ∧ b ≠ I ∧ h.IsTuple b #[key, kv.2] ∧ knd.is kv.1 key = true
end
end PySem
namespace PySem
section
variable {prog : Program} {w : World} {K : Type} [DecidableEq K] {knd : KeyKind prog w K} {A : Around} {E : Value → Shared → Prop} {s : Shared}
end
end PySem
namespace L2
open PySem PySem.W PySem.Spec PySem.Calls PyProof.Rows
section
variable {X : Cx} {pins : List (Addr × Obj)} {σ : St} {H : Hp} {s : Shared} {d : Addr}
def PKV (H : Hp) (zs : List V) (kvs : List (Key × V)) : Prop := Paired (fun (z : V) (kv : Key × V) => ∃ a, z = .ref a ∧ H a = some (.tup [kV kv.1, kv.2])) zs kvs
theorem PKV.vals {P : Program} {w : World} {h : Heap} (hok : HOk P w H h) {zs : List V} {kvs : List (Key × V)} (r : PKV H zs kvs) {its : List Value} (rv : Vals zs its) :
    ∃ vs : List (Key × Value), KV kvs vs ∧ ∀ (i : Nat) (kv : Key × Value), vs[i]? = some kv → ∃ (b : Addr) (key : Value), its[i]? = some (.ref b) ∧ h.IsTuple b #[key, kv.2] ∧ (mixKind P w).is kv.1 key = true := by
  induction r generalizing its with
  | nil => exact ⟨[], .nil, fun i kv e => by cases i <;> cases e⟩
  | @cons z kv zs kvs h1 _ ih =>
    obtain ⟨a, rfl, ha⟩ := h1
    cases rv with
    | @cons _ u _ us ru rus =>
      obtain ⟨vs, r1, r2⟩ := ih rus
      cases (show u = Value.ref a from ru)
      obtain ⟨_, jts, r3, r4⟩ := (show _ ∧ _ from hok a _ ha)
      obtain ⟨key, v, rfl, rk, rvv⟩ := vals2 r3
      refine ⟨(kv.1, v) :: vs, .cons ⟨rfl, rvv⟩ r1, fun i p e => ?_⟩
      cases i with
      | zero =>
        cases e
        exact ⟨a, key, rfl, r4, kV_is rk⟩
      | succ i => exact r2 i p e
end
end L2
end
section
set_option linter.all false
set_option maxRecDepth 100000
set_option maxHeartbeats 4000000
namespace L2
open PySem PySem.Spec PyProof.Rows
structure Blk3 (X : Cx) (scope : Scope) (cl : List (Str × Addr)) (x x2 x3 : Str) (NB : List Str) (cap : List Nat) : Prop where
  clos : closureFor scope X.env = pure cl
  nocell : ∀ y ∈ scope.names, y.2 ≠ .cell
  kind : scope.kind = .function
  names : ∀ y ∈ scope.names, y.2 = .local → scope.names.lookup y.1 = some .local
  cells : ∀ y c, cl.lookup y = some c → X.env.cells.lookup y = some c
  has : ∀ y, ((relabel scope X.env).names.lookup y = some .cell ∨ (relabel scope X.env).names.lookup y = some .free) → ∃ c, cl.lookup y = some c
  len : cap.length = NB.length
  /-- the slot j + 1 of the block is the slot i of X, by a cell -/
  cap : ∀ (j i : Nat), cap[j]? = some i → ∃ y, NB[j]? = some y ∧ X.N[i]? = some y ∧ Vis X.env.scope y ∧ (X.env.kindOf y = some .cell ∨ X.env.kindOf y = some .free) ∧ ((relabel scope X.env).names.lookup y = some .cell ∨ (relabel scope X.env).names.lookup y = some .free)
  own : scope.names.lookup x = some .local
  own2 : scope.names.lookup x2 = some .local
  own3 : scope.names.lookup x3 = some .local
  nd : (x :: x2 :: x3 :: NB).Nodup
def tComp3 (K : PySem.W.Frag) (wi : TI) (tt : TT) (te : TE) (cap : List Nat) : TE := fun σ H Q => wi σ H fun J H1 => ∀ D, H1 D = none →
  ∃ W : Nat → Nat → List V → Hp → Prop, (∃ m, W 0 m [] (upd H1 D (.lst []))) ∧ ∀ i m ys H, W i m ys H → H D = some (.lst ys) ∧
    ((J.stop i H ∧ Q (.ref D) H) ∨ (J.go i H ∧ ∀ x H', J.yld i H x H' → ∃ a v1 v2 v3, x = .ref a ∧ SqT K H' a [v1, v2, v3] ∧ tt (some v1 :: some v2 :: some v3 :: capσ cap σ) H' fun b H3 =>
      if b = true then te (some v1 :: some v2 :: some v3 :: capσ cap σ) H3 fun v H4 => H4 D = some (.lst ys) ∧ ys.length < sizeLine ∧ ∃ m', m' < m ∧ W (i + 1) m' (ys ++ [v]) (upd H4 D (.lst (ys ++ [v])))
      else ∃ m', m' < m ∧ W (i + 1) m' ys H3))
theorem comp_core3 {X : Cx} {elt iter : Expr} {x x2 x3 : Str} {px px2 px3 pt pos pos' : Pos} {kt : Nat} {ifs : List Expr} {scope : Scope} {cl : List (Str × Addr)} {NB : List Str} {cap : List Nat} {wi : TI} {tt : TT} {te : TE}
    {pins : List (Addr × Obj)} {s : Shared} {σ : St} {H : Hp} {Q : VK} {use : Option (Value → Sem Unit)} {R : Value → Shared → Prop}
    (B : Blk3 X scope cl x x2 x3 NB cap) (hc : X.calm = true) (hex : X.ex = []) (hi : PI X (.Tuple [.Name x px, .Name x2 px2, .Name x3 px3] kt pt) iter wi)
    (ht : ∀ C fp s₀ H₀, PTs (X.blk scope cl C (x :: x2 :: x3 :: NB) fp s₀ H₀) ifs tt) (he : ∀ C fp s₀ H₀, PE (X.blk scope cl C (x :: x2 :: x3 :: NB) fp s₀ H₀) elt te)
    (hs : ∀ v, foldedSetIterable iter X.env v = pure v) (I : Inv X pins σ H s) (h : tComp3 X.K wi tt te cap σ H Q)
    (fin : ∀ (D C : Addr) (H' : Hp) (s' : Shared), Inv X pins σ H' s' → Gone X pins H' C s' → Q (.ref D) H' → compPost (model X.prog X.w) X.A X.xe use R (.ref D) C (.ok .next) s') :
    wpAny (model X.prog X.w) X.A (comprehension (.ListComp elt [⟨(.Tuple [.Name x px, .Name x2 px2, .Name x3 px3] kt pt), iter, ifs, 0⟩] scope pos) scope X.env pos' (newList []) false (eval iter X.env) use) R X.xe s := by
  refine wpAny_comprehension_free (use := use) rfl hs B.clos B.kind B.names (thn (hi pins s σ H _ I h) fun v s1 h1 => thn h1 fun itv s2 h2 => ?_)
  obtain ⟨it, fp, tn, J, H2, e, I2, T, st2, f2, h2⟩ := h2
  subst e
  refine wpAny_newObj_type (wpAny_newFunctionEnv B.nocell (by intro y hy; simp at hy) (fun h₁ hns₁ hsb₁ => ?_) B.kind)
  dsimp only at hns₁ hsb₁ ⊢
  have I3 := I2.lnew (ys := []) (its := []) (t' := s2.toks) .nil (Nat.zero_le _)
  have hD := I2.fresh
  obtain ⟨W, ⟨m0, w0⟩, turn⟩ := h2 _ hD
  generalize eD : s2.heap.objs.size = D at hD I3 W w0 turn ⊢
  generalize eH2 : s2.heap.push { cls := .type "list", dict := none, data := .seq ([] : List Value).toArray } = G3 at hns₁ hsb₁ I3 ⊢
  generalize eH3 : upd H2 D (.lst []) = H3 at I3 w0
  have hC : G3.objs.size = D + 1 := by rw [← eH2, Heap.size_push, eD]
  generalize eC : G3.objs.size = C at hns₁ hsb₁ hC ⊢
  -- what stood ahead of the block stands in it
  have old : ∀ b o, G3.get? b = some o → h₁.get? b = some o := fun b o e =>
    hsb₁.extBut b o (by rw [← eC]; exact Nat.ne_of_lt (Heap.lt_size e)) (Heap.get?_push_of_some _ e)
  have old2 : ∀ b o, s2.heap.get? b = some o → G3.get? b = some o := fun b o e => by rw [← eH2]; exact Heap.get?_push_of_some _ e
  have fpo : ∀ b ∈ fp, b < D := fun b hb => by
    obtain ⟨o, e, _⟩ := T.obj 0 _ st2 b hb
    rw [← eD]; exact Heap.lt_size e
  have fpx : ∀ b ∈ fp, b ∉ frs X.stack := fun b hb z => by
    obtain ⟨f0, f1, f2', _⟩ := f2 b hb
    rcases List.mem_cons.mp (I2.stkSub b z) with q | q
    · exact f1 q
    · exact f2' q
  let Y : Cx := X.blk scope cl C (x :: x2 :: x3 :: NB) fp { s2 with heap := G3, toks := s2.toks } H3
  have okY : Y.Ok := by
    refine ⟨I3.ok.mod, B.kind, I3.ok.glob, I3.ok.blt, ?_, ?_, B.has, ?_, I3.ok.hd, I3.ok.frames, .inl rfl, ?_, I3.bs, ?_, ?_, ?_, I3.stack, I3.stkFree⟩
    · show G3.objs.size ≤ C
      lia
    · intro y z c e1 e2
      exact I3.ok.inj y z c (B.cells y c e1) (B.cells z c e2)
    · intro y c z
      cases z
    · intro b hb
      have hb' : b ∈ fp := by
        have : b ∈ X.ex ++ fp := hb
        rw [hex] at this; simpa using this
      refine ⟨?_, fun y c e => (f2 b hb').2.2.2.2.1 y c (B.cells y c e)⟩
      show b ≠ C
      exact Nat.ne_of_lt (Nat.lt_of_lt_of_le (fpo b hb') (by rw [hC]; exact Nat.le_succ _))
    · show X.base.objs.size ≤ G3.objs.size
      exact Nat.le_trans I3.ok.bsz I3.sz
    · intro b o e hb
      have hb' : b ∈ fp := by
        have : b ∈ X.ex ++ fp := hb
        rw [hex] at this; simpa using this
      rcases (f2 b hb').2.2.2.1 with z | z
      · rw [hex] at z; cases z
      · exact absurd (Nat.lt_of_lt_of_le (Nat.lt_of_lt_of_le (Heap.lt_size e) I3.ok.bsz) z) (Nat.lt_irrefl _)
    · intro b hb
      have hb' : b ∈ fp := by
        have : b ∈ X.ex ++ fp := hb
        rw [hex] at this; simpa using this
      exact fpx b hb'
  have IY : Inv Y [] (none :: none :: none :: capσ cap σ) H3 { s2 with heap := h₁, toks := s2.toks } := by
    refine ⟨okY, rfl, I3.bare, Un.kept old, ⟨_, hns₁, ?_⟩, ?_, ?_, ?_, ?_, I3.hok.kept old, ?_⟩
    · intro j y v e1 e2 hv
      match j, e1, e2 with
      | 0, e1, e2 => cases e2
      | 1, e1, e2 => cases e2
      | 2, e1, e2 => cases e2
      | j + 3, e1, e2 =>
        have e1' : NB[j]? = some y := e1
        have e2' : (capσ cap σ)[j]? = some (some v) := e2
        unfold capσ at e2'
        rw [List.getElem?_map] at e2'
        cases ec : cap[j]? with
        | none => rw [ec] at e2'; cases e2'
        | some i =>
          rw [ec] at e2'
          have e3 : σ[i]?.join = some v := Option.some.inj e2'
          have e4 : σ[i]? = some (some v) := by
            cases q : σ[i]? with
            | none => rw [q] at e3; cases e3
            | some z => rw [q] at e3; exact congrArg some e3
          obtain ⟨y', n1, n2, n3, n4, n5⟩ := B.cap j i ec
          rw [e1'] at n1
          cases n1
          obtain ⟨m, hn, hl⟩ := I3.loc
          obtain ⟨u, r, lk⟩ := hl i y v n2 e4 n3
          refine ⟨u, r, .inr ⟨n5, ?_⟩⟩
          obtain ⟨c, hcl⟩ := B.has y n5
          refine ⟨c, hcl, ?_⟩
          rcases lk with ⟨k1, _⟩ | ⟨_, c', ec', cell⟩
          · rcases n4 with n4 | n4 <;> (rw [n4] at k1; cases k1)
          · rw [B.cells y c hcl] at ec'
            cases ec'
            obtain ⟨o, ho, hd⟩ := cell
            exact ⟨o, old c o ho, hd⟩
    · intro y c e
      obtain ⟨v, o, ho, hd⟩ := I3.cell y c (B.cells y c e)
      exact ⟨v, o, old c o ho, hd⟩
    · exact I3.hok.fresh (show G3.objs.size ≤ C by lia)
    · intro y c e
      exact I3.freeC y c (B.cells y c e)
    · intro p hp
      cases hp
    · show (none :: none :: none :: capσ cap σ).length = (x :: x2 :: x3 :: NB).length
      rw [List.length_cons, List.length_cons, List.length_cons, List.length_cons, List.length_cons, List.length_cons, ← B.len]
      unfold capσ
      rw [List.length_map]
  have fpY : ∀ {H' : Hp}, (∀ b ∈ fp, H' b = none) → ∀ b ∈ fp, FpOk Y [] H' b := fun {H'} hn b hb => by
    refine ⟨hn b hb, ?_, fpx b hb, .inl ?_, fun y c e => (f2 b hb).2.2.2.2.1 y c (B.cells y c e), fun p hp => by cases hp⟩
    · show b ≠ C
      exact Nat.ne_of_lt (Nat.lt_of_lt_of_le (fpo b hb) (by rw [hC]; exact Nat.le_succ _))
    · show b ∈ X.ex ++ fp
      exact List.mem_append_right _ hb
  have st4 : tn 0 h₁ := T.keep _ _ _ st2 fun b hb o e => old b o (old2 b o e)
  have fr4 : ∀ b ∈ fp, H3 b = none := fun b hb => by
    rw [← eH3, upd_ne (Nat.ne_of_lt (fpo b hb))]; exact (f2 b hb).1
  -- behind the block
  have leave : ∀ (H' : Hp) (s' : Shared), Inv Y [] (none :: none :: none :: capσ cap σ) H' s' → Q (.ref D) H' → compPost (model X.prog X.w) X.A X.xe use R (.ref D) C (.ok .next) s' := by
    intro H' s' I' q
    obtain ⟨m, hn, _⟩ := id I'.loc
    have u := I'.base
    have I5 : Inv X pins σ H' s' := by
      refine I3.call' (s' := s') (ch := X.ex ++ fp) I'.os u I'.hok I'.bare fun b hb => ?_
      have hb' : b ∈ fp := by rw [hex] at hb; simpa using hb
      obtain ⟨f0, f1, f2', f3, f4, f5⟩ := f2 b hb'
      exact ⟨f3, f1, f4, f5⟩
    exact fin D C H' s' I5 ⟨⟨m, hn⟩, I3.fpOk (show G3.objs.size ≤ C by rw [eC]; exact Nat.le_refl _) I'.free⟩ q
  have loop : ∀ s₄ : Shared, s₄ = { s2 with heap := h₁, toks := s2.toks } →
      codeAny (model X.prog X.w) X.A (.compLoop (.ListComp elt [⟨(.Tuple [.Name x px, .Name x2 px2, .Name x3 px3] kt pt), iter, ifs, 0⟩] scope pos) 0 (.ref it) (.ref D) (compEnvC scope cl C X.env)) (compPost (model X.prog X.w) X.A X.xe use R (.ref D) C) s₄ := by
    rintro s₄ rfl
    refine compLoop_own (fun n s' => ∃ i ys H', Inv Y [] (none :: none :: none :: capσ cap σ) H' s' ∧ tn i s'.heap ∧ (∀ b ∈ fp, H' b = none) ∧ W i n ys H') ?_ m0 ⟨0, [], H3, IY, st4, fr4, w0⟩
    rintro n s3 ⟨i, ys, H', I', st', fr', w'⟩
    obtain ⟨hDl, tr⟩ := turn i n ys H' w'
    rcases tr with ⟨stop, q⟩ | ⟨go, step⟩
    · refine thn (T.done Y rfl rfl rfl hc i [] s3 _ H' (fun _ _ => False) I' (fpY fr') st' stop) fun r s4 ⟨hr, I4⟩ => ?_
      subst hr
      exact leave H' s4 I4 q
    · refine thn (T.item Y rfl rfl rfl hc i [] s3 _ H' (fun _ _ => False) I' (fpY fr') st' go) fun r s4 ⟨u, hr, h4⟩ => ?_
      subst hr
      refine thn h4 fun _ s5 ⟨v, H5, I5, r5, y5, st5, fr5⟩ => ?_
      have I5' := I5.pinned (fpY fr5) (T.obj _ _ st5)
      have back : ∀ {v1 v2 v3 : V} {H7 : Hp} {s7 : Shared}, Inv Y ([] ++ pinsAt fp s5.heap) (some v1 :: some v2 :: some v3 :: capσ cap σ) H7 s7 → Inv Y [] (none :: none :: none :: capσ cap σ) H7 s7 ∧ tn (i + 1) s7.heap ∧ ∀ b ∈ fp, H7 b = none := fun {v1 v2 v3 H7 s7} I7 => by
        refine ⟨I7.unpinned.weak (by simp) fun j z e => ?_, T.keep _ _ _ st5 fun b hb o e => (I7.pin (b, o) (List.mem_append_right _ (List.mem_append_right _ (mem_pinsAt hb e)))).1, fun b hb => ?_⟩
        · match j, e with
          | 0, e => cases e
          | 1, e => cases e
          | 2, e => cases e
          | j + 3, e => exact e
        · obtain ⟨o, e, d⟩ := T.obj _ _ st5 b hb
          exact (I7.pin (b, o) (List.mem_append_right _ (List.mem_append_right _ (mem_pinsAt hb e)))).2.1
      obtain ⟨ta, v1, v2, v3, rfl, htup, step⟩ := step v H5 y5
      have hg1 : PG Y (.Name x px) (gName 0) := pg_name (i := 0) B.nd rfl (.inl (lookup_relabel_local B.own)) (.inr (lookup_relabel_local B.own))
      have hg2 : PG Y (.Name x2 px2) (gName 1) := pg_name (i := 1) B.nd rfl (.inl (lookup_relabel_local B.own2)) (.inr (lookup_relabel_local B.own2))
      have hg3 : PG Y (.Name x3 px3) (gName 2) := pg_name (i := 2) B.nd rfl (.inl (lookup_relabel_local B.own3)) (.inr (lookup_relabel_local B.own3))
      have hgN : PG Y (.Tuple [.Name x px, .Name x2 px2, .Name x3 px3] kt pt) (gTup Y.K 3 (gCons (gName 0) (gCons (gName 1) (gCons (gName 2) gNil)))) := pg_tup hc (pgs_cons hg1 (pgs_cons hg2 (pgs_cons hg3 pgs_nil)))
      refine thn (hgN _ s5 _ H5 (.ref ta) u (fun σ6 H6 => σ6 = some v1 :: some v2 :: some v3 :: capσ cap σ ∧ H6 = H5) I5' r5 ⟨ta, [v1, v2, v3], rfl, htup, rfl, v1, [v2, v3], rfl, v2, [v3], rfl, v3, [], rfl, rfl, rfl, rfl⟩) fun _ s6 ⟨σ6, H6, I6, e6, e6'⟩ => ?_
      subst e6 e6'
      refine thn (ht C fp _ _ _ s6 _ H6 _ I6 step) fun ok s7 ⟨H7, I7, q7⟩ => ?_
      cases ok with
      | false =>
        simp only [Bool.false_eq_true, if_false] at q7 ⊢
        obtain ⟨m', hm, w7⟩ := q7
        obtain ⟨a, b, c⟩ := back I7
        exact ⟨m', hm, i + 1, ys, H7, a, b, c, w7⟩
      | true =>
        simp only [if_true] at q7 ⊢
        refine thn (he C fp _ _ _ s7 _ H7 _ I7 q7) fun u8 s8 ⟨v8, H8, I8, r8, q8⟩ => ?_
        obtain ⟨d8, l8, m', hm, w8⟩ := q8
        refine thn (mt_append (X := Y) _ s8 _ H8 (.ref D) [v8] (.ref D) [u8] (fun _ H9 => H9 = upd H8 D (.lst (ys ++ [v8]))) I8 rfl (.cons r8 .nil) ⟨D, ys, v8, rfl, rfl, d8, l8, rfl⟩) fun _ s9 ⟨_, H9, I9, _, e9⟩ => ?_
        subst e9
        obtain ⟨a, b, c⟩ := back I9
        exact ⟨m', hm, i + 1, ys ++ [v8], _, a, b, c, w8⟩
  refine codeAny_compStart_list (loop _ ?_) (T.self _ 0 _ _ _ ?_ (loop _ ?_))
  · rfl
  · exact st4
  · rfl
theorem pe_comp3 {X : Cx} {elt iter : Expr} {x x2 x3 : Str} {px px2 px3 pt pos : Pos} {kt : Nat} {ifs : List Expr} {scope : Scope} {cl : List (Str × Addr)} {NB : List Str} {cap : List Nat} {wi : TI} {tt : TT} {te : TE}
    (B : Blk3 X scope cl x x2 x3 NB cap) (hc : X.calm = true) (hex : X.ex = []) (hi : PI X (.Tuple [.Name x px, .Name x2 px2, .Name x3 px3] kt pt) iter wi)
    (ht : ∀ C fp s₀ H₀, PTs (X.blk scope cl C (x :: x2 :: x3 :: NB) fp s₀ H₀) ifs tt) (he : ∀ C fp s₀ H₀, PE (X.blk scope cl C (x :: x2 :: x3 :: NB) fp s₀ H₀) elt te)
    (hs : ∀ v, foldedSetIterable iter X.env v = pure v := by intro _; rfl) : PE X (.ListComp elt [⟨(.Tuple [.Name x px, .Name x2 px2, .Name x3 px3] kt pt), iter, ifs, 0⟩] scope pos) (tComp3 X.K wi tt te cap) := by
  intro pins s σ H Q I h
  rw [eval_ListComp]
  refine comp_core3 (use := none) (R := EP X pins σ Q) B hc hex hi ht he hs I h fun D C H' s' I' G q => ?_
  obtain ⟨m, hn⟩ := G.ns
  obtain ⟨f0, f1, f2, f3, f4, f5⟩ := G.fp
  refine ⟨m, hn, fun h' hs' => ⟨.ref D, H', ?_, rfl, q⟩⟩
  exact I'.turned (t' := s'.toks) (fun b o hb e => (hs'.2 b hb).trans e) f0 f1 f3 f4 f5
theorem Blk3.of {X : Cx} {scope esc : Scope} {x x2 x3 : Str} {N NB : List Str} {cap : List Nat} (eN : X.N = N) (eS : X.env.scope = esc) (hX : ∀ y, esc.names.lookup y = some .cell → ∃ c, X.env.cells.lookup y = some c)
    (hk : scope.kind = .function) (h1 : ∀ y ∈ scope.names, y.2 ≠ .cell) (h2 : ∀ y ∈ scope.names, y.2 = .local → scope.names.lookup y.1 = some .local) (h3 : ∀ y ∈ scope.names, y.2 = .free → esc.names.lookup y.1 = some .cell)
    (hl : cap.length = NB.length) (h4 : ∀ p ∈ NB.zip cap, N[p.2]? = some p.1 ∧ esc.names.lookup p.1 = some .cell ∧ scope.names.lookup p.1 = some .free) (h5 : scope.names.lookup x = some .local) (h6 : scope.names.lookup x2 = some .local) (h7 : scope.names.lookup x3 = some .local) (nd : (x :: x2 :: x3 :: NB).Nodup) :
    Blk3 X scope (clOf scope X.env) x x2 x3 NB cap := by
  have hfr : ∀ n ∈ freesOf scope.names, ∃ c, X.env.cells.lookup n = some c := fun n hn => hX n (h3 _ (of_frees hn) rfl)
  refine ⟨closure_eq scope X.env hfr, h1, hk, h2, fun y c e => ?_, fun y e => ?_, hl, fun j i e => ?_, h5, h6, h7, nd⟩
  · unfold clOf at e
    obtain ⟨m, q⟩ := lookup_map e
    obtain ⟨c', hc⟩ := hfr y (List.mem_reverse.mp m)
    rw [hc] at q
    rw [hc, q]; rfl
  · have hm : (y, NameKind.free) ∈ scope.names := by
      rcases e with e | e
      · exact relabel_kind e (.inl rfl) h1
      · exact relabel_kind e (.inr rfl) h1
    exact ⟨_, lookup_map_mem (List.mem_reverse.mpr (mem_frees hm))⟩
  · have hj : j < cap.length := (List.getElem?_eq_some_iff.mp e).1
    have hj2 : j < NB.length := by lia
    have ey : NB[j]? = some NB[j] := List.getElem?_eq_getElem hj2
    have ez : (NB.zip cap)[j]? = some (NB[j], i) := by rw [List.getElem?_zip_eq_some]; exact ⟨ey, e⟩
    obtain ⟨a1, a2, a3⟩ := h4 _ (List.mem_of_getElem? ez)
    refine ⟨NB[j], ey, by rw [eN]; exact a1, .inr (.inl (by rw [eS]; exact a2)), .inl (by show X.env.scope.names.lookup _ = _; rw [eS]; exact a2), ?_⟩
    exact relabel_free a3
theorem qe_comp3 {X : Cx} {elt iter : Expr} {x x2 x3 : Str} {px px2 px3 pt pos : Pos} {kt : Nat} {ifs : List Expr} {scope : Scope} {cl : List (Str × Addr)} {NB : List Str} {cap : List Nat} {wi : TI} {tt : TT} {te : TE}
    (B : Blk3 X scope cl x x2 x3 NB cap) (hc : X.calm = true) (hex : X.ex = []) (hi : QI X (.Tuple [.Name x px, .Name x2 px2, .Name x3 px3] kt pt) iter wi)
    (ht : ∀ C fp s₀ H₀, QTs (X.blk scope cl C (x :: x2 :: x3 :: NB) fp s₀ H₀) ifs tt) (he : ∀ C fp s₀ H₀, QE (X.blk scope cl C (x :: x2 :: x3 :: NB) fp s₀ H₀) elt te)
    (hs : ∀ v, foldedSetIterable iter X.env v = pure v := by intro _; rfl) : QE X (.ListComp elt [⟨.Tuple [.Name x px, .Name x2 px2, .Name x3 px3] kt pt, iter, ifs, 0⟩] scope pos) (tComp3 X.K wi tt te cap) :=
  .mk (pe_comp3 B hc hex hi.to (fun C fp s₀ H₀ => (ht C fp s₀ H₀).to) (fun C fp s₀ H₀ => (he C fp s₀ H₀).to) hs)
end L2
namespace L2
open PySem
theorem comp_tup3R {K : PySem.W.Frag} {a : Addr} {xs : List V} {tt : TT} {te : TE} {cap : List Nat} {σ : St} {H : Hp} {D : Addr} {R : Hp → Prop} (Pv : Nat → List V → Hp → Prop) (h0 : Pv 0 [] (upd H D (.lst []))) (hD : ∀ i ys H, Pv i ys H → H D = some (.lst ys) ∧ SqT K H a xs)
    (hs : ∀ i x ys H, xs[i]? = some x → Pv i ys H → ∃ b v1 v2 v3, x = .ref b ∧ SqT K H b [v1, v2, v3] ∧ tt (some v1 :: some v2 :: some v3 :: capσ cap σ) H fun b H3 =>
      if b = true then te (some v1 :: some v2 :: some v3 :: capσ cap σ) H3 fun v H4 => H4 D = some (.lst ys) ∧ ys.length < sizeLine ∧ ∃ m', m' < xs.length - i ∧ m' = xs.length - (i + 1) ∧ i + 1 ≤ xs.length ∧ Pv (i + 1) (ys ++ [v]) (upd H4 D (.lst (ys ++ [v])))
      else ∃ m', m' < xs.length - i ∧ m' = xs.length - (i + 1) ∧ i + 1 ≤ xs.length ∧ Pv (i + 1) ys H3)
    (hd : ∀ ys H, Pv xs.length ys H → R H) :
    ∃ W : Nat → Nat → List V → Hp → Prop, (∃ m, W 0 m [] (upd H D (.lst []))) ∧ ∀ i m ys H, W i m ys H → H D = some (.lst ys) ∧
    (((Itt K a).stop i H ∧ R H) ∨ ((Itt K a).go i H ∧ ∀ x H', (Itt K a).yld i H x H' → ∃ b v1 v2 v3, x = .ref b ∧ SqT K H' b [v1, v2, v3] ∧ tt (some v1 :: some v2 :: some v3 :: capσ cap σ) H' fun b H3 =>
      if b = true then te (some v1 :: some v2 :: some v3 :: capσ cap σ) H3 fun v H4 => H4 D = some (.lst ys) ∧ ys.length < sizeLine ∧ ∃ m', m' < m ∧ W (i + 1) m' (ys ++ [v]) (upd H4 D (.lst (ys ++ [v])))
      else ∃ m', m' < m ∧ W (i + 1) m' ys H3)) := by
  refine ⟨fun i m ys H => m = xs.length - i ∧ i ≤ xs.length ∧ Pv i ys H, ⟨xs.length, by simp, Nat.zero_le _, h0⟩, ?_⟩
  rintro i m ys H ⟨rfl, hi, p⟩
  obtain ⟨q1, q⟩ := hD i ys H p
  refine ⟨q1, ?_⟩
  by_cases hlt : i < xs.length
  · refine .inr ⟨⟨xs, xs[i], q, by simp [hlt]⟩, fun x H' y => ?_⟩
    obtain ⟨e, y⟩ := y
    subst e
    exact hs i x ys _ (y xs q) p
  · have e : i = xs.length := by lia
    subst e
    exact .inl ⟨⟨xs, q, Nat.le_refl _⟩, hd ys H p⟩
end L2
end
section
set_option linter.all false
set_option maxRecDepth 100000
set_option maxHeartbeats 4000000
namespace L2
open PySem PySem.W PySem.Spec PySem.Calls PyProof.Rows
open PySem.SeqAt (EqAt RcAt RcNeAt)
section
variable {X : Cx}
end
section
variable {X : Cx} {a b c : Expr} {ta tb tc : TE} {pos : Pos}
end
end L2
end
section
set_option linter.all false
set_option maxRecDepth 100000
set_option maxHeartbeats 1000000
namespace Gm
open Hg
section
variable {N : Type} [DecidableEq N] [Inhabited N] {sl : N → N → Bool}
end
end Gm
namespace L2
open PySem
theorem paired_at {α β : Type} {F : α → β → Prop} {l : List α} {l' : List β} (r : Paired F l l') : ∀ {i : Nat} {a : α}, l[i]? = some a → ∃ b, l'[i]? = some b ∧ F a b := by
  induction r with
  | nil => intro i a h; cases h
  | @cons x y l l' h _ ih =>
    intro i a e
    cases i with
    | zero => cases e; exact ⟨y, rfl, h⟩
    | succ i => exact ih e
end L2
end
section
set_option linter.all false
set_option maxRecDepth 100000
set_option maxHeartbeats 1000000
namespace L2
open PySem
end L2
namespace L2
open PySem PySem.W PySem.Spec PySem.Calls PyProof.Rows
end L2
end
section
set_option linter.all false
set_option maxRecDepth 100000
set_option maxHeartbeats 1000000
namespace L2
open PySem
section
variable {K : PySem.W.Frag} {H H' : Hp} {sc b : Addr} {xs : List V}
end
section
variable {K : PySem.W.Frag} {H H' : Hp} {pl sc b : Addr} {ns : List Int}
end
end L2
end
section
set_option linter.all false
set_option maxRecDepth 100000
set_option maxHeartbeats 1000000
namespace L2
open PySem PySem.W PySem.Spec PySem.Calls PyProof.Rows
section
variable {X : Cx}
end
end L2
end
section
set_option linter.all false
set_option maxRecDepth 100000
set_option maxHeartbeats 1000000
namespace L2
open PySem PyProof.Rows
section
variable {X : Cx}
end
end L2
end
section
set_option linter.all false
set_option maxRecDepth 100000
set_option maxHeartbeats 1000000
namespace L2
open PySem
end L2
end
section
set_option linter.all false
set_option maxRecDepth 100000
set_option maxHeartbeats 1000000
namespace L2
open PySem PySem.W PySem.Spec PySem.Calls PyProof.Rows
section
variable {X : Cx}
end
end L2
end
section
set_option linter.all false
set_option maxRecDepth 100000
set_option maxHeartbeats 1000000
namespace L2
open PySem
theorem tget_put {L : Tb} {n m : Str} {b : Int} (nd : (L.map (·.1)).Nodup) : Gm.dget (Gm.dput L n b) m = if m = n then some b else Gm.dget L m := by
  by_cases h : m = n
  · subst h
    rw [if_pos rfl]
    exact Gm.dget_of (Gm.dput_nd nd) Gm.dput_self
  · rw [if_neg h]
    cases e : Gm.dget L m with
    | none =>
      rw [Gm.dget_none] at e ⊢
      intro z
      obtain ⟨⟨m', c⟩, h1, h2⟩ := List.mem_map.mp z
      cases h2
      rcases Gm.dput_mem h1 with ⟨q, _⟩ | ⟨_, q⟩
      · exact h q
      · exact e (List.mem_map.mpr ⟨_, q, rfl⟩)
    | some c => exact Gm.dget_of (Gm.dput_nd nd) (Gm.dput_in (Gm.dget_some e) h)
end L2
end
section
set_option linter.all false
set_option maxRecDepth 100000
set_option maxHeartbeats 1000000
namespace Wb
open PySem L2
abbrev Row := Str × Str × Int
abbrev Web := List Row
theorem nd_len {α : Type} [DecidableEq α] : ∀ {xs ys : List α}, xs.Nodup → (∀ x ∈ xs, x ∈ ys) → xs.length ≤ ys.length
  | [], _, _, _ => Nat.zero_le _
  | x :: xs, ys, nd, h => by
    obtain ⟨h1, h2⟩ := List.nodup_cons.mp nd
    have m := h x List.mem_cons_self
    have := nd_len (ys := ys.erase x) h2 fun y hy => (List.mem_erase_of_ne (fun z => h1 (by rw [← z]; exact hy))).mpr (h y (List.mem_cons_of_mem _ hy))
    rw [List.length_erase_of_mem m] at this
    have : 0 < ys.length := List.length_pos_of_mem m
    simp only [List.length_cons]
    lia
structure FarInv (web : Web) (first : Str) (far : Tb) : Prop where
  nd : (far.map (·.1)).Nodup
  zero : Gm.dget far first = some 0
  pos : ∀ n v, Gm.dget far n = some v → 0 ≤ v
  ld : ∀ n v, Gm.dget far n = some v → n = first ∨ ∃ s l u, (s, n, l) ∈ web ∧ Gm.dget far s = some u ∧ u + l ≤ v
section
variable {web : Web} {first : Str} {far : Tb}
theorem FarInv.start : FarInv web first [(first, 0)] := by
  have g : ∀ n v, Gm.dget ([(first, 0)] : Tb) n = some v → n = first ∧ v = 0 := fun n v h => by
    have := Gm.dget_some h
    cases List.mem_singleton.mp this
    exact ⟨rfl, rfl⟩
  refine ⟨by simp, Gm.dget_of (by simp) (by simp), fun n v h => ?_, fun n v h => .inl (g n v h).1⟩
  rw [(g n v h).2]; exact Int.le_refl _
theorem FarInv.len (I : FarInv web first far) : far.length ≤ web.length + 1 := by
  have := nd_len (xs := far.map (·.1)) (ys := first :: web.map (·.2.1)) I.nd fun n hn => by
    obtain ⟨⟨m, v⟩, h1, h2⟩ := List.mem_map.mp hn
    cases h2
    rcases I.ld m v (Gm.dget_of I.nd h1) with rfl | ⟨s, l, u, h, _⟩
    · exact List.mem_cons_self
    · exact List.mem_cons_of_mem _ (List.mem_map.mpr ⟨_, h, rfl⟩)
  simpa using this
theorem FarInv.step (I : FarInv web first far) (hw : ∀ r ∈ web, 1 ≤ r.2.2) {s g : Str} {l u : Int} (hm : (s, g, l) ∈ web) (hs : Gm.dget far s = some u) (hg : ∀ v, Gm.dget far g = some v → u + l < v) :
    FarInv web first (Gm.dput far g (u + l)) := by
  have hl : 1 ≤ l := hw _ hm
  have u0 := I.pos _ _ hs
  have gf : first ≠ g := fun z => by
    have := hg 0 (z ▸ I.zero)
    lia
  have sg : s ≠ g := fun z => by
    have := hg u (z ▸ hs)
    lia
  refine ⟨Gm.dput_nd I.nd, by rw [tget_put I.nd, if_neg gf]; exact I.zero, fun n v h => ?_, fun n v h => ?_⟩
  · rw [tget_put I.nd] at h
    split at h
    · cases h; lia
    · exact I.pos n v h
  · rw [tget_put I.nd] at h
    split at h
    · rename_i e
      subst e
      cases h
      exact .inr ⟨s, l, u, hm, by rw [tget_put I.nd, if_neg sg]; exact hs, Int.le_refl _⟩
    · rcases I.ld n v h with e | ⟨s', l', u', h1, h2, h3⟩
      · exact .inl e
      · refine .inr ⟨s', l', if s' = g then u + l else u', h1, ?_, ?_⟩
        · rw [tget_put I.nd]
          split
          · rfl
          · exact h2
        · split
          · rename_i e
            have := hg u' (e ▸ h2)
            lia
          · exact h3
def sumT (t : Tb) : Nat := (t.map (·.2.toNat)).sum
def Less (t t' : Tb) : Prop := t'.length < t.length ∨ (t.length = t'.length ∧ sumT t < sumT t')
theorem Less.trans {a b c : Tb} (h : Less a b) (h' : Less b c) : Less a c := by
  unfold Less at *
  lia
theorem sum_map {g : Str} {w : Int} : ∀ {L : Tb}, (∀ p ∈ L, p.1 = g → w.toNat < p.2.toNat) → sumT (L.map fun p => if p.1 = g then (p.1, w) else p) ≤ sumT L ∧ ((∃ p ∈ L, p.1 = g) → sumT (L.map fun p => if p.1 = g then (p.1, w) else p) < sumT L)
  | [], _ => ⟨Nat.le_refl _, fun ⟨_, h, _⟩ => nomatch h⟩
  | p :: L, h => by
    obtain ⟨i1, i2⟩ := sum_map (L := L) fun q hq => h q (List.mem_cons_of_mem _ hq)
    unfold sumT at i1 i2 ⊢
    simp only [List.map_cons, List.sum_cons]
    by_cases e : p.1 = g
    · have := h p List.mem_cons_self e
      rw [if_pos e]
      exact ⟨by simp only; lia, fun _ => by simp only; lia⟩
    · rw [if_neg e]
      refine ⟨by lia, fun ⟨q, hq, hqe⟩ => ?_⟩
      rcases List.mem_cons.mp hq with rfl | hq
      · exact absurd hqe e
      · have := i2 ⟨q, hq, hqe⟩
        lia
theorem put_less (nd : (far.map (·.1)).Nodup) {g : Str} {w : Int} (w0 : 0 ≤ w) (hg : ∀ v, Gm.dget far g = some v → w < v) : Less (Gm.dput far g w) far := by
  unfold Less Gm.dput
  split
  · rename_i c
    rw [List.any_eq_true] at c
    obtain ⟨p, hp, e⟩ := c
    have e : p.1 = g := of_decide_eq_true e
    refine .inr ⟨List.length_map .., (sum_map fun q hq eq => ?_).2 ⟨p, hp, e⟩⟩
    have := hg q.2 (Gm.dget_of nd (by rw [← eq]; exact hq))
    lia
  · exact .inl (by rw [List.length_append]; exact Nat.lt_succ_self _)
def rl (c : Tb × Bool) (r : Row) : Tb × Bool :=
  match Gm.dget c.1 r.1 with
  | none => c
  | some u => match Gm.dget c.1 r.2.1 with
    | none => (Gm.dput c.1 r.2.1 (u + r.2.2), true)
    | some v => if u + r.2.2 < v then (Gm.dput c.1 r.2.1 (u + r.2.2), true) else c
def Clo (far : Tb) (r : Row) : Prop := ∀ u, Gm.dget far r.1 = some u → ∃ v, Gm.dget far r.2.1 = some v ∧ v ≤ u + r.2.2
theorem rl_ok {c : Tb × Bool} {r : Row} (I : FarInv web first c.1) (hw : ∀ r ∈ web, 1 ≤ r.2.2) (hm : r ∈ web) :
    FarInv web first (rl c r).1 ∧ ((rl c r = c ∧ Clo c.1 r) ∨ ((rl c r).2 = true ∧ Less (rl c r).1 c.1)) := by
  obtain ⟨s, g, l⟩ := r
  have hl := hw _ hm
  unfold rl
  cases e1 : Gm.dget c.1 s with
  | none => exact ⟨I, .inl ⟨rfl, fun u h => by rw [e1] at h; cases h⟩⟩
  | some u =>
    have u0 := I.pos _ _ e1
    cases e2 : Gm.dget c.1 g with
    | none => exact ⟨I.step hw hm e1 (fun v h => by rw [e2] at h; cases h), .inr ⟨rfl, put_less I.nd (by simp only at hl ⊢; lia) (fun v h => by rw [e2] at h; cases h)⟩⟩
    | some v =>
      simp only
      split
      · rename_i c1
        exact ⟨I.step hw hm e1 (fun v' h => by rw [e2] at h; cases h; exact c1), .inr ⟨rfl, put_less I.nd (by simp only at hl ⊢; lia) (fun v' h => by rw [e2] at h; cases h; exact c1)⟩⟩
      · rename_i c1
        exact ⟨I, .inl ⟨rfl, fun u' h => by rw [e1] at h; cases h; exact ⟨v, e2, by simp only; lia⟩⟩⟩
theorem rl_fold : ∀ {rs : Web} {c : Tb × Bool}, FarInv web first c.1 → (∀ r ∈ web, 1 ≤ r.2.2) → (∀ r ∈ rs, r ∈ web) →
    FarInv web first (rs.foldl rl c).1 ∧ ((rs.foldl rl c = c ∧ ∀ r ∈ rs, Clo c.1 r) ∨ ((rs.foldl rl c).2 = true ∧ Less (rs.foldl rl c).1 c.1))
  | [], c, I, _, _ => ⟨I, .inl ⟨rfl, fun _ h => nomatch h⟩⟩
  | r :: rs, c, I, hw, hm => by
    obtain ⟨I1, h1⟩ := rl_ok I hw (hm r List.mem_cons_self)
    obtain ⟨I2, h2⟩ := rl_fold (rs := rs) I1 hw fun q hq => hm q (List.mem_cons_of_mem _ hq)
    rw [List.foldl_cons]
    refine ⟨I2, ?_⟩
    rcases h1 with ⟨a1, a2⟩ | ⟨a1, a2⟩
    · rw [a1] at h2 ⊢
      rcases h2 with ⟨b1, b2⟩ | h2
      · exact .inl ⟨b1, fun q hq => (List.mem_cons.mp hq).elim (fun z => z ▸ a2) (b2 q)⟩
      · exact .inr h2
    · rcases h2 with ⟨b1, _⟩ | ⟨b1, b2⟩
      · rw [b1]; exact .inr ⟨a1, a2⟩
      · exact .inr ⟨b1, b2.trans a2⟩
def Rds (web : Web) : Nat → Tb → Prop
  | 0, far => (web.foldl rl (far, false)).2 = false
  | n + 1, far => (web.foldl rl (far, false)).2 = false ∨ Rds web n (web.foldl rl (far, false)).1
theorem rds (hw : ∀ r ∈ web, 1 ≤ r.2.2) : ∀ (a b : Nat) (far : Tb), web.length + 1 - far.length = a → sumT far = b → FarInv web first far → ∃ n, Rds web n far := by
  intro a
  induction a using Nat.strongRecOn with
  | _ a iha =>
    intro b
    induction b using Nat.strongRecOn with
    | _ b ihb =>
      intro far ea eb I
      obtain ⟨I1, h⟩ := rl_fold (rs := web) (c := (far, false)) I hw fun _ h => h
      rcases h with ⟨h, _⟩ | ⟨h1, h2⟩
      · exact ⟨0, by show (web.foldl rl (far, false)).2 = false; rw [h]⟩
      · have l1 := I1.len
        have l0 := I.len
        obtain ⟨n, hn⟩ : ∃ n, Rds web n (web.foldl rl (far, false)).1 := by
          rcases h2 with h2 | ⟨h2, h3⟩
          · exact iha _ (by simp only at h2; lia) _ _ rfl rfl I1
          · exact ihb _ (by simp only at h3; lia) _ (by simp only at h2; lia) rfl I1
        exact ⟨n + 1, .inr hn⟩
structure FarOk (web : Web) (first : Str) (far : Tb) : Prop extends FarInv web first far where
  clo : ∀ r ∈ web, Clo far r
theorem FarOk.tight (F : FarOk web first far) {n : Str} {v : Int} (h : Gm.dget far n = some v) : n = first ∨ ∃ s l u, (s, n, l) ∈ web ∧ Gm.dget far s = some u ∧ u + l = v := by
  rcases F.ld n v h with e | ⟨s, l, u, h1, h2, h3⟩
  · exact .inl e
  · obtain ⟨v', h4, h5⟩ := F.clo _ h1 u h2
    rw [h] at h4
    cases h4
    exact .inr ⟨s, l, u, h1, h2, by simp only at h5; lia⟩
def Exact (L : Tb) (r : Row) : Prop := ∃ u, Gm.dget L r.1 = some u ∧ Gm.dget L r.2.1 = some (u + r.2.2)
def Nearer (L : Tb) (r : Row) : Prop := ∃ u, Gm.dget L r.1 = some u ∧ ∀ v, Gm.dget L r.2.1 = some v → u + r.2.2 < v
inductive Reach (web : Web) (first : Str) (L : Tb) : Str → Prop
  | base : Reach web first L first
  | step {r : Row} : Reach web first L r.1 → r ∈ web → Exact L r → Reach web first L r.2.1
def Led (web : Web) (first : Str) (L : Tb) (xs : List Str) : Prop := xs.Nodup ∧ ∀ n, n ∈ xs ↔ Reach web first L n
def ShownP (web : Web) (first : Str) (L : Tb) : Prop := Gm.dget L first = some 0 ∧ (∀ r ∈ web, ¬ Nearer L r) ∧ ∃ xs, Led web first L xs ∧ xs.length = L.length
theorem Led.len {L : Tb} {xs ys : List Str} (a : Led web first L xs) (b : Led web first L ys) : xs.length = ys.length :=
  Nat.le_antisymm (nd_len a.1 fun x h => (b.2 x).mpr ((a.2 x).mp h)) (nd_len b.1 fun x h => (a.2 x).mpr ((b.2 x).mp h))
theorem shown_iff {L : Tb} {xs : List Str} (h1 : Gm.dget L first = some 0) (h2 : ∀ r ∈ web, ¬ Nearer L r) (h3 : Led web first L xs) : ShownP web first L ↔ xs.length = L.length :=
  ⟨fun ⟨_, _, ys, h, e⟩ => (h3.len h).trans e, fun e => ⟨h1, h2, xs, h3, e⟩⟩
theorem Reach.in {L : Tb} (h0 : Gm.dget L first = some 0) {n : Str} (h : Reach web first L n) : ∃ v, Gm.dget L n = some v := by
  cases h with
  | base => exact ⟨0, h0⟩
  | step _ _ e => obtain ⟨u, _, e2⟩ := e; exact ⟨_, e2⟩
theorem FarOk.reach (F : FarOk web first far) (hw : ∀ r ∈ web, 1 ≤ r.2.2) : ∀ (k : Nat) {n : Str} {v : Int}, v.toNat = k → Gm.dget far n = some v → Reach web first far n := by
  intro k
  induction k using Nat.strongRecOn with
  | _ k ih =>
    intro n v ek h
    rcases F.tight h with rfl | ⟨s, l, u, h1, h2, h3⟩
    · exact .base
    · have hl : 1 ≤ l := hw _ h1
      have u0 := F.pos _ _ h2
      exact .step (r := (s, n, l)) (ih u.toNat (by lia) rfl h2) h1 ⟨u, h2, by rw [h3]; exact h⟩
theorem FarOk.shown (F : FarOk web first far) (hw : ∀ r ∈ web, 1 ≤ r.2.2) : ShownP web first far := by
  refine ⟨F.zero, fun r hr ⟨u, h1, h2⟩ => ?_, far.map (·.1), ⟨F.nd, fun n => ⟨fun h => ?_, fun h => ?_⟩⟩, List.length_map ..⟩
  · obtain ⟨v, h3, h4⟩ := F.clo r hr u h1
    have := h2 v h3
    lia
  · obtain ⟨⟨m, v⟩, h1, h2⟩ := List.mem_map.mp h
    cases h2
    exact F.reach hw _ rfl (Gm.dget_of F.nd h1)
  · obtain ⟨v, h⟩ := h.in F.zero
    exact List.mem_map.mpr ⟨_, Gm.dget_some h, rfl⟩
end
end Wb
end
section
set_option linter.all false
set_option maxRecDepth 100000
set_option maxHeartbeats 4000000
namespace L2
open PySem PySem.W PySem.Spec PySem.Calls PyProof.Rows
section
variable {X : Cx} {pins : List (Addr × Obj)} {σ : St} {H : Hp} {s : Shared} {a : Addr} {kvs : List (Key × V)} {k : Key} {u r : Value} {z : V} {A : Around} {E : Value → Shared → Prop}
theorem d_setd {Q : Value → Shared → Prop} (I : Inv X pins σ H s) (e : H a = some (.dK kvs)) (ry : RelV (kV k) u) (rz : RelV z r) (hl : kvs.length < sizeLine)
    (h1 : ∀ v w' s', valV kvs k = some v → Inv X pins σ H s' → RelV v w' → Q w' s') (h2 : ∀ s', valV kvs k = none → Inv X pins σ (upd H a (.dK (kvs ++ [(k, z)]))) s' → Q r s') :
    wpAny (model X.prog X.w) A (call (.builtin "dict.setdefault") [.ref a, u, r]) Q E s := by
  obtain ⟨hz, hd, vs, rel, dd⟩ := dk_of I.hok e
  refine call_meetsIn PySem.F.slot_dict_setdefault dd.typeIs PySem.F.entry_dict_setdefault (PySem.F.args_dict_setdefault_3 _ _ _) (kt_meets_setdefault (mixKind X.prog X.w) a (kV_is ry) hd r)
    ⟨vs, dd, by rw [← rel.length]; exact hz, fun v hv => ?_, fun hn h' dd' hs => ?_⟩
  · have := rel.val k
    rw [hv] at this
    cases e2 : valV kvs k with
    | none => rw [e2] at this; cases this
    | some v' =>
      rw [e2] at this
      exact h1 v' v _ e2 (I.tok _) this
  · have hn' : valV kvs k = none := by
      have := rel.val k
      rw [hn] at this
      cases e2 : valV kvs k with
      | none => rfl
      | some v' => rw [e2] at this; cases this
    have he : ∃ q, h'.get? a = some q := let ⟨q, _, _, hq, _⟩ := dd'; ⟨q, hq⟩
    refine h2 _ hn' ?_
    rw [← putK_new z hn']
    exact d_write I (by rw [e]; exact True.intro) hs he (dk_new (Nat.le_trans (length_putK kvs k z) hl) hd (rel.put k rz) dd')
end
def tDSetD (td ty tx : TE) : TE := fun σ H Q => td σ H fun x H1 => ∃ a, x = .ref a ∧ IsD H1 a ∧ ty σ H1 fun y H2 => tx σ H2 fun z H3 => ∃ kvs k, H3 a = some (.dK kvs) ∧ y = kV k ∧ kvs.length < sizeLine ∧
  (∀ v, valV kvs k = some v → Q v H3) ∧ (valV kvs k = none → Q z (upd H3 a (.dK (kvs ++ [(k, z)]))))
section
variable {X : Cx} {o e f : Expr} {apos cpos : Pos} {td ty tx : TE}
theorem pe_dsetd (ho : PE X o td) (he : PE X e ty) (hf : PE X f tx) (m : M2 X o "setdefault" apos e f cpos) : PE X (.Call (.Attribute o "setdefault" apos) [e, f] [] cpos) (tDSetD td ty tx) := by
  intro pins s σ H Q I h
  refine wpAny_Call_method m.base m.few m.line PySem.F.plainAttrs_dict PySem.F.slot_dict_setdefault PySem.F.type_dict_setdefault (thn (ho pins s σ H _ I h) fun u s1 ⟨x, H1, I1, rx, a, ex, d, q1⟩ => ?_)
  subst ex
  obtain rfl : u = Value.ref a := rx
  obtain ⟨t1, t2, _⟩ := isD_at I1 d
  refine ⟨t1, t2, ?_⟩
  rw [m.trees]
  refine Calls.callWith_builtin rfl (Calls.evalArgs_plain (Calls.spliced_cons (thn (he pins s1 σ H1 _ I1 q1) fun iv s2 ⟨y, H2, I2, ry, q2⟩ =>
    Calls.spliced_cons (thn (hf pins s2 σ H2 _ I2 q2) fun fv s3 ⟨z, H3, I3, rz, kvs, k, ea, ey, hl, q3, q4⟩ => Calls.spliced_nil ?_))))
  subst ey
  exact d_setd I3 ea ry rz hl (fun v w' s4 l I4 rw' => ⟨v, _, I4, rw', q3 v l⟩) fun s4 l I4 => ⟨z, _, I4, rz, q4 l⟩
theorem qe_dsetd (ho : QE X o td) (he : QE X e ty) (hf : QE X f tx) (m : M2 X o "setdefault" apos e f cpos) : QE X (.Call (.Attribute o "setdefault" apos) [e, f] [] cpos) (tDSetD td ty tx) := .mk (pe_dsetd ho.to he.to hf.to m)
theorem qe_dget2 (hu : X.A.units + 1 < cLine) (ho : QE X o td) (he : QE X e ty) (hf : QE X f tx) (m : M2 X o "get" apos e f cpos) : QE X (.Call (.Attribute o "get" apos) [e, f] [] cpos) (tDGet2 td ty tx) := .mk (pe_dget2 hu ho.to he.to hf.to m)
theorem qe_dnotin {i : Expr} {ti : TE} {pos : Pos} (hu : X.A.units + 1 < cLine) (hi : QE X i ti) (ho : QE X o td) (h1 : behindInMarks .NotIn o = false := by rfl) : QE X (.Compare i [.NotIn] [o] pos) (tDNotIn ti td) := .mk (pe_cmp (pc_dnotin hu hi.to ho.to) h1)
theorem qe_disp1 {pos : Pos} (he : QE X e ty) (hf : QE X f tx) : QE X (.Dict [some e] [f] pos) (tDisp [(ty, tx)]) := .mk (pe_disp (pps_cons he.to hf.to pps_nil) rfl rfl (by simp) (by simp))
end
section
variable {X : Cx}
theorem call_dictC : CallR X (.type "dict") (fun xs H Q => ∃ (d : Addr) (kvs : List (Key × V)), xs = [.ref d] ∧ H d = some (.dK kvs) ∧ ∀ p, H p = none → Q (.ref p) (upd H p (.dK kvs))) := by
  intro pins s σ H xs us Q I r h
  obtain ⟨d, kvs, rfl, hd, q⟩ := h
  obtain ⟨u, rfl, rx⟩ := vals1 r
  cases rx
  exact d_copyOf I (.inl hd) fun p s' hp I' => ⟨.ref p, _, I', rfl, q p hp⟩
theorem call_anyB (hc : X.calm = true) : CallR X (.builtin "any") (fun xs H Q => ∃ (p : Addr) (bs : List Bool), xs = [.ref p] ∧ SqL X.K H p (bs.map V.bl) ∧ Q (.bl (bs.any id)) H) := by
  intro pins s σ H xs us Q I r h
  obtain ⟨p, bs, rfl, hp, q⟩ := h
  obtain ⟨u, rfl, rx⟩ := vals1 r
  cases rx
  obtain ⟨its, rv, pl, hz⟩ := I.list hp
  have hl := pl.isList
  have hlt : p < s.heap.objs.size := by obtain ⟨_, e, _⟩ := hl; exact Heap.lt_size e
  have hb : ∀ (i : Nat) (v : Value), its[i]? = some v → ∃ b, bs[i]? = some b ∧ v = .bool b := fun i v e => by
    have hi := (List.getElem?_eq_some_iff.mp e).1
    obtain ⟨x, ex, rx⟩ := rv.at hi
    rw [(List.getElem?_eq_some_iff.mp e).2] at rx
    rw [List.getElem?_map] at ex
    cases e2 : bs[i]? with
    | none => rw [e2] at ex; cases ex
    | some b => rw [e2] at ex; cases ex; exact ⟨b, rfl, rx⟩
  have ln : its.length = bs.length := by rw [← rv.length, List.length_map]
  refine call_any_walk (wpAny_pyIter_list hl ?_)
  refine ⟨s.heap.objs.size, [s.heap.objs.size, p], [s.heap.objs.size], its.toArray.size, _, _, fun i => (bs[i]?).getD false, rfl, Walks.list (A := X.A.in1) (by simp [I.ok.hd hc]) _ p (Nat.ne_of_lt hlt) its.toArray,
    ⟨⟨_, Heap.get?_push_size _ rfl, rfl, rfl⟩, hl.push _⟩, fun i v s' Q' E' hP hQ => ?_, fun h' tk hk => ?_⟩
  · obtain ⟨b, e, rfl⟩ := hb i v (by simpa using hP)
    simp only [e, Option.getD_some] at hQ
    exact wpAny_truthy_bool hQ
  · have e : ((List.range its.toArray.size).any fun i => (bs[i]?).getD false) = bs.any id := by
      rw [List.size_toArray, ln, Bool.eq_iff_iff, List.any_eq_true, List.any_eq_true]
      constructor
      · rintro ⟨i, hi, h⟩
        cases e2 : bs[i]? with
        | none => rw [e2] at h; cases h
        | some b => rw [e2] at h; exact ⟨b, List.mem_of_getElem? e2, h⟩
      · rintro ⟨b, hb, h⟩
        obtain ⟨i, hi, e2⟩ := List.getElem_of_mem hb
        exact ⟨i, List.mem_range.mpr hi, by rw [List.getElem?_eq_getElem hi, e2]; exact h⟩
    rw [e]
    refine ⟨.bl _, H, I.kept (t' := tk) (fun b o e => ?_), rfl, q⟩
    exact hk b o (fun z => by rw [List.mem_singleton.mp z] at e; exact Nat.lt_irrefl _ (Heap.lt_size e)) (Heap.get?_push_of_some _ e)
theorem op_notInS : OpR X (compareOp .NotIn) (fun x y H Q => ∃ (a : Addr) (n : Str) (xs : List Str), x = .str n ∧ y = .ref a ∧ SqL X.K H a (xs.map V.str) ∧ Q (.bl (!decide (n ∈ xs))) H) := by
  intro pins s σ H x y v u Q I rx ry h
  obtain ⟨a, n, xs, rfl, rfl, ha, q⟩ := h
  obtain ⟨t, rfl⟩ := rx
  cases ry
  obtain ⟨its, r, p, _⟩ := I.list ha
  have hv : ∀ y ∈ its, ∃ z ∈ xs, ∃ t, y = Value.str z t := fun y hy => by
    obtain ⟨j, hj, ej⟩ := List.getElem_of_mem hy
    obtain ⟨x, ex, rx⟩ := r.at hj
    rw [List.getElem?_map] at ex
    cases e : xs[j]? with
    | none => rw [e] at ex; cases ex
    | some z =>
      rw [e] at ex
      cases ex
      obtain ⟨t, et⟩ := rx
      exact ⟨z, List.mem_of_getElem? e, t, ej ▸ et⟩
  have hw : ∀ z ∈ xs, ∃ t, Value.str z t ∈ its := fun z hz => by
    obtain ⟨j, hj, ej⟩ := List.getElem_of_mem hz
    have e : (xs.map V.str)[j]? = some (V.str z) := by rw [List.getElem?_map, List.getElem?_eq_getElem hj, ej]; rfl
    obtain ⟨u, hu, t, et⟩ := r.get e
    exact ⟨t, et ▸ List.mem_of_getElem? hu⟩
  let e : Value → Bool := fun y => match y with | .str z _ => z == n | _ => false
  refine SeqAt.notIn_listAt e p.isList (fun y hy => ?_) ⟨.bl _, H, I, ?_, q⟩
  · obtain ⟨z, _, t', rfl⟩ := hv y (by simpa using hy)
    exact SeqAt.EqAt.str_str z t' n t
  · have ea : its.toArray.any e = its.any e := by simp
    show Value.bool (!its.toArray.any e) = Value.bool _
    rw [ea]
    congr 2
    rw [Bool.eq_iff_iff, decide_eq_true_eq, List.any_eq_true]
    constructor
    · rintro ⟨y, hy, ey⟩
      obtain ⟨z, hz, t', rfl⟩ := hv y hy
      have ez : z = n := (str_beq_iff z n).mp ey
      exact ez ▸ hz
    · intro hn
      obtain ⟨t', ht⟩ := hw n hn
      exact ⟨_, ht, (str_beq_iff n n).mpr rfl⟩
theorem rep_len {z : Array Nat} : ∀ (n : Nat) (a : Array Nat), ((List.replicate n z).foldl (· ++ ·) a).size = a.size + z.size * n
  | 0, a => by simp
  | n + 1, a => by rw [List.replicate_succ, List.foldl_cons, rep_len n, Array.size_append, Nat.mul_succ]; lia
theorem op_repS : OpR X (binaryOp .Mult) (fun x y H Q => ∃ (z : Str) (k : Int), x = .str z ∧ y = .int k ∧ 1 ≤ k ∧ k ≤ 1000 ∧ z.length ≤ 1000 ∧ ∀ r : Str, r.length = z.length * k.toNat → Q (.str r) H) := by
  intro pins s σ H x y v u Q I rx ry h
  obtain ⟨z, k, rfl, rfl, h0, h1, hz, q⟩ := h
  obtain ⟨t, rfl⟩ := rx
  obtain ⟨t', rfl⟩ := ry
  have hm : z.length * k.toNat ≤ 1000000 := Nat.le_trans (Nat.mul_le_mul hz (show k.toNat ≤ 1000 by lia)) (by decide)
  refine PySem.P.mul_str (by rw [decide_eq_false (by lia), decide_eq_false (by lia)]; rfl) (fun _ _ h4 => ?_) (fun _ _ => ?_) ?_
  · have : (1000 : Int) ≤ (2 ^ 63 - 1) / k := Int.le_ediv_of_mul_le (by lia) (by lia)
    lia
  · unfold PySem.Builtin.Str.tooLong
    exact decide_eq_false (Nat.not_lt.mpr (Nat.le_trans hm (by decide)))
  · rw [if_neg (by lia)]
    by_cases e : (k == 1 || z.length == 0) = true
    · rw [if_pos e]
      refine ⟨.str z, H, I, ⟨t, rfl⟩, q z ?_⟩
      rw [Bool.or_eq_true, beq_iff_eq, beq_iff_eq] at e
      rcases e with e | e
      · subst e; show _ = _ * 1; lia
      · rw [e]; lia
    · rw [if_neg e]
      refine ⟨?_, .str _, H, I.tok _, ⟨_, rfl⟩, q _ ?_⟩
      · show Array.size (List.foldl _ _ _) ≤ sizeLine
        rw [rep_len]
        exact Nat.le_trans (show 0 + z.cps.size * k.toNat ≤ 1000000 by rw [Nat.zero_add]; exact hm) (by decide)
      · show Array.size (List.foldl _ _ _) = _
        rw [rep_len]
        show 0 + _ = _
        rw [Nat.zero_add]
        rfl
theorem hits_same {s : Shared} {A : Around} {kb : List (Key × Value)} (nd : (kb.map (·.1)).Nodup) : ∀ {t : Tb} {va vb : List (Key × Value)}, KV (kvW t) va → KV (kvW t) vb → (∀ p ∈ vb, p ∈ kb) → KeqHits A s kb va true := by
  intro t
  induction t with
  | nil => intro va vb ra rb _; cases ra; exact .nil
  | cons p t ih =>
    intro va vb ra rb hb
    cases ra with
    | @cons _ q _ qs h1 r1 =>
      cases rb with
      | @cons _ q' _ qs' h2 r2 =>
        obtain ⟨k, v⟩ := q
        obtain ⟨k', v'⟩ := q'
        obtain ⟨e1, t1, e2⟩ := h1
        obtain ⟨e3, t2, e4⟩ := h2
        simp only at e1 e2 e3 e4
        subst e1 e2 e3 e4
        have hv : valueAt kb (Sum.inr p.1) = some (Value.int p.2 t2) := by
          have hm := hb _ List.mem_cons_self
          obtain ⟨i, hi, ei⟩ := List.getElem_of_mem hm
          exact valueAt_of_get nd (i := i) (by rw [List.getElem?_eq_getElem hi, ei])
        exact KeqHits.hit (e := true) (b := true) hv (by have := SeqAt.EqAt.int_int (A := A) (s := s) p.2 t1 p.2 t2; rw [beq_self_eq_true] at this; exact this) (ih r1 r2 fun x hx => hb x (List.mem_cons_of_mem _ hx))
theorem op_neDW (hu : X.A.units < cLine) : OpR X (compareOp .NotEq) (fun x y H Q => ∃ a b t, x = .ref a ∧ y = .ref b ∧ (t.map (·.1)).Nodup ∧ H a = some (.dK (kvW t)) ∧ H b = some (.dK (kvW t)) ∧ Q (.bl false) H) := by
  intro pins s σ H x y v u Q I rx ry h
  obtain ⟨a, b, t, rfl, rfl, nd, ha, hb, q⟩ := h
  cases rx
  cases ry
  obtain ⟨_, n1, va, r1, d1⟩ := dk_of I.hok ha
  obtain ⟨_, n2, vb, r2, d2⟩ := dk_of I.hok hb
  have nd2 : (vb.map (·.1)).Nodup := by
    rw [← r2.keys, kvW_keys]
    rw [List.nodup_iff_pairwise_ne, List.pairwise_map]
    exact (List.nodup_iff_pairwise_ne.mp nd).imp fun h z => h (Sum.inr.inj z)
  refine keq_ne (r := true) n1 n2 d1 d2 hu (fun hl => hits_same nd2 r1 r2 fun _ h => h) ⟨.bl _, H, I, ?_, q⟩
  show Value.bool _ = Value.bool _
  congr 1
  rw [← r1.length, ← r2.length, beq_self_eq_true]
  rfl
end
end L2
end
section
set_option linter.all false
set_option maxRecDepth 100000
set_option maxHeartbeats 4000000
namespace PySem
namespace F
theorem lk_list_keys : typeLookup (.type "list") "keys" = pure none := by rw [typeLookup_type, builtinLookup_eq_fast]; kernel_rfl
end F
section
variable {prog : Program} {w : World} {A : Around} {E : Value → Shared → Prop} {s : Shared}
theorem keys_none_list {a : Addr} {o : Obj} {xs : Array Value} {k : Nat} {Q : Option Value → Shared → Prop}
    (hx : s.heap.get? a = some o) (hc : o.cls = .type "list") (hdat : o.data = .seq xs k) (hd : o.dict = none) (hA : A.handled = none)
    (h : ∀ h' tk, (∀ b ob, s.heap.get? b = some ob → h'.get? b = some ob) → Q none { s with heap := h', toks := tk }) :
    wpAny (model prog w) A (getAttr? (.ref a) "keys") Q E s := by
  obtain ⟨c, dct, dat, sl⟩ := o
  simp only at hc hdat hd
  subst hc hdat hd
  obtain ⟨hp, g, d, tk, os⟩ := s
  have hT : ∀ tk', (⟨hp, g, d, tk', os⟩ : Shared).TypeIs (.ref a) "list" := fun _ => ⟨_, hx, rfl⟩
  have f1 := sub_AttributeError
  have f3 := F.slot_list_getattribute.lookup
  have f4 := F.slot_list_getattribute.bind (.ref a)
  have f5 := am_list_getattr_none
  unfold getAttr? getAttrBy? getAttrBy
  repeat (any_goals (first | assumption | exact hT _ | ((with_reducible show wpAny _ _ (call (Value.builtin "list.__getattribute__") _ _) _ _ _); refine call_meets F.slot_list_getattribute (hT _) am_entry_list_getattribute (F.args_list_getattribute_2 _ _) (meets_getattribute_miss_list a xs k sl "keys" _ F.lk_list_keys (by decide +kernel)) ⟨hx, hA, fun h' tk' e hx' => ?_⟩) | wp_step))
  obtain ⟨t', u', he⟩ := hx'.there
  show wpAny _ _ (getattributeRaised _ _ _ _ _ _ _) _ _ _
  unfold getattributeRaised
  repeat (any_goals (first | assumption | wp_step))
  exact h _ _ hx'.keeps
end
section
variable {prog : Program} {w : World} {K : Type} [DecidableEq K] {knd : KeyKind prog w K} {A : Around} {R : Result → Shared → Prop} {I ax d : Addr} {items : Array Value} {kvs : List (K × Value)}
theorem codeAny_dict_loopL (hh : A.in1.handled = none) (hne : ax ≠ I) (hdI : d ≠ I) (hda : d ≠ ax) (len : items.size = kvs.length) (hn : (kvs.map (·.1)).Nodup) (hz : kvs.length ≤ sizeLine) :
    ∀ (k i : Nat) (c : Int) (u : Tok) (s : Shared), kvs.length - i = k → i ≤ kvs.length → s.heap.IsListIter I ax i → s.heap.IsList ax items → s.heap.DictOf knd d (kvs.take i) → PairsIn knd I d items kvs s.heap →
      (∀ h' tk, (∀ b o, b ≠ d → b ≠ I → s.heap.get? b = some o → h'.get? b = some o) → h'.DictOf knd d kvs → R (.ok (.ret .none)) { s with heap := h', toks := tk }) →
      codeAny (model prog w) A (.builtin "dict.update.loop" ⟨[.ref d, .ref I, .int c u, .none], []⟩) R s := by
  intro k
  induction k with
  | zero =>
    intro i c u s hk hi hit ht hd pr hR
    have hin : i = kvs.length := by lia
    subst hin
    refine codeAny_builtin F.entry_dict_update_loop ?_
    rw [Around.under_plainId F.plain_dict_update_loop _]
    show wpAny _ A.in1 (pyNext (.ref I) >>= _) _ _ s
    refine wpAny_bind (wpAny_pyNext_list_end hh hit ht (by rw [← len]; simp) fun h' ex => ?_)
    show wpAny _ A.in1 (Builtin.Dict.addKeywords d [] >>= _) _ _ _
    refine wpAny_bind (wpAny_pure ?_)
    refine wpAny_pure ?_
    rw [List.take_length] at hd
    exact hR h' s.toks (fun b o _ h2 e => ex b o h2 e) (hd.extBut ex hdI)
  | succ k ih =>
    intro i c u s hk hi hit ht hd pr hR
    have hlt : i < kvs.length := by lia
    obtain ⟨b, key, hb, bd, bI, hbt, hkey⟩ := pr i _ (List.getElem?_eq_getElem hlt)
    refine codeAny_builtin F.entry_dict_update_loop ?_
    rw [Around.under_plainId F.plain_dict_update_loop _]
    show wpAny _ A.in1 (pyNext (.ref I) >>= _) _ _ s
    refine wpAny_bind (wpAny_pyNext_list_item hit ht hb fun h1 hit1 sb1 => ?_)
    have ht1 : h1.IsList ax items := ht.extBut sb1.extBut hne
    have hbt1 : h1.IsTuple b #[key, kvs[i].2] := hbt.extBut sb1.extBut bI
    have hd1 : h1.DictOf knd d (kvs.take i) := hd.sameBut sb1 hdI
    have hbt2 := hbt1
    obtain ⟨ob, hob, hcb, nb, hdb⟩ := hbt1
    have hT : (Shared.mk h1 s.gens s.drawn s.toks s.os).TypeIs (.ref b) "tuple" := ⟨_, hob, hcb⟩
    show wpAny _ A.in1 ((holding [Value.ref b] _) >>= _) _ _ _
    refine wpAny_bind (wpAny_holding ?_)
    refine wpAny_bind (wpAny_tryCatch ?_)
    unfold Builtin.Dict.pairItems
    refine wpAny_bind (wpAny_typeOf hT ?_)
    rw [if_pos (by decide)]
    refine wpAny_bind (wpAny_seqItems hob hdb (wpAny_pure ?_))
    show wpAny _ A.in1 (holding [key, kvs[i].2] (dictSet d key kvs[i].2)) _ _ _
    refine wpAny_holding (wpAny_dictSet_pairs hkey hd1 (fun h2 hd2 sb2 => ?_) (by rw [List.length_take]; lia))
    have hnew : kvs[i].1 ∉ (kvs.take i).map (·.1) := by
      intro hm
      have hp : ((kvs.take i).map (·.1) ++ (kvs.drop i).map (·.1)).Nodup := by rw [← List.map_append, List.take_append_drop]; exact hn
      rw [List.nodup_append] at hp
      exact hp.2.2 _ hm _ (List.mem_map.mpr ⟨kvs[i], by rw [List.drop_eq_getElem_cons hlt]; exact List.mem_cons_self, rfl⟩) rfl
    rw [stored_new _ _ _ hnew, show (kvs[i].1, kvs[i].2) = kvs[i] from rfl, List.take_append_getElem hlt] at hd2
    refine wpAny_pure ⟨plainId_quiet F.plain_dict_update_loop _, ih (i + 1) _ _ _ (by lia) hlt (hit1.extBut sb2.extBut (Ne.symm hdI)) (ht1.extBut sb2.extBut (Ne.symm hda)) hd2 ?_ fun h' tk kp hd' => ?_⟩
    · intro j kv hj
      obtain ⟨b', key', hb', bd', bI', hbt', hkey'⟩ := pr j kv hj
      exact ⟨b', key', hb', bd', bI', (hbt'.extBut sb1.extBut bI').extBut sb2.extBut bd', hkey'⟩
    · exact hR h' tk (fun b o h1' h2' e => kp b o h1' h2' (sb2.extBut b o h1' (sb1.extBut b o h2' e))) hd'
end
section
variable {prog : Program} {w : World} {K : Type} [DecidableEq K] {knd : KeyKind prog w K} {A : Around} {E : Value → Shared → Prop} {s : Shared}
theorem call_dict_pairsL {q : Addr} {o : Obj} {items : Array Value} {n : Nat} {kvs : List (K × Value)} {Q : Value → Shared → Prop} (hh : A.handled = none)
    (ho : s.heap.get? q = some o) (hc : o.cls = .type "list") (hdat : o.data = .seq items n) (hd : o.dict = none) (len : items.size = kvs.length) (hn : (kvs.map (·.1)).Nodup) (hz : kvs.length ≤ sizeLine)
    (pr : ∀ (i : Nat) (kv : K × Value), kvs[i]? = some kv → ∃ (b : Addr) (key : Value), items[i]? = some (.ref b) ∧ s.heap.IsTuple b #[key, kv.2] ∧ knd.is kv.1 key = true)
    (h : ∀ h' tk, (∀ b ob, s.heap.get? b = some ob → h'.get? b = some ob) → h'.DictOf knd s.heap.objs.size kvs → Q (.ref s.heap.objs.size) { s with heap := h', toks := tk }) :
    wpAny (model prog w) A (call (.type "dict") [.ref q]) Q E s := by
  refine callType_codes (Q₁ := fun obj s₁ => obj = .ref s.heap.objs.size ∧ s₁ = { s with heap := s.heap.push { cls := .type "dict", data := .dict #[] } }) F.kt_called_dict (F.kt_typeCall_dict_1 _) F.entry_dict_init (kt_code_dict_new _ ⟨rfl, rfl⟩) ?_
  rintro obj s₁ ⟨rfl, rfl⟩
  have hnew : (s.heap.push { cls := .type "dict", data := .dict #[] }).DictOf knd s.heap.objs.size [] := Heap.DictOf.new s.heap
  have ho' : (s.heap.push { cls := .type "dict", data := .dict #[] }).get? q = some o := Heap.get?_push_of_some _ ho
  have hlt : q < s.heap.objs.size := Heap.lt_size ho
  have hT : Shared.TypeIs { s with heap := s.heap.push { cls := .type "dict", data := .dict #[] } } (.ref q) "list" := ⟨_, ho', hc⟩
  refine ⟨hnew.typeIs, F.args_dict_init_2 _ _, ?_⟩
  unfold Builtin.«dict.__init__»
  refine wpAny_bind ?_
  unfold Builtin.Dict.selfAndRest
  refine wpAny_bind (wpAny_notOrdered_dict hnew.typeIs ?_)
  show wpAny _ _ (pure (s.heap.objs.size, [Value.ref q])) _ _ _
  refine wpAny_pure ?_
  show wpAny _ _ (Builtin.Dict.updateFrom "dict.__init__" s.heap.objs.size (.ref q) [] .none) _ _ _
  unfold Builtin.Dict.updateFrom
  refine wpAny_bind (wpAny_typeOf hT ?_)
  rw [if_pos (by decide)]
  refine wpAny_bind ?_
  have hA2 : A.in1.in1.handled = none := by simp [hh]
  refine keys_none_list (s := { s with heap := s.heap.push { cls := .type "dict", data := .dict #[] } }) ho' hc hdat hd hA2 fun h1 tk1 kp1 => ?_
  rw [if_pos (show (none : Option Value).isNone = true from rfl)]
  have ht1 : h1.IsList q items := ⟨o, kp1 _ _ ho', hc, n, hdat⟩
  refine wpAny_bind (wpAny_rule (wpAny_bind (wpAny_pyIter_list (s := { s with heap := h1, toks := tk1 }) ht1 (wpAny_pure ⟨plainId_quiet F.plain_dict_update_loop _, ?_⟩))))
  have hsz : s.heap.objs.size < h1.objs.size := by
    obtain ⟨o1, h0⟩ : ∃ o1, (s.heap.push { cls := .type "dict", data := .dict #[] }).get? s.heap.objs.size = some o1 := ⟨_, Heap.get?_push_size _ rfl⟩
    exact Heap.lt_size (kp1 _ _ h0)
  have hd1 : h1.DictOf knd s.heap.objs.size [] := by
    obtain ⟨o1, es, ep, h0, r⟩ := hnew
    exact ⟨o1, es, ep, kp1 _ _ h0, r⟩
  refine codeAny_dict_loopL (ax := q) (items := items) (kvs := kvs) (knd := knd) hA2 (Nat.ne_of_lt (Nat.lt_trans hlt hsz)) (Nat.ne_of_lt hsz) (Nat.ne_of_gt hlt) len hn hz kvs.length 0 0 0 _ (by lia) (Nat.zero_le _)
    ⟨_, Heap.get?_push_size _ rfl, rfl, rfl⟩ (ht1.push _) (hd1.push _) (fun i kv hi => ?_) fun h' tk kp hd' => ⟨rfl, ?_⟩
  · obtain ⟨b, key, e1, ⟨ob, hob, hcb, nb, hdb⟩, e3⟩ := pr i kv hi
    have hb := Heap.lt_size hob
    exact ⟨b, key, e1, Nat.ne_of_lt hb, Nat.ne_of_lt (Nat.lt_trans hb hsz), ⟨ob, Heap.get?_push_of_some _ (kp1 _ _ (Heap.get?_push_of_some _ hob)), hcb, nb, hdb⟩, e3⟩
  · refine h h' tk (fun b ob e => ?_) hd'
    have hb := Heap.lt_size e
    exact kp b ob (Nat.ne_of_lt hb) (Nat.ne_of_lt (Nat.lt_trans hb hsz)) (Heap.get?_push_of_some _ (kp1 _ _ (Heap.get?_push_of_some _ e)))
end
end PySem
namespace L2
open PySem PySem.W PySem.Spec PySem.Calls PyProof.Rows
section
variable {X : Cx} {pins : List (Addr × Obj)} {σ : St} {H : Hp} {s : Shared} {d : Addr}
theorem call_dictL (hc : X.calm = true) : CallR X (.type "dict") (fun xs H Q => ∃ (q : Addr) (zs : List V) (kvs : List (Key × V)), xs = [.ref q] ∧ H q = some (.lst zs) ∧ PKV H zs kvs ∧ (kvs.map (·.1)).Nodup ∧ ∀ d, H d = none → Q (.ref d) (upd H d (.dK kvs))) := by
  intro pins s σ H xs us Q I r h
  obtain ⟨q, zs, kvs, rfl, hq, pr, nd, k⟩ := h
  obtain ⟨u, rfl, rx⟩ := vals1 r
  cases rx
  obtain ⟨hz, its, n, rv, ho⟩ := (show _ ∧ ∃ (its : List Value) (n : Nat), _ ∧ _ from I.hok q _ hq)
  obtain ⟨vs, rel, pv⟩ := pr.vals I.hok rv
  have l1 := rel.length
  have l2 : zs.length = kvs.length := Paired.length pr
  have l3 := rv.length
  have nd2 : (vs.map (·.1)).Nodup := by rw [← rel.keys]; exact nd
  refine call_dict_pairsL (knd := mixKind X.prog X.w) (kvs := vs) (I.ok.hd hc) ho rfl rfl rfl (by simp only [List.size_toArray]; lia) nd2 (by lia) (fun i kv e => ?_) fun h' tk kp dd => ?_
  · obtain ⟨b, key, e1, e2, e3⟩ := pv i kv e
    exact ⟨b, key, by simpa using e1, e2, e3⟩
  · have nsm : (s.heap.objs.size == sysModules) = false := by
      have := I.big
      simp only [beq_eq_false_iff_ne]
      exact Nat.ne_of_gt this
    exact ⟨.ref s.heap.objs.size, _, I.laid (o := .dK kvs) kp (Nat.le_refl _) (dk_new (by lia) nsm rel dd), rfl, k _ (I.hok.fresh (Nat.le_refl _))⟩
end
end L2
end
section
set_option linter.all false
set_option maxRecDepth 100000
set_option maxHeartbeats 1000000
namespace L2
open PySem
def rowV (r : Wb.Row) : List V := [.str r.1, .str r.2.1, .int r.2.2]
def WR3 (H : Hp) (zs : List V) (w : Wb.Web) : Prop := Paired (fun (z : V) (r : Wb.Row) => ∃ a, z = .ref a ∧ H a = some (.tup (rowV r))) zs w
section
variable {H H' H0 : Hp} {zs : List V} {w : Wb.Web} {kvs : List (Key × V)}
theorem WR3.stay (r : WR3 H zs w) (k : ∀ b l, H b = some (.tup l) → H' b = some (.tup l)) : WR3 H' zs w := Paired.mapP r fun p q ⟨a, b, c⟩ => ⟨a, b, k _ _ c⟩
theorem WR3.len (r : WR3 H zs w) : zs.length = w.length := Paired.length r
theorem WR3.snoc {x : V} {a : Addr} {q : Wb.Row} (r : WR3 H zs w) (e : x = .ref a) (h : H a = some (.tup (rowV q))) : WR3 H (zs ++ [x]) (w ++ [q]) := by
  induction r with
  | nil => exact .cons ⟨a, e, h⟩ .nil
  | cons h1 _ ih => exact .cons h1 ih
theorem tk_upd {l : Addr} {u : HO} (h : ∀ zs, H l ≠ some (.tup zs)) : ∀ b zs, H b = some (.tup zs) → upd H l u b = some (.tup zs) := fun b zs e => by
  rw [upd_ne (fun z => h zs (by rw [← z]; exact e))]; exact e
theorem tk_lst {l : Addr} {u : HO} {xs : List V} (h : H l = some (.lst xs)) : ∀ b zs, H b = some (.tup zs) → upd H l u b = some (.tup zs) := tk_upd fun zs z => by rw [h] at z; cases z
theorem tk_dK {l : Addr} {u : HO} (h : H l = some (.dK kvs)) : ∀ b zs, H b = some (.tup zs) → upd H l u b = some (.tup zs) := tk_upd fun zs z => by rw [h] at z; cases z
structure RowsI (H0 H : Hp) (kvs : List (Key × V)) (w : Wb.Web) : Prop where
  at' : ∀ n, (valV kvs (Sum.inr n) = none ∧ (w.filter fun r => decide (r.1 = n)) = []) ∨ ∃ l zs, valV kvs (Sum.inr n) = some (.ref l) ∧ H0 l = none ∧ H l = some (.lst zs) ∧ WR3 H zs (w.filter fun r => decide (r.1 = n))
  inj : ∀ n m l, valV kvs (Sum.inr n) = some (.ref l) → valV kvs (Sum.inr m) = some (.ref l) → n = m
  len : kvs.length ≤ w.length
theorem RowsI.nil : RowsI H0 H [] [] := ⟨fun n => .inl ⟨rfl, rfl⟩, (fun n m l h => nomatch h), Nat.le_refl _⟩
theorem RowsI.same {H' : Hp} (R : RowsI H0 H kvs w) (k : Same H H') : RowsI H0 H' kvs w := ⟨fun n => (R.at' n).imp id fun ⟨l, zs, h1, h2, h3, h4⟩ => ⟨l, zs, h1, h2, k _ _ h3, h4.stay fun b l e => k _ _ e⟩, R.inj, R.len⟩
theorem RowsI.old {n : Str} {l a : Addr} {q : Wb.Row} (R : RowsI H0 H kvs w) (en : q.1 = n) (e : valV kvs (Sum.inr n) = some (.ref l)) (hl : H l = some (.lst zs)) (hq : H a = some (.tup (rowV q))) :
    RowsI H0 (upd H l (.lst (zs ++ [.ref a]))) kvs (w ++ [q]) := by
  subst en
  have tk := tk_lst (u := .lst (zs ++ [.ref a])) hl
  refine ⟨fun m => ?_, R.inj, by rw [List.length_append]; have := R.len; lia⟩
  rw [List.filter_append]
  by_cases em : q.1 = m
  · subst em
    rcases R.at' q.1 with ⟨z, _⟩ | ⟨l', zs', h1, h2, h3, h4⟩
    · rw [z] at e; cases e
    · rw [e] at h1
      cases h1
      rw [hl] at h3
      cases h3
      refine .inr ⟨l, _, e, h2, upd_same, ?_⟩
      have : List.filter (fun r : Wb.Row => decide (r.1 = q.1)) [q] = [q] := by simp
      rw [this]
      exact (h4.stay tk).snoc rfl (tk _ _ hq)
  · have : List.filter (fun r : Wb.Row => decide (r.1 = m)) [q] = [] := by simp [em]
    rw [this, List.append_nil]
    rcases R.at' m with z | ⟨l', zs', h1, h2, h3, h4⟩
    · exact .inl z
    · have nl : l' ≠ l := fun z => em (R.inj _ _ l e (z ▸ h1))
      exact .inr ⟨l', zs', h1, h2, by rw [upd_ne nl]; exact h3, h4.stay tk⟩
theorem RowsI.new {n : Str} {l a d : Addr} {q : Wb.Row} (R : RowsI H0 H kvs w) (en : q.1 = n) (e : valV kvs (Sum.inr n) = none) (hl : H l = none) (hl0 : H0 l = none) (hd : H d = some (.dK kvs)) (hq : H a = some (.tup (rowV q))) :
    RowsI H0 (upd (upd (upd H l (.lst [])) d (.dK (kvs ++ [(Sum.inr n, .ref l)]))) l (.lst [.ref a])) (kvs ++ [(Sum.inr n, .ref l)]) (w ++ [q]) := by
  subst en
  have old : ∀ b o, H b = some o → b ≠ d → (upd (upd (upd H l (.lst [])) d (.dK (kvs ++ [(Sum.inr q.1, .ref l)]))) l (.lst [.ref a])) b = some o := fun b o h nd => by
    have nl : b ≠ l := fun z => by rw [z, hl] at h; cases h
    rw [upd_ne nl, upd_ne nd, upd_ne nl]; exact h
  have tk : ∀ b zs, H b = some (.tup zs) → (upd (upd (upd H l (.lst [])) d (.dK (kvs ++ [(Sum.inr q.1, .ref l)]))) l (.lst [.ref a])) b = some (.tup zs) := fun b zs h => old _ _ h fun z => by rw [z, hd] at h; cases h
  refine ⟨fun m => ?_, fun n m l' h1 h2 => ?_, by rw [List.length_append, List.length_append]; have := R.len; show _ + 1 ≤ _ + 1; lia⟩
  · rw [List.filter_append, valV_snoc _ _ _ _ e]
    by_cases em : m = q.1
    · subst em
      rw [if_pos rfl]
      rcases R.at' q.1 with ⟨_, z⟩ | ⟨l', zs', h1, _⟩
      · have : List.filter (fun r : Wb.Row => decide (r.1 = q.1)) [q] = [q] := by simp
        rw [this, z]
        exact .inr ⟨l, [.ref a], rfl, hl0, upd_same, .cons ⟨a, rfl, tk _ _ hq⟩ .nil⟩
      · rw [e] at h1; cases h1
    · rw [if_neg (fun z => em (Sum.inr.inj z))]
      have : List.filter (fun r : Wb.Row => decide (r.1 = m)) [q] = [] := by simp [Ne.symm em]
      rw [this, List.append_nil]
      rcases R.at' m with z | ⟨l', zs', h1, h2, h3, h4⟩
      · exact .inl z
      · exact .inr ⟨l', zs', h1, h2, old _ _ h3 (fun z => by rw [z, hd] at h3; cases h3), h4.stay tk⟩
  · rw [valV_snoc _ _ _ _ e] at h1 h2
    have no : ∀ m, valV kvs (Sum.inr m) = some (.ref l) → False := fun m h => by
      rcases R.at' m with ⟨z, _⟩ | ⟨l', zs', h3, _, h4, _⟩
      · rw [z] at h; cases h
      · rw [h] at h3; cases h3; rw [hl] at h4; cases h4
    by_cases e1 : (Sum.inr n : Key) = Sum.inr q.1
    · rw [if_pos e1] at h1
      cases h1
      by_cases e2 : (Sum.inr m : Key) = Sum.inr q.1
      · exact Sum.inr.inj (e1.trans e2.symm)
      · rw [if_neg e2] at h2
        exact absurd h2 (no m)
    · rw [if_neg e1] at h1
      by_cases e2 : (Sum.inr m : Key) = Sum.inr q.1
      · rw [if_pos e2] at h2
        cases h2
        exact absurd h1 (no n)
      · rw [if_neg e2] at h2
        exact R.inj n m l' h1 h2
def kvB (ks : List Str) : List (Key × V) := ks.map fun n => (Sum.inr n, V.bl true)
theorem kvB_get {ks : List Str} {n : Str} : (valV (kvB ks) (Sum.inr n)).isSome = decide (n ∈ ks) := by
  induction ks with
  | nil => rfl
  | cons m ks ih =>
    unfold kvB at ih ⊢
    rw [List.map_cons]
    by_cases e : m = n
    · subst e
      rw [valV_pos rfl]
      simp
    · rw [valV_neg (fun z => e (Sum.inr.inj z)), ih]
      rw [Bool.eq_iff_iff, decide_eq_true_eq, decide_eq_true_eq, List.mem_cons]
      exact ⟨.inr, fun h => h.elim (fun z => absurd z.symm e) id⟩
theorem kvB_put {ks : List Str} {n : Str} (h : n ∉ ks) : putK (kvB ks) (Sum.inr n) (.bl true) = kvB (ks ++ [n]) := by
  rw [putK_new]
  · unfold kvB; rw [List.map_append]; rfl
  · have := kvB_get (ks := ks) (n := n)
    rw [decide_eq_false h] at this
    cases e : valV (kvB ks) (Sum.inr n) with
    | none => rfl
    | some v => rw [e] at this; cases this
end
end L2
namespace Wb
open PySem L2
section
variable {web : Web} {first : Str} {L : Tb} {F S : List Str}
structure GB (web : Web) (first : Str) (L : Tb) (F S : List Str) : Prop where
  nd : F.Nodup
  fst : first ∈ F
  sub : ∀ n ∈ S, n ∈ F
  rch : ∀ n ∈ F, Reach web first L n
  clo : ∀ r ∈ web, Exact L r → r.1 ∈ F → r.1 ∉ S → r.2.1 ∈ F
theorem GB.start : GB web first L [first] [first] := ⟨by simp, List.mem_cons_self, fun _ h => h, fun n h => by rw [List.mem_singleton.mp h]; exact .base, fun r _ _ h1 h2 => absurd h1 h2⟩
theorem GB.len (G : GB web first L F S) : F.length ≤ web.length + 1 := by
  have := nd_len (xs := F) (ys := first :: web.map (·.2.1)) G.nd fun n hn => by
    have := G.rch n hn
    cases this with
    | base => exact List.mem_cons_self
    | step _ h _ => exact List.mem_cons_of_mem _ (List.mem_map.mpr ⟨_, h, rfl⟩)
  simpa using this
theorem GB.done (G : GB web first L F []) : Led web first L F := ⟨G.nd, fun n => ⟨G.rch n, fun h => by
  induction h with
  | base => exact G.fst
  | step _ h e ih => exact G.clo _ h e ih (fun z => nomatch z)⟩⟩
def exB (L : Tb) (r : Row) : Bool := match Gm.dget L r.1, Gm.dget L r.2.1 with
  | some u, some v => decide (v = u + r.2.2)
  | _, _ => false
theorem exB_iff {r : Row} : exB L r = true ↔ Exact L r := by
  unfold exB Exact
  cases e1 : Gm.dget L r.1 with
  | none => exact ⟨fun z => (nomatch z), fun ⟨u, h, _⟩ => nomatch h⟩
  | some u =>
    cases e2 : Gm.dget L r.2.1 with
    | none => exact ⟨fun z => (nomatch z), fun ⟨u, _, h⟩ => nomatch h⟩
    | some v =>
      simp only [decide_eq_true_eq, Option.some.injEq]
      exact ⟨fun h => ⟨u, rfl, h⟩, fun ⟨u', h1, h2⟩ => by subst h1; exact h2⟩
structure GN (web : Web) (first : Str) (L : Tb) (name : Str) (F S : List Str) (ds : Web) : Prop where
  nd : F.Nodup
  fst : first ∈ F
  nam : name ∈ F
  sub : ∀ n ∈ S, n ∈ F
  rch : ∀ n ∈ F, Reach web first L n
  clo : ∀ r ∈ web, Exact L r → r.1 ∈ F → r.1 ∉ S → r.1 ≠ name → r.2.1 ∈ F
  ons : ∀ r ∈ ds, r.2.1 ∈ F
variable {name : Str} {ds : Web}
theorem GB.pop (G : GB web first L F (S ++ [name])) : GN web first L name F S [] := ⟨G.nd, G.fst, G.sub _ (by simp), fun n h => G.sub n (List.mem_append_left _ h), G.rch,
  fun r h e h1 h2 h3 => G.clo r h e h1 fun z => (List.mem_append.mp z).elim h2 fun z => h3 (List.mem_singleton.mp z), fun _ h => nomatch h⟩
theorem GN.len (G : GN web first L name F S ds) : F.length ≤ web.length + 1 := GB.len (S := F) ⟨G.nd, G.fst, fun _ h => h, G.rch, fun r _ _ h1 h2 => absurd h1 h2⟩
theorem GN.old (G : GN web first L name F S ds) {r : Row} (h : r.2.1 ∈ F) : GN web first L name F S (ds ++ [r]) := { G with ons := fun q hq => (List.mem_append.mp hq).elim (G.ons q) fun z => by rw [List.mem_singleton.mp z]; exact h }
theorem GN.new (G : GN web first L name F S ds) {r : Row} (e : r.1 = name) (hr : r ∈ web) (ex : Exact L r) (h : r.2.1 ∉ F) : GN web first L name (F ++ [r.2.1]) (S ++ [r.2.1]) (ds ++ [r]) where
  nd := by rw [List.nodup_append]; exact ⟨G.nd, by simp, fun a ha b hb z => h (by rw [← List.mem_singleton.mp hb, ← z]; exact ha)⟩
  fst := List.mem_append_left _ G.fst
  nam := List.mem_append_left _ G.nam
  sub := fun n hn => (List.mem_append.mp hn).elim (fun z => List.mem_append_left _ (G.sub n z)) (fun z => List.mem_append_right _ z)
  rch := fun n hn => (List.mem_append.mp hn).elim (G.rch n) fun z => by rw [List.mem_singleton.mp z]; exact .step (by rw [e]; exact G.rch _ G.nam) hr ex
  clo := fun q hq e1 h1 h2 h3 => by
    rcases List.mem_append.mp h1 with z | z
    · exact List.mem_append_left _ (G.clo q hq e1 z (fun y => h2 (List.mem_append_left _ y)) h3)
    · exact absurd (List.mem_append_right _ z) h2
  ons := fun q hq => (List.mem_append.mp hq).elim (fun z => List.mem_append_left _ (G.ons q z)) fun z => by rw [List.mem_singleton.mp z]; simp
theorem GN.fin (G : GN web first L name F S ds) (h : ∀ r ∈ web, Exact L r → r.1 = name → r ∈ ds) : GB web first L F S := ⟨G.nd, G.fst, G.sub, G.rch, fun r hr e h1 h2 => by
  by_cases z : r.1 = name
  · exact G.ons r (h r hr e z)
  · exact G.clo r hr e h1 h2 z⟩
section
variable {c : Tb × Bool} {r : Row} {u v : Int}
theorem rl_none (e1 : Gm.dget c.1 r.1 = none) : rl c r = c := by unfold rl; rw [e1]
theorem rl_new (e1 : Gm.dget c.1 r.1 = some u) (e2 : Gm.dget c.1 r.2.1 = none) : rl c r = (Gm.dput c.1 r.2.1 (u + r.2.2), true) := by unfold rl; rw [e1, e2]
theorem rl_near (e1 : Gm.dget c.1 r.1 = some u) (e2 : Gm.dget c.1 r.2.1 = some v) (h : u + r.2.2 < v) : rl c r = (Gm.dput c.1 r.2.1 (u + r.2.2), true) := by unfold rl; rw [e1, e2]; exact if_pos h
theorem rl_far (e1 : Gm.dget c.1 r.1 = some u) (e2 : Gm.dget c.1 r.2.1 = some v) (h : ¬ u + r.2.2 < v) : rl c r = c := by unfold rl; rw [e1, e2]; exact if_neg h
end
theorem fold_take {w : Web} {c : Tb × Bool} {i : Nat} {r : Row} (h : w[i]? = some r) : (w.take (i + 1)).foldl rl c = rl ((w.take i).foldl rl c) r := by
  rw [List.take_succ, h, List.foldl_append]; rfl
structure GL (web : Web) (first : Str) (L : Tb) (led : List Str) (k : Nat) : Prop where
  nd : led.Nodup
  fst : first ∈ led
  rch : ∀ n ∈ led, Reach web first L n
  clo : ∀ j r, j < k → r ∈ web → Exact L r → led[j]? = some r.1 → r.2.1 ∈ led
structure GM (web : Web) (first : Str) (L : Tb) (led : List Str) (k : Nat) (name : Str) (ds : Web) : Prop extends GL web first L led k where
  nam : led[k]? = some name
  ons : ∀ r ∈ ds, r.1 = name → Exact L r → r.2.1 ∈ led
section
variable {led : List Str} {k : Nat} {name : Str} {ds : Web}
theorem GL.start : GL web first L [first] 0 := ⟨by simp, List.mem_cons_self, fun n h => by rw [List.mem_singleton.mp h]; exact .base, fun j r h => absurd h (Nat.not_lt_zero _)⟩
theorem GL.len (G : GL web first L led k) : led.length ≤ web.length + 1 := GB.len (S := led) ⟨G.nd, G.fst, fun _ h => h, G.rch, fun r _ _ h1 h2 => absurd h1 h2⟩
theorem GL.go (G : GL web first L led k) (h : led[k]? = some name) : GM web first L led k name [] := { G with nam := h, ons := fun _ h => nomatch h }
theorem GM.old (G : GM web first L led k name ds) {r : Row} (h : r.1 = name → Exact L r → r.2.1 ∈ led) : GM web first L led k name (ds ++ [r]) := { G with ons := fun q hq => (List.mem_append.mp hq).elim (G.ons q) fun z => by rw [List.mem_singleton.mp z]; exact h }
theorem GM.new (G : GM web first L led k name ds) {r : Row} (e : r.1 = name) (hr : r ∈ web) (ex : Exact L r) (h : r.2.1 ∉ led) : GM web first L (led ++ [r.2.1]) k name (ds ++ [r]) where
  nd := by rw [List.nodup_append]; exact ⟨G.nd, by simp, fun a ha b hb z => h (by rw [← List.mem_singleton.mp hb, ← z]; exact ha)⟩
  fst := List.mem_append_left _ G.fst
  rch := fun n hn => (List.mem_append.mp hn).elim (G.rch n) fun z => by rw [List.mem_singleton.mp z]; exact .step (by rw [e]; exact G.rch _ (List.mem_of_getElem? G.nam)) hr ex
  clo := fun j q hj hq e1 h1 => by
    have := (List.getElem?_eq_some_iff.mp G.nam).1
    rw [List.getElem?_append_left (by lia)] at h1
    exact List.mem_append_left _ (G.clo j q hj hq e1 h1)
  nam := by rw [List.getElem?_append_left (List.getElem?_eq_some_iff.mp G.nam).1]; exact G.nam
  ons := fun q hq h1 h2 => (List.mem_append.mp hq).elim (fun z => List.mem_append_left _ (G.ons q z h1 h2)) fun z => by rw [List.mem_singleton.mp z]; simp
theorem GM.fin (G : GM web first L led k name web) : GL web first L led (k + 1) := ⟨G.nd, G.fst, G.rch, fun j r hj hr e h => by
  by_cases z : j = k
  · subst z
    rw [G.nam] at h
    exact G.ons r hr (Option.some.inj h).symm e
  · exact G.clo j r (by lia) hr e h⟩
theorem GL.done (G : GL web first L led k) (h : led.length ≤ k) : Led web first L led := ⟨G.nd, fun n => ⟨G.rch n, fun h => by
  induction h with
  | base => exact G.fst
  | @step r _ hr e ih =>
    obtain ⟨j, hj, ej⟩ := List.getElem_of_mem ih
    exact G.clo j r (by lia) hr e (by rw [List.getElem?_eq_getElem hj, ej])⟩⟩
end
end
end Wb
end
section
set_option linter.all false
set_option maxRecDepth 100000
set_option maxHeartbeats 4000000
namespace HT
open PySem PyProof.Rows
section
variable {prog : Program} {w : World} {A : Around} {E : Value → Shared → Prop} {s : Shared}
theorem getItem_tuple_whole {t sl : Addr} {items : Array Value} {vl vu : Value} {lo hi : Option Int} {Q : Value → Shared → Prop} (ht : IsTup s.heap t items) (hs : s.heap.IsSliceOf sl vl vu .none) (pl : IsPart vl lo) (pu : IsPart vu hi)
    (hw : sIx items.size 0 lo = 0 ∧ sIx items.size items.size hi = items.size)
    (h : Q (.ref t) s)
    (hsz : items.size ≤ sizeLine) : wpAny (model prog w) A (getItem (.ref t) (.ref sl)) Q E s := by
  have hj : sIx items.size items.size hi ≤ items.size := sIx_le _ _ (Nat.le_refl _) hi
  obtain ⟨os, hos, hcs, hds⟩ := id hs
  have hTs : s.TypeIs (.ref sl) "slice" := ⟨os, hos, hcs⟩
  unfold getItem
  try with_reducible refine wpAny_holding ?_
  first | refine wpAny_bind (wpAny_pure ?_) | skip
  refine wpAny_bind (wpAny_sequenceKey ht.typeIs (by decide) ?_)
  refine wpAny_bind (wpAny_callSpecial?_slot (name := Str.ofString "__getitem__") ht.typeIs PyProof.Rows.slot_tuple_getitem
    (wpAny_call_entry PyProof.Rows.slot_tuple_getitem ht.typeIs entry_tuple_getitem ?_ (args_tuple_getitem _ _)))
  show wpAny _ _ (Builtin.Tuple.tupleItemsOf (.ref t) >>= _) _ _ s
  refine wpAny_bind (tupleItemsOf_ ht ?_)
  refine wpAny_bind (wpAny_typeOf hTs ?_)
  rw [if_pos (by decide)]
  refine wpAny_bind (sliceApplied_gen hs pl pu ?_)
  have hyes : (((sIx items.size 0 lo : Nat) : Int) == 0 && (1 : Int) == 1 && (sIx items.size items.size hi - sIx items.size 0 lo) == items.size) = true := by rw [hw.1, hw.2]; simp
  show wpAny _ _ (if (((sIx items.size 0 lo : Nat) : Int) == 0 && (1 : Int) == 1 && (sIx items.size items.size hi - sIx items.size 0 lo) == items.size) = true then _ else _) _ _ s
  rw [if_pos hyes]
  refine wpAny_bind (m := Builtin.Tuple.tupleIsExact _) (wpAny_bind (wpAny_typeOf ht.typeIs (wpAny_pure ?_)))
  rw [if_pos (by decide)]
  first
    | exact wpAny_rule (wpAny_pure ⟨_, rfl, wpAny_pure h⟩)
    | exact wpAny_bind (wpAny_rule (wpAny_bind (wpAny_pure (wpAny_pure ⟨_, rfl, wpAny_pure h⟩))))
    | exact wpAny_bind (wpAny_rule (wpAny_pure (wpAny_pure ⟨_, rfl, wpAny_pure h⟩)))
    | exact wpAny_bind (wpAny_rule (wpAny_pure ⟨_, rfl, wpAny_pure h⟩))
end
end HT
namespace L2
open PySem PySem.Spec PyProof.Rows
section
variable {X : Cx}
theorem sl_tupW : SlR X (fun x lo hi H Q => ∃ a xs, x = .ref a ∧ SqT X.K H a xs ∧ (HT.sIx xs.length 0 lo = 0 ∧ HT.sIx xs.length xs.length hi = xs.length) ∧ Q (.ref a) H) := by
  intro pins s σ H x v vl vu lo hi sl Q I rx hs pl pu h
  obtain ⟨a, xs, rfl, hx, hw, q⟩ := h
  cases rx
  obtain ⟨its, r, ht, hz⟩ := I.tuple hx
  have hlen : its.toArray.size = xs.length := by rw [List.size_toArray]; exact r.length.symm
  refine ⟨"tuple", _, PyProof.Rows.slot_tuple_getitem.lookup, ht.typeIs, ?_⟩
  exact HT.getItem_tuple_whole ht hs pl pu (by rw [hlen]; exact hw) ⟨.ref a, H, I, rfl, q⟩ (by rw [hlen]; exact hz)
theorem sl_tupA : SlR X (fun x lo hi H Q => rSlT X.K x lo hi H Q ∨ ∃ a xs, x = .ref a ∧ SqT X.K H a xs ∧ (HT.sIx xs.length 0 lo = 0 ∧ HT.sIx xs.length xs.length hi = xs.length) ∧ Q (.ref a) H) := sl_tup.or sl_tupW
def tJoinE (t : TE) : TE := fun σ H Q => ∃ J : V → Hp → Prop, t σ H J ∧ ∀ v H', J v H' → Q v H'
theorem qe_joinE {e : Expr} {t : TE} (h : QE X e t) : QE X e (tJoinE t) := .mk fun pins s σ H Q I ⟨J, h1, j⟩ => thn (h.to pins s σ H J I h1) fun v s' ⟨x, H', I', r, z⟩ => ⟨x, H', I', r, j x H' z⟩
theorem cutV_tail {xs : List V} : cutV xs (some 1) none = xs.drop 1 := by
  unfold cutV
  have e : HT.sIx xs.length 0 (some ((1 : Nat) : Int)) = min 1 xs.length := HT.sIx_nat ..
  have e1 : HT.sIx xs.length 0 (some (1 : Int)) = min 1 xs.length := e
  have e2 : HT.sIx xs.length xs.length none = xs.length := rfl
  rw [e1, e2]
  cases xs with
  | nil => rfl
  | cons x xs =>
    have : min 1 (x :: xs).length = 1 := by simp
    rw [this, List.take_of_length_le]
    simp
theorem whole_tail {xs : List V} : (HT.sIx xs.length 0 (some 1) = 0 ∧ HT.sIx xs.length xs.length none = xs.length) ↔ xs = [] := by
  have e : HT.sIx xs.length 0 (some ((1 : Nat) : Int)) = min 1 xs.length := HT.sIx_nat ..
  have e1 : HT.sIx xs.length 0 (some (1 : Int)) = min 1 xs.length := e
  have e2 : HT.sIx xs.length xs.length none = xs.length := rfl
  rw [e1, e2]
  constructor
  · intro ⟨h, _⟩
    exact List.length_eq_zero_iff.mp (by lia)
  · rintro rfl
    exact ⟨rfl, rfl⟩
end
end L2
end
section
set_option linter.all false
set_option maxRecDepth 100000
namespace Kx
open PySem L2
def top (i : Nat) : Stmt := PySem.Challenge.pw_lategone_k31_lengths_looked_at.main.body.getD i (.Pass ⟨0, 0, 0, 0⟩)
end Kx
end
section
set_option linter.all false
set_option maxRecDepth 100000
set_option maxHeartbeats 4000000
namespace Kx
open PySem L2
section
variable {P : Program} {w : World} {K : PySem.W.Frag} {mg : Str → Option Value} {base : Heap}
open Hm
abbrev sNumber : Stmt := top 7
theorem scNumber : FnScope ["script", "k", "cells", "size", "cell", "turn", "step", "seed"] ["script", "k"] (defScope sNumber) := ⟨rfl, rfl, rfl, (by simp only [List.nodup_cons, List.mem_cons, List.not_mem_nil, or_false, not_or, List.nodup_nil, and_true, not_false_eq_true]; (repeat' apply And.intro); all_goals decide +kernel), rfl, by decide +kernel, by decide +kernel⟩
def spNumber (K : PySem.W.Frag) : Sp := fun vs H Q _ => ∃ (a : Addr) (ns : List Int) (k : Int), vs = [.ref a, .int k] ∧ SqL K H a (ns.map V.int) ∧ ns.length ≤ 63 ∧ 0 ≤ k ∧ ∀ r H', 0 ≤ r → r < 1000000 → Same H H' → Q (.int r) H'
theorem ok_number {f : Addr} {fd : FuncData} (F : Fun K "_law_number" "_law_number" sNumber f fd) (T : Bl mg) (z_max : mg "max" = none) (z_min : mg "min" = none) : FnOk P w K mg base CX0 1 f fd ["script", "k"] (spNumber K) := by
 have sc := scNumber
 refine F.okQ scNumber (fun vs H Q E h => ?_) (fun cdv A outer s H vs Q E hr h => ?_)
 ·obtain ⟨a, ns, k, rfl, _⟩ := h
  rfl
 ·obtain ⟨a, ns, k, rfl, hS, hn, hk, kQ⟩ := h
  have hu := hr.units0
  refine ⟨_, (qss_cons (qs_set (i := 2) sc.nd rfl (Or.inl rfl) (qe_op op_cat (qe_callTy call_list_of (by rfl) T.z_list (by decide +kernel) (qa_cons (qv 0) qa_nil)) (qe_lst (qa_cons qe_int qa_nil))))
   (qss_cons (qs_set (i := 3) sc.nd rfl (Or.inl rfl) (qe_callB (call_max2 rfl) (by rfl) z_max (by decide +kernel) (qa_cons qe_int (qa_cons (qe_callB call_len_seq (by rfl) T.z_len (by decide +kernel) (qa_cons (qv 0) qa_nil)) qa_nil))))
   (qss_cons (qs_set (i := 4) sc.nd rfl (Or.inl rfl) (qe_ix ix_list (qv 2) (qe_op op_mod (qv 1) (qv 3)) (fun _ _ => rfl)))
   (qss_cons (qs_set (i := 5) sc.nd rfl (Or.inl rfl) (qe_op op_fdivB (qv 1) (qv 3)))
   (qss_cons (qs_if (qt_cmpR op_ge (qv 4) (qe_op op_pow qe_int qe_int) (nomark _)) (qss_cons (qs_for PassesOwn.never rfl (qi_range1 rfl T.z_range (qa_cons (qe_callB (call_min2 rfl) (by rfl) z_min (by decide +kernel) (qa_cons (qv 5) (qa_cons qe_int qa_nil))) qa_nil)) (qg_name (i := 6) sc.nd rfl (Or.inl rfl)) (qss_one (qs_set (i := 4) sc.nd rfl (Or.inl rfl) (qe_op op_fdivB (qv 4) qe_int))))
   (qss_one (qs_ret (qe_op op_mod (qv 4) qe_int)))) qss_nil)
   (qss_cons (qs_set (i := 7) sc.nd rfl (Or.inl rfl) (qe_op op_mod (qe_op op_mul (qe_op op_add (qe_op op_add (qe_op op_add (qe_op op_mod (qv 4) qe_int) qe_int) (qe_op op_mul qe_int (qv 5))) (qe_op op_mul qe_int (qv 1))) qe_int) qe_int))
   (qss_cons (qs_set (i := 7) sc.nd rfl (Or.inl rfl) (qe_op op_mod (qe_op op_add (qe_op op_add (qe_op op_mul (qv 7) (qv 7)) (qe_op op_mul qe_int (qv 5))) (qe_op op_mul qe_int (qv 1))) qe_int))
   (qss_one (qs_ret (qe_op op_mod (qe_op op_fdivB (qe_op op_mod (qe_op op_mul (qv 7) qe_int) qe_int) qe_int) qe_int)))))))))), ?_⟩
  have t1 : ∀ {H' : Hp}, Same H H' → SqL K H' a (ns.map V.int) := fun k => hS.imp (fun z => z.imp (k _ _) (fun ⟨o, e⟩ => ⟨o, k _ _ e⟩)) id
  refine ⟨_, rfl, a, _, rfl, .inl hS, fun l1 hl1 => ?_⟩
  have s1 := same_new (o := .lst (ns.map V.int)) hl1
  have g1 := upd_same (H := H) (a := l1) (o := .lst (ns.map V.int))
  generalize upd H l1 (.lst (ns.map V.int)) = H1 at s1 g1 ⊢
  refine ⟨by show 1 ≤ sizeLine; decide, fun l2 hl2 => ?_⟩
  have s2 := same_new (o := .lst [.int 0]) hl2
  have g2 := upd_same (H := H1) (a := l2) (o := .lst [.int 0])
  generalize upd H1 l2 (.lst [.int 0]) = H2 at s2 g2 ⊢
  have lm : (ns.map V.int).length = ns.length := List.length_map ..
  refine ⟨l1, l2, _, _, rfl, rfl, s2 _ _ g1, g2, Nat.le_trans (show (ns.map V.int).length + 1 ≤ 1000 by lia) (by decide), fun l3 hl3 => ?_⟩
  have e3 : ns.map V.int ++ [.int 0] = (ns ++ [0]).map V.int := by rw [List.map_append]; rfl
  rw [e3]
  have s3 := same_new (o := .lst ((ns ++ [0]).map V.int)) hl3
  have g3 := upd_same (H := H2) (a := l3) (o := .lst ((ns ++ [0]).map V.int))
  have sH := (s1.trans s2).trans s3
  generalize upd H2 l3 (.lst ((ns ++ [0]).map V.int)) = H3 at s3 g3 sH ⊢
  refine ⟨_, rfl, a, _, rfl, .inl (t1 sH), 1, _, rfl, ?_⟩
  rw [lm]
  obtain ⟨sz, esz, z1, z2, z3⟩ : ∃ sz : Int, (if (ns.length : Int) > 1 then (ns.length : Int) else 1) = sz ∧ 1 ≤ sz ∧ sz ≤ 63 ∧ sz ≤ (ns ++ [0]).length := by
   refine ⟨_, rfl, ?_, ?_, ?_⟩
   ·split <;> lia
   ·split <;> lia
   ·rw [List.length_append]
    split <;> simp <;> lia
  rw [esz]
  have p0 : 0 ≤ k % sz := mod_lo (by lia)
  have p1 : k % sz < sz := mod_hi (by lia)
  refine ⟨_, rfl, _, rfl, _, rfl, _, _, rfl, rfl, (by show (0 : Int) < sz; lia), l3, _, _, _, rfl, rfl, SqL.of g3, ix_int p0 (by lia), ?_⟩
  refine ⟨_, rfl, _, rfl, _, _, rfl, rfl, ⟨by lia, by lia⟩, ?_⟩
  have tn : 0 ≤ k / sz := Int.ediv_nonneg hk (by lia)
  generalize (ns ++ [0]).getD (k % sz).toNat 0 = cell
  refine ⟨_, rfl, _, _, rfl, rfl, ⟨by decide, by decide, by decide⟩, _, _, rfl, rfl, _, rfl, ite2 (fun _ => ?_) (fun _ => ?_)⟩
  ·obtain ⟨mt, emt, y1, y2⟩ : ∃ mt : Nat, (if (60 : Int) < (k / sz) then (60 : Int) else (k / sz)) = (mt : Int) ∧ True ∧ mt ≤ 60 := by
    refine ⟨(if (60 : Int) < (k / sz) then (60 : Int) else (k / sz)).toNat, ?_, trivial, ?_⟩
    ·split <;> lia
    ·split <;> lia
   refine ⟨_, rfl, (k / sz), 60, rfl, ?_⟩
   rw [emt]
   refine ⟨_, rfl, by lia, by lia, ?_⟩
   rw [Int.toNat_natCast]
   refine for_range (lo := 0) (n := mt) (fun i σ H4 => ∃ (c : Int) (o : Option V), σ = [some (.ref a), some (.int k), some (.ref l3), some (.int sz), some (.int c), some (.int (k / sz)), o, none] ∧ H4 = H3) ⟨cell, none, rfl, rfl⟩ ?_ ?_
   ·rintro i σ H4 hi ⟨c, o, rfl, rfl⟩
    exact ⟨_, rfl, _, _, rfl, rfl, ⟨by decide, by decide⟩, _, _, rfl, rfl⟩
   ·rintro σ H4 ⟨c, o, rfl, rfl⟩
    exact ⟨_, rfl, _, _, rfl, rfl, (by show (0 : Int) < _; decide), kQ _ _ (mod_lo (by decide)) (mod_hi (by decide)) sH⟩
  ·refine ⟨_, rfl, _, _, rfl, rfl, (by show (0 : Int) < _; decide), _, _, rfl, rfl, _, rfl, _, _, rfl, rfl, .inl ⟨by decide, by decide⟩, _, _, rfl, rfl, _, rfl, _, _, rfl, rfl, .inl ⟨by decide, by decide⟩, _, _, rfl, rfl, _, _, rfl, rfl, .inr ⟨by decide, by decide⟩, _, _, rfl, rfl, (by show (0 : Int) < _; decide), ?_⟩
   refine ⟨_, rfl, _, rfl, _, _, rfl, rfl, .inl ⟨?b1, ?b2⟩, _, rfl, _, _, rfl, rfl, .inl ⟨by decide, by decide⟩, _, _, rfl, rfl, _, rfl, _, _, rfl, rfl, .inl ⟨by decide, by decide⟩, _, _, rfl, rfl, _, _, rfl, rfl, (by show (0 : Int) < _; decide), ?_⟩
   case b1 => exact Int.lt_of_lt_of_le (by decide) (mod_lo (b := 2147483647) (by decide))
   case b2 => exact Int.lt_trans (mod_hi (b := 2147483647) (by decide)) (by decide)
   exact ⟨_, rfl, _, _, rfl, rfl, .inr ⟨by decide, by decide⟩, _, _, rfl, rfl, (by show (0 : Int) < _; decide), _, _, rfl, rfl, ⟨by decide, by decide⟩, _, _, rfl, rfl, (by show (0 : Int) < _; decide), kQ _ _ (mod_lo (by decide)) (mod_hi (by decide)) sH⟩
end
end Kx
end
section
set_option linter.all false
set_option maxRecDepth 100000
set_option maxHeartbeats 4000000
namespace Kx
open PySem L2
section
variable {P : Program} {w : World} {K : PySem.W.Frag} {mg : Str → Option Value} {base : Heap}
open Hm
abbrev sExact : Stmt := top 3
theorem scExact : FnScope ["row", "lengths"] ["row", "lengths"] (defScope sExact) := ⟨rfl, rfl, rfl, (by simp only [List.nodup_cons, List.mem_cons, List.not_mem_nil, or_false, not_or, List.nodup_nil, and_true, not_false_eq_true]; (repeat' apply And.intro); all_goals decide +kernel), rfl, by decide +kernel, by decide +kernel⟩
def spExact : Sp := fun vs H Q _ => ∃ (a d : Addr) (r : Wb.Row) (t : Tb), vs = [.ref a, .ref d] ∧ H a = some (.tup (rowV r)) ∧ H d = some (.dK (kvW t)) ∧ ∀ b : Bool, (b = true ↔ Wb.Exact t r) → Q (.bl b) H
theorem ok_exact {f : Addr} {fd : FuncData} (F : Fun K "is_exact" "is_exact" sExact f fd) (T : Bl mg) : FnOk P w K mg base CX0 1 f fd ["row", "lengths"] spExact := by
 have sc := scExact
 refine F.okQ scExact (fun vs H Q E h => ?_) (fun cdv A outer s H vs Q E hr h => ?_)
 ·obtain ⟨a, d, r, t, rfl, _⟩ := h
  rfl
 ·obtain ⟨a, d, r, t, rfl, ha, hd, k⟩ := h
  have hu := hr.units0
  refine ⟨_, (qss_one (qs_ret (qe_and (qe_din (hu_of hr) (qe_ix ix_tup (qv 0) qe_int (fun _ _ => rfl)) (qv 1)) (qe_one (qe_cmpR op_eq (qe_dget1 (hu_of hr) (qv 1) (qe_ix ix_tup (qv 0) qe_int (fun _ _ => rfl)) ⟨rfl, rfl, rfl, rfl⟩) (qe_op op_add (qe_dget (hu_of hr) (qv 1) (qe_ix ix_tup (qv 0) qe_int (fun _ _ => rfl)) (fun _ _ => rfl)) (qe_ix ix_tup (qv 0) qe_int (fun _ _ => rfl))) (nomark _)))))), ?_⟩
  refine ⟨_, rfl, a, _, 0, _, rfl, rfl, SqT.of ha, rfl, _, rfl, d, _, rfl, DGet.k (k := Sum.inr r.1) hd, _, rfl, ?_⟩
  rw [kvW_get]
  cases e1 : Gm.dget t r.1 with
  | none =>
   rw [if_neg (by simp)]
   exact k false ⟨fun z => (nomatch z), fun ⟨u, h, _⟩ => by rw [e1] at h; cases h⟩
  | some u =>
   rw [if_pos (by rfl)]
   have g1 : DGet H d (.str r.1) (some (.int u)) := by have := DGet.k (k := Sum.inr r.1) hd; rw [kvW_get, e1] at this; exact this
   refine ⟨_, rfl, d, rfl, .inl ⟨_, .inl hd⟩, _, rfl, a, _, 1, _, rfl, rfl, SqT.of ha, rfl, _, DGet.k (k := Sum.inr r.2.1) hd, _, rfl, _, rfl, a, _, 0, _, rfl, rfl, SqT.of ha, rfl, d, _, rfl, g1, _, rfl, a, _, 2, _, rfl, rfl, SqT.of ha, rfl, u, r.2.2, rfl, rfl, ?_⟩
   rw [kvW_get]
   cases e2 : Gm.dget t r.2.1 with
   | none => exact ⟨rfl, k _ ⟨fun z => by simp at z, fun ⟨u', _, h⟩ => by rw [e2] at h; cases h⟩⟩
   | some v =>
    refine ⟨rfl, k _ ?_⟩
    rw [decide_eq_true_eq]
    refine ⟨fun h => ⟨u, e1, ?_⟩, fun ⟨u', h1, h2⟩ => ?_⟩
    ·have : v = u + r.2.2 := V.int.inj h
     rw [← this]; exact e2
    ·rw [e1] at h1; cases h1; rw [e2] at h2; cases h2; rfl
abbrev sNearer : Stmt := top 4
theorem scNearer : FnScope ["row", "lengths"] ["row", "lengths"] (defScope sNearer) := ⟨rfl, rfl, rfl, (by simp only [List.nodup_cons, List.mem_cons, List.not_mem_nil, or_false, not_or, List.nodup_nil, and_true, not_false_eq_true]; (repeat' apply And.intro); all_goals decide +kernel), rfl, by decide +kernel, by decide +kernel⟩
def spNearer : Sp := fun vs H Q _ => ∃ (a d : Addr) (r : Wb.Row) (t : Tb), vs = [.ref a, .ref d] ∧ H a = some (.tup (rowV r)) ∧ H d = some (.dK (kvW t)) ∧ ∀ b : Bool, (b = true ↔ Wb.Nearer t r) → Q (.bl b) H
theorem ok_nearer {f : Addr} {fd : FuncData} (F : Fun K "is_nearer" "is_nearer" sNearer f fd) (T : Bl mg) : FnOk P w K mg base CX0 1 f fd ["row", "lengths"] spNearer := by
 have sc := scNearer
 refine F.okQ scNearer (fun vs H Q E h => ?_) (fun cdv A outer s H vs Q E hr h => ?_)
 ·obtain ⟨a, d, r, t, rfl, _⟩ := h
  rfl
 ·obtain ⟨a, d, r, t, rfl, ha, hd, k⟩ := h
  have hu := hr.units0
  refine ⟨_, (qss_cons (qs_if (qt_dnotin (hu_of hr) (qe_ix ix_tup (qv 0) qe_int (fun _ _ => rfl)) (qv 1)) (qss_one (qs_ret qe_bl)) qss_nil)
   (qss_one (qs_ret (qe_or (qe_dnotin (hu_of hr) (qe_ix ix_tup (qv 0) qe_int (fun _ _ => rfl)) (qv 1)) (qe_one (qe_cmpR op_gt (qe_dget (hu_of hr) (qv 1) (qe_ix ix_tup (qv 0) qe_int (fun _ _ => rfl)) (fun _ _ => rfl)) (qe_op op_add (qe_dget (hu_of hr) (qv 1) (qe_ix ix_tup (qv 0) qe_int (fun _ _ => rfl)) (fun _ _ => rfl)) (qe_ix ix_tup (qv 0) qe_int (fun _ _ => rfl))) (nomark _))))))), ?_⟩
  refine ⟨_, rfl, a, _, 0, _, rfl, rfl, SqT.of ha, rfl, _, rfl, d, _, rfl, DGet.k (k := Sum.inr r.1) hd, _, rfl, ?_⟩
  rw [kvW_get]
  cases e1 : Gm.dget t r.1 with
  | none =>
   rw [if_pos (by rfl)]
   exact k false ⟨fun z => (nomatch z), fun ⟨u, h, _⟩ => by rw [e1] at h; cases h⟩
  | some u =>
   rw [if_neg (by simp)]
   refine ⟨_, rfl, a, _, 1, _, rfl, rfl, SqT.of ha, rfl, _, rfl, d, _, rfl, DGet.k (k := Sum.inr r.2.1) hd, _, rfl, ?_⟩
   rw [kvW_get]
   cases e2 : Gm.dget t r.2.1 with
   | none =>
    rw [if_pos (by rfl)]
    exact k true ⟨fun _ => ⟨u, e1, fun v h => by rw [e2] at h; cases h⟩, fun _ => rfl⟩
   | some v =>
    rw [if_neg (by simp)]
    have g1 : DGet H d (.str r.1) (some (.int u)) := by have := DGet.k (k := Sum.inr r.1) hd; rw [kvW_get, e1] at this; exact this
    have g2 : DGet H d (.str r.2.1) (some (.int v)) := by have := DGet.k (k := Sum.inr r.2.1) hd; rw [kvW_get, e2] at this; exact this
    refine ⟨_, rfl, _, rfl, a, _, 1, _, rfl, rfl, SqT.of ha, rfl, d, _, rfl, g2, _, rfl, _, rfl, a, _, 0, _, rfl, rfl, SqT.of ha, rfl, d, _, rfl, g1, _, rfl, a, _, 2, _, rfl, rfl, SqT.of ha, rfl, u, r.2.2, rfl, rfl, v, _, rfl, rfl, k _ ?_⟩
    rw [decide_eq_true_eq]
    exact ⟨fun h => ⟨u, e1, fun v' h' => by rw [e2] at h'; cases h'; exact h⟩, fun ⟨u', h1, h2⟩ => by rw [e1] at h1; cases h1; exact h2 v e2⟩
abbrev sByFrom : Stmt := top 5
theorem scByFrom : FnScope ["web", "rows", "row"] ["web"] (defScope sByFrom) := ⟨rfl, rfl, rfl, (by simp only [List.nodup_cons, List.mem_cons, List.not_mem_nil, or_false, not_or, List.nodup_nil, and_true, not_false_eq_true]; (repeat' apply And.intro); all_goals decide +kernel), rfl, by decide +kernel, by decide +kernel⟩
def spByFrom (K : PySem.W.Frag) : Sp := fun vs H Q _ => ∃ (p : Addr) (zs : List V) (w : Wb.Web), vs = [.ref p] ∧ (SqL K H p zs ∨ SqT K H p zs) ∧ WR3 H zs w ∧ w.length ≤ 900 ∧ ∀ d kvs H', H' d = some (.dK kvs) → H d = none → RowsI H H' kvs w → Same H H' → Q (.ref d) H'
theorem ok_byfrom {f : Addr} {fd : FuncData} (F : Fun K "by_from" "by_from" sByFrom f fd) (T : Bl mg) : FnOk P w K mg base CX0 1 f fd ["web"] (spByFrom K) := by
 have sc := scByFrom
 refine F.okQ scByFrom (fun vs H Q E h => ?_) (fun cdv A outer s H vs Q E hr h => ?_)
 ·obtain ⟨p, zs, w, rfl, _⟩ := h
  rfl
 ·obtain ⟨p, zs, w, rfl, hp, wr, lw, k⟩ := h
  have hu := hr.units0
  refine ⟨_, (qss_cons (qs_set (i := 1) sc.nd rfl (Or.inl rfl) qe_dnewK)
   (qss_cons (qs_for PassesOwn.never rfl (qi_seq (qv 0)) (qg_name (i := 2) sc.nd rfl (Or.inl rfl)) (qss_one (qs_expr (qe_bm PySem.F.plainAttrs_list PySem.F.slot_list_append PySem.F.type_list_append mt_append (qe_dsetd (qv 1) (qe_ix ix_tup (qv 2) qe_int (fun _ _ => rfl)) (qe_lst qa_nil) ⟨rfl, rfl, rfl, rfl⟩) (qa_cons (qv 2) qa_nil)))))
   (qss_one (qs_ret (qv 1))))), ?_⟩
  refine fun d hd => ?_
  have s1 := same_new (o := .dK []) hd
  have g1 := upd_same (H := H) (a := d) (o := .dK [])
  generalize upd H d (.dK []) = H1 at s1 g1 ⊢
  have lz := wr.len
  let Pv : Nat → St → Hp → Prop := fun i σ H2 => ∃ (o : Option V) (kvs : List (Key × V)), σ = [some (.ref p), some (.ref d), o] ∧ H2 d = some (.dK kvs) ∧ RowsI H H2 kvs (w.take i) ∧ Same H H2
  have p0 : Pv 0 [some (.ref p), some (.ref d), none] H1 := ⟨none, [], rfl, g1, RowsI.nil, s1⟩
  have tl : ∀ {H' : Hp}, Same H H' → SqL K H p zs → SqL K H' p zs := fun k h => h.imp (fun z => z.imp (k _ _) (fun ⟨o, e⟩ => ⟨o, k _ _ e⟩)) id
  have tt : ∀ {H' : Hp}, Same H H' → SqT K H p zs → SqT K H' p zs := fun k h => h.imp (fun z => z.imp (k _ _) (fun ⟨o, e⟩ => ⟨o, k _ _ e⟩)) id
  rcases hp with hp | hp
  ·refine ⟨_, rfl, p, rfl, .inl ⟨⟨_, tl s1 hp⟩, for_list (xs := zs) Pv p0 (fun i σ H2 _ ⟨_, _, _, _, _, sH⟩ => tl sH hp) ?_ ?_⟩⟩
   ·rintro i x σ H2 hx ⟨o, kvs, rfl, hd2, R, sH⟩
    obtain ⟨r, er, a, rfl, ha⟩ := paired_at wr hx
    have li := (List.getElem?_eq_some_iff.mp hx).1
    have ha2 := sH _ _ ha
    have tw : w.take (i + 1) = w.take i ++ [r] := by rw [List.take_succ, er]; rfl
    have lk := R.len
    rw [List.length_take] at lk
    refine ⟨_, rfl, d, rfl, .inl ⟨_, .inl hd2⟩, _, rfl, a, _, 0, _, rfl, rfl, SqT.of ha2, rfl, by show 0 ≤ sizeLine; decide, fun l hl => ?_⟩
    have nld : l ≠ d := fun z => by rw [z, hd2] at hl; cases hl
    have hl0 : H l = none := by
     cases e : H l with
     | none => rfl
     | some o => rw [sH _ _ e] at hl; cases hl
    have hd3 : (upd H2 l (.lst [])) d = some (.dK kvs) := by rw [upd_ne (Ne.symm nld)]; exact hd2
    have s3 := same_new (o := .lst []) hl
    refine ⟨kvs, Sum.inr r.1, hd3, rfl, small1000 (by lia), fun v hv => ?_, fun hv => ?_⟩
    ·rcases R.at' r.1 with ⟨z, _⟩ | ⟨l2, zs2, h1, h2, h3, h4⟩
     ·rw [z] at hv; cases hv
     rw [hv] at h1
     cases h1
     have h3' := s3 _ _ h3
     have lz2 : zs2.length ≤ w.length := by rw [h4.len]; exact Nat.le_trans (List.length_filter_le _ _) (by rw [List.length_take]; lia)
     refine ⟨.inl ⟨rfl, _, SqL.of h3'⟩, _, rfl, l2, zs2, _, rfl, rfl, h3', small1000 (by lia), _, kvs, rfl, ?_, ?_, fun b o e => ?_⟩
     ·rw [upd_ne (ne_of hd3 h3' (by intro y; cases y))]; exact hd3
     ·rw [tw]
      exact RowsI.old (R.same s3) rfl hv h3' (s3 _ _ ha2)
     ·rw [upd_ne (ne_of_none e h2)]; exact s3 _ _ (sH b o e)
    ·have hl4 : (upd (upd H2 l (.lst [])) d (.dK (kvs ++ [(Sum.inr r.1, .ref l)]))) l = some (.lst []) := by rw [upd_ne nld]; exact upd_same
     refine ⟨.inl ⟨rfl, _, SqL.of hl4⟩, _, rfl, l, [], _, rfl, rfl, hl4, small1000 (by show 0 ≤ 1000; lia), _, kvs ++ [(Sum.inr r.1, .ref l)], rfl, ?_, ?_, fun b o e => ?_⟩
     ·rw [upd_ne (Ne.symm nld)]; exact upd_same
     ·rw [tw]
      exact R.new rfl hv hl hl0 hd2 ha2
     ·rw [upd_ne (ne_of_none e hl0), upd_ne (ne_of_none e hd), upd_ne (ne_of_none e hl0)]; exact sH b o e
   ·rintro σ H2 ⟨o, kvs, rfl, hd2, R, sH⟩
    rw [lz, List.take_length] at R
    exact ⟨_, rfl, k d kvs H2 hd2 hd R sH⟩
  ·refine ⟨_, rfl, p, rfl, .inr ⟨⟨_, tt s1 hp⟩, for_tup (xs := zs) Pv p0 (fun i σ H2 _ ⟨_, _, _, _, _, sH⟩ => tt sH hp) ?_ ?_⟩⟩
   ·rintro i x σ H2 hx ⟨o, kvs, rfl, hd2, R, sH⟩
    obtain ⟨r, er, a, rfl, ha⟩ := paired_at wr hx
    have li := (List.getElem?_eq_some_iff.mp hx).1
    have ha2 := sH _ _ ha
    have tw : w.take (i + 1) = w.take i ++ [r] := by rw [List.take_succ, er]; rfl
    have lk := R.len
    rw [List.length_take] at lk
    refine ⟨_, rfl, d, rfl, .inl ⟨_, .inl hd2⟩, _, rfl, a, _, 0, _, rfl, rfl, SqT.of ha2, rfl, by show 0 ≤ sizeLine; decide, fun l hl => ?_⟩
    have nld : l ≠ d := fun z => by rw [z, hd2] at hl; cases hl
    have hl0 : H l = none := by
     cases e : H l with
     | none => rfl
     | some o => rw [sH _ _ e] at hl; cases hl
    have hd3 : (upd H2 l (.lst [])) d = some (.dK kvs) := by rw [upd_ne (Ne.symm nld)]; exact hd2
    have s3 := same_new (o := .lst []) hl
    refine ⟨kvs, Sum.inr r.1, hd3, rfl, small1000 (by lia), fun v hv => ?_, fun hv => ?_⟩
    ·rcases R.at' r.1 with ⟨z, _⟩ | ⟨l2, zs2, h1, h2, h3, h4⟩
     ·rw [z] at hv; cases hv
     rw [hv] at h1
     cases h1
     have h3' := s3 _ _ h3
     have lz2 : zs2.length ≤ w.length := by rw [h4.len]; exact Nat.le_trans (List.length_filter_le _ _) (by rw [List.length_take]; lia)
     refine ⟨.inl ⟨rfl, _, SqL.of h3'⟩, _, rfl, l2, zs2, _, rfl, rfl, h3', small1000 (by lia), _, kvs, rfl, ?_, ?_, fun b o e => ?_⟩
     ·rw [upd_ne (ne_of hd3 h3' (by intro y; cases y))]; exact hd3
     ·rw [tw]
      exact RowsI.old (R.same s3) rfl hv h3' (s3 _ _ ha2)
     ·rw [upd_ne (ne_of_none e h2)]; exact s3 _ _ (sH b o e)
    ·have hl4 : (upd (upd H2 l (.lst [])) d (.dK (kvs ++ [(Sum.inr r.1, .ref l)]))) l = some (.lst []) := by rw [upd_ne nld]; exact upd_same
     refine ⟨.inl ⟨rfl, _, SqL.of hl4⟩, _, rfl, l, [], _, rfl, rfl, hl4, small1000 (by show 0 ≤ 1000; lia), _, kvs ++ [(Sum.inr r.1, .ref l)], rfl, ?_, ?_, fun b o e => ?_⟩
     ·rw [upd_ne (Ne.symm nld)]; exact upd_same
     ·rw [tw]
      exact R.new rfl hv hl hl0 hd2 ha2
     ·rw [upd_ne (ne_of_none e hl0), upd_ne (ne_of_none e hd), upd_ne (ne_of_none e hl0)]; exact sH b o e
   ·rintro σ H2 ⟨o, kvs, rfl, hd2, R, sH⟩
    rw [lz, List.take_length] at R
    exact ⟨_, rfl, k d kvs H2 hd2 hd R sH⟩
end
end Kx
end
section
set_option linter.all false
set_option maxRecDepth 100000
set_option maxHeartbeats 4000000
namespace Kx
open PySem L2
section
variable {P : Program} {w : World} {K : PySem.W.Frag} {mg : Str → Option Value} {base : Heap}
open Hm
abbrev sGoing : Stmt := top 2
theorem scGoing : FnScope ["web", "first", "lengths", "rows", "found", "names", "name", "row"] ["web", "first", "lengths"] (defScope sGoing) := ⟨rfl, rfl, rfl, (by simp only [List.nodup_cons, List.mem_cons, List.not_mem_nil, or_false, not_or, List.nodup_nil, and_true, not_false_eq_true]; (repeat' apply And.intro); all_goals decide +kernel), rfl, by decide +kernel, by decide +kernel⟩
def spGoing (K : PySem.W.Frag) : Sp := fun vs H Q _ => ∃ (q d : Addr) (first : Str) (zs : List V) (w : Wb.Web) (t : Tb), vs = [.ref q, .str first, .ref d] ∧ SqT K H q zs ∧ WR3 H zs w ∧ w.length ≤ 900 ∧ H d = some (.dK (kvW t)) ∧ ∀ f F H', H' f = some (.dK (kvB F)) → Wb.Led w first t F → Same H H' → Q (.ref f) H'
theorem ok_going {f fb fe : Addr} {fd fdb fde : FuncData} (F : Fun K "going_back" "going_back" sGoing f fd) (T : Bl mg)
  (Gby_from : FnOk P w K mg base CX0 1 fb fdb ["web"] (spByFrom K)) (Dby_from : Nm K mg "by_from" fb fdb ["web"]) (Gis_exact : FnOk P w K mg base CX0 1 fe fde ["row", "lengths"] spExact) (Dis_exact : Nm K mg "is_exact" fe fde ["row", "lengths"]) :
  FnOk P w K mg base CX0 2 f fd ["web", "first", "lengths"] (spGoing K) := by
 have sc := scGoing
 refine F.okQ scGoing (fun vs H Q E h => ?_) (fun cdv A outer s H vs Q E hr h => ?_)
 ·obtain ⟨q, d, first, zs, w, t, rfl, _⟩ := h
  rfl
 ·obtain ⟨q, d, first, zs, w, t, rfl, hq, wr, lw, hd, k⟩ := h
  have hu := hr.units0
  have tt : ∀ {H' : Hp}, Same H H' → SqT K H' q zs := fun k => hq.imp (fun z => z.imp (k _ _) (fun ⟨o, e⟩ => ⟨o, k _ _ e⟩)) id
  refine ⟨_, (qss_cons (qs_set (i := 3) sc.nd rfl (Or.inl rfl) (qe_call Gby_from (hr.mono (by decide)) rfl Dby_from.m Dby_from.k Dby_from.b .nil pass0 (qa_cons (qe_comp (Blk.of (N := ["web", "first", "lengths", "rows", "found", "names", "name", "row"]) (esc := defScope sGoing) (NB := ["lengths"]) (cap := [2]) rfl rfl (fun y hy => cell_has hy) rfl (by decide +kernel) (by decide +kernel) (by decide +kernel) rfl (by decide +kernel) rfl (by decide +kernel)) rfl rfl (qi_tup (qv 0)) (fun C fp s₀ H₀ => (qts_one (qt_val (qe_call Gis_exact (hr.mono (by decide)) rfl Dis_exact.m Dis_exact.k Dis_exact.b .nil pass0 (qa_cons (qv 0) (qa_cons (qv 1) qa_nil)))))) (fun C fp s₀ H₀ => (qv 0))) qa_nil)))
   (qss_cons (qs_set (i := 4) sc.nd rfl (Or.inl rfl) (qe_disp1 (qv 1) qe_bl))
   (qss_cons (qs_set (i := 5) sc.nd rfl (Or.inl rfl) (qe_lst (qa_cons (qv 1) qa_nil)))
   (qss_cons (qs_while PassesOwn.never (qt_cmpR op_gt (qe_callB call_len_seq (by rfl) T.z_len (by decide +kernel) (qa_cons (qv 5) qa_nil)) qe_int (nomark _)) (qss_cons (qs_set (i := 6) sc.nd rfl (Or.inl rfl) (qe_bm0 PySem.F.plainAttrs_list PySem.F.slot_list_pop PySem.F.type_list_pop mt_pop (qv 5)))
   (qss_one (qs_for PassesOwn.never rfl (qi_seq (qe_dget2 (hu_of hr) (qv 3) (qv 6) (qe_tup qa_nil) ⟨rfl, rfl, rfl, rfl⟩)) (qg_name (i := 7) sc.nd rfl (Or.inl rfl)) (qss_one (qs_if (qt_dnotin (hu_of hr) (qe_ix ix_tup (qv 7) qe_int (fun _ _ => rfl)) (qv 4)) (qss_cons (qs_dput (hu_of hr) (qv 4) (qe_ix ix_tup (qv 7) qe_int (fun _ _ => rfl)) qe_bl rfl)
   (qss_one (qs_expr (qe_bm PySem.F.plainAttrs_list PySem.F.slot_list_append PySem.F.type_list_append mt_append (qv 5) (qa_cons (qe_ix ix_tup (qv 7) qe_int (fun _ _ => rfl)) qa_nil))))) qss_nil))))))
   (qss_one (qs_ret (qv 4))))))), ?_⟩
  refine ⟨_, rfl, q, rfl, ⟨_, hq⟩, fun D hD => ?_⟩
  refine comp_tupR (K := K) (a := q) (xs := zs) (fun i ys H8 => H8 D = some (.lst ys) ∧ WR3 H8 ys ((w.take i).filter (Wb.exB t)) ∧ Same H H8) ⟨upd_same, .nil, same_new hD⟩ (fun i ys H8 z => ⟨z.1, tt z.2.2⟩) ?_ ?_
  ·rintro i x ys H8 hx ⟨h8, w8, s8⟩
   obtain ⟨r, er, a, rfl, ha⟩ := paired_at wr hx
   have li := (List.getElem?_eq_some_iff.mp hx).1
   have tw : w.take (i + 1) = w.take i ++ [r] := by rw [List.take_succ, er]; rfl
   have ly : ys.length ≤ 900 := by
    rw [w8.len]
    exact Nat.le_trans (List.length_filter_le _ _) (by rw [List.length_take]; lia)
   refine ⟨_, rfl, _, rfl, a, d, r, t, rfl, s8 _ _ ha, s8 _ _ hd, fun b hb => ?_⟩
   refine ⟨_, rfl, ?_⟩
   refine ite2 (fun c => ?_) (fun c => ?_)
   ·refine ⟨_, rfl, h8, small1000 (by lia), _, by lia, rfl, by lia, upd_same, ?_, fun b o e => ?_⟩
    ·rw [tw, List.filter_append, List.filter_cons_of_pos (Wb.exB_iff.mpr (hb.mp c)), List.filter_nil]
     exact (w8.stay (tk_lst h8)).snoc rfl (tk_lst h8 _ _ (s8 _ _ ha))
    ·rw [upd_ne (ne_of_none e hD)]; exact s8 _ _ e
   ·refine ⟨_, by lia, rfl, by lia, h8, ?_, s8⟩
    rw [tw, List.filter_append, List.filter_cons_of_neg (fun z => c (hb.mpr (Wb.exB_iff.mp z))), List.filter_nil, List.append_nil]
    exact w8
  rintro ys Ha ⟨h8, w8, s8⟩
  rw [wr.len, List.take_length] at w8
  have lf : (w.filter (Wb.exB t)).length ≤ w.length := List.length_filter_le _ _
  refine ⟨D, ys, w.filter (Wb.exB t), rfl, .inl (SqL.of h8), w8, by lia, fun dd kvs Hb hdd hdd0 R sb => ?_⟩
  refine fun f hf => ⟨_, rfl, upd_same, [(Sum.inr first, .bl true)], rfl, by show 1 ≤ 15; decide, ?_⟩
  rw [upd_upd]
  have sc_ := same_new (o := .dK (kvB [first])) hf
  have gc := upd_same (H := Hb) (a := f) (o := .dK (kvB [first]))
  have e1 : mergeK [] [(Sum.inr first, V.bl true)] = kvB [first] := rfl
  rw [e1]
  generalize upd Hb f (.dK (kvB [first])) = H1 at sc_ gc ⊢
  refine ⟨_, rfl, by show 1 ≤ sizeLine; decide, fun l hl => ?_⟩
  have s1 := same_new (o := .lst [.str first]) hl
  have g1 := upd_same (H := H1) (a := l) (o := .lst [.str first])
  have gf1 := s1 _ _ gc
  have sH1 := sc_.trans s1
  have hfc := hf
  have hlc : Hb l = none := by
   cases e : Hb l with
   | none => rfl
   | some o => rw [sc_ _ _ e] at hl; cases hl
  generalize upd H1 l (.lst [.str first]) = H2 at s1 g1 gf1 sH1 ⊢
  refine ⟨fun m σ H3 => ∃ (F S : List Str) (oname orow : Option V), σ = [some (.ref q), some (.str first), some (.ref d), some (.ref dd), some (.ref f), some (.ref l), oname, orow] ∧ H3 f = some (.dK (kvB F)) ∧ H3 l = some (.lst (S.map V.str)) ∧ Same Hb H3 ∧ Wb.GB w first t F S ∧ S.length ≤ F.length ∧ m = 2 * (w.length + 1 - F.length) + S.length,
   ⟨_, [first], [first], none, none, rfl, gf1, g1, sH1, Wb.GB.start, Nat.le_refl _, rfl⟩, ?_⟩
  rintro m σ H3 ⟨F, S, oname, orow, rfl, hf3, hl3, s3, G, lSF, rfl⟩
  refine ⟨_, rfl, l, _, rfl, .inl (SqL.of hl3), _, _, rfl, rfl, _, rfl, ite2 (fun c => ?_) (fun c => ?_)⟩
  rotate_left
  ·have c' : ¬ ((S.map V.str).length : Int) > 0 := by simpa using c
   obtain rfl : S = [] := List.length_eq_zero_iff.mp (by rw [List.length_map] at c'; lia)
   exact ⟨_, rfl, k f F H3 hf3 G.done ((s8.trans sb).trans s3)⟩
  obtain ⟨S, name, rfl⟩ : ∃ S' n, S = S' ++ [n] := by
   have ne : S ≠ [] := fun z => by subst z; simp at c
   exact ⟨S.dropLast, S.getLast ne, (List.dropLast_concat_getLast ne).symm⟩
  refine ⟨fun σ' H' => ∃ m', m' < 2 * (w.length + 1 - F.length) + (S ++ [name]).length ∧ ∃ (F S : List Str) (oname orow : Option V), σ' = [some (.ref q), some (.str first), some (.ref d), some (.ref dd), some (.ref f), some (.ref l), oname, orow] ∧ H' f = some (.dK (kvB F)) ∧ H' l = some (.lst (S.map V.str)) ∧ Same Hb H' ∧ Wb.GB w first t F S ∧ S.length ≤ F.length ∧ m' = 2 * (w.length + 1 - F.length) + S.length, fun σ' H' z => z, ?_⟩
  have em : (S ++ [name]).map V.str = S.map V.str ++ [.str name] := by rw [List.map_append]; rfl
  rw [em] at hl3
  have nfl : f ≠ l := ne_of hf3 hl3 (by intro y; cases y)
  refine ⟨_, rfl, .inl ⟨rfl, _, SqL.of hl3⟩, l, _, .str name, rfl, rfl, hl3, by rw [List.length_append]; simp, ?_⟩
  rw [List.dropLast_concat]
  have hfp : (upd H3 l (.lst (S.map V.str))) f = some (.dK (kvB F)) := by rw [upd_ne nfl]; exact hf3
  have glp := upd_same (H := H3) (a := l) (o := .lst (S.map V.str))
  have sp : Same Hb (upd H3 l (.lst (S.map V.str))) := fun b o e => by rw [upd_ne (ne_of_none e hlc)]; exact s3 _ _ e
  generalize upd H3 l (.lst (S.map V.str)) = H4 at hfp glp sp ⊢
  refine ⟨_, rfl, dd, rfl, .inl ⟨_, .inl (sp _ _ hdd)⟩, _, rfl, by show 0 ≤ sizeLine; decide, fun q0 hq0 => ?_⟩
  have s5' := same_new (o := .tup []) hq0
  have gq := upd_same (H := H4) (a := q0) (o := .tup [])
  have hf5 := s5' _ _ hfp
  have hl5 := s5' _ _ glp
  have s5 := sp.trans s5'
  generalize upd H4 q0 (.tup []) = H5 at gq hf5 hl5 s5 ⊢
  refine ⟨_, DGet.k (k := Sum.inr name) (s5 _ _ hdd), ?_⟩
  rcases R.at' name with ⟨z1, z2⟩ | ⟨l2, zs2, h1, h2, h3, h4⟩
  ·rw [z1]
   have w4 : WR3 Hb [] ((w.filter (Wb.exB t)).filter fun r => decide (r.1 = name)) := by rw [z2]; exact .nil
   have hx : ∀ {H' : Hp}, Same Hb H' → H' q0 = some (.tup []) → SqT K H' q0 [] := fun _ e => SqT.of e
   refine ⟨_, rfl, .inr ⟨⟨_, hx s5 gq⟩, for_tup (xs := []) (fun j σ H4 => ∃ (F' S' : List Str) (o : Option V), σ = [some (.ref q), some (.str first), some (.ref d), some (.ref dd), some (.ref f), some (.ref l), some (.str name), o] ∧ H4 f = some (.dK (kvB F')) ∧ H4 l = some (.lst (S'.map V.str)) ∧ Same Hb H4 ∧ H4 q0 = some (.tup []) ∧ Wb.GN w first t name F' S' (((w.filter (Wb.exB t)).filter fun r => decide (r.1 = name)).take j) ∧ 2 * (w.length + 1 - F'.length) + S'.length + 1 ≤ 2 * (w.length + 1 - F.length) + (S ++ [name]).length ∧ S'.length + 1 ≤ F'.length)
     ⟨F, S, orow, rfl, hf5, hl5, s5, gq, G.pop, by rw [List.length_append]; show _ ≤ _ + (S.length + 1); lia, by rw [List.length_append] at lSF; exact lSF⟩ (fun j σ H4 _ ⟨_, _, _, _, _, _, s4, g4, _⟩ => hx s4 g4) ?_ ?_⟩⟩
   ·rintro j x σ H4 hx ⟨F', S', o, rfl, hf4, hl4, s4, gq4, GG, mm, lS4⟩
    obtain ⟨r, er, a, rfl, ha⟩ := paired_at w4 hx
    have ha4 := s4 _ _ ha
    have rm : r ∈ (w.filter (Wb.exB t)).filter fun r => decide (r.1 = name) := List.mem_of_getElem? er
    obtain ⟨rm1, rn⟩ := List.mem_filter.mp rm
    obtain ⟨rw_, rx⟩ := List.mem_filter.mp rm1
    have tk1 : ((w.filter (Wb.exB t)).filter fun r => decide (r.1 = name)).take (j + 1) = ((w.filter (Wb.exB t)).filter fun r => decide (r.1 = name)).take j ++ [r] := by rw [List.take_succ, er]; rfl
    have lF := GG.len
    refine ⟨_, rfl, a, _, 1, _, rfl, rfl, SqT.of ha4, rfl, _, rfl, f, _, rfl, DGet.k (k := Sum.inr r.2.1) hf4, _, rfl, ?_⟩
    rw [kvB_get]
    refine ite2 (fun c => ?_) (fun c => ?_)
    ·have hn : r.2.1 ∉ F' := by simpa using c
     have nfl : f ≠ l := ne_of hf4 hl4 (by intro y; cases y)
     have lF2 : (F' ++ [r.2.1]).length = F'.length + 1 := by rw [List.length_append]; rfl
     have G2 := GG.new (r := r) (of_decide_eq_true rn) rw_ (Wb.exB_iff.mp rx) hn
     have lG2 := G2.len
     have lkv : (kvB F').length = F'.length := List.length_map ..
     refine ⟨_, rfl, _, rfl, a, _, 1, _, rfl, rfl, SqT.of ha4, rfl, f, _, rfl, DPut.k (k := Sum.inr r.2.1) hf4 (small1000 (by lia)), ?_⟩
     rw [kvB_put hn]
     have hl5 : (upd H4 f (.dK (kvB (F' ++ [r.2.1])))) l = some (.lst (S'.map V.str)) := by rw [upd_ne (Ne.symm nfl)]; exact hl4
     have ha5 := tk_dK (u := .dK (kvB (F' ++ [r.2.1]))) hf4 _ _ ha4
     refine ⟨_, rfl, .inl ⟨rfl, _, SqL.of hl5⟩, _, rfl, a, _, 1, _, rfl, rfl, SqT.of ha5, rfl, l, _, _, rfl, rfl, hl5, small1000 (by rw [List.length_map]; lia), F' ++ [r.2.1], S' ++ [r.2.1], _, rfl, ?_, ?_, fun b o e => ?_, ?_, ?_, ?_, by rw [lF2, List.length_append]; show S'.length + 1 + 1 ≤ _; lia⟩
     ·rw [upd_ne nfl]; exact upd_same
     ·rw [upd_same, List.map_append]; rfl
     ·rw [upd_ne (ne_of_none e hlc), upd_ne (ne_of_none e hfc)]; exact s4 _ _ e
     ·rw [upd_ne (ne_of gq4 hl4 (by intro y; cases y)), upd_ne (ne_of gq4 hf4 (by intro y; cases y))]; exact gq4
     ·rw [tk1]; exact G2
     ·rw [lF2, List.length_append]
      show _ + (S'.length + 1) + 1 ≤ _
      lia
    ·have hn : r.2.1 ∈ F' := by simpa using c
     exact ⟨F', S', _, rfl, hf4, hl4, s4, gq4, by rw [tk1]; exact GG.old hn, mm, lS4⟩
   ·rintro σ H4 ⟨F', S', o, rfl, hf4, hl4, s4, gq4, GG, mm, lS4⟩
    have GG' := GG
    rw [w4.len, List.take_length] at GG'
    refine ⟨_, by lia, F', S', _, _, rfl, hf4, hl4, s4, GG'.fin fun r h1 h2 h3 => List.mem_filter.mpr ⟨List.mem_filter.mpr ⟨h1, Wb.exB_iff.mpr h2⟩, decide_eq_true h3⟩, by lia, rfl⟩
  ·rw [h1]
   have hx : ∀ {H' : Hp}, Same Hb H' → H' q0 = some (.tup []) → SqL K H' l2 zs2 := fun s _ => SqL.of (s _ _ h3)
   refine ⟨_, rfl, .inl ⟨⟨_, hx s5 gq⟩, for_list (xs := zs2) (fun j σ H4 => ∃ (F' S' : List Str) (o : Option V), σ = [some (.ref q), some (.str first), some (.ref d), some (.ref dd), some (.ref f), some (.ref l), some (.str name), o] ∧ H4 f = some (.dK (kvB F')) ∧ H4 l = some (.lst (S'.map V.str)) ∧ Same Hb H4 ∧ H4 q0 = some (.tup []) ∧ Wb.GN w first t name F' S' (((w.filter (Wb.exB t)).filter fun r => decide (r.1 = name)).take j) ∧ 2 * (w.length + 1 - F'.length) + S'.length + 1 ≤ 2 * (w.length + 1 - F.length) + (S ++ [name]).length ∧ S'.length + 1 ≤ F'.length)
     ⟨F, S, orow, rfl, hf5, hl5, s5, gq, G.pop, by rw [List.length_append]; show _ ≤ _ + (S.length + 1); lia, by rw [List.length_append] at lSF; exact lSF⟩ (fun j σ H4 _ ⟨_, _, _, _, _, _, s4, g4, _⟩ => hx s4 g4) ?_ ?_⟩⟩
   ·rintro j x σ H4 hx ⟨F', S', o, rfl, hf4, hl4, s4, gq4, GG, mm, lS4⟩
    obtain ⟨r, er, a, rfl, ha⟩ := paired_at h4 hx
    have ha4 := s4 _ _ ha
    have rm : r ∈ (w.filter (Wb.exB t)).filter fun r => decide (r.1 = name) := List.mem_of_getElem? er
    obtain ⟨rm1, rn⟩ := List.mem_filter.mp rm
    obtain ⟨rw_, rx⟩ := List.mem_filter.mp rm1
    have tk1 : ((w.filter (Wb.exB t)).filter fun r => decide (r.1 = name)).take (j + 1) = ((w.filter (Wb.exB t)).filter fun r => decide (r.1 = name)).take j ++ [r] := by rw [List.take_succ, er]; rfl
    have lF := GG.len
    refine ⟨_, rfl, a, _, 1, _, rfl, rfl, SqT.of ha4, rfl, _, rfl, f, _, rfl, DGet.k (k := Sum.inr r.2.1) hf4, _, rfl, ?_⟩
    rw [kvB_get]
    refine ite2 (fun c => ?_) (fun c => ?_)
    ·have hn : r.2.1 ∉ F' := by simpa using c
     have nfl : f ≠ l := ne_of hf4 hl4 (by intro y; cases y)
     have lF2 : (F' ++ [r.2.1]).length = F'.length + 1 := by rw [List.length_append]; rfl
     have G2 := GG.new (r := r) (of_decide_eq_true rn) rw_ (Wb.exB_iff.mp rx) hn
     have lG2 := G2.len
     have lkv : (kvB F').length = F'.length := List.length_map ..
     refine ⟨_, rfl, _, rfl, a, _, 1, _, rfl, rfl, SqT.of ha4, rfl, f, _, rfl, DPut.k (k := Sum.inr r.2.1) hf4 (small1000 (by lia)), ?_⟩
     rw [kvB_put hn]
     have hl5 : (upd H4 f (.dK (kvB (F' ++ [r.2.1])))) l = some (.lst (S'.map V.str)) := by rw [upd_ne (Ne.symm nfl)]; exact hl4
     have ha5 := tk_dK (u := .dK (kvB (F' ++ [r.2.1]))) hf4 _ _ ha4
     refine ⟨_, rfl, .inl ⟨rfl, _, SqL.of hl5⟩, _, rfl, a, _, 1, _, rfl, rfl, SqT.of ha5, rfl, l, _, _, rfl, rfl, hl5, small1000 (by rw [List.length_map]; lia), F' ++ [r.2.1], S' ++ [r.2.1], _, rfl, ?_, ?_, fun b o e => ?_, ?_, ?_, ?_, by rw [lF2, List.length_append]; show S'.length + 1 + 1 ≤ _; lia⟩
     ·rw [upd_ne nfl]; exact upd_same
     ·rw [upd_same, List.map_append]; rfl
     ·rw [upd_ne (ne_of_none e hlc), upd_ne (ne_of_none e hfc)]; exact s4 _ _ e
     ·rw [upd_ne (ne_of gq4 hl4 (by intro y; cases y)), upd_ne (ne_of gq4 hf4 (by intro y; cases y))]; exact gq4
     ·rw [tk1]; exact G2
     ·rw [lF2, List.length_append]
      show _ + (S'.length + 1) + 1 ≤ _
      lia
    ·have hn : r.2.1 ∈ F' := by simpa using c
     exact ⟨F', S', _, rfl, hf4, hl4, s4, gq4, by rw [tk1]; exact GG.old hn, mm, lS4⟩
   ·rintro σ H4 ⟨F', S', o, rfl, hf4, hl4, s4, gq4, GG, mm, lS4⟩
    have GG' := GG
    rw [h4.len, List.take_length] at GG'
    refine ⟨_, by lia, F', S', _, _, rfl, hf4, hl4, s4, GG'.fin fun r h1 h2 h3 => List.mem_filter.mpr ⟨List.mem_filter.mpr ⟨h1, Wb.exB_iff.mpr h2⟩, decide_eq_true h3⟩, by lia, rfl⟩
end
end Kx
end
section
set_option linter.all false
set_option maxRecDepth 100000
set_option maxHeartbeats 4000000
namespace Kx
open PySem L2
section
variable {P : Program} {w : World} {K : PySem.W.Frag} {mg : Str → Option Value} {base : Heap}
open Hm
abbrev sLShown : Stmt := top 1
theorem scLShown : FnScope ["web", "first", "lengths"] ["web", "first", "lengths"] (defScope sLShown) := ⟨rfl, rfl, rfl, (by simp only [List.nodup_cons, List.mem_cons, List.not_mem_nil, or_false, not_or, List.nodup_nil, and_true, not_false_eq_true]; (repeat' apply And.intro); all_goals decide +kernel), rfl, by decide +kernel, by decide +kernel⟩
def spLShown (K : PySem.W.Frag) : Sp := fun vs H Q _ => ∃ (q d : Addr) (first : Str) (zs : List V) (w : Wb.Web) (t : Tb), vs = [.ref q, .str first, .ref d] ∧ SqT K H q zs ∧ WR3 H zs w ∧ w.length ≤ 900 ∧ H d = some (.dK (kvW t)) ∧ ∀ (b : Bool) H', (b = true ↔ Wb.ShownP w first t) → Same H H' → Q (.bl b) H'
theorem ok_lshown {f fb fe : Addr} {fd fdb fde : FuncData} (F : Fun K "lengths_shown" "lengths_shown" sLShown f fd) (T : Bl mg) (z_any : mg "any" = none)
  (Ggoing_back : FnOk P w K mg base CX0 2 fb fdb ["web", "first", "lengths"] (spGoing K)) (Dgoing_back : Nm K mg "going_back" fb fdb ["web", "first", "lengths"]) (Gis_nearer : FnOk P w K mg base CX0 1 fe fde ["row", "lengths"] spNearer) (Dis_nearer : Nm K mg "is_nearer" fe fde ["row", "lengths"]) :
  FnOk P w K mg base CX0 3 f fd ["web", "first", "lengths"] (spLShown K) := by
 have sc := scLShown
 refine F.okQ scLShown (fun vs H Q E h => ?_) (fun cdv A outer s H vs Q E hr h => ?_)
 ·obtain ⟨q, d, first, zs, w, t, rfl, _⟩ := h
  rfl
 ·obtain ⟨q, d, first, zs, w, t, rfl, hq, wr, lw, hd, k⟩ := h
  have hu := hr.units0
  have tt : ∀ {H' : Hp}, Same H H' → SqT K H' q zs := fun k => hq.imp (fun z => z.imp (k _ _) (fun ⟨o, e⟩ => ⟨o, k _ _ e⟩)) id
  refine ⟨_, (qss_cons (qs_if (qt_cmpR op_ne (qe_dget1 (hu_of hr) (qv 2) (qv 1) ⟨rfl, rfl, rfl, rfl⟩) qe_int (nomark _)) (qss_one (qs_ret qe_bl)) qss_nil)
   (qss_cons (qs_if (qt_val (qe_callB (call_anyB rfl) (by rfl) z_any (by decide +kernel) (qa_cons (qe_comp (Blk.of (N := ["web", "first", "lengths"]) (esc := defScope sLShown) (NB := ["lengths"]) (cap := [2]) rfl rfl (fun y hy => cell_has hy) rfl (by decide +kernel) (by decide +kernel) (by decide +kernel) rfl (by decide +kernel) rfl (by decide +kernel)) rfl rfl (qi_tup (qv 0)) (fun C fp s₀ H₀ => qts_nil) (fun C fp s₀ H₀ => (qe_call Gis_nearer (hr.mono (by decide)) rfl Dis_nearer.m Dis_nearer.k Dis_nearer.b .nil pass0 (qa_cons (qv 0) (qa_cons (qv 1) qa_nil))))) qa_nil))) (qss_one (qs_ret qe_bl)) qss_nil)
   (qss_one (qs_ret (qe_cmpR op_eq (qe_callB call_lenD (by rfl) T.z_len (by decide +kernel) (qa_cons (qe_call Ggoing_back (hr.mono (by decide)) rfl Dgoing_back.m Dgoing_back.k Dgoing_back.b .nil pass0 (qa_cons (qv 0) (qa_cons (qv 1) (qa_cons (qv 2) qa_nil)))) qa_nil)) (qe_callB call_lenD (by rfl) T.z_len (by decide +kernel) (qa_cons (qv 2) qa_nil)) (nomark _)))))), ?_⟩
  refine ⟨_, rfl, d, rfl, .inl ⟨_, .inl hd⟩, _, rfl, _, DGet.k (k := Sum.inr first) hd, ?_⟩
  rw [kvW_get]
  cases e0 : Gm.dget t first with
  | none => exact ⟨rfl, _, rfl, ite2 (fun _ => k false H ⟨fun z => (nomatch z), fun ⟨z, _⟩ => by rw [e0] at z; cases z⟩ (Same.refl _)) (fun c => absurd (by simp) c)⟩
  | some v =>
  refine ⟨rfl, _, rfl, ?_⟩
  refine ite2 (fun c => ?_) (fun c => ?_)
  ·have c' : ¬ v = 0 := fun z => by subst z; simp at c
   exact k false H ⟨fun z => (nomatch z), fun ⟨z, _⟩ => by rw [e0] at z; cases z; exact absurd rfl c'⟩ (Same.refl _)
  have v0 : v = 0 := by simpa using c
  subst v0
  refine ⟨_, rfl, q, rfl, ⟨_, hq⟩, fun D hD => ?_⟩
  refine comp_tupR (K := K) (a := q) (xs := zs) (fun i ys H8 => H8 D = some (.lst ys) ∧ Same H H8 ∧ ∃ bs : List Bool, ys = bs.map V.bl ∧ bs.length = i ∧ ∀ (j : Nat) (b : Bool) (r : Wb.Row), bs[j]? = some b → w[j]? = some r → (b = true ↔ Wb.Nearer t r)) ⟨upd_same, same_new hD, [], rfl, rfl, fun j b r h => by cases h⟩ (fun i ys H8 z => ⟨z.1, tt z.2.1⟩) ?_ ?_
  ·rintro i x ys H8 hx ⟨h8, s8, bs, rfl, lb, hb⟩
   obtain ⟨r, er, a, rfl, ha⟩ := paired_at wr hx
   have li := (List.getElem?_eq_some_iff.mp hx).1
   have lz := wr.len
   unfold tYes
   dsimp only
   rw [if_pos rfl]
   refine ⟨_, rfl, _, rfl, a, d, r, t, rfl, s8 _ _ ha, s8 _ _ hd, fun b hbr => ⟨h8, small1000 (by rw [List.length_map]; lia), _, by lia, rfl, by lia, upd_same, fun c o e => ?_, bs ++ [b], by rw [List.map_append]; rfl, by rw [List.length_append, lb]; rfl, fun j b' r' e1 e2 => ?_⟩⟩
   ·rw [upd_ne (ne_of_none e hD)]; exact s8 _ _ e
   ·by_cases z : j < bs.length
    ·rw [List.getElem?_append_left z] at e1
     exact hb j b' r' e1 e2
    ·have ej : j = bs.length := by
      have := (List.getElem?_eq_some_iff.mp e1).1
      rw [List.length_append] at this
      have h1 : ([b] : List Bool).length = 1 := rfl
      lia
     rw [ej, List.getElem?_append_right (Nat.le_refl _), Nat.sub_self] at e1
     cases e1
     rw [ej, lb, er] at e2
     cases e2
     exact hbr
  rintro ys Ha ⟨h8, s8, bs, rfl, lb, hb⟩
  refine ⟨D, bs, rfl, SqL.of h8, _, rfl, ?_⟩
  have lw2 : bs.length = w.length := lb.trans wr.len
  refine ite2 (fun c => ?_) (fun c => ?_)
  ·obtain ⟨b, hb1, hb2⟩ := List.any_eq_true.mp c
   obtain ⟨j, hj, ej⟩ := List.getElem_of_mem hb1
   have hn := (hb j b w[j] (by rw [List.getElem?_eq_getElem hj, ej]) (List.getElem?_eq_getElem (by lia))).mp hb2
   exact k false Ha ⟨fun z => (nomatch z), fun ⟨_, z, _⟩ => absurd hn (z _ (List.getElem_mem _))⟩ s8
  have nn : ∀ r ∈ w, ¬ Wb.Nearer t r := fun r hr hn => by
   obtain ⟨j, hj, ej⟩ := List.getElem_of_mem hr
   have h1 : bs[j]? = some bs[j] := List.getElem?_eq_getElem (by lia)
   have := (hb j bs[j] r h1 (by rw [List.getElem?_eq_getElem hj, ej])).mpr hn
   exact c (List.any_eq_true.mpr ⟨_, List.getElem_mem _, this⟩)
  refine ⟨_, rfl, _, rfl, _, rfl, q, d, first, zs, w, t, rfl, tt s8, wr.stay (fun b l e => s8 _ _ e), lw, s8 _ _ hd, fun f F Hb hf led sb => ?_⟩
  have sH := s8.trans sb
  refine ⟨f, _, rfl, hf, _, rfl, d, _, rfl, sH _ _ hd, rfl, k _ Hb ?_ sH⟩
  rw [decide_eq_true_eq, Wb.shown_iff e0 nn led]
  have l1 : (kvB F).length = F.length := List.length_map ..
  have l2 : (kvW t).length = t.length := kvW_len
  rw [l1, l2]
  exact ⟨fun h => by have := V.int.inj h; lia, fun h => by rw [h]⟩
end
end Kx
end
section
set_option linter.all false
set_option maxRecDepth 100000
set_option maxHeartbeats 4000000
namespace Kx
open PySem L2
section
variable {P : Program} {w : World} {K : PySem.W.Frag} {mg : Str → Option Value} {base : Heap}
open Hm
theorem kvW_one {n : Str} {i : Int} : mergeK [] [(Sum.inr n, V.int i)] = kvW [(n, i)] := rfl
theorem dget_k {H : Hp} {d : Addr} {t : Tb} {n : Str} {v : Int} (h : H d = some (.dK (kvW t))) (e : Gm.dget t n = some v) : DGet H d (.str n) (some (.int v)) := by
 have := DGet.k (k := Sum.inr n) h
 rw [kvW_get, e] at this
 exact this
abbrev sFar : Stmt := top 10
theorem scFar : FnScope ["web", "first", "far", "nearer", "start", "goal", "length", "there"] ["web", "first"] (defScope sFar) := ⟨rfl, rfl, rfl, (by simp only [List.nodup_cons, List.mem_cons, List.not_mem_nil, or_false, not_or, List.nodup_nil, and_true, not_false_eq_true]; (repeat' apply And.intro); all_goals decide +kernel), rfl, by decide +kernel, by decide +kernel⟩
def spFar (K : PySem.W.Frag) : Sp := fun vs H Q _ => ∃ (q : Addr) (first : Str) (zs : List V) (w : Wb.Web), vs = [.ref q, .str first] ∧ SqT K H q zs ∧ WR3 H zs w ∧ w.length ≤ 900 ∧ (∀ r ∈ w, 1 ≤ r.2.2) ∧ ∀ d far H', H d = none → H' d = some (.dK (kvW far)) → Wb.FarOk w first far → Same H H' → Q (.ref d) H'
theorem ok_far {f : Addr} {fd : FuncData} (F : Fun K "_law_far" "_law_far" sFar f fd) (T : Bl mg) : FnOk P w K mg base CX0 1 f fd ["web", "first"] (spFar K) := by
 have sc := scFar
 refine F.okQ scFar (fun vs H Q E h => ?_) (fun cdv A outer s H vs Q E hr h => ?_)
 ·obtain ⟨q, first, zs, w, rfl, _⟩ := h
  rfl
 ·obtain ⟨q, first, zs, w, rfl, hq, wr, lw, hw, k⟩ := h
  have hu := hr.units0
  have tt : ∀ {H' : Hp}, Same H H' → SqT K H' q zs := fun k => hq.imp (fun z => z.imp (k _ _) (fun ⟨o, e⟩ => ⟨o, k _ _ e⟩)) id
  refine ⟨_, (qss_cons (qs_set (i := 2) sc.nd rfl (Or.inl rfl) (qe_disp1 (qv 1) qe_int))
   (qss_one (qs_while PassesOwn.never (qt_val qe_bl) (qss_cons (qs_set (i := 3) sc.nd rfl (Or.inl rfl) qe_bl)
   (qss_cons (qs_for PassesOwn.never rfl (qi_tup (qv 0)) (qg_tup rfl (qgs_cons (qg_name (i := 4) sc.nd rfl (Or.inl rfl)) (qgs_cons (qg_name (i := 5) sc.nd rfl (Or.inl rfl)) (qgs_cons (qg_name (i := 6) sc.nd rfl (Or.inl rfl)) qgs_nil)))) (qss_cons (qs_set (i := 7) sc.nd rfl (Or.inl rfl) (qe_op op_add (qe_dget2 (hu_of hr) (qv 2) (qv 4) qe_int ⟨rfl, rfl, rfl, rfl⟩) (qv 6)))
   (qss_one (qs_if (QW.pt (qw_and (qt_din (hu_of hr) (qv 4) (qv 2)) (qw_and1 (QW.pt (qw_or (qt_dnotin (hu_of hr) (qv 5) (qv 2)) (qw_or1 (qt_cmpR op_lt (qv 7) (qe_dget (hu_of hr) (qv 2) (qv 5) (fun _ _ => rfl)) (nomark _)))))))) (qss_cons (qs_dput (hu_of hr) (qv 2) (qv 5) (qv 7) rfl)
   (qss_one (qs_set (i := 3) sc.nd rfl (Or.inl rfl) qe_bl))) qss_nil))))
   (qss_one (qs_if (qt_not (qt_val (qv 3))) (qss_one (qs_ret (qv 2))) qss_nil))))))), ?_⟩
  refine fun d hd => ⟨_, rfl, upd_same, [(Sum.inr first, .int 0)], rfl, by show 1 ≤ 15; decide, ?_⟩
  rw [upd_upd, kvW_one]
  have s1 := same_new (o := .dK (kvW [(first, 0)])) hd
  have g1 := upd_same (H := H) (a := d) (o := .dK (kvW [(first, 0)]))
  generalize upd H d (.dK (kvW [(first, 0)])) = H1 at s1 g1 ⊢
  obtain ⟨n, hn⟩ := Wb.rds hw _ _ _ rfl rfl (Wb.FarInv.start (web := w) (first := first))
  refine ⟨fun m σ H2 => ∃ (far : Tb) (o3 o4 o5 o6 o7 : Option V), σ = [some (.ref q), some (.str first), some (.ref d), o3, o4, o5, o6, o7] ∧ H2 d = some (.dK (kvW far)) ∧ Same H H2 ∧ Wb.FarInv w first far ∧ Wb.Rds w m far,
   ⟨n, _, none, none, none, none, none, rfl, g1, s1, Wb.FarInv.start, hn⟩, ?_⟩
  rintro m σ H2 ⟨far, o3, o4, o5, o6, o7, rfl, h2, s2, I, hm⟩
  refine ⟨_, rfl, ite2 (fun _ => ?_) (fun c => absurd rfl c)⟩
  refine ⟨fun σ' H' => ∃ m', m' < m ∧ ∃ (far : Tb) (o3 o4 o5 o6 o7 : Option V), σ' = [some (.ref q), some (.str first), some (.ref d), o3, o4, o5, o6, o7] ∧ H' d = some (.dK (kvW far)) ∧ Same H H' ∧ Wb.FarInv w first far ∧ Wb.Rds w m' far, fun σ' H' z => z, ?_⟩
  refine ⟨_, rfl, q, rfl, ⟨_, tt s2⟩, for_tup (xs := zs) (fun i σ H3 => ∃ (o4 o5 o6 o7 : Option V), σ = [some (.ref q), some (.str first), some (.ref d), some (.bl ((w.take i).foldl Wb.rl (far, false)).2), o4, o5, o6, o7] ∧ H3 d = some (.dK (kvW ((w.take i).foldl Wb.rl (far, false)).1)) ∧ Same H H3)
   ⟨o4, o5, o6, o7, rfl, h2, s2⟩ (fun i σ H3 _ ⟨_, _, _, _, _, _, z⟩ => tt z) ?_ ?_⟩
  ·rintro i x σ H3 hx ⟨o4, o5, o6, o7, rfl, h3, s3⟩
   obtain ⟨r, er, a, rfl, ha⟩ := paired_at wr hx
   have ha3 := s3 _ _ ha
   have ft := Wb.fold_take (c := (far, false)) er
   obtain ⟨J, -⟩ := Wb.rl_fold (rs := w.take i) (c := (far, false)) I hw fun _ h => List.mem_of_mem_take h
   have lF := J.len
   generalize (w.take i).foldl Wb.rl (far, false) = c at h3 ft J lF ⊢
   refine ⟨a, _, rfl, SqT.of ha3, rfl, _, _, rfl, _, _, rfl, _, _, rfl, rfl, ?_⟩
   have nx : ∀ (c' : Tb × Bool) (H4 : Hp) (o : Option V), Wb.rl c r = c' → H4 d = some (.dK (kvW c'.1)) → Same H H4 → ∃ (o4 o5 o6 o7 : Option V), [some (.ref q), some (.str first), some (.ref d), some (.bl c'.2), some (.str r.1), some (.str r.2.1), some (.int r.2.2), o] = [some (.ref q), some (.str first), some (.ref d), some (.bl ((w.take (i + 1)).foldl Wb.rl (far, false)).2), o4, o5, o6, o7] ∧ H4 d = some (.dK (kvW ((w.take (i + 1)).foldl Wb.rl (far, false)).1)) ∧ Same H H4 := fun c' H4 o e h4 s4 => by
    rw [ft, e]
    exact ⟨_, _, _, _, rfl, h4, s4⟩
   have pt : ∀ (v : Int), Same H (upd H3 d (.dK (kvW (Gm.dput c.1 r.2.1 v)))) := fun v b o e => by rw [upd_ne (ne_of_none e hd)]; exact s3 _ _ e
   have lk : (kvW c.1).length = c.1.length := kvW_len
   cases e1 : Gm.dget c.1 r.1 with
   | none =>
    refine ⟨_, rfl, d, rfl, .inl ⟨_, .inl h3⟩, _, rfl, _, DGet.k (k := Sum.inr r.1) h3, _, rfl, 0, r.2.2, by rw [kvW_get, e1]; rfl, rfl, ?_⟩
    refine ⟨_, rfl, _, rfl, d, _, rfl, DGet.k (k := Sum.inr r.1) h3, _, rfl, ite2 (fun z => ?_) (fun _ => ?_)⟩
    ·rw [kvW_get, e1] at z; cases z
    ·exact nx c H3 _ (Wb.rl_none e1) h3 s3
   | some u =>
    have gu := dget_k h3 e1
    refine ⟨_, rfl, d, rfl, .inl ⟨_, .inl h3⟩, _, rfl, _, gu, _, rfl, u, r.2.2, rfl, rfl, ?_⟩
    refine ⟨_, rfl, _, rfl, d, _, rfl, gu, _, rfl, ite2 (fun _ => ?_) (fun z => absurd rfl z)⟩
    cases e2 : Gm.dget c.1 r.2.1 with
    | none =>
     refine ⟨_, rfl, _, rfl, d, _, rfl, DGet.k (k := Sum.inr r.2.1) h3, _, rfl, ite2 (fun _ => ?_) (fun z => ?_)⟩
     ·refine ⟨_, rfl, _, rfl, _, rfl, d, _, rfl, DPut.k (k := Sum.inr r.2.1) h3 (small1000 (by lia)), ?_⟩
      rw [kvW_put]
      exact nx _ _ _ (Wb.rl_new e1 e2) upd_same (pt _)
     ·rw [kvW_get, e2] at z; exact absurd rfl z
    | some v =>
     have gv := dget_k h3 e2
     refine ⟨_, rfl, _, rfl, d, _, rfl, gv, _, rfl, ite2 (fun z => by cases z) (fun _ => ?_)⟩
     refine ⟨_, rfl, _, rfl, _, rfl, d, _, rfl, gv, _, _, rfl, rfl, _, rfl, ite2 (fun z => ?_) (fun z => ?_)⟩
     ·refine ⟨_, rfl, _, rfl, _, rfl, d, _, rfl, DPut.k (k := Sum.inr r.2.1) h3 (small1000 (by lia)), ?_⟩
      rw [kvW_put]
      exact nx _ _ _ (Wb.rl_near e1 e2 (of_decide_eq_true z)) upd_same (pt _)
     ·exact nx c H3 _ (Wb.rl_far e1 e2 (fun y => z (decide_eq_true y))) h3 s3
  rintro σ H3 ⟨o4, o5, o6, o7, rfl, h3, s3⟩
  rw [wr.len, List.take_length] at h3 ⊢
  obtain ⟨J, jj⟩ := Wb.rl_fold (rs := w) (c := (far, false)) I hw fun _ h => h
  refine ⟨_, rfl, _, rfl, ite2 (fun c => ?_) (fun c => ?_)⟩
  ·have cf : (w.foldl Wb.rl (far, false)).2 = false := by simpa using c
   rcases jj with ⟨j1, j2⟩ | ⟨j1, _⟩
   ·rw [j1] at h3
    exact ⟨_, rfl, k d far H3 hd h3 ⟨I, j2⟩ s3⟩
   ·rw [cf] at j1; cases j1
  ·have cf : ¬ (w.foldl Wb.rl (far, false)).2 = false := by simpa using c
   cases m with
   | zero => exact absurd hm cf
   | succ m =>
    rcases hm with hm | hm
    ·exact absurd hm cf
    ·exact ⟨m, Nat.lt_succ_self _, _, _, _, _, _, _, rfl, h3, s3, J, hm⟩
end
end Kx
end
section
set_option linter.all false
set_option maxRecDepth 100000
set_option maxHeartbeats 4000000
namespace Kx
open PySem L2
section
variable {P : Program} {w : World} {K : PySem.W.Frag} {mg : Str → Option Value} {base : Heap}
open Hm
theorem ix_strs {ns : List Str} {k : Nat} {n : Str} (h : ns[k]? = some n) : atI (ns.map V.str) (k : Int) = some (.str n) := by
 exact atI_nat (by rw [List.getElem?_map, h]; rfl)
abbrev sShown : Stmt := top 11
theorem scShown : FnScope ["web", "first", "lengths", "start", "goal", "length", "most", "led", "at", "name"] ["web", "first", "lengths"] (defScope sShown) := ⟨rfl, rfl, rfl, (by simp only [List.nodup_cons, List.mem_cons, List.not_mem_nil, or_false, not_or, List.nodup_nil, and_true, not_false_eq_true]; (repeat' apply And.intro); all_goals decide +kernel), rfl, by decide +kernel, by decide +kernel⟩
theorem ok_shown {f : Addr} {fd : FuncData} (F : Fun K "_law_shown" "_law_shown" sShown f fd) (T : Bl mg) : FnOk P w K mg base CX0 1 f fd ["web", "first", "lengths"] (spLShown K) := by
 have sc := scShown
 refine F.okQ scShown (fun vs H Q E h => ?_) (fun cdv A outer s H vs Q E hr h => ?_)
 ·obtain ⟨q, d, first, zs, w, t, rfl, _⟩ := h
  rfl
 ·obtain ⟨q, d, first, zs, w, t, rfl, hq, wr, lw, hd, k⟩ := h
  have hu := hr.units0
  have tt : ∀ {H' : Hp}, Same H H' → SqT K H' q zs := fun k => hq.imp (fun z => z.imp (k _ _) (fun ⟨o, e⟩ => ⟨o, k _ _ e⟩)) id
  refine ⟨_, (qss_cons (qs_if (qt_cmpR op_ne (qe_dget1 (hu_of hr) (qv 2) (qv 1) ⟨rfl, rfl, rfl, rfl⟩) qe_int (nomark _)) (qss_one (qs_ret qe_bl)) qss_nil)
   (qss_cons (qs_for PassesOwn.never rfl (qi_tup (qv 0)) (qg_tup rfl (qgs_cons (qg_name (i := 3) sc.nd rfl (Or.inl rfl)) (qgs_cons (qg_name (i := 4) sc.nd rfl (Or.inl rfl)) (qgs_cons (qg_name (i := 5) sc.nd rfl (Or.inl rfl)) qgs_nil)))) (qss_cons (qs_set (i := 6) sc.nd rfl (Or.inl rfl) (qe_op op_add (qe_dget2 (hu_of hr) (qv 2) (qv 3) qe_int ⟨rfl, rfl, rfl, rfl⟩) (qv 5)))
   (qss_one (qs_if (QW.pt (qw_and (qt_din (hu_of hr) (qv 3) (qv 2)) (qw_and1 (QW.pt (qw_or (qt_dnotin (hu_of hr) (qv 4) (qv 2)) (qw_or1 (qt_cmpR op_gt (qe_dget (hu_of hr) (qv 2) (qv 4) (fun _ _ => rfl)) (qv 6) (nomark _)))))))) (qss_one (qs_ret qe_bl)) qss_nil))))
   (qss_cons (qs_set (i := 7) sc.nd rfl (Or.inl rfl) (qe_lst (qa_cons (qv 1) qa_nil)))
   (qss_cons (qs_set (i := 8) sc.nd rfl (Or.inl rfl) qe_int)
   (qss_cons (qs_while PassesOwn.never (qt_cmpR op_lt (qv 8) (qe_callB call_len_seq (by rfl) T.z_len (by decide +kernel) (qa_cons (qv 7) qa_nil)) (nomark _)) (qss_cons (qs_set (i := 9) sc.nd rfl (Or.inl rfl) (qe_ix ix_list (qv 7) (qv 8) (fun _ _ => rfl)))
   (qss_cons (qs_for PassesOwn.never rfl (qi_tup (qv 0)) (qg_tup rfl (qgs_cons (qg_name (i := 3) sc.nd rfl (Or.inl rfl)) (qgs_cons (qg_name (i := 4) sc.nd rfl (Or.inl rfl)) (qgs_cons (qg_name (i := 5) sc.nd rfl (Or.inl rfl)) qgs_nil)))) (qss_one (qs_if (QW.pt (qw_and (qt_cmpR op_eq (qv 3) (qv 9) (nomark _)) (qw_and (qt_cmpR op_notInS (qv 4) (qv 7) rfl) (qw_and1 (qt_cmpR op_eq (qe_dget (hu_of hr) (qv 2) (qv 4) (fun _ _ => rfl)) (qe_op op_add (qe_dget (hu_of hr) (qv 2) (qv 9) (fun _ _ => rfl)) (qv 5)) (nomark _)))))) (qss_one (qs_expr (qe_bm PySem.F.plainAttrs_list PySem.F.slot_list_append PySem.F.type_list_append mt_append (qv 7) (qa_cons (qv 4) qa_nil)))) qss_nil)))
   (qss_one (qs_set (i := 8) sc.nd rfl (Or.inl rfl) (qe_op op_add (qv 8) qe_int))))))
   (qss_one (qs_ret (qe_cmpR op_eq (qe_callB call_len_seq (by rfl) T.z_len (by decide +kernel) (qa_cons (qv 7) qa_nil)) (qe_callB call_lenD (by rfl) T.z_len (by decide +kernel) (qa_cons (qv 2) qa_nil)) (nomark _))))))))), ?_⟩
  refine ⟨_, rfl, d, rfl, .inl ⟨_, .inl hd⟩, _, rfl, _, DGet.k (k := Sum.inr first) hd, ?_⟩
  rw [kvW_get]
  cases e0 : Gm.dget t first with
  | none => exact ⟨rfl, _, rfl, ite2 (fun _ => k false H ⟨fun z => (nomatch z), fun ⟨z, _⟩ => by rw [e0] at z; cases z⟩ (Same.refl _)) (fun c => absurd (by simp) c)⟩
  | some v =>
  refine ⟨rfl, _, rfl, ?_⟩
  refine ite2 (fun c => ?_) (fun c => ?_)
  ·have c' : ¬ v = 0 := fun z => by subst z; simp at c
   exact k false H ⟨fun z => (nomatch z), fun ⟨z, _⟩ => by rw [e0] at z; cases z; exact absurd rfl c'⟩ (Same.refl _)
  have v0 : v = 0 := by simpa using c
  subst v0
  refine ⟨_, rfl, q, rfl, ⟨_, hq⟩, for_tup (xs := zs) (fun i σ H3 => ∃ (o3 o4 o5 o6 : Option V), σ = [some (.ref q), some (.str first), some (.ref d), o3, o4, o5, o6, none, none, none] ∧ H3 = H ∧ ∀ r ∈ w.take i, ¬ Wb.Nearer t r)
   ⟨none, none, none, none, rfl, rfl, fun _ h => nomatch h⟩ (fun i σ H3 _ ⟨_, _, _, _, _, z, _⟩ => z ▸ hq) ?_ ?_⟩
  ·rintro i x σ H3 hx ⟨o3, o4, o5, o6, rfl, rfl, nn⟩
   obtain ⟨r, er, a, rfl, ha⟩ := paired_at wr hx
   have rm : r ∈ w := List.mem_of_getElem? er
   have tw : w.take (i + 1) = w.take i ++ [r] := by rw [List.take_succ, er]; rfl
   refine ⟨a, _, rfl, SqT.of ha, rfl, _, _, rfl, _, _, rfl, _, _, rfl, rfl, ?_⟩
   have nx : ∀ (o : Option V), ¬ Wb.Nearer t r → ∃ (o3 o4 o5 o6 : Option V), [some (.ref q), some (.str first), some (.ref d), some (.str r.1), some (.str r.2.1), some (.int r.2.2), o, none, none, none] = [some (.ref q), some (.str first), some (.ref d), o3, o4, o5, o6, none, none, none] ∧ H3 = H3 ∧ ∀ r ∈ w.take (i + 1), ¬ Wb.Nearer t r := fun o h => ⟨_, _, _, _, rfl, rfl, fun p hp => by
    rw [tw] at hp
    exact (List.mem_append.mp hp).elim (nn p) fun z => by rw [List.mem_singleton.mp z]; exact h⟩
   have no : Wb.Nearer t r → Q (.bl false) H3 := fun h => k false H3 ⟨fun z => (nomatch z), fun ⟨_, z, _⟩ => absurd h (z r rm)⟩ (Same.refl _)
   cases e1 : Gm.dget t r.1 with
   | none =>
    refine ⟨_, rfl, d, rfl, .inl ⟨_, .inl hd⟩, _, rfl, _, DGet.k (k := Sum.inr r.1) hd, _, rfl, 0, r.2.2, by rw [kvW_get, e1]; rfl, rfl, ?_⟩
    refine ⟨_, rfl, _, rfl, d, _, rfl, DGet.k (k := Sum.inr r.1) hd, _, rfl, ite2 (fun z => ?_) (fun _ => ?_)⟩
    ·rw [kvW_get, e1] at z; cases z
    ·exact nx _ fun ⟨u, h, _⟩ => by rw [e1] at h; cases h
   | some u =>
    have gu := dget_k hd e1
    refine ⟨_, rfl, d, rfl, .inl ⟨_, .inl hd⟩, _, rfl, _, gu, _, rfl, u, r.2.2, rfl, rfl, ?_⟩
    refine ⟨_, rfl, _, rfl, d, _, rfl, gu, _, rfl, ite2 (fun _ => ?_) (fun z => absurd rfl z)⟩
    cases e2 : Gm.dget t r.2.1 with
    | none =>
     refine ⟨_, rfl, _, rfl, d, _, rfl, DGet.k (k := Sum.inr r.2.1) hd, _, rfl, ite2 (fun _ => ?_) (fun z => ?_)⟩
     ·exact no ⟨u, e1, fun v h => by rw [e2] at h; cases h⟩
     ·rw [kvW_get, e2] at z; exact absurd rfl z
    | some v =>
     have gv := dget_k hd e2
     refine ⟨_, rfl, _, rfl, d, _, rfl, gv, _, rfl, ite2 (fun z => by cases z) (fun _ => ?_)⟩
     refine ⟨_, rfl, _, rfl, d, _, rfl, gv, _, rfl, _, _, rfl, rfl, _, rfl, ite2 (fun z => ?_) (fun z => ?_)⟩
     ·exact no ⟨u, e1, fun v' h => by rw [e2] at h; cases h; exact of_decide_eq_true z⟩
     ·exact nx _ fun ⟨u', h1, h2⟩ => by rw [e1] at h1; cases h1; exact z (decide_eq_true (h2 v e2))
  rintro σ H3 ⟨o3, o4, o5, o6, rfl, rfl, nn⟩
  rw [wr.len, List.take_length] at nn
  refine ⟨_, rfl, by show 1 ≤ sizeLine; decide, fun l hl => ?_⟩
  have s1 := same_new (o := .lst [.str first]) hl
  have g1 := upd_same (H := H3) (a := l) (o := .lst [.str first])
  generalize upd H3 l (.lst [.str first]) = H1 at s1 g1 ⊢
  refine ⟨fun m σ H2 => ∃ (led : List Str) (kk : Nat) (o3 o4 o5 o9 : Option V), σ = [some (.ref q), some (.str first), some (.ref d), o3, o4, o5, o6, some (.ref l), some (.int kk), o9] ∧ H2 l = some (.lst (led.map V.str)) ∧ Same H3 H2 ∧ Wb.GL w first t led kk ∧ kk ≤ led.length ∧ m = w.length + 1 - kk,
   ⟨_, [first], 0, o3, o4, o5, none, rfl, g1, s1, Wb.GL.start, Nat.zero_le _, rfl⟩, ?_⟩
  rintro m σ H2 ⟨led, kk, o3, o4, o5, o9, rfl, h2, s2, G, lk, rfl⟩
  have lm : (led.map V.str).length = led.length := List.length_map ..
  refine ⟨_, rfl, _, rfl, l, _, rfl, .inl (SqL.of h2), _, _, rfl, rfl, _, rfl, ite2 (fun c => ?_) (fun c => ?_)⟩
  rotate_left
  ·have c' : ¬ (kk : Int) < ((led.map V.str).length : Int) := by simpa using c
   have led_ := G.done (by lia)
   have l2 : (kvW t).length = t.length := kvW_len
   refine ⟨_, rfl, l, _, rfl, .inl (SqL.of h2), _, rfl, d, _, rfl, s2 _ _ hd, rfl, k _ H2 ?_ s2⟩
   rw [decide_eq_true_eq, Wb.shown_iff e0 nn led_, lm, l2]
   exact ⟨fun h => by have := V.int.inj h; lia, fun h => by rw [h]⟩
  have c' : kk < led.length := by
   have : (kk : Int) < ((led.map V.str).length : Int) := of_decide_eq_true c
   lia
  have gk : led[kk]? = some led[kk] := List.getElem?_eq_getElem c'
  have lG := G.len
  generalize led[kk] = name at gk
  refine ⟨fun σ' H' => ∃ m', m' < w.length + 1 - kk ∧ ∃ (led : List Str) (kk : Nat) (o3 o4 o5 o9 : Option V), σ' = [some (.ref q), some (.str first), some (.ref d), o3, o4, o5, o6, some (.ref l), some (.int kk), o9] ∧ H' l = some (.lst (led.map V.str)) ∧ Same H3 H' ∧ Wb.GL w first t led kk ∧ kk ≤ led.length ∧ m' = w.length + 1 - kk, fun σ' H' z => z, ?_⟩
  refine ⟨_, rfl, _, rfl, l, _, _, _, rfl, rfl, SqL.of h2, ix_strs gk, ?_⟩
  refine ⟨_, rfl, q, rfl, ⟨_, tt s2⟩, for_tup (xs := zs) (fun i σ H4 => ∃ (led : List Str) (o3 o4 o5 : Option V), σ = [some (.ref q), some (.str first), some (.ref d), o3, o4, o5, o6, some (.ref l), some (.int kk), some (.str name)] ∧ H4 l = some (.lst (led.map V.str)) ∧ Same H3 H4 ∧ Wb.GM w first t led kk name (w.take i))
   ⟨led, o3, o4, o5, rfl, h2, s2, G.go gk⟩ (fun i σ H4 _ ⟨_, _, _, _, _, _, z, _⟩ => tt z) ?_ ?_⟩
  ·rintro i x σ H4 hx ⟨led, o3, o4, o5, rfl, h4, s4, GG⟩
   obtain ⟨r, er, a, rfl, ha⟩ := paired_at wr hx
   have rm : r ∈ w := List.mem_of_getElem? er
   have tw : w.take (i + 1) = w.take i ++ [r] := by rw [List.take_succ, er]; rfl
   refine ⟨a, _, rfl, SqT.of (s4 _ _ ha), rfl, _, _, rfl, _, _, rfl, _, _, rfl, rfl, ?_⟩
   have old : (r.1 = name → Wb.Exact t r → r.2.1 ∈ led) → ∃ (led : List Str) (o3 o4 o5 : Option V), [some (.ref q), some (.str first), some (.ref d), some (.str r.1), some (.str r.2.1), some (.int r.2.2), o6, some (.ref l), some (.int kk), some (.str name)] = [some (.ref q), some (.str first), some (.ref d), o3, o4, o5, o6, some (.ref l), some (.int kk), some (.str name)] ∧ H4 l = some (.lst (led.map V.str)) ∧ Same H3 H4 ∧ Wb.GM w first t led kk name (w.take (i + 1)) := fun h => ⟨led, _, _, _, rfl, h4, s4, by rw [tw]; exact GG.old h⟩
   refine ⟨_, rfl, _, rfl, rfl, _, rfl, ite2 (fun c1 => ?_) (fun c1 => ?_)⟩
   rotate_left
   ·exact old fun z => by rw [z] at c1; simp at c1
   have en : r.1 = name := V.str.inj (of_decide_eq_true c1)
   refine ⟨_, rfl, _, rfl, l, _, led, rfl, rfl, SqL.of h4, _, rfl, ite2 (fun c2 => ?_) (fun c2 => ?_)⟩
   rotate_left
   ·exact old fun _ _ => by simpa using c2
   have nl : r.2.1 ∉ led := by simpa using c2
   obtain ⟨u, eu⟩ := (GG.rch _ (List.mem_of_getElem? GG.nam)).in e0
   obtain ⟨v, ev⟩ : ∃ v, Gm.dget t r.2.1 = some v := by
    cases e2 : Gm.dget t r.2.1 with
    | none => exact absurd ⟨u, by rw [en]; exact eu, fun v h => by rw [e2] at h; cases h⟩ (nn r rm)
    | some v => exact ⟨v, rfl⟩
   have gu := dget_k (s4 _ _ hd) eu
   have gv := dget_k (s4 _ _ hd) ev
   refine ⟨_, rfl, _, rfl, d, _, rfl, gv, _, rfl, _, rfl, d, _, rfl, gu, _, rfl, u, r.2.2, rfl, rfl, rfl, _, rfl, ite2 (fun c3 => ?_) (fun c3 => ?_)⟩
   ·have e3 : v = u + r.2.2 := V.int.inj (of_decide_eq_true c3)
    have ex : Wb.Exact t r := ⟨u, by rw [en]; exact eu, by rw [ev, e3]⟩
    have lL := GG.toGL.len
    refine ⟨_, rfl, .inl ⟨rfl, _, SqL.of h4⟩, _, rfl, l, _, _, rfl, rfl, h4, small1000 (by rw [List.length_map]; lia), led ++ [r.2.1], _, _, _, rfl, ?_, fun b o e => ?_, ?_⟩
    ·rw [upd_same, List.map_append]; rfl
    ·rw [upd_ne (ne_of_none e hl)]; exact s4 _ _ e
    ·rw [tw]; exact GG.new en rm ex nl
   ·exact old fun _ ⟨u', h1, h2⟩ => by
     rw [en, eu] at h1
     cases h1
     rw [ev] at h2
     cases h2
     simp at c3
  rintro σ H4 ⟨led, o3, o4, o5, rfl, h4, s4, GG⟩
  rw [wr.len, List.take_length] at GG
  have lk2 := (List.getElem?_eq_some_iff.mp GG.nam).1
  have lG2 := GG.toGL.len
  exact ⟨_, rfl, _, _, rfl, rfl, _, by lia, led, kk + 1, _, _, _, _, rfl, h4, s4, GG.fin, lk2, rfl⟩
end
end Kx
end
section
set_option linter.all false
set_option maxRecDepth 100000
set_option maxHeartbeats 4000000
namespace Kx
open PySem L2
section
variable {P : Program} {w : World} {K : PySem.W.Frag} {mg : Str → Option Value} {base : Heap}
open Hm
theorem great_pos {o m : Int} (h : 0 ≤ o) (hm : m < 3) : 1 ≤ (1 + o) * (10 : Int) ^ (24 : Int).toNat - 1 - m := by
 have e : (10 : Int) ^ (24 : Int).toNat = 1000000000000000000000000 := by decide +kernel
 rw [e]
 lia
abbrev sWNames : Stmt := top 8
theorem scWNames : FnScope ["script", "start", "many", "letters", "some", "first", "found", "k", "name", "own"] ["script", "start", "many"] (defScope sWNames) := ⟨rfl, rfl, rfl, (by simp only [List.nodup_cons, List.mem_cons, List.not_mem_nil, or_false, not_or, List.nodup_nil, and_true, not_false_eq_true]; (repeat' apply And.intro); all_goals decide +kernel), rfl, by decide +kernel, by decide +kernel⟩
def spWNames (K : PySem.W.Frag) : Sp := fun vs H Q _ => ∃ (a : Addr) (ns : List Int) (st : Int) (many : Nat), vs = [.ref a, .int st, .int many] ∧ SqL K H a (ns.map V.int) ∧ ns.length ≤ 63 ∧ 0 ≤ st ∧ many ≤ 250 ∧ ∀ l (xs : List Str) H', H' l = some (.lst (xs.map V.str)) → xs.length = many → Same H H' → Q (.ref l) H'
theorem ok_wnames {f fn : Addr} {fd fdn : FuncData} (F : Fun K "_law_names" "_law_names" sWNames f fd) (T : Bl mg) (G_law_number : FnOk P w K mg base CX0 1 fn fdn ["script", "k"] (spNumber K)) (D_law_number : Nm K mg "_law_number" fn fdn ["script", "k"]) :
  FnOk P w K mg base CX0 2 f fd ["script", "start", "many"] (spWNames K) := by
 have sc := scWNames
 refine F.okQ scWNames (fun vs H Q E h => ?_) (fun cdv A outer s H vs Q E hr h => ?_)
 ·obtain ⟨a, ns, st, many, rfl, _⟩ := h
  rfl
 ·obtain ⟨a, ns, st, many, rfl, hS, hn, hst, hm, k⟩ := h
  have hu := hr.units0
  have t1 : ∀ {H' : Hp}, Same H H' → SqL K H' a (ns.map V.int) := fun k => hS.imp (fun z => z.imp (k _ _) (fun ⟨o, e⟩ => ⟨o, k _ _ e⟩)) id
  refine ⟨_, (qss_cons (qs_set (i := 3) sc.nd rfl (Or.inl rfl) qe_str)
   (qss_cons (qs_set (i := 4) sc.nd rfl (Or.inl rfl) (qe_lst (qa_consts (vs := [.str "", .str "", .str "heap", .str "put", .str "b", .str "zz", .str "least", .str "lengthy"]) (by decide +kernel))))
   (qss_cons (qs_set (i := 5) sc.nd rfl (Or.inl rfl) (qe_call G_law_number (hr.mono (by decide)) rfl D_law_number.m D_law_number.k D_law_number.b .nil pass0 (qa_cons (qv 0) (qa_cons (qv 1) qa_nil))))
   (qss_cons (qs_set (i := 6) sc.nd rfl (Or.inl rfl) (qe_lst qa_nil))
   (qss_cons (qs_for PassesOwn.never rfl (qi_range1 rfl T.z_range (qa_cons (qv 2) qa_nil)) (qg_name (i := 7) sc.nd rfl (Or.inl rfl)) (qss_cons (qs_set (i := 8) sc.nd rfl (Or.inl rfl) (qe_ix ix_list (qv 4) (qe_op op_mod (qe_call G_law_number (hr.mono (by decide)) rfl D_law_number.m D_law_number.k D_law_number.b .nil pass0 (qa_cons (qv 0) (qa_cons (qe_op op_add (qe_op op_add (qv 1) qe_int) (qv 7)) qa_nil))) qe_int) (fun _ _ => rfl)))
   (qss_cons (qs_ifJ (qt_cmpR op_gt (qv 7) qe_int (nomark _)) (qss_one (qs_set (i := 8) sc.nd rfl (Or.inl rfl) (qe_op op_repS qe_str (qe_op op_fdivB (qv 7) qe_int)))) qss_nil)
   (qss_cons (qs_set (i := 9) sc.nd rfl (Or.inl rfl) (qe_ix ix_str (qv 3) (qe_op op_mod (qe_op op_add (qv 5) (qe_op op_mul qe_int (qv 7))) qe_int) (fun _ _ => rfl)))
   (qss_one (qs_expr (qe_bm PySem.F.plainAttrs_list PySem.F.slot_list_append PySem.F.type_list_append mt_append (qv 6) (qa_cons (qe_ix ix_list (qe_lst (qa_cons (qe_op op_add_str (qv 8) (qv 9)) (qa_cons (qe_op op_add_str (qv 9) (qv 8)) qa_nil))) (qe_op op_mod (qe_op op_fdivB (qv 5) qe_int) qe_int) (fun _ _ => rfl)) qa_nil))))))))
   (qss_one (qs_ret (qv 6)))))))), ?_⟩
  refine ⟨by show 8 ≤ sizeLine; decide, fun l1 hl1 => ?_⟩
  have s1 := same_new (o := .lst [.str "", .str "", .str "heap", .str "put", .str "b", .str "zz", .str "least", .str "lengthy"]) hl1
  have g1 := upd_same (H := H) (a := l1) (o := .lst [.str "", .str "", .str "heap", .str "put", .str "b", .str "zz", .str "least", .str "lengthy"])
  generalize upd H l1 (.lst [.str "", .str "", .str "heap", .str "put", .str "b", .str "zz", .str "least", .str "lengthy"]) = H1 at s1 g1 ⊢
  refine ⟨_, rfl, _, rfl, a, ns, st, rfl, t1 s1, hn, hst, fun fi H2 f0 f1 s2 => ?_⟩
  refine ⟨by show 0 ≤ sizeLine; decide, fun l2 hl2 => ?_⟩
  have s3 := same_new (o := .lst []) hl2
  have g3 := upd_same (H := H2) (a := l2) (o := .lst [])
  have g13 := s3 _ _ (s2 _ _ g1)
  have sH := (s1.trans s2).trans s3
  have hl0 : H l2 = none := by
   cases e : H l2 with
   | none => rfl
   | some o => rw [s2 _ _ (s1 _ _ e)] at hl2; cases hl2
  generalize upd H2 l2 (.lst []) = H3 at s3 g3 g13 sH ⊢
  refine ⟨_, rfl, _, rfl, by lia, by lia, ?_⟩
  rw [Int.toNat_natCast]
  have lc : ((Str.ofString "abcdefghijklmnopqrstuvwxyz").cps.toList.length : Int) = 26 := by decide +kernel
  have ll : (Str.ofString "abcdefghijklmnopqrstuvwxyz").length ≤ sizeLine := by decide +kernel
  refine for_range (lo := 0) (n := many) (fun i σ H4 => ∃ (xs : List Str) (o7 o8 o9 : Option V), σ = [some (.ref a), some (.int st), some (.int many), some (.str "abcdefghijklmnopqrstuvwxyz"), some (.ref l1), some (.int fi), some (.ref l2), o7, o8, o9] ∧ H4 l2 = some (.lst (xs.map V.str)) ∧ xs.length = i ∧ H4 l1 = some (.lst [.str "", .str "", .str "heap", .str "put", .str "b", .str "zz", .str "least", .str "lengthy"]) ∧ Same H H4)
   ⟨[], none, none, none, rfl, g3, rfl, g13, sH⟩ ?_ ?_
  ·rintro i σ H4 hi ⟨xs, o7, o8, o9, rfl, h4, lx, h41, s4⟩
   have ei : (0 : Int) + (i : Int) = (i : Int) := by lia
   rw [ei]
   refine ⟨_, rfl, _, rfl, _, rfl, _, _, rfl, rfl, _, rfl, _, _, rfl, rfl, a, ns, _, rfl, t1 s4, hn, by lia, fun r H5 r0 r1 s5 => ?_⟩
   obtain ⟨v, ev, mv⟩ := atI_ex (l := ([.str "", .str "", .str "heap", .str "put", .str "b", .str "zz", .str "least", .str "lengthy"] : List V)) (i := r % 8) (mod_lo (by decide)) (mod_hi (b := 8) (by decide))
   have mv' : ∃ z : Str, v = .str z ∧ z.length ≤ 10 := by
    simp only [List.mem_cons, List.not_mem_nil, or_false] at mv
    rcases mv with h | h | h | h | h | h | h | h <;> exact ⟨_, h, by decide +kernel⟩
   obtain ⟨z, rfl, lz⟩ := mv'
   refine ⟨_, _, rfl, rfl, (by show (0 : Int) < 8; decide), l1, _, _, _, rfl, rfl, SqL.of (s5 _ _ h41), ev, ?_⟩
   refine ⟨fun σ' H' => ∃ (nm : Str), σ' = [some (.ref a), some (.int st), some (.int many), some (.str "abcdefghijklmnopqrstuvwxyz"), some (.ref l1), some (.int fi), some (.ref l2), some (.int i), some (.str nm), o9] ∧ H' = H5 ∧ nm.length ≤ 20, ⟨_, rfl, _, _, rfl, rfl, _, rfl, ite2 (fun c => ?_) (fun c => ⟨z, rfl, rfl, by lia⟩)⟩, ?_⟩
   ·have c' : (25 : Int) < (i : Int) := of_decide_eq_true c
    refine ⟨_, rfl, _, _, rfl, rfl, ⟨by decide, by decide⟩, _, _, rfl, rfl, by lia, by lia, by decide +kernel, fun r hr => ⟨r, rfl, rfl, ?_⟩⟩
    rw [hr]
    show 1 * _ ≤ 20
    lia
   ·rintro σ' H' ⟨nm, rfl, rfl, lnm⟩
    obtain ⟨c2, e2, _⟩ := atI_ex (l := (Str.ofString "abcdefghijklmnopqrstuvwxyz").cps.toList) (i := (fi + 5 * (i : Int)) % 26) (mod_lo (by decide)) (by rw [lc]; exact mod_hi (by decide))
    refine ⟨_, rfl, _, rfl, _, rfl, _, _, rfl, rfl, .inl ⟨by decide, by decide⟩, _, _, rfl, rfl, _, _, rfl, rfl, (by show (0 : Int) < 26; decide), _, _, _, rfl, rfl, ll, e2, ?_⟩
    have lo : (⟨#[c2]⟩ : Str).length = 1 := rfl
    have h4' := s5 _ _ h4
    refine ⟨_, rfl, .inl ⟨rfl, _, SqL.of h4'⟩, _, rfl, _, rfl, nm, ⟨#[c2]⟩, rfl, rfl, Nat.le_trans (show nm.length + 1 ≤ 1000 by lia) (by decide), _, rfl, _, rfl, ⟨#[c2]⟩, nm, rfl, rfl, Nat.le_trans (show 1 + nm.length ≤ 1000 by lia) (by decide), by show 2 ≤ sizeLine; decide, fun l5 hl5 => ?_⟩
    have s6 := same_new (o := .lst [.str (nm ++ ⟨#[c2]⟩), .str (⟨#[c2]⟩ ++ nm)]) hl5
    have g6 := upd_same (H := H') (a := l5) (o := .lst [.str (nm ++ ⟨#[c2]⟩), .str (⟨#[c2]⟩ ++ nm)])
    generalize upd H' l5 (.lst [.str (nm ++ ⟨#[c2]⟩), .str (⟨#[c2]⟩ ++ nm)]) = H6 at s6 g6 ⊢
    obtain ⟨v, ev, mv⟩ := atI_ex (l := ([.str (nm ++ ⟨#[c2]⟩), .str (⟨#[c2]⟩ ++ nm)] : List V)) (i := fi / 26 % 2) (mod_lo (by decide)) (mod_hi (b := 2) (by decide))
    obtain ⟨n2, rfl⟩ : ∃ z : Str, v = .str z := by
     simp only [List.mem_cons, List.not_mem_nil, or_false] at mv
     rcases mv with h | h <;> exact ⟨_, h⟩
    refine ⟨_, rfl, _, _, rfl, rfl, ⟨by decide, by decide⟩, _, _, rfl, rfl, (by show (0 : Int) < 2; decide), l5, _, _, _, rfl, rfl, SqL.of g6, ev, ?_⟩
    refine ⟨l2, _, _, rfl, rfl, s6 _ _ h4', small1000 (by rw [List.length_map]; lia), xs ++ [n2], _, _, _, rfl, ?_, by rw [List.length_append, lx]; rfl, ?_, fun b o e => ?_⟩
    ·rw [upd_same, List.map_append]; rfl
    ·have h1' := s6 _ _ (s5 _ _ h41)
     rw [upd_ne (fun z => by rw [z, s6 _ _ h4'] at h1'; exact absurd hl2 (by rw [← z, s2 _ _ g1]; exact fun y => nomatch y))]
     exact h1'
    ·rw [upd_ne (ne_of_none e hl0)]
     exact s6 _ _ (s5 _ _ (s4 _ _ e))
  ·rintro σ H4 ⟨xs, o7, o8, o9, rfl, h4, lx, h41, s4⟩
   exact ⟨_, rfl, k l2 xs H4 h4 lx s4⟩
abbrev sWeb : Stmt := top 9
theorem scWeb : FnScope ["script", "most", "head", "many", "names", "rows", "k", "number", "other", "length"] ["script", "most"] (defScope sWeb) := ⟨rfl, rfl, rfl, (by simp only [List.nodup_cons, List.mem_cons, List.not_mem_nil, or_false, not_or, List.nodup_nil, and_true, not_false_eq_true]; (repeat' apply And.intro); all_goals decide +kernel), rfl, by decide +kernel, by decide +kernel⟩
def spWeb (K : PySem.W.Frag) : Sp := fun vs H Q _ => ∃ (a : Addr) (ns : List Int) (most : Int), vs = [.ref a, .int most] ∧ SqL K H a (ns.map V.int) ∧ ns.length ≤ 63 ∧ 1 ≤ most ∧ most ≤ 200 ∧ ∀ p l q (names : List Str) (web : Wb.Web) zs H', H' p = some (.tup [.ref l, .ref q]) → H' l = some (.lst (names.map V.str)) → 1 ≤ names.length → names.length ≤ 200 → H' q = some (.tup zs) → WR3 H' zs web → web.length ≤ 600 → (∀ r ∈ web, 1 ≤ r.2.2 ∧ r.1 ∈ names ∧ r.2.1 ∈ names) → Same H H' → Q (.ref p) H'
theorem ok_web {f fn fm : Addr} {fd fdn fdm : FuncData} (F : Fun K "_law_web" "_law_web" sWeb f fd) (T : Bl mg) (G_law_number : FnOk P w K mg base CX0 1 fn fdn ["script", "k"] (spNumber K)) (D_law_number : Nm K mg "_law_number" fn fdn ["script", "k"])
  (G_law_names : FnOk P w K mg base CX0 2 fm fdm ["script", "start", "many"] (spWNames K)) (D_law_names : Nm K mg "_law_names" fm fdm ["script", "start", "many"]) :
  FnOk P w K mg base CX0 3 f fd ["script", "most"] (spWeb K) := by
 have sc := scWeb
 refine F.okQ scWeb (fun vs H Q E h => ?_) (fun cdv A outer s H vs Q E hr h => ?_)
 ·obtain ⟨a, ns, most, rfl, _⟩ := h
  rfl
 ·obtain ⟨a, ns, most, rfl, hS, hn, hmo, hmo2, k⟩ := h
  have hu := hr.units0
  have t1 : ∀ {H' : Hp}, Same H H' → SqL K H' a (ns.map V.int) := fun k => hS.imp (fun z => z.imp (k _ _) (fun ⟨o, e⟩ => ⟨o, k _ _ e⟩)) id
  refine ⟨_, (qss_cons (qs_set (i := 2) sc.nd rfl (Or.inl rfl) (qe_call G_law_number (hr.mono (by decide)) rfl D_law_number.m D_law_number.k D_law_number.b .nil pass0 (qa_cons (qv 0) (qa_cons qe_int qa_nil))))
   (qss_cons (qs_set (i := 3) sc.nd rfl (Or.inl rfl) (qe_op op_add qe_int (qe_op op_mod (qv 2) qe_int)))
   (qss_cons (qs_ifJ (qt_cmpR op_eq (qe_op op_mod (qe_op op_fdivB (qv 2) qe_int) qe_int) qe_int (nomark _)) (qss_one (qs_set (i := 3) sc.nd rfl (Or.inl rfl) (qe_op op_add qe_int (qe_op op_mod (qe_op op_fdivB (qv 2) qe_int) (qv 1))))) qss_nil)
   (qss_cons (qs_set (i := 4) sc.nd rfl (Or.inl rfl) (qe_call G_law_names (hr.mono (by decide)) rfl D_law_names.m D_law_names.k D_law_names.b .nil pass0 (qa_cons (qv 0) (qa_cons qe_int (qa_cons (qv 3) qa_nil)))))
   (qss_cons (qs_set (i := 5) sc.nd rfl (Or.inl rfl) (qe_lst qa_nil))
   (qss_cons (qs_for PassesOwn.never rfl (qi_range1 rfl T.z_range (qa_cons (qe_op op_mod (qe_call G_law_number (hr.mono (by decide)) rfl D_law_number.m D_law_number.k D_law_number.b .nil pass0 (qa_cons (qv 0) (qa_cons qe_int qa_nil))) (qe_op op_add (qe_op op_mul qe_int (qv 3)) qe_int)) qa_nil)) (qg_name (i := 6) sc.nd rfl (Or.inl rfl)) (qss_cons (qs_set (i := 7) sc.nd rfl (Or.inl rfl) (qe_call G_law_number (hr.mono (by decide)) rfl D_law_number.m D_law_number.k D_law_number.b .nil pass0 (qa_cons (qv 0) (qa_cons (qe_op op_add qe_int (qv 6)) qa_nil))))
   (qss_cons (qs_set (i := 8) sc.nd rfl (Or.inl rfl) (qe_call G_law_number (hr.mono (by decide)) rfl D_law_number.m D_law_number.k D_law_number.b .nil pass0 (qa_cons (qv 0) (qa_cons (qe_op op_add qe_int (qv 6)) qa_nil))))
   (qss_cons (qs_set (i := 9) sc.nd rfl (Or.inl rfl) (qe_ix ix_list (qe_lst (qa_cons (qe_op op_add qe_int (qe_op op_mod (qv 8) qe_int)) (qa_cons (qe_op op_add qe_int (qe_op op_mod (qv 8) qe_int)) (qa_cons (qe_op op_add qe_int (qv 8)) qa_nil)))) (qe_op op_mod (qe_op op_mod (qe_op op_fdivB (qv 2) qe_int) qe_int) qe_int) (fun _ _ => rfl)))
   (qss_cons (qs_ifJ (qt_cmpR op_eq (qe_op op_mod (qe_op op_fdivB (qv 2) qe_int) qe_int) qe_int (nomark _)) (qss_one (qs_set (i := 9) sc.nd rfl (Or.inl rfl) (qe_op op_sub (qe_op op_sub (qe_op op_mul (qe_op op_add qe_int (qv 8)) (qe_op op_pow qe_int qe_int)) qe_int) (qe_op op_mod (qv 8) qe_int)))) qss_nil)
   (qss_one (qs_expr (qe_bm PySem.F.plainAttrs_list PySem.F.slot_list_append PySem.F.type_list_append mt_append (qv 5) (qa_cons (qe_tup (qa_cons (qe_ix ix_list (qv 4) (qe_op op_mod (qv 7) (qv 3)) (fun _ _ => rfl)) (qa_cons (qe_ix ix_list (qv 4) (qe_op op_mod (qe_op op_fdivB (qv 7) (qv 3)) (qv 3)) (fun _ _ => rfl)) (qa_cons (qv 9) qa_nil)))) qa_nil)))))))))
   (qss_one (qs_ret (qe_tup (qa_cons (qv 4) (qa_cons (qe_callTy call_tuple_of (by rfl) T.z_tuple (by decide +kernel) (qa_cons (qv 5) qa_nil)) qa_nil))))))))))), ?_⟩
  refine ⟨_, rfl, a, ns, 0, rfl, hS, hn, by decide, fun hd H1 hd0 hd1 s1 => ?_⟩
  refine ⟨_, rfl, _, _, rfl, rfl, (by show (0 : Int) < 8; decide), _, _, rfl, rfl, ?_⟩
  refine ⟨fun σ' H' => ∃ many : Nat, σ' = [some (.ref a), some (.int most), some (.int hd), some (.int many), none, none, none, none, none, none] ∧ H' = H1 ∧ 1 ≤ many ∧ many ≤ 200, ⟨_, rfl, _, _, rfl, rfl, ⟨by decide, by decide⟩, _, _, rfl, rfl, (by show (0 : Int) < 8; decide), rfl, _, rfl, ite2 (fun c => ?_) (fun c => ?_)⟩, ?_⟩
  ·have m0 : 0 ≤ hd / 64 % most := mod_lo (by lia)
   have m1 : hd / 64 % most < most := mod_hi (by lia)
   refine ⟨_, rfl, _, _, rfl, rfl, ⟨by decide, by decide⟩, _, rfl, _, _, rfl, rfl, (by show (0 : Int) < most; lia), _, _, rfl, rfl, (1 + hd / 64 % most).toNat, ?_, rfl, by lia, by lia⟩
   rw [Int.toNat_of_nonneg (by lia)]
   rfl
  ·have m0 : 0 ≤ hd % 8 := mod_lo (by decide)
   have m1 : hd % 8 < 8 := mod_hi (by decide)
   refine ⟨(1 + hd % 8).toNat, ?_, rfl, by lia, by lia⟩
   rw [Int.toNat_of_nonneg (by lia)]
   rfl
  rintro σ' H' ⟨many, rfl, rfl, lm1, lm2⟩
  refine ⟨_, rfl, _, rfl, a, ns, 10, many, rfl, t1 s1, hn, by decide, by lia, fun nl names H2 hnl lnm s2 => ?_⟩
  refine ⟨by show 0 ≤ sizeLine; decide, fun rl hrl => ?_⟩
  have s3 := same_new (o := .lst []) hrl
  have g3 := upd_same (H := H2) (a := rl) (o := .lst [])
  have gn3 := s3 _ _ hnl
  have s12 := s1.trans s2
  have sH := s12.trans s3
  have hr0 : H rl = none := by
   cases e : H rl with
   | none => rfl
   | some o => rw [s12 _ _ e] at hrl; cases hrl
  have nrl : nl ≠ rl := fun z => by rw [z, hrl] at hnl; cases hnl
  generalize upd H2 rl (.lst []) = H3 at s3 g3 gn3 sH ⊢
  refine ⟨_, rfl, a, ns, 1, rfl, t1 sH, hn, by decide, fun b H4 b0 b1 s4 => ?_⟩
  have sH4 := sH.trans s4
  refine ⟨_, rfl, _, _, rfl, rfl, .inl ⟨by decide, by decide⟩, _, _, rfl, rfl, _, _, rfl, rfl, (by show (0 : Int) < 3 * (many : Int) + 1; lia), ?_⟩
  obtain ⟨nr, enr, lnr⟩ : ∃ nr : Nat, b % (3 * (many : Int) + 1) = (nr : Int) ∧ nr ≤ 600 := by
   have m0 : 0 ≤ b % (3 * (many : Int) + 1) := mod_lo (by lia)
   have m1 : b % (3 * (many : Int) + 1) < 3 * (many : Int) + 1 := mod_hi (by lia)
   exact ⟨(b % (3 * (many : Int) + 1)).toNat, by lia, by lia⟩
  refine ⟨(nr : Int), congrArg (fun z => [V.int z]) enr, by lia, by lia, ?_⟩
  rw [Int.toNat_natCast]
  refine for_range (lo := 0) (n := nr) (fun i σ H5 => ∃ (zs : List V) (w : Wb.Web) (o6 o7 o8 o9 : Option V), σ = [some (.ref a), some (.int most), some (.int hd), some (.int many), some (.ref nl), some (.ref rl), o6, o7, o8, o9] ∧ H5 rl = some (.lst zs) ∧ WR3 H5 zs w ∧ w.length = i ∧ (∀ r ∈ w, 1 ≤ r.2.2 ∧ r.1 ∈ names ∧ r.2.1 ∈ names) ∧ H5 nl = some (.lst (names.map V.str)) ∧ Same H H5)
   ⟨[], [], none, none, none, none, rfl, s4 _ _ g3, .nil, rfl, (fun _ h => nomatch h), s4 _ _ gn3, sH4⟩ ?_ ?_
  ·rintro i σ H5 hi ⟨zs, w, o6, o7, o8, o9, rfl, h5, wr, lw, hw, hn5, s5⟩
   have ei : (0 : Int) + (i : Int) = (i : Int) := by lia
   rw [ei]
   refine ⟨_, rfl, _, rfl, _, _, rfl, rfl, a, ns, _, rfl, t1 s5, hn, by lia, fun nu H6 n0 n1 s6 => ?_⟩
   have s56 := s5.trans s6
   refine ⟨_, rfl, _, rfl, _, _, rfl, rfl, a, ns, _, rfl, t1 s56, hn, by lia, fun ot H7 h2o h2o1 s7 => ?_⟩
   have o40 : 0 ≤ ot % 4 := mod_lo (by decide)
   have o41 : ot % 4 < 4 := mod_hi (by decide)
   have s57 := s6.trans s7
   refine ⟨_, rfl, _, _, rfl, rfl, (by show (0 : Int) < 4; decide), _, _, rfl, rfl, _, rfl, _, _, rfl, rfl, (by show (0 : Int) < 4; decide), _, _, rfl, rfl, _, rfl, _, _, rfl, rfl, by show 3 ≤ sizeLine; decide, fun l8 hl8 => ?_⟩
   have s8 := same_new (o := .lst [.int (1 + ot % 4), .int (1 + ot % 4), .int (1 + ot)]) hl8
   have g8 := upd_same (H := H7) (a := l8) (o := .lst [.int (1 + ot % 4), .int (1 + ot % 4), .int (1 + ot)])
   have s58 := s57.trans s8
   generalize upd H7 l8 (.lst [.int (1 + ot % 4), .int (1 + ot % 4), .int (1 + ot)]) = H8 at s8 g8 s58 ⊢
   obtain ⟨v, ev, mv⟩ := atI_ex (l := ([.int (1 + ot % 4), .int (1 + ot % 4), .int (1 + ot)] : List V)) (i := hd / 512 % 4 % 3) (mod_lo (by decide)) (mod_hi (b := 3) (by decide))
   obtain ⟨le, rfl, hle⟩ : ∃ z : Int, v = .int z ∧ 1 ≤ z := by
    simp only [List.mem_cons, List.not_mem_nil, or_false] at mv
    rcases mv with h | h | h <;> exact ⟨_, h, by lia⟩
   refine ⟨_, rfl, _, _, rfl, rfl, ⟨by decide, by decide⟩, _, _, rfl, rfl, (by show (0 : Int) < 4; decide), _, _, rfl, rfl, (by show (0 : Int) < 3; decide), l8, _, _, _, rfl, rfl, SqL.of g8, ev, ?_⟩
   refine ⟨fun σ' H' => ∃ le : Int, σ' = [some (.ref a), some (.int most), some (.int hd), some (.int many), some (.ref nl), some (.ref rl), some (.int i), some (.int nu), some (.int ot), some (.int le)] ∧ H' = H8 ∧ 1 ≤ le, ⟨_, rfl, _, _, rfl, rfl, ⟨by decide, by decide⟩, _, _, rfl, rfl, (by show (0 : Int) < 4; decide), rfl, _, rfl, ite2 (fun c => ?_) (fun c => ⟨le, rfl, rfl, hle⟩)⟩, ?_⟩
   ·exact ⟨_, rfl, _, _, rfl, rfl, _, _, rfl, rfl, ⟨by decide, by decide, by decide⟩, _, _, rfl, rfl, .inl ⟨by lia, by lia⟩, _, _, rfl, rfl, _, rfl, _, _, rfl, rfl, (by show (0 : Int) < 3; decide), _, _, rfl, rfl, _, rfl, rfl, great_pos h2o (mod_hi (by decide))⟩
   rintro σ' H' ⟨le, rfl, rfl, hle⟩
   have hn8 := s58 _ _ hn5
   have h58 := s58 _ _ h5
   have lmm : ((names.map V.str).length : Int) = many := by rw [List.length_map, lnm]
   obtain ⟨v1, ev1, mv1⟩ := atI_ex (l := names.map V.str) (i := nu % (many : Int)) (mod_lo (by lia)) (by rw [lmm]; exact mod_hi (by lia))
   obtain ⟨v2, ev2, mv2⟩ := atI_ex (l := names.map V.str) (i := nu / (many : Int) % (many : Int)) (mod_lo (by lia)) (by rw [lmm]; exact mod_hi (by lia))
   obtain ⟨x1, mx1, rfl⟩ := List.mem_map.mp mv1
   obtain ⟨x2, mx2, rfl⟩ := List.mem_map.mp mv2
   refine ⟨_, rfl, .inl ⟨rfl, _, SqL.of h58⟩, _, rfl, _, rfl, _, rfl, _, _, rfl, rfl, (by show (0 : Int) < many; lia), nl, _, _, _, rfl, rfl, SqL.of hn8, ev1, ?_⟩
   refine ⟨_, rfl, _, rfl, _, rfl, _, _, rfl, rfl, ⟨by lia, by lia⟩, _, rfl, _, _, rfl, rfl, (by show (0 : Int) < many; lia), nl, _, _, _, rfl, rfl, SqL.of hn8, ev2, _, rfl, by show 3 ≤ sizeLine; decide, fun q hq => ?_⟩
   have s9 := same_new (o := .tup [.str x1, .str x2, .int le]) hq
   have g9 := upd_same (H := H') (a := q) (o := .tup [.str x1, .str x2, .int le])
   have s59 := s58.trans s9
   generalize upd H' q (.tup [.str x1, .str x2, .int le]) = H9 at s9 g9 s59 ⊢
   have h59 := s59 _ _ h5
   refine ⟨rl, _, _, rfl, rfl, h59, small1000 (by rw [wr.len]; lia), zs ++ [.ref q], w ++ [(x1, x2, le)], _, _, _, _, rfl, upd_same, ?_, by rw [List.length_append, lw]; rfl, fun r hr => ?_, ?_, fun b o e => ?_⟩
   ·exact ((wr.stay fun b l e => s59 _ _ e).stay (tk_lst h59)).snoc rfl (tk_lst h59 _ _ g9)
   ·rcases List.mem_append.mp hr with h | h
    ·exact hw r h
    ·rw [List.mem_singleton.mp h]; exact ⟨hle, mx1, mx2⟩
   ·rw [upd_ne nrl]; exact s59 _ _ hn5
   ·rw [upd_ne (ne_of_none e hr0)]; exact s59 _ _ (s5 _ _ e)
  ·rintro σ H5 ⟨zs, w, o6, o7, o8, o9, rfl, h5, wr, lw, hw, hn5, s5⟩
   refine ⟨_, rfl, _, rfl, rl, zs, rfl, .inl ⟨SqL.of h5, fun q hq => ?_⟩⟩
   have s9 := same_new (o := .tup zs) hq
   have g9 := upd_same (H := H5) (a := q) (o := .tup zs)
   generalize upd H5 q (.tup zs) = H9 at s9 g9 ⊢
   refine ⟨by show 2 ≤ sizeLine; decide, fun p hp => ?_⟩
   have sA := same_new (o := .tup [.ref nl, .ref q]) hp
   have s9A := s9.trans sA
   exact k p nl q names w zs _ upd_same (s9A _ _ hn5) (by lia) (by lia) (sA _ _ g9) (wr.stay fun b l e => s9A _ _ e) (by lia) hw (s5.trans s9A)
end
end Kx
end
section
set_option linter.all false
set_option maxRecDepth 100000
set_option maxHeartbeats 4000000
namespace Kx
open PySem L2
section
variable {P : Program} {w : World} {K : PySem.W.Frag} {mg : Str → Option Value} {base : Heap}
open Hm
theorem NR.pkv {H : Hp} {zs : List V} {L : List (Str × Int)} (r : NR H zs L) : PKV H zs (kvW L) := by
 induction r with
 | nil => exact .nil
 | cons h _ ih => exact .cons h ih
theorem keys_has {t : Tb} {n : Str} (h : n ∈ t.map (·.1)) : ∃ v, Gm.dget t n = some v := by
 cases e : Gm.dget t n with
 | none => exact absurd h (Gm.dget_none.mp e)
 | some v => exact ⟨v, rfl⟩
abbrev sOther : Stmt := top 12
theorem scOther : FnScope ["number", "names", "first", "lengths", "found", "name", "other", "way", "by"] ["number", "names", "first", "lengths"] (defScope sOther) := ⟨rfl, rfl, rfl, (by simp only [List.nodup_cons, List.mem_cons, List.not_mem_nil, or_false, not_or, List.nodup_nil, and_true, not_false_eq_true]; (repeat' apply And.intro); all_goals decide +kernel), rfl, by decide +kernel, by decide +kernel⟩
def spOther : Sp := fun vs H Q _ => ∃ (nu : Int) (nl d : Addr) (first : Str) (names : List Str) (t : Tb), vs = [.int nu, .ref nl, .str first, .ref d] ∧ 0 ≤ nu ∧ nu < 1000000 ∧ H nl = some (.lst (names.map V.str)) ∧ names.length ≤ 200 ∧ H d = some (.dK (kvW t)) ∧ (t.map (·.1)).Nodup ∧ t.length ≤ 901 ∧ first ∈ t.map (·.1) ∧
 ∀ f (t' : Tb) H', H' f = some (.dK (kvW t')) → (t'.map (·.1)).Nodup → t'.length ≤ 902 → Same H H' → Q (.ref f) H'
theorem ok_other {f : Addr} {fd : FuncData} (F : Fun K "_law_other" "_law_other" sOther f fd) (T : Bl mg) (z_dict : mg "dict" = none) : FnOk P w K mg base CX0 1 f fd ["number", "names", "first", "lengths"] spOther := by
 have sc := scOther
 refine F.okQ scOther (fun vs H Q E h => ?_) (fun cdv A outer s H vs Q E hr h => ?_)
 ·obtain ⟨nu, nl, d, first, names, t, rfl, _⟩ := h
  rfl
 ·obtain ⟨nu, nl, d, first, names, t, rfl, nu0, nu1, hnl, lnm, hd, nd, lt, hf, k⟩ := h
  have hu := hr.units0
  have lt0 : 0 < t.length := by rw [← List.length_map (f := (·.1))]; exact List.length_pos_of_mem hf
  have lk : (kvW t).length = t.length := kvW_len
  refine ⟨_, (qss_cons (qs_set (i := 4) sc.nd rfl (Or.inr rfl) (qe_callTy call_dictC (by rfl) z_dict (by decide +kernel) (qa_cons (qv 3) qa_nil)))
   (qss_cons (qs_set (i := 5) sc.nd rfl (Or.inl rfl) (qe_ix ix_list (qe_callTy (call_listD rfl) (by rfl) T.z_list (by decide +kernel) (qa_cons (qv 4) qa_nil)) (qe_op op_mod (qe_op op_fdivB (qv 0) qe_int) (qe_callB call_lenD (by rfl) T.z_len (by decide +kernel) (qa_cons (qv 4) qa_nil))) (fun _ _ => rfl)))
   (qss_cons (qs_set (i := 6) sc.nd rfl (Or.inl rfl) (qe_ix ix_list (qe_op op_cat (qv 1) (qe_lst (qa_cons qe_str qa_nil))) (qe_op op_mod (qe_op op_fdivB (qv 0) qe_int) (qe_op op_add (qe_callB call_len_seq (by rfl) T.z_len (by decide +kernel) (qa_cons (qv 1) qa_nil)) qe_int)) (fun _ _ => rfl)))
   (qss_cons (qs_set (i := 7) sc.nd rfl (Or.inl rfl) (qe_op op_mod (qv 0) qe_int))
   (qss_cons (qs_set (i := 8) sc.nd rfl (Or.inr rfl) (qe_ix ix_list (qe_lst (qa_cons qe_int (qa_cons (qe_un un_neg qe_int) (qa_cons qe_int (qa_cons (qe_op op_pow qe_int qe_int) (qa_cons (qe_un un_neg qe_int) qa_nil)))))) (qe_op op_mod (qe_op op_fdivB (qv 0) qe_int) qe_int) (fun _ _ => rfl)))
   (qss_cons (qs_ifJ (qt_cmpR op_lt (qv 7) qe_int (nomark _)) (qss_one (qs_dput (hu_of hr) (qv 4) (qv 5) (qe_op op_add (qe_dget (hu_of hr) (qv 4) (qv 5) (fun _ _ => rfl)) (qv 8)) rfl)) (qss_one (qs_if (qt_cmpR op_eq (qv 7) qe_int (nomark _)) (qss_one (qs_expr (qe_dpop1 (qv 4) (qv 5) ⟨rfl, rfl, rfl, rfl⟩))) (qss_one (qs_if (qt_cmpR op_lt (qv 7) qe_int (nomark _)) (qss_one (qs_dput (hu_of hr) (qv 4) (qv 6) (qe_ix ix_list (qe_lst (qa_cons qe_int (qa_cons (qv 8) (qa_cons (qe_op op_add (qe_dget2 (hu_of hr) (qv 4) (qv 6) qe_int ⟨rfl, rfl, rfl, rfl⟩) (qv 8)) qa_nil)))) (qe_op op_mod (qe_op op_fdivB (qv 0) qe_int) qe_int) (fun _ _ => rfl)) rfl)) (qss_one (qs_if (qt_cmpR op_eq (qv 7) qe_int (nomark _)) (qss_one (qs_dput (hu_of hr) (qv 4) (qv 2) (qv 8) rfl)) (qss_one (qs_if (qt_cmpR op_eq (qv 7) qe_int (nomark _)) (qss_one (qs_expr (qe_dpop1 (qv 4) (qv 2) ⟨rfl, rfl, rfl, rfl⟩))) (qss_one (qs_if (qt_cmpR op_eq (qv 7) qe_int (nomark _)) (qss_one (qs_set (i := 4) sc.nd rfl (Or.inr rfl) (qe_callTy (call_dictL rfl) (by rfl) z_dict (by decide +kernel) (qa_cons (qe_thaw (qe_comp (Blk.of (N := ["number", "names", "first", "lengths", "found", "name", "other", "way", "by"]) (esc := defScope sOther) (NB := ["by", "found", "first"]) (cap := [8, 4, 2]) rfl rfl (fun y hy => cell_has hy) rfl (by decide +kernel) (by decide +kernel) (by decide +kernel) rfl (by decide +kernel) rfl (by decide +kernel)) rfl rfl (qi_dict (qv 4)) (fun C fp s₀ H₀ => qts_nil) (fun C fp s₀ H₀ => (qe_tup (qa_cons (qv 0) (qa_cons (qe_op op_add (qe_dget (hu_of hr) (qv 2) (qv 0) (fun _ _ => rfl)) (qe_op op_mul (qv 1) (qe_callTy call_int1 (by rfl) T.z_int (by decide +kernel) (qa_cons (qe_cmpR op_ne (qv 0) (qv 3) (nomark _)) qa_nil)))) qa_nil)))))) qa_nil)))) (qss_one (qs_set (i := 4) sc.nd rfl (Or.inr rfl) (qe_callTy (call_dictL rfl) (by rfl) z_dict (by decide +kernel) (qa_cons (qe_thaw (qe_comp (Blk.of (N := ["number", "names", "first", "lengths", "found", "name", "other", "way", "by"]) (esc := defScope sOther) (NB := []) (cap := []) rfl rfl (fun y hy => cell_has hy) rfl (by decide +kernel) (by decide +kernel) (by decide +kernel) rfl (by decide +kernel) rfl (by decide +kernel)) rfl rfl (qi_dict (qv 4)) (fun C fp s₀ H₀ => qts_nil) (fun C fp s₀ H₀ => (qe_tup (qa_cons (qv 0) (qa_cons qe_int qa_nil)))))) qa_nil)))))))))))))))
   (qss_one (qs_ret (qv 4))))))))), ?_⟩
  refine ⟨_, rfl, d, _, rfl, hd, fun fd_ hf0 => ?_⟩
  have s1 := same_new (o := .dK (kvW t)) hf0
  have g1 := upd_same (H := H) (a := fd_) (o := .dK (kvW t))
  generalize upd H fd_ (.dK (kvW t)) = H1 at s1 g1 ⊢
  refine ⟨_, rfl, fd_, _, t.map (·.1), rfl, g1, kvW_keys, fun l1 hl1 => ?_⟩
  have s2 := same_new (o := .lst ((t.map (·.1)).map V.str)) hl1
  have g2 := upd_same (H := H1) (a := l1) (o := .lst ((t.map (·.1)).map V.str))
  generalize upd H1 l1 (.lst ((t.map (·.1)).map V.str)) = H2 at s2 g2 ⊢
  have gf2 := s2 _ _ g1
  have ll : (((t.map (·.1)).map V.str).length : Int) = t.length := by rw [List.length_map, List.length_map]
  obtain ⟨v1, ev1, mv1⟩ := atI_ex (l := (t.map (·.1)).map V.str) (i := nu / 16 % (t.length : Int)) (mod_lo (by lia)) (by rw [ll]; exact mod_hi (by lia))
  obtain ⟨n1, mn1, rfl⟩ := List.mem_map.mp mv1
  refine ⟨_, rfl, _, _, rfl, rfl, ⟨by decide, by decide⟩, _, rfl, fd_, _, rfl, gf2, _, _, rfl, rfl, by rw [lk]; lia, l1, _, _, _, rfl, rfl, SqL.of g2, (by rw [lk]; exact ev1), ?_⟩
  have s12 := s1.trans s2
  refine ⟨_, rfl, by show 1 ≤ sizeLine; decide, fun l2 hl2 => ?_⟩
  have s3 := same_new (o := .lst [.str "zzzzzzzz"]) hl2
  have g3 := upd_same (H := H2) (a := l2) (o := .lst [.str "zzzzzzzz"])
  generalize upd H2 l2 (.lst [.str "zzzzzzzz"]) = H3 at s3 g3 ⊢
  have s13 := s12.trans s3
  have lmm : (names.map V.str).length = names.length := List.length_map ..
  refine ⟨nl, l2, _, _, rfl, rfl, s13 _ _ hnl, g3, Nat.le_trans (show (names.map V.str).length + 1 ≤ 1000 by lia) (by decide), fun l3 hl3 => ?_⟩
  have e4 : names.map V.str ++ [.str "zzzzzzzz"] = (names ++ [("zzzzzzzz" : Str)]).map V.str := by rw [List.map_append]; rfl
  rw [e4]
  have s4 := same_new (o := .lst ((names ++ [("zzzzzzzz" : Str)]).map V.str)) hl3
  have g4 := upd_same (H := H3) (a := l3) (o := .lst ((names ++ [("zzzzzzzz" : Str)]).map V.str))
  generalize upd H3 l3 (.lst ((names ++ [("zzzzzzzz" : Str)]).map V.str)) = H4 at s4 g4 ⊢
  have s14 := s13.trans s4
  have l5 : (((names ++ [("zzzzzzzz" : Str)]).map V.str).length : Int) = names.length + 1 := by rw [List.length_map, List.length_append]; rfl
  obtain ⟨v2, ev2, mv2⟩ := atI_ex (l := (names ++ [("zzzzzzzz" : Str)]).map V.str) (i := nu / 16 % ((names.length : Int) + 1)) (mod_lo (by lia)) (by rw [l5]; exact mod_hi (by lia))
  obtain ⟨n2, mn2, rfl⟩ := List.mem_map.mp mv2
  refine ⟨_, rfl, _, _, rfl, rfl, ⟨by decide, by decide⟩, _, rfl, nl, _, rfl, .inl (SqL.of (s14 _ _ hnl)), _, _, rfl, rfl, _, _, rfl, rfl, (by rw [lmm]; lia), l3, _, _, _, rfl, rfl, SqL.of g4, (by rw [lmm]; exact ev2), ?_⟩
  refine ⟨_, rfl, _, _, rfl, rfl, (by show (0 : Int) < 10; decide), ?_⟩
  refine ⟨_, rfl, _, _, rfl, rfl, ⟨by decide, by decide, by decide⟩, _, rfl, by show 5 ≤ sizeLine; decide, fun l6 hl6 => ?_⟩
  have s6 := same_new (o := .lst [.int 1, .int (-1), .int 2, .int ((10 : Int) ^ (9 : Int).toNat), .int (-7)]) hl6
  have g6 := upd_same (H := H4) (a := l6) (o := .lst [.int 1, .int (-1), .int 2, .int ((10 : Int) ^ (9 : Int).toNat), .int (-7)])
  generalize upd H4 l6 (.lst [.int 1, .int (-1), .int 2, .int ((10 : Int) ^ (9 : Int).toNat), .int (-7)]) = Hx at s6 g6 ⊢
  have sx := s14.trans s6
  have h0 : Hx fd_ = some (.dK (kvW t)) := s6 _ _ (s4 _ _ (s3 _ _ gf2))
  obtain ⟨v3, ev3, mv3⟩ := atI_ex (l := ([.int 1, .int (-1), .int 2, .int ((10 : Int) ^ (9 : Int).toNat), .int (-7)] : List V)) (i := nu / 320 % 5) (mod_lo (by decide)) (mod_hi (b := 5) (by decide))
  obtain ⟨by_, rfl⟩ : ∃ z : Int, v3 = .int z := by
   simp only [List.mem_cons, List.not_mem_nil, or_false] at mv3
   rcases mv3 with h | h | h | h | h <;> exact ⟨_, h⟩
  refine ⟨_, rfl, _, _, rfl, rfl, ⟨by decide, by decide⟩, _, _, rfl, rfl, (by show (0 : Int) < 5; decide), l6, _, _, _, rfl, rfl, SqL.of g6, ev3, ?_⟩
  obtain ⟨u1, eu1⟩ := keys_has mn1
  obtain ⟨uf, euf⟩ := keys_has hf
  have gu1 := dget_k h0 eu1
  have pt : ∀ (v : Int) (n : Str), ∃ (f : Addr) (t' : Tb), ([some (.int nu), some (.ref nl), some (.str first), some (.ref d), some (.ref fd_), some (.str n1), some (.str n2), some (.int (nu % 10)), some (.int by_)] : St) = ([some (.int nu), some (.ref nl), some (.str first), some (.ref d), some (.ref f), some (.str n1), some (.str n2), some (.int (nu % 10)), some (.int by_)] : St) ∧ (upd Hx fd_ (.dK (kvW (Gm.dput t n v)))) f = some (.dK (kvW t')) ∧ (t'.map (·.1)).Nodup ∧ t'.length ≤ 902 ∧ Same H (upd Hx fd_ (.dK (kvW (Gm.dput t n v)))) := fun v n => ⟨fd_, _, rfl, upd_same, Gm.dput_nd nd, by have := Gm.dput_len (L := t) (n := n) (b := v); lia, fun b o e => by rw [upd_ne (ne_of_none e hf0)]; exact sx _ _ e⟩
  have dl : ∀ (n : Str), ∃ (f : Addr) (t' : Tb), ([some (.int nu), some (.ref nl), some (.str first), some (.ref d), some (.ref fd_), some (.str n1), some (.str n2), some (.int (nu % 10)), some (.int by_)] : St) = ([some (.int nu), some (.ref nl), some (.str first), some (.ref d), some (.ref f), some (.str n1), some (.str n2), some (.int (nu % 10)), some (.int by_)] : St) ∧ (upd Hx fd_ (.dK (kvW (Gm.ddel t n)))) f = some (.dK (kvW t')) ∧ (t'.map (·.1)).Nodup ∧ t'.length ≤ 902 ∧ Same H (upd Hx fd_ (.dK (kvW (Gm.ddel t n)))) := fun n => ⟨fd_, _, rfl, upd_same, Gm.ddel_nd nd, by have := Gm.ddel_len (L := t) (n := n); lia, fun b o e => by rw [upd_ne (ne_of_none e hf0)]; exact sx _ _ e⟩
  have vd : ∀ {n : Str} {u : Int}, Gm.dget t n = some u → valV (kvW t) (Sum.inr n) = some (.int u) := fun e => by rw [kvW_get, e]; rfl
  refine ⟨fun σ' H' => ∃ (f : Addr) (t' : Tb), σ' = ([some (.int nu), some (.ref nl), some (.str first), some (.ref d), some (.ref f), some (.str n1), some (.str n2), some (.int (nu % 10)), some (.int by_)] : St) ∧ H' f = some (.dK (kvW t')) ∧ (t'.map (·.1)).Nodup ∧ t'.length ≤ 902 ∧ Same H H', ⟨_, rfl, _, _, rfl, rfl, _, rfl, ite2 (fun _ => ?_) (fun _ => ?_)⟩, ?_⟩
  rotate_left
  rotate_left
  ·rintro σ' H' ⟨f, t', rfl, h1, h2, h3, h4⟩
   exact ⟨_, rfl, k f t' H' h1 h2 h3 h4⟩
  ·refine ⟨_, rfl, _, rfl, fd_, _, rfl, gu1, _, rfl, u1, by_, rfl, rfl, _, rfl, _, rfl, fd_, _, rfl, DPut.k (k := Sum.inr n1) h0 (small1000 (by lia)), ?_⟩
   rw [kvW_put]
   exact pt _ _
  refine ⟨_, rfl, rfl, _, rfl, ite2 (fun _ => ?_) (fun _ => ?_)⟩
  ·refine ⟨_, rfl, fd_, rfl, .inl ⟨_, .inl h0⟩, _, rfl, kvW t, Sum.inr n1, _, h0, rfl, vd eu1, ?_⟩
   rw [kvW_del]
   exact dl _
  refine ⟨_, rfl, _, _, rfl, rfl, _, rfl, ite2 (fun _ => ?_) (fun _ => ?_)⟩
  ·obtain ⟨v0, ev0⟩ : ∃ v0 : Int, (valV (kvW t) (Sum.inr n2)).getD (.int 0) = .int v0 := by
    rw [kvW_get]
    cases Gm.dget t n2 with
    | none => exact ⟨0, rfl⟩
    | some v => exact ⟨v, rfl⟩
   refine ⟨_, rfl, _, rfl, fd_, rfl, .inl ⟨_, .inl h0⟩, _, rfl, _, DGet.k (k := Sum.inr n2) h0, _, rfl, v0, by_, ev0, rfl, by show 3 ≤ sizeLine; decide, fun l7 hl7 => ?_⟩
   have s7 := same_new (o := .lst [.int 0, .int by_, .int (v0 + by_)]) hl7
   have g7 := upd_same (H := Hx) (a := l7) (o := .lst [.int 0, .int by_, .int (v0 + by_)])
   generalize upd Hx l7 (.lst [.int 0, .int by_, .int (v0 + by_)]) = H7 at s7 g7 ⊢
   obtain ⟨v4, ev4, mv4⟩ := atI_ex (l := ([.int 0, .int by_, .int (v0 + by_)] : List V)) (i := nu / 1600 % 3) (mod_lo (by decide)) (mod_hi (b := 3) (by decide))
   obtain ⟨y, rfl⟩ : ∃ z : Int, v4 = .int z := by
    simp only [List.mem_cons, List.not_mem_nil, or_false] at mv4
    rcases mv4 with h | h | h <;> exact ⟨_, h⟩
   refine ⟨_, rfl, _, _, rfl, rfl, ⟨by decide, by decide⟩, _, _, rfl, rfl, (by show (0 : Int) < 3; decide), l7, _, _, _, rfl, rfl, SqL.of g7, ev4, _, rfl, _, rfl, fd_, _, rfl, DPut.k (k := Sum.inr n2) (s7 _ _ h0) (small1000 (by lia)), ?_⟩
   rw [kvW_put]
   exact ⟨fd_, _, rfl, upd_same, Gm.dput_nd nd, by have := Gm.dput_len (L := t) (n := n2) (b := y); lia, fun b o e => by rw [upd_ne (ne_of_none e hf0)]; exact s7 _ _ (sx _ _ e)⟩
  refine ⟨_, rfl, rfl, _, rfl, ite2 (fun _ => ?_) (fun _ => ?_)⟩
  ·refine ⟨_, rfl, _, rfl, _, rfl, fd_, _, rfl, DPut.k (k := Sum.inr first) h0 (small1000 (by lia)), ?_⟩
   rw [kvW_put]
   exact pt _ _
  refine ⟨_, rfl, rfl, _, rfl, ite2 (fun _ => ?_) (fun _ => ?_)⟩
  ·refine ⟨_, rfl, fd_, rfl, .inl ⟨_, .inl h0⟩, _, rfl, kvW t, Sum.inr first, _, h0, rfl, vd euf, ?_⟩
   rw [kvW_del]
   exact dl _
  refine ⟨_, rfl, rfl, _, rfl, ite2 (fun _ => ?_) (fun _ => ?_)⟩
  ·refine ⟨_, rfl, fd_, _, rfl, h0, fun o D hD => ?_⟩
   have nDt : D ≠ fd_ := fun z => by rw [z, upd_same] at hD; cases hD
   have hD4 : Hx D = none := by rw [upd_ne nDt] at hD; exact hD
   refine comp_dictR (d := fd_) (o := o) (kvs := kvW t) (fun i zs H5 => H5 D = some (.lst zs) ∧ H5 fd_ = some (.frz o (.dK (kvW t))) ∧ NR H5 zs ((t.take i).map (fun p : Str × Int => (p.1, p.2 + by_ * (if (!decide (V.str p.1 = V.str first)) = true then 1 else 0)))) ∧ Same H H5) ⟨upd_same, by rw [upd_ne nDt.symm, upd_same], .nil, ?_⟩ (fun i zs H5 z => ⟨z.1, z.2.1⟩) ?_ ?_
   ·intro b o e
    rw [upd_ne (ne_of_none (sx _ _ e) hD4), upd_ne (ne_of_none e hf0)]
    exact sx _ _ e
   ·rintro i k' v zs H5 hx ⟨h5, f5, w5, k5⟩
    obtain ⟨⟨n, w⟩, hn, e6⟩ : ∃ p, t[i]? = some p ∧ ((Sum.inr p.1 : Key), V.int p.2) = (k', v) := by
     unfold kvW at hx
     rw [List.getElem?_map] at hx
     cases z : t[i]? with
     | none => rw [z] at hx; cases hx
     | some p => rw [z] at hx; exact ⟨p, rfl, Option.some.inj hx⟩
    cases e6
    have li : i < t.length := (List.getElem?_eq_some_iff.mp hn).1
    have eg : Gm.dget t n = some w := Gm.dget_of nd (List.mem_of_getElem? hn)
    have lz : zs.length = i := by
     have := Paired.length w5
     rw [List.length_map, List.length_take] at this
     lia
    have lk : (kvW t).length = t.length := kvW_len
    have et : (t.take (i + 1)).map (fun p : Str × Int => (p.1, p.2 + by_ * (if (!decide (V.str p.1 = V.str first)) = true then 1 else 0))) = (t.take i).map (fun p : Str × Int => (p.1, p.2 + by_ * (if (!decide (V.str p.1 = V.str first)) = true then 1 else 0))) ++ [(fun p : Str × Int => (p.1, p.2 + by_ * (if (!decide (V.str p.1 = V.str first)) = true then 1 else 0))) (n, w)] := by rw [List.take_add_one, hn, List.map_append]; rfl
    unfold tYes
    dsimp only
    rw [if_pos rfl]
    refine ⟨_, rfl, _, rfl, _, rfl, fd_, _, rfl, .inl ⟨kvW t, Sum.inr n, .inr ⟨o, f5⟩, rfl, (by rw [kvW_get, eg]; rfl)⟩, _, rfl, _, rfl, _, rfl, rfl, .inr ⟨_, rfl, _, _, rfl, rfl, .inr (by split <;> exact ⟨by decide, by decide⟩), _, _, rfl, rfl, by show 2 ≤ sizeLine; decide, fun a ha => ?_⟩⟩
    have nDa : a ≠ D := fun z => by rw [z, h5] at ha; cases ha
    refine ⟨by rw [upd_ne nDa.symm]; exact h5, by rw [lz]; exact small1000 (by lia), _, by lia, rfl, by lia, upd_same, ?_, ?_, ?_⟩
    ·rw [upd_ne nDt.symm, upd_ne (ne_of_none f5 ha)]; exact f5
    ·rw [et]
     refine Paired.snoc (w5.stay fun b l h => ?_) ⟨a, rfl, ?_⟩
     ·rw [upd_ne (ne_of h h5 (by intro z; cases z)), upd_ne (ne_of_none h ha)]; exact h
     ·rw [upd_ne nDa, upd_same]; rfl
    ·intro b o2 h
     have h6 := k5 b o2 h
     rw [upd_ne (ne_of_none (sx _ _ h) hD4), upd_ne (ne_of_none h6 ha)]
     exact h6
   ·rintro zs H5 ⟨h5, f5, w5, k5⟩
    rw [kvW_len, List.take_length] at w5
    refine ⟨fd_, o, kvW t, f5, fun o u z => (by rw [show (cxOf CX0 P w K mg base _ _ _ f cdv A outer s H E).nox.H₀ fd_ = H fd_ from rfl, hf0] at z; cases z), ?_⟩
    have h6 : (upd H5 fd_ (.dK (kvW t))) D = some (.lst zs) := by rw [upd_ne nDt]; exact h5
    have t6 : ∀ b l, H5 b = some (.tup l) → (upd H5 fd_ (.dK (kvW t))) b = some (.tup l) := fun b l z => by rw [upd_ne (ne_of z f5 (by intro y; cases y))]; exact z
    have w6 := w5.stay t6
    have k6 : Same H (upd H5 fd_ (.dK (kvW t))) := fun b o e => by rw [upd_ne (ne_of_none e hf0)]; exact k5 _ _ e
    generalize upd H5 fd_ (.dK (kvW t)) = H6 at h6 w6 k6 ⊢
    have ek : (t.map (fun p : Str × Int => (p.1, p.2 + by_ * (if (!decide (V.str p.1 = V.str first)) = true then 1 else 0)))).map (·.1) = t.map (·.1) := by rw [List.map_map]; rfl
    refine ⟨D, zs, _, rfl, h6, NR.pkv w6, ?_, fun d2 hd2 => ⟨d2, t.map (fun p : Str × Int => (p.1, p.2 + by_ * (if (!decide (V.str p.1 = V.str first)) = true then 1 else 0))), rfl, upd_same, by rw [ek]; exact nd, by rw [List.length_map]; lia, k6.trans (same_new hd2)⟩⟩
    rw [kvW_keys, ek, List.nodup_iff_pairwise_ne, List.pairwise_map]
    exact (List.nodup_iff_pairwise_ne.mp nd).imp fun h z => h (Sum.inr.inj z)
  ·refine ⟨_, rfl, fd_, _, rfl, h0, fun o D hD => ?_⟩
   have nDt : D ≠ fd_ := fun z => by rw [z, upd_same] at hD; cases hD
   have hD4 : Hx D = none := by rw [upd_ne nDt] at hD; exact hD
   refine comp_dictR (d := fd_) (o := o) (kvs := kvW t) (fun i zs H5 => H5 D = some (.lst zs) ∧ H5 fd_ = some (.frz o (.dK (kvW t))) ∧ NR H5 zs ((t.take i).map (fun p : Str × Int => (p.1, (0 : Int)))) ∧ Same H H5) ⟨upd_same, by rw [upd_ne nDt.symm, upd_same], .nil, ?_⟩ (fun i zs H5 z => ⟨z.1, z.2.1⟩) ?_ ?_
   ·intro b o e
    rw [upd_ne (ne_of_none (sx _ _ e) hD4), upd_ne (ne_of_none e hf0)]
    exact sx _ _ e
   ·rintro i k' v zs H5 hx ⟨h5, f5, w5, k5⟩
    obtain ⟨⟨n, w⟩, hn, e6⟩ : ∃ p, t[i]? = some p ∧ ((Sum.inr p.1 : Key), V.int p.2) = (k', v) := by
     unfold kvW at hx
     rw [List.getElem?_map] at hx
     cases z : t[i]? with
     | none => rw [z] at hx; cases hx
     | some p => rw [z] at hx; exact ⟨p, rfl, Option.some.inj hx⟩
    cases e6
    have li : i < t.length := (List.getElem?_eq_some_iff.mp hn).1
    have eg : Gm.dget t n = some w := Gm.dget_of nd (List.mem_of_getElem? hn)
    have lz : zs.length = i := by
     have := Paired.length w5
     rw [List.length_map, List.length_take] at this
     lia
    have lk : (kvW t).length = t.length := kvW_len
    have et : (t.take (i + 1)).map (fun p : Str × Int => (p.1, (0 : Int))) = (t.take i).map (fun p : Str × Int => (p.1, (0 : Int))) ++ [(fun p : Str × Int => (p.1, (0 : Int))) (n, w)] := by rw [List.take_add_one, hn, List.map_append]; rfl
    unfold tYes
    dsimp only
    rw [if_pos rfl]
    refine ⟨_, rfl, by show 2 ≤ sizeLine; decide, fun a ha => ?_⟩
    have nDa : a ≠ D := fun z => by rw [z, h5] at ha; cases ha
    refine ⟨by rw [upd_ne nDa.symm]; exact h5, by rw [lz]; exact small1000 (by lia), _, by lia, rfl, by lia, upd_same, ?_, ?_, ?_⟩
    ·rw [upd_ne nDt.symm, upd_ne (ne_of_none f5 ha)]; exact f5
    ·rw [et]
     refine Paired.snoc (w5.stay fun b l h => ?_) ⟨a, rfl, ?_⟩
     ·rw [upd_ne (ne_of h h5 (by intro z; cases z)), upd_ne (ne_of_none h ha)]; exact h
     ·rw [upd_ne nDa, upd_same]; rfl
    ·intro b o2 h
     have h6 := k5 b o2 h
     rw [upd_ne (ne_of_none (sx _ _ h) hD4), upd_ne (ne_of_none h6 ha)]
     exact h6
   ·rintro zs H5 ⟨h5, f5, w5, k5⟩
    rw [kvW_len, List.take_length] at w5
    refine ⟨fd_, o, kvW t, f5, fun o u z => (by rw [show (cxOf CX0 P w K mg base _ _ _ f cdv A outer s H E).nox.H₀ fd_ = H fd_ from rfl, hf0] at z; cases z), ?_⟩
    have h6 : (upd H5 fd_ (.dK (kvW t))) D = some (.lst zs) := by rw [upd_ne nDt]; exact h5
    have t6 : ∀ b l, H5 b = some (.tup l) → (upd H5 fd_ (.dK (kvW t))) b = some (.tup l) := fun b l z => by rw [upd_ne (ne_of z f5 (by intro y; cases y))]; exact z
    have w6 := w5.stay t6
    have k6 : Same H (upd H5 fd_ (.dK (kvW t))) := fun b o e => by rw [upd_ne (ne_of_none e hf0)]; exact k5 _ _ e
    generalize upd H5 fd_ (.dK (kvW t)) = H6 at h6 w6 k6 ⊢
    have ek : (t.map (fun p : Str × Int => (p.1, (0 : Int)))).map (·.1) = t.map (·.1) := by rw [List.map_map]; rfl
    refine ⟨D, zs, _, rfl, h6, NR.pkv w6, ?_, fun d2 hd2 => ⟨d2, t.map (fun p : Str × Int => (p.1, (0 : Int))), rfl, upd_same, by rw [ek]; exact nd, by rw [List.length_map]; lia, k6.trans (same_new hd2)⟩⟩
    rw [kvW_keys, ek, List.nodup_iff_pairwise_ne, List.pairwise_map]
    exact (List.nodup_iff_pairwise_ne.mp nd).imp fun h z => h (Sum.inr.inj z)
end
end Kx
end
section
set_option linter.all false
set_option maxRecDepth 100000
set_option maxHeartbeats 4000000
namespace Kx
open PySem L2
section
variable {P : Program} {w : World} {K : PySem.W.Frag} {mg : Str → Option Value} {base : Heap}
open Hm
def Paper (H : Hp) (x : V) : Prop := ∃ (d : Addr) (t : Tb), x = .ref d ∧ H d = some (.dK (kvW t)) ∧ (t.map (·.1)).Nodup ∧ t.length ≤ 902
theorem Paper.same {H H' : Hp} {x : V} (p : Paper H x) (s : Same H H') : Paper H' x := by
 obtain ⟨d, t, e, h, r⟩ := p
 exact ⟨d, t, e, s _ _ h, r⟩
theorem Paper.put {H : Hp} {x : V} {l : Addr} {xs ys : List V} (p : Paper H x) (h : H l = some (.lst xs)) : Paper (upd H l (.lst ys)) x := by
 obtain ⟨d, t, e, h1, r⟩ := p
 exact ⟨d, t, e, by rw [upd_ne (ne_of h1 h (by intro y; cases y))]; exact h1, r⟩
theorem Paper.far {H : Hp} {d : Addr} {w : Wb.Web} {first : Str} {far : Tb} (h : H d = some (.dK (kvW far))) (F : Wb.FarOk w first far) (l : w.length ≤ 600) : Paper H (.ref d) := ⟨d, far, rfl, h, F.nd, by have := F.len; lia⟩
theorem drop_wr {H : Hp} {zs : List V} {w : Wb.Web} (r : WR3 H zs w) : WR3 H (zs.drop 1) (w.drop 1) := by
 cases r with
 | nil => exact .nil
 | cons _ t => exact t
def lessW (r : Wb.Row) : Wb.Row := (r.1, r.2.1, if r.2.2 - 1 > 1 then r.2.2 - 1 else 1)
theorem less_pos {r : Wb.Row} : 1 ≤ (lessW r).2.2 := by
 show 1 ≤ (if r.2.2 - 1 > 1 then r.2.2 - 1 else 1)
 split <;> lia
abbrev sLaw : Stmt := top 13
theorem scLaw : FnScope ["script", "names", "web", "number", "first", "right", "papers", "k", "paper", "handed", "found"] ["script"] (defScope sLaw) := ⟨rfl, rfl, rfl, (by simp only [List.nodup_cons, List.mem_cons, List.not_mem_nil, or_false, not_or, List.nodup_nil, and_true, not_false_eq_true]; (repeat' apply And.intro); all_goals decide +kernel), rfl, by decide +kernel, by decide +kernel⟩
def spLaw (K : PySem.W.Frag) : Sp := fun vs H Q _ => ∃ (a : Addr) (ns : List Int), vs = [.ref a] ∧ SqL K H a (ns.map V.int) ∧ ns.length ≤ 63 ∧ ∀ H', Q (.bl true) H'
theorem ok_law {f a_law_number a_law_web a_law_far a_law_other a_law_shown alengths_shown : Addr} {fd f_law_number f_law_web f_law_far f_law_other f_law_shown flengths_shown : FuncData} (F : Fun K "law" "law" sLaw f fd) (T : Bl mg) (z_max : mg "max" = none) (z_dict : mg "dict" = none)
  (G_law_number : FnOk P w K mg base CX0 1 a_law_number f_law_number ["script", "k"] (spNumber K)) (D_law_number : Nm K mg "_law_number" a_law_number f_law_number ["script", "k"])
  (G_law_web : FnOk P w K mg base CX0 3 a_law_web f_law_web ["script", "most"] (spWeb K)) (D_law_web : Nm K mg "_law_web" a_law_web f_law_web ["script", "most"])
  (G_law_far : FnOk P w K mg base CX0 1 a_law_far f_law_far ["web", "first"] (spFar K)) (D_law_far : Nm K mg "_law_far" a_law_far f_law_far ["web", "first"])
  (G_law_other : FnOk P w K mg base CX0 1 a_law_other f_law_other ["number", "names", "first", "lengths"] spOther) (D_law_other : Nm K mg "_law_other" a_law_other f_law_other ["number", "names", "first", "lengths"])
  (G_law_shown : FnOk P w K mg base CX0 1 a_law_shown f_law_shown ["web", "first", "lengths"] (spLShown K)) (D_law_shown : Nm K mg "_law_shown" a_law_shown f_law_shown ["web", "first", "lengths"])
  (Glengths_shown : FnOk P w K mg base CX0 3 alengths_shown flengths_shown ["web", "first", "lengths"] (spLShown K)) (Dlengths_shown : Nm K mg "lengths_shown" alengths_shown flengths_shown ["web", "first", "lengths"]) :
  FnOk P w K mg base CX0 4 f fd ["script"] (spLaw K) := by
 have sc := scLaw
 refine F.okQ scLaw (fun vs H Q E h => ?_) (fun cdv A outer s H vs Q E hr h => ?_)
 ·obtain ⟨a, ns, rfl, _⟩ := h
  rfl
 ·obtain ⟨a, ns, rfl, hS, hn, k⟩ := h
  have hu := hr.units0
  have hu1 := hr.u100
  have t1 : ∀ {H' : Hp}, Same H H' → SqL K H' a (ns.map V.int) := fun k => hS.imp (fun z => z.imp (k _ _) (fun ⟨o, e⟩ => ⟨o, k _ _ e⟩)) id
  refine ⟨_, (qss_cons (qs_asg (qe_call G_law_web (hr.mono (by decide)) rfl D_law_web.m D_law_web.k D_law_web.b .nil pass0 (qa_cons (qv 0) (qa_cons qe_int qa_nil))) (qg_tup rfl (qgs_cons (qg_name (i := 1) sc.nd rfl (Or.inl rfl)) (qgs_cons (qg_name (i := 2) sc.nd rfl (Or.inl rfl)) qgs_nil))))
   (qss_cons (qs_set (i := 3) sc.nd rfl (Or.inl rfl) (qe_call G_law_number (hr.mono (by decide)) rfl D_law_number.m D_law_number.k D_law_number.b .nil pass0 (qa_cons (qv 0) (qa_cons qe_int qa_nil))))
   (qss_cons (qs_set (i := 4) sc.nd rfl (Or.inl rfl) (qe_ix ix_list (qe_op op_cat (qv 1) (qe_lst (qa_cons qe_str qa_nil))) (qe_op op_mod (qv 3) (qe_op op_add (qe_callB call_len_seq (by rfl) T.z_len (by decide +kernel) (qa_cons (qv 1) qa_nil)) qe_int)) (fun _ _ => rfl)))
   (qss_cons (qs_set (i := 5) sc.nd rfl (Or.inl rfl) (qe_call G_law_far (hr.mono (by decide)) rfl D_law_far.m D_law_far.k D_law_far.b .nil pass0 (qa_cons (qv 2) (qa_cons (qv 4) qa_nil))))
   (qss_cons (qs_set (i := 6) sc.nd rfl (Or.inl rfl) (qe_lst (qa_cons (qv 5) (qa_cons qe_dnewK (qa_cons (qe_call G_law_far (hr.mono (by decide)) rfl D_law_far.m D_law_far.k D_law_far.b .nil pass0 (qa_cons (qv 2) (qa_cons (qe_ix ix_list (qv 1) (qe_op op_mod (qe_op op_fdivB (qv 3) qe_int) (qe_callB call_len_seq (by rfl) T.z_len (by decide +kernel) (qa_cons (qv 1) qa_nil))) (fun _ _ => rfl)) qa_nil))) (qa_cons (qe_call G_law_far (hr.mono (by decide)) rfl D_law_far.m D_law_far.k D_law_far.b .nil pass0 (qa_cons (qe_joinE (qe_slice sl_tupA (qv 2) (qo_some qe_int) qo_none)) (qa_cons (qv 4) qa_nil))) qa_nil))))))
   (qss_cons (qs_expr (qe_bm PySem.F.plainAttrs_list PySem.F.slot_list_append PySem.F.type_list_append mt_append (qv 6) (qa_cons (qe_call G_law_far (hr.mono (by decide)) rfl D_law_far.m D_law_far.k D_law_far.b .nil pass0 (qa_cons (qe_callTy call_tuple_of (by rfl) T.z_tuple (by decide +kernel) (qa_cons (qe_comp3 (Blk3.of (N := ["script", "names", "web", "number", "first", "right", "papers", "k", "paper", "handed", "found"]) (esc := defScope sLaw) (NB := []) (cap := []) rfl rfl (fun y hy => cell_has hy) rfl (by decide +kernel) (by decide +kernel) (by decide +kernel) rfl (by decide +kernel) rfl rfl rfl (by decide +kernel)) rfl rfl (qi_tup (qv 2)) (fun C fp s₀ H₀ => qts_nil) (fun C fp s₀ H₀ => (qe_tup (qa_cons (qv 0) (qa_cons (qv 1) (qa_cons (qe_callB (call_max2 rfl) (by rfl) z_max (by decide +kernel) (qa_cons qe_int (qa_cons (qe_op op_sub (qv 2) qe_int) qa_nil))) qa_nil)))))) qa_nil)) (qa_cons (qv 4) qa_nil))) qa_nil)))
   (qss_cons (qs_for PassesOwn.never rfl (qi_range1 rfl T.z_range (qa_cons qe_int qa_nil)) (qg_name (i := 7) sc.nd rfl (Or.inl rfl)) (qss_one (qs_expr (qe_bm PySem.F.plainAttrs_list PySem.F.slot_list_append PySem.F.type_list_append mt_append (qv 6) (qa_cons (qe_call G_law_other (hr.mono (by decide)) rfl D_law_other.m D_law_other.k D_law_other.b .nil pass0 (qa_cons (qe_call G_law_number (hr.mono (by decide)) rfl D_law_number.m D_law_number.k D_law_number.b .nil pass0 (qa_cons (qv 0) (qa_cons (qe_op op_add qe_int (qv 7)) qa_nil))) (qa_cons (qv 1) (qa_cons (qv 4) (qa_cons (qv 5) qa_nil))))) qa_nil)))))
   (qss_cons (qs_for PassesOwn.never rfl (qi_list (qe_op op_cat (qv 6) (qe_lst (qa_cons (qv 5) qa_nil)))) (qg_name (i := 8) sc.nd rfl (Or.inl rfl)) (qss_cons (qs_set (i := 9) sc.nd rfl (Or.inl rfl) (qe_callTy call_dictC (by rfl) z_dict (by decide +kernel) (qa_cons (qv 8) qa_nil)))
   (qss_cons (qs_set (i := 10) sc.nd rfl (Or.inl rfl) (qe_call Glengths_shown (hr.mono (by decide)) rfl Dlengths_shown.m Dlengths_shown.k Dlengths_shown.b .nil pass0 (qa_cons (qv 2) (qa_cons (qv 4) (qa_cons (qv 9) qa_nil)))))
   (qss_one (qs_if (QW.pt (qw_or (qt_not (qt_val (qe_callB call_isi (by rfl) T.z_isinstance (by decide +kernel) (qa_cons (qv 10) (qa_cons (qe_bltn (v := .ty "bool") (u := .type "bool") (by rfl) T.z_bool (by decide +kernel) (by rfl)) qa_nil))))) (qw_or (qt_cmpR op_ne (qv 10) (qe_call G_law_shown (hr.mono (by decide)) rfl D_law_shown.m D_law_shown.k D_law_shown.b .nil pass0 (qa_cons (qv 2) (qa_cons (qv 4) (qa_cons (qv 8) qa_nil)))) (nomark _)) (qw_or1 (qt_cmpR (op_neDW hu) (qv 9) (qv 8) (nomark _)))))) (qss_one (qs_ret qe_bl)) qss_nil)))))
   (qss_one (qs_ret (qe_call Glengths_shown (hr.mono (by decide)) rfl Dlengths_shown.m Dlengths_shown.k Dlengths_shown.b .nil pass0 (qa_cons (qv 2) (qa_cons (qv 4) (qa_cons (qe_callTy call_dictC (by rfl) z_dict (by decide +kernel) (qa_cons (qv 5) qa_nil)) qa_nil)))))))))))))), ?_⟩
  refine ⟨_, rfl, a, ns, 20, rfl, hS, hn, by decide, by decide, fun p nl q names w zs H1 hp hnl ln1 ln2 hq wr lw hw s1 => ?_⟩
  have hw1 : ∀ r ∈ w, 1 ≤ r.2.2 := fun r h => (hw r h).1
  refine ⟨p, _, rfl, SqT.of hp, rfl, _, _, rfl, _, _, rfl, rfl, ?_⟩
  refine ⟨_, rfl, a, ns, 2, rfl, t1 s1, hn, by decide, fun nu H2 n0 n1 s2 => ?_⟩
  have lmm : (names.map V.str).length = names.length := List.length_map ..
  refine ⟨_, rfl, by show 1 ≤ sizeLine; decide, fun l2 hl2 => ?_⟩
  have s3 := same_new (o := .lst [.str "zzzzzzzz"]) hl2
  have g3 := upd_same (H := H2) (a := l2) (o := .lst [.str "zzzzzzzz"])
  generalize upd H2 l2 (.lst [.str "zzzzzzzz"]) = H3 at s3 g3 ⊢
  have s23 := s2.trans s3
  refine ⟨nl, l2, _, _, rfl, rfl, s23 _ _ hnl, g3, Nat.le_trans (show (names.map V.str).length + 1 ≤ 1000 by lia) (by decide), fun l3 hl3 => ?_⟩
  have e4 : names.map V.str ++ [.str "zzzzzzzz"] = (names ++ [("zzzzzzzz" : Str)]).map V.str := by rw [List.map_append]; rfl
  rw [e4]
  have s4 := same_new (o := .lst ((names ++ [("zzzzzzzz" : Str)]).map V.str)) hl3
  have g4 := upd_same (H := H3) (a := l3) (o := .lst ((names ++ [("zzzzzzzz" : Str)]).map V.str))
  generalize upd H3 l3 (.lst ((names ++ [("zzzzzzzz" : Str)]).map V.str)) = H4 at s4 g4 ⊢
  have s24 := s23.trans s4
  have l5 : (((names ++ [("zzzzzzzz" : Str)]).map V.str).length : Int) = names.length + 1 := by rw [List.length_map, List.length_append]; rfl
  obtain ⟨v2, ev2, mv2⟩ := atI_ex (l := (names ++ [("zzzzzzzz" : Str)]).map V.str) (i := nu % ((names.length : Int) + 1)) (mod_lo (by lia)) (by rw [l5]; exact mod_hi (by lia))
  obtain ⟨first, mn2, rfl⟩ := List.mem_map.mp mv2
  refine ⟨_, rfl, _, rfl, nl, _, rfl, .inl (SqL.of (s24 _ _ hnl)), _, _, rfl, rfl, _, _, rfl, rfl, (by rw [lmm]; lia), l3, _, _, _, rfl, rfl, SqL.of g4, (by rw [lmm]; exact ev2), ?_⟩
  refine ⟨_, rfl, _, rfl, q, first, zs, w, rfl, SqT.of (s24 _ _ hq), wr.stay (fun b l e => s24 _ _ e), by lia, hw1, fun rd far H5 hrd0 hrd FO s5 => ?_⟩
  have s25 := s24.trans s5
  have hn5 := s25 _ _ hnl
  refine ⟨_, rfl, fun d0 hd0 => ?_⟩
  have s6 := same_new (o := .dK []) hd0
  have g6 := upd_same (H := H5) (a := d0) (o := .dK [])
  generalize upd H5 d0 (.dK []) = H6 at s6 g6 ⊢
  have s26 := s25.trans s6
  obtain ⟨v3, ev3, mv3⟩ := atI_ex (l := names.map V.str) (i := nu / 32 % (names.length : Int)) (mod_lo (by lia)) (by rw [lmm]; exact mod_hi (by lia))
  obtain ⟨n3, mn3, rfl⟩ := List.mem_map.mp mv3
  refine ⟨_, rfl, _, rfl, _, rfl, _, _, rfl, rfl, ⟨by decide, by decide⟩, _, rfl, nl, _, rfl, .inl (SqL.of (s6 _ _ hn5)), _, _, rfl, rfl, (by rw [lmm]; lia), nl, _, _, _, rfl, rfl, SqL.of (s6 _ _ hn5), (by rw [lmm]; exact ev3), ?_⟩
  refine ⟨q, n3, zs, w, rfl, SqT.of (s26 _ _ hq), wr.stay (fun b l e => s26 _ _ e), by lia, hw1, fun d1 far1 H7 hd10 hd1 FO1 s7 => ?_⟩
  have s27 := s26.trans s7
  have g7 := s27 _ _ hq
  have w7 := wr.stay fun b l e => s27 _ _ e
  refine ⟨fun v H8 => ∃ q1 : Addr, v = .ref q1 ∧ H8 q1 = some (.tup (zs.drop 1)) ∧ Same H7 H8, ⟨_, rfl, _, rfl, ?_⟩, ?_⟩
  ·by_cases ez : zs = []
   ·exact .inr ⟨q, zs, rfl, SqT.of g7, whole_tail.mpr ez, q, rfl, by rw [g7, ez]; rfl, Same.refl _⟩
   ·exact .inl ⟨q, zs, rfl, SqT.of g7, fun z => ez (whole_tail.mp z), fun q1 hq1 => ⟨q1, rfl, by rw [cutV_tail]; exact upd_same, same_new hq1⟩⟩
  rintro v H8 ⟨q1, rfl, hq1, s8⟩
  have w8 := drop_wr (w7.stay fun b l e => s8 _ _ e)
  refine ⟨_, rfl, q1, first, _, w.drop 1, rfl, SqT.of hq1, w8, by rw [List.length_drop]; lia, fun r h => hw1 r (List.mem_of_mem_drop h), fun d2 far2 H9 hd20 hd2 FO2 s9 => ?_⟩
  have s79 := s8.trans s9
  have s29 := s27.trans s79
  refine ⟨by show 4 ≤ sizeLine; decide, fun pl hpl => ?_⟩
  have sA := same_new (o := .lst [.ref rd, .ref d0, .ref d1, .ref d2]) hpl
  have gA := upd_same (H := H9) (a := pl) (o := .lst [.ref rd, .ref d0, .ref d1, .ref d2])
  have pA : ∀ x ∈ ([.ref rd, .ref d0, .ref d1, .ref d2] : List V), Paper H9 x := fun x hx => by
   simp only [List.mem_cons, List.not_mem_nil, or_false] at hx
   rcases hx with rfl | rfl | rfl | rfl
   ·exact Paper.far (s79 _ _ (s7 _ _ (s6 _ _ hrd))) FO lw
   ·exact ⟨d0, [], rfl, s79 _ _ (s7 _ _ g6), by simp, by show 0 ≤ 902; lia⟩
   ·exact Paper.far (s79 _ _ hd1) FO1 lw
   ·exact Paper.far hd2 FO2 (by rw [List.length_drop]; lia)
  have hpl2 : H1 pl = none := by
   cases e : H1 pl with
   | none => rfl
   | some o => rw [s29 _ _ e] at hpl; cases hpl
  have s2A := s29.trans sA
  have hrdA := sA _ _ (s79 _ _ (s7 _ _ (s6 _ _ hrd)))
  have nrp : rd ≠ pl := ne_of hrdA gA (by intro y; cases y)
  have pA' : ∀ x ∈ ([.ref rd, .ref d0, .ref d1, .ref d2] : List V), Paper (upd H9 pl (.lst [.ref rd, .ref d0, .ref d1, .ref d2])) x := fun x hx => (pA x hx).same sA
  generalize upd H9 pl (.lst [.ref rd, .ref d0, .ref d1, .ref d2]) = HA at sA gA s2A pA' hrdA ⊢
  refine ⟨_, rfl, .inl ⟨rfl, _, SqL.of gA⟩, _, rfl, q, rfl, ⟨_, SqT.of (s2A _ _ hq)⟩, fun D hD => ?_⟩
  have wA := wr.stay fun b l e => s2A _ _ e
  refine comp_tup3R (K := K) (a := q) (xs := zs) (fun i ys H8 => H8 D = some (.lst ys) ∧ Same HA H8 ∧ WR3 H8 ys ((w.take i).map lessW)) ⟨upd_same, same_new hD, .nil⟩ (fun i ys H8 z => ⟨z.1, SqT.of (z.2.1 _ _ (s2A _ _ hq))⟩) ?_ ?_
  ·rintro i x ys H8 hx ⟨h8, s8, w8⟩
   obtain ⟨r, er, b, rfl, hb⟩ := paired_at wA hx
   have li := (List.getElem?_eq_some_iff.mp hx).1
   have lz := wA.len
   have ly : ys.length = i := by
    have := w8.len
    rw [List.length_map, List.length_take] at this
    lia
   refine ⟨b, _, _, _, rfl, SqT.of (s8 _ _ hb), ?_⟩
   unfold tYes
   dsimp only
   rw [if_pos rfl]
   refine ⟨_, rfl, _, rfl, _, rfl, _, _, rfl, rfl, 1, r.2.2 - 1, rfl, by show 3 ≤ sizeLine; decide, fun c hc => ?_⟩
   have nDc : c ≠ D := fun z => by rw [z, h8] at hc; cases hc
   have et : (w.take (i + 1)).map lessW = (w.take i).map lessW ++ [lessW r] := by rw [List.take_add_one, er, List.map_append]; rfl
   refine ⟨by rw [upd_ne nDc.symm]; exact h8, by rw [ly]; exact small1000 (by lia), _, by lia, rfl, by lia, upd_same, fun e o h => ?_, ?_⟩
   ·rw [upd_ne (ne_of_none h hD), upd_ne (ne_of_none (s8 _ _ h) hc)]; exact s8 _ _ h
   ·rw [et]
    refine WR3.snoc (w8.stay fun e l h => ?_) rfl ?_
    ·rw [upd_ne (ne_of h h8 (by intro z; cases z)), upd_ne (ne_of_none h hc)]; exact h
    ·rw [upd_ne nDc, upd_same]; rfl
  rintro ys HB ⟨hB, sB, wB⟩
  rw [wA.len, List.take_length] at wB
  refine ⟨D, ys, rfl, .inl ⟨SqL.of hB, fun q2 hq2 => ?_⟩⟩
  have sC := same_new (o := .tup ys) hq2
  have gC := upd_same (H := HB) (a := q2) (o := .tup ys)
  have wC := wB.stay (H' := upd HB q2 (.tup ys)) fun b l e => sC _ _ e
  generalize upd HB q2 (.tup ys) = HC at sC gC wC ⊢
  have sAC := sB.trans sC
  refine ⟨_, rfl, q2, first, ys, w.map lessW, rfl, SqT.of gC, wC, by rw [List.length_map]; lia, fun r h => ?_, fun d3 far3 HD hd30 hd3 FO3 sD => ?_⟩
  ·obtain ⟨r0, _, rfl⟩ := List.mem_map.mp h
   exact less_pos
  have sAD := sAC.trans sD
  refine ⟨pl, _, _, rfl, rfl, sAD _ _ gA, small1000 (by show 4 ≤ 1000; lia), ?_⟩
  have gD := upd_same (H := HD) (a := pl) (o := .lst ([.ref rd, .ref d0, .ref d1, .ref d2] ++ [.ref d3]))
  have sD2 : Same H1 (upd HD pl (.lst ([.ref rd, .ref d0, .ref d1, .ref d2] ++ [.ref d3]))) := fun b o e => by rw [upd_ne (ne_of_none e hpl2)]; exact sAD _ _ (s2A _ _ e)
  have pD : ∀ x ∈ ([.ref rd, .ref d0, .ref d1, .ref d2] ++ [.ref d3] : List V), Paper (upd HD pl (.lst ([.ref rd, .ref d0, .ref d1, .ref d2] ++ [.ref d3]))) x := fun x hx => by
   rcases List.mem_append.mp hx with hx | hx
   ·exact ((pA' x hx).same sAD).put (sAD _ _ gA)
   ·rw [List.mem_singleton.mp hx]
    exact (Paper.far hd3 FO3 (by rw [List.length_map]; lia)).put (sAD _ _ gA)
  have rD : (upd HD pl (.lst ([.ref rd, .ref d0, .ref d1, .ref d2] ++ [.ref d3]))) rd = some (.dK (kvW far)) := by rw [upd_ne nrp]; exact sAD _ _ hrdA
  generalize upd HD pl (.lst ([.ref rd, .ref d0, .ref d1, .ref d2] ++ [.ref d3])) = HE at gD sD2 pD rD ⊢
  have ff : first ∈ far.map (·.1) := List.mem_map.mpr ⟨_, Gm.dget_some FO.zero, rfl⟩
  have lfar := FO.len
  refine ⟨_, rfl, by decide, by decide, for_range (lo := 0) (n := 6) (fun i σ HF => ∃ (ps : List V) (o7 : Option V), σ = [some (.ref a), some (.ref nl), some (.ref q), some (.int nu), some (.str first), some (.ref rd), some (.ref pl), o7, none, none, none] ∧ HF pl = some (.lst ps) ∧ (∀ x ∈ ps, Paper HF x) ∧ ps.length = 5 + i ∧ Same H1 HF ∧ HF rd = some (.dK (kvW far)))
   ⟨_, none, rfl, gD, pD, rfl, sD2, rD⟩ ?_ ?_⟩
  ·rintro i σ HF hi ⟨ps, o7, rfl, hF, pF, lp, sF, rF⟩
   refine ⟨_, rfl, .inl ⟨rfl, _, SqL.of hF⟩, _, rfl, _, rfl, _, _, rfl, rfl, a, ns, _, rfl, t1 (s1.trans sF), hn, by lia, fun r HG r0 r1 sG => ?_⟩
   have sFG := sF.trans sG
   refine ⟨_, rfl, _, rfl, _, rfl, r, nl, rd, first, names, far, rfl, r0, r1, sFG _ _ hnl, ln2, sG _ _ rF, FO.nd, by lia, ff, fun d4 t4 HI hd4 nd4 lt4 sI => ?_⟩
   have sFI := sG.trans sI
   have hI := sFI _ _ hF
   refine ⟨pl, _, _, rfl, rfl, hI, small1000 (by lia), ps ++ [.ref d4], _, rfl, upd_same, fun x hx => ?_, by rw [List.length_append, lp]; rfl, fun b o e => ?_, ?_⟩
   ·rcases List.mem_append.mp hx with hx | hx
    ·exact ((pF x hx).same sFI).put hI
    ·rw [List.mem_singleton.mp hx]
     exact Paper.put ⟨d4, t4, rfl, hd4, nd4, lt4⟩ hI
   ·rw [upd_ne (ne_of_none e hpl2)]; exact sFI _ _ (sF _ _ e)
   ·rw [upd_ne nrp]; exact sFI _ _ rF
  rintro σ HF ⟨ps, o7, rfl, hF, pF, lp, sF, rF⟩
  refine ⟨_, rfl, _, rfl, by show 1 ≤ sizeLine; decide, fun l9 hl9 => ?_⟩
  have s9' := same_new (o := .lst [.ref rd]) hl9
  have g9 := upd_same (H := HF) (a := l9) (o := .lst [.ref rd])
  generalize upd HF l9 (.lst [.ref rd]) = HG at s9' g9 ⊢
  refine ⟨pl, l9, _, _, rfl, rfl, s9' _ _ hF, g9, Nat.le_trans (show ps.length + 1 ≤ 1000 by lia) (by decide), fun l10 hl10 => ?_⟩
  have s10 := same_new (o := .lst (ps ++ [.ref rd])) hl10
  have g10 := upd_same (H := HG) (a := l10) (o := .lst (ps ++ [.ref rd]))
  have sFI := s9'.trans s10
  generalize upd HG l10 (.lst (ps ++ [.ref rd])) = HI at s10 g10 sFI ⊢
  have pI : ∀ x ∈ ps ++ [V.ref rd], Paper HI x := fun x hx => by
   rcases List.mem_append.mp hx with hx | hx
   ·exact (pF x hx).same sFI
   ·rw [List.mem_singleton.mp hx]
    exact Paper.far (sFI _ _ rF) FO lw
  have sI := sF.trans sFI
  refine ⟨l10, rfl, ⟨_, SqL.of g10⟩, for_list (xs := ps ++ [.ref rd]) (fun i σ HJ => ∃ (o8 o9 o10 : Option V), σ = [some (.ref a), some (.ref nl), some (.ref q), some (.int nu), some (.str first), some (.ref rd), some (.ref pl), o7, o8, o9, o10] ∧ Same HI HJ)
   ⟨none, none, none, rfl, Same.refl _⟩ (fun i σ HJ _ ⟨_, _, _, _, z⟩ => SqL.of (z _ _ g10)) ?_ ?_⟩
  ·rintro i x σ HJ hx ⟨o8, o9, o10, rfl, sJ⟩
   obtain ⟨d, t, rfl, hd, nd, lt⟩ := (pI x (List.mem_of_getElem? hx)).same sJ
   have sJ1 := sI.trans sJ
   refine ⟨_, rfl, d, _, rfl, hd, fun hh hhh => ?_⟩
   have sK := same_new (o := .dK (kvW t)) hhh
   have gK := upd_same (H := HJ) (a := hh) (o := .dK (kvW t))
   generalize upd HJ hh (.dK (kvW t)) = HK at sK gK ⊢
   have sK1 := sJ1.trans sK
   refine ⟨_, rfl, _, rfl, _, rfl, q, hh, first, zs, w, t, rfl, SqT.of (sK1 _ _ hq), wr.stay (fun b l e => sK1 _ _ e), by lia, gK, fun b HL hb sL => ?_⟩
   have sL1 := sK1.trans sL
   refine ⟨_, rfl, _, _, _, true, rfl, .bl _, rfl, _, rfl, iteF ?_⟩
   refine ⟨_, rfl, _, rfl, _, rfl, _, rfl, q, d, first, zs, w, t, rfl, SqT.of (sL1 _ _ hq), wr.stay (fun b l e => sL1 _ _ e), by lia, sL _ _ (sK _ _ hd), fun b2 HM hb2 sM => ?_⟩
   have eb : b = b2 := Bool.eq_iff_iff.mpr (hb.trans hb2.symm)
   subst eb
   refine ⟨by rfl, _, rfl, ite2 (fun c => absurd c (by simp)) (fun _ => ?_)⟩
   have sKM := sL.trans sM
   refine ⟨_, rfl, _, rfl, hh, d, t, rfl, rfl, nd, sKM _ _ gK, sKM _ _ (sK _ _ hd), _, rfl, iteF ?_⟩
   exact ⟨_, _, _, rfl, (sJ.trans sK).trans sKM⟩
  rintro σ HJ ⟨o8, o9, o10, rfl, sJ⟩
  have sJ1 := sI.trans sJ
  refine ⟨_, rfl, _, rfl, _, rfl, rd, _, rfl, sJ _ _ (sFI _ _ rF), fun hh hhh => ?_⟩
  have sK := same_new (o := .dK (kvW far)) hhh
  have sK1 := sJ1.trans sK
  refine ⟨q, hh, first, zs, w, far, rfl, SqT.of (sK1 _ _ hq), wr.stay (fun b l e => sK1 _ _ e), by lia, upd_same, fun b HL hb sL => ?_⟩
  have eb : b = true := hb.mpr (FO.shown hw1)
  rw [eb]
  exact k HL
end
end Kx
end
section
set_option linter.all false
set_option maxRecDepth 100000
set_option maxHeartbeats 4000000
namespace Kx
open PySem L2
section
variable {P : Program} {w : World} {K : PySem.W.Frag} {mg : Str → Option Value} {base : Heap}
theorem all_mk {l : PySem.W.OpenLaw} {w : World} {K : PySem.W.Frag} {h : Heap} {mg : Str → Option Value} {fa f0 f1 f2 f3 f4 f5 f6 f7 f8 f9 f10 f11  : Addr} (X : K.In h) (G : h.Ns mainGlobals mg) (hfa : mg "law" = some (.ref fa))
     {od0 an0 od1 an1 od2 an2 od3 an3 od4 an4 od5 an5 od6 an6 od7 an7 od8 an8 od9 an9 od10 an10 od11 an11 : Option Addr} {sl0 sl1 sl2 sl3 sl4 sl5 sl6 sl7 sl8 sl9 sl10 sl11 : Array (Option Value)} {oc0 kV0 dc0 pm0 cd0 ct0 oc1 kV1 dc1 pm1 cd1 ct1 oc2 kV2 dc2 pm2 cd2 ct2 oc3 kV3 dc3 pm3 cd3 ct3 oc4 kV4 dc4 pm4 cd4 ct4 oc5 kV5 dc5 pm5 cd5 ct5 oc6 kV6 dc6 pm6 cd6 ct6 oc7 kV7 dc7 pm7 cd7 ct7 oc8 kV8 dc8 pm8 cd8 ct8 oc9 kV9 dc9 pm9 cd9 ct9 oc10 kV10 dc10 pm10 cd10 ct10 oc11 kV11 dc11 pm11 cd11 ct11 : Value}
    (a0 : PySem.W.nsIn K mainGlobals "is_exact" = some (some (.ref f0))) (l0 : K.lookup f0 = some ⟨oc0, od0, .func (PySem.W.fnOf "is_exact" "is_exact" (defArgs sExact) (defBody sExact) (defScope sExact) .none kV0 dc0 pm0 an0 cd0 ct0), sl0⟩) (c0 : PySem.W.codeIn K cd0 "is_exact" = true) (k0 : PySem.W.keepIn K (.ref f0) = true)
    (a1 : PySem.W.nsIn K mainGlobals "is_nearer" = some (some (.ref f1))) (l1 : K.lookup f1 = some ⟨oc1, od1, .func (PySem.W.fnOf "is_nearer" "is_nearer" (defArgs sNearer) (defBody sNearer) (defScope sNearer) .none kV1 dc1 pm1 an1 cd1 ct1), sl1⟩) (c1 : PySem.W.codeIn K cd1 "is_nearer" = true) (k1 : PySem.W.keepIn K (.ref f1) = true)
    (a2 : PySem.W.nsIn K mainGlobals "by_from" = some (some (.ref f2))) (l2 : K.lookup f2 = some ⟨oc2, od2, .func (PySem.W.fnOf "by_from" "by_from" (defArgs sByFrom) (defBody sByFrom) (defScope sByFrom) .none kV2 dc2 pm2 an2 cd2 ct2), sl2⟩) (c2 : PySem.W.codeIn K cd2 "by_from" = true) (k2 : PySem.W.keepIn K (.ref f2) = true)
    (a3 : PySem.W.nsIn K mainGlobals "going_back" = some (some (.ref f3))) (l3 : K.lookup f3 = some ⟨oc3, od3, .func (PySem.W.fnOf "going_back" "going_back" (defArgs sGoing) (defBody sGoing) (defScope sGoing) .none kV3 dc3 pm3 an3 cd3 ct3), sl3⟩) (c3 : PySem.W.codeIn K cd3 "going_back" = true) (k3 : PySem.W.keepIn K (.ref f3) = true)
    (a4 : PySem.W.nsIn K mainGlobals "lengths_shown" = some (some (.ref f4))) (l4 : K.lookup f4 = some ⟨oc4, od4, .func (PySem.W.fnOf "lengths_shown" "lengths_shown" (defArgs sLShown) (defBody sLShown) (defScope sLShown) .none kV4 dc4 pm4 an4 cd4 ct4), sl4⟩) (c4 : PySem.W.codeIn K cd4 "lengths_shown" = true) (k4 : PySem.W.keepIn K (.ref f4) = true)
    (a5 : PySem.W.nsIn K mainGlobals "_law_number" = some (some (.ref f5))) (l5 : K.lookup f5 = some ⟨oc5, od5, .func (PySem.W.fnOf "_law_number" "_law_number" (defArgs sNumber) (defBody sNumber) (defScope sNumber) .none kV5 dc5 pm5 an5 cd5 ct5), sl5⟩) (c5 : PySem.W.codeIn K cd5 "_law_number" = true) (k5 : PySem.W.keepIn K (.ref f5) = true)
    (a6 : PySem.W.nsIn K mainGlobals "_law_names" = some (some (.ref f6))) (l6 : K.lookup f6 = some ⟨oc6, od6, .func (PySem.W.fnOf "_law_names" "_law_names" (defArgs sWNames) (defBody sWNames) (defScope sWNames) .none kV6 dc6 pm6 an6 cd6 ct6), sl6⟩) (c6 : PySem.W.codeIn K cd6 "_law_names" = true) (k6 : PySem.W.keepIn K (.ref f6) = true)
    (a7 : PySem.W.nsIn K mainGlobals "_law_web" = some (some (.ref f7))) (l7 : K.lookup f7 = some ⟨oc7, od7, .func (PySem.W.fnOf "_law_web" "_law_web" (defArgs sWeb) (defBody sWeb) (defScope sWeb) .none kV7 dc7 pm7 an7 cd7 ct7), sl7⟩) (c7 : PySem.W.codeIn K cd7 "_law_web" = true) (k7 : PySem.W.keepIn K (.ref f7) = true)
    (a8 : PySem.W.nsIn K mainGlobals "_law_far" = some (some (.ref f8))) (l8 : K.lookup f8 = some ⟨oc8, od8, .func (PySem.W.fnOf "_law_far" "_law_far" (defArgs sFar) (defBody sFar) (defScope sFar) .none kV8 dc8 pm8 an8 cd8 ct8), sl8⟩) (c8 : PySem.W.codeIn K cd8 "_law_far" = true) (k8 : PySem.W.keepIn K (.ref f8) = true)
    (a9 : PySem.W.nsIn K mainGlobals "_law_shown" = some (some (.ref f9))) (l9 : K.lookup f9 = some ⟨oc9, od9, .func (PySem.W.fnOf "_law_shown" "_law_shown" (defArgs sShown) (defBody sShown) (defScope sShown) .none kV9 dc9 pm9 an9 cd9 ct9), sl9⟩) (c9 : PySem.W.codeIn K cd9 "_law_shown" = true) (k9 : PySem.W.keepIn K (.ref f9) = true)
    (a10 : PySem.W.nsIn K mainGlobals "_law_other" = some (some (.ref f10))) (l10 : K.lookup f10 = some ⟨oc10, od10, .func (PySem.W.fnOf "_law_other" "_law_other" (defArgs sOther) (defBody sOther) (defScope sOther) .none kV10 dc10 pm10 an10 cd10 ct10), sl10⟩) (c10 : PySem.W.codeIn K cd10 "_law_other" = true) (k10 : PySem.W.keepIn K (.ref f10) = true)
    (a11 : PySem.W.nsIn K mainGlobals "law" = some (some (.ref f11))) (l11 : K.lookup f11 = some ⟨oc11, od11, .func (PySem.W.fnOf "law" "law" (defArgs sLaw) (defBody sLaw) (defScope sLaw) .none kV11 dc11 pm11 an11 cd11 ct11), sl11⟩) (c11 : PySem.W.codeIn K cd11 "law" = true) (k11 : PySem.W.keepIn K (.ref f11) = true)
    (z_len : PySem.W.nsIn K mainGlobals "len" = some none)
    (z_sum : PySem.W.nsIn K mainGlobals "sum" = some none)
    (z_abs : PySem.W.nsIn K mainGlobals "abs" = some none)
    (z_range : PySem.W.nsIn K mainGlobals "range" = some none)
    (z_list : PySem.W.nsIn K mainGlobals "list" = some none)
    (z_tuple : PySem.W.nsIn K mainGlobals "tuple" = some none)
    (z_int : PySem.W.nsIn K mainGlobals "int" = some none)
    (z_bool : PySem.W.nsIn K mainGlobals "bool" = some none)
    (z_sorted : PySem.W.nsIn K mainGlobals "sorted" = some none)
    (z_isinstance : PySem.W.nsIn K mainGlobals "isinstance" = some none)
    (z_max : PySem.W.nsIn K mainGlobals "max" = some none)
    (z_min : PySem.W.nsIn K mainGlobals "min" = some none)
    (z_any : PySem.W.nsIn K mainGlobals "any" = some none)
    (z_dict : PySem.W.nsIn K mainGlobals "dict" = some none) :
    ∃ fd : FuncData, (∀ (s : Shared) (v : Value), BindsTo s fd ⟨[v], []⟩ [("script", v)]) ∧ ∀ base : Heap, K.In base → base.Ns mainGlobals mg → FnOk l.prog w K mg base CX0 4 fa fd ["script"] (spLaw K) := by
  have e := hfa.symm.trans (PySem.W.mg_of X G a11)
  cases e
  have T : Bl mg := ⟨PySem.W.mg_none_of X G z_len, PySem.W.mg_none_of X G z_sum, PySem.W.mg_none_of X G z_abs, PySem.W.mg_none_of X G z_range, PySem.W.mg_none_of X G z_list, PySem.W.mg_none_of X G z_tuple, PySem.W.mg_none_of X G z_int, PySem.W.mg_none_of X G z_bool, PySem.W.mg_none_of X G z_sorted, PySem.W.mg_none_of X G z_isinstance⟩
  have F0 := fun_mk (st := sExact) l0 c0 k0
  have D0 : Nm K mg "is_exact" f0 _ ["row", "lengths"] := ⟨PySem.W.mg_of X G a0, k0, F0.binds (ps := ["row", "lengths"]) fun _ _ _ _ _ _ us hl => match us, hl with | [_, _], _ => rfl⟩
  have F1 := fun_mk (st := sNearer) l1 c1 k1
  have D1 : Nm K mg "is_nearer" f1 _ ["row", "lengths"] := ⟨PySem.W.mg_of X G a1, k1, F1.binds (ps := ["row", "lengths"]) fun _ _ _ _ _ _ us hl => match us, hl with | [_, _], _ => rfl⟩
  have F2 := fun_mk (st := sByFrom) l2 c2 k2
  have D2 : Nm K mg "by_from" f2 _ ["web"] := ⟨PySem.W.mg_of X G a2, k2, F2.binds (ps := ["web"]) fun _ _ _ _ _ _ us hl => match us, hl with | [_], _ => rfl⟩
  have F3 := fun_mk (st := sGoing) l3 c3 k3
  have D3 : Nm K mg "going_back" f3 _ ["web", "first", "lengths"] := ⟨PySem.W.mg_of X G a3, k3, F3.binds (ps := ["web", "first", "lengths"]) fun _ _ _ _ _ _ us hl => match us, hl with | [_, _, _], _ => rfl⟩
  have F4 := fun_mk (st := sLShown) l4 c4 k4
  have D4 : Nm K mg "lengths_shown" f4 _ ["web", "first", "lengths"] := ⟨PySem.W.mg_of X G a4, k4, F4.binds (ps := ["web", "first", "lengths"]) fun _ _ _ _ _ _ us hl => match us, hl with | [_, _, _], _ => rfl⟩
  have F5 := fun_mk (st := sNumber) l5 c5 k5
  have D5 : Nm K mg "_law_number" f5 _ ["script", "k"] := ⟨PySem.W.mg_of X G a5, k5, F5.binds (ps := ["script", "k"]) fun _ _ _ _ _ _ us hl => match us, hl with | [_, _], _ => rfl⟩
  have F6 := fun_mk (st := sWNames) l6 c6 k6
  have D6 : Nm K mg "_law_names" f6 _ ["script", "start", "many"] := ⟨PySem.W.mg_of X G a6, k6, F6.binds (ps := ["script", "start", "many"]) fun _ _ _ _ _ _ us hl => match us, hl with | [_, _, _], _ => rfl⟩
  have F7 := fun_mk (st := sWeb) l7 c7 k7
  have D7 : Nm K mg "_law_web" f7 _ ["script", "most"] := ⟨PySem.W.mg_of X G a7, k7, F7.binds (ps := ["script", "most"]) fun _ _ _ _ _ _ us hl => match us, hl with | [_, _], _ => rfl⟩
  have F8 := fun_mk (st := sFar) l8 c8 k8
  have D8 : Nm K mg "_law_far" f8 _ ["web", "first"] := ⟨PySem.W.mg_of X G a8, k8, F8.binds (ps := ["web", "first"]) fun _ _ _ _ _ _ us hl => match us, hl with | [_, _], _ => rfl⟩
  have F9 := fun_mk (st := sShown) l9 c9 k9
  have D9 : Nm K mg "_law_shown" f9 _ ["web", "first", "lengths"] := ⟨PySem.W.mg_of X G a9, k9, F9.binds (ps := ["web", "first", "lengths"]) fun _ _ _ _ _ _ us hl => match us, hl with | [_, _, _], _ => rfl⟩
  have F10 := fun_mk (st := sOther) l10 c10 k10
  have D10 : Nm K mg "_law_other" f10 _ ["number", "names", "first", "lengths"] := ⟨PySem.W.mg_of X G a10, k10, F10.binds (ps := ["number", "names", "first", "lengths"]) fun _ _ _ _ _ _ us hl => match us, hl with | [_, _, _, _], _ => rfl⟩
  have F11 := fun_mk (st := sLaw) l11 c11 k11
  refine ⟨PySem.W.fnOf "law" "law" (defArgs sLaw) (defBody sLaw) (defScope sLaw) .none kV11 dc11 pm11 an11 cd11 ct11, fun s v => .of_eq rfl, fun base _ _ => ?_⟩
  have G0 := ok_exact (P := l.prog) (w := w) (base := base) F0 T 
  have G1 := ok_nearer (P := l.prog) (w := w) (base := base) F1 T 
  have G2 := ok_byfrom (P := l.prog) (w := w) (base := base) F2 T 
  have G3 := ok_going (P := l.prog) (w := w) (base := base) F3 T G2 D2 G0 D0
  have G4 := ok_lshown (P := l.prog) (w := w) (base := base) F4 T (PySem.W.mg_none_of X G z_any) G3 D3 G1 D1
  have G5 := ok_number (P := l.prog) (w := w) (base := base) F5 T (PySem.W.mg_none_of X G z_max) (PySem.W.mg_none_of X G z_min) 
  have G6 := ok_wnames (P := l.prog) (w := w) (base := base) F6 T G5 D5
  have G7 := ok_web (P := l.prog) (w := w) (base := base) F7 T G5 D5 G6 D6
  have G8 := ok_far (P := l.prog) (w := w) (base := base) F8 T 
  have G9 := ok_shown (P := l.prog) (w := w) (base := base) F9 T 
  have G10 := ok_other (P := l.prog) (w := w) (base := base) F10 T (PySem.W.mg_none_of X G z_dict) 
  exact ok_law F11 T (PySem.W.mg_none_of X G z_max) (PySem.W.mg_none_of X G z_dict) G5 D5 G7 D7 G8 D8 G10 D10 G9 D9 G4 D4
theorem walk {l : PySem.W.OpenLaw} {q : Program} {loose : List Str} {XP : (Str → Option Value) → Heap → Prop} {YP : World → Heap → Prop} {d : DefRec} {K : Params → PySem.W.Frag} (hn : l.most = some 63) (hdf : d.params.defaults = [])
    (hY : ∀ (w : World) (h : Heap), YP w h → (K w.params).In h)
    (F : ∀ (w : World) (mg : Str → Option Value) (fa : Addr) (h : Heap), (K w.params).In h → h.Ns mainGlobals mg → mg d.name = some (.ref fa) →
      ∃ fd : FuncData, (∀ (s : Shared) (u : Value), BindsTo s fd ⟨[u], []⟩ [("script", u)]) ∧ ∀ base : Heap, (K w.params).In base → base.Ns mainGlobals mg → FnOk l.prog w (K w.params) mg base CX0 4 fa fd ["script"] (spLaw (K w.params))) :
    PySem.W.WalkO q loose XP YP l.row.toRowW d [] (fun f vs => PySem.call f vs) :=
  L2.walk_of (n := 63) (k := 4) (x := "script") (CX := fun _ => CX0) (sp := fun w => spLaw (K w.params)) hn (by decide) hdf ⟨rfl, by decide, by decide⟩ hY F (fun _ _ a ns hl _ hS => ⟨a, ns, rfl, hS, hl, fun _ => rfl⟩) fun _ _ _ _ _ z => z
end
end Kx
end
section
set_option linter.all false
open PySem PySem.W PyProof.Rows
set_option maxRecDepth 100000 in
set_option maxHeartbeats 0 in
theorem PySem.Challenge.cw_lategone_k31_lengths_looked_at_holds : PySem.Challenge.rw_lategone_k31_lengths_looked_at.Holds := by
 w_on; o_law; k_head; (case hw => w_witness2)
 k_fill
 refine Kx.walk (l := PySem.Challenge.rw_lategone_k31_lengths_looked_at) rfl rfl (fun w h Y => PySem.W.kIn_of Y) ?F
 case F =>
  intro w mg fa h KX G hmg
  refine' Kx.all_mk KX G hmg ?a0 ?l0 ?c0 ?k0 ?a1 ?l1 ?c1 ?k1 ?a2 ?l2 ?c2 ?k2 ?a3 ?l3 ?c3 ?k3 ?a4 ?l4 ?c4 ?k4 ?a5 ?l5 ?c5 ?k5 ?a6 ?l6 ?c6 ?k6 ?a7 ?l7 ?c7 ?k7 ?a8 ?l8 ?c8 ?k8 ?a9 ?l9 ?c9 ?k9 ?a10 ?l10 ?c10 ?k10 ?a11 ?l11 ?c11 ?k11 ?z_len ?z_sum ?z_abs ?z_range ?z_list ?z_tuple ?z_int ?z_bool ?z_sorted ?z_isinstance ?z_max ?z_min ?z_any ?z_dict
  (case a0 => k_is)
  (case l0 => k_is)
  (case c0 => k_is)
  (case k0 => k_is)
  (case a1 => k_is)
  (case l1 => k_is)
  (case c1 => k_is)
  (case k1 => k_is)
  (case a2 => k_is)
  (case l2 => k_is)
  (case c2 => k_is)
  (case k2 => k_is)
  (case a3 => k_is)
  (case l3 => k_is)
  (case c3 => k_is)
  (case k3 => k_is)
  (case a4 => k_is)
  (case l4 => k_is)
  (case c4 => k_is)
  (case k4 => k_is)
  (case a5 => k_is)
  (case l5 => k_is)
  (case c5 => k_is)
  (case k5 => k_is)
  (case a6 => k_is)
  (case l6 => k_is)
  (case c6 => k_is)
  (case k6 => k_is)
  (case a7 => k_is)
  (case l7 => k_is)
  (case c7 => k_is)
  (case k7 => k_is)
  (case a8 => k_is)
  (case l8 => k_is)
  (case c8 => k_is)
  (case k8 => k_is)
  (case a9 => k_is)
  (case l9 => k_is)
  (case c9 => k_is)
  (case k9 => k_is)
  (case a10 => k_is)
  (case l10 => k_is)
  (case c10 => k_is)
  (case k10 => k_is)
  (case a11 => k_is)
  (case l11 => k_is)
  (case c11 => k_is)
  (case k11 => k_is)
  (case z_len => k_is)
  (case z_sum => k_is)
  (case z_abs => k_is)
  (case z_range => k_is)
  (case z_list => k_is)
  (case z_tuple => k_is)
  (case z_int => k_is)
  (case z_bool => k_is)
  (case z_sorted => k_is)
  (case z_isinstance => k_is)
  (case z_max => k_is)
  (case z_min => k_is)
  (case z_any => k_is)
  (case z_dict => k_is)
#print axioms PySem.Challenge.cw_lategone_k31_lengths_looked_at_holds
end
