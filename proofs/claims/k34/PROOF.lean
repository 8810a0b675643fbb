import PyProof.Rows.All
import Wide.All
import OpenK.AllK
import Wide.FinOn
import Lean
import PyProof.EqAt
import PyProof.EqKinds
import PyProof.TupleCall
import PyProof.LongRange
import KE.KDictLaws
import KE.KDictList
import KE.KDictOf
import KE.KDictSum
import KE.KEqDict
import KE.KRevSl
import KE.LcSums
import PyProof.AttrMissHeap
import PyProof.ConsumeWalk
import PyProof.DictValues
import PyProof.DictWalks
import PyProof.NeKinds
import PyProof.Rows.RuleIs
import PyProof.Rows.SetFrom
import PyProof.Rows.SortKey
import PyProof.Rows.SortRuns
import PyProof.Rows.SortShellK
import PyProof.SetRoads
import PyProof.StrBlockI
import PyProof.StrCalls2
import PyProof.StrLawsJoin
import PyProof.WalkInts
import PySem.Challenge.RW_lategone_k34_whole_planted_ways
set_option Elab.async false
def PySem.W.Fast.tw9764650533980811597 : Nat := 0
def PySem.W.Fast.tw15367109204516350875 : Nat := 0
def PySem.W.Fast.tw15126165336211698462 : Nat := 0
def PySem.W.Fast.tw14806693046429430817 : Nat := 0
def PySem.W.Fast.tw10215487219599200832 : Nat := 0
def PySem.W.Fast.tw10624582930414343112 : Nat := 0
def PySem.W.Fast.tw5245371619690820534 : Nat := 0
def PySem.W.Fast.tw11788374414482910680 : Nat := 0
def PySem.W.Fast.tw312240523655450620 : Nat := 0
section
set_option linter.all false
set_option maxRecDepth 100000
set_option maxHeartbeats 4000000
namespace TS
open PySem PyProof.Rows
section ord
variable {κ : KeyKind} {p q r : Keyed}
end ord
section
variable {kd : SortKind} {a₀ : Array Keyed} {st : SortSt} {κ : KeyKind}
end
section
variable {prog : Program} {w : World} {A : Around} {E : Value → Shared → Prop} {s : Shared} {κ : KeyKind} {kd : SortKind} {a₀ : Array Keyed} {st : SortSt}
def Kp (lo : Nat) (xs ys : Array Keyed) : Prop := ∀ k, k < lo → xs[k]? = ys[k]?
end
end TS
end
section
set_option linter.all false
set_option maxRecDepth 100000
set_option maxHeartbeats 4000000
namespace TS
open PySem PyProof.Rows
section
variable {prog : Program} {w : World} {A : Around} {E : Value → Shared → Prop} {s : Shared} {κ : KeyKind} {kd : SortKind} {a₀ : Array Keyed} {st : SortSt}
end
end TS
end
section
set_option linter.all false
set_option maxRecDepth 100000
set_option maxHeartbeats 4000000
namespace TS
open PySem PyProof.Rows
section
variable {κ : KeyKind} {a b out : List Keyed} {ia ib : Nat}
end
section
variable {prog : Program} {w : World} {A : Around} {E : Value → Shared → Prop} {s : Shared} {κ : KeyKind} {kd : SortKind} {a₀ : Array Keyed} {st : SortSt}
end
end TS
end
section
set_option linter.all false
set_option maxRecDepth 100000
set_option maxHeartbeats 4000000
namespace TS
open PySem PyProof.Rows
section
variable {κ : KeyKind} {a b out : List Keyed} {na nb : Nat}
end
section
variable {prog : Program} {w : World} {A : Around} {E : Value → Shared → Prop} {s : Shared} {κ : KeyKind} {kd : SortKind} {a₀ : Array Keyed} {st : SortSt}
end
end TS
end
section
set_option linter.all false
set_option maxRecDepth 100000
set_option maxHeartbeats 4000000
namespace TS
open PySem PyProof.Rows
section
variable {κ : KeyKind}
end
section
variable {prog : Program} {w : World} {A : Around} {E : Value → Shared → Prop} {s : Shared} {κ : KeyKind} {kd : SortKind} {a₀ : Array Keyed} {st : SortSt}
end
end TS
end
section
set_option linter.all false
set_option maxRecDepth 100000
set_option maxHeartbeats 4000000
namespace TS
open PySem PyProof.Rows
section
variable {κ : KeyKind} {xs ys : Array Keyed}
end
section
variable {prog : Program} {w : World} {A : Around} {E : Value → Shared → Prop} {s : Shared} {κ : KeyKind} {kd : SortKind} {a₀ : Array Keyed} {st : SortSt}
end
end TS
end
section
set_option linter.all false
set_option maxRecDepth 100000
set_option maxHeartbeats 4000000
namespace TS
open PySem PyProof.Rows
section
variable {prog : Program} {w : World} {A : Around} {E : Value → Shared → Prop} {s : Shared} {κ : KeyKind} {kd : SortKind} {a₀ : Array Keyed} {st : SortSt}
end
end TS
end
section
set_option linter.all false
set_option maxRecDepth 100000
set_option maxHeartbeats 4000000
namespace TS
open PySem PyProof.Rows
section
variable {prog : Program} {w : World} {A : Around} {E : Value → Shared → Prop} {s : Shared} {κ : KeyKind} {kd : SortKind}
end
end TS
end
section
-- CHANGE: your row's module here, as the last of these rows
set_option Elab.async false
set_option linter.all false
set_option maxRecDepth 100000
namespace L2
open PySem PySem.Spec PyProof.Rows
abbrev Key := Sum Int Str
def keyIs : Key → Value → Bool
  | .inl k, v => Value.isInt k v
  | .inr x, v => Value.isStrOf x v
def keyH (w : World) : Key → Int
  | .inl k => hashInt k
  | .inr x => hashStr w x
theorem keyIs_shape : ∀ {k : Key} {v : Value}, keyIs k v = true → (∃ i t, k = Sum.inl i ∧ v = Value.int i t) ∨ (∃ x t, k = Sum.inr x ∧ v = Value.str x t)
  | .inl i, v, h => by
    obtain ⟨t, e⟩ := Value.isInt_shape (k := i) (v := v) h
    exact .inl ⟨i, t, rfl, e⟩
  | .inr x, v, h => by
    obtain ⟨t, e⟩ := Value.isStrOf_shape (x := x) (v := v) h
    exact .inr ⟨x, t, rfl, e⟩
theorem keyIs_int (i : Int) (t : Tok) : keyIs (.inl i) (.int i t) = true := by simp [keyIs, Value.isInt]
theorem keyIs_str (x : Str) (t : Tok) : keyIs (.inr x) (.str x t) = true := by simp [keyIs, Value.isStrOf]
theorem key_ll (a b : Int) : decide ((Sum.inl a : Key) = Sum.inl b) = (a == b) := by
  by_cases e : a = b
  · subst e; simp
  · have h : ¬ (Sum.inl a : Key) = Sum.inl b := fun q => e (Sum.inl.inj q)
    rw [decide_eq_false h]
    exact (beq_eq_false_iff_ne.mpr e).symm
theorem key_rr (a b : Str) : decide ((Sum.inr a : Key) = Sum.inr b) = decide (a = b) := by
  by_cases e : a = b
  · subst e; simp
  · have h : ¬ (Sum.inr a : Key) = Sum.inr b := fun q => e (Sum.inr.inj q)
    rw [decide_eq_false h, decide_eq_false e]
theorem key_lr (a : Int) (b : Str) : decide ((Sum.inl a : Key) = Sum.inr b) = false := decide_eq_false (fun q => nomatch q)
theorem key_rl (a : Str) (b : Int) : decide ((Sum.inr a : Key) = Sum.inl b) = false := decide_eq_false (fun q => nomatch q)
def mixKind (prog : Program) (w : World) : PySem.KeyKind prog w Key where
  is := keyIs
  hash := keyH w
  inj := fun v a b ha hb => by
    rcases keyIs_shape ha with ⟨i, t, rfl, rfl⟩ | ⟨x, t, rfl, rfl⟩
    · rcases keyIs_shape hb with ⟨j, u, rfl, e⟩ | ⟨y, u, rfl, e⟩
      · injection e with e1 _; rw [e1]
      · exact nomatch e
    · rcases keyIs_shape hb with ⟨j, u, rfl, e⟩ | ⟨y, u, rfl, e⟩
      · exact nomatch e
      · injection e with e1 _; rw [e1]
  byValue := fun k v h => by
    rcases keyIs_shape h with ⟨i, t, rfl, rfl⟩ | ⟨x, t, rfl, rfl⟩ <;> rfl
  pyHash := fun hv h => by
    rcases keyIs_shape hv with ⟨i, t, rfl, rfl⟩ | ⟨x, t, rfl, rfl⟩
    · exact wpAny_pyHash_int h
    · exact wpAny_pyHash_str h
  eqBool := fun hu hv h => by
    rcases keyIs_shape hu with ⟨i, t, rfl, rfl⟩ | ⟨x, t, rfl, rfl⟩
    · rcases keyIs_shape hv with ⟨j, u, rfl, rfl⟩ | ⟨y, u, rfl, rfl⟩
      · rw [key_ll] at h; exact wpAny_eqBool_int h
      · rw [key_lr] at h; exact SeqAt.EqAt.int_str i t y u _ _ _ _ h
    · rcases keyIs_shape hv with ⟨j, u, rfl, rfl⟩ | ⟨y, u, rfl, rfl⟩
      · rw [key_rl] at h; exact SeqAt.EqAt.str_int x t j u _ _ _ _ h
      · rw [key_rr] at h; exact wpAny_eqBool_str h
  «strs» := fun k x t v h => by
    rcases keyIs_shape h with ⟨i, u, rfl, e⟩ | ⟨y, u, rfl, e⟩
    · exact nomatch e
    · injection e with e1 _
      subst e1
      cases v <;> rfl
theorem mixKind_int (prog : Program) (w : World) (i : Int) (t : Tok) : (mixKind prog w).is (.inl i) (.int i t) = true := keyIs_int i t
theorem mixKind_str (prog : Program) (w : World) (x : Str) (t : Tok) : (mixKind prog w).is (.inr x) (.str x t) = true := keyIs_str x t
end L2
namespace L2
open PySem PySem.Spec PyProof.Rows
inductive V where
  | non | bl (b : Bool) | int (i : Int) | str (x : Str) | byt (b : Array UInt8) | flt (b : UInt64) | ref (a : Addr) | ty (n : String)
  deriving DecidableEq
def RelV : V → Value → Prop
  | .non, u => u = Value.none
  | .bl b, u => u = Value.bool b
  | .int i, u => ∃ t, u = Value.int i t
  | .str x, u => ∃ t, u = Value.str x t
  | .byt b, u => ∃ t, u = Value.bytes b t
  | .flt b, u => ∃ t, u = Value.float b t
  | .ref a, u => u = Value.ref a
  | .ty n, u => u = Value.type n
abbrev Vals : List V → List Value → Prop := Paired RelV
theorem Vals.length {xs : List V} {us : List Value} (r : Vals xs us) : xs.length = us.length := Paired.length r
theorem Vals.get : ∀ {xs : List V} {us : List Value} {i : Nat} {x : V}, Vals xs us → xs[i]? = some x → ∃ u, us[i]? = some u ∧ RelV x u
  | _, _, _, _, .nil, e => by simp at e
  | _, _, 0, _, .cons r _, e => by simp at e; subst e; exact ⟨_, rfl, r⟩
  | _, _, i + 1, x, .cons _ t, e => by
    obtain ⟨u, h1, h2⟩ := Vals.get (i := i) (x := x) t (by simpa using e)
    exact ⟨u, by simpa using h1, h2⟩
theorem Vals.set {x : V} {u : Value} (r : RelV x u) : ∀ {xs : List V} {us : List Value} (i : Nat), Vals xs us → Vals (xs.set i x) (us.set i u)
  | _, _, _, .nil => .nil
  | _, _, 0, .cons _ t => .cons r t
  | _, _, i + 1, .cons q t => .cons q (Vals.set r i t)
theorem Vals.append : ∀ {xs ys : List V} {us ws : List Value}, Vals xs us → Vals ys ws → Vals (xs ++ ys) (us ++ ws)
  | _, _, _, _, .nil, s => s
  | _, _, _, _, .cons r t, s => .cons r (Vals.append t s)
theorem Vals.take : ∀ {xs : List V} {us : List Value} (n : Nat), Vals xs us → Vals (xs.take n) (us.take n)
  | _, _, 0, _ => .nil
  | _, _, _ + 1, .nil => .nil
  | _, _, n + 1, .cons r t => .cons r (Vals.take n t)
theorem Vals.drop : ∀ {xs : List V} {us : List Value} (n : Nat), Vals xs us → Vals (xs.drop n) (us.drop n)
  | _, _, 0, r => r
  | _, _, _ + 1, .nil => .nil
  | _, _, n + 1, .cons _ t => Vals.drop n t
def RelO : Option V → Option Value → Prop
  | some v, some u => RelV v u
  | none, none => True
  | _, _ => False
def KV {κ : Type} : List (κ × V) → List (κ × Value) → Prop := Paired fun (p : κ × V) (q : κ × Value) => p.1 = q.1 ∧ RelV p.2 q.2
def kV : Key → V
  | .inl i => .int i
  | .inr x => .str x
inductive HO where
  /-- a list -/
  | lst (xs : List V)
  /-- a tuple (never changes) -/
  | tup (xs : List V)
  /-- a dict whose keys are ints and texts; one whose keys are tuples of ints and texts (the empty one is both) -/
  | dK (kvs : List (Key × V)) | dT (kvs : List (List Key × V))
  /-- a set of ints: its members, its size -/
  | set (S : Int → Bool) (n : Nat)
  /-- an instance of the class at C, its dict at dx, its attributes -/
  | ins (C dx : Addr) (fs : List (Str × V))
  /-- the dict of the instance at x -/
  | own (x : Addr)
  /-- the dict of an exception -/
  | xd (fs : List (Str × V))
  /-- a bound method, f of x -/
  | met (f x : Addr)
  /-- a range object lo, lo + 1, .. below hi -/
  | rng (lo hi : Int)
  /-- a thing that is known to the object (the script; a dict while a loop walks it): read, never written while it is so -/
  | frz (o : Obj) (u : HO)
  /-- a code object's table -/
  | tbl (ps : Array Value)
  /-- any other thing, by what is true of its one object (a def of one's own: SetO a S n := HO.ext fun h => ..) -/
  | ext (φ : Heap → Prop)
abbrev Hp := Addr → Option HO
def upd (H : Hp) (a : Addr) (o : HO) : Hp := fun b => if b = a then some o else H b
theorem upd_same {H : Hp} {a : Addr} {o : HO} : upd H a o a = some o := by unfold upd; rw [if_pos rfl]
theorem upd_ne {H : Hp} {a b : Addr} {o : HO} (h : b ≠ a) : upd H a o b = H b := by unfold upd; rw [if_neg h]
theorem upd_upd {H : Hp} {a : Addr} {o u : HO} : upd (upd H a o) a u = upd H a u := by
  funext b; unfold upd; split <;> rfl
theorem ne_of {H : Hp} {a b : Addr} {o u : HO} (h : H a = some o) (h' : H b = some u) (d : o ≠ u) : a ≠ b := by
  intro e; subst e; rw [h] at h'; exact d (Option.some.inj h')
theorem ne_of_none {H : Hp} {a b : Addr} {o : HO} (h : H a = some o) (h' : H b = none) : a ≠ b := by
  intro e; subst e; rw [h] at h'; cases h'
section
variable (P : Program) (w : World)
def ObjOk (H : Hp) (h : Heap) (a : Addr) : HO → Prop
  | .lst xs => xs.length ≤ sizeLine ∧ ∃ (its : List Value) (n : Nat), Vals xs its ∧ h.get? a = some { cls := .type "list", data := .seq its.toArray n }
  | .tup xs => xs.length ≤ sizeLine ∧ ∃ its : List Value, Vals xs its ∧ IsTup h a its.toArray
  | .dK kvs => kvs.length ≤ sizeLine ∧ (a == sysModules) = false ∧ ∃ vs, KV kvs vs ∧ h.DictOf (mixKind P w) a vs
  | .dT kvs => kvs.length ≤ sizeLine ∧ (a == sysModules) = false ∧ ∃ xs : List (List Key × Addr × Value),
      Paired (fun (p : List Key × V) (q : List Key × Addr × Value) => p.1 = q.1 ∧ H q.2.1 = some (.tup (p.1.map kV)) ∧ RelV p.2 q.2.2) kvs xs ∧
      ∃ o es ep, h.get? a = some o ∧ o.ExactDict ∧ o.data = .dict es ep ∧ es.toList = xs.map (entryOfKey (tupleKind (mixKind P w))) ∧ (xs.map (·.1)).Nodup
  | .set S n => h.SetOf (intKind P w) a S n
  | .ins C dx fs => H dx = some (.own a) ∧ fs.length ≤ 1000 ∧ dx ≠ a ∧ h.get? a = some (PySem.W.instObj C dx) ∧
      ∃ mA, h.Ns1 dx mA ∧ (∀ f, RelO (fs.lookup f) (mA f)) ∧ PySem.Within mA (fs.map (·.1))
  | .own _ => ∃ o, h.get? a = some o
  | .xd fs => ∃ mA, h.Ns1 a mA ∧ ∀ f, RelO (fs.lookup f) (mA f)
  | .rng lo hi => ∃ t u v, h.get? a = some { cls := .type "range", data := .fields #[.int lo t, .int hi u, .int 1 v] }
  | .frz o u => h.get? a = some o ∧ ObjOk H h a u
  | .tbl ps => h.get? a = some { cls := .none, data := .fields ps }
  | .met f x => h.get? a = some (PySem.W.methodObj (.ref f) (.ref x))
  | .ext φ => φ h ∧ (∃ o, h.get? a = some o) ∧ ∀ h1 h2 : Heap, φ h1 → (∀ o, h1.get? a = some o → h2.get? a = some o) → φ h2
def HOk (H : Hp) (h : Heap) : Prop := ∀ a o, H a = some o → ObjOk P w H h a o
end
section
variable {P : Program} {w : World} {H H' : Hp} {h h' : Heap} {a : Addr} {o : HO}
theorem ObjOk.lt (x : ObjOk P w H h a o) : a < h.objs.size := by
  cases o with
  | lst xs => obtain ⟨_, _, _, _, e⟩ := x; exact Heap.lt_size e
  | tup xs => obtain ⟨_, _, _, p⟩ := x; exact p.lt
  | dK kvs => obtain ⟨_, _, _, _, o, _, _, e, _⟩ := x; exact Heap.lt_size e
  | dT kvs => obtain ⟨_, _, _, _, o, _, _, e, _⟩ := x; exact Heap.lt_size e
  | set S n => obtain ⟨o, _, _, _, e, _⟩ := x; exact Heap.lt_size e
  | ins C dx fs => obtain ⟨_, _, _, e, _⟩ := x; exact Heap.lt_size e
  | own y => obtain ⟨_, e⟩ := x; exact Heap.lt_size e
  | xd fs => obtain ⟨_, ⟨_, _, _, e, _⟩, _⟩ := x; exact Heap.lt_size e
  | rng lo hi => obtain ⟨_, _, _, e⟩ := x; exact Heap.lt_size e
  | frz ob u => obtain ⟨e, _⟩ := x; exact Heap.lt_size e
  | tbl ps => exact Heap.lt_size (show h.get? a = some _ from x)
  | met f y => exact Heap.lt_size (show h.get? a = some _ from x)
  | ext φ => obtain ⟨_, ⟨_, e⟩, _⟩ := x; exact Heap.lt_size e
theorem Paired.mapP {α β : Type} {F G : α → β → Prop} : ∀ {l₁ : List α} {l₂ : List β}, Paired F l₁ l₂ → (∀ a b, F a b → G a b) → Paired G l₁ l₂
  | _, _, .nil, _ => .nil
  | _, _, .cons r t, f => .cons (f _ _ r) (Paired.mapP t f)
theorem ObjOk.stay (x : ObjOk P w H h a o) (k : ∀ b u, (b = a ∨ H b = some (.own a)) → h.get? b = some u → h'.get? b = some u)
    (ho : ∀ b, H b = some (.own a) → H' b = some (.own a)) (ht : ∀ b xs, H b = some (.tup xs) → H' b = some (.tup xs)) : ObjOk P w H' h' a o := by
  induction o with
  | lst xs => obtain ⟨z, its, n, r, e⟩ := x; exact ⟨z, its, n, r, k _ _ (.inl rfl) e⟩
  | tup xs => obtain ⟨z, its, r, ob, e, c⟩ := x; exact ⟨z, its, r, ob, k _ _ (.inl rfl) e, c⟩
  | dK kvs => obtain ⟨z, y, vs, r, ob, es, ep, e, c⟩ := x; exact ⟨z, y, vs, r, ob, es, ep, k _ _ (.inl rfl) e, c⟩
  | dT kvs =>
    obtain ⟨z, y, xs, r, ob, es, ep, e, c⟩ := x
    exact ⟨z, y, xs, Paired.mapP r fun p q z => ⟨z.1, ht _ _ z.2.1, z.2.2⟩, ob, es, ep, k _ _ (.inl rfl) e, c⟩
  | set S n => obtain ⟨ob, es, ep, t, e, c⟩ := x; exact ⟨ob, es, ep, t, k _ _ (.inl rfl) e, c⟩
  | ins C dx fs =>
    obtain ⟨d, z, ne, e, mA, ⟨od, es, ep, e2, c⟩, r⟩ := x
    exact ⟨ho _ d, z, ne, k _ _ (.inl rfl) e, mA, ⟨od, es, ep, k _ _ (.inr d) e2, c⟩, r⟩
  | own y => obtain ⟨ob, e⟩ := x; exact ⟨ob, k _ _ (.inl rfl) e⟩
  | xd fs => obtain ⟨mA, ⟨od, es, ep, e, c⟩, r⟩ := x; exact ⟨mA, ⟨od, es, ep, k _ _ (.inl rfl) e, c⟩, r⟩
  | rng lo hi => obtain ⟨t, u, v, e⟩ := x; exact ⟨t, u, v, k _ _ (.inl rfl) e⟩
  | frz ob u ih => obtain ⟨e, q⟩ := x; exact ⟨k _ _ (.inl rfl) e, ih q⟩
  | tbl ps =>
    have e : h.get? a = some { cls := .none, data := .fields ps } := x
    show h'.get? a = some { cls := .none, data := .fields ps }
    exact k a _ (.inl rfl) e
  | met f y =>
    have e : h.get? a = some (PySem.W.methodObj (.ref f) (.ref y)) := x
    show h'.get? a = some (PySem.W.methodObj (.ref f) (.ref y))
    exact k a _ (.inl rfl) e
  | ext φ => obtain ⟨p, ⟨o, e⟩, st⟩ := x; exact ⟨st _ _ p fun o q => k _ _ (.inl rfl) q, ⟨o, k _ _ (.inl rfl) e⟩, st⟩
theorem HOk.lt (x : HOk P w H h) (e : H a = some o) : a < h.objs.size := (x a o e).lt
theorem HOk.fresh (x : HOk P w H h) (e : h.objs.size ≤ a) : H a = none := by
  cases q : H a with
  | none => rfl
  | some u => exact absurd (Nat.lt_of_lt_of_le (x.lt q) e) (Nat.lt_irrefl _)
theorem HOk.kept (x : HOk P w H h) (k : ∀ b u, h.get? b = some u → h'.get? b = some u) : HOk P w H h' := fun a o e =>
  (x a o e).stay (fun b u _ q => k b u q) (fun _ q => q) fun _ _ q => q
theorem HOk.laid (x : HOk P w H h) (k : ∀ b u, h.get? b = some u → h'.get? b = some u) (hp : h.objs.size ≤ a) (new : ObjOk P w (upd H a o) h' a o) : HOk P w (upd H a o) h' := fun b u e => by
  have hn := x.fresh hp
  by_cases hb : b = a
  · subst hb; rw [upd_same] at e; cases e; exact new
  · rw [upd_ne hb] at e
    exact (x b u e).stay (fun c v _ q => k c v q) (fun c q => by rw [upd_ne (ne_of_none q hn)]; exact q) fun c xs q => by rw [upd_ne (ne_of_none q hn)]; exact q
end
def Rd (H : Hp) (a : Addr) (u : HO) : Prop := H a = some u ∨ ∃ o, H a = some (.frz o u)
theorem Rd.ok {P : Program} {w : World} {H : Hp} {h : Heap} {a : Addr} {u : HO} (r : Rd H a u) (x : HOk P w H h) : ObjOk P w H h a u := by
  rcases r with r | ⟨o, r⟩
  · exact x a u r
  · obtain ⟨_, q⟩ := x a _ r
    exact q
def Mut : Option HO → Prop
  | some (.lst _) => True
  | some (.dK _) => True
  | some (.dT _) => True
  | some (.set _ _) => True
  | some (.ins _ _ _) => True
  | some (.ext _) => True
  | _ => False
section
variable {P : Program} {w : World} {H : Hp} {h h' : Heap} {x e : Addr} {o' : HO}
theorem HOk.write (ok : HOk P w H h) (mu : Mut (H x)) (he : e = x ∨ H e = some (.own x)) (k : ∀ b u, b ≠ e → h.get? b = some u → h'.get? b = some u) (heo : ∃ u, h'.get? e = some u)
    (new : ObjOk P w (upd H x o') h' x o') : HOk P w (upd H x o') h' := fun b u q => by
  have nown : ∀ c y, H c = some (.own y) → c ≠ x := fun c y r z => by subst z; rw [r] at mu; exact mu
  have ntup : ∀ c xs, H c = some (.tup xs) → c ≠ x := fun c xs r z => by subst z; rw [r] at mu; exact mu
  by_cases hb : b = x
  · subst hb; rw [upd_same] at q; cases q; exact new
  · rw [upd_ne hb] at q
    by_cases hbe : b = e
    · have q' : H b = some (.own x) := by
        rcases he with z | z
        · exact absurd (hbe.trans z) hb
        · rw [hbe]; exact z
      rw [q] at q'; cases q'
      obtain ⟨v, hv⟩ := heo
      exact ⟨v, by rw [hbe]; exact hv⟩
    · refine (ok b u q).stay (fun c v hc r => k c v ?_ r) (fun c r => by rw [upd_ne (nown c b r)]; exact r) fun c xs r => by rw [upd_ne (ntup c xs r)]; exact r
      rcases hc with rfl | hc
      · exact hbe
      · rintro rfl
        rcases he with z | z
        · exact nown c b hc z
        · rw [hc] at z; cases z; exact hb rfl
end
structure Un (fs ex : List Addr) (H H' : Hp) (h h' : Heap) : Prop where
  keep : ∀ b o, h.get? b = some o → H b = none → b ∉ fs → b ∉ ex → h'.get? b = some o
  slot : ∀ b o, h.get? b = some o → H b = none → b ∈ fs → b ∉ ex → ∃ sl, h'.get? b = some { o with slots := sl }
  free : ∀ b o, h.get? b = some o → H b = none → b ∉ ex → H' b = none
  there : ∀ b o, h.get? b = some o → b ∉ ex → ∃ o', h'.get? b = some o'
  tups : ∀ b xs, H b = some (.tup xs) → H' b = some (.tup xs)
  frzs : ∀ b o u, H b = some (.frz o u) → H' b = some (.frz o u)
  tbls : ∀ b ps, H b = some (.tbl ps) → ∃ more, H' b = some (.tbl (ps ++ more))
section
variable {fs fs' ex ex' : List Addr} {H H1 H2 : Hp} {h h1 h2 h' : Heap} {a x e : Addr} {o : HO}
theorem Un.any (u : Un fs ex H H1 h h1) {b : Addr} {ob : Obj} (q : h.get? b = some ob) (n : H b = none) (hx : b ∉ ex) : ∃ sl, h1.get? b = some { ob with slots := sl } := by
  by_cases hb : b ∈ fs
  · exact u.slot b ob q n hb hx
  · exact ⟨ob.slots, u.keep b ob q n hb hx⟩
theorem Un.kept (k : ∀ b u, h.get? b = some u → h'.get? b = some u) : Un fs ex H H h h' :=
  ⟨fun b ob q _ _ _ => k b ob q, fun b ob q _ _ _ => ⟨ob.slots, k b ob q⟩, fun _ _ _ n _ => n, fun b ob q _ => ⟨ob, k b ob q⟩, fun _ _ q => q, fun _ _ _ q => q, fun _ ps q => ⟨#[], by rw [q]; simp⟩⟩
theorem Un.refl : Un fs ex H H h h := Un.kept fun _ _ q => q
theorem Un.laid (k : ∀ b u, h.get? b = some u → h'.get? b = some u) (hp : h.objs.size ≤ a) (hn : H a = none) : Un fs ex H (upd H a o) h h' where
  keep := fun b u q _ _ _ => k b u q
  slot := fun b u q _ _ _ => ⟨u.slots, k b u q⟩
  free := fun b u q n _ => by rw [upd_ne (Nat.ne_of_lt (Nat.lt_of_lt_of_le (Heap.lt_size q) hp))]; exact n
  there := fun b u q _ => ⟨u, k b u q⟩
  tups := fun b xs q => by rw [upd_ne (ne_of_none q hn)]; exact q
  frzs := fun b u xs q => by rw [upd_ne (ne_of_none q hn)]; exact q
  tbls := fun b ps q => ⟨#[], by rw [upd_ne (ne_of_none q hn), q]; simp⟩
theorem Un.write (mu : Mut (H x)) (he : e = x ∨ H e = some (.own x)) (k : ∀ b u, b ≠ e → h.get? b = some u → h'.get? b = some u) (heo : ∃ u, h'.get? e = some u) : Un fs ex H (upd H x o) h h' := by
  have hx : ∀ b, H b = none → b ≠ x := fun b n z => by subst z; rw [n] at mu; exact mu
  have hb : ∀ b, H b = none → b ≠ e := fun b n z => by
    subst z
    rcases he with r | r
    · exact hx b n r
    · rw [n] at r; cases r
  have hm : ∀ b u, H b = some u → ¬ Mut (some u) → b ≠ x := fun b u q nm z => by subst z; rw [q] at mu; exact nm mu
  refine ⟨fun b u q n _ _ => k b u (hb b n) q, fun b u q n _ _ => ⟨u.slots, k b u (hb b n) q⟩, fun b u q n _ => by rw [upd_ne (hx b n)]; exact n, fun b u q _ => ?_,
    fun b xs q => by rw [upd_ne (hm b _ q fun z => z)]; exact q, fun b u xs q => by rw [upd_ne (hm b _ q fun z => z)]; exact q, fun b ps q => ⟨#[], by rw [upd_ne (hm b _ q fun z => z), q]; simp⟩⟩
  by_cases hbe : b = e
  · subst hbe; exact heo
  · exact ⟨u, k b u hbe q⟩
end
def trk (h : Heap) (H : Hp) : List Addr := (List.range h.objs.size).filter fun a => (H a).isSome
def hidT (h : Heap) (H : Hp) : Heap := PySem.W.hideAll h (trk h H)
theorem hidT_size (h : Heap) (H : Hp) : (hidT h H).objs.size = h.objs.size := PySem.W.hideAll_size _ _
theorem hidT_get {h : Heap} {H : Hp} {b : Addr} {o : Obj} (e : h.get? b = some o) (n : H b = none) : (hidT h H).get? b = some o :=
  PySem.W.hideAll_get _ e fun hm => by
    have q : (H b).isSome = true := (List.mem_filter.mp hm).2
    rw [n] at q; simp at q
theorem of_hidT {h : Heap} {H : Hp} {b : Addr} {o : Obj} (e : (hidT h H).get? b = some o) : h.get? b = some o ∧ H b = none := by
  have e' : h.get? b = some o := PySem.W.of_hideAll (trk h H) e
  refine ⟨e', ?_⟩
  cases q : H b with
  | none => rfl
  | some x =>
    have hm : b ∈ trk h H := List.mem_filter.mpr ⟨List.mem_range.mpr (Heap.lt_size e'), by simp [q]⟩
    have z : (hidT h H).get? b = none := PySem.W.hideAll_none (trk h H) hm
    rw [z] at e; cases e
def allNews (g h : Heap) (L : Addr) : List (Addr × Obj) := (List.range h.objs.size).filterMap fun a => if a = L ∨ (g.get? a).isSome = true then none else (h.get? a).map fun o => (a, o)
def rest (g h : Heap) (L d : Addr) : List (Addr × Obj) := (allNews g h L).filter fun p => decide (p.1 ≠ d)
end L2
namespace L2
open PySem PySem.Spec PyProof.Rows
structure Mod (K : PySem.W.Frag) (mg : Str → Option Value) (base : Heap) : Prop where
  kin : K.In base
  glob : base.Ns mainGlobals mg
  blt : ∃ mb, base.Ns builtinsNs mb ∧ ∀ x : Str, x ≠ "__name__" → mb x = bootBuiltins x
  nolimit : base.NoLimit
structure Cx where
  prog : Program
  w : World
  K : PySem.W.Frag
  mg : Str → Option Value
  base : Heap
  A : Around
  N : List Str
  s₀ : Shared
  H₀ : Hp
  env : Env
  outer : List Env
  stack : List Env
  ex : List Addr
  fn : Str → Bool
  calm : Bool
  pn : List (Addr × Obj)
  xe : Value → Shared → Prop
def frs (l : List Env) : List Addr := l.filterMap (·.frame)
abbrev Cx.fs (X : Cx) : List Addr := frs X.outer
def Vis (sc : Scope) (x : Str) : Prop := sc.names.lookup x = some .local ∨ sc.names.lookup x = some .cell ∨ sc.names.lookup x = some .free
def Loc (sc : Scope) (x : Str) : Prop := sc.names.lookup x = some .local ∨ sc.names.lookup x = some .cell
def Look (env : Env) (h : Heap) (m : Str → Option Value) (x : Str) (u : Value) : Prop :=
  (env.kindOf x = some .local ∧ m x = some u) ∨ ((env.kindOf x = some .cell ∨ env.kindOf x = some .free) ∧ ∃ c, env.cells.lookup x = some c ∧ h.IsCell c (some u))
structure Cx.Ok (X : Cx) : Prop where
  mod : Mod X.K X.mg X.base
  kind : X.env.scope.kind = .function
  glob : X.env.globals = mainGlobals
  blt : X.env.builtins = builtinsNs
  above : X.s₀.heap.objs.size ≤ X.env.locals
  inj : ∀ x y c, X.env.cells.lookup x = some c → X.env.cells.lookup y = some c → x = y
  has : ∀ x, (X.env.kindOf x = some .cell ∨ X.env.kindOf x = some .free) → ∃ c, X.env.cells.lookup x = some c
  cab : ∀ x c, X.fn x = true → X.env.cells.lookup x = some c → X.s₀.heap.objs.size ≤ c
  hd : X.calm = true → X.A.handled = none
  frames : X.A.frames = some X.stack
  stk : X.stack = X.outer ∨ (X.stack = X.env :: X.outer ∧ X.env.frame = some X.env.locals)
  exf : ∀ b ∈ X.ex, b ≠ X.env.locals ∧ ∀ x c, X.env.cells.lookup x = some c → c ≠ b
  bs : ∀ b o, X.base.get? b = some o → X.s₀.heap.get? b = some o ∧ X.H₀ b = none
  bsz : X.base.objs.size ≤ X.s₀.heap.objs.size
  noex : ∀ b o, X.base.get? b = some o → b ∉ X.ex
  exfs : ∀ b ∈ X.ex, b ∉ X.fs
  funs : X.s₀.heap.FunFrames X.base X.outer
  frf : ∀ b ∈ X.fs, X.H₀ b = none
structure Inv (X : Cx) (pins : List (Addr × Obj)) (σ : List (Option V)) (H : Hp) (s : Shared) : Prop where
  ok : X.Ok
  os : s.os = X.s₀.os
  bare : AllBare s.gens
  base : Un X.fs X.ex X.H₀ H X.s₀.heap s.heap
  loc : ∃ m, s.heap.Ns X.env.locals m ∧ ∀ (i : Nat) (x : Str) (v : V), X.N[i]? = some x → σ[i]? = some (some v) → Vis X.env.scope x → ∃ u, RelV v u ∧ Look X.env s.heap m x u
  cell : ∀ x c, X.env.cells.lookup x = some c → ∃ v, s.heap.IsCell c v
  free : H X.env.locals = none
  freeC : ∀ x c, X.env.cells.lookup x = some c → H c = none
  pin : ∀ p ∈ X.pn ++ pins, s.heap.get? p.1 = some p.2 ∧ H p.1 = none ∧ p.1 ≠ X.env.locals ∧ p.1 ∉ X.fs ∧ ∀ v, p.2.data ≠ .cell v
  hok : HOk X.prog X.w H s.heap
  len : σ.length = X.N.length
section
variable {X : Cx} {pins : List (Addr × Obj)} {σ : List (Option V)} {H H' : Hp} {s : Shared} {h' : Heap}
theorem Cx.Ok.nofr (ok : X.Ok) {b : Addr} {o : Obj} (e : X.base.get? b = some o) : b ∉ X.fs := fun hb => by
  have := (ok.funs.mem hb).1
  rw [e] at this; cases this
theorem Inv.bs (I : Inv X pins σ H s) : ∀ b o, X.base.get? b = some o → s.heap.get? b = some o ∧ H b = none := fun b o e =>
  ⟨I.base.keep b o (I.ok.bs b o e).1 (I.ok.bs b o e).2 (I.ok.nofr e) (I.ok.noex b o e), I.base.free b o (I.ok.bs b o e).1 (I.ok.bs b o e).2 (I.ok.noex b o e)⟩
theorem Inv.bk (I : Inv X pins σ H s) : ∀ b o, X.base.get? b = some o → s.heap.get? b = some o := fun b o e => (I.bs b o e).1
theorem Inv.mod (I : Inv X pins σ H s) : Mod X.K X.mg X.base := I.ok.mod
theorem Inv.kIn (I : Inv X pins σ H s) : X.K.In s.heap := I.ok.mod.kin.keeps I.bk
theorem Inv.lt (I : Inv X pins σ H s) : X.env.locals < s.heap.objs.size := let ⟨_, hn, _⟩ := I.loc; hn.lt
theorem Inv.sz (I : Inv X pins σ H s) : X.s₀.heap.objs.size ≤ s.heap.objs.size := Nat.le_trans I.ok.above (Nat.le_of_lt I.lt)
theorem Inv.nofs (I : Inv X pins σ H s) {a : Addr} (h : s.heap.objs.size ≤ a) : a ∉ X.fs := fun hb => by
  obtain ⟨_, o, ho, _⟩ := I.ok.funs.mem hb
  exact absurd (Nat.lt_of_lt_of_le (Heap.lt_size ho) (Nat.le_trans I.sz h)) (Nat.lt_irrefl _)
theorem Inv.cne (I : Inv X pins σ H s) : ∀ x c, X.env.cells.lookup x = some c → c ≠ X.env.locals := fun x c e z => by
  obtain ⟨v, o, ho, hd⟩ := I.cell x c e
  obtain ⟨m, ⟨o', es, ep, ho', hd', _⟩, _⟩ := I.loc
  rw [z, ho'] at ho; cases ho; rw [hd'] at hd; cases hd
theorem Inv.funs (I : Inv X pins σ H s) : s.heap.FunFrames X.base X.outer := by
  have all : ∀ (l : List Env), (∀ b ∈ frs l, b ∈ X.fs) → X.s₀.heap.FunFrames X.base l → s.heap.FunFrames X.base l := by
    intro l
    induction l with
    | nil => intro _ _; trivial
    | cons env r ih =>
      intro hs hl
      obtain ⟨hk, ⟨L, o, hf, hn, ho, hd⟩, hr⟩ := hl
      have hL : L ∈ X.fs := hs L (by unfold frs; rw [List.filterMap_cons, hf]; exact List.mem_cons_self)
      obtain ⟨sl, e⟩ := I.base.slot L o ho (I.ok.frf L hL) hL fun z => I.ok.exfs L z hL
      exact ⟨hk, ⟨L, _, hf, hn, e, hd⟩, ih (fun b hb => hs b (by unfold frs; rw [List.filterMap_cons, hf]; exact List.mem_cons_of_mem _ hb)) hr⟩
  exact all X.outer (fun _ hb => hb) I.ok.funs
theorem Inv.stack (I : Inv X pins σ H s) : s.heap.FunFrames X.base X.stack := by
  rcases I.ok.stk with e | ⟨e, hf⟩
  · rw [e]; exact I.funs
  · rw [e]
    obtain ⟨m, hn, _⟩ := I.loc
    refine .cons (by rw [I.ok.kind]; decide) hf hn ?_ I.funs
    exact Heap.get?_none_of_le (Nat.le_trans I.ok.bsz I.ok.above)
theorem Inv.stkSub (I : Inv X pins σ H s) : ∀ b ∈ frs X.stack, b ∈ X.env.locals :: X.fs := fun b hb => by
  rcases I.ok.stk with e | ⟨e, hf⟩
  · rw [e] at hb; exact List.mem_cons_of_mem _ hb
  · rw [e] at hb
    unfold frs at hb
    rw [List.filterMap_cons, hf] at hb
    exact hb
theorem Inv.stkFree (I : Inv X pins σ H s) : ∀ b ∈ frs X.stack, H b = none := fun b hb => by
  rcases List.mem_cons.mp (I.stkSub b hb) with e | hb
  · rw [e]; exact I.free
  · obtain ⟨_, o, ho, _⟩ := I.ok.funs.mem hb
    exact I.base.free b o ho (I.ok.frf b hb) fun z => I.ok.exfs b z hb
theorem Inv.step {g' : Array GenState} {t' : Nat} {d' : Drawn} {ch : List Addr} (I : Inv X pins σ H s)
    (hch : ∀ b ∈ ch, (b ∈ X.ex ∨ X.s₀.heap.objs.size ≤ b) ∧ b ≠ X.env.locals ∧ (∀ x c, X.env.cells.lookup x = some c → c ≠ b) ∧ ∀ p ∈ X.pn ++ pins, p.1 ≠ b)
    (keep : ∀ b o, b ≠ X.env.locals → b ∉ X.fs → b ∉ ch → s.heap.get? b = some o → H b = none → h'.get? b = some o)
    (slot : ∀ b o, b ≠ X.env.locals → b ∈ X.fs → b ∉ ch → s.heap.get? b = some o → H b = none → ∃ sl, h'.get? b = some { o with slots := sl }) (free : ∀ b o, b ∉ ch → s.heap.get? b = some o → H b = none → H' b = none)
    (there : ∀ b o, b ∉ ch → s.heap.get? b = some o → ∃ o', h'.get? b = some o')
    (tups : ∀ b xs, H b = some (.tup xs) → H' b = some (.tup xs)) (frzs : ∀ b o u, H b = some (.frz o u) → H' b = some (.frz o u)) (tbls : ∀ b ps, H b = some (.tbl ps) → ∃ more, H' b = some (.tbl (ps ++ more)))
    (ns : ∀ m, s.heap.Ns X.env.locals m → h'.Ns X.env.locals m) (hok : HOk X.prog X.w H' h') (hg : AllBare g') :
    Inv X pins σ H' { s with heap := h', gens := g', drawn := d', toks := t' } := by
  have neL : ∀ b o, X.s₀.heap.get? b = some o → b ≠ X.env.locals := fun b o e => Nat.ne_of_lt (Nat.lt_of_lt_of_le (Heap.lt_size e) I.ok.above)
  have neC : ∀ b o, X.s₀.heap.get? b = some o → b ∉ X.ex → b ∉ ch := fun b o e hx hb => by
    rcases (hch b hb).1 with z | z
    · exact hx z
    · exact absurd (Nat.lt_of_lt_of_le (Heap.lt_size e) z) (Nat.lt_irrefl _)
  have cellK : ∀ x c, X.env.cells.lookup x = some c → ∀ v, s.heap.IsCell c v → h'.IsCell c v := fun x c e v ⟨o, ho, hd⟩ => by
    have nch : c ∉ ch := fun z => (hch c z).2.2.1 x c e rfl
    by_cases hc : c ∈ X.fs
    · obtain ⟨sl, q⟩ := slot c o (I.cne x c e) hc nch ho (I.freeC x c e)
      exact ⟨_, q, hd⟩
    · exact ⟨o, keep c o (I.cne x c e) hc nch ho (I.freeC x c e), hd⟩
  refine ⟨I.ok, I.os, hg, ⟨fun b o e n hb hx => ?_, fun b o e n hb hx => ?_, fun b o e n hx => ?_, fun b o e hx => ?_, fun b xs e => tups b xs (I.base.tups b xs e), fun b o xs e => frzs b o xs (I.base.frzs b o xs e), fun b ps e => ?_⟩, ?_, fun x c e => ?_, ?_, fun x c e => ?_, fun p hp => ?_, hok, I.len⟩
  · exact keep b o (neL b o e) hb (neC b o e hx) (I.base.keep b o e n hb hx) (I.base.free b o e n hx)
  · obtain ⟨sl, e1⟩ := I.base.slot b o e n hb hx
    obtain ⟨sl', e2⟩ := slot b _ (neL b o e) hb (neC b o e hx) e1 (I.base.free b o e n hx)
    exact ⟨sl', e2⟩
  · obtain ⟨o', e1⟩ := I.base.there b o e hx
    exact free b o' (neC b o e hx) e1 (I.base.free b o e n hx)
  · obtain ⟨o', e1⟩ := I.base.there b o e hx
    exact there b o' (neC b o e hx) e1
  · obtain ⟨m1, e1⟩ := I.base.tbls b ps e
    obtain ⟨m2, e2⟩ := tbls b _ e1
    exact ⟨m1 ++ m2, by rw [e2, Array.append_assoc]⟩
  · obtain ⟨m, hn, hl⟩ := I.loc
    refine ⟨m, ns m hn, fun i x v e1 e2 e3 => ?_⟩
    obtain ⟨u, r, l⟩ := hl i x v e1 e2 e3
    refine ⟨u, r, ?_⟩
    rcases l with l | ⟨k, c, e, z⟩
    · exact .inl l
    · exact .inr ⟨k, c, e, cellK x c e _ z⟩
  · obtain ⟨v, z⟩ := I.cell x c e
    exact ⟨v, cellK x c e v z⟩
  · obtain ⟨m, ⟨o, _, _, ho, _⟩, _⟩ := I.loc
    exact free _ o (fun z => (hch _ z).2.1 rfl) ho I.free
  · obtain ⟨v, o, ho, hd⟩ := I.cell x c e
    exact free c o (fun z => (hch c z).2.2.1 x c e rfl) ho (I.freeC x c e)
  · obtain ⟨e, n, ne, nf, d⟩ := I.pin p hp
    have nch : p.1 ∉ ch := fun z => (hch p.1 z).2.2.2 p hp rfl
    exact ⟨keep p.1 p.2 ne nf nch e n, free p.1 p.2 nch e n, ne, nf, d⟩
theorem Inv.un {t' : Nat} (I : Inv X pins σ H s) (u : Un X.fs [] H H' s.heap h') (hok : HOk X.prog X.w H' h') : Inv X pins σ H' { s with heap := h', toks := t' } := by
  obtain ⟨m, ⟨o, es, ep, ho, r⟩, _⟩ := id I.loc
  obtain ⟨sl, hL⟩ := u.any ho I.free (by simp)
  exact I.step (g' := s.gens) (d' := s.drawn) (ch := []) (fun _ z => nomatch z) (fun b o _ hb _ e n => u.keep b o e n hb (by simp)) (fun b o _ hb _ e n => u.slot b o e n hb (by simp)) (fun b o _ e n => u.free b o e n (by simp)) (fun b o _ e => u.there b o e (by simp)) u.tups u.frzs u.tbls (fun m' hm => by
    obtain ⟨o', es', ep', ho', r'⟩ := hm
    rw [ho] at ho'; cases ho'
    exact ⟨_, es', ep', hL, r'⟩) hok I.bare
theorem Inv.call {g' : Array GenState} {t' : Nat} {d' : Drawn} {ch : List Addr} (I : Inv X pins σ H s) (u : Un (frs X.stack) ch H H' s.heap h') (hok : HOk X.prog X.w H' h') (hg : AllBare g')
    (hch : ∀ b ∈ ch, (b ∈ X.ex ∨ X.s₀.heap.objs.size ≤ b) ∧ b ≠ X.env.locals ∧ (∀ x c, X.env.cells.lookup x = some c → c ≠ b) ∧ ∀ p ∈ X.pn ++ pins, p.1 ≠ b) :
    Inv X pins σ H' { s with heap := h', gens := g', drawn := d', toks := t' } := by
  obtain ⟨m, ⟨o, es, ep, ho, r⟩, _⟩ := id I.loc
  obtain ⟨sl, hL⟩ := u.any ho I.free fun z => (hch _ z).2.1 rfl
  exact I.step (ch := ch) hch (fun b o hL hb hc e n => u.keep b o e n (fun z => (List.mem_cons.mp (I.stkSub b z)).elim hL hb) hc) (fun b o _ _ hc e n => u.any e n hc) (fun b o hc e n => u.free b o e n hc) (fun b o hc e => u.there b o e hc) u.tups u.frzs u.tbls (fun m' hm => by
    obtain ⟨o', es', ep', ho', r'⟩ := hm
    rw [ho] at ho'; cases ho'
    exact ⟨_, es', ep', hL, r'⟩) hok hg
theorem Inv.turned {t' : Nat} {it : Addr} (I : Inv X pins σ H s) (k : ∀ b o, b ≠ it → s.heap.get? b = some o → h'.get? b = some o) (hn : H it = none) (hL : it ≠ X.env.locals)
    (h1 : it ∈ X.ex ∨ X.s₀.heap.objs.size ≤ it) (h2 : ∀ x c, X.env.cells.lookup x = some c → c ≠ it) (h3 : ∀ p ∈ X.pn ++ pins, p.1 ≠ it) : Inv X pins σ H { s with heap := h', toks := t' } := by
  have nit : ∀ b u, H b = some u → b ≠ it := fun b u e z => by rw [z, hn] at e; cases e
  refine I.step (g' := s.gens) (d' := s.drawn) (ch := [it]) (fun b hb => ?_) (fun b o _ _ hc e _ => k b o (fun z => hc (by simp [z])) e) (fun b o _ _ hc e _ => ⟨o.slots, k b o (fun z => hc (by simp [z])) e⟩) (fun _ _ _ _ n => n)
    (fun b o hc e => ⟨o, k b o (fun z => hc (by simp [z])) e⟩) (fun _ _ e => e) (fun _ _ _ e => e) (fun b ps e => ⟨#[], by rw [e]; simp⟩) (fun m hm => ?_) (fun b u e => ?_) I.bare
  · have e : b = it := by simpa using hb
    subst e
    exact ⟨h1, hL, h2, h3⟩
  · obtain ⟨o, es, ep, ho, r⟩ := hm
    exact ⟨o, es, ep, k _ o (Ne.symm hL) ho, r⟩
  · refine (I.hok b u e).stay (fun c v hc q => k c v ?_ q) (fun _ q => q) fun _ _ q => q
    rcases hc with z | z
    · rw [z]; exact nit b u e
    · exact nit c _ z
theorem Inv.tok (I : Inv X pins σ H s) (t : Nat) : Inv X pins σ H { s with toks := t } := I.un (h' := s.heap) (t' := t) Un.refl I.hok
theorem Inv.kept {t' : Nat} (I : Inv X pins σ H s) (k : ∀ b u, s.heap.get? b = some u → h'.get? b = some u) : Inv X pins σ H { s with heap := h', toks := t' } := I.un (Un.kept k) (I.hok.kept k)
theorem Inv.laid {a : Addr} {o : HO} {t' : Nat} (I : Inv X pins σ H s) (k : ∀ b u, s.heap.get? b = some u → h'.get? b = some u) (hp : s.heap.objs.size ≤ a) (new : ObjOk X.prog X.w (upd H a o) h' a o) :
    Inv X pins σ (upd H a o) { s with heap := h', toks := t' } := I.un (Un.laid k hp (I.hok.fresh hp)) (I.hok.laid k hp new)
theorem Inv.write {x e : Addr} {o : HO} {t' : Nat} (I : Inv X pins σ H s) (mu : Mut (H x)) (he : e = x ∨ H e = some (.own x)) (k : ∀ b u, b ≠ e → s.heap.get? b = some u → h'.get? b = some u) (heo : ∃ u, h'.get? e = some u)
    (new : ObjOk X.prog X.w (upd H x o) h' x o) : Inv X pins σ (upd H x o) { s with heap := h', toks := t' } := I.un (Un.write mu he k heo) (I.hok.write mu he k heo new)
theorem Inv.weak {σ' : List (Option V)} (I : Inv X pins σ H s) (hl : σ'.length = σ.length) (w : ∀ (i : Nat) v, σ'[i]? = some (some v) → σ[i]? = some (some v)) : Inv X pins σ' H s :=
  ⟨I.ok, I.os, I.bare, I.base, let ⟨m, hn, hl'⟩ := I.loc; ⟨m, hn, fun i x v e1 e2 e3 => hl' i x v e1 (w i v e2) e3⟩, I.cell, I.free, I.freeC, I.pin, I.hok, hl.trans I.len⟩
theorem Inv.pins_of {pins' : List (Addr × Obj)} (I : Inv X pins σ H s) (h : ∀ p ∈ pins', s.heap.get? p.1 = some p.2 ∧ H p.1 = none ∧ p.1 ≠ X.env.locals ∧ p.1 ∉ X.fs ∧ ∀ v, p.2.data ≠ .cell v) : Inv X pins' σ H s :=
  ⟨I.ok, I.os, I.bare, I.base, I.loc, I.cell, I.free, I.freeC, fun p hp => (List.mem_append.mp hp).elim (fun z => I.pin p (List.mem_append_left _ z)) (h p), I.hok, I.len⟩
theorem nodup_ix {N : List Str} (hN : N.Nodup) {i j : Nat} {x : Str} (a : N[i]? = some x) (b : N[j]? = some x) : i = j := by
  obtain ⟨h1, e1⟩ := List.getElem?_eq_some_iff.mp a
  obtain ⟨h2, e2⟩ := List.getElem?_eq_some_iff.mp b
  exact (List.getElem_inj hN).mp (e1.trans e2.symm)
theorem store_ok2 {M : Model} {A : Around} {E : Value → Shared → Prop} {i : Nat} {x : Str} {v : V} {u : Value} {Q : Unit → Shared → Prop} (I : Inv X pins σ H s) (hN : X.N.Nodup) (hi : X.N[i]? = some x) (hx : Loc X.env.scope x) (r : RelV v u)
    (h : ∀ s', Inv X pins (σ.set i (some v)) H s' → (∃ a, Heap.SameBut a s.heap s'.heap ∧ (a = X.env.locals ∨ X.env.cells.lookup x = some a)) → Q () s') (hf : X.fn x = true ∨ X.env.scope.names.lookup x = some .local := by first | exact .inl rfl | exact .inr rfl | assumption) : wpAny M A (storeName X.env x u) Q E s := by
  obtain ⟨m, hn, hl⟩ := id I.loc
  have hcls : (X.env.scope.kind == .class || (X.env.scope.kind == .module && X.env.locals != X.env.globals)) = false := by rw [I.ok.kind]; rfl
  have hiσ : i < σ.length := by rw [I.len]; exact (List.getElem?_eq_some_iff.mp hi).1
  have cne := I.cne
  have tracked : ∀ {a : Addr} {h' : Heap}, (∃ o, s.heap.get? a = some o ∧ H a = none) → Heap.SameBut a s.heap h' → HOk X.prog X.w H h' := fun {a h'} ha hs b ob e => by
    obtain ⟨_, _, hfree⟩ := ha
    refine (I.hok b ob e).stay (fun c w' hc q => (hs.2 c ?_).trans q) (fun _ q => q) fun _ _ q => q
    rintro rfl
    rcases hc with rfl | hc
    · rw [hfree] at e; cases e
    · rw [hfree] at hc; cases hc
  rcases hx with hk | hk
  · refine wpAny_storeName_local hk hn (fun h' hn' hs => ?_) hcls
    obtain ⟨oL, _, _, hoL, _⟩ := id hn
    refine h _ ⟨I.ok, I.os, I.bare, ⟨fun b o e n hb hx => ?_, fun b o e n hb hx => ?_, I.base.free, fun b o e hx => ?_, I.base.tups, I.base.frzs, I.base.tbls⟩, ⟨_, hn', fun j y v' e1 e2 e3 => ?_⟩, fun y c e => ?_, I.free, I.freeC, fun p hp => ?_, tracked ⟨oL, hoL, I.free⟩ hs, by simpa using I.len⟩ ⟨_, hs, .inl rfl⟩
    · exact (hs.2 b (Nat.ne_of_lt (Nat.lt_of_lt_of_le (Heap.lt_size e) I.ok.above))).trans (I.base.keep b o e n hb hx)
    · obtain ⟨sl, e1⟩ := I.base.slot b o e n hb hx
      exact ⟨sl, (hs.2 b (Nat.ne_of_lt (Nat.lt_of_lt_of_le (Heap.lt_size e) I.ok.above))).trans e1⟩
    · obtain ⟨o', e1⟩ := I.base.there b o e hx
      exact ⟨o', (hs.2 b (Nat.ne_of_lt (Nat.lt_of_lt_of_le (Heap.lt_size e) I.ok.above))).trans e1⟩
    · by_cases hj : j = i
      · subst hj
        rw [hi] at e1; cases e1
        rw [List.getElem?_set_self hiσ] at e2
        cases e2
        exact ⟨u, r, .inl ⟨hk, by simp⟩⟩
      · rw [List.getElem?_set_ne (Ne.symm hj)] at e2
        obtain ⟨u', r', q⟩ := hl j y v' e1 e2 e3
        refine ⟨u', r', ?_⟩
        rcases q with ⟨k, e⟩ | ⟨k, c, e, z⟩
        · refine .inl ⟨k, ?_⟩
          have : y ≠ x := fun e => hj (nodup_ix hN e1 (e ▸ hi))
          simp [this, e]
        · exact .inr ⟨k, c, e, z.sameBut hs (cne y c e)⟩
    · obtain ⟨w', z⟩ := I.cell y c e
      exact ⟨w', z.sameBut hs (cne y c e)⟩
    · obtain ⟨e, n, ne, nf, d⟩ := I.pin p hp
      exact ⟨(hs.2 p.1 ne).trans e, n, ne, nf, d⟩
  · have hfn : X.fn x = true := by
      rcases hf with z | z
      · exact z
      · rw [z] at hk; cases hk
    obtain ⟨c, hc⟩ := I.ok.has x (.inl hk)
    obtain ⟨w', z⟩ := I.cell x c hc
    refine wpAny_storeName_cell I.ok.kind hk hc z (fun h' hc' hs => ?_)
    obtain ⟨oc, hoc, hocd⟩ := id z
    refine h { s with heap := h' } ⟨I.ok, I.os, I.bare, ⟨fun b o e n hb hx => ?_, fun b o e n hb hx => ?_, I.base.free, fun b o e hx => ?_, I.base.tups, I.base.frzs, I.base.tbls⟩, ⟨m, hn.sameBut hs (Ne.symm (cne x c hc)), fun j y v' e1 e2 e3 => ?_⟩, fun y c' e => ?_, I.free, I.freeC, fun p hp => ?_, tracked ⟨oc, hoc, I.freeC x c hc⟩ hs, by simpa using I.len⟩ ⟨c, hs, .inr hc⟩
    · exact (hs.2 b (Nat.ne_of_lt (Nat.lt_of_lt_of_le (Heap.lt_size e) (I.ok.cab x c hfn hc)))).trans (I.base.keep b o e n hb hx)
    · obtain ⟨sl, e1⟩ := I.base.slot b o e n hb hx
      exact ⟨sl, (hs.2 b (Nat.ne_of_lt (Nat.lt_of_lt_of_le (Heap.lt_size e) (I.ok.cab x c hfn hc)))).trans e1⟩
    · obtain ⟨o', e1⟩ := I.base.there b o e hx
      exact ⟨o', (hs.2 b (Nat.ne_of_lt (Nat.lt_of_lt_of_le (Heap.lt_size e) (I.ok.cab x c hfn hc)))).trans e1⟩
    · by_cases hj : j = i
      · subst hj
        rw [hi] at e1; cases e1
        rw [List.getElem?_set_self hiσ] at e2
        cases e2
        exact ⟨u, r, .inr ⟨.inl hk, c, hc, hc'⟩⟩
      · rw [List.getElem?_set_ne (Ne.symm hj)] at e2
        obtain ⟨u', r', q⟩ := hl j y v' e1 e2 e3
        refine ⟨u', r', ?_⟩
        rcases q with q | ⟨k, c', e, z'⟩
        · exact .inl q
        · refine .inr ⟨k, c', e, z'.sameBut hs ?_⟩
          rintro rfl
          exact hj (nodup_ix hN e1 (I.ok.inj _ _ _ e hc ▸ hi))
    · by_cases hcc : c' = c
      · subst hcc; exact ⟨_, hc'⟩
      · obtain ⟨w2, z2⟩ := I.cell y c' e
        exact ⟨w2, z2.sameBut hs hcc⟩
    · obtain ⟨e, n, ne, nf, d⟩ := I.pin p hp
      refine ⟨(hs.2 p.1 ?_).trans e, n, ne, nf, d⟩
      intro q
      rw [q, hoc] at e
      have q' : oc = p.2 := Option.some.inj e
      exact d w' (by rw [← q']; exact hocd)
theorem store_ok {M : Model} {A : Around} {E : Value → Shared → Prop} {i : Nat} {x : Str} {v : V} {u : Value} {Q : Unit → Shared → Prop} (I : Inv X pins σ H s) (hN : X.N.Nodup) (hi : X.N[i]? = some x) (hx : Loc X.env.scope x) (r : RelV v u)
    (h : ∀ s', Inv X pins (σ.set i (some v)) H s' → Q () s') (hf : X.fn x = true ∨ X.env.scope.names.lookup x = some .local := by first | exact .inl rfl | exact .inr rfl | assumption) : wpAny M A (storeName X.env x u) Q E s :=
  store_ok2 I hN hi hx r (fun s' I' _ => h s' I') hf
theorem Inv.call' {s' : Shared} {ch : List Addr} (I : Inv X pins σ H s) (ho : s'.os = s.os) (u : Un (frs X.stack) ch H H' s.heap s'.heap) (hok : HOk X.prog X.w H' s'.heap) (hg : AllBare s'.gens)
    (hch : ∀ b ∈ ch, (b ∈ X.ex ∨ X.s₀.heap.objs.size ≤ b) ∧ b ≠ X.env.locals ∧ (∀ x c, X.env.cells.lookup x = some c → c ≠ b) ∧ ∀ p ∈ X.pn ++ pins, p.1 ≠ b) : Inv X pins σ H' s' := by
  obtain ⟨h', g', d', t', o'⟩ := s'
  have e : o' = s.os := ho
  subst e
  exact I.call (g' := g') (t' := t') (d' := d') u hok hg hch
end
abbrev XK := Value → Option Addr → Hp → Prop
abbrev St := List (Option V)
abbrev VK := V → Hp → Prop
abbrev TE := St → Hp → VK → Prop
abbrev TT := St → Hp → (Bool → Hp → Prop) → Prop
abbrev TA := St → Hp → (List V → Hp → Prop) → Prop
structure Ends where
  nx : St → Hp → Prop
  rt : VK
  bk : St → Hp → Prop := fun _ _ => False
  ct : St → Hp → Prop := fun _ _ => False
abbrev TS := Ends → St → Hp → Prop
def EP (X : Cx) (pins : List (Addr × Obj)) (σ : St) (Q : VK) (u : Value) (s' : Shared) : Prop := ∃ v H', Inv X pins σ H' s' ∧ RelV v u ∧ Q v H'
def TP (X : Cx) (pins : List (Addr × Obj)) (σ : St) (Q : Bool → Hp → Prop) (b : Bool) (s' : Shared) : Prop := ∃ H', Inv X pins σ H' s' ∧ Q b H'
def AP (X : Cx) (pins : List (Addr × Obj)) (σ : St) (Q : List V → Hp → Prop) (us : List Value) (s' : Shared) : Prop := ∃ vs H', Inv X pins σ H' s' ∧ Vals vs us ∧ Q vs H'
def SP (X : Cx) (pins : List (Addr × Obj)) (D : Ends) (f : Flow) (s' : Shared) : Prop :=
  match f with
  | .next => ∃ σ' H', Inv X pins σ' H' s' ∧ D.nx σ' H'
  | .brk => ∃ σ' H', Inv X pins σ' H' s' ∧ D.bk σ' H'
  | .cont => ∃ σ' H', Inv X pins σ' H' s' ∧ D.ct σ' H'
  | .ret u => ∃ v σ' H', Inv X pins σ' H' s' ∧ RelV v u ∧ D.rt v H'
def PE (X : Cx) (e : Expr) (t : TE) : Prop :=
  ∀ (pins : List (Addr × Obj)) (s : Shared) (σ : St) (H : Hp) (Q : VK), Inv X pins σ H s → t σ H Q → wpAny (model X.prog X.w) X.A (eval e X.env) (EP X pins σ Q) X.xe s
def PT (X : Cx) (e : Expr) (t : TT) : Prop :=
  ∀ (pins : List (Addr × Obj)) (s : Shared) (σ : St) (H : Hp) (Q : Bool → Hp → Prop), Inv X pins σ H s → t σ H Q → wpAny (model X.prog X.w) X.A (isTrue e X.env (eval e X.env)) (TP X pins σ Q) X.xe s
def PW (X : Cx) (e : Expr) (t : TT) : Prop :=
  ∀ (whole : Sem Value) (pins : List (Addr × Obj)) (s : Shared) (σ : St) (H : Hp) (Q : Bool → Hp → Prop), Inv X pins σ H s → t σ H Q → wpAny (model X.prog X.w) X.A (isTrue e X.env whole) (TP X pins σ Q) X.xe s
theorem PW.pt {X : Cx} {e : Expr} {t : TT} (h : PW X e t) : PT X e t := h _
def PA (X : Cx) (es : List Expr) (t : TA) : Prop :=
  ∀ (pos : Pos) (pins : List (Addr × Obj)) (s : Shared) (σ : St) (H : Hp) (Q : List V → Hp → Prop), Inv X pins σ H s → t σ H Q → wpAny (model X.prog X.w) X.A (spliced (backTo pos (starEach es X.env))) (AP X pins σ Q) X.xe s
def PS (X : Cx) (st : Stmt) (t : TS) : Prop :=
  ∀ (pins : List (Addr × Obj)) (s : Shared) (σ : St) (H : Hp) (D : Ends), Inv X pins σ H s → t D σ H → wpAny (model X.prog X.w) X.A (exec st X.env) (SP X pins D) X.xe s
def PSs (X : Cx) (st : List Stmt) (t : TS) : Prop :=
  ∀ (pins : List (Addr × Obj)) (s : Shared) (σ : St) (H : Hp) (D : Ends), Inv X pins σ H s → t D σ H → wpAny (model X.prog X.w) X.A (execs st X.env) (SP X pins D) X.xe s
theorem thn {α : Type} {t : Sem α} {Q Q' : α → Shared → Prop} {M : Model} {A : Around} {E : Value → Shared → Prop} {s : Shared} (h : wpAny M A t Q E s) (hQ : ∀ a s, Q a s → Q' a s) : wpAny M A t Q' E s := wpAny_mono h hQ fun _ _ x => x
end L2
namespace L2
open PySem PySem.Spec PyProof.Rows
section
variable {X : Cx}
def tVar (i : Nat) : TE := fun σ H Q => ∃ v, σ[i]? = some (some v) ∧ Q v H
def tC (v : V) : TE := fun _ H Q => Q v H
theorem pe_var {i : Nat} {x : Str} {pos : Pos} (hN : X.N[i]? = some x) (hv : Vis X.env.scope x) (hd : (x == ("__debug__" : Str)) = false := by decide) (hcd : (x == ("__classdict__" : Str)) = false := by decide) : PE X (.Name x pos) (tVar i) := by
  intro pins s σ H Q I h
  obtain ⟨v, e, h⟩ := h
  obtain ⟨m, hn, hl⟩ := I.loc
  obtain ⟨u, r, l⟩ := hl i x v hN e hv
  have fin : EP X pins σ Q u s := ⟨v, H, I, r, h⟩
  rcases l with ⟨hk, hm⟩ | ⟨hk, c, hc, hcell⟩
  · exact wpAny_Name (wpAny_loadName_local I.ok.kind hk hn hm fin) hd
  · rcases hk with hk | hk
    · exact wpAny_Name (wpAny_loadName_cell I.ok.kind hk hc hcell fin) hd
    · exact wpAny_Name (wpAny_loadName_free I.ok.kind hk hc hcell fin hcd) hd
theorem pe_int {i j pos} : PE X (.Constant (.int i) j pos) (tC (.int i)) := fun _ _ _ H _ I h => wpAny_Constant_int ⟨.int i, H, I.tok _, ⟨_, rfl⟩, h⟩
theorem pe_bl {b j pos} : PE X (.Constant (.bool b) j pos) (tC (.bl b)) := fun _ _ _ H _ I h => Constant_bool ⟨.bl b, H, I, rfl, h⟩
theorem pe_str {x j pos} : PE X (.Constant (.str x) j pos) (tC (.str x)) := fun _ _ _ H _ I h => Calls.Constant_str ⟨.str x, H, I.tok _, ⟨_, rfl⟩, h⟩
def Gl (X : Cx) (x : Str) : Prop := X.env.kindOf x = some .globalImplicit
theorem ld_glob {E : Value → Shared → Prop} {pins : List (Addr × Obj)} {s : Shared} {σ : St} {H : Hp} {x : Str} {u : Value} {pos : Pos} {Q : Value → Shared → Prop} (I : Inv X pins σ H s) (hg : Gl X x) (hm : X.mg x = some u) (h : Q u s)
    (hd : (x == ("__debug__" : Str)) = false := by decide) : wpAny (model X.prog X.w) X.A (eval (.Name x pos) X.env) Q E s :=
  Calls.Name_function_global I.ok.kind hg (Calls.loadGlobal_global (by rw [I.ok.glob]; exact I.mod.glob.keeps I.bk) hm h) hd
theorem ld_blt {E : Value → Shared → Prop} {pins : List (Addr × Obj)} {s : Shared} {σ : St} {H : Hp} {x : Str} {u : Value} {pos : Pos} {Q : Value → Shared → Prop} (I : Inv X pins σ H s) (hg : Gl X x) (hm : X.mg x = none) (hv : bootBuiltins x = some u) (h : Q u s)
    (hn : x ≠ "__name__" := by decide) (hd : (x == ("__debug__" : Str)) = false := by decide) : wpAny (model X.prog X.w) X.A (eval (.Name x pos) X.env) Q E s := by
  obtain ⟨mb, h1, h2⟩ := I.mod.blt
  exact Calls.Name_function_global I.ok.kind hg (Calls.loadGlobal_builtin (by rw [I.ok.glob]; exact I.mod.glob.keeps I.bk) hm (by rw [I.ok.blt]; exact h1.keeps I.bk) ((h2 x hn).trans hv) h) hd
theorem pe_glob {x : Str} {v : V} {u : Value} {pos : Pos} (hg : Gl X x) (hm : X.mg x = some u) (r : RelV v u) (hd : (x == ("__debug__" : Str)) = false := by decide) : PE X (.Name x pos) (tC v) :=
  fun _ _ _ H _ I h => ld_glob I hg hm ⟨v, H, I, r, h⟩ hd
variable {a b : Expr} {ta tb : TE} {pos : Pos}
def PC (X : Cx) (op : CmpOp) (a b : Expr) (t : TE) : Prop :=
  ∀ (pins : List (Addr × Obj)) (s : Shared) (σ : St) (H : Hp) (Q : VK), Inv X pins σ H s → t σ H Q →
    wpAny (model X.prog X.w) X.A (eval a X.env) (fun v s₁ => wpAny (model X.prog X.w) X.A (eval b X.env) (fun u s₂ => wpAny (model X.prog X.w) X.A (compareOp op v u) (EP X pins σ Q) X.xe s₂) X.xe s₁) X.xe s
def tB (t : TE) : TT := fun σ H Q => t σ H fun x H1 => ∃ c, x = .bl c ∧ Q c H1
theorem pe_cmp {op : CmpOp} {t : TE} (h : PC X op a b t) (h1 : behindInMarks op b = false := by first | exact nobehind _ (by decide) (by decide) | rfl) : PE X (.Compare a [op] [b] pos) t := fun pins s σ H Q I hw => wpAny_Compare1 (h pins s σ H Q I hw) h1
theorem pt_cmp {op : CmpOp} {t : TE} (h : PC X op a b t) (h1 : behindInMarks op b = false := by first | exact nobehind _ (by decide) (by decide) | rfl) : PT X (.Compare a [op] [b] pos) (tB t) := by
  intro pins s σ H Q I hw
  refine wpAny_isTrue_Compare1 (thn (h pins s σ H _ I hw) fun v s1 h1 => thn h1 fun u s2 h2 => thn h2 fun c s3 ⟨x, H1, I1, r1, q1⟩ => ?_) h1
  obtain ⟨d, rfl, q⟩ := q1
  cases r1
  exact wpAny_truthy_bool ⟨H1, I1, q⟩
theorem pt_val {e : Expr} {t : TE} (h : PE X e t) (he : ∀ whole, isTrue e X.env whole = (do let v ← whole; standAt e.pos; holding [v] (truthy v)) := by intro _; rfl) : PT X e (tB t) := by
  intro pins s σ H Q I hw
  refine isTrue_plain (thn (h pins s σ H _ I hw) fun v s1 ⟨x, H1, I1, r1, q1⟩ => ?_) (he _)
  obtain ⟨d, rfl, q⟩ := q1
  cases r1
  exact wpAny_truthy_bool ⟨H1, I1, q⟩
variable {tA tB' : TT} {rest : List Expr}
def tAnd (t u : TT) : TT := fun σ H Q => t σ H fun c H1 => if c = true then u σ H1 Q else Q false H1
def tOr (t u : TT) : TT := fun σ H Q => t σ H fun c H1 => if c = true then Q true H1 else u σ H1 Q
def tNot (t : TT) : TT := fun σ H Q => t σ H fun c H1 => Q (!c) H1
theorem pw_and1 (ha : PT X a tA) : PW X (.BoolOp .And [a] pos) tA := by
  intro wh pins s σ H Q I h
  refine isTrue_and (thn (ha pins s σ H Q I h) fun c s1 e => ?_)
  cases c with
  | true => exact isTrue_and_nil e
  | false => exact e
theorem pw_or1 (ha : PT X a tA) : PW X (.BoolOp .Or [a] pos) tA := by
  intro wh pins s σ H Q I h
  refine isTrue_or (thn (ha pins s σ H Q I h) fun c s1 e => ?_)
  cases c with
  | false => exact isTrue_or_nil e
  | true => exact e
theorem pw_and (ha : PT X a tA) (hb : PW X (.BoolOp .And (b :: rest) pos) tB') : PW X (.BoolOp .And (a :: b :: rest) pos) (tAnd tA tB') := by
  intro wh pins s σ H Q I h
  refine isTrue_and (thn (ha pins s σ H _ I h) fun c s1 ⟨H1, I1, q1⟩ => ?_)
  cases c with
  | true => exact hb wh pins s1 σ H1 Q I1 q1
  | false => exact ⟨H1, I1, q1⟩
theorem pw_or (ha : PT X a tA) (hb : PW X (.BoolOp .Or (b :: rest) pos) tB') : PW X (.BoolOp .Or (a :: b :: rest) pos) (tOr tA tB') := by
  intro wh pins s σ H Q I h
  refine isTrue_or (thn (ha pins s σ H _ I h) fun c s1 ⟨H1, I1, q1⟩ => ?_)
  cases c with
  | true => exact ⟨H1, I1, q1⟩
  | false => exact hb wh pins s1 σ H1 Q I1 q1
theorem pt_not (ha : PT X a tA) : PT X (.UnaryOp .Not a pos) (tNot tA) := by
  intro pins s σ H Q I h
  exact isTrue_not (ha pins s σ H (fun c H1 => Q (!c) H1) I h)
def tAndV (ta tb : TE) : TE := fun σ H Q => ta σ H fun x H1 => ∃ c, x = .bl c ∧ if c = true then tb σ H1 Q else Q (.bl false) H1
def tOrV (ta tb : TE) : TE := fun σ H Q => ta σ H fun x H1 => ∃ c, x = .bl c ∧ if c = true then Q (.bl true) H1 else tb σ H1 Q
def tNotV (ta : TE) : TE := fun σ H Q => ta σ H fun x H1 => ∃ c, x = .bl c ∧ Q (.bl (!c)) H1
theorem pe_one {op} {t : TE} (h : PE X a t) : PE X (.BoolOp op [a] pos) t := fun pins s σ H Q I hw => BoolOp_one (h pins s σ H Q I hw)
theorem pe_and (ha : PE X a ta) (hb : PE X (.BoolOp .And (b :: rest) pos) tb) : PE X (.BoolOp .And (a :: b :: rest) pos) (tAndV ta tb) := by
  intro pins s σ H Q I h
  refine BoolOp_and (thn (ha pins s σ H _ I h) fun v s1 ⟨x, H1, I1, r1, q1⟩ => ?_)
  obtain ⟨c, rfl, q1⟩ := q1
  cases r1
  refine wpAny_truthy_bool ?_
  cases c with
  | true => exact hb pins s1 σ H1 Q I1 q1
  | false => exact ⟨.bl false, H1, I1, rfl, q1⟩
theorem pe_or (ha : PE X a ta) (hb : PE X (.BoolOp .Or (b :: rest) pos) tb) : PE X (.BoolOp .Or (a :: b :: rest) pos) (tOrV ta tb) := by
  intro pins s σ H Q I h
  refine BoolOp_or (thn (ha pins s σ H _ I h) fun v s1 ⟨x, H1, I1, r1, q1⟩ => ?_)
  obtain ⟨c, rfl, q1⟩ := q1
  cases r1
  refine wpAny_truthy_bool ?_
  cases c with
  | false => exact hb pins s1 σ H1 Q I1 q1
  | true => exact ⟨.bl true, H1, I1, rfl, q1⟩
theorem pe_not (ha : PE X a ta) : PE X (.UnaryOp .Not a pos) (tNotV ta) := by
  intro pins s σ H Q I h
  refine UnaryOp_ (thn (ha pins s σ H _ I h) fun v s1 ⟨x, H1, I1, r1, q1⟩ => ?_)
  obtain ⟨c, rfl, q1⟩ := q1
  cases r1
  exact not_of (wpAny_truthy_bool ⟨.bl (!c), H1, I1, rfl, q1⟩)
end
end L2
namespace L2
open PySem PySem.Spec PyProof.Rows
def SqL (K : PySem.W.Frag) (H : Hp) (a : Addr) (xs : List V) : Prop :=
  Rd H a (.lst xs) ∨
    ∃ (o : Obj) (its : Array Value) (n : Nat), K.lookup a = some o ∧ o.cls = .type "list" ∧ o.dict = none ∧ o.data = .seq its n ∧ its.size ≤ sizeLine ∧ Vals xs its.toList
def SqT (K : PySem.W.Frag) (H : Hp) (a : Addr) (xs : List V) : Prop :=
  Rd H a (.tup xs) ∨
    ∃ (o : Obj) (its : Array Value) (n : Nat), K.lookup a = some o ∧ o.cls = .type "tuple" ∧ o.data = .seq its n ∧ its.size ≤ sizeLine ∧ Vals xs its.toList
def absV : Value → Option V
  | .none => some .non
  | .bool b => some (.bl b)
  | .int i _ => some (.int i)
  | .str x _ => some (.str x)
  | .bytes b _ => some (.byt b)
  | .float b _ => some (.flt b)
  | .ref a => some (.ref a)
  | .type n => some (.ty n)
  | _ => none
theorem RelV.abs {x : V} {u : Value} (r : RelV x u) : absV u = some x := by
  cases x with
  | non => cases r; rfl
  | bl _ => cases r; rfl
  | int _ => obtain ⟨t, rfl⟩ := r; rfl
  | str _ => obtain ⟨t, rfl⟩ := r; rfl
  | byt _ => obtain ⟨t, rfl⟩ := r; rfl
  | flt _ => obtain ⟨t, rfl⟩ := r; rfl
  | ref _ => cases r; rfl
  | ty _ => cases r; rfl
theorem RelV.inj {x y : V} {u : Value} (r : RelV x u) (q : RelV y u) : x = y := Option.some.inj (r.abs.symm.trans q.abs)
theorem Vals.inj : ∀ {xs ys : List V} {us : List Value}, Vals xs us → Vals ys us → xs = ys
  | _, _, _, .nil, .nil => rfl
  | _, _, _, .cons r t, .cons r' t' => by rw [r.inj r', Vals.inj t t']
section
variable {X : Cx} {pins : List (Addr × Obj)} {σ : St} {H : Hp} {s : Shared} {a : Addr} {xs ys : List V}
theorem SqL.of {K : PySem.W.Frag} (h : H a = some (.lst xs)) : SqL K H a xs := .inl (.inl h)
theorem SqT.of {K : PySem.W.Frag} (h : H a = some (.tup xs)) : SqT K H a xs := .inl (.inl h)
theorem Inv.list (I : Inv X pins σ H s) (h : SqL X.K H a xs) : ∃ its : List Value, Vals xs its ∧ PlainL s.heap a its.toArray ∧ xs.length ≤ sizeLine := by
  rcases h with h | ⟨o, its, n, hk, hc, hd, hs, hz, r⟩
  · obtain ⟨z, its, n, r, e⟩ := h.ok I.hok
    exact ⟨its, r, ⟨_, n, e, rfl, rfl, rfl⟩, z⟩
  · refine ⟨its.toList, r, ⟨o, n, I.kIn a o hk, hc, hd, by simpa using hs⟩, ?_⟩
    have e := r.length
    simp only [Array.length_toList] at e
    lia
theorem Inv.tuple (I : Inv X pins σ H s) (h : SqT X.K H a xs) : ∃ its : List Value, Vals xs its ∧ IsTup s.heap a its.toArray ∧ xs.length ≤ sizeLine := by
  rcases h with h | ⟨o, its, n, hk, hc, hs, hz, r⟩
  · obtain ⟨z, its, r, p⟩ := h.ok I.hok
    exact ⟨its, r, p, z⟩
  · refine ⟨its.toList, r, ⟨o, I.kIn a o hk, hc, n, by simpa using hs⟩, ?_⟩
    have e := r.length
    simp only [Array.length_toList] at e
    lia
theorem Inv.list_inj (I : Inv X pins σ H s) (h : SqL X.K H a xs) (h' : SqL X.K H a ys) : xs = ys := by
  obtain ⟨its, r, ⟨o, n, e, _, _, d⟩, _⟩ := I.list h
  obtain ⟨its', r', ⟨o', n', e', _, _, d'⟩, _⟩ := I.list h'
  rw [e] at e'; cases e'
  rw [d] at d'
  injection d' with d1 _
  have : its = its' := by simpa using congrArg Array.toList d1
  subst this
  exact r.inj r'
theorem Inv.tuple_inj (I : Inv X pins σ H s) (h : SqT X.K H a xs) (h' : SqT X.K H a ys) : xs = ys := by
  obtain ⟨its, r, ⟨o, e, _, n, d⟩, _⟩ := I.tuple h
  obtain ⟨its', r', ⟨o', e', _, n', d'⟩, _⟩ := I.tuple h'
  rw [e] at e'; cases e'
  rw [d] at d'
  injection d' with d1 _
  have : its = its' := by simpa using congrArg Array.toList d1
  subst this
  exact r.inj r'
end
abbrev Cx.wish (X : Cx) (E : Value → Shared → Prop) : Cx := { X with xe := E }
abbrev Cx.nox (X : Cx) : Cx := X.wish fun _ _ => False
theorem Cx.Ok.wish {X : Cx} (ok : X.Ok) (E : Value → Shared → Prop) : (X.wish E).Ok :=
  ⟨ok.mod, ok.kind, ok.glob, ok.blt, ok.above, ok.inj, ok.has, ok.cab, ok.hd, ok.frames, ok.stk, ok.exf, ok.bs, ok.bsz, ok.noex, ok.exfs, ok.funs, ok.frf⟩
theorem Cx.Ok.unwish {X : Cx} {E : Value → Shared → Prop} (ok : (X.wish E).Ok) : X.Ok :=
  ⟨ok.mod, ok.kind, ok.glob, ok.blt, ok.above, ok.inj, ok.has, ok.cab, ok.hd, ok.frames, ok.stk, ok.exf, ok.bs, ok.bsz, ok.noex, ok.exfs, ok.funs, ok.frf⟩
section
variable {X : Cx} {pins : List (Addr × Obj)} {σ : St} {H : Hp} {s : Shared} {E : Value → Shared → Prop}
theorem Inv.wish (I : Inv X pins σ H s) (E : Value → Shared → Prop) : Inv (X.wish E) pins σ H s := ⟨I.ok.wish E, I.os, I.bare, I.base, I.loc, I.cell, I.free, I.freeC, I.pin, I.hok, I.len⟩
theorem Inv.unwish (I : Inv (X.wish E) pins σ H s) : Inv X pins σ H s := ⟨I.ok.unwish, I.os, I.bare, I.base, I.loc, I.cell, I.free, I.freeC, I.pin, I.hok, I.len⟩
theorem SP.unwish {D : Ends} {f : Flow} {s' : Shared} (h : SP (X.wish E) pins D f s') : SP X pins D f s' := by
  cases f with
  | next => obtain ⟨σ', H', I, q⟩ := h; exact ⟨σ', H', I.unwish, q⟩
  | brk => obtain ⟨σ', H', I, q⟩ := h; exact ⟨σ', H', I.unwish, q⟩
  | cont => obtain ⟨σ', H', I, q⟩ := h; exact ⟨σ', H', I.unwish, q⟩
  | ret u => obtain ⟨v, σ', H', I, r, q⟩ := h; exact ⟨v, σ', H', I.unwish, r, q⟩
theorem PSs.nox {st : List Stmt} {t : TS} (h : PSs X.nox st t) : PSs X st t := fun pins s σ H D I hw =>
  wpAny_mono (h pins s σ H D (I.wish _) hw) (fun _ _ q => q.unwish) fun _ _ z => False.elim z
end
section
variable {X : Cx} {st : Stmt} {rest : List Stmt} {t u : TS} {e : Expr} {te : TE} {pos : Pos}
def tNext : TS := fun D σ H => D.nx σ H
def tSeq (t u : TS) : TS := fun D σ H => t { D with nx := u D } σ H
theorem pss_nil : PSs X [] tNext := fun _ _ σ H _ I h => wpAny_execs_nil ⟨σ, H, I, h⟩
theorem pss_cons (h1 : PS X st t) (h2 : PSs X rest u) : PSs X (st :: rest) (tSeq t u) := by
  intro pins s σ H D I h
  refine wpAny_execs_cons (thn (h1 pins s σ H { D with nx := u D } I h) fun f s1 q => ?_)
  cases f with
  | next =>
    obtain ⟨σ', H', I', q⟩ := q
    exact h2 pins s1 σ' H' D I' q
  | ret v => exact q
  | brk => exact q
  | cont => exact q
theorem pss_one (h1 : PS X st t) : PSs X [st] t := by
  intro pins s σ H D I h
  refine wpAny_execs_cons (thn (h1 pins s σ H D I h) fun f s1 q => ?_)
  cases f with
  | next => exact wpAny_execs_nil q
  | ret v => exact q
  | brk => exact q
  | cont => exact q
theorem Inv.quiet {pins : List (Addr × Obj)} {σ : St} {H : Hp} {s : Shared} (I : Inv X pins σ H s) : interactive X.env = false := by simp [interactive, I.ok.kind]
def tDrop (te : TE) : TS := fun D σ H => te σ H fun _ H1 => D.nx σ H1
theorem ps_expr (he : PE X e te) (hs : swapsWith e none pos.line X.env = pure false := by rfl) : PS X (.Expr e pos) (tDrop te) := by
  intro pins s σ H D I h
  exact wpAny_Expr_any (thn (he pins s σ H _ I h) fun v s1 ⟨x, H1, I1, r1, q1⟩ => ⟨σ, H1, I1, q1⟩) I.quiet hs
def tRet (te : TE) : TS := fun D σ H => te σ H D.rt
theorem ps_ret (he : PE X e te) : PS X (.Return (some e) pos) (tRet te) := by
  intro pins s σ H D I h
  exact wpAny_Return_some (thn (he pins s σ H _ I h) fun v s1 ⟨x, H1, I1, r1, q1⟩ => ⟨x, σ, H1, I1, r1, q1⟩)
def tIfS (c : TT) (t u : TS) : TS := fun D σ H => c σ H fun b H1 => if b = true then t D σ H1 else u D σ H1
theorem ps_if {c : Expr} {a b : List Stmt} {tc : TT} (hc : PT X c tc) (ha : PSs X a t) (hb : PSs X b u) : PS X (.If c a b pos) (tIfS tc t u) := by
  intro pins s σ H D I h
  refine wpAny_If (thn (hc pins s σ H _ I h) fun d s1 ⟨H1, I1, q1⟩ => ?_)
  cases d with
  | true => exact ha pins s1 σ H1 D I1 q1
  | false => exact hb pins s1 σ H1 D I1 q1
end
abbrev TG := V → St → Hp → (St → Hp → Prop) → Prop
abbrev TGs := List V → St → Hp → (St → Hp → Prop) → Prop
def PG (X : Cx) (target : Expr) (t : TG) : Prop :=
  ∀ (pins : List (Addr × Obj)) (s : Shared) (σ : St) (H : Hp) (v : V) (u : Value) (Q : St → Hp → Prop), Inv X pins σ H s → RelV v u → t v σ H Q →
    wpAny (model X.prog X.w) X.A (assign target X.env u) (fun _ s' => ∃ σ' H', Inv X pins σ' H' s' ∧ Q σ' H') X.xe s
def PGs (X : Cx) (ts : List Expr) (t : TGs) : Prop :=
  ∀ (pins : List (Addr × Obj)) (s : Shared) (σ : St) (H : Hp) (vs : List V) (us : List Value) (Q : St → Hp → Prop), Inv X pins σ H s → Vals vs us → t vs σ H Q →
    wpAny (model X.prog X.w) X.A (assignInOrder ((assignEach ts X.env).map (·.2)) us) (fun _ s' => ∃ σ' H', Inv X pins σ' H' s' ∧ Q σ' H') X.xe s
abbrev TSet := V → V → V → Hp → (Hp → Prop) → Prop
def PSet (X : Cx) (t : TSet) : Prop :=
  ∀ (pins : List (Addr × Obj)) (s : Shared) (σ : St) (H : Hp) (o i v : V) (ov iv u : Value) (Q : Hp → Prop), Inv X pins σ H s → RelV o ov → RelV i iv → RelV v u → t o i v H Q →
    wpAny (model X.prog X.w) X.A (setItem ov iv u) (fun _ s' => ∃ H', Inv X pins σ H' s' ∧ Q H') X.xe s
section
variable {X : Cx} {pos : Pos}
def gName (i : Nat) : TG := fun v σ H Q => Q (σ.set i (some v)) H
theorem pg_name {i : Nat} {x : Str} (hN : X.N.Nodup) (hi : X.N[i]? = some x) (hx : Loc X.env.scope x) (hf : X.fn x = true ∨ X.env.scope.names.lookup x = some .local := by first | exact .inl rfl | exact .inr rfl | assumption) : PG X (.Name x pos) (gName i) := by
  intro pins s σ H v u Q I r h
  exact wpAny_assign_Name (store_ok I hN hi hx r (fun s' I' => ⟨_, H, I', h⟩) hf)
def gNil : TGs := fun vs σ H Q => vs = [] ∧ Q σ H
def gCons (t : TG) (u : TGs) : TGs := fun vs σ H Q => ∃ v r, vs = v :: r ∧ t v σ H fun σ' H' => u r σ' H' Q
theorem pgs_nil : PGs X [] gNil := by
  intro pins s σ H vs us Q I r h
  obtain ⟨e, h⟩ := h
  subst e
  cases r
  exact assignInOrder_nil ⟨σ, H, I, h⟩
theorem pgs_cons {e : Expr} {es : List Expr} {t : TG} {u : TGs} (h1 : PG X e t) (h2 : PGs X es u)
    (hs : (assignEach (e :: es) X.env).map (·.2) = assign e X.env :: (assignEach es X.env).map (·.2) := by rfl) : PGs X (e :: es) (gCons t u) := by
  intro pins s σ H vs us Q I r h
  obtain ⟨v, vr, e1, h⟩ := h
  subst e1
  cases r with
  | cons r rr =>
    rw [hs]
    refine assignInOrder_cons (thn (h1 pins s σ H _ _ _ I r h) fun _ s1 ⟨σ1, H1, I1, q1⟩ => ?_)
    exact h2 pins s1 σ1 H1 _ _ Q I1 rr q1
def gTup (K : PySem.W.Frag) (n : Nat) (t : TGs) : TG := fun v σ H Q => ∃ a xs, v = .ref a ∧ SqT K H a xs ∧ xs.length = n ∧ t xs σ H Q
theorem pg_tup {es : List Expr} {k : Nat} {t : TGs} {n : Nat} (hc : X.calm = true) (h : PGs X es t)
    (hn : (assignEach es X.env).length = n := by rfl) (hst : (assignEach es X.env).findIdx? (·.1) = none := by rfl) : PG X (.Tuple es k pos) (gTup X.K n t) := by
  intro pins s σ H v u Q I r hw
  obtain ⟨a, xs, e1, hq, hl, hw⟩ := hw
  subst e1
  cases r
  obtain ⟨its, rv, ht, hz⟩ := I.tuple hq
  refine assign_Tuple_tuple (I.ok.hd hc) ht (by simp [hn, ← hl, rv.length]) hst fun h' hx => ?_
  have I1 : Inv X pins σ H { s with heap := h' } := I.kept (t' := s.toks) fun b o e => hx b o (Nat.ne_of_lt (Heap.lt_size e)) e
  exact h pins _ σ H xs _ Q I1 (by simpa using rv) hw
def gSub (to ti : TE) (t : TSet) : TG := fun v σ H Q => to σ H fun o H1 => ti σ H1 fun i H2 => t o i v H2 fun H3 => Q σ H3
theorem pg_sub {o i : Expr} {to ti : TE} {t : TSet} (ho : PE X o to) (hi : PE X i ti) (hs : PSet X t)
    (ha : ∀ v, assign (.Subscript o i pos) X.env v = (do
      let ov ← holding [v] (eval o X.env)
      let iv ← holding [v, ov] (eval i X.env)
      standAt pos
      holding [v, ov, iv] (setItem ov iv v)
      release [v, ov, iv] []) := by intro _; rfl) : PG X (.Subscript o i pos) (gSub to ti t) := by
  intro pins s σ H v u Q I r h
  rw [ha]
  refine wpAny_bind (wpAny_holding (thn (ho pins s σ H _ I h) fun ov s1 ⟨x, H1, I1, r1, q1⟩ => ?_))
  refine wpAny_bind (wpAny_holding (thn (hi pins s1 σ H1 _ I1 q1) fun iv s2 ⟨y, H2, I2, r2, q2⟩ => ?_))
  refine wpAny_bind (wpAny_standAt (wpAny_bind (wpAny_holding (thn (hs pins s2 σ H2 x y v ov iv u _ I2 r1 r2 r q2) fun _ s3 ⟨H3, I3, q3⟩ => ?_))))
  exact wpAny_release ⟨σ, H3, I3, q3⟩
def tAsg (te : TE) (g : TG) : TS := fun D σ H => te σ H fun x H1 => g x σ H1 D.nx
theorem ps_asg {tg e : Expr} {te : TE} {g : TG} (he : PE X e te) (hg : PG X tg g) (hs : swapsWithSole [tg] e pos.line X.env = pure false := by rfl) (hw : swappedStores [tg] e X.env = pure none := by rfl)
    (h1 : (assignEach [tg] X.env).map (·.2) = [assign tg X.env] := by rfl) : PS X (.Assign [tg] e pos) (tAsg te g) := by
  intro pins s σ H D I h
  refine wpAny_Assign_stores (thn (he pins s σ H _ I h) fun v s1 ⟨x, H1, I1, r1, q1⟩ => ?_) hs hw
  rw [h1]
  exact thn (hg pins s1 σ H1 x v _ I1 r1 q1) fun _ s2 q => q
theorem ps_set {i : Nat} {x : Str} {e : Expr} {te : TE} {pos' : Pos} (hN : X.N.Nodup) (hi : X.N[i]? = some x) (hx : Loc X.env.scope x) (he : PE X e te) (hs : swapsWith e (some (.Name x pos')) pos.line X.env = pure false := by rfl) (hf : X.fn x = true ∨ X.env.scope.names.lookup x = some .local := by first | exact .inl rfl | exact .inr rfl | assumption) :
    PS X (.Assign [.Name x pos'] e pos) (tAsg te (gName i)) := by
  intro pins s σ H D I h
  refine wpAny_Assign_Name (thn (he pins s σ H _ I h) fun v s1 ⟨y, H1, I1, r1, q1⟩ => ?_) hs
  exact store_ok I1 hN hi hx r1 (fun s2 I2 => ⟨_, H1, I2, q1⟩) hf
end
section
variable {X : Cx} {pos : Pos}
def tWhile (c : TT) (tb : TS) : TS := fun D σ H => ∃ W : Nat → St → Hp → Prop, (∃ m, W m σ H) ∧ ∀ m σ H, W m σ H →
  c σ H fun b H1 => if b = true then ∃ N : St → Hp → Prop, (∀ σ' H', N σ' H' → ∃ m', m' < m ∧ W m' σ' H') ∧ tb { D with nx := N, ct := N, bk := D.nx } σ H1 else D.nx σ H1
theorem ps_while {c : Expr} {body : List Stmt} {tc : TT} {tb : TS} (hp : PassesOwn (model X.prog X.w) X.A X.env X.xe) (hc : PT X c tc) (hb : PSs X body tb) : PS X (.While c body [] pos) (tWhile tc tb) := by
  intro pins s σ H D I h
  obtain ⟨W, ⟨m0, w0⟩, turn⟩ := h
  refine wpAny_While (codeAny_whileLoop (fun n s' => ∃ σ' H', Inv X pins σ' H' s' ∧ W n σ' H') ?_ m0 ⟨σ, H, I, w0⟩)
  rintro n s1 ⟨σ1, H1, I1, w1⟩
  refine wpAny_passesOwn hp (thn (hc pins s1 σ1 H1 _ I1 (turn n σ1 H1 w1)) fun b s2 ⟨H2, I2, q2⟩ => ?_)
  cases b with
  | true =>
    obtain ⟨N, hN, q2⟩ := q2
    rw [if_pos rfl]
    refine wpAny_passesOwn hp (thn (hb pins s2 σ1 H2 _ I2 q2) fun f s3 q3 => ?_)
    cases f with
    | next =>
      obtain ⟨σ3, H3, I3, n3⟩ := q3
      obtain ⟨m', hm, w3⟩ := hN σ3 H3 n3
      exact ⟨m', hm, σ3, H3, I3, w3⟩
    | cont =>
      obtain ⟨σ3, H3, I3, n3⟩ := q3
      obtain ⟨m', hm, w3⟩ := hN σ3 H3 n3
      exact ⟨m', hm, σ3, H3, I3, w3⟩
    | brk => exact q3
    | ret v => exact q3
  | false =>
    rw [if_neg Bool.false_ne_true]
    exact wpAny_execs_nil ⟨σ1, H2, I2, q2⟩
end
structure It where
  go : Nat → Hp → Prop
  yld : Nat → Hp → V → Hp → Prop
  stop : Nat → Hp → Prop
def FpOk (X : Cx) (pins : List (Addr × Obj)) (H : Hp) (b : Addr) : Prop :=
  H b = none ∧ b ≠ X.env.locals ∧ b ∉ X.fs ∧ (b ∈ X.ex ∨ X.s₀.heap.objs.size ≤ b) ∧ (∀ x c, X.env.cells.lookup x = some c → c ≠ b) ∧ ∀ p ∈ X.pn ++ pins, p.1 ≠ b
theorem Inv.fpOk {X : Cx} {pins : List (Addr × Obj)} {σ : St} {H H' : Hp} {s : Shared} {b : Addr} (I : Inv X pins σ H s) (hb : s.heap.objs.size ≤ b) (hn : H' b = none) : FpOk X pins H' b := by
  refine ⟨hn, Nat.ne_of_gt (Nat.lt_of_lt_of_le I.lt hb), I.nofs hb, .inr (Nat.le_trans I.sz hb), fun x c e z => ?_, fun p hp z => ?_⟩
  · obtain ⟨v, q⟩ := I.cell x c e
    exact absurd (Nat.lt_of_lt_of_le q.lt (by rw [z]; exact hb)) (Nat.lt_irrefl _)
  · exact absurd (Nat.lt_of_lt_of_le (Heap.lt_size (I.pin p hp).1) (by rw [z]; exact hb)) (Nat.lt_irrefl _)
structure Turn (P : Program) (w : World) (K : PySem.W.Frag) (tg : Expr) (J : It) (fp : List Addr) (it : Addr) (tn : Nat → Heap → Prop) : Prop where
  mem : it ∈ fp
  obj : ∀ i h, tn i h → ∀ b ∈ fp, ∃ o, h.get? b = some o ∧ ∀ v, o.data ≠ .cell v
  keep : ∀ i h h', tn i h → (∀ b ∈ fp, ∀ o, h.get? b = some o → h'.get? b = some o) → tn i h'
  item : ∀ (X : Cx), X.prog = P → X.w = w → X.K = K → X.calm = true → ∀ (i : Nat) (pins : List (Addr × Obj)) (s : Shared) (σ : St) (H : Hp) (E : Value → Shared → Prop), Inv X pins σ H s → (∀ b ∈ fp, FpOk X pins H b) → tn i s.heap → J.go i H →
    wpAny (model P w) X.A (pyNext (.ref it)) (fun r s1 => ∃ u, r = some u ∧
      wpAny (model P w) X.A (letOwnedTupleGo tg (.ref it) u) (fun _ s2 => ∃ x H', Inv X pins σ H' s2 ∧ RelV x u ∧ J.yld i H x H' ∧ tn (i + 1) s2.heap ∧ ∀ b ∈ fp, H' b = none) E s1) E s
  done : ∀ (X : Cx), X.prog = P → X.w = w → X.K = K → X.calm = true → ∀ (i : Nat) (pins : List (Addr × Obj)) (s : Shared) (σ : St) (H : Hp) (E : Value → Shared → Prop), Inv X pins σ H s → (∀ b ∈ fp, FpOk X pins H b) → tn i s.heap → J.stop i H →
    wpAny (model P w) X.A (pyNext (.ref it)) (fun r s1 => r = none ∧ Inv X pins σ H s1) E s
  self : ∀ (A : Around) (i : Nat) (s : Shared) (Q : Value → Shared → Prop) (E : Value → Shared → Prop), tn i s.heap → Q (.ref it) s → wpAny (model P w) A (pyIter (.ref it)) Q E s
abbrev TI := St → Hp → (It → Hp → Prop) → Prop
def PIE (X : Cx) (pins : List (Addr × Obj)) (σ : St) (tg : Expr) (R : It → Hp → Prop) (itv : Value) (s2 : Shared) : Prop :=
  ∃ (it : Addr) (fp : List Addr) (tn : Nat → Heap → Prop) (J : It) (H' : Hp), itv = .ref it ∧ Inv X pins σ H' s2 ∧ Turn X.prog X.w X.K tg J fp it tn ∧ tn 0 s2.heap ∧ (∀ b ∈ fp, FpOk X pins H' b) ∧ R J H'
def PI (X : Cx) (tg iter : Expr) (wi : TI) : Prop :=
  ∀ (pins : List (Addr × Obj)) (s : Shared) (σ : St) (H : Hp) (R : It → Hp → Prop), Inv X pins σ H s → wi σ H R →
    wpAny (model X.prog X.w) X.A (eval iter X.env) (fun v s1 => wpAny (model X.prog X.w) X.A (pyIter v) (PIE X pins σ tg R) X.xe s1) X.xe s
theorem go_of {M : Model} {A : Around} {E : Value → Shared → Prop} {s : Shared} {tg : Expr} {it : Addr} {u : Value} {o : Obj} {n : String} {vs : Array Value} {Q : Unit → Shared → Prop} (ho : s.heap.get? it = some o) (hc : o.cls = .type n) (hd : o.data = .fields vs)
    (hn : ["enumerate", "zip", "dict_itemiterator", "dict_reverseitemiterator", "odict_iterator", "itertools.zip_longest", "itertools.pairwise"].contains n = false) (hQ : Q () s) : wpAny M A (letOwnedTupleGo tg (.ref it) u) Q E s := by
  unfold letOwnedTupleGo
  cases tg <;> first
    | exact wpAny_pure hQ
    | (cases u <;> first
        | exact wpAny_pure hQ
        | (refine wpAny_bind (wpAny_load ho ?_)
           rw [hc, hd]
           show wpAny M A (if (["enumerate", "zip", "dict_itemiterator", "dict_reverseitemiterator", "odict_iterator", "itertools.zip_longest", "itertools.pairwise"].contains n && vs[0]? == some (rawInt _)) = true then _ else _) Q E s
           rw [if_neg (by intro h; rw [hn, Bool.false_and] at h; cases h)]
           exact wpAny_pure hQ))
def Itl (K : PySem.W.Frag) (a : Addr) : It :=
  ⟨fun i H => ∃ xs x, SqL K H a xs ∧ xs[i]? = some x, fun i H x H' => H' = H ∧ ∀ xs, SqL K H a xs → xs[i]? = some x, fun i H => ∃ xs, SqL K H a xs ∧ xs.length ≤ i⟩
def Itt (K : PySem.W.Frag) (a : Addr) : It :=
  ⟨fun i H => ∃ xs x, SqT K H a xs ∧ xs[i]? = some x, fun i H x H' => H' = H ∧ ∀ xs, SqT K H a xs → xs[i]? = some x, fun i H => ∃ xs, SqT K H a xs ∧ xs.length ≤ i⟩
def Itr (lo : Int) (n : Nat) : It := ⟨fun i _ => i < n, fun i H x H' => H' = H ∧ x = .int (lo + i), fun i _ => n ≤ i⟩
theorem turn_list {P : Program} {w : World} {K : PySem.W.Frag} {tg : Expr} (a it : Addr) : Turn P w K tg (Itl K a) [it] it (fun i h => h.IsListIter it a i) where
  mem := by simp
  obj := fun i h st b hb => by
    have e : b = it := by simpa using hb
    subst e
    obtain ⟨o, e, c, d⟩ := st
    exact ⟨o, e, fun v z => by rw [d] at z; cases z⟩
  keep := fun i h h' st k => st.at fun o e => k it (by simp) o e
  item := by
    intro X hP hw hK hc i pins s σ H E I hf st hg
    subst hP hw hK
    obtain ⟨xs, x, hq, hx⟩ := hg
    obtain ⟨its, rv, p, hz⟩ := I.list hq
    obtain ⟨u, hu, ru⟩ := rv.get hx
    obtain ⟨f0, f1, f2, f3, f4, f5⟩ := hf it (by simp)
    refine wpAny_pyNext_list_item st p.isList (x := u) (by simpa using hu) fun h' st' sb => ?_
    have I1 : Inv X pins σ H { s with heap := h' } := I.turned (t' := s.toks) (fun b o hb e => (sb.2 b hb).trans e) f0 f1 f3 f4 f5
    obtain ⟨o, e, c, d⟩ := id st'
    exact ⟨u, rfl, go_of (s := { s with heap := h' }) e c d (by decide) ⟨x, H, I1, ru, ⟨rfl, fun ys hy => by rw [I.list_inj hy hq]; exact hx⟩, st', fun b hb => (hf b hb).1⟩⟩
  done := by
    intro X hP hw hK hc i pins s σ H E I hf st hg
    subst hP hw hK
    obtain ⟨xs, hq, hx⟩ := hg
    obtain ⟨its, rv, p, hz⟩ := I.list hq
    obtain ⟨f0, f1, f2, f3, f4, f5⟩ := hf it (by simp)
    have hl := rv.length
    exact wpAny_pyNext_list_end (I.ok.hd hc) st p.isList (by simp; lia) fun h' eb => ⟨rfl, I.turned (t' := s.toks) (fun b o hb e => eb b o hb e) f0 f1 f3 f4 f5⟩
  self := fun _ _ _ _ _ st h => wpAny_pyIter_listiter st h
theorem turn_tuple {P : Program} {w : World} {K : PySem.W.Frag} {tg : Expr} (a it : Addr) : Turn P w K tg (Itt K a) [it] it (fun i h => h.IsTupleIter it a i) where
  mem := by simp
  obj := fun i h st b hb => by
    have e : b = it := by simpa using hb
    subst e
    obtain ⟨o, e, c, d⟩ := st
    exact ⟨o, e, fun v z => by rw [d] at z; cases z⟩
  keep := fun i h h' st k => st.at fun o e => k it (by simp) o e
  item := by
    intro X hP hw hK hc i pins s σ H E I hf st hg
    subst hP hw hK
    obtain ⟨xs, x, hq, hx⟩ := hg
    obtain ⟨its, rv, p, hz⟩ := I.tuple hq
    obtain ⟨u, hu, ru⟩ := rv.get hx
    obtain ⟨f0, f1, f2, f3, f4, f5⟩ := hf it (by simp)
    refine wpAny_pyNext_tuple_item st (show s.heap.IsTuple a its.toArray from p) (x := u) (by simpa using hu) fun h' st' sb => ?_
    have I1 : Inv X pins σ H { s with heap := h' } := I.turned (t' := s.toks) (fun b o hb e => (sb.2 b hb).trans e) f0 f1 f3 f4 f5
    obtain ⟨o, e, c, d⟩ := id st'
    exact ⟨u, rfl, go_of (s := { s with heap := h' }) e c d (by decide) ⟨x, H, I1, ru, ⟨rfl, fun ys hy => by rw [I.tuple_inj hy hq]; exact hx⟩, st', fun b hb => (hf b hb).1⟩⟩
  done := by
    intro X hP hw hK hc i pins s σ H E I hf st hg
    subst hP hw hK
    obtain ⟨xs, hq, hx⟩ := hg
    obtain ⟨its, rv, p, hz⟩ := I.tuple hq
    obtain ⟨f0, f1, f2, f3, f4, f5⟩ := hf it (by simp)
    have hl := rv.length
    exact wpAny_pyNext_tuple_end (I.ok.hd hc) st (show s.heap.IsTuple a its.toArray from p) (by simp; lia) fun h' eb => ⟨rfl, I.turned (t' := s.toks) (fun b o hb e => eb b o hb e) f0 f1 f3 f4 f5⟩
  self := fun _ _ _ _ _ st h => wpAny_pyIter_tupleiter st h
theorem turn_range {P : Program} {w : World} {K : PySem.W.Frag} {tg : Expr} (it : Addr) (lo : Int) (n : Nat) : Turn P w K tg (Itr lo n) [it] it (fun i h => IsRangeIter h it (lo + (i : Nat) * 1) ((n : Int) - (i : Nat)) 1) where
  mem := by simp
  obj := fun i h st b hb => by
    have e : b = it := by simpa using hb
    subst e
    exact ⟨_, st, fun v z => by
      have z' : Data.fields _ = Data.cell v := z
      cases z'⟩
  keep := fun i h h' st k => k it (by simp) _ st
  item := by
    intro X hP hw hK hc i pins s σ H E I hf st hg
    subst hP hw hK
    obtain ⟨f0, f1, f2, f3, f4, f5⟩ := hf it (by simp)
    have W := Walks.range (prog := X.prog) (w := X.w) (I.ok.hd hc) it lo 1 n
    refine W.item i s _ _ hg st fun v h' tk hv st' kk => ?_
    obtain ⟨t, rfl⟩ := hv
    have I1 : Inv X pins σ H { s with heap := h', toks := tk } := I.turned (fun b o hb e => kk b o (by simpa using hb) e) f0 f1 f3 f4 f5
    refine ⟨_, rfl, go_of (s := { s with heap := h', toks := tk }) (n := "range_iterator") st' rfl rfl (by decide) ⟨.int (lo + i), H, I1, ⟨t, ?_⟩, ⟨rfl, rfl⟩, st', fun b hb => (hf b hb).1⟩⟩
    rw [Int.mul_one]
  done := by
    intro X hP hw hK hc i pins s σ H E I hf st hg
    subst hP hw hK
    obtain ⟨f0, f1, f2, f3, f4, f5⟩ := hf it (by simp)
    exact wpAny_pyNext_range_end (I.ok.hd hc) st (by have : n ≤ i := hg; lia) fun h' eb => ⟨rfl, I.turned (t' := s.toks) (fun b o hb e => eb b o hb e) f0 f1 f3 f4 f5⟩
  self := fun _ _ _ _ _ st h => wpAny_pyIter_rangeiter st h
end L2
namespace L2
open PySem PySem.Spec PyProof.Rows
section
variable {X : Cx} {tg : Expr}
def iList (K : PySem.W.Frag) (tl : TE) : TI := fun σ H R => tl σ H fun x H1 => ∃ a, x = .ref a ∧ (∃ xs, SqL K H1 a xs) ∧ R (Itl K a) H1
def iTup (K : PySem.W.Frag) (tl : TE) : TI := fun σ H R => tl σ H fun x H1 => ∃ a, x = .ref a ∧ (∃ xs, SqT K H1 a xs) ∧ R (Itt K a) H1
theorem pi_list {l : Expr} {tl : TE} (hl : PE X l tl) : PI X tg l (iList X.K tl) := by
  intro pins s σ H R I h
  refine thn (hl pins s σ H _ I h) fun v s1 ⟨x, H1, I1, r1, q1⟩ => ?_
  obtain ⟨a, e, ⟨xs, hq⟩, q⟩ := q1
  subst e
  cases r1
  obtain ⟨its, rv, p, hz⟩ := I1.list hq
  refine wpAny_pyIter_list p.isList ?_
  refine ⟨s1.heap.objs.size, [s1.heap.objs.size], _, _, H1, rfl, I1.kept (t' := s1.toks) fun b o e => Heap.get?_push_of_some _ e, turn_list a _, ⟨_, Heap.get?_push_size _ rfl, rfl, rfl⟩, fun b hb => ?_, q⟩
  have e : b = s1.heap.objs.size := by simpa using hb
  subst e
  exact I1.fpOk (Nat.le_refl _) (I1.hok.fresh (Nat.le_refl _))
theorem pi_tup {l : Expr} {tl : TE} (hl : PE X l tl) : PI X tg l (iTup X.K tl) := by
  intro pins s σ H R I h
  refine thn (hl pins s σ H _ I h) fun v s1 ⟨x, H1, I1, r1, q1⟩ => ?_
  obtain ⟨a, e, ⟨xs, hq⟩, q⟩ := q1
  subst e
  cases r1
  obtain ⟨its, rv, p, hz⟩ := I1.tuple hq
  refine wpAny_pyIter_tuple (show s1.heap.IsTuple a its.toArray from p) ?_
  refine ⟨s1.heap.objs.size, [s1.heap.objs.size], _, _, H1, rfl, I1.kept (t' := s1.toks) fun b o e => Heap.get?_push_of_some _ e, turn_tuple a _, ⟨_, Heap.get?_push_size _ rfl, rfl, rfl⟩, fun b hb => ?_, q⟩
  have e : b = s1.heap.objs.size := by simpa using hb
  subst e
  exact I1.fpOk (Nat.le_refl _) (I1.hok.fresh (Nat.le_refl _))
theorem range_it {pins : List (Addr × Obj)} {σ : St} {H : Hp} {s : Shared} {R : It → Hp → Prop} {E : Value → Shared → Prop} {lo hi : Int} {t u v : Tok} {tk : Nat} (I : Inv X pins σ H s) (h1 : -(2 ^ 62) ≤ lo) (h2 : lo < 2 ^ 62) (h3 : -(2 ^ 62) ≤ hi) (h4 : hi < 2 ^ 62)
    (q : R (Itr lo (hi - lo).toNat) H) : wpAny (model X.prog X.w) X.A (pyIter (.ref s.heap.objs.size)) (PIE X pins σ tg R) E { s with heap := s.heap.push { cls := .type "range", data := .fields #[.int lo t, .int hi u, .int 1 v] }, toks := tk } := by
  refine wpAny_pyIter_range (IsRange.new ..) (small_one h1 h2 h3 h4) ?_
  have I1 : Inv X pins σ H { s with heap := s.heap.push { cls := .type "range", data := .fields #[.int lo t, .int hi u, .int 1 v] }, toks := tk } := I.kept fun b o e => Heap.get?_push_of_some _ e
  refine ⟨(s.heap.push { cls := .type "range", data := .fields #[.int lo t, .int hi u, .int 1 v] }).objs.size, [(s.heap.push { cls := .type "range", data := .fields #[.int lo t, .int hi u, .int 1 v] }).objs.size], _, _, H, rfl,
    I1.kept (t' := tk) fun b o e => Heap.get?_push_of_some _ e, turn_range _ lo (hi - lo).toNat, ?_, fun b hb => ?_, q⟩
  · have e1 : lo + ((0 : Nat) : Int) * 1 = lo := by simp
    have e2 : (((hi - lo).toNat : Nat) : Int) - ((0 : Nat) : Int) = Builtin.Range.rangeSize lo hi 1 := by rw [rangeSize_one]; split <;> lia
    show IsRangeIter _ _ (lo + ((0 : Nat) : Int) * 1) ((((hi - lo).toNat : Nat) : Int) - ((0 : Nat) : Int)) 1
    rw [e1, e2]
    exact Heap.get?_push_size _ rfl
  · have e : b = (s.heap.push { cls := .type "range", data := .fields #[.int lo t, .int hi u, .int 1 v] }).objs.size := by simpa using hb
    subst e
    exact I1.fpOk (Nat.le_refl _) (I1.hok.fresh (Nat.le_refl _))
def iRng1 (ta : TA) : TI := fun σ H R => ta σ H fun vs H1 => ∃ j : Int, vs = [.int j] ∧ -(2 ^ 62) ≤ j ∧ j < 2 ^ 62 ∧ R (Itr 0 j.toNat) H1
def iRng2 (ta : TA) : TI := fun σ H R => ta σ H fun vs H1 => ∃ i j : Int, vs = [.int i, .int j] ∧ (-(2 ^ 62) ≤ i ∧ i < 2 ^ 62 ∧ -(2 ^ 62) ≤ j ∧ j < 2 ^ 62) ∧ R (Itr i (j - i).toNat) H1
theorem pi_range1 {a : Expr} {ta : TA} {p pos : Pos} (hg : Gl X "range") (hm : X.mg "range" = none) (ha : PA X [a] ta) (hs : starEach [a] X.env = [(false, eval a X.env)] := by rfl) : PI X tg (.Call (.Name "range" p) [a] [] pos) (iRng1 ta) := by
  intro pins s σ H R I h
  refine Call_ (ld_blt I hg hm boot_range (PyProof.Rows.callWith_type1 (thn (ha pos pins s σ H _ I h) fun us s1 ⟨vs, H1, I1, r1, q1⟩ => ?_) hs rfl))
  obtain ⟨j, e, q1, q2, q⟩ := q1
  subst e
  cases r1 with
  | cons r rr =>
    cases rr
    obtain ⟨t, rfl⟩ := r
    exact call_range_1 (range_it I1 (by lia) (by lia) q1 q2 (by simpa using q))
theorem pi_range2 {a b : Expr} {ta : TA} {p pos : Pos} (hg : Gl X "range") (hm : X.mg "range" = none) (ha : PA X [a, b] ta) (hs : starEach [a, b] X.env = [(false, eval a X.env), (false, eval b X.env)] := by rfl) (hs2 : starEach [b] X.env = [(false, eval b X.env)] := by rfl) :
    PI X tg (.Call (.Name "range" p) [a, b] [] pos) (iRng2 ta) := by
  intro pins s σ H R I h
  refine Call_ (ld_blt I hg hm boot_range (PyProof.Rows.callWith_type1 (thn (ha pos pins s σ H _ I h) fun us s1 ⟨vs, H1, I1, r1, q1⟩ => ?_) (by rw [hs, hs2]) (by rw [hs2]; rfl)))
  obtain ⟨i, j, e, ⟨q1, q2, q3, q4⟩, q⟩ := q1
  subst e
  cases r1 with
  | cons r rr =>
    cases rr with
    | cons r' rr =>
      cases rr
      obtain ⟨t, rfl⟩ := r
      obtain ⟨t', rfl⟩ := r'
      exact call_range_2 (range_it I1 q1 q2 q3 q4 q)
def tFor (wi : TI) (g : TG) (tb : TS) : TS := fun D σ H => wi σ H fun J H1 => ∃ W : Nat → Nat → St → Hp → Prop, (∃ m, W 0 m σ H1) ∧ ∀ i m σ H, W i m σ H →
  (J.stop i H ∧ D.nx σ H) ∨ (J.go i H ∧ ∃ N : St → Hp → Prop, (∀ σ' H', N σ' H' → ∃ m', m' < m ∧ W (i + 1) m' σ' H') ∧ ∀ x H', J.yld i H x H' → g x σ H' fun σ2 H2 => tb { D with nx := N, ct := N, bk := D.nx } σ2 H2)
def pinsAt (fp : List Addr) (h : Heap) : List (Addr × Obj) := fp.filterMap fun b => (h.get? b).map fun o => (b, o)
theorem mem_pinsAt {fp : List Addr} {h : Heap} {b : Addr} {o : Obj} (hb : b ∈ fp) (e : h.get? b = some o) : (b, o) ∈ pinsAt fp h := List.mem_filterMap.mpr ⟨b, hb, by rw [e]; rfl⟩
theorem of_pinsAt {fp : List Addr} {h : Heap} {p : Addr × Obj} (hp : p ∈ pinsAt fp h) : p.1 ∈ fp ∧ h.get? p.1 = some p.2 := by
  obtain ⟨b, hb, e⟩ := List.mem_filterMap.mp hp
  cases q : h.get? b with
  | none => rw [q] at e; cases e
  | some o =>
    rw [q] at e
    have e' : (b, o) = p := Option.some.inj e
    subst e'
    exact ⟨hb, q⟩
theorem Inv.pinned {pins : List (Addr × Obj)} {σ : St} {H : Hp} {s : Shared} {fp : List Addr} (I : Inv X pins σ H s) (hf : ∀ b ∈ fp, FpOk X pins H b) (ho : ∀ b ∈ fp, ∃ o, s.heap.get? b = some o ∧ ∀ v, o.data ≠ .cell v) : Inv X (pins ++ pinsAt fp s.heap) σ H s :=
  I.pins_of fun p hp => (List.mem_append.mp hp).elim (fun z => I.pin p (List.mem_append_right _ z)) fun z => by
    obtain ⟨hb, e⟩ := of_pinsAt z
    obtain ⟨f0, f1, f2, _⟩ := hf p.1 hb
    obtain ⟨o, e', d⟩ := ho p.1 hb
    rw [e] at e'; cases e'
    exact ⟨e, f0, f1, f2, d⟩
theorem Inv.unpinned {pins pl : List (Addr × Obj)} {σ : St} {H : Hp} {s : Shared} (I : Inv X (pins ++ pl) σ H s) : Inv X pins σ H s := I.pins_of fun p hp => I.pin p (List.mem_append_right _ (List.mem_append_left _ hp))
theorem ps_for {iter : Expr} {body : List Stmt} {wi : TI} {g : TG} {tb : TS} {pos : Pos} (hp : PassesOwn (model X.prog X.w) X.A X.env X.xe) (hc : X.calm = true) (hi : PI X tg iter wi) (hg : PG X tg g) (hb : PSs X body tb)
    (hs : ∀ x, foldedSetIterable iter X.env x = pure x := by intro _; rfl) : PS X (.For tg iter body [] pos) (tFor wi g tb) := by
  intro pins s σ H D I h
  refine wpAny_For (thn (hi pins s σ H _ I h) fun v s1 h1 => thn h1 fun itv s2 h2 => ?_) hs
  obtain ⟨it, fp, tn, J, H2, e, I2, T, st2, f2, W, ⟨m0, w0⟩, turn⟩ := h2
  subst e
  -- what stays true of the iterator's objects through the loop
  have stat : ∀ {H' : Hp}, (∀ b ∈ fp, H' b = none) → ∀ b ∈ fp, FpOk X pins H' b := fun hn b hb => ⟨hn b hb, (f2 b hb).2⟩
  refine codeAny_forLoop_any (fun n s' => ∃ i σ' H', Inv X pins σ' H' s' ∧ tn i s'.heap ∧ (∀ b ∈ fp, H' b = none) ∧ W i n σ' H') ?_ m0 ⟨0, σ, H2, I2, st2, fun b hb => (f2 b hb).1, w0⟩
  rintro n s3 ⟨i, σ3, H3, I3, st3, fr3, w3⟩
  rcases turn i n σ3 H3 w3 with ⟨stop, qn⟩ | ⟨go, N, hN, step⟩
  · refine wpAny_passesOwn hp (thn (T.done X rfl rfl rfl hc i pins s3 σ3 H3 X.xe I3 (stat fr3) st3 stop) fun r s4 ⟨hr, I4⟩ => ?_)
    subst hr
    exact wpAny_execs_nil ⟨σ3, H3, I4, qn⟩
  · refine wpAny_passesOwn hp (thn (T.item X rfl rfl rfl hc i pins s3 σ3 H3 X.xe I3 (stat fr3) st3 go) fun r s4 ⟨u, hr, h4⟩ => ?_)
    subst hr
    refine wpAny_passesOwn hp (thn h4 fun _ s5 ⟨x, H5, I5, r5, y5, st5, fr5⟩ => ?_)
    have I5' := I5.pinned (stat fr5) (T.obj _ _ st5)
    refine wpAny_passesOwn hp (thn (hg _ s5 σ3 H5 x u _ I5' r5 (step x H5 y5)) fun _ s6 ⟨σ6, H6, I6, q6⟩ => ?_)
    refine wpAny_passesOwn hp (thn (hb _ s6 σ6 H6 _ I6 q6) fun f s7 q7 => ?_)
    have again : ∀ {σ7 : St} {H7 : Hp}, Inv X (pins ++ pinsAt fp s5.heap) σ7 H7 s7 → N σ7 H7 → ∃ m, m < n ∧ ∃ i σ' H', Inv X pins σ' H' s7 ∧ tn i s7.heap ∧ (∀ b ∈ fp, H' b = none) ∧ W i m σ' H' := fun {σ7 H7} I7 n7 => by
      obtain ⟨m', hm, w7⟩ := hN σ7 H7 n7
      refine ⟨m', hm, i + 1, σ7, H7, I7.unpinned, T.keep _ _ _ st5 fun b hb o e => (I7.pin (b, o) (List.mem_append_right _ (List.mem_append_right _ (mem_pinsAt hb e)))).1, fun b hb => ?_, w7⟩
      obtain ⟨o, e, d⟩ := T.obj _ _ st5 b hb
      exact (I7.pin (b, o) (List.mem_append_right _ (List.mem_append_right _ (mem_pinsAt hb e)))).2.1
    cases f with
    | next => obtain ⟨σ7, H7, I7, n7⟩ := q7; exact again I7 n7
    | cont => obtain ⟨σ7, H7, I7, n7⟩ := q7; exact again I7 n7
    | brk => obtain ⟨σ7, H7, I7, q7⟩ := q7; exact ⟨σ7, H7, I7.unpinned, q7⟩
    | ret v => obtain ⟨x7, σ7, H7, I7, r7, q7⟩ := q7; exact ⟨x7, σ7, H7, I7.unpinned, r7, q7⟩
end
theorem for_list {K : PySem.W.Frag} {a : Addr} {xs : List V} {g : TG} {tb : TS} {D : Ends} {σ : St} {H : Hp} (Pv : Nat → St → Hp → Prop) (h0 : Pv 0 σ H) (hl : ∀ i σ H, i ≤ xs.length → Pv i σ H → SqL K H a xs)
    (hs : ∀ i x σ H, xs[i]? = some x → Pv i σ H → g x σ H fun σ2 H2 => tb { D with nx := Pv (i + 1), ct := Pv (i + 1), bk := D.nx } σ2 H2) (hd : ∀ σ H, Pv xs.length σ H → D.nx σ H) :
    ∃ W : Nat → Nat → St → Hp → Prop, (∃ m, W 0 m σ H) ∧ ∀ i m σ H, W i m σ H →
      ((Itl K a).stop i H ∧ D.nx σ H) ∨ ((Itl K a).go i H ∧ ∃ N : St → Hp → Prop, (∀ σ' H', N σ' H' → ∃ m', m' < m ∧ W (i + 1) m' σ' H') ∧ ∀ x H', (Itl K a).yld i H x H' → g x σ H' fun σ2 H2 => tb { D with nx := N, ct := N, bk := D.nx } σ2 H2) := by
  refine ⟨fun i m σ H => m = xs.length - i ∧ i ≤ xs.length ∧ Pv i σ H, ⟨xs.length, by simp, Nat.zero_le _, h0⟩, ?_⟩
  rintro i m σ H ⟨rfl, hi, p⟩
  have q := hl i σ H hi p
  by_cases hlt : i < xs.length
  · refine .inr ⟨⟨xs, xs[i], q, by simp [hlt]⟩, Pv (i + 1), fun σ' H' p' => ⟨xs.length - (i + 1), by lia, rfl, hlt, p'⟩, fun x H' y => ?_⟩
    obtain ⟨e, y⟩ := y
    subst e
    exact hs i x σ _ (y xs q) p
  · have e : i = xs.length := by lia
    subst e
    exact .inl ⟨⟨xs, q, Nat.le_refl _⟩, hd σ H p⟩
theorem for_tup {K : PySem.W.Frag} {a : Addr} {xs : List V} {g : TG} {tb : TS} {D : Ends} {σ : St} {H : Hp} (Pv : Nat → St → Hp → Prop) (h0 : Pv 0 σ H) (hl : ∀ i σ H, i ≤ xs.length → Pv i σ H → SqT K H a xs)
    (hs : ∀ i x σ H, xs[i]? = some x → Pv i σ H → g x σ H fun σ2 H2 => tb { D with nx := Pv (i + 1), ct := Pv (i + 1), bk := D.nx } σ2 H2) (hd : ∀ σ H, Pv xs.length σ H → D.nx σ H) :
    ∃ W : Nat → Nat → St → Hp → Prop, (∃ m, W 0 m σ H) ∧ ∀ i m σ H, W i m σ H →
      ((Itt K a).stop i H ∧ D.nx σ H) ∨ ((Itt K a).go i H ∧ ∃ N : St → Hp → Prop, (∀ σ' H', N σ' H' → ∃ m', m' < m ∧ W (i + 1) m' σ' H') ∧ ∀ x H', (Itt K a).yld i H x H' → g x σ H' fun σ2 H2 => tb { D with nx := N, ct := N, bk := D.nx } σ2 H2) := by
  refine ⟨fun i m σ H => m = xs.length - i ∧ i ≤ xs.length ∧ Pv i σ H, ⟨xs.length, by simp, Nat.zero_le _, h0⟩, ?_⟩
  rintro i m σ H ⟨rfl, hi, p⟩
  have q := hl i σ H hi p
  by_cases hlt : i < xs.length
  · refine .inr ⟨⟨xs, xs[i], q, by simp [hlt]⟩, Pv (i + 1), fun σ' H' p' => ⟨xs.length - (i + 1), by lia, rfl, hlt, p'⟩, fun x H' y => ?_⟩
    obtain ⟨e, y⟩ := y
    subst e
    exact hs i x σ _ (y xs q) p
  · have e : i = xs.length := by lia
    subst e
    exact .inl ⟨⟨xs, q, Nat.le_refl _⟩, hd σ H p⟩
theorem for_range {lo : Int} {n : Nat} {g : TG} {tb : TS} {D : Ends} {σ : St} {H : Hp} (Pv : Nat → St → Hp → Prop) (h0 : Pv 0 σ H)
    (hs : ∀ i σ H, i < n → Pv i σ H → g (.int (lo + i)) σ H fun σ2 H2 => tb { D with nx := Pv (i + 1), ct := Pv (i + 1), bk := D.nx } σ2 H2) (hd : ∀ σ H, Pv n σ H → D.nx σ H) :
    ∃ W : Nat → Nat → St → Hp → Prop, (∃ m, W 0 m σ H) ∧ ∀ i m σ H, W i m σ H →
      ((Itr lo n).stop i H ∧ D.nx σ H) ∨ ((Itr lo n).go i H ∧ ∃ N : St → Hp → Prop, (∀ σ' H', N σ' H' → ∃ m', m' < m ∧ W (i + 1) m' σ' H') ∧ ∀ x H', (Itr lo n).yld i H x H' → g x σ H' fun σ2 H2 => tb { D with nx := N, ct := N, bk := D.nx } σ2 H2) := by
  refine ⟨fun i m σ H => m = n - i ∧ i ≤ n ∧ Pv i σ H, ⟨n, by simp, Nat.zero_le _, h0⟩, ?_⟩
  rintro i m σ H ⟨rfl, hi, p⟩
  by_cases hlt : i < n
  · refine .inr ⟨hlt, Pv (i + 1), fun σ' H' p' => ⟨n - (i + 1), by lia, rfl, hlt, p'⟩, fun x H' y => ?_⟩
    obtain ⟨e, y⟩ := y
    subst e y
    exact hs i σ _ hlt p
  · have e : i = n := by lia
    subst e
    exact .inl ⟨Nat.le_refl _, hd σ H p⟩
end L2
namespace L2
open PySem PySem.Spec PyProof.Rows
abbrev R2 := V → V → Hp → VK → Prop
def OpR (X : Cx) (f : Value → Value → Sem Value) (r : R2) : Prop :=
  ∀ (pins : List (Addr × Obj)) (s : Shared) (σ : St) (H : Hp) (x y : V) (v u : Value) (Q : VK), Inv X pins σ H s → RelV x v → RelV y u → r x y H Q →
    wpAny (model X.prog X.w) X.A (f v u) (EP X pins σ Q) X.xe s
def UnR (X : Cx) (f : Value → Sem Value) (r : V → Hp → VK → Prop) : Prop :=
  ∀ (pins : List (Addr × Obj)) (s : Shared) (σ : St) (H : Hp) (x : V) (v : Value) (Q : VK), Inv X pins σ H s → RelV x v → r x H Q →
    wpAny (model X.prog X.w) X.A (f v) (EP X pins σ Q) X.xe s
def CallR (X : Cx) (f : Value) (r : List V → Hp → VK → Prop) : Prop :=
  ∀ (pins : List (Addr × Obj)) (s : Shared) (σ : St) (H : Hp) (xs : List V) (us : List Value) (Q : VK), Inv X pins σ H s → Vals xs us → r xs H Q →
    wpAny (model X.prog X.w) X.A (call f us) (EP X pins σ Q) X.xe s
def tOp (r : R2) (ta tb : TE) : TE := fun σ H Q => ta σ H fun x H1 => tb σ H1 fun y H2 => r x y H2 Q
def tUn (r : V → Hp → VK → Prop) (ta : TE) : TE := fun σ H Q => ta σ H fun x H1 => r x H1 Q
def rI (C : Int → Int → Prop) (g : Int → Int → V) : R2 := fun x y H Q => ∃ i j, x = .int i ∧ y = .int j ∧ C i j ∧ Q (g i j) H
def rI0 (g : Int → Int → V) : R2 := fun x y H Q => ∃ i j, x = .int i ∧ y = .int j ∧ Q (g i j) H
def rU (g : Int → V) : V → Hp → VK → Prop := fun x H Q => ∃ i, x = .int i ∧ Q (g i) H
section
variable {X : Cx} {a b c : Expr} {ta tb tc : TE} {pos : Pos}
theorem binT (ha : PE X a ta) (hb : PE X b tb) {pins : List (Addr × Obj)} {s : Shared} {σ : St} {H : Hp} {R : V → V → Hp → Prop} (I : Inv X pins σ H s)
    (h : ta σ H fun x H1 => tb σ H1 fun y H2 => R x y H2) {Q : Value → Shared → Prop} {f : Value → Value → Sem Value}
    (hf : ∀ v u s2 x y H2, Inv X pins σ H2 s2 → RelV x v → RelV y u → R x y H2 → wpAny (model X.prog X.w) X.A (f v u) Q X.xe s2) :
    wpAny (model X.prog X.w) X.A (eval a X.env) (fun v s₁ => wpAny (model X.prog X.w) X.A (eval b X.env) (fun u s₂ => wpAny (model X.prog X.w) X.A (f v u) Q X.xe s₂) X.xe s₁) X.xe s := by
  refine thn (ha pins s σ H _ I h) fun v s1 ⟨x, H1, I1, r1, q1⟩ => ?_
  refine thn (hb pins s1 σ H1 _ I1 q1) fun u s2 ⟨y, H2, I2, r2, q2⟩ => ?_
  exact hf v u s2 x y H2 I2 r1 r2 q2
theorem pe_op {op : Operator} {r : R2} (ho : OpR X (binaryOp op) r) (ha : PE X a ta) (hb : PE X b tb) : PE X (.BinOp a op b pos) (tOp r ta tb) := by
  intro pins s σ H Q I h
  exact wpAny_BinOp (binT ha hb I h fun v u s2 x y H2 I2 rx ry q => ho pins s2 σ H2 x y v u Q I2 rx ry q)
theorem pe_un {op : UnaryOp} {r : V → Hp → VK → Prop} (ho : UnR X (unaryOp op) r) (ha : PE X a ta) : PE X (.UnaryOp op a pos) (tUn r ta) := by
  intro pins s σ H Q I h
  exact UnaryOp_ (thn (ha pins s σ H _ I h) fun v s1 ⟨x, H1, I1, r1, q1⟩ => ho pins s1 σ H1 x v Q I1 r1 q1)
theorem opI {f : Value → Value → Sem Value} {C : Int → Int → Prop} {g : Int → Int → Int}
    (rule : ∀ (i j : Int) (t u : Tok) (s : Shared) (Q : Value → Shared → Prop) (E : Value → Shared → Prop), C i j → Q (.int (g i j) s.toks) { s with toks := s.toks + 1 } → wpAny (model X.prog X.w) X.A (f (.int i t) (.int j u)) Q E s) :
    OpR X f (rI C fun i j => .int (g i j)) := by
  intro pins s σ H x y v u Q I rx ry h
  obtain ⟨i, j, rfl, rfl, hc, q⟩ := h
  obtain ⟨t, rfl⟩ := rx
  obtain ⟨t', rfl⟩ := ry
  exact rule i j t t' s _ _ hc ⟨.int (g i j), H, I.tok _, ⟨_, rfl⟩, q⟩
theorem opI0 {f : Value → Value → Sem Value} {g : Int → Int → Int}
    (rule : ∀ (i j : Int) (t u : Tok) (s : Shared) (Q : Value → Shared → Prop) (E : Value → Shared → Prop), Q (.int (g i j) s.toks) { s with toks := s.toks + 1 } → wpAny (model X.prog X.w) X.A (f (.int i t) (.int j u)) Q E s) :
    OpR X f (rI0 fun i j => .int (g i j)) := by
  intro pins s σ H x y v u Q I rx ry h
  obtain ⟨i, j, rfl, rfl, q⟩ := h
  obtain ⟨t, rfl⟩ := rx
  obtain ⟨t', rfl⟩ := ry
  exact rule i j t t' s _ _ ⟨.int (g i j), H, I.tok _, ⟨_, rfl⟩, q⟩
theorem opB0 {f : Value → Value → Sem Value} {g : Int → Int → Bool}
    (rule : ∀ (i j : Int) (t u : Tok) (s : Shared) (Q : Value → Shared → Prop) (E : Value → Shared → Prop), Q (.bool (g i j)) s → wpAny (model X.prog X.w) X.A (f (.int i t) (.int j u)) Q E s) :
    OpR X f (rI0 fun i j => .bl (g i j)) := by
  intro pins s σ H x y v u Q I rx ry h
  obtain ⟨i, j, rfl, rfl, q⟩ := h
  obtain ⟨t, rfl⟩ := rx
  obtain ⟨t', rfl⟩ := ry
  exact rule i j t t' s _ _ ⟨.bl (g i j), H, I, rfl, q⟩
def CPow (i j : Int) : Prop := 0 ≤ j ∧ j ≤ 1000000 ∧ i.natAbs < 2 ^ 64
def CMul (i j : Int) : Prop := (-(2 ^ 64) < i ∧ i < 2 ^ 64) ∨ (-(2 ^ 64) < j ∧ j < 2 ^ 64)
theorem CMul.ok {i j : Int} (h : CMul i j) : IntMulOk i j := by
  rcases h with ⟨h1, h2⟩ | ⟨h1, h2⟩
  · exact .of_left (intBits_le_64 h1 h2)
  · exact .of_right (intBits_le_64 h1 h2)
theorem op_add : OpR X (binaryOp .Add) (rI0 fun i j => .int (i + j)) := opI0 fun _ _ _ _ _ _ _ q => add_int q
theorem op_sub : OpR X (binaryOp .Sub) (rI0 fun i j => .int (i - j)) := opI0 fun _ _ _ _ _ _ _ q => sub_int q
theorem op_mul : OpR X (binaryOp .Mult) (rI CMul fun i j => .int (i * j)) := opI fun _ _ _ _ _ _ _ hc q => mul_int q hc.ok
theorem op_mod : OpR X (binaryOp .Mod) (rI (fun _ j => 0 < j) fun i j => .int (i % j)) := opI fun i j _ _ _ _ _ hc q => by
  have h1 : (0 : Int) < j := hc
  exact mod_int' (by lia) (by rw [Int.fmod_eq_emod_of_nonneg i (by lia)]; exact q)
theorem op_pow : OpR X (binaryOp .Pow) (rI CPow fun i j => .int (i ^ j.toNat)) := opI fun _ _ _ _ _ _ _ hc q => pow_int_small hc.1 hc.2.1 hc.2.2 q
theorem unI {f : Value → Sem Value} {g : Int → Int}
    (rule : ∀ (i : Int) (t : Tok) (s : Shared) (Q : Value → Shared → Prop) (E : Value → Shared → Prop), Q (.int (g i) s.toks) { s with toks := s.toks + 1 } → wpAny (model X.prog X.w) X.A (f (.int i t)) Q E s) :
    UnR X f (rU fun i => .int (g i)) := by
  intro pins s σ H x v Q I rx h
  obtain ⟨i, rfl, q⟩ := h
  obtain ⟨t, rfl⟩ := rx
  exact rule i t s _ _ ⟨.int (g i), H, I.tok _, ⟨_, rfl⟩, q⟩
theorem un_neg : UnR X (unaryOp .USub) (rU fun i => .int (-i)) := unI fun _ _ _ _ _ q => neg_int q
end
def scal : V → V → Bool
  | .non, .non => true | .non, .int _ => true | .int _, .non => true | .non, .bl _ => true | .bl _, .non => true | .non, .str _ => true | .str _, .non => true
  | .int _, .int _ => true | .bl _, .bl _ => true | .str _, .str _ => true | .byt _, .byt _ => true
  | .int _, .str _ => true | .str _, .int _ => true | .bl _, .str _ => true | .str _, .bl _ => true
  | _, _ => false
def rEq : R2 := fun x y H Q => scal x y = true ∧ Q (.bl (decide (x = y))) H
def rNe : R2 := fun x y H Q => scal x y = true ∧ Q (.bl (!decide (x = y))) H
theorem dec_int {i j : Int} : decide (V.int i = V.int j) = (i == j) := by
  rw [Bool.eq_iff_iff]
  simp
theorem dec_bl {i j : Bool} : decide (V.bl i = V.bl j) = (i == j) := by
  rw [Bool.eq_iff_iff]
  simp
theorem dec_str {i j : Str} : decide (V.str i = V.str j) = (i == j) := by
  rw [Bool.eq_iff_iff]
  simp
theorem dec_byt {i j : Array UInt8} : decide (V.byt i = V.byt j) = (i.toList == j.toList) := by
  rw [Bool.eq_iff_iff]
  cases i
  cases j
  simp
section
variable {X : Cx} {a b c : Expr} {ta tb tc : TE} {pos : Pos}
theorem fin_bl {pins : List (Addr × Obj)} {σ : St} {H : Hp} {s : Shared} {Q : VK} {k k' : Bool} (I : Inv X pins σ H s) (q : Q (.bl k) H) (e : k = k') : EP X pins σ Q (.bool k') s := by
  subst e
  exact ⟨.bl k, H, I, rfl, q⟩
theorem op_eq : OpR X (compareOp .Eq) rEq := by
  intro pins s σ H x y v u Q I rx ry h
  obtain ⟨hs, q⟩ := h
  cases x with
  | non =>
    cases rx
    cases y with
    | non => cases ry; exact PySem.EqNone.eq_none_none (fin_bl I q (by simp))
    | bl j => cases ry; exact PySem.EqNone.eq_none_bool (fin_bl I q (by simp))
    | int j => obtain ⟨t', rfl⟩ := ry; exact PySem.EqNone.eq_none_int (fin_bl I q (by simp))
    | str j => obtain ⟨t', rfl⟩ := ry; exact PySem.EqNone.eq_none_str (fin_bl I q (by simp))
    | _ => exact absurd (show false = true from hs) Bool.false_ne_true
  | bl i =>
    cases rx
    cases y with
    | non => cases ry; exact PySem.EqNone.eq_bool_none (fin_bl I q (by simp))
    | bl j => cases ry; exact eq_bool (fin_bl I q dec_bl)
    | str j => obtain ⟨t', rfl⟩ := ry; exact PySem.EqMixed.eq_bool_str (fin_bl I q (by simp))
    | _ => exact absurd (show false = true from hs) Bool.false_ne_true
  | int i =>
    obtain ⟨t, rfl⟩ := rx
    cases y with
    | non => cases ry; exact PySem.EqNone.eq_int_none (fin_bl I q (by simp))
    | int j => obtain ⟨t', rfl⟩ := ry; exact eq_int (fin_bl I q dec_int)
    | str j => obtain ⟨t', rfl⟩ := ry; exact PySem.EqMixed.eq_int_str (fin_bl I q (by simp))
    | _ => exact absurd (show false = true from hs) Bool.false_ne_true
  | str i =>
    obtain ⟨t, rfl⟩ := rx
    cases y with
    | non => cases ry; exact PySem.EqNone.eq_str_none (fin_bl I q (by simp))
    | bl j => cases ry; exact PySem.EqMixed.eq_str_bool (fin_bl I q (by simp))
    | int j => obtain ⟨t', rfl⟩ := ry; exact PySem.EqMixed.eq_str_int (fin_bl I q (by simp))
    | str j => obtain ⟨t', rfl⟩ := ry; exact eq_str (fin_bl I q dec_str)
    | _ => exact absurd (show false = true from hs) Bool.false_ne_true
  | byt i =>
    obtain ⟨t, rfl⟩ := rx
    cases y with
    | byt j => obtain ⟨t', rfl⟩ := ry; exact PySem.W.eq_bytes (fin_bl I q dec_byt)
    | _ => exact absurd (show false = true from hs) Bool.false_ne_true
  | _ => cases y <;> exact absurd (show false = true from hs) Bool.false_ne_true
theorem op_ne : OpR X (compareOp .NotEq) rNe := by
  intro pins s σ H x y v u Q I rx ry h
  obtain ⟨hs, q⟩ := h
  cases x with
  | non =>
    cases rx
    cases y with
    | non => cases ry; exact PySem.EqNone.ne_none_none (fin_bl I q (by simp))
    | bl j => cases ry; exact PySem.EqNone.ne_none_bool (fin_bl I q (by simp))
    | int j => obtain ⟨t', rfl⟩ := ry; exact PySem.EqNone.ne_none_int (fin_bl I q (by simp))
    | str j => obtain ⟨t', rfl⟩ := ry; exact PySem.EqNone.ne_none_str (fin_bl I q (by simp))
    | _ => exact absurd (show false = true from hs) Bool.false_ne_true
  | bl i =>
    cases rx
    cases y with
    | non => cases ry; exact PySem.EqNone.ne_bool_none (fin_bl I q (by simp))
    | bl j => cases ry; exact ne_bool (fin_bl I q (congrArg not dec_bl))
    | str j => obtain ⟨t', rfl⟩ := ry; exact PySem.EqMixed.ne_bool_str (fin_bl I q (by simp))
    | _ => exact absurd (show false = true from hs) Bool.false_ne_true
  | int i =>
    obtain ⟨t, rfl⟩ := rx
    cases y with
    | non => cases ry; exact PySem.EqNone.ne_int_none (fin_bl I q (by simp))
    | int j => obtain ⟨t', rfl⟩ := ry; exact ne_int (fin_bl I q (congrArg not dec_int))
    | str j => obtain ⟨t', rfl⟩ := ry; exact PySem.EqMixed.ne_int_str (fin_bl I q (by simp))
    | _ => exact absurd (show false = true from hs) Bool.false_ne_true
  | str i =>
    obtain ⟨t, rfl⟩ := rx
    cases y with
    | non => cases ry; exact PySem.EqNone.ne_str_none (fin_bl I q (by simp))
    | bl j => cases ry; exact PySem.EqMixed.ne_str_bool (fin_bl I q (by simp))
    | int j => obtain ⟨t', rfl⟩ := ry; exact PySem.EqMixed.ne_str_int (fin_bl I q (by simp))
    | str j => obtain ⟨t', rfl⟩ := ry; exact ne_str (fin_bl I q (congrArg not dec_str))
    | _ => exact absurd (show false = true from hs) Bool.false_ne_true
  | byt i =>
    obtain ⟨t, rfl⟩ := rx
    cases y with
    | byt j => obtain ⟨t', rfl⟩ := ry; exact PySem.W.ne_bytes (fin_bl I q (congrArg not dec_byt))
    | _ => exact absurd (show false = true from hs) Bool.false_ne_true
  | _ => cases y <;> exact absurd (show false = true from hs) Bool.false_ne_true
theorem op_lt : OpR X (compareOp .Lt) (rI0 fun i j => .bl (decide (i < j))) := opB0 fun _ _ _ _ _ _ _ q => lt_int q
theorem op_gt : OpR X (compareOp .Gt) (rI0 fun i j => .bl (decide (j < i))) := opB0 fun _ _ _ _ _ _ _ q => gt_int q
theorem op_ge : OpR X (compareOp .GtE) (rI0 fun i j => .bl (decide (j ≤ i))) := opB0 fun _ _ _ _ _ _ _ q => ge_int q
theorem nomark (b : Expr) {op : CmpOp} (h : op ≠ .In := by decide) (h2 : op ≠ .NotIn := by decide) : behindInMarks op b = false := by
  have e1 : (op == CmpOp.In) = false := by cases op <;> first | rfl | exact absurd rfl h
  have e2 : (op == CmpOp.NotIn) = false := by cases op <;> first | rfl | exact absurd rfl h2
  cases b <;> simp [behindInMarks, e1, e2]
theorem pe_cmpR {op : CmpOp} {r : R2} (ho : OpR X (compareOp op) r) (ha : PE X a ta) (hb : PE X b tb) (hm : behindInMarks op b = false) : PE X (.Compare a [op] [b] pos) (tOp r ta tb) := by
  intro pins s σ H Q I h
  exact wpAny_Compare1 (binT ha hb I h fun v u s2 x y H2 I2 rx ry q => ho pins s2 σ H2 x y v u Q I2 rx ry q) hm
def tTest (t : TE) : TT := fun σ H Q => t σ H fun x H' => ∃ k, x = .bl k ∧ Q k H'
theorem pt_cmpR {op : CmpOp} {r : R2} (ho : OpR X (compareOp op) r) (ha : PE X a ta) (hb : PE X b tb) (hm : behindInMarks op b = false) : PT X (.Compare a [op] [b] pos) (tTest (tOp r ta tb)) := by
  intro pins s σ H Q I h
  refine wpAny_isTrue_Compare1 (thn (ha pins s σ H _ I h) fun v s1 ⟨x, H1, I1, r1, q1⟩ => thn (hb pins s1 σ H1 _ I1 q1) fun u s2 ⟨y, H2, I2, r2, q2⟩ =>
    thn (ho pins s2 σ H2 x y v u _ I2 r1 r2 q2) fun c s3 ⟨z, H3, I3, r3, k, e, q3⟩ => ?_) hm
  subst e
  cases r3
  exact wpAny_truthy_bool ⟨H3, I3, q3⟩
def tChain (r r' : R2) (ta tb tc : TE) : TE := fun σ H Q => ta σ H fun x H1 => tb σ H1 fun y H2 => r x y H2 fun z H3 => ∃ k, z = .bl k ∧
  (if k = true then tc σ H3 fun w' H4 => r' y w' H4 Q else Q (.bl false) H3)
theorem pt_chain {op op' : CmpOp} {r r' : R2} (ho : OpR X (compareOp op) r) (ho' : OpR X (compareOp op') r') (ha : PE X a ta) (hb : PE X b tb) (hc : PE X c tc)
    (hm : lastMarks [op, op'] [b, c] = false := by with_unfolding_all rfl) : PT X (.Compare a [op, op'] [b, c] pos) (tTest (tChain r r' ta tb tc)) := by
  intro pins s σ H Q I h
  refine isTrue_chain (thn (ha pins s σ H _ I h) fun v s1 ⟨x, H1, I1, r1, q1⟩ => test_link (thn (hb pins s1 σ H1 _ I1 q1) fun u s2 ⟨y, H2, I2, r2, q2⟩ =>
    thn (ho pins s2 σ H2 x y v u _ I2 r1 r2 q2) fun d s3 ⟨z, H3, I3, r3, k, e, q3⟩ => ?_)) hm
  subst e
  cases r3
  refine wpAny_truthy_bool ?_
  cases k with
  | false =>
    obtain ⟨k', e', q'⟩ := q3
    cases e'
    exact ite_ff ⟨H3, I3, q'⟩
  | true =>
    refine ite_tt (test_last (thn (hc pins s3 σ H3 _ I3 q3) fun w' s4 ⟨z', H4, I4, r4, q4⟩ => thn (ho' pins s4 σ H4 y z' u w' _ I4 r2 r4 q4) fun d' s5 ⟨z2, H5, I5, r5, k2, e2, q5⟩ => ?_))
    subst e2
    cases r5
    exact wpAny_truthy_bool ⟨H5, I5, q5⟩
theorem line63 : (sizeLine : Nat) < 2 ^ 63 := by rw [sizeLine_eq]; decide
theorem op_add_str : OpR X (binaryOp .Add) (fun x y H Q => ∃ i j, x = .str i ∧ y = .str j ∧ i.length + j.length ≤ sizeLine ∧ Q (.str (i ++ j)) H) := by
  intro pins s σ H x y v u Q I rx ry h
  obtain ⟨i, j, rfl, rfl, hz, q⟩ := h
  obtain ⟨t, rfl⟩ := rx
  obtain ⟨t', rfl⟩ := ry
  exact add_str (fun t' tk => ⟨.str (i ++ j), H, I.tok _, ⟨_, rfl⟩, q⟩) hz
theorem vals1 {x : V} {us : List Value} (r : Vals [x] us) : ∃ u, us = [u] ∧ RelV x u := by
  cases r with
  | cons r1 r2 => cases r2; exact ⟨_, rfl, r1⟩
theorem vals2 {x y : V} {us : List Value} (r : Vals [x, y] us) : ∃ u w', us = [u, w'] ∧ RelV x u ∧ RelV y w' := by
  cases r with
  | cons r1 r2 =>
    cases r2 with
    | cons r3 r4 => cases r4; exact ⟨_, _, rfl, r1, r3⟩
theorem call_max2 (hc : X.calm = true) : CallR X (.builtin "max") (fun xs H Q => ∃ i j, xs = [.int i, .int j] ∧ Q (.int (if j > i then j else i)) H) := by
  intro pins s σ H xs us Q I r h
  obtain ⟨i, j, rfl, q⟩ := h
  obtain ⟨u, w', rfl, ⟨t, rfl⟩, ⟨t', rfl⟩⟩ := vals2 r
  refine max_two_ints (I.ok.hd hc) fun h' tk k => ⟨_, H, I.kept k, ?_, q⟩
  by_cases hj : j > i
  · rw [if_pos hj, if_pos hj]; exact ⟨_, rfl⟩
  · rw [if_neg hj, if_neg hj]; exact ⟨_, rfl⟩
theorem call_min2 (hc : X.calm = true) : CallR X (.builtin "min") (fun xs H Q => ∃ i j, xs = [.int i, .int j] ∧ Q (.int (if j < i then j else i)) H) := by
  intro pins s σ H xs us Q I r h
  obtain ⟨i, j, rfl, q⟩ := h
  obtain ⟨u, w', rfl, ⟨t, rfl⟩, ⟨t', rfl⟩⟩ := vals2 r
  refine min_two_ints (I.ok.hd hc) fun h' tk k => ⟨_, H, I.kept k, ?_, q⟩
  by_cases hj : j < i
  · rw [if_pos hj, if_pos hj]; exact ⟨_, rfl⟩
  · rw [if_neg hj, if_neg hj]; exact ⟨_, rfl⟩
theorem call_int1 : CallR X (.type "int") (fun xs H Q => (∃ i, xs = [.int i] ∧ Q (.int i) H) ∨ ∃ k, xs = [.bl k] ∧ Q (.int (if k then 1 else 0)) H) := by
  intro pins s σ H xs us Q I r h
  rcases h with ⟨i, rfl, q⟩ | ⟨k, rfl, q⟩
  · obtain ⟨u, rfl, t, rfl⟩ := vals1 r
    exact call_int_int ⟨.int i, H, I, ⟨_, rfl⟩, q⟩
  · obtain ⟨u, rfl, r1⟩ := vals1 r
    cases r1
    exact call_int_bool ⟨.int (if k then 1 else 0), H, I.tok _, ⟨_, rfl⟩, q⟩
end
end L2
namespace L2
open PySem PySem.Spec PyProof.Rows
structure ObjM (h : Heap) (x dx C : Addr) (mA : Str → Option Value) : Prop where
  obj : h.get? x = some (PySem.W.instObj C dx)
  ns : h.Ns1 dx mA
  ne : dx ≠ x
theorem lookIn_ns {h : Heap} {dx : Addr} {mA : Str → Option Value} (n : h.Ns1 dx mA) : ∃ od, h.get? dx = some od ∧ ∀ name, PySem.W.lookIn name od = some (mA name) := by
  obtain ⟨o, es, ep, ho, hd, hk, _, hm⟩ := n
  refine ⟨o, ho, fun name => ?_⟩
  have e := hm name
  unfold nsFind findBy at e
  rw [← Array.find?_toList] at e
  unfold PySem.W.lookIn
  rw [hd]
  dsimp only
  split
  · rename_i y q
    rw [q] at e
    exact congrArg some e
  · rename_i q
    rw [q] at e
    have a : es.toList.any (·.refKey) = false := by
      rw [List.any_eq_false]
      intro y hy
      obtain ⟨z, t, hkey⟩ := hk y (Array.mem_toList_iff.mp hy)
      simp [DictEntry.refKey, hkey]
    have a' : ¬ es.toList.any (·.refKey) = true := by rw [a]; exact Bool.false_ne_true
    rw [if_neg a']
    exact congrArg some e
theorem ObjM.look {h : Heap} {x dx C : Addr} {mA : Str → Option Value} (I : ObjM h x dx C mA) : ∃ od, PySem.W.InstAt h x (PySem.W.instObj C dx) C (some od) ∧ ∀ name, PySem.W.lookIn name od = some (mA name) :=
  let ⟨od, ho, hl⟩ := lookIn_ns I.ns
  ⟨od, ⟨I.obj, rfl, rfl, ho⟩, hl⟩
section
variable {prog : Program} {w : World} {A : Around} {E : Value → Shared → Prop} {s : Shared} {K : PySem.W.Frag} {x dx C f : Addr} {mA : Str → Option Value} {name : Str} {v : Value}
theorem get_map {expr : Bool} {Q : Value → Shared → Prop} (X : K.In s.heap) (I : ObjM s.heap x dx C mA) (hg : PySem.W.plainGet K C name = true) (hh : PySem.W.hasDictIn K C = true)
    (ha : PySem.W.findIn K (.ref C) name = some none) (hv : mA name = some v) (hv' : PySem.W.handedIn v = true) (h : Q v { s with toks := s.toks + 1 }) :
    wpAny (model prog w) A (getAttr (.ref x) name expr) Q E s := by
  obtain ⟨od, J, hl⟩ := I.look
  exact PySem.W.get_value X J (PySem.W.plainGet_of hg).1 (PySem.W.findObj_own hh ha rfl (by rw [hl, hv])) hv' h
theorem get_meth {pl : Sem Bool} {Q : Value × List Value → Shared → Prop} (X : K.In s.heap) (I : ObjM s.heap x dx C mA) (hg : PySem.W.plainGet K C name = true)
    (hf : PySem.W.findIn K (.ref C) name = some (some (.ref f))) (ht : PySem.W.isFn K (.ref f) = true) (hv : mA name = none) (h : Q (.ref f, [.ref x]) s) :
    wpAny (model prog w) A (getMethod (.ref x) name pl) Q E s := by
  obtain ⟨od, J, hl⟩ := I.look
  exact PySem.W.method_fn X J (PySem.W.plainGet_of hg).1 (PySem.W.plainGet_of hg).2 hf (beq_iff_eq.mp ht) (by show (PySem.W.lookIn name od).map (·.isSome) = some false; rw [hl, hv]; rfl) h
theorem set_map {ns : List Str} {Q : Unit → Shared → Prop} (X : K.In s.heap) (I : ObjM s.heap x dx C mA)
    (hs : PySem.W.findIn K (.ref C) "__setattr__" = some (some (.builtin "object.__setattr__"))) (hp : PySem.W.plainOver K C = true) (ht : PySem.W.takerIn K C name = some none) (hh : PySem.W.hasDictIn K C = true)
    (hw : PySem.Within mA ns) (hsz : ns.length ≤ sizeLine)
    (h : ∀ h', ObjM h' x dx C (fun y => if y = name then some v else mA y) → Heap.SameBut dx s.heap h' → Q () { s with heap := h', toks := s.toks + 2 }) :
    wpAny (model prog w) A (setAttr (.ref x) name v) Q E s := by
  obtain ⟨od, J, hl⟩ := I.look
  refine PySem.W.set_plain X J hs (PySem.W.osa_open (s := { s with toks := s.toks + 1 }) (r := none) X J hp ht fun b => ?_)
  obtain ⟨cd, hc, hd'⟩ := PySem.W.any_some hh
  have hx : s.heap.get? x = some ⟨.ref C, some dx, .plain, #[]⟩ := I.obj
  refine wpAny_bind (wpAny_pure (wpAny_bind (wpAny_bind (wpAny_loadPart hx (wpAny_bind (PySem.W.Looks.here (s := { s with toks := s.toks + 1 }) (PySem.W.looks_clsIn X hc) ?_))))))
  rw [hd']
  refine wpAny_pure (a := some dx) (wpAny_bind (wpAny_pure (wpAny_bind ?_)))
  refine wpAny_nsSet1 (s := { s with toks := s.toks + 1 }) I.ns fun h' hn2 hs2 => ?_
  obtain ⟨oD, esD, epD, hoD, hdD, hcD⟩ := hn2.count (PySem.Within.cons name v hw)
  refine wpAny_bind (wpAny_lookBehind hoD (by rw [hdD]; exact pastItsLine_dict (Nat.le_trans hcD (by rw [List.length_cons]; lia))) ?_)
  exact wpAny_pure (h _ ⟨(hs2.2 _ (Ne.symm I.ne)).trans I.obj, hn2, I.ne⟩ hs2)
theorem make_map {R : Result → Shared → Prop} {vs : List Value} {kw : List (Str × Value)} (X : K.In s.heap) (hm : PySem.W.makesIn K C = true)
    (hi : PySem.W.findIn K (.ref C) "__init__" = some (some (.ref f))) (hf : PySem.W.typeIn K (.ref f) = some (.type "function"))
    (h : codeAny (model prog w) (A.under (.builtin "type.__call__" ⟨.ref C :: vs, kw⟩)) (.call (.ref f) ⟨.ref (s.heap.objs.size + 1) :: vs, kw⟩) (PySem.W.InitBack (s.heap.objs.size + 1) R)
      { s with heap := (s.heap.push PySem.W.emptyDict).push (PySem.W.instObj C s.heap.objs.size) }) :
    codeAny (model prog w) A (.call (.ref C) ⟨vs, kw⟩) R s := by
  obtain ⟨hh, g, d, t, os⟩ := s
  exact PySem.W.make_core (PySem.W.makes_of X hm) (PySem.W.looks_findIn X hi) (fun self => PySem.W.bind_fn X self hf) (.inl rfl) h
end
def putF (f : Str) (v : V) : List (Str × V) → List (Str × V)
  | [] => [(f, v)]
  | (g, x) :: r => if g = f then (g, v) :: r else (g, x) :: putF f v r
theorem lookup_putF (f g : Str) (v : V) : ∀ fs : List (Str × V), (putF f v fs).lookup g = if g = f then some v else fs.lookup g
  | [] => by
    show List.lookup g [(f, v)] = _
    by_cases h : g = f
    · have hb : (g == f) = true := beq_iff_eq.mpr h
      simp only [List.lookup, hb, if_pos h]
    · have hb : (g == f) = false := beq_eq_false_iff_ne.mpr h
      simp only [List.lookup, hb, if_neg h]
  | (k, x) :: r => by
    have ih := lookup_putF f g v r
    rw [show putF f v ((k, x) :: r) = (if k = f then (k, v) :: r else (k, x) :: putF f v r) from rfl]
    by_cases hk : k = f
    · rw [if_pos hk]
      by_cases h : g = k
      · have hb : (g == k) = true := beq_iff_eq.mpr h
        simp only [List.lookup, hb, if_pos (h.trans hk)]
      · have hb : (g == k) = false := beq_eq_false_iff_ne.mpr h
        simp only [List.lookup, hb, if_neg (fun e : g = f => h (e.trans hk.symm))]
    · rw [if_neg hk]
      by_cases h : g = k
      · have hb : (g == k) = true := beq_iff_eq.mpr h
        simp only [List.lookup, hb, if_neg (fun e : g = f => hk (h.symm.trans e))]
      · have hb : (g == k) = false := beq_eq_false_iff_ne.mpr h
        simp only [List.lookup, hb]
        exact ih
theorem keys_putF (f : Str) (v : V) : ∀ fs : List (Str × V), f ∈ (putF f v fs).map (·.1) ∧ ∀ g, g ∈ fs.map (·.1) → g ∈ (putF f v fs).map (·.1)
  | [] => ⟨by simp [putF], fun g h => by simp at h⟩
  | (k, x) :: r => by
    obtain ⟨i1, i2⟩ := keys_putF f v r
    rw [show putF f v ((k, x) :: r) = (if k = f then (k, v) :: r else (k, x) :: putF f v r) from rfl]
    by_cases hk : k = f
    · rw [if_pos hk]
      subst hk
      exact ⟨by simp, fun g h => by simpa using h⟩
    · rw [if_neg hk]
      refine ⟨?_, fun g h => ?_⟩
      · rw [List.map_cons]
        exact List.mem_cons_of_mem _ i1
      · rw [List.map_cons] at h ⊢
        rcases List.mem_cons.mp h with e | e
        · exact List.mem_cons.mpr (.inl e)
        · exact List.mem_cons_of_mem _ (i2 g e)
theorem length_putF (f : Str) (v : V) : ∀ fs : List (Str × V), (putF f v fs).length ≤ fs.length + 1
  | [] => by simp [putF]
  | (k, x) :: r => by
    have ih := length_putF f v r
    rw [show putF f v ((k, x) :: r) = (if k = f then (k, v) :: r else (k, x) :: putF f v r) from rfl]
    by_cases hk : k = f
    · rw [if_pos hk, List.length_cons, List.length_cons]; lia
    · rw [if_neg hk, List.length_cons, List.length_cons]; lia
theorem RelO.some_of {v : V} {o : Option Value} (r : RelO (some v) o) : ∃ u, o = some u ∧ RelV v u := by
  cases o with
  | none => exact (show False from r).elim
  | some u => exact ⟨u, rfl, r⟩
theorem RelO.none_of {o : Option Value} (r : RelO none o) : o = none := by
  cases o with
  | none => rfl
  | some u => exact (show False from r).elim
theorem handed_of {v : V} {u : Value} (r : RelV v u) : PySem.W.handedIn u = true := by
  cases v with
  | non => cases (show u = Value.none from r); rfl
  | bl b => cases (show u = Value.bool b from r); rfl
  | int i => obtain ⟨t, e⟩ := (show ∃ t, u = Value.int i t from r); cases e; rfl
  | str x => obtain ⟨t, e⟩ := (show ∃ t, u = Value.str x t from r); cases e; rfl
  | byt b => obtain ⟨t, e⟩ := (show ∃ t, u = Value.bytes b t from r); cases e; rfl
  | flt b => obtain ⟨t, e⟩ := (show ∃ t, u = Value.float b t from r); cases e; rfl
  | ref a => cases (show u = Value.ref a from r); rfl
  | ty n => cases (show u = Value.type n from r); rfl
section
variable {P : Program} {w : World} {H H' : Hp} {h h' : Heap} {a C dx : Addr} {fs fs' : List (Str × V)}
theorem ins_get (hok : HOk P w H h) (e : H a = some (.ins C dx fs)) : ∃ mA, ObjM h a dx C mA ∧ (∀ f, RelO (fs.lookup f) (mA f)) ∧ PySem.Within mA (fs.map (·.1)) ∧ fs.length ≤ 1000 ∧ H dx = some (.own a) := by
  obtain ⟨d, z, ne, ob, mA, n, r, q⟩ := (show ObjOk P w H h a (.ins C dx fs) from hok a _ e)
  exact ⟨mA, ⟨ob, n, ne⟩, r, q, z, d⟩
end
structure Cls (K : PySem.W.Frag) (C : Addr) : Prop where
  pg : PySem.W.plainGet K C Str.empty = true
  hd : PySem.W.hasDictIn K C = true
  po : PySem.W.plainOver K C = true
  sa : PySem.W.findIn K (.ref C) "__setattr__" = some (some (.builtin "object.__setattr__"))
theorem Cls.get {K : PySem.W.Frag} {C : Addr} (c : Cls K C) (f : Str) : PySem.W.plainGet K C f = true := c.pg
def NoAttr (K : PySem.W.Frag) (C : Addr) (f : Str) : Prop := PySem.W.findIn K (.ref C) f = some none
theorem NoAttr.taker {K : PySem.W.Frag} {C : Addr} {f : Str} (n : NoAttr K C f) : PySem.W.takerIn K C f = some none := by
  unfold PySem.W.takerIn
  rw [show PySem.W.findIn K (.ref C) f = some none from n]
  rfl
structure Meth (K : PySem.W.Frag) (C : Addr) (m : Str) (f : Addr) : Prop where
  at_ : PySem.W.findIn K (.ref C) m = some (some (.ref f))
  fn : PySem.W.isFn K (.ref f) = true
  kp : PySem.W.keepIn K (.ref f) = true
section
variable {X : Cx} {pins : List (Addr × Obj)} {σ : St} {H : Hp} {s : Shared} {a C dx : Addr} {fs : List (Str × V)} {f : Str} {v : V} {A : Around} {E : Value → Shared → Prop}
theorem getattr_ok {b : Bool} {Q : Value → Shared → Prop} (I : Inv X pins σ H s) (e : H a = some (.ins C dx fs)) (c : Cls X.K C) (n : NoAttr X.K C f) (l : fs.lookup f = some v)
    (h : ∀ u s', Inv X pins σ H s' → RelV v u → Q u s') : wpAny (model X.prog X.w) A (getAttr (.ref a) f b) Q E s := by
  obtain ⟨mA, O, r, _, _, _⟩ := ins_get I.hok e
  obtain ⟨u, hu, ru⟩ := RelO.some_of (v := v) (o := mA f) (by rw [← l]; exact r f)
  exact get_map I.kIn O (c.get f) c.hd n hu (handed_of ru) (h u _ (I.tok _) ru)
theorem getmeth_ok {m : Str} {g : Addr} {pl : Sem Bool} {Q : Value × List Value → Shared → Prop} (I : Inv X pins σ H s) (e : H a = some (.ins C dx fs)) (c : Cls X.K C) (k : Meth X.K C m g) (l : fs.lookup m = none)
    (h : Q (.ref g, [.ref a]) s) : wpAny (model X.prog X.w) A (getMethod (.ref a) m pl) Q E s := by
  obtain ⟨mA, O, r, _, _, _⟩ := ins_get I.hok e
  have hn : mA m = none := RelO.none_of (by rw [← l]; exact r m)
  exact get_meth I.kIn O (c.get m) k.at_ k.fn hn h
theorem setattr_ok {y : V} {u : Value} {Q : Unit → Shared → Prop} (I : Inv X pins σ H s) (e : H a = some (.ins C dx fs)) (c : Cls X.K C) (n : NoAttr X.K C f) (hl : fs.length < 1000) (ry : RelV y u)
    (h : ∀ s', Inv X pins σ (upd H a (.ins C dx (putF f y fs))) s' → Q () s') : wpAny (model X.prog X.w) A (setAttr (.ref a) f u) Q E s := by
  obtain ⟨mA, O, r, wi, _, ho⟩ := ins_get I.hok e
  have hz : (fs.map (·.1)).length ≤ sizeLine := by rw [List.length_map, sizeLine_eq]; lia
  refine set_map I.kIn O c.sa c.po n.taker c.hd wi hz fun h' O' sb => h _ ?_
  have hd : ∃ o, h'.get? dx = some o := let ⟨o, _, _, e', _⟩ := O'.ns; ⟨o, e'⟩
  refine I.write (x := a) (e := dx) (by rw [e]; exact True.intro) (.inr ho) (fun b q hb z => (sb.2 b hb).trans z) hd ?_
  refine ⟨by rw [upd_ne O.ne]; exact ho, ?_, O.ne, O'.obj, _, O'.ns, fun g => ?_, fun g hg => ?_⟩
  · have := length_putF f y fs; lia
  · show RelO ((putF f y fs).lookup g) (if g = f then some u else mA g)
    rw [lookup_putF]
    by_cases q : g = f
    · rw [if_pos q, if_pos q]; exact ry
    · rw [if_neg q, if_neg q]; exact r g
  · by_cases q : g = f
    · rw [q]; exact (keys_putF f y fs).1
    · refine (keys_putF f y fs).2 g (wi g fun z => hg ?_)
      show (if g = f then some u else mA g) = none
      rw [if_neg q]; exact z
theorem Inv.made (I : Inv X pins σ H s) : Inv X pins σ (upd (upd H s.heap.objs.size (.own (s.heap.objs.size + 1))) (s.heap.objs.size + 1) (.ins C s.heap.objs.size []))
    { s with heap := (s.heap.push PySem.W.emptyDict).push (PySem.W.instObj C s.heap.objs.size) } := by
  have e1 : (s.heap.push PySem.W.emptyDict).get? s.heap.objs.size = some PySem.W.emptyDict := Heap.get?_push_size s.heap rfl
  have e2 : ((s.heap.push PySem.W.emptyDict).push (PySem.W.instObj C s.heap.objs.size)).get? (s.heap.objs.size + 1) = some (PySem.W.instObj C s.heap.objs.size) := by
    have := Heap.get?_push_size (s.heap.push PySem.W.emptyDict) (o := PySem.W.instObj C s.heap.objs.size) rfl
    rwa [Heap.size_push] at this
  have e3 : (s.heap.push PySem.W.emptyDict).Ns s.heap.objs.size (fun _ => none) := ⟨PySem.W.emptyDict, #[], _, e1, rfl, (fun e he => absurd he (by simp)), fun _ => rfl⟩
  have I1 := I.laid (a := s.heap.objs.size) (o := .own (s.heap.objs.size + 1)) (h' := s.heap.push PySem.W.emptyDict) (t' := s.toks) (fun b u q => Heap.get?_push_of_some _ q) (Nat.le_refl _) ⟨_, e1⟩
  refine I1.laid (a := s.heap.objs.size + 1) (o := .ins C s.heap.objs.size []) (t' := s.toks) (fun b u q => Heap.get?_push_of_some _ q) (Nat.le_of_eq (Heap.size_push _ _)) ?_
  have ne : s.heap.objs.size ≠ s.heap.objs.size + 1 := Nat.ne_of_lt (Nat.lt_succ_self _)
  refine ⟨by rw [upd_ne ne, upd_same], Nat.zero_le _, ne, e2, fun _ => none, (Heap.Ns1.of_empty e3).at fun o q => Heap.get?_push_of_some _ q, fun _ => True.intro, fun y hy => absurd rfl hy⟩
theorem attr_of {prog : Program} {w : World} {env : Env} {e : Expr} {f : Str} {pos : Pos} {s : Shared} {Q : Value → Shared → Prop} (hb : attributeBase e f env (eval e env) = eval e env)
    (h : wpAny (model prog w) A (eval e env) (fun o s₁ => wpAny (model prog w) A (getAttr o f true) Q E s₁) E s) : wpAny (model prog w) A (eval (.Attribute e f pos) env) Q E s :=
  Attribute_any_ h (by rw [arm_eval_Attribute, hb])
end
def tFld (K : PySem.W.Frag) (ta : TE) (f : Str) : TE := fun σ H Q => ta σ H fun x H1 => ∃ a C dx fs v, x = .ref a ∧ H1 a = some (.ins C dx fs) ∧ Cls K C ∧ NoAttr K C f ∧ fs.lookup f = some v ∧ Q v H1
def sFld (K : PySem.W.Frag) (ta tv : TE) (f : Str) : TS := fun D σ H => tv σ H fun y H1 => ta σ H1 fun x H2 => ∃ a C dx fs, x = .ref a ∧ H2 a = some (.ins C dx fs) ∧ Cls K C ∧ NoAttr K C f ∧ fs.length < 1000 ∧
  D.nx σ (upd H2 a (.ins C dx (putF f y fs)))
section
variable {X : Cx} {o e value : Expr} {f : Str} {pos pos' tpos : Pos} {ta tv : TE}
theorem pe_fld (he : PE X e ta) (hb : attributeBase e f X.env (eval e X.env) = eval e X.env) : PE X (.Attribute e f pos) (tFld X.K ta f) := by
  intro pins s σ H Q I h
  refine attr_of hb (thn (he pins s σ H _ I h) fun u s1 ⟨x, H1, I1, rx, a, C, dx, fs, v, ex, ea, c, n, l, q⟩ => ?_)
  subst ex
  obtain rfl : u = Value.ref a := rx
  exact getattr_ok I1 ea c n l fun u' s2 I2 ru => ⟨v, H1, I2, ru, q⟩
theorem ps_fld (ha : PE X o ta) (hv : PE X value tv) (hs : swapsWith value (some (.Attribute o f pos')) pos.line X.env = pure false) : PS X (.Assign [.Attribute o f pos'] value pos) (sFld X.K ta tv f) := by
  intro pins s σ H D I h
  refine plainObj_wpAny_Assign_Attribute (thn (hv pins s σ H _ I h) fun u s1 ⟨y, H1, I1, ry, q⟩ => thn (ha pins s1 σ H1 _ I1 q) fun ov s2 ⟨x, H2, I2, rx, a, C, dx, fs, ex, ea, c, n, l, q2⟩ => ?_) hs
  subst ex
  obtain rfl : ov = Value.ref a := rx
  exact setattr_ok I2 ea c n l ry fun s3 I3 => ⟨σ, _, I3, q2⟩
end
section
variable {X : Cx} {pins : List (Addr × Obj)} {σ : St} {H : Hp} {s : Shared} {A : Around} {E : Value → Shared → Prop} {Q : Value → Shared → Prop} {c : Value} {b : Bool}
end
end L2
namespace L2
open PySem PySem.Spec PyProof.Rows
structure Room (k : Nat) (A : Around) : Prop where
  hd : A.handled = none
  dp : A.depth + 3 * k + 5 < recursionLimit
  un : A.units + 16 * k + 200 < cLine
theorem Room.mono {j k : Nat} {A : Around} (r : Room k A) (h : j ≤ k) : Room j A := ⟨r.hd, by have := r.dp; lia, by have := r.un; lia⟩
theorem Room.deeper {k : Nat} {A : Around} (r : Room (k + 1) A) (env : Env) : Room k (A.deeper env) :=
  ⟨r.hd, by have := r.dp; show A.depth + 1 + 3 * k + 5 < _; lia, by have := r.un; show A.units + 3 + 16 * k + 200 < _; lia⟩
theorem make_depth {A : Around} {C : Addr} {us : List Value} {kw : List (Str × Value)} : (A.under (.builtin "type.__call__" ⟨.ref C :: us, kw⟩)).depth = A.depth + 1 := by
  first | rfl | simp [Around.under, Code.weight, Code.isCreation, Code.isGuard, Code.isCaller, Code.frames, Code.isFrame, guardIds]
theorem make_units {A : Around} {C : Addr} {us : List Value} {kw : List (Str × Value)} : (A.under (.builtin "type.__call__" ⟨.ref C :: us, kw⟩)).units = A.units + 1 := by
  first | rfl | simp [Around.under, Code.cUnits, Code.frames, Code.isFrame]
theorem Room.make {k : Nat} {A : Around} (r : Room (k + 1) A) (C : Addr) (us : List Value) (kw : List (Str × Value)) : Room k (A.under (.builtin "type.__call__" ⟨.ref C :: us, kw⟩)) :=
  ⟨r.hd, by have := r.dp; rw [make_depth]; lia, by have := r.un; rw [make_units]; lia⟩
theorem Room.depth {k : Nat} {A : Around} (r : Room k A) : A.depth < recursionLimit := by have := r.dp; lia
theorem Room.units {k : Nat} {A : Around} (r : Room k A) : A.units + 64 < cLine := by have := r.un; lia
theorem Room.units0 {k : Nat} {A : Around} (r : Room k A) : A.units < cLine := by have := r.un; lia
def tNil : TA := fun _ H Q => Q [] H
def tCons (ta : TE) (tr : TA) : TA := fun σ H Q => ta σ H fun x H1 => tr σ H1 fun xs H2 => Q (x :: xs) H2
section
variable {X : Cx} {e : Expr} {es : List Expr} {te : TE} {t : TA} {pos : Pos}
theorem pa_nil : PA X [] tNil := fun _ _ _ _ H Q I h => Calls.spliced_nil ⟨[], H, I, .nil, h⟩
theorem pa_cons (ha : PE X e te) (hr : PA X es t) (hs : starEach (e :: es) X.env = (false, eval e X.env) :: starEach es X.env := by rfl) : PA X (e :: es) (tCons te t) := by
  intro pos pins s σ H Q I h
  rw [hs]
  show wpAny _ _ (spliced ((false, eval e X.env) :: backTo pos (starEach es X.env))) _ _ s
  refine Calls.spliced_cons (thn (ha pins s σ H _ I h) fun u s1 ⟨x, H1, I1, r1, q1⟩ => ?_)
  exact thn (hr pos pins s1 σ H1 _ I1 q1) fun us s2 ⟨xs, H2, I2, r2, q2⟩ => ⟨x :: xs, H2, I2, .cons r1 r2, q2⟩
def tTup (t : TA) : TE := fun σ H Q => t σ H fun xs H1 => xs.length ≤ sizeLine ∧ ∀ p, H1 p = none → Q (.ref p) (upd H1 p (.tup xs))
def tLst (t : TA) : TE := fun σ H Q => t σ H fun xs H1 => xs.length ≤ sizeLine ∧ ∀ p, H1 p = none → Q (.ref p) (upd H1 p (.lst xs))
theorem pe_tup {x1} (h : PA X es t) : PE X (.Tuple es x1 pos) (tTup t) := by
  intro pins s σ H Q I hq
  refine wpAny_Tuple_spliced (thn (h pos pins s σ H _ I hq) fun us s1 ⟨xs, H1, I1, r, z, q⟩ => ⟨by rw [← r.length]; exact z, ?_⟩)
  have hf : H1 s1.heap.objs.size = none := I1.hok.fresh (Nat.le_refl _)
  refine ⟨.ref s1.heap.objs.size, upd H1 s1.heap.objs.size (.tup xs), I1.laid (t' := s1.toks) (fun b u e => Heap.get?_push_of_some _ e) (Nat.le_refl _) ?_, rfl, q _ hf⟩
  exact ⟨z, us, r, ⟨_, Heap.get?_push_size _ rfl, rfl, _, rfl⟩⟩
theorem pe_lst (h : PA X es t) : PE X (.List es pos) (tLst t) := by
  intro pins s σ H Q I hq
  refine wpAny_List_spliced (thn (h pos pins s σ H _ I hq) fun us s1 ⟨xs, H1, I1, r, z, q⟩ => ⟨by rw [← r.length]; exact z, ?_⟩)
  have hf : H1 s1.heap.objs.size = none := I1.hok.fresh (Nat.le_refl _)
  refine ⟨.ref s1.heap.objs.size, upd H1 s1.heap.objs.size (.lst xs), I1.laid (t' := s1.toks) (fun b u e => Heap.get?_push_of_some _ e) (Nat.le_refl _) ?_, rfl, q _ hf⟩
  exact ⟨z, us, 0, r, Heap.get?_push_size _ rfl⟩
end
abbrev Sp := List V → Hp → VK → XK → Prop
abbrev CXT := List Env → Hp → Shared → XK → Value → Shared → Prop
structure Env0 (P : Program) (w : World) (K : PySem.W.Frag) (mg : Str → Option Value) (base : Heap) (A : Around) (outer : List Env) (s : Shared) (H : Hp) : Prop where
  frames : A.frames = some outer
  mod : Mod K mg base
  bs : ∀ b o, base.get? b = some o → s.heap.get? b = some o ∧ H b = none
  bsz : base.objs.size ≤ s.heap.objs.size
  funs : s.heap.FunFrames base outer
  frf : ∀ b ∈ frs outer, H b = none
  hok : HOk P w H s.heap
  bare : AllBare s.gens
def CE (outer : List Env) (P : Program) (w : World) (H : Hp) (s : Shared) (Q : VK) (u : Value) (s' : Shared) : Prop :=
  ∃ v H', s'.os = s.os ∧ AllBare s'.gens ∧ Un (frs outer) [] H H' s.heap s'.heap ∧ HOk P w H' s'.heap ∧ RelV v u ∧ Q v H'
def CR (CX : CXT) (outer : List Env) (P : Program) (w : World) (H : Hp) (s : Shared) (Q : VK) (E : XK) (r : Result) (s' : Shared) : Prop :=
  match r with
  | .ok (.ret u) => CE outer P w H s Q u s'
  | .ok _ => False
  | .error e => CX outer H s E e s'
structure FnOk (P : Program) (w : World) (K : PySem.W.Frag) (mg : Str → Option Value) (base : Heap) (CX : CXT) (k : Nat) (f : Addr) (fd : FuncData) (ps : List Str) (sp : Sp) : Prop where
  len : ∀ vs H Q E, sp vs H Q E → vs.length = ps.length
  run : ∀ (A : Around) (outer : List Env) (s : Shared) (H : Hp) (args : Args) (us : List Value) (vs : List V) (Q : VK) (E : XK), Room k A → Env0 P w K mg base A outer s H → BindsTo s fd args (ps.zip us) → Vals vs us → sp vs H Q E →
    codeAny (model P w) A (.call (.ref f) args) (CR CX outer P w H s Q E) s
theorem Env0.make {P : Program} {w : World} {K : PySem.W.Frag} {mg : Str → Option Value} {base : Heap} {A : Around} {outer : List Env} {s : Shared} {H : Hp} (e : Env0 P w K mg base A outer s H) (C : Addr) (us : List Value) (kw : List (Str × Value)) :
    Env0 P w K mg base (A.under (.builtin "type.__call__" ⟨.ref C :: us, kw⟩)) outer s H := ⟨by first | exact e.frames | (simpa [Around.under, Code.envs, Code.isFrame, pushEnvs] using e.frames), e.mod, e.bs, e.bsz, e.funs, e.frf, e.hok, e.bare⟩
section
variable {X : Cx} {pins : List (Addr × Obj)} {σ : St} {H : Hp} {s s' : Shared}
theorem Inv.env0 (I : Inv X pins σ H s) : Env0 X.prog X.w X.K X.mg X.base X.A X.stack s H :=
  ⟨I.ok.frames, I.ok.mod, I.bs, Nat.le_trans I.ok.bsz I.sz, I.stack, I.stkFree, I.hok, I.bare⟩
theorem Inv.after {Q : VK} {u : Value} (I : Inv X pins σ H s) (h : CE X.stack X.prog X.w H s Q u s') : EP X pins σ Q u s' := by
  obtain ⟨v, H', os, bare, un, hok, r, q⟩ := h
  obtain ⟨hh, g, d, t, os'⟩ := s'
  obtain rfl : os' = s.os := os
  exact ⟨v, H', I.call (h' := hh) (g' := g) (d' := d) (t' := t) (ch := []) un hok bare (fun b z => absurd z (by simp)), r, q⟩
end
def tCall (sp : Sp) (dvs : List V) (E : XK) (t : TA) : TE := fun σ H Q => t σ H fun vs H1 => sp (vs ++ dvs) H1 Q E
def tMeth (C : Addr) (m : Str) (sp : Sp) (dvs : List V) (E : XK) (ta : TE) (t : TA) : TE := fun σ H Q => ta σ H fun x H1 => ∃ a dx fs, x = .ref a ∧ H1 a = some (.ins C dx fs) ∧ fs.lookup m = none ∧
  t σ H1 fun vs H2 => sp (x :: (vs ++ dvs)) H2 Q E
def tMake (C : Addr) (sp : Sp) (dvs : List V) (E : XK) (t : TA) : TE := fun σ H Q => t σ H fun vs H1 => ∀ x dx, H1 x = none → H1 dx = none → dx ≠ x →
  sp (.ref x :: (vs ++ dvs)) (upd (upd H1 dx (.own x)) x (.ins C dx [])) (fun v H2 => v = .non ∧ Q (.ref x) H2) E
def Binds (K : PySem.W.Frag) (fd : FuncData) (ps : List Str) (ds : List Value) : Prop :=
  ∀ (s : Shared) (us : List Value), K.In s.heap → (us ++ ds).length = ps.length → BindsTo s fd ⟨us, []⟩ (ps.zip (us ++ ds))
theorem Binds.all {K : PySem.W.Frag} {fd : FuncData} {ps : List Str} (h : ∀ us : List Value, us.length = ps.length → bindArgs fd ⟨us, []⟩ = pure (ps.zip us)) : Binds K fd ps [] := fun s us _ hl => by
  rw [List.append_nil] at hl ⊢
  exact .of_eq (h us hl)
def Passes (CX : CXT) (X : Cx) (E : XK) : Prop := ∀ (pins : List (Addr × Obj)) (σ : St) (H : Hp) (s : Shared) (e : Value) (s' : Shared), Inv X pins σ H s → CX X.stack H s E e s' → X.xe e s'
section
variable {X : Cx} {CX : CXT} {k : Nat} {f C : Addr} {fd : FuncData} {ps : List Str} {sp : Sp} {dvs : List V} {ds : List Value} {E : XK} {x m : Str} {p pos apos : Pos} {e o : Expr} {es : List Expr} {ta : TE} {t : TA}
theorem run_fn {pins : List (Addr × Obj)} {σ : St} {H : Hp} {s : Shared} {Q : VK} {us : List Value} {vs : List V} (F : FnOk X.prog X.w X.K X.mg X.base CX k f fd ps sp) (hr : Room k X.A) (hb : Binds X.K fd ps ds) (hd : Vals dvs ds) (hx : Passes CX X E)
    (I : Inv X pins σ H s) (r : Vals vs us) (h : sp (vs ++ dvs) H Q E) : wpAny (model X.prog X.w) X.A (call (.ref f) us) (EP X pins σ Q) X.xe s := by
  have r2 : Vals (vs ++ dvs) (us ++ ds) := r.append hd
  have hl : (us ++ ds).length = ps.length := by rw [← r2.length]; exact F.len _ _ _ _ h
  refine wpAny_call (codeAny_mono (F.run X.A X.stack s H ⟨us, []⟩ (us ++ ds) (vs ++ dvs) Q E hr I.env0 (hb s us I.kIn hl) r2 h) fun r s' hq => ?_)
  cases r with
  | error e => exact hx pins σ H s e s' I hq
  | ok fl =>
    cases fl with
    | ret u => exact I.after hq
    | next => exact False.elim hq
    | brk => exact False.elim hq
    | cont => exact False.elim hq
theorem pe_call (F : FnOk X.prog X.w X.K X.mg X.base CX k f fd ps sp) (hr : Room k X.A) (hg : Gl X x) (hm : X.mg x = some (.ref f)) (hk : PySem.W.keepIn X.K (.ref f) = true) (hb : Binds X.K fd ps ds) (hd : Vals dvs ds) (hx : Passes CX X E)
    (ha : PA X (e :: es) t) (hdb : (x == ("__debug__" : Str)) = false := by decide) (he : starEach (e :: es) X.env = (false, eval e X.env) :: starEach es X.env := by rfl) (hpl : (backTo pos (starEach es X.env)).any (·.1) = false := by rfl) :
    PE X (.Call (.Name x p) (e :: es) [] pos) (tCall sp dvs E t) := by
  intro pins s σ H Q I h
  refine wpAny_Call_Name_kw (ld_glob I hg hm ?_ hdb)
  refine PySem.W.callWith_K (h₀ := X.base) I.ok.mod.kin hk (thn (ha pos pins s σ H _ I h) fun us s1 ⟨vs, H1, I1, r, q⟩ => ⟨I1.kIn, ?_⟩) he hpl
  exact run_fn F hr hb hd hx I1 r q
theorem pe_meth {pl : Sem Bool} (he : PE X o ta) (c : Cls X.K C) (hm : Meth X.K C m f) (F : FnOk X.prog X.w X.K X.mg X.base CX k f fd ps sp) (hr : Room k X.A) (hb : Binds X.K fd ps ds) (hd : Vals dvs ds) (hx : Passes CX X E) (ha : PA X (e :: es) t)
    (hst : starEach (e :: es) X.env = (false, eval e X.env) :: starEach es X.env := by rfl) (hpl : (backTo pos (starEach es X.env)).any (·.1) = false := by rfl)
    (ht : eval (.Call (.Attribute o m apos) (e :: es) [] pos) X.env = (do
      let ov ← eval o X.env
      standAt apos.atName
      let (f, first) ← holding [ov] (getMethod ov m pl)
      callWith pos f first (backTo pos (starEach (e :: es) X.env)) (backToKw pos (keywordEach [] X.env))) := by rfl) :
    PE X (.Call (.Attribute o m apos) (e :: es) [] pos) (tMeth C m sp dvs E ta t) := by
  intro pins s σ H Q I h
  refine PySem.W.methodCall_KW (pl := pl) (thn (he pins s σ H _ I h) fun u s1 ⟨x, H1, I1, rx, a, dx, fs, ex, ea, l, q⟩ => ?_) ht
  subst ex
  obtain rfl : u = Value.ref a := rx
  refine getmeth_ok I1 ea c hm l ?_
  refine PySem.W.callWith_K (first := [.ref a]) (h₀ := X.base) I.ok.mod.kin hm.kp (thn (ha pos pins s1 σ H1 _ I1 q) fun us s2 ⟨vs, H2, I2, r, q2⟩ => ⟨I2.kIn, ?_⟩) hst hpl
  exact run_fn (us := .ref a :: us) (vs := .ref a :: vs) F hr hb hd hx I2 (.cons rfl r) q2
theorem pe_meth0 {pl : Sem Bool} (he : PE X o ta) (c : Cls X.K C) (hm : Meth X.K C m f) (F : FnOk X.prog X.w X.K X.mg X.base CX k f fd ps sp) (hr : Room k X.A) (hb : Binds X.K fd ps ds) (hd : Vals dvs ds) (hx : Passes CX X E)
    (ht : eval (.Call (.Attribute o m apos) [] [] pos) X.env = (do
      let ov ← eval o X.env
      standAt apos.atName
      let (f, first) ← holding [ov] (getMethod ov m pl)
      callWith pos f first (backTo pos (starEach [] X.env)) (backToKw pos (keywordEach [] X.env))) := by rfl) :
    PE X (.Call (.Attribute o m apos) [] [] pos) (tMeth C m sp dvs E ta tNil) := by
  intro pins s σ H Q I h
  refine PySem.W.methodCall_KW (pl := pl) (thn (he pins s σ H _ I h) fun u s1 ⟨x, H1, I1, rx, a, dx, fs, ex, ea, l, q⟩ => ?_) ht
  subst ex
  obtain rfl : u = Value.ref a := rx
  refine getmeth_ok I1 ea c hm l ?_
  exact PySem.W.callWith_K0 (first := [.ref a]) I1.kIn hm.kp (run_fn (us := [.ref a]) (vs := [.ref a]) F hr hb hd hx I1 (.cons rfl .nil) q)
structure Mk (K : PySem.W.Frag) (C f : Addr) : Prop where
  makes : PySem.W.makesIn K C = true
  init : PySem.W.findIn K (.ref C) "__init__" = some (some (.ref f))
  fn : PySem.W.isFn K (.ref f) = true
  kp : PySem.W.keepIn K (.ref C) = true
theorem run_make {pins : List (Addr × Obj)} {σ : St} {H : Hp} {s : Shared} {Q : VK} {us : List Value} {vs : List V} (M : Mk X.K C f) (F : FnOk X.prog X.w X.K X.mg X.base CX k f fd ps sp) (hr : Room (k + 1) X.A) (hb : Binds X.K fd ps ds) (hd : Vals dvs ds)
    (hx : Passes CX X E) (I : Inv X pins σ H s) (r : Vals vs us)
    (h : ∀ x dx, H x = none → H dx = none → dx ≠ x → sp (.ref x :: (vs ++ dvs)) (upd (upd H dx (.own x)) x (.ins C dx [])) (fun v H2 => v = .non ∧ Q (.ref x) H2) E) :
    wpAny (model X.prog X.w) X.A (call (.ref C) us) (EP X pins σ Q) X.xe s := by
  have hq := h (s.heap.objs.size + 1) s.heap.objs.size (I.hok.fresh (Nat.le_succ _)) (I.hok.fresh (Nat.le_refl _)) (Nat.ne_of_lt (Nat.lt_succ_self _))
  have I2 := Inv.made (C := C) I
  have r2 : Vals (V.ref (s.heap.objs.size + 1) :: (vs ++ dvs)) (Value.ref (s.heap.objs.size + 1) :: (us ++ ds)) := .cons rfl (r.append hd)
  have hl : (Value.ref (s.heap.objs.size + 1) :: us ++ ds).length = ps.length := by
    have e := r2.length
    rw [F.len _ _ _ _ hq] at e
    exact e.symm
  refine wpAny_call (make_map (f := f) I.kIn M.makes M.init (beq_iff_eq.mp M.fn) (codeAny_mono (F.run _ X.stack _ _ ⟨Value.ref (s.heap.objs.size + 1) :: us, []⟩ (Value.ref (s.heap.objs.size + 1) :: (us ++ ds)) _ _ E (hr.make C us [])
    (I2.env0.make C us []) (hb _ (Value.ref (s.heap.objs.size + 1) :: us) I2.kIn hl) r2 hq) fun r s' hq' => ?_))
  cases r with
  | error e => exact hx pins σ _ _ e s' I2 hq'
  | ok fl =>
    cases fl with
    | ret u =>
      obtain ⟨v, H', I3, rv, ev, q3⟩ := I2.after hq'
      subst ev
      exact ⟨rv, ⟨V.ref (s.heap.objs.size + 1), H', I3, rfl, q3⟩⟩
    | next => exact False.elim hq'
    | brk => exact False.elim hq'
    | cont => exact False.elim hq'
theorem pe_make (M : Mk X.K C f) (F : FnOk X.prog X.w X.K X.mg X.base CX k f fd ps sp) (hr : Room (k + 1) X.A) (hg : Gl X x) (hm : X.mg x = some (.ref C)) (hb : Binds X.K fd ps ds) (hd : Vals dvs ds) (hx : Passes CX X E)
    (ha : PA X (e :: es) t) (hdb : (x == ("__debug__" : Str)) = false := by decide) (he : starEach (e :: es) X.env = (false, eval e X.env) :: starEach es X.env := by rfl) (hpl : (backTo pos (starEach es X.env)).any (·.1) = false := by rfl) :
    PE X (.Call (.Name x p) (e :: es) [] pos) (tMake C sp dvs E t) := by
  intro pins s σ H Q I h
  refine wpAny_Call_Name_kw (ld_glob I hg hm ?_ hdb)
  refine PySem.W.callWith_K (h₀ := X.base) I.ok.mod.kin M.kp (thn (ha pos pins s σ H _ I h) fun us s1 ⟨vs, H1, I1, r, q⟩ => ⟨I1.kIn, ?_⟩) he hpl
  exact run_make M F hr hb hd hx I1 r q
end
section
variable {X : Cx} {CX : CXT} {k : Nat} {f C : Addr} {fd : FuncData} {ps ks : List Str} {sp : Sp} {E : XK} {x m : Str} {p pos apos kpos : Pos} {e o : Expr} {es : List Expr} {kws : List Keyword} {te ta : TE} {t tk : TA} {nm : Option Str}
variable {g : List Value → List Value → List Value} {gV : List V → List V → List V}
end
structure FnScope (N P : List Str) (sc : Scope) : Prop where
  kind : sc.kind = .function
  co : sc.isCoroutine = false
  gen : sc.isGenerator = false
  nd : N.Nodup
  pre : N.take P.length = P
  par : ∀ x ∈ P, sc.names.lookup x = some .local ∨ sc.names.lookup x = some .cell
  nofree : ∀ y ∈ sc.names, y.2 ≠ .free
theorem bindL_out {kindOf : Str → Option NameKind} {x : Str} : ∀ {binds : List (Str × Value)} {m : Str → Option Value}, (∀ v, (x, v) ∉ binds) → bindL kindOf binds m x = m x
  | [], _, _ => rfl
  | (n, v) :: r, m, h => by
    unfold bindL
    rw [bindL_out fun w hw => h w (List.mem_cons_of_mem _ hw)]
    split
    · have : x ≠ n := by rintro rfl; exact h v List.mem_cons_self
      simp [this]
    · rfl
theorem bindC_out {kindOf : Str → Option NameKind} {x : Str} : ∀ {binds : List (Str × Value)} {m : Str → Option Value}, (∀ v, (x, v) ∉ binds) → bindC kindOf binds m x = m x
  | [], _, _ => rfl
  | (n, v) :: r, m, h => by
    unfold bindC
    rw [bindC_out fun w hw => h w (List.mem_cons_of_mem _ hw)]
    split
    · rfl
    · have : x ≠ n := by rintro rfl; exact h v List.mem_cons_self
      simp [this]
theorem bindL_get {kindOf : Str → Option NameKind} {x : Str} {v : Value} : ∀ {P : List Str} {vs : List Value} {i : Nat} {m : Str → Option Value}, P.Nodup → P[i]? = some x → vs[i]? = some v → kindOf x = some .local →
    bindL kindOf (P.zip vs) m x = some v
  | [], _, _, _, _, h, _, _ => by simp at h
  | _ :: _, [], _, _, _, _, h, _ => by simp at h
  | p :: P, w :: vs, 0, m, nd, h1, h2, hk => by
    simp at h1 h2; subst h1; subst h2
    show bindL kindOf ((p, w) :: P.zip vs) m p = _
    unfold bindL
    rw [bindL_out fun v hv => (List.nodup_cons.mp nd).1 (List.of_mem_zip hv).1, if_pos hk]
    simp
  | p :: P, w :: vs, i + 1, m, nd, h1, h2, hk => by
    show bindL kindOf ((p, w) :: P.zip vs) m x = _
    unfold bindL
    exact bindL_get (i := i) (List.nodup_cons.mp nd).2 (by simpa using h1) (by simpa using h2) hk
theorem bindC_get {kindOf : Str → Option NameKind} {x : Str} {v : Value} : ∀ {P : List Str} {vs : List Value} {i : Nat} {m : Str → Option Value}, P.Nodup → P[i]? = some x → vs[i]? = some v → kindOf x ≠ some .local →
    bindC kindOf (P.zip vs) m x = some v
  | [], _, _, _, _, h, _, _ => by simp at h
  | _ :: _, [], _, _, _, _, h, _ => by simp at h
  | p :: P, w :: vs, 0, m, nd, h1, h2, hk => by
    simp at h1 h2; subst h1; subst h2
    show bindC kindOf ((p, w) :: P.zip vs) m p = _
    unfold bindC
    rw [bindC_out fun v hv => (List.nodup_cons.mp nd).1 (List.of_mem_zip hv).1, if_neg hk]
    simp
  | p :: P, w :: vs, i + 1, m, nd, h1, h2, hk => by
    show bindC kindOf ((p, w) :: P.zip vs) m x = _
    unfold bindC
    exact bindC_get (i := i) (List.nodup_cons.mp nd).2 (by simpa using h1) (by simpa using h2) hk
def start (N : List Str) (vs : List V) : St := vs.map some ++ List.replicate (N.length - vs.length) none
def cxOf (CX : CXT) (P : Program) (w : World) (K : PySem.W.Frag) (mg : Str → Option Value) (base : Heap) (N : List Str) (qual : Str) (scope : Scope) (f : Addr) (cd : Value) (A : Around) (outer : List Env) (s : Shared) (H : Hp) (E : XK) : Cx where
  prog := P
  w := w
  K := K
  mg := mg
  base := base
  A := A.deeper (envOfC qual scope s.heap.objs.size f cd)
  N := N
  s₀ := s
  H₀ := H
  env := envOfC qual scope s.heap.objs.size f cd
  outer := outer
  stack := envOfC qual scope s.heap.objs.size f cd :: outer
  ex := []
  calm := true
  fn := fun _ => true
  pn := []
  xe := fun e s' => wpAny (model P w) (A.deeper (envOfC qual scope s.heap.objs.size f cd)) (leaving (envOfC qual scope s.heap.objs.size f cd) e) (fun _ s'' => CX outer H s E e s'') (fun e' s'' => CX outer H s E e' s'') s'
theorem cell_has {sc : Scope} {n : Nat} {x : Str} (h : sc.names.lookup x = some .cell) : ∃ c, (cellsFrom n sc.names []).lookup x = some c := by
  have q := PySem.W.cellsFrom_some sc.names n [] (.inl h)
  exact Option.isSome_iff_exists.mp q
theorem inv_start {CX : CXT} {P : Program} {w : World} {K : PySem.W.Frag} {mg : Str → Option Value} {base : Heap} {N ps : List Str} {qual : Str} {scope : Scope} {f : Addr} {cd : Value} {A : Around} {outer : List Env} {s s1 : Shared} {H : Hp} {E : XK} {us : List Value} {vs : List V}
    (S : FnScope N ps scope) (hd : A.handled = none) (e0 : Env0 P w K mg base A outer s H) (hl : vs.length = ps.length) (r : Vals vs us)
    (x : InCallC s s.heap.objs.size (bindL (envOfC qual scope s.heap.objs.size f cd).kindOf (ps.zip us) fun _ => none) (cellsFrom (s.heap.objs.size + 1) scope.names []) (bindC (envOfC qual scope s.heap.objs.size f cd).kindOf (ps.zip us) fun _ => none) s1) :
    Inv (cxOf CX P w K mg base N qual scope f cd A outer s H E) [] (start N vs) H s1 := by
  have hpl : ps.length ≤ N.length := by have := congrArg List.length S.pre; rw [List.length_take] at this; lia
  obtain ⟨h1, tk, rfl, hk⟩ := x.done
  have noA : ∀ b : Addr, b ∉ (cxOf CX P w K mg base N qual scope f cd A outer s H E).ex := fun b z => absurd (show b ∈ ([] : List Addr) from z) (by simp)
  refine ⟨⟨e0.mod, S.kind, rfl, rfl, Nat.le_refl _, fun y z c h1 h2 => ?_, fun y hy => ?_, fun y c _ h => ?_, fun _ => hd, Around.frames_deeper e0.frames, .inr ⟨rfl, rfl⟩, fun b z => absurd z (noA b), e0.bs, e0.bsz, fun b _ _ => noA b, fun b z => absurd z (noA b), e0.funs, e0.frf⟩,
    rfl, e0.bare, Un.kept hk, ⟨_, x.toInCall.ns, fun i y v h1 h2 h3 => ?_⟩, fun y c h => ⟨_, x.cell y c h⟩, e0.hok.fresh (Nat.le_refl _), fun y c h => ?_, fun p hp => absurd (show p ∈ ([] : List (Addr × Obj)) from hp) (by simp), e0.hok.kept hk, ?_⟩
  · exact name_of_addr x.apart (PySem.mem_of_lookup h1) (PySem.mem_of_lookup h2)
  · have hy : scope.names.lookup y = some .cell ∨ scope.names.lookup y = some .free := hy
    rcases hy with hy | hy
    · exact cell_has hy
    · exact absurd rfl (S.nofree _ (PySem.mem_of_lookup hy))
  · exact Nat.le_of_lt (x.above y c (PySem.mem_of_lookup h))
  · have hi : i < vs.length := by
      unfold start at h2
      by_cases hi : i < vs.length
      · exact hi
      · rw [List.getElem?_append_right (by simpa using hi)] at h2
        rw [List.getElem?_replicate] at h2
        split at h2 <;> cases h2
    have ha : vs[i]? = some v := by
      unfold start at h2
      rw [List.getElem?_append_left (by simpa using hi), List.getElem?_map] at h2
      cases e : vs[i]? with
      | none => rw [e] at h2; cases h2
      | some a => rw [e] at h2; cases h2; rfl
    obtain ⟨u, hu, rv⟩ := r.get ha
    have hp : ps[i]? = some y := by
      rw [← S.pre, List.getElem?_take_of_lt (by lia)]; exact h1
    have ndP : ps.Nodup := by rw [← S.pre]; exact S.nd.sublist (List.take_sublist _ _)
    refine ⟨u, rv, ?_⟩
    rcases S.par y (List.mem_of_getElem? hp) with k | k
    · exact .inl ⟨k, bindL_get ndP hp hu k⟩
    · obtain ⟨c, e⟩ := cell_has (n := s.heap.objs.size + 1) k
      refine .inr ⟨.inl k, c, e, ?_⟩
      have q := x.cell y c e
      rw [bindC_get ndP hp hu (by show scope.names.lookup y ≠ _; rw [k]; decide)] at q
      exact q
  · exact e0.hok.fresh (Nat.le_of_lt (x.above y c (PySem.mem_of_lookup h)))
  · unfold start
    show _ = N.length
    rw [List.length_append, List.length_map, List.length_replicate]
    lia
theorem fn_of {CX : CXT} {P : Program} {w : World} {K : PySem.W.Frag} {mg : Str → Option Value} {base : Heap} {k : Nat} {f : Addr} {name qual : Str} {params : Arguments} {body : List Stmt} {scope : Scope} {dV kV doc pm cdv ct oc : Value} {an od : Option Addr}
    {osl : Array (Option Value)} {N ps : List Str} {sp : Sp} (lk : K.lookup f = some ⟨oc, od, .func (PySem.W.fnOf name qual params body scope dV kV doc pm an cdv ct), osl⟩) (hcd : PySem.W.codeIn K cdv qual = true) (S : FnScope N ps scope)
    (len : ∀ vs H Q E, sp vs H Q E → vs.length = ps.length)
    (hbody : ∀ (A : Around) (outer : List Env) (s : Shared) (H : Hp) (vs : List V) (Q : VK) (E : XK), Room k (A.deeper (envOfC qual scope s.heap.objs.size f cdv)) → sp vs H Q E →
      ∃ t, PSs (cxOf CX P w K mg base N qual scope f cdv A outer s H E) body t ∧ t { nx := fun _ H' => Q .non H', rt := Q } (start N vs) H) :
    FnOk P w K mg base CX (k + 1) f (PySem.W.fnOf name qual params body scope dV kV doc pm an cdv ct) ps sp := by
  refine ⟨len, fun A outer s H args us vs Q E hr e0 hb r hsp => ?_⟩
  have hl := len _ _ _ _ hsp
  have KX : K.In s.heap := e0.mod.kin.keeps fun b o e => (e0.bs b o e).1
  have lim : s.heap.NoLimit := e0.mod.nolimit.keeps fun b o e => (e0.bs b o e).1
  have hkind : ∀ y ∈ ps.zip us, scope.names.lookup y.1 = some .local ∨ (scope.names.lookup y.1 = some .cell ∧ ((cellsFrom (s.heap.objs.size + 1) scope.names []).lookup y.1).isSome = true) := fun ⟨n, v⟩ hy => by
    rcases S.par n (List.of_mem_zip hy).1 with q | q
    · exact .inl q
    · exact .inr ⟨q, PySem.W.cellsFrom_some _ _ _ (.inl q)⟩
  refine codeAny_call_function hr.depth (KX _ _ lk) rfl S.co S.gen rfl (PySem.W.codeRec_of KX hcd) (hb _ _ _ _ ?_)
  refine wpAny_newFunctionEnv_cells S.kind hkind fun env he s1 x => ?_
  subst he
  refine ⟨lim.keeps x.toInCall.keep, codeAny_func ?_⟩
  obtain ⟨t, ht, hq⟩ := hbody A outer s H vs Q E (hr.deeper _) hsp
  have I : Inv (cxOf CX P w K mg base N qual scope f cdv A outer s H E) [] (start N vs) H s1 := inv_start S hr.hd e0 hl r x
  refine wpAny_mono (ht [] s1 (start N vs) H _ I hq) (fun fl s' hs => ?_) fun e s' hs => hs
  have fin : ∀ {σ' : St} {H' : Hp} {v : V} {u : Value}, Inv (cxOf CX P w K mg base N qual scope f cdv A outer s H E) [] σ' H' s' → RelV v u → Q v H' → CE outer P w H s Q u s' :=
    fun {σ' H' v u} J rv q => ⟨v, H', J.os, J.bare, J.base, J.hok, rv, q⟩
  cases fl with
  | ret u =>
    obtain ⟨v, σ', H', J, rv, q⟩ := hs
    exact fin J rv q
  | next =>
    obtain ⟨σ', H', J, q⟩ := hs
    exact fin (v := V.non) (u := Value.none) J rfl q
  | brk =>
    obtain ⟨_, _, _, q⟩ := hs
    exact False.elim q
  | cont =>
    obtain ⟨_, _, _, q⟩ := hs
    exact False.elim q
end L2
namespace L2
open PySem PySem.Spec PyProof.Rows
section
variable {X : Cx} {x : Str} {p pos : Pos} {e : Expr} {es : List Expr} {t : TA} {id T : String} {r : List V → Hp → VK → Prop}
def tCB (r : List V → Hp → VK → Prop) (t : TA) : TE := fun σ H Q => t σ H fun vs H1 => r vs H1 Q
theorem pe_callB (hc : CallR X (.builtin id) r) (hg : Gl X x) (hm : X.mg x = none) (hv : bootBuiltins x = some (.builtin id)) (ha : PA X (e :: es) t) (hn : x ≠ "__name__" := by decide) (hdb : (x == ("__debug__" : Str)) = false := by decide)
    (he : starEach (e :: es) X.env = (false, eval e X.env) :: starEach es X.env := by rfl) (hpl : (backTo pos (starEach es X.env)).any (·.1) = false := by rfl) : PE X (.Call (.Name x p) (e :: es) [] pos) (tCB r t) := by
  intro pins s σ H Q I h
  refine wpAny_Call_Name_kw (ld_blt I hg hm hv ?_ hn hdb)
  exact PyProof.Rows.callWith_builtin1 (thn (ha pos pins s σ H _ I h) fun us s1 ⟨vs, H1, I1, r1, q1⟩ => hc pins s1 σ H1 vs us Q I1 r1 q1) he hpl
theorem pe_callTy (hc : CallR X (.type T) r) (hg : Gl X x) (hm : X.mg x = none) (hv : bootBuiltins x = some (.type T)) (ha : PA X (e :: es) t) (hn : x ≠ "__name__" := by decide) (hdb : (x == ("__debug__" : Str)) = false := by decide)
    (he : starEach (e :: es) X.env = (false, eval e X.env) :: starEach es X.env := by rfl) (hpl : (backTo pos (starEach es X.env)).any (·.1) = false := by rfl) : PE X (.Call (.Name x p) (e :: es) [] pos) (tCB r t) := by
  intro pins s σ H Q I h
  refine wpAny_Call_Name_kw (ld_blt I hg hm hv ?_ hn hdb)
  exact PyProof.Rows.callWith_type1 (thn (ha pos pins s σ H _ I h) fun us s1 ⟨vs, H1, I1, r1, q1⟩ => hc pins s1 σ H1 vs us Q I1 r1 q1) he hpl
end
end L2
namespace HT
open PySem PyProof.Rows
section
open PySem.SeqAt
open PySem.AutoSeq1 (wpAny_loadPart')
open PySem.MeetsSeq PySem.MeetsSeq2 PySem.MeetsSeq3
end
section
variable {prog : Program} {w : World} {A : Around} {E : Value → Shared → Prop} {s : Shared}
def sIx (n d : Nat) : Option Int → Nat
  | none => d
  | some v => if v < 0 then (v + (n : Int)).toNat else min v.toNat n
theorem sIx_nat (n d k : Nat) : sIx n d (some (k : Int)) = min k n := by
  show (if (k : Int) < 0 then ((k : Int) + (n : Int)).toNat else min (k : Int).toNat n) = min k n
  rw [if_neg (by lia), Int.toNat_natCast]
end
end HT
namespace L2
open PySem PySem.Spec PyProof.Rows
abbrev TO := St → Hp → (Option Int → Hp → Prop) → Prop
def PO (X : Cx) (e : Option Expr) (t : TO) : Prop :=
  ∀ (pins : List (Addr × Obj)) (s : Shared) (σ : St) (H : Hp) (Q : Option Int → Hp → Prop), Inv X pins σ H s → t σ H Q →
    wpAny (model X.prog X.w) X.A (evalPart e X.env) (fun u s' => ∃ o H', Inv X pins σ H' s' ∧ IsPart u o ∧ Q o H') X.xe s
def tNoPart : TO := fun _ H Q => Q none H
def tPart (t : TE) : TO := fun σ H Q => t σ H fun x H1 => ∃ i, x = .int i ∧ Q (some i) H1
section
variable {X : Cx} {e : Expr} {te : TE} {lo hi : Option Expr} {tl th : TO} {pos p2 : Pos}
theorem po_none : PO X none tNoPart := by
  intro pins s σ H Q I h
  rw [evalPart_none]
  exact wpAny_pure ⟨none, H, I, .none, h⟩
theorem po_some (h : PE X e te) : PO X (some e) (tPart te) := by
  intro pins s σ H Q I hw
  rw [evalPart_some]
  refine thn (h pins s σ H _ I hw) fun u s1 ⟨x, H1, I1, r1, q1⟩ => ?_
  obtain ⟨i, rfl, q⟩ := q1
  obtain ⟨t, rfl⟩ := r1
  exact ⟨some i, H1, I1, .int i t, q⟩
def SlR (X : Cx) (r : V → Option Int → Option Int → Hp → VK → Prop) : Prop :=
  ∀ (pins : List (Addr × Obj)) (s : Shared) (σ : St) (H : Hp) (x : V) (v vl vu : Value) (lo hi : Option Int) (sl : Addr) (Q : VK), Inv X pins σ H s → RelV x v → s.heap.IsSliceOf sl vl vu .none → IsPart vl lo → IsPart vu hi → r x lo hi H Q →
    ∃ T id, typeLookup (.type T) "__getitem__" = pure (some (.builtin id)) ∧ s.TypeIs v T ∧ wpAny (model X.prog X.w) X.A (getItem v (.ref sl)) (EP X pins σ Q) X.xe s
def tSl (r : V → Option Int → Option Int → Hp → VK → Prop) (te : TE) (tl th : TO) : TE := fun σ H Q => te σ H fun x H1 => tl σ H1 fun l H2 => th σ H2 fun u H3 => r x l u H3 Q
theorem pe_slice {r : V → Option Int → Option Int → Hp → VK → Prop} (hr : SlR X r) (he : PE X e te) (hl : PO X lo tl) (hu : PO X hi th) : PE X (.Subscript e (.Slice lo hi none p2) pos) (tSl r te tl th) := by
  intro pins s σ H Q I h
  refine Subscript_ (thn (he pins s σ H _ I h) fun v s1 ⟨x, H1, I1, r1, q1⟩ => ?_)
  refine wpAny_Slice (thn (hl pins s1 σ H1 _ I1 q1) fun vl s2 ⟨l, H2, I2, pl, q2⟩ => thn (hu pins s2 σ H2 _ I2 q2) fun vu s3 ⟨u, H3, I3, pu, q3⟩ => ?_)
  rw [evalPart_none]
  refine wpAny_pure ?_
  have I4 : Inv X pins σ H3 { s3 with heap := s3.heap.push { cls := .type "slice", data := .fields #[vl, vu, .none] } } := I3.kept (t' := s3.toks) fun b ob q => Heap.get?_push_of_some _ q
  obtain ⟨T, id, hT, ht, hg⟩ := hr pins { s3 with heap := s3.heap.push { cls := .type "slice", data := .fields #[vl, vu, .none] } } σ H3 x v vl vu l u s3.heap.objs.size Q I4 r1 (Heap.IsSliceOf.new ..) pl pu q3
  show wpAny (model X.prog X.w) X.A (subscriptTail e (.Slice lo hi none p2) v (.ref s3.heap.objs.size)) (EP X pins σ Q) X.xe { s3 with heap := s3.heap.push { cls := .type "slice", data := .fields #[vl, vu, .none] } }
  exact tail_any (ops := [.ref s3.heap.objs.size, v]) ht hT hg (by with_unfolding_all rfl)
def cutV (xs : List V) (lo hi : Option Int) : List V := (xs.drop (HT.sIx xs.length 0 lo)).take (HT.sIx xs.length xs.length hi - HT.sIx xs.length 0 lo)
theorem cutV_length (xs : List V) (lo hi : Option Int) : (cutV xs lo hi).length ≤ xs.length := by
  unfold cutV
  rw [List.length_take, List.length_drop]
  lia
end
end L2
namespace L2
open PySem PySem.Spec PyProof.Rows
def ixN (n : Nat) (i : Int) : Option Nat := if 0 ≤ i then (if i < n then some i.toNat else none) else if -(n : Int) ≤ i then some (i + n).toNat else none
def atI {α : Type} (xs : List α) (i : Int) : Option α := (ixN xs.length i).bind fun j => xs[j]?
theorem ixN_seq {n : Nat} {i : Int} {j : Nat} (h : ixN n i = some j) : seqIndex? i n = some j ∧ j < n ∧ -(n : Int) ≤ i ∧ i < n := by
  unfold ixN at h
  by_cases h0 : 0 ≤ i
  · rw [if_pos h0] at h
    by_cases h1 : i < n
    · rw [if_pos h1] at h
      have e : i.toNat = j := Option.some.inj h
      exact ⟨by rw [seqIndex_of h0 h1, e], by lia, by lia, h1⟩
    · rw [if_neg h1] at h; cases h
  · rw [if_neg h0] at h
    by_cases h1 : -(n : Int) ≤ i
    · rw [if_pos h1] at h
      have e : (i + n).toNat = j := Option.some.inj h
      exact ⟨by rw [seqIndex_neg (by lia) h1, e], by lia, h1, by lia⟩
    · rw [if_neg h1] at h; cases h
theorem atI_get {α : Type} {xs : List α} {i : Int} {v : α} (h : atI xs i = some v) : ∃ j, seqIndex? i xs.length = some j ∧ xs[j]? = some v ∧ j < xs.length ∧ -(xs.length : Int) ≤ i ∧ i < xs.length := by
  unfold atI at h
  cases e : ixN xs.length i with
  | none => rw [e] at h; cases h
  | some j =>
    rw [e] at h
    obtain ⟨h1, h2, h3, h4⟩ := ixN_seq e
    exact ⟨j, h1, h, h2, h3, h4⟩
theorem atI_nat {α : Type} {xs : List α} {j : Nat} {v : α} (h : xs[j]? = some v) : atI xs (j : Int) = some v := by
  have hj : j < xs.length := (List.getElem?_eq_some_iff.mp h).1
  have e : ixN xs.length (j : Int) = some j := by
    unfold ixN
    rw [if_pos (by lia), if_pos (by lia)]; simp
  unfold atI; rw [e]; exact h
def PlainIx (b : Expr) : Prop := ∀ o i, subscripted b false o i = operate [o, i] (getItem o i)
def IxR (X : Cx) (r : R2) : Prop :=
  ∀ (value slice : Expr) (pins : List (Addr × Obj)) (s : Shared) (σ : St) (H : Hp) (x y : V) (v u : Value) (Q : VK), Inv X pins σ H s → RelV x v → RelV y u → r x y H Q →
    subscripted slice false v u = operate [v, u] (getItem v u) → wpAny (model X.prog X.w) X.A (subscriptTail value slice v u) (EP X pins σ Q) X.xe s
def MtR (X : Cx) (id : String) (r : V → List V → Hp → VK → Prop) : Prop :=
  ∀ (pins : List (Addr × Obj)) (s : Shared) (σ : St) (H : Hp) (x : V) (xs : List V) (v : Value) (us : List Value) (Q : VK), Inv X pins σ H s → RelV x v → Vals xs us → r x xs H Q →
    wpAny (model X.prog X.w) X.A (call (.builtin id) (v :: us)) (EP X pins σ Q) X.xe s
section
variable {X : Cx} {a b : Expr} {ta tb : TE} {pos : Pos}
theorem pe_ix {r : R2} (hr : IxR X r) (ha : PE X a ta) (hb : PE X b tb) (hs : PlainIx b) : PE X (.Subscript a b pos) (tOp r ta tb) := by
  intro pins s σ H Q I h
  exact Subscript_ (binT ha hb I h fun v u s2 x y H2 I2 rx ry q => hr a b pins s2 σ H2 x y v u Q I2 rx ry q (hs _ _))
def rIxL (K : PySem.W.Frag) : R2 := fun x y H Q => ∃ p xs i v, x = .ref p ∧ y = .int i ∧ SqL K H p xs ∧ atI xs i = some v ∧ Q v H
def rIxT (K : PySem.W.Frag) : R2 := fun x y H Q => ∃ p xs i v, x = .ref p ∧ y = .int i ∧ SqT K H p xs ∧ atI xs i = some v ∧ Q v H
def rIxS : R2 := fun x y H Q => ∃ z i c, x = .str z ∧ y = .int i ∧ z.length ≤ sizeLine ∧ atI z.cps.toList i = some c ∧ Q (.str ⟨#[c]⟩) H
theorem ix_list : IxR X (rIxL X.K) := by
  intro value slice pins s σ H x y v u Q I rx ry h hs
  obtain ⟨p, xs, i, z, rfl, rfl, hq, he, q⟩ := h
  cases rx
  obtain ⟨t, rfl⟩ := ry
  obtain ⟨its, r, pl, hz⟩ := I.list hq
  obtain ⟨j, h1, h2, h3, h4, h5⟩ := atI_get he
  obtain ⟨w, ew, rw'⟩ := r.get h2
  have hl := r.length
  have hn := line63
  have fin : EP X pins σ Q w s := ⟨z, H, I, rw', q⟩
  by_cases h0 : 0 ≤ i
  · have hj : i.toNat = j := by
      rw [seqIndex_of h0 h5] at h1
      exact Option.some.inj h1
    exact item_listR pl.isList h0 (by lia) (by rw [hj]; simpa using ew) fin hs
  · have hj : (i + (its.toArray.size : Int)).toNat = j := by
      rw [seqIndex_neg (by lia) h4] at h1
      rw [List.size_toArray, ← hl]
      exact Option.some.inj h1
    exact subscriptTail_builtinR (x := w) pl.isList.typeIs slot_list_getitem.lookup
      (wpAny_getItem_list_neg (Q := fun r s' => r = w ∧ EP X pins σ Q r s') pl.isList (by lia) (by rw [List.size_toArray] <;> lia) (by lia) (by rw [hj]; simpa using ew) ⟨rfl, fin⟩) hs
theorem ix_tup : IxR X (rIxT X.K) := by
  intro value slice pins s σ H x y v u Q I rx ry h hs
  obtain ⟨p, xs, i, z, rfl, rfl, hq, he, q⟩ := h
  cases rx
  obtain ⟨t, rfl⟩ := ry
  obtain ⟨its, r, pl, hz⟩ := I.tuple hq
  obtain ⟨j, h1, h2, h3, h4, h5⟩ := atI_get he
  obtain ⟨w, ew, rw'⟩ := r.get h2
  have hl := r.length
  have hn := line63
  have fin : EP X pins σ Q w s := ⟨z, H, I, rw', q⟩
  exact subscriptTail_builtinR (x := w) pl.typeIs slot_tuple_getitem.lookup
    (getItem_tuple (j := j) (Q := fun r s' => r = w ∧ EP X pins σ Q r s') pl (by lia) (by lia) (by rw [List.size_toArray, ← hl]; exact h1) (by simpa using ew) ⟨rfl, fin⟩) hs
theorem ix_str : IxR X rIxS := by
  intro value slice pins s σ H x y v u Q I rx ry h hs
  obtain ⟨z, i, c, rfl, rfl, hz, he, q⟩ := h
  obtain ⟨t, rfl⟩ := rx
  obtain ⟨t', rfl⟩ := ry
  obtain ⟨j, h1, h2, h3, h4, h5⟩ := atI_get he
  have hl : z.cps.toList.length = z.length := by simp [Str.length]
  rw [hl] at h1 h4 h5
  have hn := line63
  exact tail_any (typeIs_str s z t) slot_str_getitem.lookup (getItem_str (c := c) (by
    have e1 : decide (i < -(2 ^ 63 : Int)) = false := decide_eq_false (by lia)
    have e2 : decide (i ≥ 2 ^ 63) = false := decide_eq_false (by lia)
    rw [e1, e2, Bool.or_false]) (by rw [h1]; simpa using h2) ⟨.str ⟨#[c]⟩, H, I.tok _, ⟨_, rfl⟩, q⟩) hs
theorem mapSeq_set (its : List Value) (n j : Nat) (u : Value) : Obj.mapSeq (·.setIfInBounds j u) { cls := .type "list", data := .seq its.toArray n } = { cls := .type "list", data := .seq (its.set j u).toArray n } := by
  simp [Obj.mapSeq]
theorem Inv.lst {pins : List (Addr × Obj)} {σ : St} {H : Hp} {s : Shared} {p : Addr} {xs : List V} (I : Inv X pins σ H s) (h : H p = some (.lst xs)) :
    ∃ (its : List Value) (n : Nat), Vals xs its ∧ s.heap.get? p = some { cls := .type "list", data := .seq its.toArray n } ∧ xs.length ≤ sizeLine := by
  obtain ⟨z, its, n, r, e⟩ := I.hok p _ h
  exact ⟨its, n, r, e, z⟩
theorem Inv.lstUpd {pins : List (Addr × Obj)} {σ : St} {H : Hp} {s : Shared} {p : Addr} {xs ys : List V} {its its' : List Value} {n n' : Nat} {f : Obj → Obj} (I : Inv X pins σ H s) (h : H p = some (.lst xs))
    (ho : s.heap.get? p = some { cls := .type "list", data := .seq its.toArray n }) (hf : f { cls := .type "list", data := .seq its.toArray n } = { cls := .type "list", data := .seq its'.toArray n' }) (r : Vals ys its') (hz : ys.length ≤ sizeLine) (t : Nat) :
    Inv X pins σ (upd H p (.lst ys)) { s with heap := s.heap.update p f, toks := t } := by
  have e : (s.heap.update p f).get? p = some { cls := .type "list", data := .seq its'.toArray n' } := by
    rw [Heap.get?_update_self f ho (by rw [hf] <;> rfl), hf]
  refine I.write (x := p) (e := p) (by rw [h]; trivial) (.inl rfl) (fun b u hb q => (Heap.get?_update_other _ _ (Ne.symm hb)).trans q) ⟨_, e⟩ ?_
  exact ⟨hz, its', n', r, e⟩
def rSetL : V → V → V → Hp → (Hp → Prop) → Prop := fun o i v H Q => ∃ p xs k j, o = .ref p ∧ i = .int k ∧ H p = some (.lst xs) ∧ ixN xs.length k = some j ∧ Q (upd H p (.lst (xs.set j v)))
theorem set_list : PSet X rSetL := by
  intro pins s σ H o i v ov iv u Q I ro ri rv h
  obtain ⟨p, xs, k, j, rfl, rfl, hp, hj, q⟩ := h
  cases ro
  obtain ⟨t, rfl⟩ := ri
  obtain ⟨its, n, r, ho, hz⟩ := I.lst hp
  obtain ⟨h1, h2, h3, h4⟩ := ixN_seq hj
  have hl := r.length
  have hn := line63
  have I' : Inv X pins σ (upd H p (.lst (xs.set j v))) { s with heap := s.heap.update p (Obj.mapSeq (·.setIfInBounds j u)) } :=
    I.lstUpd hp ho (mapSeq_set its n j u) (r.set rv j) (by rw [List.length_set]; exact hz) s.toks
  by_cases h0 : 0 ≤ k
  · have hk : k.toNat = j := by
      rw [seqIndex_of h0 h4] at h1
      exact Option.some.inj h1
    exact PySem.W.ki_setAt ho h0 (by lia) (by rw [List.size_toArray, ← hl]; exact h4) (by rw [hk]; exact ⟨_, I', q⟩)
  · have hk : (k + (its.toArray.size : Int)).toNat = j := by
      rw [seqIndex_neg (by lia) h3] at h1
      rw [List.size_toArray, ← hl]
      exact Option.some.inj h1
    exact PySem.W.ki_setBack ho (by lia) (by rw [List.size_toArray, ← hl]; exact h3) (by lia) (by rw [hk]; exact ⟨_, I', q⟩)
theorem slice_bounds (lo hi : Option Int) (n : Nat) : (sliceBounds lo hi none n).1 = ((HT.sIx n 0 lo : Nat) : Int) ∧ (sliceBounds lo hi none n).2.1 = ((HT.sIx n n hi : Nat) : Int) ∧ (sliceBounds lo hi none n).2.2 = 1 := by
  refine ⟨?_, ?_, rfl⟩
  · cases lo with
    | none => simp [sliceBounds, HT.sIx]
    | some i =>
      simp only [sliceBounds, HT.sIx, Option.getD_none, show (1 : Int) > 0 by decide, if_true]
      by_cases h : i < 0
      · simp only [h, if_true] <;> lia
      · simp only [h, if_false] <;> lia
  · cases hi with
    | none => simp [sliceBounds, HT.sIx]
    | some i =>
      simp only [sliceBounds, HT.sIx, Option.getD_none, show (1 : Int) > 0 by decide, if_true]
      by_cases h : i < 0
      · simp only [h, if_true] <;> lia
      · simp only [h, if_false] <;> lia
theorem slicePick_cut (its : List Value) (lo hi : Option Int) : slicePick its.toArray lo hi none = ((its.drop (HT.sIx its.length 0 lo)).take (HT.sIx its.length its.length hi - HT.sIx its.length 0 lo)).toArray := by
  obtain ⟨h1, h2, h3⟩ := slice_bounds lo hi its.toArray.size
  unfold slicePick
  rw [h1, h2, h3]
  simp only [sliceRange_one, pick_run, List.size_toArray] <;> rfl
def rSlL (K : PySem.W.Frag) : V → Option Int → Option Int → Hp → VK → Prop := fun x lo hi H Q => ∃ a xs, x = .ref a ∧ SqL K H a xs ∧ ∀ p, H p = none → Q (.ref p) (upd H p (.lst (cutV xs lo hi)))
theorem sl_list : SlR X (rSlL X.K) := by
  intro pins s σ H x v vl vu lo hi sl Q I rx hs pl pu h
  obtain ⟨a, xs, rfl, hx, q⟩ := h
  cases rx
  obtain ⟨its, r, ht, hz⟩ := I.list hx
  have hlen := r.length
  refine ⟨"list", _, slot_list_getitem.lookup, ht.isList.typeIs, ?_⟩
  refine wpAny_getItem_list_slice ht.isList hs pl pu .none (by simp) ?_ (by rw [List.size_toArray] <;> lia)
  rw [slicePick_cut, ← hlen]
  refine ⟨.ref s.heap.objs.size, _, I.laid (t' := s.toks) (o := .lst (cutV xs lo hi)) (fun b ob q => Heap.get?_push_of_some _ q) (Nat.le_refl _) ?_, rfl, q _ (I.hok.fresh (Nat.le_refl _))⟩
  exact ⟨Nat.le_trans (cutV_length xs lo hi) hz, _, 0, (r.drop (HT.sIx xs.length 0 lo)).take (HT.sIx xs.length xs.length hi - HT.sIx xs.length 0 lo), Heap.get?_push_size _ rfl⟩
theorem call_len_seq : CallR X (.builtin "len") (fun xs H Q => ∃ p ys, xs = [.ref p] ∧ (SqL X.K H p ys ∨ SqT X.K H p ys) ∧ Q (.int ys.length) H) := by
  intro pins s σ H xs us Q I r h
  obtain ⟨p, ys, rfl, hq, q⟩ := h
  obtain ⟨u, rfl, rx⟩ := vals1 r
  cases rx
  have hn := line63
  rcases hq with hq | hq
  · obtain ⟨its, r', pl, hz⟩ := I.list hq
    have hlen := r'.length
    exact Calls.call_len_list pl.isList (by simp only [List.size_toArray] <;> lia) ⟨.int ys.length, H, I.tok _, ⟨s.toks + 1, by rw [List.size_toArray, hlen]⟩, q⟩
  · obtain ⟨its, r', pl, hz⟩ := I.tuple hq
    have hlen := r'.length
    exact len_tuple pl (by simp only [List.size_toArray] <;> lia) ⟨.int ys.length, H, I.tok _, ⟨s.toks + 1, by rw [List.size_toArray, hlen]⟩, q⟩
theorem call_list_of : CallR X (.type "list") (fun xs H Q => ∃ p ys, xs = [.ref p] ∧ (SqL X.K H p ys ∨ SqT X.K H p ys) ∧ ∀ l, H l = none → Q (.ref l) (upd H l (.lst ys))) := by
  intro pins s σ H xs us Q I r h
  obtain ⟨p, ys, rfl, hq, q⟩ := h
  obtain ⟨u, rfl, rx⟩ := vals1 r
  cases rx
  have fin : ∀ (its : List Value), Vals ys its → ys.length ≤ sizeLine → ∀ (h' : Heap) (c' : Nat), (∀ b o', s.heap.get? b = some o' → h'.get? b = some o') →
      h'.get? s.heap.objs.size = some { cls := .type "list", dict := none, data := .seq its.toArray c', slots := #[] } → EP X pins σ Q (.ref s.heap.objs.size) { s with heap := h' } := fun its r' hz h' c' kp e =>
    ⟨.ref s.heap.objs.size, _, I.laid (t' := s.toks) kp (Nat.le_refl _) (show ObjOk X.prog X.w _ h' _ (.lst ys) from ⟨hz, its, c', r', e⟩), rfl, q _ (I.hok.fresh (Nat.le_refl _))⟩
  rcases hq with hq | hq
  · obtain ⟨its, r', pl, hz⟩ := I.list hq
    have hlen := r'.length
    obtain ⟨o, ho, hc, n, hd⟩ := pl.isList
    exact call_list_seq p (.inl rfl) ho hc hd (fun h' c' kp e => fin its r' hz h' c' kp e) (by simp only [List.size_toArray] <;> lia)
  · obtain ⟨its, r', pl, hz⟩ := I.tuple hq
    have hlen := r'.length
    obtain ⟨o, ho, hc, n, hd⟩ := pl
    exact call_list_seq p (.inr rfl) ho hc hd (fun h' c' kp e => fin its r' hz h' c' kp e) (by simp only [List.size_toArray] <;> lia)
theorem call_tuple_of : CallR X (.type "tuple") (fun xs H Q => ∃ p ys, xs = [.ref p] ∧ ((SqL X.K H p ys ∧ ∀ l, H l = none → Q (.ref l) (upd H l (.tup ys))) ∨ (SqT X.K H p ys ∧ Q (.ref p) H))) := by
  intro pins s σ H xs us Q I r h
  obtain ⟨p, ys, rfl, h⟩ := h
  obtain ⟨u, rfl, rx⟩ := vals1 r
  cases rx
  rcases h with ⟨hq, q⟩ | ⟨hq, q⟩
  · obtain ⟨its, r', pl, hz⟩ := I.list hq
    have hlen := r'.length
    refine call_tuple_list pl.isList (fun h' kp => ?_) (by simp only [List.size_toArray] <;> lia)
    have I1 : Inv X pins σ H { s with heap := h' } := I.kept (t' := s.toks) kp
    have I2 : Inv X pins σ (upd H h'.objs.size (.tup ys)) { s with heap := h'.push { cls := .type "tuple", data := .seq its.toArray } } :=
      I1.laid (t' := s.toks) (fun b o e => Heap.get?_push_of_some _ e) (Nat.le_refl _) (show ObjOk X.prog X.w _ _ _ (.tup ys) from ⟨hz, its, r', IsTup.new _ _⟩)
    exact ⟨.ref h'.objs.size, _, I2, rfl, q _ (I1.hok.fresh (Nat.le_refl _))⟩
  · obtain ⟨its, r', pl, hz⟩ := I.tuple hq
    exact call_tuple_same pl ⟨.ref p, H, I, rfl, q⟩
def tyV (K : PySem.W.Frag) (T : String) (x : V) (H : Hp) : Prop := match x with
  | .str _ => T = "str"
  | .int _ => T = "int"
  | .ref p => (T = "list" ∧ ∃ xs, SqL K H p xs) ∨ (T = "tuple" ∧ ∃ o, K.lookup p = some o ∧ o.cls = .type "tuple" ∧ o.dict = none) ∨
      (T = "dict" ∧ ((∃ kvs, H p = some (.dK kvs)) ∨ ∃ kvs, H p = some (.dT kvs))) ∨ (T = "set" ∧ ∃ S n, H p = some (.set S n))
  | _ => False
theorem tyV_is {pins : List (Addr × Obj)} {σ : St} {H : Hp} {s : Shared} {T : String} {x : V} {v : Value} (I : Inv X pins σ H s) (r : RelV x v) (ty : tyV X.K T x H) :
    s.TypeIs v T ∧ ∀ a, v = .ref a → ∃ ob, s.heap.get? a = some ob ∧ ob.dict = none := by
  cases x with
  | str z =>
    obtain ⟨t, rfl⟩ := r
    cases (show T = "str" from ty)
    exact ⟨typeIs_str s z t, fun _ e => nomatch e⟩
  | int i =>
    obtain ⟨t, rfl⟩ := r
    cases (show T = "int" from ty)
    exact ⟨typeIs_int s i t, fun _ e => nomatch e⟩
  | ref p =>
    cases r
    rcases ty with ⟨rfl, xs, hq⟩ | ⟨rfl, o, hk, hc, hd⟩ | ⟨rfl, hk⟩ | ⟨rfl, S, n, hk⟩
    · obtain ⟨its, _, pl, _⟩ := I.list hq
      refine ⟨pl.isList.typeIs, fun a e => ?_⟩
      cases e
      obtain ⟨o, n, e, c, hd, _⟩ := pl
      exact ⟨o, e, hd⟩
    · refine ⟨⟨o, I.kIn p o hk, hc⟩, fun a e => ?_⟩
      cases e
      exact ⟨o, I.kIn _ o hk, hd⟩
    · have z : ∃ o, s.heap.get? p = some o ∧ o.ExactDict := by
        rcases hk with ⟨kvs, hk⟩ | ⟨kvs, hk⟩
        · obtain ⟨_, _, _, _, o, _, _, e, ex, _⟩ := I.hok p _ hk
          exact ⟨o, e, ex⟩
        · obtain ⟨_, _, _, _, o, _, _, e, ex, _⟩ := I.hok p _ hk
          exact ⟨o, e, ex⟩
      obtain ⟨o, e, ex⟩ := z
      refine ⟨⟨o, e, ex.1⟩, fun a e2 => ?_⟩
      cases e2
      exact ⟨o, e, ex.2.1⟩
    · obtain ⟨o, _, _, _, e, ex, _⟩ := I.hok p _ hk
      refine ⟨⟨o, e, ex.1⟩, fun a e2 => ?_⟩
      cases e2
      exact ⟨o, e, ex.2.1⟩
  | _ => exact False.elim ty
def tBM0 (K : PySem.W.Frag) (T : String) (r : V → List V → Hp → VK → Prop) (to : TE) : TE := fun σ H Q => to σ H fun x H1 => tyV K T x H1 ∧ r x [] H1 Q
def tBM (K : PySem.W.Frag) (T : String) (r : V → List V → Hp → VK → Prop) (to : TE) (t : TA) : TE := fun σ H Q => to σ H fun x H1 => tyV K T x H1 ∧ t σ H1 fun xs H2 => r x xs H2 Q
variable {o e : Expr} {es : List Expr} {to : TE} {t : TA} {name : Str} {apos cpos : Pos} {T id : String} {r : V → List V → Hp → VK → Prop}
theorem pe_bm0 (pa : PlainAttrs T) (slot : Slot T name id) (hty : typeOf (.builtin id) = pure (.type "method_descriptor")) (hm : MtR X id r) (ho : PE X o to)
    (hbase : attributeBase o name X.env (eval o X.env) = eval o X.env := by rfl) (hline : (apos.endLine == cpos.line) = true := by rfl) : PE X (.Call (.Attribute o name apos) [] [] cpos) (tBM0 X.K T r to) := by
  intro pins s σ H Q I h
  refine wpAny_Call_method0_late hbase hline (thn (ho pins s σ H _ I h) fun v s1 ⟨x, H1, I1, r1, ty, q1⟩ => ?_)
  obtain ⟨h1, h2⟩ := tyV_is I1 r1 ty
  exact ⟨T, id, pa, slot, hty, h1, h2, Calls.callWith_builtin rfl (PySem.evalArgs_none (hm pins s1 σ H1 x [] v [] Q I1 r1 .nil q1))⟩
theorem pe_bm (pa : PlainAttrs T) (slot : Slot T name id) (hty : typeOf (.builtin id) = pure (.type "method_descriptor")) (hm : MtR X id r) (ho : PE X o to) (ha : PA X (e :: es) t)
    (hbase : attributeBase o name X.env (eval o X.env) = eval o X.env := by rfl)
    (hfew : ((backTo cpos (starEach (e :: es) X.env)).all (fun x => !x.1) && (backToKw cpos (keywordEach [] X.env)).all (fun x => x.1.isSome)
      && decide ((e :: es).length + ([] : List Keyword).length + (if ([] : List Keyword).isEmpty then 0 else 1) < 30)) = true := by rfl)
    (hline : (apos.endLine == cpos.line) = true := by rfl) (hs : starEach (e :: es) X.env = (false, eval e X.env) :: starEach es X.env := by rfl) (hplain : (backTo cpos (starEach es X.env)).any (·.1) = false := by rfl) :
    PE X (.Call (.Attribute o name apos) (e :: es) [] cpos) (tBM X.K T r to t) := by
  intro pins s σ H Q I h
  refine wpAny_Call_method_late hbase hfew hline rfl (thn (ho pins s σ H _ I h) fun v s1 ⟨x, H1, I1, r1, ty, q1⟩ => ?_)
  obtain ⟨h1, h2⟩ := tyV_is I1 r1 ty
  refine ⟨T, id, pa, slot, hty, h1, h2, ?_⟩
  have hA := ha cpos pins s1 σ H1 _ I1 q1
  rw [hs] at hA ⊢
  refine Calls.callWith_builtin (by show (false || (backTo cpos (starEach es X.env)).any (·.1)) = false; rw [hplain] <;> rfl) (Calls.evalArgs_plain ?_)
  exact thn hA fun us s2 ⟨vs, H2, I2, r2, q2⟩ => hm pins s2 σ H2 x vs v us Q I2 r1 r2 q2
end
end L2
namespace L2
open PySem PySem.Spec PyProof.Rows
def MtM (X : Cx) (id : String) (r : V → List V → Hp → VK → Prop) : Prop :=
  ∀ (pins : List (Addr × Obj)) (s : Shared) (σ : St) (H : Hp) (x : V) (xs : List V) (v : Value) (us : List Value) (Q : VK), Inv X pins σ H s → RelV x v → Vals xs us → r x xs H Q →
    wpAny (model X.prog X.w) X.A (call (.builtin id) (v :: us)) (EP X pins σ Q) X.xe s
theorem Vals.one : ∀ {x : V} {us : List Value}, Vals [x] us → ∃ u, us = [u] ∧ RelV x u
  | _, _, .cons r .nil => ⟨_, rfl, r⟩
theorem Vals.zero : ∀ {us : List Value}, Vals [] us → us = []
  | _, .nil => rfl
theorem Vals.dropLast {xs : List V} {us : List Value} (h : Vals xs us) : Vals xs.dropLast us.dropLast := by
  induction h with
  | nil => exact .nil
  | cons r t ih =>
    cases t with
    | nil => exact .nil
    | cons q t' => exact .cons r ih
theorem Vals.eraseIdx : ∀ {xs : List V} {us : List Value} (i : Nat), Vals xs us → Vals (xs.eraseIdx i) (us.eraseIdx i)
  | _, _, _, .nil => .nil
  | _, _, 0, .cons _ t => t
  | _, _, i + 1, .cons r t => .cons r (Vals.eraseIdx i t)
theorem erase_last {α : Type} (l : List α) : l.eraseIdx (l.length - 1) = l.dropLast := by
  induction l with
  | nil => rfl
  | cons a r ih =>
    cases r with
    | nil => rfl
    | cons b r =>
      have e : (a :: b :: r).length - 1 = ((b :: r).length - 1) + 1 := by
        have h1 : (a :: b :: r).length = r.length + 2 := rfl
        have h2 : (b :: r).length = r.length + 1 := rfl
        lia
      rw [e, List.eraseIdx_cons_succ, ih]
      all_goals rfl
theorem len_erase {α : Type} : ∀ (l : List α) (i : Nat), (l.eraseIdx i).length ≤ l.length
  | [], _ => Nat.le_refl _
  | _ :: _, 0 => Nat.le_succ _
  | _ :: r, i + 1 => Nat.succ_le_succ (len_erase r i)
section
variable {X : Cx} {pins : List (Addr × Obj)} {σ : St} {H : Hp} {s : Shared} {l b : Addr} {xs ys zs : List V}
theorem Inv.lset {its its' : List Value} {n : Nat} {f : Array Value → Array Value} {t' : Nat} (I : Inv X pins σ H s) (hH : H l = some (.lst xs))
    (e : s.heap.get? l = some { cls := .type "list", data := .seq its.toArray n }) (hf : f its.toArray = its'.toArray) (hv : Vals ys its') (hz : ys.length ≤ sizeLine) :
    Inv X pins σ (upd H l (.lst ys)) { s with heap := s.heap.update l (Obj.mapSeq f), toks := t' } := by
  have q := PySem.IsL.update e f
  rw [hf] at q
  refine I.write (x := l) (e := l) (by rw [hH]; exact trivial) (.inl rfl) (fun b' u hb hu => (Heap.get?_update_other s.heap (Obj.mapSeq f) (Ne.symm hb)).trans hu) ⟨_, q⟩ ?_
  exact ⟨hz, its', _, hv, q⟩
theorem Inv.lnew {its : List Value} {t' : Nat} (I : Inv X pins σ H s) (hv : Vals ys its) (hz : ys.length ≤ sizeLine) :
    Inv X pins σ (upd H s.heap.objs.size (.lst ys)) { s with heap := s.heap.push { cls := .type "list", data := .seq its.toArray }, toks := t' } :=
  I.laid (fun _ _ q => Heap.get?_push_of_some _ q) (Nat.le_refl _) ⟨hz, its, 0, hv, Heap.get?_push_size _ rfl⟩
theorem Inv.fresh (I : Inv X pins σ H s) : H s.heap.objs.size = none := I.hok.fresh (Nat.le_refl _)
theorem Inv.lstM (I : Inv X pins σ H s) (hH : H l = some (.lst xs)) : xs.length ≤ sizeLine ∧ ∃ (its : List Value) (n : Nat), Vals xs its ∧ xs.length = its.length ∧ s.heap.get? l = some { cls := .type "list", data := .seq its.toArray n } := by
  obtain ⟨z, its, n, r, e⟩ := I.hok l _ hH
  exact ⟨z, its, n, r, r.length, e⟩
end
section
variable {X : Cx}
def rAppend : V → List V → Hp → VK → Prop := fun x vs H Q => ∃ l xs y, x = .ref l ∧ vs = [y] ∧ H l = some (.lst xs) ∧ xs.length < sizeLine ∧ Q .non (upd H l (.lst (xs ++ [y])))
theorem mt_append : MtM X "list.append" rAppend := by
  intro pins s σ H x vs v us Q I rx rv h
  obtain ⟨l, xs, y, rfl, rfl, hH, hz, q⟩ := h
  cases rx
  obtain ⟨u, rfl, ru⟩ := rv.one
  obtain ⟨z, its, n, r, hl, e⟩ := I.lstM hH
  refine call_meets F.slot_list_append ⟨_, e, rfl⟩ F.entry_list_append (F.args_list_append_2 _ _) (PySem.list_append l its.toArray n u (by rw [List.size_toArray]; lia)) ⟨e, ?_⟩
  refine ⟨.non, _, I.lset (its' := its ++ [u]) hH e (by simp) (r.append (.cons ru .nil)) ?_, rfl, q⟩
  rw [List.length_append, List.length_singleton]
  lia
def rPop : V → List V → Hp → VK → Prop := fun x vs H Q => ∃ l xs y, x = .ref l ∧ vs = [] ∧ H l = some (.lst xs) ∧ xs[xs.length - 1]? = some y ∧ Q y (upd H l (.lst xs.dropLast))
theorem mt_pop : MtM X "list.pop" rPop := by
  intro pins s σ H x vs v us Q I rx rv h
  obtain ⟨l, xs, y, rfl, rfl, hH, hy, q⟩ := h
  cases rx
  have hus := rv.zero
  subst hus
  obtain ⟨z, its, n, r, hl, e⟩ := I.lstM hH
  obtain ⟨u, hu, ru⟩ := r.get hy
  have hy' : its.toArray[its.toArray.size - 1]? = some u := by
    show its.toArray[its.length - 1]? = some u
    rw [← Array.getElem?_toList, ← hl]
    exact hu
  refine call_meets F.slot_list_pop ⟨_, e, rfl⟩ F.entry_list_pop (F.args_list_pop_1 _) (MeetsSeq.list_pop_last l its.toArray n u hy' (by rw [List.size_toArray]; lia)) ⟨e, ?_⟩
  refine ⟨y, _, I.lset (its' := its.dropLast) hH e ?_ r.dropLast ?_, ru, q⟩
  · show its.toArray.eraseIdxIfInBounds (its.toArray.size - 1) = its.dropLast.toArray
    rw [List.size_toArray, List.eraseIdxIfInBounds_toArray, erase_last]
  · rw [List.length_dropLast]
    lia
def rPopAt : V → List V → Hp → VK → Prop := fun x vs H Q => ∃ l xs i k y, x = .ref l ∧ vs = [.int i] ∧ H l = some (.lst xs) ∧ -(2 ^ 63) ≤ i ∧ i < 2 ^ 63 ∧ seqIndex? i xs.length = some k ∧ xs[k]? = some y ∧ Q y (upd H l (.lst (xs.eraseIdx k)))
theorem mt_popAt : MtM X "list.pop" rPopAt := by
  intro pins s σ H x vs v us Q I rx rv h
  obtain ⟨l, xs, i, k, y, rfl, rfl, hH, h1, h2, hk, hy, q⟩ := h
  cases rx
  obtain ⟨u, rfl, ru⟩ := rv.one
  obtain ⟨t, rfl⟩ := ru
  obtain ⟨z, its, n, r, hl, e⟩ := I.lstM hH
  obtain ⟨w, hw, rw'⟩ := r.get hy
  refine call_meets F.slot_list_pop ⟨_, e, rfl⟩ F.entry_list_pop (F.args_list_pop_2 _ _)
    (MeetsSeq.list_pop_at l its.toArray n i t k w (fitsIndex_both h1 h2) (by rw [List.size_toArray, ← hl]; exact hk) (by rw [← Array.getElem?_toList]; exact hw) (by rw [List.size_toArray]; lia)) ⟨e, ?_⟩
  refine ⟨y, _, I.lset (its' := its.eraseIdx k) hH e ?_ (r.eraseIdx k) ?_, rw', q⟩
  · show its.toArray.eraseIdxIfInBounds k = (its.eraseIdx k).toArray
    rw [List.eraseIdxIfInBounds_toArray]
  · have := len_erase xs k
    lia
def rCat : R2 := fun x y H Q => ∃ l b xs zs, x = .ref l ∧ y = .ref b ∧ H l = some (.lst xs) ∧ H b = some (.lst zs) ∧ xs.length + zs.length ≤ sizeLine ∧ ∀ p, H p = none → Q (.ref p) (upd H p (.lst (xs ++ zs)))
theorem op_cat : OpR X (binaryOp .Add) rCat := by
  intro pins s σ H x y v u Q I rx ry h
  obtain ⟨l, b, xs, zs, rfl, rfl, hH, hB, hz, q⟩ := h
  cases rx
  cases ry
  obtain ⟨z, its, n, r, hl, e⟩ := I.lstM hH
  obtain ⟨z2, its2, n2, r2, hl2, e2⟩ := I.lstM hB
  refine PySem.P.add_list e e2 ?_ (by rw [List.size_toArray, List.size_toArray]; lia)
  have ea : its.toArray ++ its2.toArray = (its ++ its2).toArray := by simp
  rw [ea]
  exact ⟨.ref _, _, I.lnew (t' := s.toks) (r.append r2) (by rw [List.length_append]; lia), rfl, q _ I.fresh⟩
end
section
variable {prog : Program} {w : World} {A : Around} {E : Value → Shared → Prop} {s : Shared}
end
section
variable {X : Cx}
end
end L2
namespace Att
open PySem PySem.W PySem.Calls PyProof.Rows
theorem ints_of_wellAll {P : Params} {h : Heap} : ∀ (ns : List Int) (vs : List Value), WellAll P h vs (ns.map WData.int) → IntsAre vs ns := by
  intro ns
  induction ns with
  | nil =>
    intro vs w
    rw [List.map_nil] at w
    cases w
    exact .nil
  | cons n ns ih =>
    intro vs w
    rw [List.map_cons] at w
    cases w with
    | cons a b =>
      cases a
      exact .cons _ _ (ih _ b)
theorem script_of {l : OpenLaw} {n : Nat} (hn : l.most = some n) {P : Params} {h : Heap} {args : List WData} {vals : List Value}
    (hpre : l.row.toRowW.claim.pre args = true) (hwl : WellAll P h vals args) :
    ∃ a vs ns, vals = [Value.ref a] ∧ args = [WData.list (ns.map WData.int)] ∧ h.get? a = some { cls := .type "list", data := .seq vs.toArray } ∧ IntsAre vs ns ∧ ns.length ≤ n := by
  have hsh : WShape.hasAll [] args [.list .int] = true := (pre_splitW hpre).1
  have hc : l.pre.holds [] { args := args } = true := (pre_splitW hpre).2
  obtain ⟨d, r, rfl, h1, h2⟩ := hasAllW_cons hsh
  obtain rfl := hasAllW_nil h2
  obtain ⟨xs, rfl, h3⟩ := hasW_list h1
  obtain ⟨ns, rfl⟩ := items_int h3
  have hlen : ns.length ≤ n := by
    unfold OpenLaw.pre at hc
    have h4 : (WTm.not (.lt (.lit (.int (n : Int))) (.len (.arg 0)))).holds [] { args := [.list (ns.map .int)] } = true := by
      have h4 := (holds_andW hc).1
      rw [hn] at h4
      exact h4
    have h5 := condW_of h4 (w_not (w_lt w_lit (w_len_list (w_arg rfl))))
    rw [List.length_map] at h5
    refine Nat.le_of_not_lt fun q => ?_
    have q' : (n : Int) < ((ns.length : Nat) : Int) := by lia
    first
      | (rw [decide_eq_true q'] at h5; exact absurd h5 (by decide))
      | (simp at h5; lia)
  cases hwl with
  | cons w1 w2 =>
    cases w2
    cases w1 with
    | list ho hall => exact ⟨_, _, ns, rfl, rfl, ho, ints_of_wellAll ns _ hall, hlen⟩
theorem post_true (l : OpenLaw) (args : List WData) : l.row.toRowW.claim.post args (.bool true) args = true :=
  postW_of (r := l.row.toRowW) (X := (true == true))
    (show WShape.has [] (.bool true) .bool = true by first | rfl | decide | simp [WShape.has, WShape.arms, WShape.armsAll])
    (show (WTm.eq .res (.lit (.bool true))).value [] { args := args, res := some (.bool true), after := args } = some (.bool (true == true)) from w_eq_bool (w_res rfl) w_lit) rfl
theorem attach_call {l : OpenLaw} {n : Nat} {q : Program} {loose : List Str} {XP : (Str → Option Value) → Heap → Prop} {YP : World → Heap → Prop} {d : DefRec}
    (hn : l.most = some n) (hdf : d.params.defaults = [])
    (call : ∀ (w : World) (s₀ s₁ : Shared) (mg mb : Str → Option Value) (fa : Addr) (o : Obj) (pm cd doc : Value) (a : Addr) (vs : List Value) (ns : List Int),
      Ground q loose [] XP w s₀ mg mb s₁.heap → YP w s₁.heap →
      s₁.heap.get? fa = some o → o.data = .func (docDef d.name d.params d.body d.scope pm cd doc) → s₁.heap.CodeRec cd d.name → mg d.name = some (.ref fa) →
      s₁.heap.get? a = some { cls := .type "list", data := .seq vs.toArray } → IntsAre vs ns → ns.length ≤ n → s₁.gens = #[] →
      codeAny (model l.prog w) callerA (.call (.ref fa) ⟨[.ref a], []⟩) (fun r s' => r = .ok (.ret (.bool true)) ∧ OldK s₁.heap s'.heap ∧ s'.os = s₁.os ∧ AllBare s'.gens) s₁) :
    WalkO q loose XP YP l.row.toRowW d [] (fun f vs => PySem.call f vs) := by
  intro w s₀ s₁ mg mb G Y fa o pm cd doc dV kV ho hd hcd hD hmg hg args vals as hpre hlay hrd hwl hlo
  obtain rfl : dV = .none := Dflts.none hD hdf
  obtain rfl : kV = .none := Dflts.noKw hD
  obtain ⟨a, vs, ns, rfl, rfl, hobj, hints, hlen⟩ := script_of hn hpre hwl
  refine enter_call (codeAny_mono (call w s₀ s₁ mg mb fa o pm cd doc a vs ns G Y ho (fd_plain hd) hcd hmg hobj hints hlen hg) fun r s' hq => ?_)
  obtain ⟨rfl, h2, h3, h4⟩ := hq
  exact ⟨.inl ⟨.bool true, .bool true, [], rfl, fun _ => rfl, .bool true, post_true l _, fun _ => ⟨List.Pairwise.nil, fun _ hm => (nomatch hm)⟩⟩, h2, h3, h4⟩
section
variable {prog : Program} {w : World} {A : Around} {E : Value → Shared → Prop} {s : Shared} {K : Frag}
end
end Att
namespace L2
open PySem PySem.Spec PyProof.Rows
theorem vals_ints : ∀ {vs : List Value} {ns : List Int}, IntsAre vs ns → Vals (ns.map V.int) vs
  | _, _, .nil => .nil
  | _, _, .cons n t h => .cons ⟨t, rfl⟩ (vals_ints h)
def Only (H : Hp) : Prop := ∀ b, H b = none ∨ ∃ o xs, H b = some (.frz o (.lst xs))
theorem law_call {P : Program} {w : World} {K : PySem.W.Frag} {mg mb : Str → Option Value} {CX : CXT} {k : Nat} {fa a : Addr} {fd : FuncData} {x : Str} {sp : Sp} {s₁ : Shared} {vs : List Value} {ns : List Int}
    (KX : K.In s₁.heap) (hns : s₁.heap.Ns mainGlobals mg) (hb : s₁.heap.Ns builtinsNs mb) (hbb : ∀ x : Str, x ≠ "__name__" → mb x = bootBuiltins x) (hlim : s₁.heap.NoLimit) (hg : s₁.gens = #[])
    (ha : s₁.heap.get? a = some { cls := .type "list", data := .seq vs.toArray }) (hi : IntsAre vs ns) (hl : ns.length ≤ sizeLine) (hr : Room k callerA)
    (F : ∀ base : Heap, K.In base → base.Ns mainGlobals mg → FnOk P w K mg base CX k fa fd [x] sp) (hbind : ∀ (s : Shared) (u : Value), BindsTo s fd ⟨[u], []⟩ [(x, u)])
    (hsp : ∀ H : Hp, Only H → SqL K H a (ns.map V.int) → sp [.ref a] H (fun v _ => v = .bl true) fun _ _ _ => False)
    (hCX : ∀ H e s', CX [] H s₁ (fun _ _ _ => False) e s' → False) :
    codeAny (model P w) callerA (.call (.ref fa) ⟨[.ref a], []⟩) (fun r s' => r = .ok (.ret (.bool true)) ∧ OldK s₁.heap s'.heap ∧ s'.os = s₁.os ∧ AllBare s'.gens) s₁ := by
  have rv := vals_ints hi
  have lenV := hi.length
  -- from an abstract heap in which nothing but the script may be tracked
  have core : ∀ H : Hp, Only H → SqL K H a (ns.map V.int) → HOk P w H s₁.heap → (∀ b, H b ≠ none → b = a) → (H a ≠ none → K.lookup a = none) →
      codeAny (model P w) callerA (.call (.ref fa) ⟨[.ref a], []⟩) (fun r s' => r = .ok (.ret (.bool true)) ∧ OldK s₁.heap s'.heap ∧ s'.os = s₁.os ∧ AllBare s'.gens) s₁ := by
    intro H hO hS hok hA hK
    have base_of : ∀ {b : Addr} {o : Obj}, s₁.heap.get? b = some o → H b = none → (hidT s₁.heap H).get? b = some o := fun e n => hidT_get e n
    have noA : ∀ {b : Addr} {o : Obj} {es : Array DictEntry} {ep : Nat}, s₁.heap.get? b = some o → o.data = .dict es ep → H b = none := fun {b o es ep} e d => by
      cases q : H b with
      | none => rfl
      | some u =>
        have e' : b = a := hA b (by rw [q]; simp)
        subst e'
        rw [ha] at e; cases e
        have d' : Data.seq vs.toArray _ = Data.dict es ep := d
        cases d'
    have nsK : ∀ {b : Addr} {m : Str → Option Value}, s₁.heap.Ns b m → (hidT s₁.heap H).Ns b m := fun {b m} ⟨o, es, ep, e, d, r⟩ => ⟨o, es, ep, base_of e (noA e d), d, r⟩
    have hKb : K.In (hidT s₁.heap H) := fun b o e => base_of (KX b o e) (by
      cases q : H b with
      | none => rfl
      | some u =>
        have e' : b = a := hA b (by rw [q]; simp)
        subst e'
        rw [hK (by rw [q]; simp)] at e; cases e)
    have hM : Mod K mg (hidT s₁.heap H) := ⟨hKb, nsK hns, ⟨mb, nsK hb, hbb⟩, let ⟨mc, h1, h2⟩ := hlim; ⟨mc, nsK h1, h2⟩⟩
    have e0 : Env0 P w K mg (hidT s₁.heap H) callerA [] s₁ H := ⟨rfl, hM, fun b o e => of_hidT e, Nat.le_of_eq (hidT_size _ _), trivial, fun b hb => absurd (show b ∈ ([] : List Addr) from hb) (by simp), hok, .of_eq hg⟩
    refine codeAny_mono ((F _ hKb (nsK hns)).run callerA [] s₁ H ⟨[.ref a], []⟩ [.ref a] [.ref a] _ _ hr e0 (hbind s₁ (.ref a)) (.cons rfl .nil) (hsp H hO hS)) fun r s' h => ?_
    cases r with
    | error e => exact (hCX H e s' h).elim
    | ok fl =>
      cases fl with
      | next => exact False.elim h
      | brk => exact False.elim h
      | cont => exact False.elim h
      | ret u =>
        obtain ⟨v, H', os, bare, un, hok', r', q⟩ := h
        have q' : v = .bl true := q
        subst q'
        obtain rfl : u = Value.bool true := r'
        refine ⟨rfl, OldK.of_keep fun b o e => ?_, os, bare⟩
        cases q : H b with
        | none => exact un.keep b o e q (by intro z; exact absurd (show b ∈ ([] : List Addr) from z) (by simp)) (by simp)
        | some u =>
          rcases hO b with z | ⟨ob, xs, z⟩
          · rw [q] at z; cases z
          · have z2 := un.frzs b ob _ z
            obtain ⟨e1, _⟩ := hok b _ z
            obtain ⟨e2, _⟩ := hok' b _ z2
            rw [e] at e1; cases e1
            exact e2
  cases hk : K.lookup a with
  | some o =>
    -- the script is one of the module's own objects
    have e := KX a o hk
    rw [ha] at e
    cases e
    refine core (fun _ => none) (fun _ => .inl rfl) (.inr ⟨_, vs.toArray, _, hk, rfl, rfl, rfl, by rw [List.size_toArray, lenV]; exact hl, by simpa using rv⟩) (fun b u z => by have z' : (none : Option HO) = some u := z; cases z') (fun b z => absurd rfl z) fun z => absurd rfl z
  | none =>
    refine core (fun b => if b = a then some (.frz { cls := .type "list", data := .seq vs.toArray } (.lst (ns.map V.int))) else none) (fun b => ?_) (.inl (.inr ⟨{ cls := .type "list", data := .seq vs.toArray }, if_pos rfl⟩)) (fun b u z => ?_) (fun b z => ?_) fun _ => hk
    · by_cases hb : b = a
      · exact .inr ⟨_, _, if_pos hb⟩
      · exact .inl (if_neg hb)
    · by_cases hb : b = a
      · have z' := (if_pos hb).symm.trans z
        cases z'
        subst hb
        exact ⟨ha, by rw [List.length_map]; exact hl, vs, _, rv, ha⟩
      · have z' := (if_neg hb).symm.trans z
        cases z'
    · by_cases hb : b = a
      · exact hb
      · exact absurd (if_neg hb) z
end L2
namespace L2
open PySem PySem.Spec PyProof.Rows
theorem walk_of {l : PySem.W.OpenLaw} {n k : Nat} {q : Program} {loose : List Str} {XP : (Str → Option Value) → Heap → Prop} {YP : World → Heap → Prop} {d : DefRec} {K : Params → PySem.W.Frag} {CX : World → CXT} {sp : World → Sp} {x : Str}
    (hn : l.most = some n) (hn2 : n ≤ sizeLine) (hdf : d.params.defaults = []) (hr : Room k callerA)
    (hY : ∀ (w : World) (h : Heap), YP w h → (K w.params).In h)
    (F : ∀ (w : World) (mg : Str → Option Value) (fa : Addr) (h : Heap), (K w.params).In h → h.Ns mainGlobals mg → mg d.name = some (.ref fa) →
      ∃ fd : FuncData, (∀ (s : Shared) (u : Value), BindsTo s fd ⟨[u], []⟩ [(x, u)]) ∧
        ∀ base : Heap, (K w.params).In base → base.Ns mainGlobals mg → FnOk l.prog w (K w.params) mg base (CX w) k fa fd [x] (sp w))
    (hsp : ∀ (w : World) (H : Hp) (a : Addr) (ns : List Int), ns.length ≤ n → Only H → SqL (K w.params) H a (ns.map V.int) → sp w [.ref a] H (fun v _ => v = .bl true) fun _ _ _ => False)
    (hCX : ∀ (w : World) (H : Hp) (s : Shared) (e : Value) (s' : Shared), CX w [] H s (fun _ _ _ => False) e s' → False) :
    PySem.W.WalkO q loose XP YP l.row.toRowW d [] (fun f vs => PySem.call f vs) := by
  refine Att.attach_call hn hdf fun w s₀ s₁ mg mb fa o pm cd doc a vs ns G Y ho hd hcd hmg hobj hints hlen hg => ?_
  have KX := hY w _ Y
  obtain ⟨fd, hb, hF⟩ := F w mg fa _ KX G.T.g hmg
  exact law_call KX G.T.g G.T.b G.T.builtins G.T.nolimit hg hobj hints (Nat.le_trans hlen hn2) hr hF hb (fun H hO hS => hsp w H a ns hlen hO hS) fun H e s' => hCX w H s₁ e s'
end L2
namespace L2
open PySem PySem.Spec PyProof.Rows
def inClass (s : Stmt) (j : Nat) : Stmt := match s with
  | .ClassDef _ _ _ body _ _ _ _ _ _ _ => body.getD j (.Pass ⟨0, 0, 0, 0⟩)
  | _ => .Pass ⟨0, 0, 0, 0⟩
def defArgs (s : Stmt) : Arguments := match s with
  | .FunctionDef _ a _ _ _ _ _ _ _ _ => a
  | _ => { posonlyargs := [], args := [], vararg := none, kwonlyargs := [], kw_defaults := [], kwarg := none, defaults := [] }
def defBody (s : Stmt) : List Stmt := match s with
  | .FunctionDef _ _ b _ _ _ _ _ _ _ => b
  | _ => []
def defScope (s : Stmt) : Scope := match s with
  | .FunctionDef _ _ _ _ _ _ sc _ _ _ => sc
  | _ => { kind := .function, names := [], isGenerator := false, isCoroutine := false }
abbrev CX0 : CXT := fun _ _ _ _ _ _ => False
abbrev E0 : XK := fun _ _ _ => False
theorem pass0 {X : Cx} : Passes CX0 X E0 := fun _ _ _ _ _ _ _ h => h.elim
structure Fun (K : PySem.W.Frag) (x qual : Str) (st : Stmt) (f : Addr) (fd : FuncData) : Prop where
  ex : ∃ (oc : Value) (od : Option Addr) (kV doc pm : Value) (an : Option Addr) (cdv ct : Value) (osl : Array (Option Value)),
    fd = PySem.W.fnOf x qual (defArgs st) (defBody st) (defScope st) .none kV doc pm an cdv ct ∧ K.lookup f = some ⟨oc, od, .func fd, osl⟩ ∧ PySem.W.codeIn K cdv qual = true
  kp : PySem.W.keepIn K (.ref f) = true
section
variable {P : Program} {w : World} {K : PySem.W.Frag} {mg : Str → Option Value} {base : Heap}
theorem Fun.ok {x qual : Str} {st : Stmt} {f : Addr} {fd : FuncData} {N ps : List Str} {k : Nat} {sp : Sp} (F : Fun K x qual st f fd) (S : FnScope N ps (defScope st)) (len : ∀ vs H Q E, sp vs H Q E → vs.length = ps.length)
    (hbody : ∀ (cdv : Value) (A : Around) (outer : List Env) (s : Shared) (H : Hp) (vs : List V) (Q : VK) (E : XK), Room k (A.deeper (envOfC qual (defScope st) s.heap.objs.size f cdv)) → sp vs H Q E →
      ∃ t, PSs (cxOf CX0 P w K mg base N qual (defScope st) f cdv A outer s H E).nox (defBody st) t ∧ t { nx := fun _ H' => Q .non H', rt := Q } (start N vs) H) : FnOk P w K mg base CX0 (k + 1) f fd ps sp := by
  obtain ⟨oc, od, kV, doc, pm, an, cdv, ct, osl, rfl, lk, hcd⟩ := F.ex
  refine fn_of lk hcd S len fun A outer s H vs Q E hr hsp => ?_
  obtain ⟨t, h, q⟩ := hbody cdv A outer s H vs Q E hr hsp
  exact ⟨t, h.nox, q⟩
theorem Fun.binds {x qual : Str} {st : Stmt} {f : Addr} {fd : FuncData} {ps : List Str} (F : Fun K x qual st f fd)
    (h : ∀ (kV doc pm : Value) (an : Option Addr) (cdv ct : Value) (us : List Value), us.length = ps.length → bindArgs (PySem.W.fnOf x qual (defArgs st) (defBody st) (defScope st) .none kV doc pm an cdv ct) ⟨us, []⟩ = pure (ps.zip us)) : Binds K fd ps [] := by
  obtain ⟨oc, od, kV, doc, pm, an, cdv, ct, osl, rfl, lk, hcd⟩ := F.ex
  exact .all (h kV doc pm an cdv ct)
theorem fun_mk {x qual : Str} {st : Stmt} {f : Addr} {oc : Value} {od an : Option Addr} {osl : Array (Option Value)} {kV doc pm cdv ct : Value} (l : K.lookup f = some ⟨oc, od, .func (PySem.W.fnOf x qual (defArgs st) (defBody st) (defScope st) .none kV doc pm an cdv ct), osl⟩)
    (c : PySem.W.codeIn K cdv qual = true) (k : PySem.W.keepIn K (.ref f) = true) : Fun K x qual st f (PySem.W.fnOf x qual (defArgs st) (defBody st) (defScope st) .none kV doc pm an cdv ct) := ⟨⟨oc, od, kV, doc, pm, an, cdv, ct, osl, rfl, l, c⟩, k⟩
end
theorem hu_of {A : Around} {k : Nat} (hr : Room k A) : A.units + 1 < cLine := Nat.lt_of_le_of_lt (Nat.add_le_add_left (by decide : 1 ≤ 64) _) hr.units
theorem small1000 {n : Nat} (h : n ≤ 1000) : n < sizeLine := Nat.lt_of_le_of_lt h (by decide)
section
variable {X : Cx}
end
theorem iteF {A B : Prop} (h : B) : if false = true then A else B := by
  rw [if_neg Bool.false_ne_true]
  exact h
theorem iteT {A B : Prop} (h : A) : if true = true then A else B := by
  rw [if_pos rfl]
  exact h
theorem ite2 {c A B : Prop} [Decidable c] (h1 : c → A) (h2 : ¬ c → B) : if c then A else B := by
  by_cases h : c
  · rw [if_pos h]
    exact h1 h
  · rw [if_neg h]
    exact h2 h
def Same (H H' : Hp) : Prop := ∀ b o, H b = some o → H' b = some o
theorem Same.refl (H : Hp) : Same H H := fun _ _ h => h
theorem Same.trans {H H1 H2 : Hp} (a : Same H H1) (b : Same H1 H2) : Same H H2 := fun c o h => b c o (a c o h)
end L2
end
section
set_option linter.all false
set_option maxRecDepth 100000
set_option maxHeartbeats 4000000
namespace L2
open PySem PySem.Spec PyProof.Rows
def ltV : V → V → Bool
  | .int a, .int b => decide (a < b)
  | .str a, .str b => decide (a.cps.toList < b.cps.toList)
  | _, _ => false
def fitV : V → V → Prop
  | .int _, .int _ => True
  | .str _, .str _ => True
  | _, _ => False
def lexV : List V → List V → Bool
  | [], [] => false
  | [], _ :: _ => true
  | _ :: _, [] => false
  | x :: xs, y :: ys => if x = y then lexV xs ys else ltV x y
theorem lexV_cons (x y : V) (xs ys : List V) : lexV (x :: xs) (y :: ys) = if x = y then lexV xs ys else ltV x y := rfl
def fitL : List V → List V → Prop
  | x :: xs, y :: ys => fitV x y ∧ fitL xs ys
  | _, _ => True
theorem eqAt_fit {a c : V} {v u : Value} (A : Around) (s : Shared) (h : fitV a c) (ra : RelV a v) (rc : RelV c u) : ∃ e, SeqAt.EqAt A s v u e ∧ (e = true ↔ a = c) := by
  cases a with
  | int i =>
    cases c with
    | int j =>
      obtain ⟨t, rfl⟩ := ra
      obtain ⟨t', rfl⟩ := rc
      exact ⟨_, SeqAt.EqAt.int_int i t j t', by simp⟩
    | _ => exact h.elim
  | str i =>
    cases c with
    | str j =>
      obtain ⟨t, rfl⟩ := ra
      obtain ⟨t', rfl⟩ := rc
      exact ⟨_, SeqAt.EqAt.str_str i t j t', by simp⟩
    | _ => exact h.elim
  | _ => exact h.elim
theorem rcLt_fit {a c : V} {v u : Value} (A : Around) (s : Shared) (h : fitV a c) (ra : RelV a v) (rc : RelV c u) (prog : Program) (w : World) {E : Value → Shared → Prop} {Q : Value → Shared → Prop} (q : Q (.bool (ltV a c)) s) :
    wpAny (model prog w) A (richCompare .Lt v u) Q E s := by
  cases a with
  | int i =>
    cases c with
    | int j =>
      obtain ⟨t, rfl⟩ := ra
      obtain ⟨t', rfl⟩ := rc
      exact (PyProof.Rows.lt_int q : wpAny (model prog w) A (compareOp .Lt (.int i t) (.int j t')) Q E s)
    | _ => exact h.elim
  | str i =>
    cases c with
    | str j =>
      obtain ⟨t, rfl⟩ := ra
      obtain ⟨t', rfl⟩ := rc
      exact (PySem.P.lt_str q : wpAny (model prog w) A (compareOp .Lt (.str i t) (.str j t')) Q E s)
    | _ => exact h.elim
  | _ => exact h.elim
section
open PySem.SeqAt
open PySem.AutoSeq1 (wpAny_loadPart')
open PySem.MeetsSeq PySem.MeetsSeq2 PySem.MeetsSeq3
theorem tuple_lt_V (l b : Addr) (items items2 : Array Value) (n n2 : Nat) (dd dd2 : Option Addr) (sl sl2 : Array (Option Value)) (xs ys : List V) (hi : Vals xs items.toList) (hj : Vals ys items2.toList) (hf : fitL xs ys) :
    Meets (Builtin.«tuple.__lt__» ⟨[.ref l, .ref b], []⟩)
      (fun _ R s => s.heap.get? l = some { cls := .type "tuple", dict := dd, data := .seq items n, slots := sl } ∧ s.heap.get? b = some { cls := .type "tuple", dict := dd2, data := .seq items2 n2, slots := sl2 } ∧
        R (.ok (.ret (.bool (lexV xs ys)))) s) :=
  .of_wp fun prog w A R s h => by
    obtain ⟨hp, g, d, tk, os⟩ := s; obtain ⟨hl, hb, h⟩ := h
    have f2 := AutoSeq1.sub_tuple_tuple
    have z1 : items.size = xs.length := by rw [hi.length]; simp
    have z2 : items2.size = ys.length := by rw [hj.length]; simp
    wp_walk using wpAny_loadPart' hl, wpAny_loadPart' hb, wpAny_forIn_list _ (fun rest b s' => b.1 = none ∧ s' = ⟨hp, g, d, tk, os⟩ ∧ ∃ (vs ws : List Value) (xs' ys' : List V), rest = vs.zip ws ∧
      Vals xs' vs ∧ Vals ys' ws ∧ fitL xs' ys' ∧ xs'.length + items2.size = ys'.length + items.size ∧ R (.ok (.ret (.bool (lexV xs' ys')))) ⟨hp, g, d, tk, os⟩) _
    case turn =>
      rintro ⟨y, x⟩ rest b s' ⟨hb', rfl, vs, ws, xs', ys', hz, hvi, hwi, hft, hlen, hR⟩
      cases hvi with
      | nil => rw [List.zip_nil_left] at hz; cases hz
      | @cons a v as vs' ra hvi' =>
        cases hwi with
        | nil => rw [List.zip_nil_right] at hz; cases hz
        | @cons c u cs ws' rc hwi' =>
          rw [List.zip_cons_cons] at hz
          injection hz with hyx hrest
          injection hyx with hy hx
          subst hy hx
          simp only [List.length_cons] at hlen
          obtain ⟨fac, fit'⟩ : fitV a c ∧ fitL as cs := hft
          obtain ⟨e, he, hiff⟩ := eqAt_fit A.in1 ⟨hp, g, d, tk, os⟩ fac ra rc
          refine wpAny_bind (he prog w _ _ ?_)
          cases e with
          | true =>
            have hac := hiff.mp rfl
            have hR2 : R (.ok (.ret (.bool (lexV as cs)))) ⟨hp, g, d, tk, os⟩ := by
              subst hac
              rw [lexV_cons, if_pos rfl] at hR; exact hR
            wp_walk
            exact ⟨rfl, rfl, _, _, _, _, hrest, hvi', hwi', fit', by lia, hR2⟩
          | false =>
            have hac : ¬ a = c := fun q => absurd (hiff.mpr q) Bool.false_ne_true
            have hR2 : R (.ok (.ret (.bool (ltV a c)))) ⟨hp, g, d, tk, os⟩ := by
              rw [lexV_cons, if_neg (by intro q; exact hac q)] at hR; exact hR
            have hri := fun E Q h => rcLt_fit (E := E) (Q := Q) A.in1 ⟨hp, g, d, tk, os⟩ fac ra rc prog w h
            wp_walk using hri
            exact ⟨_, rfl, by simpa using hR2⟩
    case fin =>
      rintro ⟨b1, b2⟩ s' ⟨hb', rfl, vs, ws, xs', ys', hz, hvi, hwi, hft, hlen, hR⟩
      simp only at hb'
      subst hb'
      have hv : lexV xs' ys' = decide (items.size < items2.size) := by
        cases hvi with
        | nil =>
          cases hwi with
          | nil =>
            simp only [List.length_nil] at hlen
            rw [show lexV [] [] = false from rfl]
            exact (decide_eq_false (by lia)).symm
          | cons ru hw =>
            simp only [List.length_nil, List.length_cons] at hlen
            exact (decide_eq_true (by lia)).symm
        | cons ra hv =>
          cases hwi with
          | nil =>
            simp only [List.length_nil, List.length_cons] at hlen
            exact (decide_eq_false (by lia)).symm
          | cons ru hw =>
            rw [List.zip_cons_cons] at hz
            cases hz
      rw [hv] at hR
      wp_walk
      exact ⟨_, rfl, by simpa [Builtin.Tuple.tupleCompareSizes] using hR⟩
    case h =>
      exact ⟨rfl, rfl, items.toList, items2.toList, xs, ys, rfl, hi, hj, hf, by lia, h⟩
end
def rLtV (K : PySem.W.Frag) : R2 := fun x y H Q => ∃ a b xs ys, x = .ref a ∧ y = .ref b ∧ SqT K H a xs ∧ SqT K H b ys ∧ fitL xs ys ∧ Q (.bl (lexV xs ys)) H
theorem op_ltV {X : Cx} (hu : X.A.units < cLine) : OpR X (compareOp .Lt) (rLtV X.K) := by
  intro pins s σ H x y v u Q I rx ry h
  obtain ⟨a, b, xs, ys, rfl, rfl, ha, hb, hf, q⟩ := h
  cases rx
  cases ry
  obtain ⟨its, r1, p1, _⟩ := I.tuple ha
  obtain ⟨its2, r2, p2, _⟩ := I.tuple hb
  obtain ⟨⟨cls, dd, data, sl⟩, ho, hc, n, hd⟩ := id p1
  obtain ⟨⟨cls2, dd2, data2, sl2⟩, ho2, hc2, n2, hd2⟩ := id p2
  simp only at hc hd hc2 hd2
  subst hc hd hc2 hd2
  exact richCompare_meets_room (op := .Lt) ⟨_, ho, rfl⟩ ⟨_, ho2, rfl⟩ PySem.F.slot_tuple_lt PySem.F.entry_tuple_lt (PySem.F.args_tuple_lt_2 _ _) (tuple_lt_V a b _ _ n n2 dd dd2 sl sl2 xs ys r1 r2 hf)
    ⟨ho, ho2, show Value.bool (lexV xs ys) ≠ Value.notImplemented ∧ EP X pins σ Q (.bool (lexV xs ys)) s from ⟨(fun x => nomatch x), .bl _, H, I, rfl, q⟩⟩ hu
end L2
end
section
set_option linter.all false
set_option maxRecDepth 100000
set_option maxHeartbeats 4000000
namespace L2
open PySem PySem.Spec PyProof.Rows
def isEn (l : List V) : Prop := ∃ i x j, l = [.int i, .str x, .int j]
theorem str_ext {a b : Str} (h : a.cps.toList = b.cps.toList) : a = b := by
  cases a with | mk c => cases b with | mk d => congr 1; exact Array.toList_inj.mp h
theorem fit_en {a b : List V} (ha : isEn a) (hb : isEn b) : fitL a b := by
  obtain ⟨i, x, j, rfl⟩ := ha
  obtain ⟨i', x', j', rfl⟩ := hb
  exact ⟨trivial, trivial, trivial, trivial⟩
section
variable {X : Cx}
theorem vals3 {x y z : V} {us : List Value} (r : Vals [x, y, z] us) : ∃ u v w, us = [u, v, w] ∧ RelV x u ∧ RelV y v ∧ RelV z w := by
  cases r with
  | cons r1 r2 =>
    cases r2 with
    | cons r3 r4 =>
      cases r4 with
      | cons r5 r6 => cases r6; exact ⟨_, _, _, rfl, r1, r3, r5⟩
end
end L2
end
section
set_option linter.all false
set_option maxRecDepth 100000
set_option maxHeartbeats 4000000
namespace L2
open PySem PySem.Spec PyProof.Rows
def Cx.blk (X : Cx) (scope : Scope) (cl : List (Str × Addr)) (C : Addr) (NB : List Str) (fp : List Addr) (s₀ : Shared) (H₀ : Hp) : Cx :=
  { X with N := NB, s₀ := s₀, H₀ := H₀, env := compEnvC scope cl C X.env, outer := X.stack, ex := X.ex ++ fp, fn := fun _ => false, pn := [], xe := fun _ _ => False }
structure Blk (X : Cx) (scope : Scope) (cl : List (Str × Addr)) (x : Str) (NB : List Str) (cap : List Nat) : Prop where
  clos : closureFor scope X.env = pure cl
  nocell : ∀ y ∈ scope.names, y.2 ≠ .cell
  kind : scope.kind = .function
  names : ∀ y ∈ scope.names, y.2 = .local → scope.names.lookup y.1 = some .local
  cells : ∀ y c, cl.lookup y = some c → X.env.cells.lookup y = some c
  has : ∀ y, ((relabel scope X.env).names.lookup y = some .cell ∨ (relabel scope X.env).names.lookup y = some .free) → ∃ c, cl.lookup y = some c
  len : cap.length = NB.length
  /-- the slot j + 1 of the block is the slot i of X, by a cell -/
  cap : ∀ (j i : Nat), cap[j]? = some i → ∃ y, NB[j]? = some y ∧ X.N[i]? = some y ∧ Vis X.env.scope y ∧ (X.env.kindOf y = some .cell ∨ X.env.kindOf y = some .free) ∧ ((relabel scope X.env).names.lookup y = some .cell ∨ (relabel scope X.env).names.lookup y = some .free)
  own : scope.names.lookup x = some .local
  nd : (x :: NB).Nodup
def capσ (cap : List Nat) (σ : St) : St := cap.map fun i => σ[i]?.join
def tComp (wi : TI) (tt : TT) (te : TE) (cap : List Nat) : TE := fun σ H Q => wi σ H fun J H1 => ∀ D, H1 D = none →
  ∃ W : Nat → Nat → List V → Hp → Prop, (∃ m, W 0 m [] (upd H1 D (.lst []))) ∧ ∀ i m ys H, W i m ys H → H D = some (.lst ys) ∧
    ((J.stop i H ∧ Q (.ref D) H) ∨ (J.go i H ∧ ∀ x H', J.yld i H x H' → tt (some x :: capσ cap σ) H' fun b H3 =>
      if b = true then te (some x :: capσ cap σ) H3 fun v H4 => H4 D = some (.lst ys) ∧ ys.length < sizeLine ∧ ∃ m', m' < m ∧ W (i + 1) m' (ys ++ [v]) (upd H4 D (.lst (ys ++ [v])))
      else ∃ m', m' < m ∧ W (i + 1) m' ys H3))
def PTs (X : Cx) (ifs : List Expr) (t : TT) : Prop :=
  ∀ (pins : List (Addr × Obj)) (s : Shared) (σ : St) (H : Hp) (Q : Bool → Hp → Prop), Inv X pins σ H s → t σ H Q →
    wpAny (model X.prog X.w) X.A (forIn ifs true fun c r => if r = true then do let ok ← isTrue c X.env (eval c X.env); pure (ForInStep.yield ok) else pure (ForInStep.yield r)) (TP X pins σ Q) X.xe s
def tYes : TT := fun _ H Q => Q true H
theorem pts_nil {X : Cx} : PTs X [] tYes := fun pins s σ H Q I h => wpAny_tests_nil ⟨H, I, h⟩
theorem pts_one {X : Cx} {c : Expr} {t : TT} (h : PT X c t) : PTs X [c] t := fun pins s σ H Q I hq => wpAny_tests_one (h pins s σ H Q I hq)
theorem compLoop_own {prog : Program} {w : World} {A : Around} {R : Result → Shared → Prop} {s : Shared} {elt target iter : Expr} {ifs : List Expr} {scope : Scope} {pos : Pos} {it acc : Value} {env : Env} (I : Nat → Shared → Prop)
    (turn : ∀ n s, I n s → wpAny (model prog w) A (pyNext it) (fun r s₁ => match r with
      | none => R (.ok .next) s₁
      | some v => wpAny (model prog w) A (letOwnedTupleGo target it v) (fun _ s₁' => wpAny (model prog w) A (assign target env v) (fun _ s₂ =>
          wpAny (model prog w) A (forIn ifs true fun c r => if r = true then do let ok ← isTrue c env (eval c env); pure (ForInStep.yield ok) else pure (ForInStep.yield r)) (fun ok s₃ =>
            if ok = true then wpAny (model prog w) A (eval elt env) (fun x s₄ =>
              wpAny (model prog w) A (call (.builtin "list.append") [acc, x]) (fun _ s₅ => ∃ m, m < n ∧ I m s₅) (fun _ _ => False) s₄) (fun _ _ => False) s₃
            else ∃ m, m < n ∧ I m s₃) (fun _ _ => False) s₂) (fun _ _ => False) s₁') (fun _ _ => False) s₁) (fun _ _ => False) s)
    (n : Nat) (h : I n s) : codeAny (model prog w) A (.compLoop (.ListComp elt [⟨target, iter, ifs, 0⟩] scope pos) 0 it acc env) R s := by
  refine codeAny_loop rfl I (fun n s hI => ?_) n h
  show wpAny _ A ((compTurn (.ListComp elt [⟨target, iter, ifs, 0⟩] scope pos) 0 it acc env).onRaise (fun x => do noteFrame x env; theTreesLotGoes x)) _ _ s
  refine wpAny_noted ?_
  rw [compTurn_list]
  refine wpAny_bind (wpAny_standAt (wpAny_bind (wpAny_mono (turn n s hI) (fun r s₁ h₁ => ?_) fun _ _ z => z.elim)))
  cases r with
  | none => exact wpAny_pure h₁
  | some v =>
    refine wpAny_bind (wpAny_mono h₁ (fun _ s₁' h₁' => ?_) fun _ _ z => z.elim)
    refine wpAny_bind (wpAny_mono h₁' (fun _ s₂ h₂ => wpAny_bind (wpAny_mono h₂ (fun ok s₃ h₃ => ?_) fun _ _ z => z.elim)) fun _ _ z => z.elim)
    cases ok with
    | false => exact wpAny_pure ⟨rfl, h₃⟩
    | true =>
      exact wpAny_bind (wpAny_bind (wpAny_mono h₃ (fun x s₄ h₄ => wpAny_bind (wpAny_mono h₄ (fun _ s₅ h₅ => wpAny_pure (wpAny_pure ⟨rfl, h₅⟩)) fun _ _ z => z.elim)) fun _ _ z => z.elim))
structure Gone (X : Cx) (pins : List (Addr × Obj)) (H : Hp) (C : Addr) (s : Shared) : Prop where
  ns : ∃ m, s.heap.Ns C m
  fp : FpOk X pins H C
theorem comp_core {X : Cx} {elt iter : Expr} {x : Str} {px pos pos' : Pos} {ifs : List Expr} {scope : Scope} {cl : List (Str × Addr)} {NB : List Str} {cap : List Nat} {wi : TI} {tt : TT} {te : TE}
    {pins : List (Addr × Obj)} {s : Shared} {σ : St} {H : Hp} {Q : VK} {use : Option (Value → Sem Unit)} {R : Value → Shared → Prop}
    (B : Blk X scope cl x NB cap) (hc : X.calm = true) (hex : X.ex = []) (hi : PI X (.Name x px) iter wi)
    (ht : ∀ C fp s₀ H₀, PTs (X.blk scope cl C (x :: NB) fp s₀ H₀) ifs tt) (he : ∀ C fp s₀ H₀, PE (X.blk scope cl C (x :: NB) fp s₀ H₀) elt te)
    (hs : ∀ v, foldedSetIterable iter X.env v = pure v) (I : Inv X pins σ H s) (h : tComp wi tt te cap σ H Q)
    (fin : ∀ (D C : Addr) (H' : Hp) (s' : Shared), Inv X pins σ H' s' → Gone X pins H' C s' → Q (.ref D) H' → compPost (model X.prog X.w) X.A X.xe use R (.ref D) C (.ok .next) s') :
    wpAny (model X.prog X.w) X.A (comprehension (.ListComp elt [⟨.Name x px, iter, ifs, 0⟩] scope pos) scope X.env pos' (newList []) false (eval iter X.env) use) R X.xe s := by
  refine wpAny_comprehension_free (use := use) rfl hs B.clos B.kind B.names (thn (hi pins s σ H _ I h) fun v s1 h1 => thn h1 fun itv s2 h2 => ?_)
  obtain ⟨it, fp, tn, J, H2, e, I2, T, st2, f2, h2⟩ := h2
  subst e
  refine wpAny_newObj_type (wpAny_newFunctionEnv B.nocell (by intro y hy; simp at hy) (fun h₁ hns₁ hsb₁ => ?_) B.kind)
  dsimp only at hns₁ hsb₁ ⊢
  have I3 := I2.lnew (ys := []) (its := []) (t' := s2.toks) .nil (Nat.zero_le _)
  have hD := I2.fresh
  obtain ⟨W, ⟨m0, w0⟩, turn⟩ := h2 _ hD
  generalize eD : s2.heap.objs.size = D at hD I3 W w0 turn ⊢
  generalize eH2 : s2.heap.push { cls := .type "list", dict := none, data := .seq ([] : List Value).toArray } = G3 at hns₁ hsb₁ I3 ⊢
  generalize eH3 : upd H2 D (.lst []) = H3 at I3 w0
  have hC : G3.objs.size = D + 1 := by rw [← eH2, Heap.size_push, eD]
  generalize eC : G3.objs.size = C at hns₁ hsb₁ hC ⊢
  -- what stood ahead of the block stands in it
  have old : ∀ b o, G3.get? b = some o → h₁.get? b = some o := fun b o e =>
    hsb₁.extBut b o (by rw [← eC]; exact Nat.ne_of_lt (Heap.lt_size e)) (Heap.get?_push_of_some _ e)
  have old2 : ∀ b o, s2.heap.get? b = some o → G3.get? b = some o := fun b o e => by rw [← eH2]; exact Heap.get?_push_of_some _ e
  have fpo : ∀ b ∈ fp, b < D := fun b hb => by
    obtain ⟨o, e, _⟩ := T.obj 0 _ st2 b hb
    rw [← eD]; exact Heap.lt_size e
  have fpx : ∀ b ∈ fp, b ∉ frs X.stack := fun b hb z => by
    obtain ⟨f0, f1, f2', _⟩ := f2 b hb
    rcases List.mem_cons.mp (I2.stkSub b z) with q | q
    · exact f1 q
    · exact f2' q
  let Y : Cx := X.blk scope cl C (x :: NB) fp { s2 with heap := G3, toks := s2.toks } H3
  have okY : Y.Ok := by
    refine ⟨I3.ok.mod, B.kind, I3.ok.glob, I3.ok.blt, ?_, ?_, B.has, ?_, I3.ok.hd, I3.ok.frames, .inl rfl, ?_, I3.bs, ?_, ?_, ?_, I3.stack, I3.stkFree⟩
    · show G3.objs.size ≤ C
      lia
    · intro y z c e1 e2
      exact I3.ok.inj y z c (B.cells y c e1) (B.cells z c e2)
    · intro y c z
      cases z
    · intro b hb
      have hb' : b ∈ fp := by
        have : b ∈ X.ex ++ fp := hb
        rw [hex] at this; simpa using this
      refine ⟨?_, fun y c e => (f2 b hb').2.2.2.2.1 y c (B.cells y c e)⟩
      show b ≠ C
      exact Nat.ne_of_lt (Nat.lt_of_lt_of_le (fpo b hb') (by rw [hC]; exact Nat.le_succ _))
    · show X.base.objs.size ≤ G3.objs.size
      exact Nat.le_trans I3.ok.bsz I3.sz
    · intro b o e hb
      have hb' : b ∈ fp := by
        have : b ∈ X.ex ++ fp := hb
        rw [hex] at this; simpa using this
      rcases (f2 b hb').2.2.2.1 with z | z
      · rw [hex] at z; cases z
      · exact absurd (Nat.lt_of_lt_of_le (Nat.lt_of_lt_of_le (Heap.lt_size e) I3.ok.bsz) z) (Nat.lt_irrefl _)
    · intro b hb
      have hb' : b ∈ fp := by
        have : b ∈ X.ex ++ fp := hb
        rw [hex] at this; simpa using this
      exact fpx b hb'
  have IY : Inv Y [] (none :: capσ cap σ) H3 { s2 with heap := h₁, toks := s2.toks } := by
    refine ⟨okY, rfl, I3.bare, Un.kept old, ⟨_, hns₁, ?_⟩, ?_, ?_, ?_, ?_, I3.hok.kept old, ?_⟩
    · intro j y v e1 e2 hv
      cases j with
      | zero => cases e2
      | succ j =>
        have e1' : NB[j]? = some y := e1
        have e2' : (capσ cap σ)[j]? = some (some v) := e2
        unfold capσ at e2'
        rw [List.getElem?_map] at e2'
        cases ec : cap[j]? with
        | none => rw [ec] at e2'; cases e2'
        | some i =>
          rw [ec] at e2'
          have e3 : σ[i]?.join = some v := Option.some.inj e2'
          have e4 : σ[i]? = some (some v) := by
            cases q : σ[i]? with
            | none => rw [q] at e3; cases e3
            | some z => rw [q] at e3; exact congrArg some e3
          obtain ⟨y', n1, n2, n3, n4, n5⟩ := B.cap j i ec
          rw [e1'] at n1
          cases n1
          obtain ⟨m, hn, hl⟩ := I3.loc
          obtain ⟨u, r, lk⟩ := hl i y v n2 e4 n3
          refine ⟨u, r, .inr ⟨n5, ?_⟩⟩
          obtain ⟨c, hcl⟩ := B.has y n5
          refine ⟨c, hcl, ?_⟩
          rcases lk with ⟨k1, _⟩ | ⟨_, c', ec', cell⟩
          · rcases n4 with n4 | n4 <;> (rw [n4] at k1; cases k1)
          · rw [B.cells y c hcl] at ec'
            cases ec'
            obtain ⟨o, ho, hd⟩ := cell
            exact ⟨o, old c o ho, hd⟩
    · intro y c e
      obtain ⟨v, o, ho, hd⟩ := I3.cell y c (B.cells y c e)
      exact ⟨v, o, old c o ho, hd⟩
    · exact I3.hok.fresh (show G3.objs.size ≤ C by lia)
    · intro y c e
      exact I3.freeC y c (B.cells y c e)
    · intro p hp
      cases hp
    · show (none :: capσ cap σ).length = (x :: NB).length
      rw [List.length_cons, List.length_cons, ← B.len]
      unfold capσ
      rw [List.length_map]
  have fpY : ∀ {H' : Hp}, (∀ b ∈ fp, H' b = none) → ∀ b ∈ fp, FpOk Y [] H' b := fun {H'} hn b hb => by
    refine ⟨hn b hb, ?_, fpx b hb, .inl ?_, fun y c e => (f2 b hb).2.2.2.2.1 y c (B.cells y c e), fun p hp => by cases hp⟩
    · show b ≠ C
      exact Nat.ne_of_lt (Nat.lt_of_lt_of_le (fpo b hb) (by rw [hC]; exact Nat.le_succ _))
    · show b ∈ X.ex ++ fp
      exact List.mem_append_right _ hb
  have st4 : tn 0 h₁ := T.keep _ _ _ st2 fun b hb o e => old b o (old2 b o e)
  have fr4 : ∀ b ∈ fp, H3 b = none := fun b hb => by
    rw [← eH3, upd_ne (Nat.ne_of_lt (fpo b hb))]; exact (f2 b hb).1
  -- behind the block
  have leave : ∀ (H' : Hp) (s' : Shared), Inv Y [] (none :: capσ cap σ) H' s' → Q (.ref D) H' → compPost (model X.prog X.w) X.A X.xe use R (.ref D) C (.ok .next) s' := by
    intro H' s' I' q
    obtain ⟨m, hn, _⟩ := id I'.loc
    have u := I'.base
    have I5 : Inv X pins σ H' s' := by
      refine I3.call' (s' := s') (ch := X.ex ++ fp) I'.os u I'.hok I'.bare fun b hb => ?_
      have hb' : b ∈ fp := by rw [hex] at hb; simpa using hb
      obtain ⟨f0, f1, f2', f3, f4, f5⟩ := f2 b hb'
      exact ⟨f3, f1, f4, f5⟩
    exact fin D C H' s' I5 ⟨⟨m, hn⟩, I3.fpOk (show G3.objs.size ≤ C by rw [eC]; exact Nat.le_refl _) I'.free⟩ q
  have loop : ∀ s₄ : Shared, s₄ = { s2 with heap := h₁, toks := s2.toks } →
      codeAny (model X.prog X.w) X.A (.compLoop (.ListComp elt [⟨.Name x px, iter, ifs, 0⟩] scope pos) 0 (.ref it) (.ref D) (compEnvC scope cl C X.env)) (compPost (model X.prog X.w) X.A X.xe use R (.ref D) C) s₄ := by
    rintro s₄ rfl
    refine compLoop_own (fun n s' => ∃ i ys H', Inv Y [] (none :: capσ cap σ) H' s' ∧ tn i s'.heap ∧ (∀ b ∈ fp, H' b = none) ∧ W i n ys H') ?_ m0 ⟨0, [], H3, IY, st4, fr4, w0⟩
    rintro n s3 ⟨i, ys, H', I', st', fr', w'⟩
    obtain ⟨hDl, tr⟩ := turn i n ys H' w'
    rcases tr with ⟨stop, q⟩ | ⟨go, step⟩
    · refine thn (T.done Y rfl rfl rfl hc i [] s3 _ H' (fun _ _ => False) I' (fpY fr') st' stop) fun r s4 ⟨hr, I4⟩ => ?_
      subst hr
      exact leave H' s4 I4 q
    · refine thn (T.item Y rfl rfl rfl hc i [] s3 _ H' (fun _ _ => False) I' (fpY fr') st' go) fun r s4 ⟨u, hr, h4⟩ => ?_
      subst hr
      refine thn h4 fun _ s5 ⟨v, H5, I5, r5, y5, st5, fr5⟩ => ?_
      have I5' := I5.pinned (fpY fr5) (T.obj _ _ st5)
      have back : ∀ {σ7 : St} {H7 : Hp} {s7 : Shared}, Inv Y ([] ++ pinsAt fp s5.heap) (some v :: capσ cap σ) H7 s7 → Inv Y [] (none :: capσ cap σ) H7 s7 ∧ tn (i + 1) s7.heap ∧ ∀ b ∈ fp, H7 b = none := fun {σ7 H7 s7} I7 => by
        refine ⟨I7.unpinned.weak (by simp) fun j z e => ?_, T.keep _ _ _ st5 fun b hb o e => (I7.pin (b, o) (List.mem_append_right _ (List.mem_append_right _ (mem_pinsAt hb e)))).1, fun b hb => ?_⟩
        · cases j with
          | zero => cases e
          | succ j => exact e
        · obtain ⟨o, e, d⟩ := T.obj _ _ st5 b hb
          exact (I7.pin (b, o) (List.mem_append_right _ (List.mem_append_right _ (mem_pinsAt hb e)))).2.1
      have hgN : PG Y (.Name x px) (gName 0) := pg_name (i := 0) B.nd rfl (.inl (lookup_relabel_local B.own)) (.inr (lookup_relabel_local B.own))
      refine thn (hgN _ s5 _ H5 v u (fun σ6 H6 => σ6 = some v :: capσ cap σ ∧ H6 = H5) I5' r5 ⟨rfl, rfl⟩) fun _ s6 ⟨σ6, H6, I6, e6, e6'⟩ => ?_
      subst e6 e6'
      refine thn (ht C fp _ _ _ s6 _ H6 _ I6 (step v H6 y5)) fun ok s7 ⟨H7, I7, q7⟩ => ?_
      cases ok with
      | false =>
        simp only [Bool.false_eq_true, if_false] at q7 ⊢
        obtain ⟨m', hm, w7⟩ := q7
        obtain ⟨a, b, c⟩ := back (σ7 := []) I7
        exact ⟨m', hm, i + 1, ys, H7, a, b, c, w7⟩
      | true =>
        simp only [if_true] at q7 ⊢
        refine thn (he C fp _ _ _ s7 _ H7 _ I7 q7) fun u8 s8 ⟨v8, H8, I8, r8, q8⟩ => ?_
        obtain ⟨d8, l8, m', hm, w8⟩ := q8
        refine thn (mt_append (X := Y) _ s8 _ H8 (.ref D) [v8] (.ref D) [u8] (fun _ H9 => H9 = upd H8 D (.lst (ys ++ [v8]))) I8 rfl (.cons r8 .nil) ⟨D, ys, v8, rfl, rfl, d8, l8, rfl⟩) fun _ s9 ⟨_, H9, I9, _, e9⟩ => ?_
        subst e9
        obtain ⟨a, b, c⟩ := back (σ7 := []) I9
        exact ⟨m', hm, i + 1, ys ++ [v8], _, a, b, c, w8⟩
  refine codeAny_compStart_list (loop _ ?_) (T.self _ 0 _ _ _ ?_ (loop _ ?_))
  · rfl
  · exact st4
  · rfl
theorem pe_comp {X : Cx} {elt iter : Expr} {x : Str} {px pos : Pos} {ifs : List Expr} {scope : Scope} {cl : List (Str × Addr)} {NB : List Str} {cap : List Nat} {wi : TI} {tt : TT} {te : TE}
    (B : Blk X scope cl x NB cap) (hc : X.calm = true) (hex : X.ex = []) (hi : PI X (.Name x px) iter wi)
    (ht : ∀ C fp s₀ H₀, PTs (X.blk scope cl C (x :: NB) fp s₀ H₀) ifs tt) (he : ∀ C fp s₀ H₀, PE (X.blk scope cl C (x :: NB) fp s₀ H₀) elt te)
    (hs : ∀ v, foldedSetIterable iter X.env v = pure v := by intro _; rfl) : PE X (.ListComp elt [⟨.Name x px, iter, ifs, 0⟩] scope pos) (tComp wi tt te cap) := by
  intro pins s σ H Q I h
  rw [eval_ListComp]
  refine comp_core (use := none) (R := EP X pins σ Q) B hc hex hi ht he hs I h fun D C H' s' I' G q => ?_
  obtain ⟨m, hn⟩ := G.ns
  obtain ⟨f0, f1, f2, f3, f4, f5⟩ := G.fp
  refine ⟨m, hn, fun h' hs' => ⟨.ref D, H', ?_, rfl, q⟩⟩
  exact I'.turned (t' := s'.toks) (fun b o hb e => (hs'.2 b hb).trans e) f0 f1 f3 f4 f5
theorem ps_setComp {X : Cx} {elt iter : Expr} {x y : Str} {px py pos spos : Pos} {ifs : List Expr} {scope : Scope} {cl : List (Str × Addr)} {NB : List Str} {cap : List Nat} {wi : TI} {tt : TT} {te : TE} {i : Nat}
    (hN : X.N.Nodup) (hi' : X.N[i]? = some y) (hx : Loc X.env.scope y)
    (B : Blk X scope cl x NB cap) (hc : X.calm = true) (hex : X.ex = []) (hi : PI X (.Name x px) iter wi)
    (ht : ∀ C fp s₀ H₀, PTs (X.blk scope cl C (x :: NB) fp s₀ H₀) ifs tt) (he : ∀ C fp s₀ H₀, PE (X.blk scope cl C (x :: NB) fp s₀ H₀) elt te)
    (hsw : swapsWith (.ListComp elt [⟨.Name x px, iter, ifs, 0⟩] scope pos) (some (.Name y py)) spos.line X.env = pure true := by rfl)
    (hs : ∀ v, foldedSetIterable iter X.env v = pure v := by intro _; rfl) (hf : X.fn y = true ∨ X.env.scope.names.lookup y = some .local := by first | exact .inl rfl | exact .inr rfl | assumption) :
    PS X (.Assign [.Name y py] (.ListComp elt [⟨.Name x px, iter, ifs, 0⟩] scope pos) spos) (tAsg (tComp wi tt te cap) (gName i)) := by
  intro pins s σ H D I h
  rw [exec_Assign_Name_used _ _ _ _ hsw]
  refine wpAny_bind (wpAny_standAt (wpAny_bind ?_))
  show wpAny _ X.A (do let _ ← comprehension (.ListComp elt [⟨.Name x px, iter, ifs, 0⟩] scope pos) scope X.env _ (newList []) false (eval iter X.env) (some (assign (.Name y py) X.env))) _ _ s
  refine wpAny_bind (wpAny_mono (comp_core (use := some (assign (.Name y py) X.env)) (R := fun _ s' => SP X pins D .next s') B hc hex hi ht he hs I h fun L C H' s' I' G q => ?_) (fun _ s' hq => wpAny_pure (wpAny_pure hq)) fun _ _ e => e)
  obtain ⟨m, hn⟩ := G.ns
  obtain ⟨f0, f1, f2, f3, f4, f5⟩ := G.fp
  refine wpAny_assign_Name (store_ok2 (v := .ref L) I' hN hi' hx rfl (fun s'' I'' ⟨a, sb, ha⟩ => ?_) hf)
  have hC : C ≠ a := by
    rcases ha with z | z
    · rw [z]; exact f1
    · exact fun e => f4 y a z e.symm
  refine ⟨m, hn.sameBut sb hC, fun h' hs' => ⟨_, H', ?_, q⟩⟩
  exact I''.turned (t' := s''.toks) (fun b o hb e => (hs'.2 b hb).trans e) f0 f1 f3 f4 f5
end L2
end
section
set_option linter.all false
set_option maxRecDepth 100000
set_option maxHeartbeats 4000000
namespace L2
open PySem PySem.Spec PyProof.Rows
section
variable {X : Cx}
theorem op_neNil (hu : X.A.units < cLine) : OpR X (compareOp .NotEq) (fun x y H Q => ∃ a b xs, x = .ref a ∧ y = .ref b ∧ SqL X.K H a xs ∧ SqL X.K H b [] ∧ Q (.bl (!decide (xs = []))) H) := by
  intro pins s σ H x y v u Q I rx ry h
  obtain ⟨a, b, xs, rfl, rfl, ha, hb, q⟩ := h
  cases rx
  cases ry
  obtain ⟨its, r1, p1, _⟩ := I.list ha
  obtain ⟨its2, r2, p2, _⟩ := I.list hb
  cases r2
  cases xs with
  | nil =>
    cases r1
    exact SeqAt.RcNeAt.lists (e := fun _ => true) p1.isList p2.isList rfl hu (fun j h1 _ => absurd h1 (by simp)) _ _ _ _ ⟨.bl false, H, I, rfl, by simpa using q⟩
  | cons z zs =>
    cases r1 with
    | cons _ _ => exact SeqAt.RcNeAt.lists_lengths p1.isList p2.isList (by simp) hu _ _ _ _ ⟨.bl true, H, I, rfl, by simpa using q⟩
end
end L2
end
section
set_option linter.all false
set_option maxRecDepth 100000
set_option maxHeartbeats 4000000
namespace L2
open PySem PySem.Spec PyProof.Rows
def CDivB (_ j : Int) : Prop := 0 < j ∧ j < 2 ^ 200
theorem op_fdivB {X : Cx} : OpR X (binaryOp .FloorDiv) (rI CDivB fun i j => .int (i / j)) := opI fun i j _ _ _ _ _ hc q => by
  have h1 : (0 : Int) < j := hc.1
  have h2 : j < 2 ^ 200 := hc.2
  rw [← Int.fdiv_eq_ediv_of_nonneg i (by lia)] at q
  refine floordiv_int (by lia) q (.inl (PyProof.noPylong_of_log2 ?_))
  have h3 : j.natAbs < 2 ^ 200 := by lia
  have h4 : j.natAbs.log2 < 200 := (Nat.log2_lt (by lia)).mpr h3
  lia
structure Bl (mg : Str → Option Value) : Prop where
  z_len : mg "len" = none
  z_sum : mg "sum" = none
  z_abs : mg "abs" = none
  z_range : mg "range" = none
  z_list : mg "list" = none
  z_tuple : mg "tuple" = none
  z_int : mg "int" = none
  z_bool : mg "bool" = none
  z_sorted : mg "sorted" = none
  z_isinstance : mg "isinstance" = none
structure Nm (K : PySem.W.Frag) (mg : Str → Option Value) (x : Str) (a : Addr) (fd : FuncData) (ps : List Str) : Prop where
  m : mg x = some (.ref a)
  k : PySem.W.keepIn K (.ref a) = true
  b : Binds K fd ps []
theorem ix_int {cs : List Int} {i : Int} (h0 : 0 ≤ i) (h1 : i < cs.length) : atI (cs.map V.int) i = some (.int (cs.getD i.toNat 0)) := by
  have h2 : i.toNat < cs.length := by lia
  have e : (cs.map V.int)[i.toNat]? = some (.int (cs.getD i.toNat 0)) := by
    rw [List.getElem?_map, List.getElem?_eq_getElem h2]
    simp [List.getD, List.getElem?_eq_getElem h2]
  have := atI_nat e
  rwa [Int.toNat_of_nonneg h0] at this
theorem ixN_ok {n : Nat} {i : Int} (h0 : 0 ≤ i) (h1 : i < n) : ixN n i = some i.toNat := by
  unfold ixN
  rw [if_pos h0, if_pos h1]
theorem mod_lo {a b : Int} (h : 0 < b) : 0 ≤ a % b := Int.emod_nonneg _ (by lia)
theorem mod_hi {a b : Int} (h : 0 < b) : a % b < b := Int.emod_lt_of_pos _ h
end L2
end
section
set_option linter.all false
set_option maxRecDepth 100000
set_option maxHeartbeats 4000000
namespace L2
open PySem PySem.Spec PyProof.Rows
def freesOf (names : List (Str × NameKind)) : List Str := (names.filter fun y => y.2 == .free).map (·.1)
def clOf (scope : Scope) (env : Env) : List (Str × Addr) := (freesOf scope.names).reverse.map fun n => (n, (env.cells.lookup n).getD 0)
theorem lookup_map {g : Str → Addr} {y : Str} {c : Addr} : ∀ {l : List Str}, (l.map fun n => (n, g n)).lookup y = some c → y ∈ l ∧ c = g y
  | [], h => by cases h
  | a :: l, h => by
    rw [List.map_cons, List.lookup_cons] at h
    cases e : y == a with
    | true =>
      rw [e] at h
      have e' : y = a := by simpa using e
      subst e'
      exact ⟨List.mem_cons_self, (Option.some.inj h).symm⟩
    | false =>
      rw [e] at h
      obtain ⟨m, q⟩ := lookup_map h
      exact ⟨List.mem_cons_of_mem _ m, q⟩
theorem lookup_map_mem {g : Str → Addr} {y : Str} : ∀ {l : List Str}, y ∈ l → (l.map fun n => (n, g n)).lookup y = some (g y)
  | [], h => by cases h
  | a :: l, h => by
    rw [List.map_cons, List.lookup_cons]
    cases e : y == a with
    | true =>
      have e' : y = a := by simpa using e
      subst e'
      rfl
    | false =>
      rcases List.mem_cons.mp h with z | z
      · subst z; simp at e
      · exact lookup_map_mem z
theorem closure_go (env : Env) : ∀ (names : List (Str × NameKind)) (acc : List (Str × Addr)), (∀ n ∈ freesOf names, ∃ c, env.cells.lookup n = some c) →
    (forIn names acc fun y cs => if (y.2 == NameKind.free) = true then (do let c ← cellOf env y.1; pure (ForInStep.yield ((y.1, c) :: cs))) else pure (ForInStep.yield cs) : Sem (List (Str × Addr))) =
      pure ((freesOf names).reverse.map (fun n => (n, (env.cells.lookup n).getD 0)) ++ acc)
  | [], acc, _ => by rw [List.forIn_nil]; rfl
  | (n, k) :: r, acc, h => by
    rw [List.forIn_cons]
    cases e : k == NameKind.free with
    | true =>
      have hn : freesOf ((n, k) :: r) = n :: freesOf r := by unfold freesOf; rw [List.filter_cons_of_pos (by simpa using e)]; rfl
      rw [hn] at h ⊢
      obtain ⟨c, hc⟩ := h n List.mem_cons_self
      simp only [e, if_true]
      have h2 : cellOf env n = pure c := by unfold cellOf; rw [hc]
      rw [h2]
      have ih := closure_go env r ((n, c) :: acc) fun m hm => h m (List.mem_cons_of_mem _ hm)
      show (forIn r ((n, c) :: acc) _ : Sem (List (Str × Addr))) = _
      rw [ih, List.reverse_cons, List.map_append, List.append_assoc]
      rw [List.map_cons, List.map_nil, hc]
      rfl
    | false =>
      have hn : freesOf ((n, k) :: r) = freesOf r := by unfold freesOf; rw [List.filter_cons_of_neg (by simpa using e)]
      rw [hn] at h ⊢
      simp only [e, Bool.false_eq_true, if_false]
      exact closure_go env r acc h
theorem closure_eq (scope : Scope) (env : Env) (h : ∀ n ∈ freesOf scope.names, ∃ c, env.cells.lookup n = some c) : closureFor scope env = pure (clOf scope env) := by
  have := closure_go env scope.names [] h
  rw [List.append_nil] at this
  simp only [closureFor]
  rw [this]
  rfl
theorem mem_frees {names : List (Str × NameKind)} {y : Str} (h : (y, NameKind.free) ∈ names) : y ∈ freesOf names := by
  unfold freesOf
  exact List.mem_map.mpr ⟨(y, .free), List.mem_filter.mpr ⟨h, by rfl⟩, rfl⟩
theorem of_frees {names : List (Str × NameKind)} {y : Str} (h : y ∈ freesOf names) : (y, NameKind.free) ∈ names := by
  unfold freesOf at h
  obtain ⟨⟨a, k⟩, hm, e⟩ := List.mem_map.mp h
  obtain ⟨h1, h2⟩ := List.mem_filter.mp hm
  cases e
  have : k = .free := by simpa using h2
  rw [← this]; exact h1
theorem relabel_kind {env : Env} : ∀ {names : List (Str × NameKind)} {y : Str} {k : NameKind},
    (names.map fun (n, k) => if (k == NameKind.free && env.scope.kind == .function && env.kindOf n == some .cell) then (n, NameKind.cell) else (n, k)).lookup y = some k → (k = .cell ∨ k = .free) → (∀ z ∈ names, z.2 ≠ .cell) → (y, NameKind.free) ∈ names
  | [], y, k, h, _, _ => by cases h
  | (n, k0) :: r, y, k, h, hk, hn => by
    rw [List.map_cons] at h
    dsimp only at h
    by_cases hc : (k0 == NameKind.free && env.scope.kind == .function && env.kindOf n == some .cell) = true
    · rw [if_pos hc, List.lookup_cons] at h
      have hf : k0 = .free := by
        rw [Bool.and_eq_true, Bool.and_eq_true] at hc
        simpa using hc.1.1
      cases e : y == n with
      | true =>
        have e' : y = n := by simpa using e
        subst e'; subst hf
        exact List.mem_cons_self
      | false =>
        rw [e] at h
        exact List.mem_cons_of_mem _ (relabel_kind h hk fun z hz => hn z (List.mem_cons_of_mem _ hz))
    · rw [if_neg hc, List.lookup_cons] at h
      cases e : y == n with
      | true =>
        have e' : y = n := by simpa using e
        subst e'
        rw [e] at h
        have e2 : k0 = k := Option.some.inj h
        have := hn (y, k0) List.mem_cons_self
        rcases hk with z | z
        · rw [z] at e2; exact absurd e2 this
        · rw [z] at e2; rw [e2]; exact List.mem_cons_self
      | false =>
        rw [e] at h
        exact List.mem_cons_of_mem _ (relabel_kind h hk fun z hz => hn z (List.mem_cons_of_mem _ hz))
theorem relabel_free {env : Env} : ∀ {names : List (Str × NameKind)} {y : Str}, names.lookup y = some .free →
    (names.map fun (n, k) => if (k == NameKind.free && env.scope.kind == .function && env.kindOf n == some .cell) then (n, NameKind.cell) else (n, k)).lookup y = some .cell ∨
    (names.map fun (n, k) => if (k == NameKind.free && env.scope.kind == .function && env.kindOf n == some .cell) then (n, NameKind.cell) else (n, k)).lookup y = some .free
  | [], y, h => by cases h
  | (n, k0) :: r, y, h => by
    rw [List.lookup_cons] at h
    rw [List.map_cons]
    dsimp only
    by_cases hc : (k0 == NameKind.free && env.scope.kind == .function && env.kindOf n == some .cell) = true
    · rw [if_pos hc, List.lookup_cons]
      cases e : y == n with
      | true => exact .inl rfl
      | false => rw [e] at h; exact relabel_free h
    · rw [if_neg hc, List.lookup_cons]
      cases e : y == n with
      | true => rw [e] at h; exact .inr h
      | false => rw [e] at h; exact relabel_free h
theorem Blk.of {X : Cx} {scope esc : Scope} {x : Str} {N NB : List Str} {cap : List Nat} (eN : X.N = N) (eS : X.env.scope = esc) (hX : ∀ y, esc.names.lookup y = some .cell → ∃ c, X.env.cells.lookup y = some c)
    (hk : scope.kind = .function) (h1 : ∀ y ∈ scope.names, y.2 ≠ .cell) (h2 : ∀ y ∈ scope.names, y.2 = .local → scope.names.lookup y.1 = some .local) (h3 : ∀ y ∈ scope.names, y.2 = .free → esc.names.lookup y.1 = some .cell)
    (hl : cap.length = NB.length) (h4 : ∀ p ∈ NB.zip cap, N[p.2]? = some p.1 ∧ esc.names.lookup p.1 = some .cell ∧ scope.names.lookup p.1 = some .free) (h5 : scope.names.lookup x = some .local) (nd : (x :: NB).Nodup) :
    Blk X scope (clOf scope X.env) x NB cap := by
  have hfr : ∀ n ∈ freesOf scope.names, ∃ c, X.env.cells.lookup n = some c := fun n hn => hX n (h3 _ (of_frees hn) rfl)
  refine ⟨closure_eq scope X.env hfr, h1, hk, h2, fun y c e => ?_, fun y e => ?_, hl, fun j i e => ?_, h5, nd⟩
  · unfold clOf at e
    obtain ⟨m, q⟩ := lookup_map e
    obtain ⟨c', hc⟩ := hfr y (List.mem_reverse.mp m)
    rw [hc] at q
    rw [hc, q]; rfl
  · have hm : (y, NameKind.free) ∈ scope.names := by
      rcases e with e | e
      · exact relabel_kind e (.inl rfl) h1
      · exact relabel_kind e (.inr rfl) h1
    exact ⟨_, lookup_map_mem (List.mem_reverse.mpr (mem_frees hm))⟩
  · have hj : j < cap.length := (List.getElem?_eq_some_iff.mp e).1
    have hj2 : j < NB.length := by lia
    have ey : NB[j]? = some NB[j] := List.getElem?_eq_getElem hj2
    have ez : (NB.zip cap)[j]? = some (NB[j], i) := by rw [List.getElem?_zip_eq_some]; exact ⟨ey, e⟩
    obtain ⟨a1, a2, a3⟩ := h4 _ (List.mem_of_getElem? ez)
    refine ⟨NB[j], ey, by rw [eN]; exact a1, .inr (.inl (by rw [eS]; exact a2)), .inl (by show X.env.scope.names.lookup _ = _; rw [eS]; exact a2), ?_⟩
    exact relabel_free a3
end L2
end
section
set_option linter.all false
set_option maxRecDepth 100000
set_option maxHeartbeats 4000000
namespace L2
open PySem PySem.Spec PyProof.Rows
theorem atI_ex {α : Type} {l : List α} {i : Int} (h0 : 0 ≤ i) (h1 : i < l.length) : ∃ v, atI l i = some v ∧ v ∈ l := by
  have h2 : i.toNat < l.length := by lia
  have e : l[i.toNat]? = some l[i.toNat] := List.getElem?_eq_getElem h2
  have := atI_nat e
  rw [Int.toNat_of_nonneg h0] at this
  exact ⟨_, this, List.getElem_mem h2⟩
end L2
namespace L2
open PySem PySem.Spec PyProof.Rows
theorem ix_listB {X : Cx} {K : PySem.W.Frag} (h : X.K = K) : IxR X (rIxL K) := by subst h; exact ix_list
end L2
namespace L2
open PySem PySem.Spec PyProof.Rows
def constV : Expr → Option V
  | .Constant (.int i) _ _ => some (.int i)
  | .Constant (.str x) _ _ => some (.str x)
  | _ => none
def constsV : List Expr → Option (List V)
  | [] => some []
  | e :: es => match constV e, constsV es with
    | some v, some vs => some (v :: vs)
    | _, _ => none
theorem pa_consts {X : Cx} : ∀ {es : List Expr} {vs : List V}, constsV es = some vs → PA X es (fun _ H Q => Q vs H)
  | [], vs, h => by
    cases h
    exact pa_nil
  | e :: es, vs, h => by
    unfold constsV at h
    cases e1 : constV e with
    | none => rw [e1] at h; cases h
    | some v =>
      cases e2 : constsV es with
      | none => rw [e1, e2] at h; cases h
      | some ws =>
        rw [e1, e2] at h
        cases h
        have ih := pa_consts (X := X) e2
        have he : PE X e (tC v) ∧ starEach (e :: es) X.env = (false, eval e X.env) :: starEach es X.env := by
          unfold constV at e1
          split at e1
          · cases e1; exact ⟨pe_int, rfl⟩
          · cases e1; exact ⟨pe_str, rfl⟩
          · cases e1
        exact pa_cons he.1 ih he.2
end L2
namespace L2
open PySem
theorem same_new {H : Hp} {p : Addr} {o : HO} (h : H p = none) : Same H (upd H p o) := fun b u e => by rw [upd_ne (ne_of_none e h)]; exact e
theorem same_upd {H H' : Hp} {p : Addr} {o : HO} (s : Same H H') (h : H p = none) : Same H (upd H' p o) := fun b u e => by rw [upd_ne (ne_of_none e h)]; exact s b u e
end L2
end
section
set_option linter.all false
set_option maxRecDepth 100000
set_option maxHeartbeats 4000000
namespace L2
open PySem PySem.Spec PyProof.Rows
@[irreducible] def QE (X : Cx) (e : Expr) (t : TE) : Prop := PE X e t
@[irreducible] def QT (X : Cx) (e : Expr) (t : TT) : Prop := PT X e t
@[irreducible] def QW (X : Cx) (e : Expr) (t : TT) : Prop := PW X e t
@[irreducible] def QA (X : Cx) (es : List Expr) (t : TA) : Prop := PA X es t
@[irreducible] def QS (X : Cx) (st : Stmt) (t : TS) : Prop := PS X st t
@[irreducible] def QSs (X : Cx) (st : List Stmt) (t : TS) : Prop := PSs X st t
@[irreducible] def QG (X : Cx) (e : Expr) (t : TG) : Prop := PG X e t
@[irreducible] def QGs (X : Cx) (e : List Expr) (t : TGs) : Prop := PGs X e t
@[irreducible] def QI (X : Cx) (tg iter : Expr) (wi : TI) : Prop := PI X tg iter wi
@[irreducible] def QTs (X : Cx) (ifs : List Expr) (t : TT) : Prop := PTs X ifs t
@[irreducible] def QO (X : Cx) (e : Option Expr) (t : TO) : Prop := PO X e t
section
variable {X : Cx} {e a b c : Expr} {es : List Expr} {t te ta tb tc : TE} {tt : TT} {pos : Pos}
theorem QE.mk {t : TE} (h : PE X e t) : QE X e t := by unfold QE; exact h
theorem QE.to {t : TE} (h : QE X e t) : PE X e t := by unfold QE at h; exact h
theorem QT.mk {t : TT} (h : PT X e t) : QT X e t := by unfold QT; exact h
theorem QT.to {t : TT} (h : QT X e t) : PT X e t := by unfold QT at h; exact h
theorem QW.mk {t : TT} (h : PW X e t) : QW X e t := by unfold QW; exact h
theorem QW.to {t : TT} (h : QW X e t) : PW X e t := by unfold QW at h; exact h
theorem QA.mk {t : TA} (h : PA X es t) : QA X es t := by unfold QA; exact h
theorem QA.to {t : TA} (h : QA X es t) : PA X es t := by unfold QA at h; exact h
theorem QS.mk {st : Stmt} {t : TS} (h : PS X st t) : QS X st t := by unfold QS; exact h
theorem QS.to {st : Stmt} {t : TS} (h : QS X st t) : PS X st t := by unfold QS at h; exact h
theorem QSs.mk {st : List Stmt} {t : TS} (h : PSs X st t) : QSs X st t := by unfold QSs; exact h
theorem QSs.to {st : List Stmt} {t : TS} (h : QSs X st t) : PSs X st t := by unfold QSs at h; exact h
theorem QG.mk {t : TG} (h : PG X e t) : QG X e t := by unfold QG; exact h
theorem QG.to {t : TG} (h : QG X e t) : PG X e t := by unfold QG at h; exact h
theorem QGs.mk {t : TGs} (h : PGs X es t) : QGs X es t := by unfold QGs; exact h
theorem QGs.to {t : TGs} (h : QGs X es t) : PGs X es t := by unfold QGs at h; exact h
theorem QI.mk {tg : Expr} {wi : TI} (h : PI X tg e wi) : QI X tg e wi := by unfold QI; exact h
theorem QI.to {tg : Expr} {wi : TI} (h : QI X tg e wi) : PI X tg e wi := by unfold QI at h; exact h
theorem QTs.mk {t : TT} (h : PTs X es t) : QTs X es t := by unfold QTs; exact h
theorem QTs.to {t : TT} (h : QTs X es t) : PTs X es t := by unfold QTs at h; exact h
theorem QO.mk {o : Option Expr} {t : TO} (h : PO X o t) : QO X o t := by unfold QO; exact h
theorem QO.to {o : Option Expr} {t : TO} (h : QO X o t) : PO X o t := by unfold QO at h; exact h
theorem qv (i : Nat) {x : Str} (hN : X.N[i]? = some x := by rfl) (hv : Vis X.env.scope x := by first | exact Or.inl rfl | exact Or.inr (Or.inl rfl) | exact Or.inr (Or.inr rfl)) (hd : (x == ("__debug__" : Str)) = false := by decide)
    (hcd : (x == ("__classdict__" : Str)) = false := by decide) : QE X (.Name x pos) (tVar i) := .mk (pe_var hN hv hd hcd)
theorem qe_int {i j} : QE X (.Constant (.int i) j pos) (tC (.int i)) := .mk pe_int
theorem qe_bl {b j} : QE X (.Constant (.bool b) j pos) (tC (.bl b)) := .mk pe_bl
theorem qe_str {x j} : QE X (.Constant (.str x) j pos) (tC (.str x)) := .mk pe_str
theorem qe_op {op : Operator} {r : R2} (ho : OpR X (binaryOp op) r) (ha : QE X a ta) (hb : QE X b tb) : QE X (.BinOp a op b pos) (tOp r ta tb) := .mk (pe_op ho ha.to hb.to)
theorem qe_un {op : UnaryOp} {r : V → Hp → VK → Prop} (ho : UnR X (unaryOp op) r) (ha : QE X a ta) : QE X (.UnaryOp op a pos) (tUn r ta) := .mk (pe_un ho ha.to)
theorem qe_not (ha : QE X a ta) : QE X (.UnaryOp .Not a pos) (tNotV ta) := .mk (pe_not ha.to)
theorem qe_cmpR {op : CmpOp} {r : R2} (ho : OpR X (compareOp op) r) (ha : QE X a ta) (hb : QE X b tb) (hm : behindInMarks op b = false) : QE X (.Compare a [op] [b] pos) (tOp r ta tb) := .mk (pe_cmpR ho ha.to hb.to hm)
theorem qe_ix {r : R2} (hr : IxR X r) (ha : QE X a ta) (hb : QE X b tb) (hs : PlainIx b) : QE X (.Subscript a b pos) (tOp r ta tb) := .mk (pe_ix hr ha.to hb.to hs)
theorem qe_slice {r : V → Option Int → Option Int → Hp → VK → Prop} {lo hi : Option Expr} {tl th : TO} {p2 : Pos} (hr : SlR X r) (he : QE X e te) (hl : QO X lo tl) (hu : QO X hi th) : QE X (.Subscript e (.Slice lo hi none p2) pos) (tSl r te tl th) := .mk (pe_slice hr he.to hl.to hu.to)
theorem qo_none : QO X none tNoPart := .mk po_none
theorem qo_some (h : QE X e te) : QO X (some e) (tPart te) := .mk (po_some h.to)
theorem qe_lst {t : TA} (h : QA X es t) : QE X (.List es pos) (tLst t) := .mk (pe_lst h.to)
theorem qe_tup {t : TA} {x1} (h : QA X es t) : QE X (.Tuple es x1 pos) (tTup t) := .mk (pe_tup h.to)
theorem qa_nil : QA X [] tNil := .mk pa_nil
theorem qa_cons {t : TA} (ha : QE X e te) (hr : QA X es t) (hs : starEach (e :: es) X.env = (false, eval e X.env) :: starEach es X.env := by rfl) : QA X (e :: es) (tCons te t) := .mk (pa_cons ha.to hr.to hs)
theorem qa_consts {vs : List V} (h : constsV es = some vs) : QA X es (fun _ H Q => Q vs H) := .mk (pa_consts h)
theorem qe_callB {id : String} {x : Str} {r : List V → Hp → VK → Prop} {p : Pos} {t : TA} (hc : CallR X (.builtin id) r) (hg : Gl X x) (hm : X.mg x = none) (hv : bootBuiltins x = some (.builtin id)) (ha : QA X (e :: es) t) (hn : x ≠ "__name__" := by decide) (hdb : (x == ("__debug__" : Str)) = false := by decide)
    (he : starEach (e :: es) X.env = (false, eval e X.env) :: starEach es X.env := by rfl) (hpl : (backTo pos (starEach es X.env)).any (·.1) = false := by rfl) : QE X (.Call (.Name x p) (e :: es) [] pos) (tCB r t) := .mk (pe_callB hc hg hm hv ha.to hn hdb he hpl)
theorem qe_callTy {T : String} {x : Str} {r : List V → Hp → VK → Prop} {p : Pos} {t : TA} (hc : CallR X (.type T) r) (hg : Gl X x) (hm : X.mg x = none) (hv : bootBuiltins x = some (.type T)) (ha : QA X (e :: es) t) (hn : x ≠ "__name__" := by decide) (hdb : (x == ("__debug__" : Str)) = false := by decide)
    (he : starEach (e :: es) X.env = (false, eval e X.env) :: starEach es X.env := by rfl) (hpl : (backTo pos (starEach es X.env)).any (·.1) = false := by rfl) : QE X (.Call (.Name x p) (e :: es) [] pos) (tCB r t) := .mk (pe_callTy hc hg hm hv ha.to hn hdb he hpl)
theorem qe_call {CX : CXT} {k : Nat} {f : Addr} {fd : FuncData} {ps : List Str} {sp : Sp} {dvs : List V} {ds : List Value} {E : XK} {x : Str} {p : Pos} {t : TA} (F : FnOk X.prog X.w X.K X.mg X.base CX k f fd ps sp) (hr : Room k X.A) (hg : Gl X x) (hm : X.mg x = some (.ref f)) (hk : PySem.W.keepIn X.K (.ref f) = true) (hb : Binds X.K fd ps ds) (hd : Vals dvs ds) (hx : Passes CX X E)
    (ha : QA X (e :: es) t) (hdb : (x == ("__debug__" : Str)) = false := by decide) (he : starEach (e :: es) X.env = (false, eval e X.env) :: starEach es X.env := by rfl) (hpl : (backTo pos (starEach es X.env)).any (·.1) = false := by rfl) :
    QE X (.Call (.Name x p) (e :: es) [] pos) (tCall sp dvs E t) := .mk (pe_call F hr hg hm hk hb hd hx ha.to hdb he hpl)
theorem qe_bm {o : Expr} {to : TE} {t : TA} {name : Str} {apos cpos : Pos} {T id : String} {r : V → List V → Hp → VK → Prop} (pa : PlainAttrs T) (slot : Slot T name id) (hty : typeOf (.builtin id) = pure (.type "method_descriptor")) (hm : MtR X id r) (ho : QE X o to) (ha : QA X (e :: es) t)
    (hbase : attributeBase o name X.env (eval o X.env) = eval o X.env := by rfl)
    (hfew : ((backTo cpos (starEach (e :: es) X.env)).all (fun x => !x.1) && (backToKw cpos (keywordEach [] X.env)).all (fun x => x.1.isSome)
      && decide ((e :: es).length + ([] : List Keyword).length + (if ([] : List Keyword).isEmpty then 0 else 1) < 30)) = true := by rfl)
    (hline : (apos.endLine == cpos.line) = true := by rfl) (hs : starEach (e :: es) X.env = (false, eval e X.env) :: starEach es X.env := by rfl) (hplain : (backTo cpos (starEach es X.env)).any (·.1) = false := by rfl) :
    QE X (.Call (.Attribute o name apos) (e :: es) [] cpos) (tBM X.K T r to t) := .mk (pe_bm pa slot hty hm ho.to ha.to hbase hfew hline hs hplain)
theorem qe_comp {elt iter : Expr} {x : Str} {px : Pos} {ifs : List Expr} {scope : Scope} {cl : List (Str × Addr)} {NB : List Str} {cap : List Nat} {wi : TI}
    (B : Blk X scope cl x NB cap) (hc : X.calm = true) (hex : X.ex = []) (hi : QI X (.Name x px) iter wi)
    (ht : ∀ C fp s₀ H₀, QTs (X.blk scope cl C (x :: NB) fp s₀ H₀) ifs tt) (he : ∀ C fp s₀ H₀, QE (X.blk scope cl C (x :: NB) fp s₀ H₀) elt te)
    (hs : ∀ v, foldedSetIterable iter X.env v = pure v := by intro _; rfl) : QE X (.ListComp elt [⟨.Name x px, iter, ifs, 0⟩] scope pos) (tComp wi tt te cap) :=
  .mk (pe_comp B hc hex hi.to (fun C fp s₀ H₀ => (ht C fp s₀ H₀).to) (fun C fp s₀ H₀ => (he C fp s₀ H₀).to) hs)
theorem qt_cmpR {op : CmpOp} {r : R2} (ho : OpR X (compareOp op) r) (ha : QE X a ta) (hb : QE X b tb) (hm : behindInMarks op b = false) : QT X (.Compare a [op] [b] pos) (tTest (tOp r ta tb)) := .mk (pt_cmpR ho ha.to hb.to hm)
theorem qt_not {tA : TT} (ha : QT X a tA) : QT X (.UnaryOp .Not a pos) (tNot tA) := .mk (pt_not ha.to)
theorem qt_val {t : TE} (h : QE X e t) (he : ∀ whole, isTrue e X.env whole = (do let v ← whole; standAt e.pos; holding [v] (truthy v)) := by intro _; rfl) : QT X e (tB t) := .mk (pt_val h.to he)
theorem QW.pt {t : TT} (h : QW X e t) : QT X e t := .mk h.to.pt
theorem qw_and1 {tA : TT} (ha : QT X a tA) : QW X (.BoolOp .And [a] pos) tA := .mk (pw_and1 ha.to)
theorem qw_or1 {tA : TT} (ha : QT X a tA) : QW X (.BoolOp .Or [a] pos) tA := .mk (pw_or1 ha.to)
theorem qw_and {tA tB' : TT} {rest : List Expr} (ha : QT X a tA) (hb : QW X (.BoolOp .And (b :: rest) pos) tB') : QW X (.BoolOp .And (a :: b :: rest) pos) (tAnd tA tB') := .mk (pw_and ha.to hb.to)
theorem qw_or {tA tB' : TT} {rest : List Expr} (ha : QT X a tA) (hb : QW X (.BoolOp .Or (b :: rest) pos) tB') : QW X (.BoolOp .Or (a :: b :: rest) pos) (tOr tA tB') := .mk (pw_or ha.to hb.to)
theorem qts_nil : QTs X [] tYes := .mk pts_nil
theorem qts_one {t : TT} (h : QT X c t) : QTs X [c] t := .mk (pts_one h.to)
theorem qi_range1 {tg : Expr} {ta : TA} {p : Pos} (hg : Gl X "range") (hm : X.mg "range" = none) (ha : QA X [a] ta) (hs : starEach [a] X.env = [(false, eval a X.env)] := by rfl) : QI X tg (.Call (.Name "range" p) [a] [] pos) (iRng1 ta) := .mk (pi_range1 hg hm ha.to hs)
theorem qi_range2 {tg : Expr} {ta : TA} {p : Pos} (hg : Gl X "range") (hm : X.mg "range" = none) (ha : QA X [a, b] ta) (hs : starEach [a, b] X.env = [(false, eval a X.env), (false, eval b X.env)] := by rfl) (hs2 : starEach [b] X.env = [(false, eval b X.env)] := by rfl) : QI X tg (.Call (.Name "range" p) [a, b] [] pos) (iRng2 ta) := .mk (pi_range2 hg hm ha.to hs hs2)
theorem qi_list {tg : Expr} (h : QE X e te) : QI X tg e (iList X.K te) := .mk (pi_list h.to)
theorem qi_tup {tg : Expr} (h : QE X e te) : QI X tg e (iTup X.K te) := .mk (pi_tup h.to)
theorem qg_name {i : Nat} {x : Str} (hN : X.N.Nodup) (hi : X.N[i]? = some x) (hx : Loc X.env.scope x) (hf : X.fn x = true ∨ X.env.scope.names.lookup x = some .local := by first | exact .inl rfl | exact .inr rfl | assumption) : QG X (.Name x pos) (gName i) := .mk (pg_name hN hi hx hf)
theorem qg_sub {o i : Expr} {to ti : TE} {t : TSet} (ho : QE X o to) (hi : QE X i ti) (hs : PSet X t)
    (ha : ∀ v, assign (.Subscript o i pos) X.env v = (do
      let ov ← holding [v] (eval o X.env)
      let iv ← holding [v, ov] (eval i X.env)
      standAt pos
      holding [v, ov, iv] (setItem ov iv v)
      release [v, ov, iv] []) := by intro _; rfl) : QG X (.Subscript o i pos) (gSub to ti t) := .mk (pg_sub ho.to hi.to hs ha)
theorem qgs_nil : QGs X [] gNil := .mk pgs_nil
theorem qgs_cons {t : TG} {u : TGs} (h1 : QG X e t) (h2 : QGs X es u) (hs : (assignEach (e :: es) X.env).map (·.2) = assign e X.env :: (assignEach es X.env).map (·.2) := by rfl) : QGs X (e :: es) (gCons t u) := .mk (pgs_cons h1.to h2.to hs)
theorem qg_tup {k : Nat} {t : TGs} {n : Nat} (hc : X.calm = true) (h : QGs X es t) (hn : (assignEach es X.env).length = n := by rfl) (hst : (assignEach es X.env).findIdx? (·.1) = none := by rfl) : QG X (.Tuple es k pos) (gTup X.K n t) := .mk (pg_tup hc h.to hn hst)
section
variable {st : Stmt} {rest body : List Stmt} {s u : TS}
theorem qss_nil : QSs X [] tNext := .mk pss_nil
theorem qss_cons (h1 : QS X st s) (h2 : QSs X rest u) : QSs X (st :: rest) (tSeq s u) := .mk (pss_cons h1.to h2.to)
theorem qss_one (h1 : QS X st s) : QSs X [st] s := .mk (pss_one h1.to)
theorem qs_expr (he : QE X e te) (hs : swapsWith e none pos.line X.env = pure false := by rfl) : QS X (.Expr e pos) (tDrop te) := .mk (ps_expr he.to hs)
theorem qs_ret (he : QE X e te) : QS X (.Return (some e) pos) (tRet te) := .mk (ps_ret he.to)
theorem qs_if {a' b' : List Stmt} (hc : QT X c tt) (ha : QSs X a' s) (hb : QSs X b' u) : QS X (.If c a' b' pos) (tIfS tt s u) := .mk (ps_if hc.to ha.to hb.to)
theorem qs_set {i : Nat} {x : Str} {pos' : Pos} (hN : X.N.Nodup) (hi : X.N[i]? = some x) (hx : Loc X.env.scope x) (he : QE X e te) (hs : swapsWith e (some (.Name x pos')) pos.line X.env = pure false := by rfl) (hf : X.fn x = true ∨ X.env.scope.names.lookup x = some .local := by first | exact .inl rfl | exact .inr rfl | assumption) :
    QS X (.Assign [.Name x pos'] e pos) (tAsg te (gName i)) := .mk (ps_set hN hi hx he.to hs hf)
theorem qs_setComp {elt iter : Expr} {x y : Str} {px py spos : Pos} {ifs : List Expr} {scope : Scope} {cl : List (Str × Addr)} {NB : List Str} {cap : List Nat} {wi : TI} {i : Nat}
    (hN : X.N.Nodup) (hi' : X.N[i]? = some y) (hx : Loc X.env.scope y)
    (B : Blk X scope cl x NB cap) (hc : X.calm = true) (hex : X.ex = []) (hi : QI X (.Name x px) iter wi)
    (ht : ∀ C fp s₀ H₀, QTs (X.blk scope cl C (x :: NB) fp s₀ H₀) ifs tt) (he : ∀ C fp s₀ H₀, QE (X.blk scope cl C (x :: NB) fp s₀ H₀) elt te)
    (hsw : swapsWith (.ListComp elt [⟨.Name x px, iter, ifs, 0⟩] scope pos) (some (.Name y py)) spos.line X.env = pure true := by rfl)
    (hs : ∀ v, foldedSetIterable iter X.env v = pure v := by intro _; rfl) (hf : X.fn y = true ∨ X.env.scope.names.lookup y = some .local := by first | exact .inl rfl | exact .inr rfl | assumption) :
    QS X (.Assign [.Name y py] (.ListComp elt [⟨.Name x px, iter, ifs, 0⟩] scope pos) spos) (tAsg (tComp wi tt te cap) (gName i)) :=
  .mk (ps_setComp hN hi' hx B hc hex hi.to (fun C fp s₀ H₀ => (ht C fp s₀ H₀).to) (fun C fp s₀ H₀ => (he C fp s₀ H₀).to) hsw hs hf)
theorem qs_asg {tg : Expr} {g : TG} (he : QE X e te) (hg : QG X tg g) (hs : swapsWithSole [tg] e pos.line X.env = pure false := by rfl) (hw : swappedStores [tg] e X.env = pure none := by rfl)
    (h1 : (assignEach [tg] X.env).map (·.2) = [assign tg X.env] := by rfl) : QS X (.Assign [tg] e pos) (tAsg te g) := .mk (ps_asg he.to hg.to hs hw h1)
theorem qs_for {tg iter : Expr} {wi : TI} {g : TG} (hp : PassesOwn (model X.prog X.w) X.A X.env X.xe) (hc : X.calm = true) (hi : QI X tg iter wi) (hg : QG X tg g) (hb : QSs X body s)
    (hs : ∀ x, foldedSetIterable iter X.env x = pure x := by intro _; rfl) : QS X (.For tg iter body [] pos) (tFor wi g s) := .mk (ps_for hp hc hi.to hg.to hb.to hs)
theorem qs_while (hp : PassesOwn (model X.prog X.w) X.A X.env X.xe) (hc : QT X c tt) (hb : QSs X body s) : QS X (.While c body [] pos) (tWhile tt s) := .mk (ps_while hp hc.to hb.to)
end
end
end L2
end
section
set_option linter.all false
set_option maxRecDepth 100000
set_option maxHeartbeats 4000000
namespace L2
open PySem PySem.Spec PyProof.Rows
open PySem.SeqAt (EqAt RcAt RcNeAt)
theorem Vals.at {xs : List V} {us : List Value} (r : Vals xs us) {j : Nat} (h : j < us.length) : ∃ x, xs[j]? = some x ∧ RelV x us[j] := by
  have h1 : j < xs.length := by rw [r.length]; exact h
  have e : xs[j]? = some xs[j] := List.getElem?_eq_getElem h1
  obtain ⟨u, hu, ru⟩ := r.get e
  rw [List.getElem?_eq_getElem h] at hu
  cases hu
  exact ⟨_, e, ru⟩
section
variable {X : Cx}
end
theorem Room.u100 {k : Nat} {A : Around} (r : Room k A) : A.units + 100 < cLine := by have := r.un; lia
end L2
end
section
set_option linter.all false
set_option maxRecDepth 100000
set_option maxHeartbeats 1000000
namespace Hm
open PySem L2
abbrev g (xs : List V) (i : Nat) : V := xs.getD i .non
def sw (xs : List V) (i j : Nat) : List V := (xs.set i (g xs j)).set j (g xs i)
structure Od (lt : V → V → Bool) : Prop where
 as : ∀ a b, lt a b = true → lt b a = false
 nt : ∀ a b c, lt a b = false → lt b c = false → lt a c = false
theorem sw_len {xs : List V} {i j : Nat} : (sw xs i j).length = xs.length := by simp [sw]
theorem g_get {xs : List V} {i : Nat} (h : i < xs.length) : g xs i = xs[i] := by simp [g, List.getD_eq_getElem?_getD, h]
theorem sw_perm {xs : List V} {i j : Nat} (hi : i < xs.length) (hj : j < xs.length) : (sw xs i j).Perm xs := by
 unfold sw
 rw [g_get hi, g_get hj]
 exact List.set_set_perm hi hj
def les (lt : V → V → Bool) (xs : List V) (p : Nat) : Nat := if 2 * p + 2 < xs.length ∧ lt (g xs (2 * p + 2)) (g xs (2 * p + 1)) = true then 2 * p + 2 else 2 * p + 1
def kids (n p : Nat) : Nat := if 2 * p + 2 < n then 2 else if 2 * p + 1 < n then 1 else 0
def dn (lt : V → V → Bool) : Nat → List V → Nat → Nat → List V × Nat
 | 0, xs, _, lk => (xs, lk)
 | f + 1, xs, p, lk => if 2 * p + 1 < xs.length then
   if lt (g xs (les lt xs p)) (g xs p) = true then dn lt f (sw xs p (les lt xs p)) (les lt xs p) (lk + kids xs.length p) else (xs, lk + kids xs.length p)
  else (xs, lk)
def up (lt : V → V → Bool) : Nat → List V → Nat → Nat → List V × Nat
 | 0, xs, _, lk => (xs, lk)
 | f + 1, xs, p, lk => if 0 < p then
   if lt (g xs p) (g xs ((p - 1) / 2)) = true then up lt f (sw xs p ((p - 1) / 2)) ((p - 1) / 2) (lk + 1) else (xs, lk + 1)
  else (xs, lk)
theorem les_lo {lt : V → V → Bool} {xs : List V} {p : Nat} : 2 * p + 1 ≤ les lt xs p := by unfold les; split <;> lia
theorem les_lt {lt : V → V → Bool} {xs : List V} {p : Nat} (h : 2 * p + 1 < xs.length) : les lt xs p < xs.length := by unfold les; split <;> lia
theorem dn_len {lt : V → V → Bool} : ∀ {f : Nat} {xs : List V} {p lk : Nat}, (dn lt f xs p lk).1.length = xs.length
 | 0, xs, p, lk => rfl
 | f + 1, xs, p, lk => by
  unfold dn
  split
  ·split
   ·rw [dn_len, sw_len]
   ·rfl
  ·rfl
theorem dn_perm {lt : V → V → Bool} : ∀ {f : Nat} {xs : List V} {p lk : Nat}, (dn lt f xs p lk).1.Perm xs
 | 0, xs, p, lk => .refl _
 | f + 1, xs, p, lk => by
  unfold dn
  split
  ·rename_i h
   split
   ·exact dn_perm.trans (sw_perm (by lia) (les_lt h))
   ·exact .refl _
  ·exact .refl _
theorem up_perm {lt : V → V → Bool} : ∀ {f : Nat} {xs : List V} {p lk : Nat}, p < xs.length → (up lt f xs p lk).1.Perm xs
 | 0, xs, p, lk, _ => .refl _
 | f + 1, xs, p, lk, hp => by
  unfold up
  split
  ·split
   ·exact (up_perm (by rw [sw_len]; lia)).trans (sw_perm (by lia) (by lia))
   ·exact .refl _
  ·exact .refl _
def HF (lt : V → V → Bool) (q : Nat) (xs : List V) : Prop := ∀ k, 0 < k → k < xs.length → q ≤ (k - 1) / 2 → lt (g xs k) (g xs ((k - 1) / 2)) = false
def IsH (lt : V → V → Bool) (xs : List V) : Prop := ∀ k, 0 < k → k < xs.length → lt (g xs k) (g xs ((k - 1) / 2)) = false
def mk (lt : V → V → Bool) : Nat → List V → Nat → List V × Nat
 | 0, xs, lk => (xs, lk)
 | k + 1, xs, lk => mk lt k (dn lt xs.length xs k 0).1 (lk + (dn lt xs.length xs k 0).2)
theorem mk_perm {lt : V → V → Bool} : ∀ {k : Nat} {xs : List V} {lk : Nat}, (mk lt k xs lk).1.Perm xs
 | 0, _, _ => .refl _
 | k + 1, xs, lk => by unfold mk; exact mk_perm.trans dn_perm
end Hm
end
section
set_option linter.all false
set_option maxRecDepth 100000
set_option maxHeartbeats 1000000
namespace L2
open PySem
def tupE : Option HO → List V
  | some (.tup [.int i, .str n, .int j]) => [.int i, .str n, .int j]
  | _ => [.int 0, .str "", .int 0]
theorem tupE_en (o : Option HO) : isEn (tupE o) := by
  unfold tupE
  split
  · exact ⟨_, _, _, rfl⟩
  · exact ⟨_, _, _, rfl⟩
def keyE (H : Hp) : V → List V
  | .ref a => tupE (H a)
  | _ => [.int 0, .str "", .int 0]
theorem keyE_en (H : Hp) (x : V) : isEn (keyE H x) := by
  unfold keyE
  split
  · exact tupE_en _
  · exact ⟨_, _, _, rfl⟩
theorem keyE_at {H : Hp} {a : Addr} {l : List V} (h : H a = some (.tup l)) (e : isEn l) : keyE H (.ref a) = l := by
  obtain ⟨i, n, j, rfl⟩ := e
  show tupE (H a) = _
  rw [h]
  rfl
def ltT (t : V → List V) (a b : V) : Bool := lexV (t a) (t b)
structure EnR (t : V → List V) (H : Hp) (xs : List V) : Prop where
  tot : ∀ x, isEn (t x)
  mem : ∀ x ∈ xs, ∃ a, x = .ref a ∧ H a = some (.tup (t x))
section
variable {t : V → List V} {H H' : Hp} {xs ys : List V}
theorem EnR.sub (e : EnR t H xs) (s : ∀ y ∈ ys, y ∈ xs) : EnR t H ys := ⟨e.tot, fun x hx => e.mem x (s x hx)⟩
theorem EnR.move (e : EnR t H xs) (s : ∀ b l, H b = some (.tup l) → H' b = some (.tup l)) : EnR t H' xs := ⟨e.tot, fun x hx => by
  obtain ⟨a, rfl, h⟩ := e.mem x hx
  exact ⟨a, rfl, s _ _ h⟩⟩
theorem EnR.put (e : EnR t H xs) {p : Addr} {o : HO} {zs : List V} (h : H p = some (.lst zs)) : EnR t (upd H p o) xs := e.move fun b l q => by rw [upd_ne (ne_of q h (by intro z; cases z))]; exact q
theorem EnR.bar (e : EnR t H xs) {r : Addr} {zs : List V} (h : H r = some (.lst zs)) (s : ∀ b o, H b = some o → b ≠ r → H' b = some o) : EnR t H' xs := e.move fun b l q =>
  s b _ q (ne_of q h (by intro z; cases z))
theorem EnR.fit (e : EnR t H xs) (x y : V) : fitL (t x) (t y) := fit_en (e.tot _) (e.tot _)
theorem EnR.gat (e : EnR t H xs) {i : Nat} (h : i < xs.length) : ∃ a, Hm.g xs i = .ref a ∧ H a = some (.tup (t (Hm.g xs i))) ∧ Hm.g xs i ∈ xs ∧ atI xs (i : Int) = some (Hm.g xs i) := by
  have hm : Hm.g xs i ∈ xs := by rw [Hm.g_get h]; exact List.getElem_mem h
  obtain ⟨a, e1, h1⟩ := e.mem _ hm
  refine ⟨a, e1, h1, hm, atI_nat ?_⟩
  rw [Hm.g_get h]
  exact List.getElem?_eq_getElem h
end
theorem at_g {xs : List V} {i : Nat} (h : i < xs.length) : atI xs (i : Int) = some (Hm.g xs i) := atI_nat (by rw [Hm.g_get h]; exact List.getElem?_eq_getElem h)
end L2
namespace Hm
open PySem L2
variable {lt : V → V → Bool} {xs : List V} {f p lk : Nat}
theorem dn_stop (h : ¬ 2 * p + 1 < xs.length) : dn lt f xs p lk = (xs, lk) := by
  cases f with
  | zero => rfl
  | succ f => unfold dn; rw [if_neg h]
theorem dn_stay (h : 2 * p + 1 < xs.length) (q : lt (g xs (les lt xs p)) (g xs p) = false) : dn lt (f + 1) xs p lk = (xs, lk + kids xs.length p) := by
  unfold dn; rw [if_pos h, if_neg (by rw [q]; exact Bool.false_ne_true)]
theorem dn_go (h : 2 * p + 1 < xs.length) (q : lt (g xs (les lt xs p)) (g xs p) = true) : dn lt (f + 1) xs p lk = dn lt f (sw xs p (les lt xs p)) (les lt xs p) (lk + kids xs.length p) := by
  conv => lhs; unfold dn
  rw [if_pos h, if_pos q]
theorem up_stop (h : ¬ 0 < p) : up lt f xs p lk = (xs, lk) := by
  cases f with
  | zero => rfl
  | succ f => unfold up; rw [if_neg h]
theorem up_stay (h : 0 < p) (q : lt (g xs p) (g xs ((p - 1) / 2)) = false) : up lt (f + 1) xs p lk = (xs, lk + 1) := by
  unfold up; rw [if_pos h, if_neg (by rw [q]; exact Bool.false_ne_true)]
theorem up_go (h : 0 < p) (q : lt (g xs p) (g xs ((p - 1) / 2)) = true) : up lt (f + 1) xs p lk = up lt f (sw xs p ((p - 1) / 2)) ((p - 1) / 2) (lk + 1) := by
  conv => lhs; unfold up
  rw [if_pos h, if_pos q]
theorem les_two (h : 2 * p + 2 < xs.length) : (les lt xs p : Int) = 2 * (p : Int) + 1 + (if lt (g xs (2 * p + 2)) (g xs (2 * p + 1)) = true then 1 else 0) := by
  unfold les
  by_cases q : lt (g xs (2 * p + 2)) (g xs (2 * p + 1)) = true
  · rw [if_pos ⟨h, q⟩, if_pos q]; lia
  · rw [if_neg (fun z => q z.2), if_neg q]; lia
theorem les_one (h : ¬ 2 * p + 2 < xs.length) : les lt xs p = 2 * p + 1 := by
  unfold les
  rw [if_neg (fun z => h z.1)]
theorem sw_mem {i j : Nat} (hi : i < xs.length) (hj : j < xs.length) : ∀ y ∈ sw xs i j, y ∈ xs := fun y hy => (sw_perm hi hj).mem_iff.mp hy
end Hm
end
section
set_option linter.all false
set_option maxRecDepth 100000
set_option maxHeartbeats 1000000
namespace L2
open PySem
theorem comp_list {K : PySem.W.Frag} {a : Addr} {xs : List V} {tt : TT} {te : TE} {cap : List Nat} {σ : St} {H : Hp} {D : Addr} {Q : VK} (Pv : Nat → List V → Hp → Prop) (h0 : Pv 0 [] (upd H D (.lst []))) (hD : ∀ i ys H, Pv i ys H → H D = some (.lst ys) ∧ SqL K H a xs)
    (hs : ∀ i x ys H, xs[i]? = some x → Pv i ys H → tt (some x :: capσ cap σ) H fun b H3 =>
      if b = true then te (some x :: capσ cap σ) H3 fun v H4 => H4 D = some (.lst ys) ∧ ys.length < sizeLine ∧ ∃ m', m' < xs.length - i ∧ m' = xs.length - (i + 1) ∧ i + 1 ≤ xs.length ∧ Pv (i + 1) (ys ++ [v]) (upd H4 D (.lst (ys ++ [v])))
      else ∃ m', m' < xs.length - i ∧ m' = xs.length - (i + 1) ∧ i + 1 ≤ xs.length ∧ Pv (i + 1) ys H3)
    (hd : ∀ ys H, Pv xs.length ys H → Q (.ref D) H) :
    ∃ W : Nat → Nat → List V → Hp → Prop, (∃ m, W 0 m [] (upd H D (.lst []))) ∧ ∀ i m ys H, W i m ys H → H D = some (.lst ys) ∧
    (((Itl K a).stop i H ∧ Q (.ref D) H) ∨ ((Itl K a).go i H ∧ ∀ x H', (Itl K a).yld i H x H' → tt (some x :: capσ cap σ) H' fun b H3 =>
      if b = true then te (some x :: capσ cap σ) H3 fun v H4 => H4 D = some (.lst ys) ∧ ys.length < sizeLine ∧ ∃ m', m' < m ∧ W (i + 1) m' (ys ++ [v]) (upd H4 D (.lst (ys ++ [v])))
      else ∃ m', m' < m ∧ W (i + 1) m' ys H3)) := by
  refine ⟨fun i m ys H => m = xs.length - i ∧ i ≤ xs.length ∧ Pv i ys H, ⟨xs.length, by simp, Nat.zero_le _, h0⟩, ?_⟩
  rintro i m ys H ⟨rfl, hi, p⟩
  obtain ⟨q1, q⟩ := hD i ys H p
  refine ⟨q1, ?_⟩
  by_cases hlt : i < xs.length
  · refine .inr ⟨⟨xs, xs[i], q, by simp [hlt]⟩, fun x H' y => ?_⟩
    obtain ⟨e, y⟩ := y
    subst e
    exact hs i x ys _ (y xs q) p
  · have e : i = xs.length := by lia
    subst e
    exact .inl ⟨⟨xs, q, Nat.le_refl _⟩, hd ys H p⟩
end L2
namespace Hm
open PySem L2
end Hm
end
section
set_option linter.all false
set_option maxRecDepth 100000
set_option maxHeartbeats 4000000
namespace L2
open PySem PySem.Spec PyProof.Rows
def Itd (lo : Int) (n : Nat) : It := ⟨fun i _ => i < n, fun i H x H' => H' = H ∧ x = .int (lo - i), fun i _ => n ≤ i⟩
theorem rsz_dn (a b : Int) : Builtin.Range.rangeSize a b (-1) = ((a - b).toNat : Int) := by
  unfold Builtin.Range.rangeSize
  rw [if_neg (by decide)]
  split
  · rw [show -(-1 : Int) = 1 by decide, Int.ediv_one]; lia
  · lia
theorem small_dn {a b : Int} (ha : -(2 ^ 62) ≤ a) (ha' : a < 2 ^ 62) (hb : -(2 ^ 62) ≤ b) (hb' : b < 2 ^ 62) : Builtin.Range.small a b (-1) = true := by
  unfold Builtin.Range.small
  rw [rsz_dn]
  simp only [Builtin.Range.rangeFitsLong, Bool.and_eq_true, Bool.or_eq_true, decide_eq_true_eq, beq_iff_eq, show ¬ ((-1 : Int) > 0) by decide, if_false]
  lia
theorem turn_rangeD {P : Program} {w : World} {K : PySem.W.Frag} {tg : Expr} (it : Addr) (lo : Int) (n : Nat) : Turn P w K tg (Itd lo n) [it] it (fun i h => IsRangeIter h it (lo + (i : Nat) * (-1)) ((n : Int) - (i : Nat)) (-1)) where
  mem := by simp
  obj := fun i h st b hb => by
    have e : b = it := by simpa using hb
    subst e
    exact ⟨_, st, fun v z => by
      have z' : Data.fields _ = Data.cell v := z
      cases z'⟩
  keep := fun i h h' st k => k it (by simp) _ st
  item := by
    intro X hP hw hK hc i pins s σ H E I hf st hg
    subst hP hw hK
    obtain ⟨f0, f1, f2, f3, f4, f5⟩ := hf it (by simp)
    have W := Walks.range (prog := X.prog) (w := X.w) (I.ok.hd hc) it lo (-1) n
    refine W.item i s _ _ hg st fun v h' tk hv st' kk => ?_
    obtain ⟨t, rfl⟩ := hv
    have I1 : Inv X pins σ H { s with heap := h', toks := tk } := I.turned (fun b o hb e => kk b o (by simpa using hb) e) f0 f1 f3 f4 f5
    refine ⟨_, rfl, go_of (s := { s with heap := h', toks := tk }) (n := "range_iterator") st' rfl rfl (by decide) ⟨.int (lo - i), H, I1, ⟨t, ?_⟩, ⟨rfl, rfl⟩, st', fun b hb => (hf b hb).1⟩⟩
    rw [show lo + (i : Int) * (-1) = lo - i by lia]
  done := by
    intro X hP hw hK hc i pins s σ H E I hf st hg
    subst hP hw hK
    obtain ⟨f0, f1, f2, f3, f4, f5⟩ := hf it (by simp)
    exact wpAny_pyNext_range_end (I.ok.hd hc) st (by have : n ≤ i := hg; lia) fun h' eb => ⟨rfl, I.turned (t' := s.toks) (fun b o hb e => eb b o hb e) f0 f1 f3 f4 f5⟩
  self := fun _ _ _ _ _ st h => wpAny_pyIter_rangeiter st h
section
variable {X : Cx} {tg : Expr}
theorem range_itD {pins : List (Addr × Obj)} {σ : St} {H : Hp} {s : Shared} {R : It → Hp → Prop} {E : Value → Shared → Prop} {lo hi : Int} {t u v : Tok} {tk : Nat} (I : Inv X pins σ H s) (h1 : -(2 ^ 62) ≤ lo) (h2 : lo < 2 ^ 62) (h3 : -(2 ^ 62) ≤ hi) (h4 : hi < 2 ^ 62)
    (q : R (Itd lo (lo - hi).toNat) H) : wpAny (model X.prog X.w) X.A (pyIter (.ref s.heap.objs.size)) (PIE X pins σ tg R) E { s with heap := s.heap.push { cls := .type "range", data := .fields #[.int lo t, .int hi u, .int (-1) v] }, toks := tk } := by
  refine wpAny_pyIter_range (IsRange.new ..) (small_dn h1 h2 h3 h4) ?_
  have I1 : Inv X pins σ H { s with heap := s.heap.push { cls := .type "range", data := .fields #[.int lo t, .int hi u, .int (-1) v] }, toks := tk } := I.kept fun b o e => Heap.get?_push_of_some _ e
  refine ⟨(s.heap.push { cls := .type "range", data := .fields #[.int lo t, .int hi u, .int (-1) v] }).objs.size, [(s.heap.push { cls := .type "range", data := .fields #[.int lo t, .int hi u, .int (-1) v] }).objs.size], _, _, H, rfl,
    I1.kept (t' := tk) fun b o e => Heap.get?_push_of_some _ e, turn_rangeD _ lo (lo - hi).toNat, ?_, fun b hb => ?_, q⟩
  · have e1 : lo + ((0 : Nat) : Int) * (-1) = lo := by simp
    have e2 : (((lo - hi).toNat : Nat) : Int) - ((0 : Nat) : Int) = Builtin.Range.rangeSize lo hi (-1) := by rw [rsz_dn]; lia
    show IsRangeIter _ _ (lo + ((0 : Nat) : Int) * (-1)) ((((lo - hi).toNat : Nat) : Int) - ((0 : Nat) : Int)) (-1)
    rw [e1, e2]
    exact Heap.get?_push_size _ rfl
  · have e : b = (s.heap.push { cls := .type "range", data := .fields #[.int lo t, .int hi u, .int (-1) v] }).objs.size := by simpa using hb
    subst e
    exact I1.fpOk (Nat.le_refl _) (I1.hok.fresh (Nat.le_refl _))
def iRngD (ta : TA) : TI := fun σ H R => ta σ H fun vs H1 => ∃ i j : Int, vs = [.int i, .int j, .int (-1)] ∧ (-(2 ^ 62) ≤ i ∧ i < 2 ^ 62 ∧ -(2 ^ 62) ≤ j ∧ j < 2 ^ 62) ∧ R (Itd i (i - j).toNat) H1
theorem pi_rangeD {a b c : Expr} {ta : TA} {p pos : Pos} (hg : Gl X "range") (hm : X.mg "range" = none) (ha : PA X [a, b, c] ta) (hs : starEach [a, b, c] X.env = [(false, eval a X.env), (false, eval b X.env), (false, eval c X.env)] := by rfl) (hs2 : starEach [b, c] X.env = [(false, eval b X.env), (false, eval c X.env)] := by rfl) :
    PI X tg (.Call (.Name "range" p) [a, b, c] [] pos) (iRngD ta) := by
  intro pins s σ H R I h
  refine Call_ (ld_blt I hg hm boot_range (PyProof.Rows.callWith_type1 (thn (ha pos pins s σ H _ I h) fun us s1 ⟨vs, H1, I1, r1, q1⟩ => ?_) (by rw [hs, hs2]) (by rw [hs2]; rfl)))
  obtain ⟨i, j, e, ⟨q1, q2, q3, q4⟩, q⟩ := q1
  subst e
  cases r1 with
  | cons r rr =>
    cases rr with
    | cons r' rr =>
      cases rr with
      | cons r'' rr =>
        cases rr
        obtain ⟨t, rfl⟩ := r
        obtain ⟨t', rfl⟩ := r'
        obtain ⟨t'', rfl⟩ := r''
        exact call_range_3 (by decide) (range_itD I1 q1 q2 q3 q4 q) (.inl (PyProof.noPylong_small (by decide)))
theorem qi_rangeD {a b c : Expr} {ta : TA} {p pos : Pos} (hg : Gl X "range") (hm : X.mg "range" = none) (ha : QA X [a, b, c] ta) (hs : starEach [a, b, c] X.env = [(false, eval a X.env), (false, eval b X.env), (false, eval c X.env)] := by rfl) (hs2 : starEach [b, c] X.env = [(false, eval b X.env), (false, eval c X.env)] := by rfl) :
    QI X tg (.Call (.Name "range" p) [a, b, c] [] pos) (iRngD ta) := .mk (pi_rangeD hg hm ha.to hs hs2)
theorem for_rangeD {lo : Int} {n : Nat} {g : TG} {tb : TS} {D : Ends} {σ : St} {H : Hp} (Pv : Nat → St → Hp → Prop) (h0 : Pv 0 σ H)
    (hs : ∀ i σ H, i < n → Pv i σ H → g (.int (lo - i)) σ H fun σ2 H2 => tb { D with nx := Pv (i + 1), ct := Pv (i + 1), bk := D.nx } σ2 H2) (hd : ∀ σ H, Pv n σ H → D.nx σ H) :
    ∃ W : Nat → Nat → St → Hp → Prop, (∃ m, W 0 m σ H) ∧ ∀ i m σ H, W i m σ H →
      ((Itd lo n).stop i H ∧ D.nx σ H) ∨ ((Itd lo n).go i H ∧ ∃ N : St → Hp → Prop, (∀ σ' H', N σ' H' → ∃ m', m' < m ∧ W (i + 1) m' σ' H') ∧ ∀ x H', (Itd lo n).yld i H x H' → g x σ H' fun σ2 H2 => tb { D with nx := N, ct := N, bk := D.nx } σ2 H2) := by
  refine ⟨fun i m σ H => m = n - i ∧ i ≤ n ∧ Pv i σ H, ⟨n, by simp, Nat.zero_le _, h0⟩, ?_⟩
  rintro i m σ H ⟨rfl, hi, p⟩
  by_cases hlt : i < n
  · refine .inr ⟨hlt, Pv (i + 1), fun σ' H' p' => ⟨n - (i + 1), by lia, rfl, hlt, p'⟩, fun x H' y => ?_⟩
    obtain ⟨e, y⟩ := y
    subst e y
    exact hs i σ _ hlt p
  · have e : i = n := by lia
    subst e
    exact .inl ⟨Nat.le_refl _, hd σ H p⟩
end
end L2
namespace L2
open PySem
theorem comp_listR {K : PySem.W.Frag} {a : Addr} {xs : List V} {tt : TT} {te : TE} {cap : List Nat} {σ : St} {H : Hp} {D : Addr} {R : Hp → Prop} (Pv : Nat → List V → Hp → Prop) (h0 : Pv 0 [] (upd H D (.lst []))) (hD : ∀ i ys H, Pv i ys H → H D = some (.lst ys) ∧ SqL K H a xs)
    (hs : ∀ i x ys H, xs[i]? = some x → Pv i ys H → tt (some x :: capσ cap σ) H fun b H3 =>
      if b = true then te (some x :: capσ cap σ) H3 fun v H4 => H4 D = some (.lst ys) ∧ ys.length < sizeLine ∧ ∃ m', m' < xs.length - i ∧ m' = xs.length - (i + 1) ∧ i + 1 ≤ xs.length ∧ Pv (i + 1) (ys ++ [v]) (upd H4 D (.lst (ys ++ [v])))
      else ∃ m', m' < xs.length - i ∧ m' = xs.length - (i + 1) ∧ i + 1 ≤ xs.length ∧ Pv (i + 1) ys H3)
    (hd : ∀ ys H, Pv xs.length ys H → R H) :
    ∃ W : Nat → Nat → List V → Hp → Prop, (∃ m, W 0 m [] (upd H D (.lst []))) ∧ ∀ i m ys H, W i m ys H → H D = some (.lst ys) ∧
    (((Itl K a).stop i H ∧ R H) ∨ ((Itl K a).go i H ∧ ∀ x H', (Itl K a).yld i H x H' → tt (some x :: capσ cap σ) H' fun b H3 =>
      if b = true then te (some x :: capσ cap σ) H3 fun v H4 => H4 D = some (.lst ys) ∧ ys.length < sizeLine ∧ ∃ m', m' < m ∧ W (i + 1) m' (ys ++ [v]) (upd H4 D (.lst (ys ++ [v])))
      else ∃ m', m' < m ∧ W (i + 1) m' ys H3)) :=
  comp_list (Q := fun _ H => R H) Pv h0 hD hs hd
end L2
end
section
set_option linter.all false
set_option maxRecDepth 100000
set_option maxHeartbeats 4000000
namespace TS
open PySem PyProof.Rows
section
variable {prog : Program} {w : World} {A : Around} {E : Value → Shared → Prop} {s : Shared} {κ : KeyKind} {kd : SortKind}
end
end TS
namespace L2
open PySem PySem.Spec PyProof.Rows
section
variable {X : Cx}
end
end L2
end
section
set_option linter.all false
set_option maxRecDepth 100000
set_option maxHeartbeats 1000000
namespace Hm
open PySem L2
def lgs (n : Nat) : Nat → Nat
 | 0 => 0
 | k + 1 => lgs n k + (n / (k + 1)).log2
def cutf (lt : V → V → Bool) (xs : List V) : List V × Nat :=
 if xs.dropLast = [] then ([], 0) else dn lt xs.dropLast.length (xs.dropLast.set 0 (g xs (xs.length - 1))) 0 0
theorem split_ends {xs : List V} (h : 2 ≤ xs.length) : ∃ mid, xs = g xs 0 :: mid ++ [g xs (xs.length - 1)] ∧ xs.dropLast = g xs 0 :: mid := by
 cases xs with
 | nil => simp at h
 | cons a l =>
  have hl : l ≠ [] := by intro e; rw [e] at h; simp at h
  refine ⟨l.dropLast, ?_, ?_⟩
  ·show a :: l = a :: l.dropLast ++ [g (a :: l) l.length]
   have : g (a :: l) l.length = l.getLast hl := by
    rw [g_get (by simp)]
    rw [List.getLast_eq_getElem]
    rw [List.getElem_cons]
    have : l.length ≠ 0 := by intro e; exact hl (List.length_eq_zero_iff.mp e)
    simp [this]
   rw [this, List.cons_append, List.dropLast_concat_getLast]
  ·show (a :: l).dropLast = a :: l.dropLast
   exact List.dropLast_cons_of_ne_nil hl
theorem cutf_one {lt : V → V → Bool} {xs : List V} (h : xs.length = 1) : cutf lt xs = ([], 0) := by
 unfold cutf
 rw [if_pos]
 rw [← List.length_eq_zero_iff, List.length_dropLast, h]
theorem cutf_two {lt : V → V → Bool} {xs mid : List V} (e : xs.dropLast = g xs 0 :: mid) : cutf lt xs = dn lt (mid.length + 1) (g xs (xs.length - 1) :: mid) 0 0 := by
 unfold cutf
 rw [if_neg (by rw [e]; simp), e]
 rfl
theorem cutf_perm {lt : V → V → Bool} {xs : List V} (h : 0 < xs.length) : (g xs 0 :: (cutf lt xs).1).Perm xs := by
 by_cases h2 : 2 ≤ xs.length
 ·obtain ⟨mid, e, e2⟩ := split_ends h2
  rw [cutf_two e2]
  refine (List.Perm.cons _ dn_perm).trans ?_
  conv => rhs; rw [e]
  rw [List.cons_append]
  refine List.Perm.cons _ ?_
  exact (List.perm_append_comm (l₁ := [g xs (xs.length - 1)]) (l₂ := mid))
 ·rw [cutf_one (by lia)]
  cases xs with
  | nil => simp at h
  | cons a l =>
   have : l = [] := List.length_eq_zero_iff.mp (by rw [List.length_cons] at h2; lia)
   subst this
   exact .refl _
end Hm
namespace L2
open PySem PySem.Spec PyProof.Rows
open PySem.SeqAt (EqAt RcAt RcNeAt)
theorem qe_bm0 {X : Cx} {o : Expr} {to : TE} {name : Str} {apos cpos : Pos} {T id : String} {r : V → List V → Hp → VK → Prop} (pa : PlainAttrs T) (slot : Slot T name id) (hty : typeOf (.builtin id) = pure (.type "method_descriptor")) (hm : MtR X id r) (ho : QE X o to)
  (hbase : attributeBase o name X.env (eval o X.env) = eval o X.env := by rfl) (hline : (apos.endLine == cpos.line) = true := by rfl) : QE X (.Call (.Attribute o name apos) [] [] cpos) (tBM0 X.K T r to) := .mk (pe_bm0 pa slot hty hm ho.to hbase hline)
end L2
end
section
set_option linter.all false
set_option maxRecDepth 100000
set_option maxHeartbeats 4000000
namespace L2
open PySem PySem.Spec PyProof.Rows
structure Ground (P : Program) (w : World) (fs : List Addr) (H H' : Hp) (h B : Heap) : Prop where
  ok : HOk P w H' B
  old : ∀ b o, h.get? b = some o → H b = none → b ∉ fs → B.get? b = some o
  there : ∀ b o, h.get? b = some o → b ∉ fs → ∃ o', B.get? b = some o'
def CXe (P : Program) (w : World) : CXT := fun outer H s E v s' => ∃ (e C : Addr) (H' : Hp) (B : Heap) (a0 : Value), v = .ref e ∧ s'.os = s.os ∧ AllBare s'.gens ∧ Un (frs outer) [] H H' s.heap s'.heap ∧
  Ground P w (frs outer) H H' s.heap B ∧ Heap.FlyingW B outer e (.ref C) a0 s'.heap ∧ E (.ref C) none H'
theorem HOk.get {P : Program} {w : World} {H : Hp} {h : Heap} {a : Addr} {o : HO} (x : HOk P w H h) (e : H a = some o) : ∃ ob, h.get? a = some ob := by
  have q := x a o e
  cases o with
  | lst xs => obtain ⟨_, _, _, _, e⟩ := q; exact ⟨_, e⟩
  | tup xs => obtain ⟨_, _, _, ob, e, _⟩ := q; exact ⟨_, e⟩
  | dK kvs => obtain ⟨_, _, _, _, o, _, _, e, _⟩ := q; exact ⟨_, e⟩
  | dT kvs => obtain ⟨_, _, _, _, o, _, _, e, _⟩ := q; exact ⟨_, e⟩
  | set S n => obtain ⟨o, _, _, _, e, _⟩ := q; exact ⟨_, e⟩
  | ins C dx fs => obtain ⟨_, _, _, e, _⟩ := q; exact ⟨_, e⟩
  | own y => obtain ⟨_, e⟩ := q; exact ⟨_, e⟩
  | xd fs => obtain ⟨_, ⟨_, _, _, e, _⟩, _⟩ := q; exact ⟨_, e⟩
  | rng lo hi => obtain ⟨_, _, _, e⟩ := q; exact ⟨_, e⟩
  | frz ob u => obtain ⟨e, _⟩ := q; exact ⟨_, e⟩
  | tbl ps => exact ⟨_, show h.get? a = some _ from q⟩
  | met f y => exact ⟨_, show h.get? a = some _ from q⟩
  | ext φ => obtain ⟨_, e, _⟩ := q; exact e
section
variable {X : Cx} {pins : List (Addr × Obj)} {σ : St} {H H' : Hp} {s s' : Shared} {B : Heap}
def Kp (X : Cx) (pins : List (Addr × Obj)) (σ : St) (H' : Hp) (s' : Shared) (B : Heap) : Prop := ∀ h' t', B.StaysIn h' → s'.heap.UpToSlots h' → Inv X pins σ H' { s' with heap := h', toks := t' }
theorem Inv.kp (I : Inv X pins σ H s) (os : s'.os = s.os) (bare : AllBare s'.gens) (U : Un (frs X.stack) [] H H' s.heap s'.heap) (G : Ground X.prog X.w (frs X.stack) H H' s.heap B) : Kp X pins σ H' s' B := fun h' t' st up => by
  have nof : ∀ b ∈ frs X.stack, ∀ o, s.heap.get? b = some o → ∃ sl, h'.get? b = some { o with slots := sl } := fun b hb o e => by
    obtain ⟨_, o', ho', hd⟩ := I.stack.mem hb
    rw [e] at ho'
    cases ho'
    obtain ⟨sl, e1⟩ := U.slot b o e (I.stkFree b hb) hb (by simp)
    exact up b { o with slots := sl } e1 hd
  have U2 : Un (frs X.stack) [] H H' s.heap h' := ⟨fun b o e n hb _ => st b o (G.old b o e n hb), fun b o e n hb _ => nof b hb o e, U.free, fun b o e _ => by
    by_cases hb : b ∈ frs X.stack
    · obtain ⟨sl, q⟩ := nof b hb o e
      exact ⟨_, q⟩
    · obtain ⟨o', q⟩ := G.there b o e hb
      exact ⟨o', st b o' q⟩, U.tups, U.frzs, U.tbls⟩
  obtain ⟨hh, g, d, t, o'⟩ := s'
  obtain rfl : o' = s.os := os
  have := I.call (h' := h') (g' := g) (d' := d) (t' := t') (ch := []) U2 (G.ok.kept st) bare (fun b z => absurd z (by simp))
  exact this
def Kt (X : Cx) (pins : List (Addr × Obj)) (σ : St) (H' : Hp) (s' : Shared) (B : Heap) : Prop := ∀ h' t' e o, B.StaysIn h' → s'.heap.UpToSlots h' → B.get? e = none → e ∉ frs X.stack → ObjOk X.prog X.w (upd H' e o) h' e o → Inv X pins σ (upd H' e o) { s' with heap := h', toks := t' }
theorem Inv.kt (I : Inv X pins σ H s) (os : s'.os = s.os) (bare : AllBare s'.gens) (U : Un (frs X.stack) [] H H' s.heap s'.heap) (G : Ground X.prog X.w (frs X.stack) H H' s.heap B) : Kt X pins σ H' s' B := fun h' t' e o st up hn hf new => by
  have nof : ∀ b ∈ frs X.stack, ∀ o, s.heap.get? b = some o → ∃ sl, h'.get? b = some { o with slots := sl } := fun b hb o e => by
    obtain ⟨_, o', ho', hd⟩ := I.stack.mem hb
    rw [e] at ho'
    cases ho'
    obtain ⟨sl, e1⟩ := U.slot b o e (I.stkFree b hb) hb (by simp)
    exact up b { o with slots := sl } e1 hd
  have tr : ∀ b u, H' b = some u → b ≠ e := fun b u q z => by
    obtain ⟨ob, q2⟩ := G.ok.get q
    rw [z, hn] at q2; cases q2
  have U2 : Un (frs X.stack) [] H (upd H' e o) s.heap h' := ⟨fun b o e n hb _ => st b o (G.old b o e n hb), fun b o e n hb _ => nof b hb o e, fun b o1 e1 n hx => by
    have hb : b ≠ e := fun z => by
      subst z
      have := G.old b o1 e1 n hf
      rw [hn] at this; cases this
    rw [upd_ne hb]
    exact U.free b o1 e1 n hx, fun b o e _ => by
    by_cases hb : b ∈ frs X.stack
    · obtain ⟨sl, q⟩ := nof b hb o e
      exact ⟨_, q⟩
    · obtain ⟨o', q⟩ := G.there b o e hb
      exact ⟨o', st b o' q⟩, fun b xs q => by rw [upd_ne (tr b _ (U.tups b xs q))]; exact U.tups b xs q, fun b ob u q => by rw [upd_ne (tr b _ (U.frzs b ob u q))]; exact U.frzs b ob u q, fun b ps q => by
      obtain ⟨m, q2⟩ := U.tbls b ps q
      exact ⟨m, by rw [upd_ne (tr b _ q2)]; exact q2⟩⟩
  have hk : HOk X.prog X.w (upd H' e o) h' := fun b u q => by
    by_cases hb : b = e
    · subst hb
      rw [upd_same] at q
      cases q
      exact new
    · rw [upd_ne hb] at q
      exact (G.ok b u q).stay (fun c v _ z => st c v z) (fun c z => by rw [upd_ne (tr c _ z)]; exact z) fun c xs z => by rw [upd_ne (tr c _ z)]; exact z
  obtain ⟨hh, g, d, t, o'⟩ := s'
  obtain rfl : o' = s.os := os
  have := I.call (h' := h') (g' := g) (d' := d) (t' := t') (ch := []) U2 hk bare (fun b z => absurd z (by simp))
  exact this
def XP (X : Cx) (pins : List (Addr × Obj)) (σ : St) (E : XK) (v : Value) (s' : Shared) : Prop := ∃ (e C : Addr) (H' : Hp) (B : Heap) (a0 : Value), v = .ref e ∧ Heap.FlyingW B X.stack e (.ref C) a0 s'.heap ∧
  Kp X pins σ H' s' B ∧ Kt X pins σ H' s' B ∧ HOk X.prog X.w H' B ∧ (∀ b o, X.s₀.heap.get? b = some o → X.H₀ b = none → b ∉ X.ex → b ∉ frs X.stack → B.get? b = some o) ∧ (∀ b o, X.s₀.heap.get? b = some o → b ∉ X.ex → b ∉ frs X.stack → ∃ o', B.get? b = some o') ∧ E (.ref C) none H'
theorem Inv.xp {E : XK} {v : Value} (I : Inv X pins σ H s) (h : CXe X.prog X.w X.stack H s E v s') : XP X pins σ E v s' := by
  have hst : ∀ b ∈ X.fs, b ∈ frs X.stack := fun b hb => by
    rcases I.ok.stk with e | ⟨e, _⟩
    · rw [e]; exact hb
    · rw [e]
      obtain ⟨env, he, hf⟩ := List.mem_filterMap.mp hb
      exact List.mem_filterMap.mpr ⟨env, List.mem_cons_of_mem _ he, hf⟩
  obtain ⟨e, C, H', B, a0, rfl, os, bare, U, G, fl, q⟩ := h
  refine ⟨e, C, H', B, a0, rfl, fl, I.kp os bare U G, I.kt os bare U G, G.ok, fun b o e n hx hb => ?_, fun b o e hx hb => ?_, q⟩
  · exact G.old b o (I.base.keep b o e n (fun z => hb (hst b z)) hx) (I.base.free b o e n hx) hb
  · obtain ⟨o', e1⟩ := I.base.there b o e hx
    exact G.there b o' e1 hb
end
section
variable {P : Program} {w : World} {K : PySem.W.Frag} {mg : Str → Option Value} {base : Heap} {N : List Str} {qual : Str} {scope : Scope} {f : Addr} {cd : Value} {A : Around} {outer : List Env} {s₀ : Shared} {H₀ : Hp} {E : XK}
theorem made_leaves {pins : List (Addr × Obj)} {σ : St} {H : Hp} {s : Shared} {h' : Heap} {e C : Addr} {args : List Value} (I : Inv (cxOf (CXe P w) P w K mg base N qual scope f cd A outer s₀ H₀ E) pins σ H s) (hx : Heap.MadeExcOf s.heap h' e (.ref C) args) (q : E (.ref C) none H) : (cxOf (CXe P w) P w K mg base N qual scope f cd A outer s₀ H₀ E).xe (.ref e) { s with heap := h' } := by
  have hin : ∀ env ∈ (cxOf (CXe P w) P w K mg base N qual scope f cd A outer s₀ H₀ E).stack, ∀ b, env.frame = some b → b ∈ frs (cxOf (CXe P w) P w K mg base N qual scope f cd A outer s₀ H₀ E).stack := fun env he b hb => List.mem_filterMap.mpr ⟨env, he, hb⟩
  have hsub : ∀ b, b ∈ frs (cxOf (CXe P w) P w K mg base N qual scope f cd A outer s₀ H₀ E).stack → b = s₀.heap.objs.size ∨ b ∈ frs outer := fun b hb => by
    obtain ⟨env, he, hf⟩ := List.mem_filterMap.mp hb
    rcases List.mem_cons.mp he with rfl | he
    · exact .inl (Option.some.inj hf).symm
    · exact .inr (List.mem_filterMap.mpr ⟨env, he, hf⟩)
  refine wpAny_leaves_madeW (base := PySem.W.hideAll s.heap (frs (cxOf (CXe P w) P w K mg base N qual scope f cd A outer s₀ H₀ E).stack)) (s := { s with heap := h' }) I.ok.frames rfl (fun b o q => PySem.W.of_hideAll _ q) (PySem.W.funFrames_hide I.stack hin) hx fun h2 t fl _ _ up => ?_
  have up2 : s.heap.UpToSlots h2 := (Heap.UpToSlots.of_keeps hx.keeps).trans up
  have st := fl.1
  have old : ∀ b o, s.heap.get? b = some o → b ∉ frs (cxOf (CXe P w) P w K mg base N qual scope f cd A outer s₀ H₀ E).stack → (PySem.W.hideAll s.heap (frs (cxOf (CXe P w) P w K mg base N qual scope f cd A outer s₀ H₀ E).stack)).get? b = some o := fun b o e nb => PySem.W.hideAll_get _ e nb
  have nL : ∀ b o, s₀.heap.get? b = some o → b ∉ frs outer → b ∉ frs (cxOf (CXe P w) P w K mg base N qual scope f cd A outer s₀ H₀ E).stack := fun b o e nb hb => by
    rcases hsub b hb with rfl | z
    · exact absurd (Heap.lt_size e) (Nat.lt_irrefl _)
    · exact nb z
  have fr2 : ∀ b ∈ frs outer, ∀ o, s.heap.get? b = some o → ∃ sl, h2.get? b = some { o with slots := sl } := fun b hb o e => by
    have hb' : b ∈ frs (cxOf (CXe P w) P w K mg base N qual scope f cd A outer s₀ H₀ E).stack := by
      obtain ⟨env, he, hf⟩ := List.mem_filterMap.mp hb
      exact List.mem_filterMap.mpr ⟨env, List.mem_cons_of_mem _ he, hf⟩
    obtain ⟨_, o', ho', hd⟩ := I.stack.mem hb'
    rw [e] at ho'
    cases ho'
    exact up2 b o e hd
  have hokB : HOk P w H (PySem.W.hideAll s.heap (frs (cxOf (CXe P w) P w K mg base N qual scope f cd A outer s₀ H₀ E).stack)) := fun a o ea => (I.hok a o ea).stay (fun b u hb q => old b u q fun z => by
    have := I.stkFree b z
    rcases hb with rfl | hb
    · rw [ea] at this; cases this
    · rw [hb] at this; cases this) (fun _ q => q) fun _ _ q => q
  refine ⟨e, C, H, PySem.W.hideAll s.heap (frs (cxOf (CXe P w) P w K mg base N qual scope f cd A outer s₀ H₀ E).stack), .ref t, rfl, I.os, I.bare, ⟨fun b o e n hb _ => ?_, fun b o e n hb _ => ?_, I.base.free, fun b o e _ => ?_, I.base.tups, I.base.frzs, I.base.tbls⟩, ⟨hokB, fun b o e n hb => old b o (I.base.keep b o e n hb (List.not_mem_nil)) (nL b o e hb), fun b o e hb => ?_⟩, fl, q⟩
  · exact st b o (old b o (I.base.keep b o e n hb List.not_mem_nil) (nL b o e hb))
  · obtain ⟨sl, e1⟩ := I.base.slot b o e n hb List.not_mem_nil
    obtain ⟨sl2, e2⟩ := fr2 b hb _ e1
    exact ⟨sl2, e2⟩
  · obtain ⟨o', e1⟩ := I.base.there b o e List.not_mem_nil
    by_cases hb : b ∈ frs outer
    · obtain ⟨sl, e2⟩ := fr2 b hb o' e1
      exact ⟨_, e2⟩
    · exact ⟨o', st b o' (old b o' e1 (nL b o e hb))⟩
  · obtain ⟨o', e1⟩ := I.base.there b o e List.not_mem_nil
    exact ⟨o', old b o' e1 (nL b o e hb)⟩
end
def mroHas (K : PySem.W.Frag) (C : Addr) (v : Value) : Bool := match K.lookup C with
  | some ⟨_, _, .cls cd, _⟩ => cd.mro.contains v
  | _ => false
theorem exc_at {K : PySem.W.Frag} {h : Heap} {C : Addr} {bmB : List Value} {newId : String} (ki : K.In h) (z : PySem.W.excIn K C bmB newId = true) :
    ∃ tl N1 nm q bs b1 b2 b3 b4 b5 b6 k0 k1 k2 k3 k5 mN, h.get? C = some (excClassObj nm q C N1 bs tl b1 b2 b3 b4 b5 b6 k0 k1 k2 k3 k5 newId) ∧ h.Ns N1 mN ∧ mN "__init__" = none ∧ OwnTail h bmB tl ∧ ∀ v, mroHas K C v = (Value.ref C :: tl).contains v := by
  unfold PySem.W.excIn at z
  split at z
  case h_2 => cases z
  rename_i dc cl so hlk
  split at z
  case h_2 => cases z
  rename_i C1 tl a0 a1 a2 a3 nw a5 hmr hso
  simp only [Bool.and_eq_true, beq_iff_eq, Bool.not_eq_true'] at z
  obtain ⟨⟨⟨⟨⟨e1, e2⟩, e3⟩, e4⟩, e5⟩, e6⟩ := z
  subst e1 e2
  cases cl with
  | mk c1 c2 c3 c4 c5 c6 c7 c8 c9 cA cB =>
    dsimp only at hmr e3 e5 e6
    subst hmr e3
    cases so with
    | mk l =>
      have hl : l = [a0, a1, a2, a3, some (.builtin nw), a5] := hso
      subst hl
      refine ⟨tl, _, _, _, _, _, _, _, _, _, _, _, _, _, _, _, _, ki _ _ hlk, .of_isNs (PySem.W.isNs_of_in ki e5), PySem.W.nsMap_none_of_in ki e5 e6, PySem.W.tail_of_in ki e4, fun v => ?_⟩
      unfold mroHas
      rw [hlk]
section
variable {P : Program} {w : World} {K : PySem.W.Frag} {mg : Str → Option Value} {base : Heap} {N : List Str} {qual : Str} {scope : Scope} {f : Addr} {cd : Value} {A : Around} {outer : List Env} {s₀ : Shared} {H₀ : Hp} {E : XK}
def tRaise (E : XK) (C : Addr) (ta : TA) : TS := fun _ σ H => ta σ H fun vs H1 => vs.length ≤ 1000 ∧ E (.ref C) none H1
theorem ps_raiseC {C : Addr} {x : Str} {e : Expr} {es : List Expr} {ta : TA} {np cpos pos : Pos} {B newId initId : String} {bm : List Value} (FB : ExcBaseFacts B newId initId bm) (hB : bm.contains (.type B) = true) (hg : Gl (cxOf (CXe P w) P w K mg base N qual scope f cd A outer s₀ H₀ E) x) (hm : mg x = some (.ref C)) (hC : PySem.W.excIn K C bm newId = true) (hh : A.handled = none)
    (ha : PA (cxOf (CXe P w) P w K mg base N qual scope f cd A outer s₀ H₀ E) (e :: es) ta) (he : starEach (e :: es) (cxOf (CXe P w) P w K mg base N qual scope f cd A outer s₀ H₀ E).env = (false, eval e (cxOf (CXe P w) P w K mg base N qual scope f cd A outer s₀ H₀ E).env) :: starEach es (cxOf (CXe P w) P w K mg base N qual scope f cd A outer s₀ H₀ E).env := by rfl) (hpl : (backTo cpos (starEach es (cxOf (CXe P w) P w K mg base N qual scope f cd A outer s₀ H₀ E).env)).any (·.1) = false := by rfl) (hd : (x == ("__debug__" : Str)) = false := by decide) :
    PS (cxOf (CXe P w) P w K mg base N qual scope f cd A outer s₀ H₀ E) (.Raise (some (.Call (.Name x np) (e :: es) [] cpos)) none pos) (tRaise E C ta) := by
  intro pins s σ H D I h
  obtain ⟨tl, N1, nm, q, bs, b1, b2, b3, b4, b5, b6, k0, k1, k2, k3, k5, mN, oC, oN, oi, oT, _⟩ := exc_at I.ok.mod.kin hC
  have h1 := ha cpos pins s σ H _ I h
  refine wpAny_Raise_call_subU (C := C) (nm := nm) (q := q) (N := N1) (bs := bs) (bm := tl) (hdct := b1) (sn := b2) (sub := b3) (ab := b4) (col := b5) (dd := b6) (k0 := k0) (k1 := k1) (k2 := k2) (k3 := k3) (k5 := k5) FB hB FB (mN := mN) (oT.hasType FB.hasBase) hh ?_ oi (ld_glob I hg hm ⟨rfl, ?_⟩ hd)
  · rw [he]
    show (false || (backTo cpos (starEach es (cxOf (CXe P w) P w K mg base N qual scope f cd A outer s₀ H₀ E).env)).any (·.1)) = false
    rw [hpl]; rfl
  rw [he] at h1 ⊢
  refine Calls.evalArgs_plain (thn h1 fun us s1 ⟨vs, H1, I1, r, hz, q1⟩ => ?_)
  have hl : us.length ≤ sizeLine := by rw [← r.length]; exact Nat.le_trans hz (by decide)
  exact ⟨rfl, hl, I1.bk _ _ oC, oN.keeps I1.bk, oT.keeps I1.bk, fun h' e' hx => made_leaves I1 hx q1⟩
end
end L2
end
section
set_option linter.all false
set_option maxRecDepth 100000
set_option maxHeartbeats 4000000
namespace L2
open PySem PySem.Spec PyProof.Rows
abbrev TEX := St → Hp → VK → XK → Prop
section
variable {X : Cx} {k : Nat} {f : Addr} {fd : FuncData} {ps : List Str} {sp : Sp} {dvs : List V} {ds : List Value} {x : Str} {p pos : Pos} {e : Expr} {es : List Expr} {t : TA} {te : TEX}
end
end L2
end
section
set_option linter.all false
set_option maxRecDepth 100000
set_option maxHeartbeats 4000000
namespace L2
open PySem PySem.W PySem.Spec PySem.Calls PyProof.Rows PySem.Builtin PySem.Builtin.ObjectAttr PySem.Builtin.Getset_descriptor
section
variable {prog : Program} {w : World} {A : Around} {E : Value → Shared → Prop} {s : Shared} {K : Frag} {x C : Addr}
end
section
variable {X : Cx}
theorem qe_glob {x : Str} {v : V} {u : Value} {pos : Pos} (hg : Gl X x) (hm : X.mg x = some u) (r : RelV v u) (hd : (x == ("__debug__" : Str)) = false := by decide) : QE X (.Name x pos) (tC v) := .mk (pe_glob hg hm r hd)
end
section
variable {P : Program} {w : World} {K : Frag} {mg : Str → Option Value} {base : Heap}
theorem Fun.okE {x qual : Str} {st : Stmt} {f : Addr} {fd : FuncData} {N ps : List Str} {k : Nat} {sp : Sp} (F : Fun K x qual st f fd) (S : FnScope N ps (defScope st)) (len : ∀ vs H Q E, sp vs H Q E → vs.length = ps.length)
    (hbody : ∀ (cdv : Value) (A : Around) (outer : List Env) (s : Shared) (H : Hp) (vs : List V) (Q : VK) (E : XK), Room k (A.deeper (envOfC qual (defScope st) s.heap.objs.size f cdv)) → sp vs H Q E →
      ∃ t, PSs (cxOf (CXe P w) P w K mg base N qual (defScope st) f cdv A outer s H E) (defBody st) t ∧ t { nx := fun _ H' => Q .non H', rt := Q } (start N vs) H) : FnOk P w K mg base (CXe P w) (k + 1) f fd ps sp := by
  obtain ⟨oc, od, kV, doc, pm, an, cdv, ct, osl, rfl, lk, hcd⟩ := F.ex
  exact fn_of lk hcd S len fun A outer s H vs Q E hr hsp => hbody cdv A outer s H vs Q E hr hsp
end
section
variable {P : Program} {w : World} {K : Frag} {mg : Str → Option Value} {base : Heap} {N : List Str} {qual : Str} {scope : Scope} {f : Addr} {cd : Value} {A : Around} {outer : List Env} {s₀ : Shared} {H₀ : Hp} {E : XK}
theorem qs_raiseC {C : Addr} {x : Str} {e : Expr} {es : List Expr} {ta : TA} {np cpos pos : Pos} {B newId initId : String} {bm : List Value} (FB : ExcBaseFacts B newId initId bm) (hB : bm.contains (.type B) = true) (hg : Gl (cxOf (CXe P w) P w K mg base N qual scope f cd A outer s₀ H₀ E) x) (hm : mg x = some (.ref C)) (hC : excIn K C bm newId = true) (hh : A.handled = none)
    (ha : QA (cxOf (CXe P w) P w K mg base N qual scope f cd A outer s₀ H₀ E) (e :: es) ta) (he : starEach (e :: es) (cxOf (CXe P w) P w K mg base N qual scope f cd A outer s₀ H₀ E).env = (false, eval e (cxOf (CXe P w) P w K mg base N qual scope f cd A outer s₀ H₀ E).env) :: starEach es (cxOf (CXe P w) P w K mg base N qual scope f cd A outer s₀ H₀ E).env := by rfl) (hpl : (backTo cpos (starEach es (cxOf (CXe P w) P w K mg base N qual scope f cd A outer s₀ H₀ E).env)).any (·.1) = false := by rfl) (hd : (x == ("__debug__" : Str)) = false := by decide) :
    QS (cxOf (CXe P w) P w K mg base N qual scope f cd A outer s₀ H₀ E) (.Raise (some (.Call (.Name x np) (e :: es) [] cpos)) none pos) (tRaise E C ta) := .mk (ps_raiseC FB hB hg hm hC hh ha.to he hpl hd)
end
end L2
end
section
set_option linter.all false
set_option maxRecDepth 100000
set_option maxHeartbeats 1000000
namespace Hm
open PySem L2
variable {lt : V → V → Bool}
end Hm
namespace L2
open PySem PySem.W
end L2
end
section
set_option linter.all false
set_option maxRecDepth 100000
set_option maxHeartbeats 4000000
namespace L2
open PySem PySem.Spec PyProof.Rows
section
variable {κ : Type} [DecidableEq κ]
def valV (kvs : List (κ × V)) (k : κ) : Option V := (kvs.find? fun kv => decide (kv.1 = k)).map (·.2)
def putK (kvs : List (κ × V)) (k : κ) (v : V) : List (κ × V) :=
  if (kvs.any fun kv => decide (kv.1 = k)) = true then kvs.map (fun kv => if kv.1 = k then (kv.1, v) else kv) else kvs ++ [(k, v)]
def dropK (kvs : List (κ × V)) (k : κ) : List (κ × V) := kvs.filter fun kv => decide (kv.1 ≠ k)
theorem valV_pos {p : κ × V} {r : List (κ × V)} {k : κ} (e : p.1 = k) : valV (p :: r) k = some p.2 := by simp [valV, List.find?_cons, e]
theorem valV_neg {p : κ × V} {r : List (κ × V)} {k : κ} (e : ¬ p.1 = k) : valV (p :: r) k = valV r k := by simp [valV, List.find?_cons, e]
theorem valV_any (k : κ) : ∀ kvs : List (κ × V), (kvs.any fun kv => decide (kv.1 = k)) = (valV kvs k).isSome
  | [] => rfl
  | p :: r => by
    rw [List.any_cons]
    by_cases e : p.1 = k
    · simp only [valV_pos e, decide_eq_true e, Bool.true_or, Option.isSome_some]
    · rw [valV_neg e, decide_eq_false e, Bool.false_or]; exact valV_any k r
theorem valV_snoc (k j : κ) (y : V) : ∀ kvs : List (κ × V), valV kvs k = none → valV (kvs ++ [(k, y)]) j = if j = k then some y else valV kvs j
  | [], _ => by
    by_cases e : k = j
    · rw [if_pos e.symm]; exact valV_pos (p := (k, y)) e
    · rw [if_neg (fun z => e z.symm)]; exact valV_neg (p := (k, y)) e
  | p :: r, hn => by
    rw [List.cons_append]
    have hk : ¬ p.1 = k := fun z => by rw [valV_pos z] at hn; cases hn
    rw [valV_neg hk] at hn
    have ih := valV_snoc k j y r hn
    by_cases e : p.1 = j
    · rw [valV_pos e, valV_pos e, if_neg (fun z => hk (e.trans z))]
    · rw [valV_neg e, valV_neg e, ih]
theorem length_putK (kvs : List (κ × V)) (k : κ) (v : V) : (putK kvs k v).length ≤ kvs.length + 1 := by
  unfold putK
  split
  · rw [List.length_map]; lia
  · rw [List.length_append, List.length_cons, List.length_nil]; lia
theorem putK_new {kvs : List (κ × V)} {k : κ} (v : V) (h : valV kvs k = none) : putK kvs k v = kvs ++ [(k, v)] := by
  unfold putK
  rw [valV_any, h]
  exact if_neg (by decide)
theorem RelO.isSome_eq {o : Option V} {u : Option Value} (r : RelO o u) : o.isSome = u.isSome := by
  cases o with
  | none => cases u with
    | none => rfl
    | some _ => exact (show False from r).elim
  | some _ => cases u with
    | none => exact (show False from r).elim
    | some _ => rfl
theorem RelO.getD {o : Option V} {u : Option Value} {d : V} {d' : Value} (r : RelO o u) (rd : RelV d d') : RelV (o.getD d) (u.getD d') := by
  cases o with
  | none => cases u with
    | none => exact rd
    | some _ => exact (show False from r).elim
  | some _ => cases u with
    | none => exact (show False from r).elim
    | some _ => exact r
theorem KV.val {kvs : List (κ × V)} {vs : List (κ × Value)} (r : KV kvs vs) (k : κ) : RelO (valV kvs k) (valueAt vs k) := by
  unfold KV at r
  induction r with
  | nil => exact True.intro
  | @cons p q ps qs h t ih =>
    obtain ⟨h1, h2⟩ := h
    by_cases e : p.1 = k
    · have e' : q.1 = k := h1.symm.trans e
      have b : valueAt (q :: qs) k = some q.2 := by simp [valueAt, List.find?_cons, e']
      rw [valV_pos e, b]; exact h2
    · have e' : ¬ q.1 = k := fun z => e (h1.trans z)
      have b : valueAt (q :: qs) k = valueAt qs k := by simp [valueAt, List.find?_cons, e']
      rw [valV_neg e, b]; exact ih
theorem KV.any {kvs : List (κ × V)} {vs : List (κ × Value)} (r : KV kvs vs) (k : κ) : (kvs.any fun kv => decide (kv.1 = k)) = vs.any fun kv => decide (kv.1 = k) := by
  unfold KV at r
  induction r with
  | nil => rfl
  | cons h t ih => rw [List.any_cons, List.any_cons, ih, h.1]
theorem KV.repl {kvs : List (κ × V)} {vs : List (κ × Value)} (r : KV kvs vs) (k : κ) {y : V} {u : Value} (ry : RelV y u) :
    KV (kvs.map fun kv => if kv.1 = k then (kv.1, y) else kv) (vs.map fun kv => if kv.1 = k then (kv.1, u) else kv) := by
  unfold KV at r ⊢
  induction r with
  | nil => exact .nil
  | @cons p q ps qs h t ih =>
    rw [List.map_cons, List.map_cons]
    refine .cons ?_ ih
    obtain ⟨h1, h2⟩ := h
    by_cases e : p.1 = k
    · rw [if_pos e, if_pos (h1.symm.trans e)]; exact ⟨h1, ry⟩
    · rw [if_neg e, if_neg (fun z => e (h1.trans z))]; exact ⟨h1, h2⟩
theorem KV.put {kvs : List (κ × V)} {vs : List (κ × Value)} (r : KV kvs vs) (k : κ) {y : V} {u : Value} (ry : RelV y u) : KV (putK kvs k y) (stored vs k u) := by
  unfold putK stored
  rw [r.any k]
  by_cases e : (vs.any fun kv => decide (kv.1 = k)) = true
  · rw [if_pos e, if_pos e]; exact r.repl k ry
  · rw [if_neg e, if_neg e]; exact Paired.snoc r ⟨rfl, ry⟩
theorem KV.drop {kvs : List (κ × V)} {vs : List (κ × Value)} (r : KV kvs vs) (k : κ) : KV (dropK kvs k) (without vs k) := by
  unfold KV at r ⊢
  unfold dropK without
  induction r with
  | nil => exact .nil
  | @cons p q ps qs h t ih =>
    obtain ⟨h1, h2⟩ := h
    rw [List.filter_cons, List.filter_cons]
    by_cases e : p.1 = k
    · have a : ¬ decide (p.1 ≠ k) = true := by simp [e]
      have b : ¬ decide (q.1 ≠ k) = true := by simp [h1.symm.trans e]
      rw [if_neg a, if_neg b]; exact ih
    · have e' : ¬ q.1 = k := fun z => e (h1.trans z)
      have a : decide (p.1 ≠ k) = true := by simp [e]
      have b : decide (q.1 ≠ k) = true := by simp [e']
      rw [if_pos a, if_pos b]; exact .cons ⟨h1, h2⟩ ih
theorem KV.length {kvs : List (κ × V)} {vs : List (κ × Value)} (r : KV kvs vs) : kvs.length = vs.length := Paired.length r
theorem dropK_le (kvs : List (κ × V)) (k : κ) : (dropK kvs k).length ≤ kvs.length := List.length_filter_le _ _
end
theorem kV_is {P : Program} {w : World} {k : Key} {u : Value} (r : RelV (kV k) u) : (mixKind P w).is k u = true := by
  cases k with
  | inl i => obtain ⟨t, e⟩ := (show ∃ t, u = Value.int i t from r); subst e; exact mixKind_int P w i t
  | inr x => obtain ⟨t, e⟩ := (show ∃ t, u = Value.str x t from r); subst e; exact mixKind_str P w x t
theorem items_are {P : Program} {w : World} : ∀ {ks : List Key} {us : List Value}, Vals (ks.map kV) us → ItemsAre (mixKind P w) ks us
  | [], _, r => by rw [List.map_nil] at r; cases r; exact .nil
  | k :: ks, _, r => by
    rw [List.map_cons] at r
    cases r with
    | cons h t => exact .cons (kV_is h) (items_are t)
abbrev KT (H : Hp) : List (List Key × V) → List (List Key × Addr × Value) → Prop := Paired fun p q => p.1 = q.1 ∧ H q.2.1 = some (.tup (p.1.map kV)) ∧ RelV p.2 q.2.2
theorem KT.val {H : Hp} {kvs : List (List Key × V)} {xs : List (List Key × Addr × Value)} (r : KT H kvs xs) (k : List Key) : RelO (valV kvs k) ((atKey xs k).map (·.2)) := by
  induction r with
  | nil => exact True.intro
  | @cons p q ps qs h t ih =>
    obtain ⟨h1, _, h2⟩ := h
    by_cases e : p.1 = k
    · have e' : q.1 = k := h1.symm.trans e
      have b : atKey (q :: qs) k = some q.2 := by simp [atKey, List.find?_cons, e']
      rw [valV_pos e, b]; exact h2
    · have e' : ¬ q.1 = k := fun z => e (h1.trans z)
      have b : atKey (q :: qs) k = atKey qs k := by simp [atKey, List.find?_cons, e']
      rw [valV_neg e, b]; exact ih
theorem KT.repl {H : Hp} {kvs : List (List Key × V)} {xs : List (List Key × Addr × Value)} (r : KT H kvs xs) (k : List Key) {y : V} {u : Value} (ry : RelV y u) :
    KT H (kvs.map fun kv => if kv.1 = k then (kv.1, y) else kv) (xs.map (putAt k u)) := by
  induction r with
  | nil => exact .nil
  | @cons p q ps qs h t ih =>
    rw [List.map_cons, List.map_cons]
    refine .cons ?_ ih
    obtain ⟨h1, h2, h3⟩ := h
    unfold putAt
    by_cases e : p.1 = k
    · rw [if_pos e, if_pos (h1.symm.trans e)]; exact ⟨h1, h2, ry⟩
    · rw [if_neg e, if_neg (fun z => e (h1.trans z))]; exact ⟨h1, h2, h3⟩
theorem KT.put {H : Hp} {kvs : List (List Key × V)} {xs : List (List Key × Addr × Value)} (r : KT H kvs xs) (k : List Key) {b : Addr} {y : V} {u : Value} (hb : H b = some (.tup (k.map kV))) (ry : RelV y u) :
    KT H (putK kvs k y) (storedH xs k b u) := by
  have e : (kvs.any fun kv => decide (kv.1 = k)) = (atKey xs k).isSome := by
    rw [valV_any, (r.val k).isSome_eq, Option.isSome_map]
  unfold putK storedH
  rw [e]
  by_cases q : (atKey xs k).isSome = true
  · rw [if_pos q, if_pos q]; exact r.repl k ry
  · rw [if_neg q, if_neg q]; exact Paired.snoc r ⟨rfl, hb, ry⟩
theorem KT.keeps {H H' : Hp} {kvs : List (List Key × V)} {xs : List (List Key × Addr × Value)} (r : KT H kvs xs) (ht : ∀ b ys, H b = some (.tup ys) → H' b = some (.tup ys)) : KT H' kvs xs :=
  Paired.mapP r fun _ _ z => ⟨z.1, ht _ _ z.2.1, z.2.2⟩
section
variable {P : Program} {w : World} {H : Hp} {h : Heap} {a : Addr}
theorem rd_of {u : HO} (ok : HOk P w H h) (e : Rd H a u) : ObjOk P w H h a u := e.ok ok
theorem dk_rd {kvs : List (Key × V)} (ok : HOk P w H h) (e : Rd H a (.dK kvs)) : kvs.length ≤ sizeLine ∧ (a == sysModules) = false ∧ ∃ vs, KV kvs vs ∧ h.DictOf (mixKind P w) a vs :=
  show ObjOk P w H h a (.dK kvs) from rd_of ok e
theorem dk_of {kvs : List (Key × V)} (ok : HOk P w H h) (e : H a = some (.dK kvs)) : kvs.length ≤ sizeLine ∧ (a == sysModules) = false ∧ ∃ vs, KV kvs vs ∧ h.DictOf (mixKind P w) a vs := dk_rd ok (.inl e)
theorem key_of {ks : List Key} (ok : HOk P w H h) (e : H a = some (.tup (ks.map kV))) : (tupleKind (mixKind P w)).is h ks a := by
  obtain ⟨_, its, r, o, h1, h2, n, h3⟩ := (show ObjOk P w H h a (.tup (ks.map kV)) from ok a _ e)
  exact ⟨o, its.toArray, n, h1, h2, h3, by simpa using items_are r⟩
theorem dt_rd {kvs : List (List Key × V)} (ok : HOk P w H h) (e : Rd H a (.dT kvs)) : kvs.length ≤ sizeLine ∧ (a == sysModules) = false ∧
    ∃ xs, KT H kvs xs ∧ h.DictOfH (tupleKind (mixKind P w)) a xs := by
  obtain ⟨z, y, xs, r, o, es, ep, h1, h2, h3, h4, h5⟩ := (show ObjOk P w H h a (.dT kvs) from rd_of ok e)
  refine ⟨z, y, xs, r, o, es, ep, h1, h2, h3, h4, fun x hx => ?_, h5⟩
  have all : ∀ {l : List (List Key × V)} {m : List (List Key × Addr × Value)}, KT H l m → ∀ x ∈ m, (tupleKind (mixKind P w)).is h x.1 x.2.1 := by
    intro l m q
    induction q with
    | nil => intro x hx; exact nomatch hx
    | @cons p q ps qs hq t ih =>
      intro x hx
      rcases List.mem_cons.mp hx with e | hx
      · subst e
        exact key_of ok (by rw [← hq.1]; exact hq.2.1)
      · exact ih x hx
  exact all r x hx
theorem dt_of {kvs : List (List Key × V)} (ok : HOk P w H h) (e : H a = some (.dT kvs)) : kvs.length ≤ sizeLine ∧ (a == sysModules) = false ∧
    ∃ xs, KT H kvs xs ∧ h.DictOfH (tupleKind (mixKind P w)) a xs := dt_rd ok (.inl e)
end
def DGet (H : Hp) (a : Addr) (y : V) (r : Option V) : Prop :=
  (∃ kvs k, Rd H a (.dK kvs) ∧ y = kV k ∧ r = valV kvs k) ∨ ∃ kvs k b, Rd H a (.dT kvs) ∧ y = .ref b ∧ H b = some (.tup (k.map kV)) ∧ r = valV kvs k
def DPut (H : Hp) (a : Addr) (y v : V) (H' : Hp) : Prop :=
  (∃ kvs k, H a = some (.dK kvs) ∧ y = kV k ∧ kvs.length < sizeLine ∧ H' = upd H a (.dK (putK kvs k v))) ∨
  ∃ kvs k b, H a = some (.dT kvs) ∧ y = .ref b ∧ H b = some (.tup (k.map kV)) ∧ kvs.length < sizeLine ∧ H' = upd H a (.dT (putK kvs k v))
theorem DGet.k {H : Hp} {a : Addr} {kvs : List (Key × V)} {k : Key} (e : H a = some (.dK kvs)) : DGet H a (kV k) (valV kvs k) := .inl ⟨kvs, k, .inl e, rfl, rfl⟩
theorem DPut.k {H : Hp} {a : Addr} {kvs : List (Key × V)} {k : Key} {v : V} (e : H a = some (.dK kvs)) (hl : kvs.length < sizeLine) : DPut H a (kV k) v (upd H a (.dK (putK kvs k v))) := .inl ⟨kvs, k, e, rfl, hl, rfl⟩
section
variable {X : Cx} {pins : List (Addr × Obj)} {σ : St} {H : Hp} {s : Shared} {a : Addr} {y v : V} {u r : Value} {o : Option V} {A : Around} {E : Value → Shared → Prop}
theorem Inv.big (I : Inv X pins σ H s) : sysModules < s.heap.objs.size := by
  have h : mainGlobals < s.heap.objs.size := (I.mod.glob.keeps I.bk).lt
  exact Nat.lt_trans (by decide) h
theorem d_getItem {Q : Value → Shared → Prop} (hu : A.units + 1 < cLine) (I : Inv X pins σ H s) (g : DGet H a y (some v)) (ry : RelV y u) (h : ∀ w' s', Inv X pins σ H s' → RelV v w' → Q w' s') :
    wpAny (model X.prog X.w) A (getItem (.ref a) u) Q E s := by
  rcases g with ⟨kvs, k, e, ey, l⟩ | ⟨kvs, k, b, e, ey, eb, l⟩
  · subst ey
    obtain ⟨z, hd, vs, rel, dd⟩ := dk_rd I.hok e
    obtain ⟨w', hw, rw'⟩ := RelO.some_of (v := v) (o := valueAt vs k) (by rw [l]; exact rel.val k)
    exact wpAny_getItem_of (kV_is ry) dd.mapOf hw (h w' _ (I.tok _) rw')
  · subst ey
    cases (show u = Value.ref b from ry)
    obtain ⟨z, hd, xs, rel, dd⟩ := dt_rd I.hok e
    obtain ⟨w', hw, rw'⟩ := RelO.some_of (v := v) (o := (atKey xs k).map (·.2)) (by rw [l]; exact rel.val k)
    obtain ⟨p, hp, hp2⟩ := Option.map_eq_some_iff.mp hw
    refine wpAny_getItem_heap (tupleKind_room_in1 hu) (key_of I.hok eb) dd hp ?_
    rw [hp2]
    exact h w' _ (I.tok _) rw'
theorem d_in {Q : Value → Shared → Prop} (hu : A.units + 1 < cLine) (I : Inv X pins σ H s) (g : DGet H a y o) (ry : RelV y u) (h : ∀ s', Inv X pins σ H s' → Q (.bool o.isSome) s') :
    wpAny (model X.prog X.w) A (compareOp .In u (.ref a)) Q E s := by
  rcases g with ⟨kvs, k, e, ey, l⟩ | ⟨kvs, k, b, e, ey, eb, l⟩
  · subst ey
    obtain ⟨z, hd, vs, rel, dd⟩ := dk_rd I.hok e
    refine wpAny_in_of (kV_is ry) hd dd.mapOf ?_
    rw [← (rel.val k).isSome_eq, ← l]
    exact h _ (I.tok _)
  · subst ey
    cases (show u = Value.ref b from ry)
    obtain ⟨z, hd, xs, rel, dd⟩ := dt_rd I.hok e
    refine wpAny_in_heap (tupleKind_room_in1 hu) (key_of I.hok eb) hd dd ?_
    have q := (rel.val k).isSome_eq
    rw [Option.isSome_map] at q
    rw [← q, ← l]
    exact h _ (I.tok _)
theorem d_notIn {Q : Value → Shared → Prop} (hu : A.units + 1 < cLine) (I : Inv X pins σ H s) (g : DGet H a y o) (ry : RelV y u) (h : ∀ s', Inv X pins σ H s' → Q (.bool (!o.isSome)) s') :
    wpAny (model X.prog X.w) A (compareOp .NotIn u (.ref a)) Q E s := by
  rcases g with ⟨kvs, k, e, ey, l⟩ | ⟨kvs, k, b, e, ey, eb, l⟩
  · subst ey
    obtain ⟨z, hd, vs, rel, dd⟩ := dk_rd I.hok e
    refine wpAny_notIn_of (kV_is ry) hd dd.mapOf ?_
    rw [← (rel.val k).isSome_eq, ← l]
    exact h _ (I.tok _)
  · subst ey
    cases (show u = Value.ref b from ry)
    obtain ⟨z, hd, xs, rel, dd⟩ := dt_rd I.hok e
    refine wpAny_notIn_heap (tupleKind_room_in1 hu) (key_of I.hok eb) hd dd ?_
    have q := (rel.val k).isSome_eq
    rw [Option.isSome_map] at q
    rw [← q, ← l]
    exact h _ (I.tok _)
theorem d_write {h' : Heap} {t' : Nat} {ob : HO} (I : Inv X pins σ H s) (mu : Mut (H a)) (hs : Heap.SameBut a s.heap h') (he : ∃ q, h'.get? a = some q) (new : ObjOk X.prog X.w (upd H a ob) h' a ob) :
    Inv X pins σ (upd H a ob) { s with heap := h', toks := t' } :=
  I.write (x := a) (e := a) mu (.inl rfl) (fun b q hb z => (hs.2 b hb).trans z) he new
theorem dk_new {P : Program} {w : World} {H' : Hp} {h' : Heap} {kvs : List (Key × V)} {vs : List (Key × Value)} (z : kvs.length ≤ sizeLine) (hd : (a == sysModules) = false) (rel : KV kvs vs) (dd : h'.DictOf (mixKind P w) a vs) :
    ObjOk P w H' h' a (.dK kvs) := ⟨z, hd, vs, rel, dd⟩
theorem d_setItem {H' : Hp} {Q : Unit → Shared → Prop} (hu : A.units + 1 < cLine) (I : Inv X pins σ H s) (g : DPut H a y v H') (ry : RelV y u) (rv : RelV v r) (h : ∀ s', Inv X pins σ H' s' → Q () s') :
    wpAny (model X.prog X.w) A (setItem (.ref a) u r) Q E s := by
  rcases g with ⟨kvs, k, e, ey, l, eH⟩ | ⟨kvs, k, b, e, ey, eb, l, eH⟩
  · subst ey eH
    obtain ⟨z, hd, vs, rel, dd⟩ := dk_of I.hok e
    have hz : vs.length ≤ sizeLine := by rw [← rel.length]; exact z
    have hl : (putK kvs k v).length ≤ sizeLine := by have := length_putK kvs k v; lia
    refine wpAny_setItem_pairs (hsz := hz) (kV_is ry) dd fun h' dd' hs => h _ ?_
    have he : ∃ q, h'.get? a = some q := let ⟨q, _, _, hq, _⟩ := dd'; ⟨q, hq⟩
    exact d_write I (by rw [e]; exact True.intro) hs he (dk_new hl hd (rel.put k rv) dd')
  · subst ey eH
    cases (show u = Value.ref b from ry)
    obtain ⟨z, hd, xs, rel, dd⟩ := dt_of I.hok e
    have hz : xs.length ≤ sizeLine := by rw [← Paired.length rel]; exact z
    have hl : (putK kvs k v).length ≤ sizeLine := by have := length_putK kvs k v; lia
    refine wpAny_setItem_heap (hsz := hz) (tupleKind_room_in1 hu) (key_of I.hok eb) dd fun h' dd' hs => h _ ?_
    obtain ⟨q, es, ep, hq, h2, h3, h4, _, h5⟩ := dd'
    refine d_write I (by rw [e]; exact True.intro) hs ⟨q, hq⟩ ⟨hl, hd, _, (rel.put k eb rv).keeps fun c ys ec => ?_, q, es, ep, hq, h2, h3, h4, h5⟩
    rw [upd_ne (ne_of ec e (fun z => nomatch z))]
    exact ec
end
section
variable {X : Cx} {pins : List (Addr × Obj)} {σ : St} {H : Hp} {s : Shared} {a : Addr} {kvs : List (Key × V)} {k : Key} {u : Value} {A : Around} {E : Value → Shared → Prop}
theorem d_pop {v : V} {more : List Value} {Q : Value → Shared → Prop} (I : Inv X pins σ H s) (e : H a = some (.dK kvs)) (ry : RelV (kV k) u) (l : valV kvs k = some v) (hm : more = [] ∨ ∃ x, more = [x])
    (h : ∀ w' s', Inv X pins σ (upd H a (.dK (dropK kvs k))) s' → RelV v w' → Q w' s') : wpAny (model X.prog X.w) A (call (.builtin "dict.pop") (.ref a :: u :: more)) Q E s := by
  obtain ⟨z, hd, vs, rel, dd⟩ := dk_of I.hok e
  obtain ⟨w', hw, rw'⟩ := RelO.some_of (v := v) (o := valueAt vs k) (by rw [← l]; exact rel.val k)
  have hp : (keyPart u).isSome = true := by
    cases k with
    | inl i => obtain ⟨t, q⟩ := (show ∃ t, u = Value.int i t from ry); subst q; rfl
    | inr x => obtain ⟨t, q⟩ := (show ∃ t, u = Value.str x t from ry); subst q; rfl
  have ha : argsOk "dict.pop" ⟨.ref a :: u :: more, []⟩ := by
    rcases hm with q | ⟨x, q⟩
    · subst q; exact PySem.F.args_dict_pop_2 _ _
    · subst q; exact PySem.F.args_dict_pop_3 _ _ _
  refine call_meetsIn PySem.F.slot_dict_pop dd.typeIs PySem.F.entry_dict_pop ha (meets_dict_pop_there (mixKind X.prog X.w) a (kV_is ry) more hm hp)
    ⟨vs, w', dd, by rw [← rel.length]; exact z, hw, fun h' dd' hs => h w' _ ?_ rw'⟩
  have he : ∃ q, h'.get? a = some q := let ⟨q, _, _, hq, _⟩ := dd'; ⟨q, hq⟩
  exact d_write I (by rw [e]; exact True.intro) hs he (dk_new (Nat.le_trans (dropK_le kvs k) z) hd (rel.drop k) dd')
theorem d_len {Q : Value → Shared → Prop} (I : Inv X pins σ H s) (e : Rd H a (.dK kvs)) (h : ∀ t s', Inv X pins σ H s' → Q (.int kvs.length t) s') : wpAny (model X.prog X.w) A (call (.builtin "len") [.ref a]) Q E s := by
  obtain ⟨z, hd, vs, rel, dd⟩ := dk_rd I.hok e
  refine call_len_dict hd dd (by rw [← rel.length]; rw [sizeLine_eq] at z; lia) ?_
  rw [← rel.length]
  exact h _ _ (I.tok _)
end
def NoSl (i : Expr) : Prop := ∀ ov iv, subscripted i false ov iv = operate [ov, iv] (getItem ov iv)
theorem subD_of {prog : Program} {w : World} {A : Around} {E : Value → Shared → Prop} {s : Shared} {env : Env} {value slice : Expr} {pos : Pos} {T id : String} {Q : Value → Shared → Prop}
    (hl : typeLookup (.type T) "__getitem__" = pure (some (.builtin id))) (hs : NoSl slice)
    (h : wpAny (model prog w) A (eval value env) (fun o s₁ => wpAny (model prog w) A (eval slice env) (fun i s₂ => s₂.TypeIs o T ∧ wpAny (model prog w) A (getItem o i) Q E s₂) E s₁) E s) :
    wpAny (model prog w) A (eval (.Subscript value slice pos) env) Q E s := by
  refine Subscript_ (wpAny_mono h (fun o s₁ h₁ => wpAny_mono h₁ (fun i s₂ h₂ => ?_) fun _ _ x => x) fun _ _ x => x)
  obtain ⟨hT, h₂⟩ := h₂
  unfold subscriptTail
  refine wpAny_bind ?_
  rw [getitemInPython_of_ne hT.not_modules]
  refine wpAny_bind (wpAny_specialOf hT hl ?_)
  have fin : wpAny (model prog w) A (subscripted slice false o i) (fun r s₃ => wpAny (model prog w) A (letTemporaryGo value o r >>= fun _ => pure r) Q E s₃) E s₂ := by
    rw [hs o i]
    exact wpAny_operating (wpAny_mono h₂ (fun r s₃ h₃ => wpAny_bind (wpAny_letTemporaryGo (wpAny_pure h₃))) fun _ _ x => x)
  first
    | exact wpAny_pure (wpAny_bind fin)
    | exact wpAny_bind (wpAny_pure (wpAny_bind fin))
    | exact wpAny_bind fin
theorem dict_typeIs {X : Cx} {pins : List (Addr × Obj)} {σ : St} {H : Hp} {s : Shared} {a : Addr} {y : V} {o : Option V} (I : Inv X pins σ H s) (g : DGet H a y o) : s.TypeIs (.ref a) "dict" := by
  rcases g with ⟨kvs, k, e, _, _⟩ | ⟨kvs, k, b, e, _, _, _⟩
  · obtain ⟨_, _, vs, _, dd⟩ := dk_rd I.hok e
    exact dd.typeIs
  · obtain ⟨_, _, xs, _, dd⟩ := dt_rd I.hok e
    exact dd.typeIs
def tDGet (td ty : TE) : TE := fun σ H Q => td σ H fun x H1 => ty σ H1 fun y H2 => ∃ a v, x = .ref a ∧ DGet H2 a y (some v) ∧ Q v H2
def tDIn (ty td : TE) : TE := fun σ H Q => ty σ H fun y H1 => td σ H1 fun x H2 => ∃ a o, x = .ref a ∧ DGet H2 a y o ∧ Q (.bl o.isSome) H2
def tDNotIn (ty td : TE) : TE := fun σ H Q => ty σ H fun y H1 => td σ H1 fun x H2 => ∃ a o, x = .ref a ∧ DGet H2 a y o ∧ Q (.bl (!o.isSome)) H2
def sDPut (td ty tv : TE) : TS := fun D σ H => tv σ H fun v H1 => td σ H1 fun x H2 => ty σ H2 fun y H3 => ∃ a H4, x = .ref a ∧ DPut H3 a y v H4 ∧ D.nx σ H4
section
variable {X : Cx} {o i e value : Expr} {pos pos' tpos : Pos} {td ty tv : TE}
theorem pe_dget (hu : X.A.units + 1 < cLine) (ho : PE X o td) (hi : PE X i ty) (hs : NoSl i) : PE X (.Subscript o i pos) (tDGet td ty) := by
  intro pins s σ H Q I h
  refine subD_of PySem.F.slot_dict_getitem.lookup hs (thn (ho pins s σ H _ I h) fun u s1 ⟨x, H1, I1, rx, q1⟩ => thn (hi pins s1 σ H1 _ I1 q1) fun iv s2 ⟨y, H2, I2, ry, a, v, ex, g, q2⟩ => ?_)
  subst ex
  obtain rfl : u = Value.ref a := rx
  exact ⟨dict_typeIs I2 g, d_getItem hu I2 g ry fun w' s3 I3 rw' => ⟨v, H2, I3, rw', q2⟩⟩
theorem pc_din (hu : X.A.units + 1 < cLine) (hi : PE X i ty) (ho : PE X o td) : PC X .In i o (tDIn ty td) := by
  intro pins s σ H Q I h
  refine thn (hi pins s σ H _ I h) fun iv s1 ⟨y, H1, I1, ry, q1⟩ => thn (ho pins s1 σ H1 _ I1 q1) fun u s2 ⟨x, H2, I2, rx, a, ov, ex, g, q2⟩ => ?_
  subst ex
  obtain rfl : u = Value.ref a := rx
  exact d_in hu I2 g ry fun s3 I3 => ⟨.bl ov.isSome, H2, I3, rfl, q2⟩
theorem pc_dnotin (hu : X.A.units + 1 < cLine) (hi : PE X i ty) (ho : PE X o td) : PC X .NotIn i o (tDNotIn ty td) := by
  intro pins s σ H Q I h
  refine thn (hi pins s σ H _ I h) fun iv s1 ⟨y, H1, I1, ry, q1⟩ => thn (ho pins s1 σ H1 _ I1 q1) fun u s2 ⟨x, H2, I2, rx, a, ov, ex, g, q2⟩ => ?_
  subst ex
  obtain rfl : u = Value.ref a := rx
  exact d_notIn hu I2 g ry fun s3 I3 => ⟨.bl (!ov.isSome), H2, I3, rfl, q2⟩
theorem ps_dput (hu : X.A.units + 1 < cLine) (ho : PE X o td) (hi : PE X i ty) (hv : PE X value tv) (hs : swapsWith value (some (.Subscript o i pos')) pos.line X.env = pure false) :
    PS X (.Assign [.Subscript o i pos'] value pos) (sDPut td ty tv) := by
  intro pins s σ H D I h
  refine wpAny_Assign_Subscript (thn (hv pins s σ H _ I h) fun r s1 ⟨v, H1, I1, rv, q1⟩ => thn (ho pins s1 σ H1 _ I1 q1) fun u s2 ⟨x, H2, I2, rx, q2⟩ => thn (hi pins s2 σ H2 _ I2 q2) fun iv s3 ⟨y, H3, I3, ry, a, H4, ex, g, q3⟩ => ?_) hs
  subst ex
  obtain rfl : u = Value.ref a := rx
  exact d_setItem hu I3 g ry rv fun s4 I4 => ⟨σ, H4, I4, q3⟩
end
theorem dk_empty {P : Program} {w : World} {H : Hp} (h : Heap) (hb : sysModules < h.objs.size) : ObjOk P w H (h.push { cls := .type "dict", data := .dict #[] }) h.objs.size (.dK []) :=
  ⟨Nat.zero_le _, beq_eq_false_iff_ne.mpr (Ne.symm (Nat.ne_of_lt hb)), [], .nil, Heap.DictOf.new h⟩
def tDNewK : TE := fun _ H Q => ∀ p, H p = none → Q (.ref p) (upd H p (.dK []))
section
variable {X : Cx} {pos : Pos}
theorem pe_dnewK : PE X (.Dict [] [] pos) tDNewK := fun pins s σ H Q I h =>
  wpAny_Dict_empty ⟨.ref s.heap.objs.size, _, I.laid (a := s.heap.objs.size) (o := .dK []) (t' := s.toks) (fun _ _ q => Heap.get?_push_of_some _ q) (Nat.le_refl _) (dk_empty s.heap I.big), rfl, h _ (I.hok.fresh (Nat.le_refl _))⟩
end
def tPairs : List (TE × TE) → St → Hp → (List (V × V) → Hp → Prop) → Prop
  | [], _, H, Q => Q [] H
  | (tk, tv) :: r, σ, H, Q => tk σ H fun x H1 => tv σ H1 fun y H2 => tPairs r σ H2 fun ps H3 => Q ((x, y) :: ps) H3
abbrev VV : List (V × V) → List (Value × Value) → Prop := Paired fun p q => RelV p.1 q.1 ∧ RelV p.2 q.2
def PPs (X : Cx) (pos : Pos) (keys : List (Option Expr)) (values : List Expr) (trs : List (TE × TE)) : Prop :=
  ∀ (pins : List (Addr × Obj)) (s : Shared) (σ : St) (H : Hp) (Q : List (V × V) → Hp → Prop), Inv X pins σ H s → tPairs trs σ H Q →
    wpAny (model X.prog X.w) X.A (evalPairs (pairTrees keys values X.env pos)) (fun vs s' => ∃ ps H', Inv X pins σ H' s' ∧ VV ps vs ∧ Q ps H') X.xe s
theorem pps_nil {X : Cx} {pos : Pos} : PPs X pos [] [] [] := fun pins s σ H Q I h => pairTrees_nil_walk ⟨[], H, I, .nil, h⟩
theorem pps_cons {X : Cx} {pos : Pos} {k v : Expr} {ks : List (Option Expr)} {vs : List Expr} {tk tv : TE} {trs : List (TE × TE)} (hk : PE X k tk) (hv : PE X v tv) (hr : PPs X pos ks vs trs) :
    PPs X pos (some k :: ks) (v :: vs) ((tk, tv) :: trs) := fun pins s σ H Q I h =>
  pairTrees_cons_walk (thn (hk pins s σ H _ I h) fun u s1 ⟨x, H1, I1, rx, q1⟩ => thn (hv pins s1 σ H1 _ I1 q1) fun w2 s2 ⟨y, H2, I2, ry, q2⟩ =>
    thn (hr pins s2 σ H2 _ I2 q2) fun ws s3 ⟨ps, H3, I3, rel, q3⟩ => ⟨(x, y) :: ps, H3, I3, .cons ⟨rx, ry⟩ rel, q3⟩)
def mergeK (kvs more : List (Key × V)) : List (Key × V) := more.foldl (fun acc kv => putK acc kv.1 kv.2) kvs
theorem KV.merge : ∀ {more : List (Key × V)} {rs : List (Key × Value)} {kvs : List (Key × V)} {vs : List (Key × Value)}, KV more rs → KV kvs vs → KV (mergeK kvs more) (merged vs rs) := by
  intro more rs kvs vs r
  unfold KV at r
  induction r generalizing kvs vs with
  | nil => intro q; exact q
  | @cons p q ps qs h t ih =>
    intro r0
    have e : KV (putK kvs p.1 p.2) (stored vs q.1 q.2) := by
      have := r0.put p.1 h.2
      rw [← h.1]; exact this
    exact ih e
theorem length_mergeK : ∀ (more kvs : List (Key × V)), (mergeK kvs more).length ≤ kvs.length + more.length
  | [], kvs => by show kvs.length ≤ kvs.length + 0; lia
  | p :: r, kvs => by
    have h1 := length_mergeK r (putK kvs p.1 p.2)
    have h2 := length_putK kvs p.1 p.2
    show (mergeK (putK kvs p.1 p.2) r).length ≤ _
    rw [List.length_cons]; lia
theorem carries_of {P : Program} {w : World} : ∀ {kvs : List (Key × V)} {ws : List (Value × Value)}, VV (kvs.map fun kv => (kV kv.1, kv.2)) ws → ∃ rs, Carries (mixKind P w) ws rs ∧ KV kvs rs
  | [], _, r => by rw [List.map_nil] at r; cases r; exact ⟨[], True.intro, .nil⟩
  | p :: kvs, _, r => by
    rw [List.map_cons] at r
    cases r with
    | @cons a b as bs h t =>
      obtain ⟨rs, c, q⟩ := carries_of (P := P) (w := w) t
      obtain ⟨b1, b2⟩ := b
      exact ⟨(p.1, b2) :: rs, ⟨kV_is h.1, rfl, c⟩, .cons ⟨rfl, h.2⟩ q⟩
def tDisp (trs : List (TE × TE)) : TE := fun σ H Q => ∀ p, H p = none → tPairs trs σ (upd H p (.dK [])) fun ps H2 => H2 p = some (.dK []) ∧ ∃ kvs : List (Key × V), ps = kvs.map (fun kv => (kV kv.1, kv.2)) ∧ kvs.length ≤ 15 ∧ Q (.ref p) (upd H2 p (.dK (mergeK [] kvs)))
theorem pe_disp {X : Cx} {pos : Pos} {keys : List (Option Expr)} {values : List Expr} {trs : List (TE × TE)} (h : PPs X pos keys values trs) (hall : keys.all (·.isSome) = true) (hl : keys.length = values.length) (h0 : keys ≠ [])
    (h15 : keys.length ≤ 15) : PE X (.Dict keys values pos) (tDisp trs) := by
  intro pins s σ H Q I q
  have hn := I.hok.fresh (Nat.le_refl s.heap.objs.size)
  have I1 := I.laid (a := s.heap.objs.size) (o := .dK []) (h' := s.heap.push { cls := .type "dict", data := .dict #[] }) (t' := s.toks) (fun _ _ q => Heap.get?_push_of_some _ q) (Nat.le_refl _) (dk_empty s.heap I.big)
  refine wpAny_Dict_walk (knd := mixKind X.prog X.w) hall hl h0 h15 (thn (h pins _ σ _ _ I1 (q _ hn)) fun ws s2 ⟨ps, H2, I2, rel, e, kvs, ep, lk, q2⟩ => ?_)
  subst ep
  obtain ⟨rs, c, rk⟩ := carries_of (P := X.prog) (w := X.w) rel
  obtain ⟨z, hd, vs0, r0, dd⟩ := dk_of I2.hok e
  cases r0
  refine ⟨rs, c, dd, fun h' dd' hs => ⟨.ref s.heap.objs.size, _, ?_, rfl, q2⟩⟩
  have hz : (mergeK [] kvs).length ≤ sizeLine := by
    have h1 := length_mergeK kvs []
    rw [List.length_nil] at h1
    rw [sizeLine_eq]; lia
  have he : ∃ q, h'.get? s.heap.objs.size = some q := let ⟨q, _, _, hq, _⟩ := dd'; ⟨q, hq⟩
  exact d_write I2 (by rw [e]; exact True.intro) hs he (dk_new hz hd (rk.merge .nil) dd')
structure M1 (X : Cx) (o : Expr) (m : Str) (apos : Pos) (e : Expr) (cpos : Pos) : Prop where
  base : attributeBase o m X.env (eval o X.env) = eval o X.env
  few : ((backTo cpos (starEach [e] X.env)).all (fun x => !x.1) && (backToKw cpos (keywordEach [] X.env)).all (fun x => x.1.isSome)
    && decide (([e] : List Expr).length + ([] : List Keyword).length + (if ([] : List Keyword).isEmpty then 0 else 1) < 30)) = true
  line : (apos.endLine == cpos.line) = true
  trees : backTo cpos (starEach [e] X.env) = [(false, eval e X.env)]
structure M2 (X : Cx) (o : Expr) (m : Str) (apos : Pos) (e f : Expr) (cpos : Pos) : Prop where
  base : attributeBase o m X.env (eval o X.env) = eval o X.env
  few : ((backTo cpos (starEach [e, f] X.env)).all (fun x => !x.1) && (backToKw cpos (keywordEach [] X.env)).all (fun x => x.1.isSome)
    && decide (([e, f] : List Expr).length + ([] : List Keyword).length + (if ([] : List Keyword).isEmpty then 0 else 1) < 30)) = true
  line : (apos.endLine == cpos.line) = true
  trees : backTo cpos (starEach [e, f] X.env) = [(false, eval e X.env), (false, eval f X.env)]
def IsD (H : Hp) (a : Addr) : Prop := (∃ kvs, Rd H a (.dK kvs)) ∨ ∃ kvs, Rd H a (.dT kvs)
theorem isD_at {X : Cx} {pins : List (Addr × Obj)} {σ : St} {H : Hp} {s : Shared} {a : Addr} (I : Inv X pins σ H s) (d : IsD H a) :
    s.TypeIs (.ref a) "dict" ∧ (∀ b, Value.ref a = .ref b → ∃ ob, s.heap.get? b = some ob ∧ ob.dict = none) ∧ (a == sysModules) = false := by
  rcases d with ⟨kvs, e⟩ | ⟨kvs, e⟩
  · obtain ⟨_, hd, vs, _, dd⟩ := dk_rd I.hok e
    refine ⟨dd.typeIs, fun b q => ?_, hd⟩
    cases q
    obtain ⟨ob, _, _, h1, h2, _⟩ := dd
    exact ⟨ob, h1, h2.2.1⟩
  · obtain ⟨_, hd, xs, _, dd⟩ := dt_rd I.hok e
    refine ⟨dd.typeIs, fun b q => ?_, hd⟩
    cases q
    obtain ⟨ob, _, _, h1, h2, _⟩ := dd
    exact ⟨ob, h1, h2.2.1⟩
section
variable {X : Cx} {pins : List (Addr × Obj)} {σ : St} {H : Hp} {s : Shared} {a : Addr} {y d : V} {u r : Value} {o : Option V} {A : Around} {E : Value → Shared → Prop}
theorem d_get1 {Q : Value → Shared → Prop} (hu : A.units + 1 < cLine) (I : Inv X pins σ H s) (g : DGet H a y o) (ry : RelV y u) (h : ∀ w' s', Inv X pins σ H s' → RelV (o.getD .non) w' → Q w' s') :
    wpAny (model X.prog X.w) A (call (.builtin "dict.get") [.ref a, u]) Q E s := by
  rcases g with ⟨kvs, k, e, ey, l⟩ | ⟨kvs, k, b, e, ey, eb, l⟩
  · subst ey
    obtain ⟨z, hd, vs, rel, dd⟩ := dk_rd I.hok e
    refine call_meetsIn PySem.F.slot_dict_get dd.typeIs PySem.F.entry_dict_get (PySem.F.args_dict_get_2 _ _) (meets_dict_get (mixKind X.prog X.w) a (kV_is ry) hd) ⟨_, dd.mapOf, h _ _ (I.tok _) ?_⟩
    rw [l]
    exact (rel.val k).getD rfl
  · subst ey
    cases (show u = Value.ref b from ry)
    obtain ⟨z, hd, xs, rel, dd⟩ := dt_rd I.hok e
    refine call_meetsIn PySem.F.slot_dict_get dd.typeIs PySem.F.entry_dict_get (PySem.F.args_dict_get_2 _ _) (meetsH_dict_get (tupleKind (mixKind X.prog X.w)) a b hd) ⟨tupleKind_room_in1 hu, k, xs, key_of I.hok eb, dd, h _ _ (I.tok _) ?_⟩
    rw [l]
    exact (rel.val k).getD rfl
theorem d_get2 {Q : Value → Shared → Prop} (hu : A.units + 1 < cLine) (I : Inv X pins σ H s) (g : DGet H a y o) (ry : RelV y u) (rd : RelV d r) (h : ∀ w' s', Inv X pins σ H s' → RelV (o.getD d) w' → Q w' s') :
    wpAny (model X.prog X.w) A (call (.builtin "dict.get") [.ref a, u, r]) Q E s := by
  rcases g with ⟨kvs, k, e, ey, l⟩ | ⟨kvs, k, b, e, ey, eb, l⟩
  · subst ey
    obtain ⟨z, hd, vs, rel, dd⟩ := dk_rd I.hok e
    refine call_meetsIn PySem.F.slot_dict_get dd.typeIs PySem.F.entry_dict_get (PySem.F.args_dict_get_3 _ _ _) (meets_dict_get_default (mixKind X.prog X.w) a (kV_is ry) hd r) ⟨_, dd.mapOf, h _ _ (I.tok _) ?_⟩
    rw [l]
    exact (rel.val k).getD rd
  · subst ey
    cases (show u = Value.ref b from ry)
    obtain ⟨z, hd, xs, rel, dd⟩ := dt_rd I.hok e
    refine call_meetsIn PySem.F.slot_dict_get dd.typeIs PySem.F.entry_dict_get (PySem.F.args_dict_get_3 _ _ _) (meetsH_dict_get_default (tupleKind (mixKind X.prog X.w)) a b hd r) ⟨tupleKind_room_in1 hu, k, xs, key_of I.hok eb, dd, h _ _ (I.tok _) ?_⟩
    rw [l]
    exact (rel.val k).getD rd
end
def tDGet1 (td ty : TE) : TE := fun σ H Q => td σ H fun x H1 => ∃ a, x = .ref a ∧ IsD H1 a ∧ ty σ H1 fun y H2 => ∃ o, DGet H2 a y o ∧ Q (o.getD .non) H2
def tDGet2 (td ty tx : TE) : TE := fun σ H Q => td σ H fun x H1 => ∃ a, x = .ref a ∧ IsD H1 a ∧ ty σ H1 fun y H2 => tx σ H2 fun z H3 => ∃ o, DGet H3 a y o ∧ Q (o.getD z) H3
def tDPop1 (td ty : TE) : TE := fun σ H Q => td σ H fun x H1 => ∃ a, x = .ref a ∧ IsD H1 a ∧ ty σ H1 fun y H2 => ∃ kvs k v, H2 a = some (.dK kvs) ∧ y = kV k ∧ valV kvs k = some v ∧ Q v (upd H2 a (.dK (dropK kvs k)))
section
variable {X : Cx} {o e f : Expr} {apos cpos : Pos} {td ty tx : TE}
theorem pe_dget1 (hu : X.A.units + 1 < cLine) (ho : PE X o td) (he : PE X e ty) (m : M1 X o "get" apos e cpos) : PE X (.Call (.Attribute o "get" apos) [e] [] cpos) (tDGet1 td ty) := by
  intro pins s σ H Q I h
  refine wpAny_Call_method m.base m.few m.line PySem.F.plainAttrs_dict PySem.F.slot_dict_get PySem.F.type_dict_get (thn (ho pins s σ H _ I h) fun u s1 ⟨x, H1, I1, rx, a, ex, d, q1⟩ => ?_)
  subst ex
  obtain rfl : u = Value.ref a := rx
  obtain ⟨t1, t2, _⟩ := isD_at I1 d
  refine ⟨t1, t2, ?_⟩
  rw [m.trees]
  refine Calls.callWith_builtin rfl (Calls.evalArgs_plain (Calls.spliced_cons (thn (he pins s1 σ H1 _ I1 q1) fun iv s2 ⟨y, H2, I2, ry, ov, g, q2⟩ => Calls.spliced_nil ?_)))
  exact d_get1 hu I2 g ry fun w' s3 I3 rw' => ⟨_, H2, I3, rw', q2⟩
theorem pe_dget2 (hu : X.A.units + 1 < cLine) (ho : PE X o td) (he : PE X e ty) (hf : PE X f tx) (m : M2 X o "get" apos e f cpos) : PE X (.Call (.Attribute o "get" apos) [e, f] [] cpos) (tDGet2 td ty tx) := by
  intro pins s σ H Q I h
  refine wpAny_Call_method m.base m.few m.line PySem.F.plainAttrs_dict PySem.F.slot_dict_get PySem.F.type_dict_get (thn (ho pins s σ H _ I h) fun u s1 ⟨x, H1, I1, rx, a, ex, d, q1⟩ => ?_)
  subst ex
  obtain rfl : u = Value.ref a := rx
  obtain ⟨t1, t2, _⟩ := isD_at I1 d
  refine ⟨t1, t2, ?_⟩
  rw [m.trees]
  refine Calls.callWith_builtin rfl (Calls.evalArgs_plain (Calls.spliced_cons (thn (he pins s1 σ H1 _ I1 q1) fun iv s2 ⟨y, H2, I2, ry, q2⟩ =>
    Calls.spliced_cons (thn (hf pins s2 σ H2 _ I2 q2) fun fv s3 ⟨z, H3, I3, rz, ov, g, q3⟩ => Calls.spliced_nil ?_))))
  exact d_get2 hu I3 g ry rz fun w' s4 I4 rw' => ⟨_, H3, I4, rw', q3⟩
theorem pe_dpop1 (ho : PE X o td) (he : PE X e ty) (m : M1 X o "pop" apos e cpos) : PE X (.Call (.Attribute o "pop" apos) [e] [] cpos) (tDPop1 td ty) := by
  intro pins s σ H Q I h
  refine wpAny_Call_method m.base m.few m.line PySem.F.plainAttrs_dict PySem.F.slot_dict_pop PySem.F.type_dict_pop (thn (ho pins s σ H _ I h) fun u s1 ⟨x, H1, I1, rx, a, ex, d, q1⟩ => ?_)
  subst ex
  obtain rfl : u = Value.ref a := rx
  obtain ⟨t1, t2, _⟩ := isD_at I1 d
  refine ⟨t1, t2, ?_⟩
  rw [m.trees]
  refine Calls.callWith_builtin rfl (Calls.evalArgs_plain (Calls.spliced_cons (thn (he pins s1 σ H1 _ I1 q1) fun iv s2 ⟨y, H2, I2, ry, kvs, k, v, ea, ey, l, q2⟩ => Calls.spliced_nil ?_)))
  subst ey
  exact d_pop I2 ea ry l (.inl rfl) fun w' s3 I3 rw' => ⟨v, _, I3, rw', q2⟩
end
section
variable {X : Cx} {pins : List (Addr × Obj)} {σ : St} {H : Hp} {s : Shared} {a : Addr} {kvs : List (Key × V)} {A : Around} {E : Value → Shared → Prop}
theorem d_copyOf {Q : Value → Shared → Prop} (I : Inv X pins σ H s) (e : Rd H a (.dK kvs)) (h : ∀ p s', H p = none → Inv X pins σ (upd H p (.dK kvs)) s' → Q (.ref p) s') : wpAny (model X.prog X.w) A (call (.type "dict") [.ref a]) Q E s := by
  obtain ⟨z, hd, vs, rel, dd⟩ := dk_rd I.hok e
  refine kt_call_dict hd dd (by rw [← rel.length]; exact z) fun h' dd' hs => ?_
  refine h _ _ (I.hok.fresh (Nat.le_refl _)) (I.laid (a := s.heap.objs.size) (o := .dK kvs) (t' := s.toks) (fun b q hq => ?_) (Nat.le_refl _) (dk_new z (beq_eq_false_iff_ne.mpr (Ne.symm (Nat.ne_of_lt I.big))) rel dd'))
  exact (hs.2 b (Nat.ne_of_lt (Heap.lt_size hq))).trans (Heap.get?_push_of_some _ hq)
end
section
variable {X : Cx} {pins : List (Addr × Obj)} {σ : St} {H : Hp} {s : Shared} {a : Addr} {y : V} {u : Value} {A : Around} {E : Value → Shared → Prop}
end
end L2
namespace L2
open PySem PySem.Spec PyProof.Rows
section
variable {X : Cx}
theorem call_lenD : CallR X (.builtin "len") (fun xs H Q => ∃ a kvs, xs = [V.ref a] ∧ H a = some (.dK kvs) ∧ Q (.int kvs.length) H) := by
  intro pins s σ H xs us Q I r h
  obtain ⟨a, kvs, rfl, ha, q⟩ := h
  obtain ⟨u, rfl, ru⟩ := vals1 r
  cases ru
  exact d_len I (.inl ha) fun t s' I' => ⟨.int kvs.length, H, I', ⟨t, rfl⟩, q⟩
end
section
variable {κ : Type} [DecidableEq κ]
end
end L2
end
section
set_option linter.all false
set_option maxRecDepth 100000
set_option maxHeartbeats 4000000
namespace L2
open PySem PySem.W PySem.Spec PySem.Calls PyProof.Rows
section
variable {P : Program} {w : World} {K : Frag} {mg : Str → Option Value} {base : Heap} {N : List Str} {qual : Str} {scope : Scope} {f : Addr} {cd : Value} {A : Around} {outer : List Env} {s₀ : Shared} {H₀ : Hp} {E : XK}
theorem pass_on {E' : XK} (hE : ∀ c H', E' c none H' → E c none H') : Passes (CXe P w) (cxOf (CXe P w) P w K mg base N qual scope f cd A outer s₀ H₀ E) E' := by
  intro pins σ H s v s' I h
  obtain ⟨e, C, H', B, a0, rfl, fl, kp, kt, hokB, o1, o2, q⟩ := I.xp h
  have hsub : ∀ b, b ∈ frs (envOfC qual scope s₀.heap.objs.size f cd :: outer) → b = s₀.heap.objs.size ∨ b ∈ frs outer := fun b hb => by
    obtain ⟨env, he, hf⟩ := List.mem_filterMap.mp hb
    rcases List.mem_cons.mp he with rfl | he
    · exact .inl (Option.some.inj hf).symm
    · exact .inr (List.mem_filterMap.mpr ⟨env, he, hf⟩)
  have nL : ∀ b o, s₀.heap.get? b = some o → b ∉ frs outer → b ∉ frs (envOfC qual scope s₀.heap.objs.size f cd :: outer) := fun b o e nb hb => by
    rcases hsub b hb with rfl | z
    · exact absurd (Heap.lt_size e) (Nat.lt_irrefl _)
    · exact nb z
  refine wpAny_leaves_onW I.ok.frames rfl fl fun h' fl' up => ?_
  have I2 := kp h' s'.toks fl'.1 up
  exact ⟨e, C, H', B, a0, rfl, I2.os, I2.bare, I2.base, ⟨hokB, fun b o e n hb => o1 b o e n List.not_mem_nil (nL b o e hb), fun b o e hb => o2 b o e List.not_mem_nil (nL b o e hb)⟩, fl', hE _ _ q⟩
end
section
variable {X : Cx}
section
variable {C f : Addr} {m : Str} {k : Nat} {fd : FuncData} {ps : List Str} {sp : Sp} {dvs : List V} {ds : List Value} {o e : Expr} {es : List Expr} {ta : TE} {t : TA} {apos pos : Pos} {pl : Sem Bool}
end
def tFstr (t : TE) : TE := fun σ H Q => t σ H fun x H1 => ∃ n : Str, x = .str n ∧ n.length ≤ 1000 ∧ ∀ r, Q (.str r) H1
theorem str_app_le {a b : Str} (ha : a.length ≤ 1000) (hb : b.length ≤ 1000) : (a ++ b).length ≤ sizeLine := by
  rw [strLen_append]
  exact Nat.le_trans (Nat.add_le_add ha hb) (by decide)
theorem pe_fstr2 {v : Expr} {c : Str} {j : Nat} {pos fpos cpos : Pos} {t : TE} (h : PE X v t) (hc : c.length ≤ 1000) : PE X (.JoinedStr [.FormattedValue v (-1) none fpos, .Constant (.str c) j cpos] pos) (tFstr t) := by
  intro pins s σ H Q I hq
  refine JoinedStr_many (joinParts_cons (FormattedValue_plain (thn (h pins s σ H _ I hq) fun u s1 ⟨x, H1, I1, r1, n, ex, hn, q⟩ => ?_)))
  subst ex
  obtain ⟨t0, rfl⟩ := r1
  have e0 : (Str.empty ++ n).length ≤ 1000 := by rw [strLen_append]; show 0 + n.length ≤ 1000; lia
  refine formatField_str (fun t' tk => ⟨Nat.le_trans e0 (by decide), ?_⟩) (Nat.le_trans hn (by decide))
  refine joinParts_cons (thn (pe_str (X := X) (x := c) (j := j) (pos := cpos) pins { s1 with toks := tk } σ H1 (fun v H' => v = .str c ∧ H' = H1) (I1.tok _) ⟨rfl, rfl⟩) fun u s2 ⟨y, H2, I2, r2, ey, eH⟩ => ?_)
  subst ey eH
  obtain ⟨t2, rfl⟩ := r2
  exact ⟨str_app_le e0 hc, joinParts_nil ⟨.str _, H2, I2.tok _, ⟨_, rfl⟩, q _⟩ (str_app_le e0 hc)⟩
end
end L2
end
section
set_option linter.all false
set_option maxRecDepth 100000
set_option maxHeartbeats 4000000
namespace L2
open PySem PySem.Spec PyProof.Rows
open PySem.SeqAt (EqAt RcAt RcNeAt)
section
variable {X : Cx}
theorem en_eqs {H : Hp} {s : Shared} {A : Around} {i i' j j' : Int} {n n' : Str} {us vs : List Value} (r : Vals [.int i, .str n, .int j] us) (r' : Vals [.int i', .str n', .int j'] vs) :
    ∃ e : Nat → Bool, (∀ k (h1 : k < us.toArray.size) (h2 : k < vs.toArray.size), EqAt A s us.toArray[k] vs.toArray[k] (e k)) ∧ us.length = 3 ∧ vs.length = 3 ∧ (((List.range 3).all e) = decide ([V.int i, .str n, .int j] = [.int i', .str n', .int j'])) := by
  obtain ⟨u0, u1, u2, rfl, a0, a1, a2⟩ := vals3 r
  obtain ⟨v0, v1, v2, rfl, b0, b1, b2⟩ := vals3 r'
  obtain ⟨e0, q0, z0⟩ := eqAt_fit (a := .int i) (c := .int i') A s trivial a0 b0
  obtain ⟨e1, q1, z1⟩ := eqAt_fit (a := .str n) (c := .str n') A s trivial a1 b1
  obtain ⟨e2, q2, z2⟩ := eqAt_fit (a := .int j) (c := .int j') A s trivial a2 b2
  refine ⟨fun k => if k = 0 then e0 else if k = 1 then e1 else e2, fun k h1 h2 => ?_, rfl, rfl, ?_⟩
  · match k, h1, h2 with
    | 0, _, _ => exact q0
    | 1, _, _ => exact q1
    | 2, _, _ => exact q2
    | k + 3, h1, _ => exact absurd h1 (by simp)
  · rw [Bool.eq_iff_iff, decide_eq_true_eq]
    have el : (List.range 3).all (fun k => if k = 0 then e0 else if k = 1 then e1 else e2) = (e0 && (e1 && e2)) := by
      show (e0 && (e1 && (e2 && true))) = _
      rw [Bool.and_true]
    rw [el, Bool.and_eq_true, Bool.and_eq_true, z0, z1, z2]
    constructor
    · rintro ⟨h0, h1, h2⟩
      rw [h0, h1, h2]
    · intro h
      injection h with h0 h
      injection h with h1 h
      injection h with h2 _
      exact ⟨h0, h1, h2⟩
theorem op_eqEn (hu : X.A.units < cLine) : OpR X (compareOp .Eq) (fun x y H Q => ∃ a b xs ys, x = .ref a ∧ y = .ref b ∧ SqT X.K H a xs ∧ SqT X.K H b ys ∧ isEn xs ∧ isEn ys ∧ Q (.bl (decide (xs = ys))) H) := by
  intro pins s σ H x y v u Q I rx ry h
  obtain ⟨a, b, xs, ys, rfl, rfl, ha, hb, ⟨i, n, j, rfl⟩, ⟨i', n', j', rfl⟩, q⟩ := h
  cases rx
  cases ry
  obtain ⟨its, r, ht, _⟩ := I.tuple ha
  obtain ⟨its2, r2, ht2, _⟩ := I.tuple hb
  obtain ⟨e, he, l1, l2, ee⟩ := en_eqs (H := H) (s := s) (A := X.A.in1) r r2
  refine SeqAt.eq_tupleAt (e := e) ht ht2 hu he ⟨.bl _, H, I, ?_, q⟩
  show Value.bool _ = Value.bool _
  rw [List.size_toArray, List.size_toArray, l1, l2, ← ee]
  show Value.bool ((List.range 3).all e && true) = _
  rw [Bool.and_true]
end
end L2
end
section
set_option linter.all false
set_option maxRecDepth 100000
set_option maxHeartbeats 4000000
namespace L2
open PySem PySem.W PySem.Spec PySem.Calls PyProof.Rows
section
variable {X : Cx} {pins : List (Addr × Obj)} {σ : St} {H : Hp} {s : Shared} {d : Addr} {kvs : List (Key × V)}
end
section
variable {X : Cx} {tg : Expr}
end
structure ClsM (K : Frag) (C : Addr) (mc : Value) (m : Str) (f : Addr) : Prop where
 ga : specialIn K (.ref C) "__getattribute__" = some (some (.builtin "type.__getattribute__"))
 rd : readsIn K C mc = true
 fc : findCls K (.ref C) mc m = some (.val (.ref f))
 kp : keepIn K (.ref f) = true
section
variable {X : Cx} {CX : CXT} {k : Nat} {f C : Addr} {mc : Value} {fd : FuncData} {ps : List Str} {sp : Sp} {dvs : List V} {ds : List Value} {E : XK} {m : Str} {pos apos : Pos} {e o : Expr} {es : List Expr} {t : TA} {pl : Sem Bool}
theorem pe_clsm (ho : PE X o (tC (.ref C))) (M : ClsM X.K C mc m f) (F : FnOk X.prog X.w X.K X.mg X.base CX k f fd ps sp) (hr : Room k X.A) (hb : Binds X.K fd ps ds) (hd : Vals dvs ds) (hx : Passes CX X E) (ha : PA X (e :: es) t)
  (hst : starEach (e :: es) X.env = (false, eval e X.env) :: starEach es X.env := by rfl) (hpl : (backTo pos (starEach es X.env)).any (·.1) = false := by rfl)
  (ht : eval (.Call (.Attribute o m apos) (e :: es) [] pos) X.env = (do
   let ov ← eval o X.env
   standAt apos.atName
   let (f, first) ← holding [ov] (getMethod ov m pl)
   callWith pos f first (backTo pos (starEach (e :: es) X.env)) (backToKw pos (keywordEach [] X.env))) := by rfl) :
  PE X (.Call (.Attribute o m apos) (e :: es) [] pos) (tCall sp dvs E t) := by
 intro pins s σ H Q I h
 refine methodCall_KW (pl := pl) (thn (ho pins s σ H (fun v H' => v = .ref C ∧ H' = H) I ⟨rfl, rfl⟩) fun u s1 ⟨x, H1, I1, rx, ex, eH⟩ => ?_) ht
 subst ex eH
 obtain rfl : u = Value.ref C := rx
 refine method_cls I1.kIn M.ga (cls_value I1.kIn M.rd M.fc rfl ?_)
 have I2 := I1.tok (s1.toks + 1)
 refine callWith_K (h₀ := X.base) I.ok.mod.kin M.kp (thn (ha pos pins _ σ H1 _ I2 h) fun us s2 ⟨vs, H2, I3, r, q2⟩ => ⟨I3.kIn, ?_⟩) hst hpl
 exact run_fn F hr hb hd hx I3 r q2
end
end L2
end
section
set_option linter.all false
set_option maxRecDepth 100000
set_option maxHeartbeats 4000000
namespace L2
open PySem PySem.W PySem.Spec PySem.Calls PyProof.Rows
open PySem.SeqAt (EqAt RcAt RcNeAt)
section
variable {X : Cx}
theorem op_eqOE (hu : X.A.units < cLine) : OpR X (compareOp .Eq) (fun x y H Q => ∃ b ys, y = .ref b ∧ SqT X.K H b ys ∧ isEn ys ∧ ((x = .non ∧ Q (.bl false) H) ∨ ∃ a xs, x = .ref a ∧ SqT X.K H a xs ∧ isEn xs ∧ Q (.bl (decide (xs = ys))) H)) := by
 intro pins s σ H x y v u Q I rx ry h
 obtain ⟨b, ys, rfl, hb, en, ⟨rfl, q⟩ | ⟨a, xs, rfl, ha, en', q⟩⟩ := h
 ·cases rx
  cases ry
  obtain ⟨its, r, ht, _⟩ := I.tuple hb
  exact RcAt.none_tuple ht hu X.prog X.w _ _ ⟨.bl false, H, I, rfl, q⟩
 ·exact op_eqEn hu pins s σ H _ _ v u Q I rx ry ⟨a, b, xs, ys, rfl, rfl, ha, hb, en', en, q⟩
end
end L2
namespace TS
open PySem PyProof.Rows PySem.W
section
variable {prog : Program} {w : World} {A : Around} {E : Value → Shared → Prop} {s : Shared}
end
end TS
namespace L2
open PySem PySem.W PySem.Spec PySem.Calls PyProof.Rows
def slt (a b : Str) : Bool := decide (a.cps.toList < b.cps.toList)
section
variable {X : Cx}
end
end L2
namespace TS
open PySem PyProof.Rows PySem.W
section
variable {prog : Program} {w : World} {A : Around} {R : Result → Shared → Prop} {I : Addr} {fp wr : List Addr} {n : Nat} {P : Nat → Value → Prop} {St : Nat → Heap → Prop} {Gd : Heap → Prop} {bt : Nat → Nat → Bool} {S : Addr}
end
end TS
namespace L2
open PySem PySem.W PySem.Spec PySem.Calls PyProof.Rows
def prV (k : Int × Str) : List V := [.int k.1, .str k.2]
def ltP (a b : Int × Str) : Bool := lexV (prV a) (prV b)
section
variable {X : Cx}
end
section
variable {X : Cx} {e o i a b : Expr} {te to ti ta tb : TE} {pos pos' : Pos} {f : Str}
theorem qe_fld (he : QE X e te) (hb : attributeBase e f X.env (eval e X.env) = eval e X.env) : QE X (.Attribute e f pos) (tFld X.K te f) := .mk (pe_fld he.to hb)
theorem qs_fld {value : Expr} {tv : TE} (ha : QE X o to) (hv : QE X value tv) (hs : swapsWith value (some (.Attribute o f pos')) pos.line X.env = pure false) : QS X (.Assign [.Attribute o f pos'] value pos) (sFld X.K to tv f) := .mk (ps_fld ha.to hv.to hs)
theorem qe_dnewK : QE X (.Dict [] [] pos) tDNewK := .mk pe_dnewK
theorem qe_dget (hu : X.A.units + 1 < cLine) (ho : QE X o to) (hi : QE X i ti) (hs : NoSl i) : QE X (.Subscript o i pos) (tDGet to ti) := .mk (pe_dget hu ho.to hi.to hs)
theorem qe_din (hu : X.A.units + 1 < cLine) (hi : QE X i ti) (ho : QE X o to) (h1 : behindInMarks .In o = false := by rfl) : QE X (.Compare i [.In] [o] pos) (tDIn ti to) := .mk (pe_cmp (pc_din hu hi.to ho.to) h1)
theorem qt_din (hu : X.A.units + 1 < cLine) (hi : QE X i ti) (ho : QE X o to) (h1 : behindInMarks .In o = false := by rfl) : QT X (.Compare i [.In] [o] pos) (tB (tDIn ti to)) := .mk (pt_cmp (pc_din hu hi.to ho.to) h1)
theorem qt_dnotin (hu : X.A.units + 1 < cLine) (hi : QE X i ti) (ho : QE X o to) (h1 : behindInMarks .NotIn o = false := by rfl) : QT X (.Compare i [.NotIn] [o] pos) (tB (tDNotIn ti to)) := .mk (pt_cmp (pc_dnotin hu hi.to ho.to) h1)
theorem qs_dput {value : Expr} {tv : TE} (hu : X.A.units + 1 < cLine) (ho : QE X o to) (hi : QE X i ti) (hv : QE X value tv) (hs : swapsWith value (some (.Subscript o i pos')) pos.line X.env = pure false) : QS X (.Assign [.Subscript o i pos'] value pos) (sDPut to ti tv) := .mk (ps_dput hu ho.to hi.to hv.to hs)
theorem qe_dget1 {apos cpos : Pos} (hu : X.A.units + 1 < cLine) (ho : QE X o to) (he : QE X e te) (m : M1 X o "get" apos e cpos) : QE X (.Call (.Attribute o "get" apos) [e] [] cpos) (tDGet1 to te) := .mk (pe_dget1 hu ho.to he.to m)
theorem qe_dpop1 {apos cpos : Pos} (ho : QE X o to) (he : QE X e te) (m : M1 X o "pop" apos e cpos) : QE X (.Call (.Attribute o "pop" apos) [e] [] cpos) (tDPop1 to te) := .mk (pe_dpop1 ho.to he.to m)
theorem qe_fstr2 {c : Str} {j : Nat} {fpos cpos : Pos} (h : QE X e te) (hc : c.length ≤ 1000) : QE X (.JoinedStr [.FormattedValue e (-1) none fpos, .Constant (.str c) j cpos] pos) (tFstr te) := .mk (pe_fstr2 h.to hc)
theorem qe_and {rest : List Expr} (ha : QE X a ta) (hb : QE X (.BoolOp .And (b :: rest) pos) tb) : QE X (.BoolOp .And (a :: b :: rest) pos) (tAndV ta tb) := .mk (pe_and ha.to hb.to)
theorem qe_or {rest : List Expr} (ha : QE X a ta) (hb : QE X (.BoolOp .Or (b :: rest) pos) tb) : QE X (.BoolOp .Or (a :: b :: rest) pos) (tOrV ta tb) := .mk (pe_or ha.to hb.to)
theorem qe_one {op} (h : QE X a ta) : QE X (.BoolOp op [a] pos) ta := .mk (pe_one h.to)
section
variable {CX : CXT} {k : Nat} {g C : Addr} {mc : Value} {fd : FuncData} {ps : List Str} {sp : Sp} {dvs : List V} {ds : List Value} {E : XK} {m x : Str} {p apos : Pos} {es : List Expr} {t : TA} {pl : Sem Bool}
theorem qe_meth (ho : QE X o to) (c : Cls X.K C) (hm : Meth X.K C m g) (F : FnOk X.prog X.w X.K X.mg X.base CX k g fd ps sp) (hr : Room k X.A) (hb : Binds X.K fd ps ds) (hd : Vals dvs ds) (hx : Passes CX X E) (ha : QA X (e :: es) t)
  (hst : starEach (e :: es) X.env = (false, eval e X.env) :: starEach es X.env := by rfl) (hpl : (backTo pos (starEach es X.env)).any (·.1) = false := by rfl)
  (ht : eval (.Call (.Attribute o m apos) (e :: es) [] pos) X.env = (do
   let ov ← eval o X.env
   standAt apos.atName
   let (f, first) ← holding [ov] (getMethod ov m pl)
   callWith pos f first (backTo pos (starEach (e :: es) X.env)) (backToKw pos (keywordEach [] X.env))) := by rfl) :
  QE X (.Call (.Attribute o m apos) (e :: es) [] pos) (tMeth C m sp dvs E to t) := .mk (pe_meth ho.to c hm F hr hb hd hx ha.to hst hpl ht)
theorem qe_meth0 (ho : QE X o to) (c : Cls X.K C) (hm : Meth X.K C m g) (F : FnOk X.prog X.w X.K X.mg X.base CX k g fd ps sp) (hr : Room k X.A) (hb : Binds X.K fd ps ds) (hd : Vals dvs ds) (hx : Passes CX X E)
  (ht : eval (.Call (.Attribute o m apos) [] [] pos) X.env = (do
   let ov ← eval o X.env
   standAt apos.atName
   let (f, first) ← holding [ov] (getMethod ov m pl)
   callWith pos f first (backTo pos (starEach [] X.env)) (backToKw pos (keywordEach [] X.env))) := by rfl) :
  QE X (.Call (.Attribute o m apos) [] [] pos) (tMeth C m sp dvs E to tNil) := .mk (pe_meth0 ho.to c hm F hr hb hd hx ht)
theorem qe_make (M : Mk X.K C g) (F : FnOk X.prog X.w X.K X.mg X.base CX k g fd ps sp) (hr : Room (k + 1) X.A) (hg : Gl X x) (hm : X.mg x = some (.ref C)) (hb : Binds X.K fd ps ds) (hd : Vals dvs ds) (hx : Passes CX X E)
  (ha : QA X (e :: es) t) (hdb : (x == ("__debug__" : Str)) = false := by decide) (he : starEach (e :: es) X.env = (false, eval e X.env) :: starEach es X.env := by rfl) (hpl : (backTo pos (starEach es X.env)).any (·.1) = false := by rfl) :
  QE X (.Call (.Name x p) (e :: es) [] pos) (tMake C sp dvs E t) := .mk (pe_make M F hr hg hm hb hd hx ha.to hdb he hpl)
theorem qe_clsm (ho : QE X o (tC (.ref C))) (M : ClsM X.K C mc m g) (F : FnOk X.prog X.w X.K X.mg X.base CX k g fd ps sp) (hr : Room k X.A) (hb : Binds X.K fd ps ds) (hd : Vals dvs ds) (hx : Passes CX X E) (ha : QA X (e :: es) t)
  (hst : starEach (e :: es) X.env = (false, eval e X.env) :: starEach es X.env := by rfl) (hpl : (backTo pos (starEach es X.env)).any (·.1) = false := by rfl)
  (ht : eval (.Call (.Attribute o m apos) (e :: es) [] pos) X.env = (do
   let ov ← eval o X.env
   standAt apos.atName
   let (f, first) ← holding [ov] (getMethod ov m pl)
   callWith pos f first (backTo pos (starEach (e :: es) X.env)) (backToKw pos (keywordEach [] X.env))) := by rfl) :
  QE X (.Call (.Attribute o m apos) (e :: es) [] pos) (tCall sp dvs E t) := .mk (pe_clsm ho.to M F hr hb hd hx ha.to hst hpl ht)
end
end
end L2
namespace L2
open PySem PySem.W PySem.Spec PySem.Calls PyProof.Rows
end L2
end
section
set_option linter.all false
set_option maxRecDepth 100000
set_option maxHeartbeats 1000000
namespace Hg
section
variable {α : Type} [Inhabited α]
abbrev g (xs : List α) (i : Nat) : α := xs.getD i default
def sw (xs : List α) (i j : Nat) : List α := (xs.set i (g xs j)).set j (g xs i)
structure Od (lt : α → α → Bool) : Prop where
  as : ∀ a b, lt a b = true → lt b a = false
  nt : ∀ a b c, lt a b = false → lt b c = false → lt a c = false
theorem Od.irr {lt : α → α → Bool} (o : Od lt) (a : α) : lt a a = false := by
  cases e : lt a a with
  | false => rfl
  | true => have := o.as a a e; rw [e] at this; exact this
theorem g_set {xs : List α} {i k : Nat} {v : α} : g (xs.set i v) k = if i = k ∧ k < xs.length then v else g xs k := by
  simp only [g, List.getD_eq_getElem?_getD, List.getElem?_set]
  by_cases h : i = k
  · subst h
    by_cases h2 : i < xs.length
    · simp [h2]
    · simp [h2, List.getElem?_eq_none (Nat.le_of_not_lt h2)]
  · simp [h]
theorem sw_len {xs : List α} {i j : Nat} : (sw xs i j).length = xs.length := by simp [sw]
theorem g_sw {xs : List α} {i j k : Nat} (hi : i < xs.length) (hj : j < xs.length) : g (sw xs i j) k = if k = j then g xs i else if k = i then g xs j else g xs k := by
  unfold sw
  rw [g_set, g_set, List.length_set]
  by_cases h1 : k = j
  · subst h1; simp [hj]
  · rw [if_neg (by intro z; exact h1 z.1.symm), if_neg h1]
    by_cases h2 : k = i
    · subst h2; simp [hi]
    · rw [if_neg (by intro z; exact h2 z.1.symm), if_neg h2]
theorem g_get {xs : List α} {i : Nat} (h : i < xs.length) : g xs i = xs[i] := by simp [g, List.getD_eq_getElem?_getD, h]
theorem sw_perm {xs : List α} {i j : Nat} (hi : i < xs.length) (hj : j < xs.length) : (sw xs i j).Perm xs := by
  unfold sw
  rw [g_get hi, g_get hj]
  exact List.set_set_perm hi hj
def les (lt : α → α → Bool) (xs : List α) (p : Nat) : Nat := if 2 * p + 2 < xs.length ∧ lt (g xs (2 * p + 2)) (g xs (2 * p + 1)) = true then 2 * p + 2 else 2 * p + 1
def kids (n p : Nat) : Nat := if 2 * p + 2 < n then 2 else if 2 * p + 1 < n then 1 else 0
def dn (lt : α → α → Bool) : Nat → List α → Nat → Nat → List α × Nat
  | 0, xs, _, lk => (xs, lk)
  | f + 1, xs, p, lk => if 2 * p + 1 < xs.length then
      if lt (g xs (les lt xs p)) (g xs p) = true then dn lt f (sw xs p (les lt xs p)) (les lt xs p) (lk + kids xs.length p) else (xs, lk + kids xs.length p)
    else (xs, lk)
def up (lt : α → α → Bool) : Nat → List α → Nat → Nat → List α × Nat
  | 0, xs, _, lk => (xs, lk)
  | f + 1, xs, p, lk => if 0 < p then
      if lt (g xs p) (g xs ((p - 1) / 2)) = true then up lt f (sw xs p ((p - 1) / 2)) ((p - 1) / 2) (lk + 1) else (xs, lk + 1)
    else (xs, lk)
theorem les_lo {lt : α → α → Bool} {xs : List α} {p : Nat} : 2 * p + 1 ≤ les lt xs p := by unfold les; split <;> lia
theorem les_hi {lt : α → α → Bool} {xs : List α} {p : Nat} : les lt xs p ≤ 2 * p + 2 := by unfold les; split <;> lia
theorem les_lt {lt : α → α → Bool} {xs : List α} {p : Nat} (h : 2 * p + 1 < xs.length) : les lt xs p < xs.length := by unfold les; split <;> lia
theorem les_min {lt : α → α → Bool} (o : Od lt) {xs : List α} {p k : Nat} (hk : k < xs.length) (hp : k = 2 * p + 1 ∨ k = 2 * p + 2) : lt (g xs k) (g xs (les lt xs p)) = false := by
  unfold les
  split
  · rename_i h
    rcases hp with rfl | rfl
    · exact o.as _ _ h.2
    · exact o.irr _
  · rename_i h
    rcases hp with rfl | rfl
    · exact o.irr _
    · cases e : lt (g xs (2 * p + 2)) (g xs (2 * p + 1)) with
      | false => rfl
      | true => exact absurd ⟨hk, e⟩ h
theorem dn_len {lt : α → α → Bool} : ∀ {f : Nat} {xs : List α} {p lk : Nat}, (dn lt f xs p lk).1.length = xs.length
  | 0, xs, p, lk => rfl
  | f + 1, xs, p, lk => by
    unfold dn
    split
    · split
      · rw [dn_len, sw_len]
      · rfl
    · rfl
theorem dn_perm {lt : α → α → Bool} : ∀ {f : Nat} {xs : List α} {p lk : Nat}, (dn lt f xs p lk).1.Perm xs
  | 0, xs, p, lk => .refl _
  | f + 1, xs, p, lk => by
    unfold dn
    split
    · rename_i h
      split
      · exact dn_perm.trans (sw_perm (by lia) (les_lt h))
      · exact .refl _
    · exact .refl _
theorem up_perm {lt : α → α → Bool} : ∀ {f : Nat} {xs : List α} {p lk : Nat}, p < xs.length → (up lt f xs p lk).1.Perm xs
  | 0, xs, p, lk, _ => .refl _
  | f + 1, xs, p, lk, hp => by
    unfold up
    split
    · split
      · exact (up_perm (by rw [sw_len]; lia)).trans (sw_perm (by lia) (by lia))
      · exact .refl _
    · exact .refl _
def HF (lt : α → α → Bool) (q : Nat) (xs : List α) : Prop := ∀ k, 0 < k → k < xs.length → q ≤ (k - 1) / 2 → lt (g xs k) (g xs ((k - 1) / 2)) = false
def IsH (lt : α → α → Bool) (xs : List α) : Prop := ∀ k, 0 < k → k < xs.length → lt (g xs k) (g xs ((k - 1) / 2)) = false
theorem HF.zero {lt : α → α → Bool} {xs : List α} (h : HF lt 0 xs) : IsH lt xs := fun k a b => h k a b (Nat.zero_le _)
theorem dn_heap {lt : α → α → Bool} (o : Od lt) {q : Nat} : ∀ {f : Nat} {xs : List α} {p lk : Nat}, xs.length ≤ p + f → q ≤ p →
    (∀ k, 0 < k → k < xs.length → q ≤ (k - 1) / 2 → (k - 1) / 2 ≠ p → lt (g xs k) (g xs ((k - 1) / 2)) = false) →
    (p = q ∨ (0 < p ∧ q ≤ (p - 1) / 2 ∧ ∀ k, 0 < k → k < xs.length → (k - 1) / 2 = p → lt (g xs k) (g xs ((p - 1) / 2)) = false)) → HF lt q (dn lt f xs p lk).1
  | 0, xs, p, lk, hf, hq, h1, h2 => by
    intro k k0 k1 k2
    exact h1 k k0 k1 k2 (by have : k < xs.length := k1; lia)
  | f + 1, xs, p, lk, hf, hq, h1, h2 => by
    unfold dn
    split
    · rename_i hc
      have b1 := les_lo (lt := lt) (xs := xs) (p := p)
      have b2 := les_hi (lt := lt) (xs := xs) (p := p)
      have b3 := les_lt (lt := lt) hc
      have bm := fun k hk hp => les_min o (xs := xs) (p := p) (k := k) hk hp
      split
      · rename_i hl
        generalize les lt xs p = b at *
        have hpl : p < xs.length := by lia
        refine dn_heap o (by rw [sw_len]; lia) (by lia) (fun k k0 k1 k2 k3 => ?_) (.inr ⟨by lia, by lia, fun k k0 k1 k2 => ?_⟩)
        · rw [sw_len] at k1
          rw [g_sw hpl b3, g_sw hpl b3]
          by_cases e1 : k = b
          · subst e1
            have e2 : (k - 1) / 2 = p := by lia
            rw [if_pos rfl, e2, if_neg (by lia), if_pos rfl]
            exact o.as _ _ hl
          · rw [if_neg e1, if_neg (by lia : ¬ (k - 1) / 2 = b)]
            by_cases e2 : (k - 1) / 2 = p
            · rw [if_neg (by lia), if_pos e2]
              exact bm k k1 (by lia)
            · rw [if_neg e2]
              by_cases e3 : k = p
              · subst e3
                rw [if_pos rfl]
                rcases h2 with h2 | ⟨_, _, h2⟩
                · lia
                · exact h2 b (by lia) b3 (by lia)
              · rw [if_neg e3]
                exact h1 k k0 k1 k2 e2
        · rw [sw_len] at k1
          have e1 : (b - 1) / 2 = p := by lia
          rw [e1, g_sw hpl b3, g_sw hpl b3, if_neg (by lia), if_neg (by lia), if_neg (by lia), if_pos rfl]
          have := h1 k k0 k1 (by lia) (by lia)
          rwa [k2] at this
      · rename_i hl
        intro k k0 k1 k2
        by_cases e2 : (k - 1) / 2 = p
        · rw [e2]
          have hl' : lt (g xs (les lt xs p)) (g xs p) = false := by simpa using hl
          exact o.nt _ _ _ (bm k k1 (by lia)) hl'
        · exact h1 k k0 k1 k2 e2
    · intro k k0 k1 k2
      exact h1 k k0 k1 k2 (by have : k < xs.length := k1; lia)
theorem up_heap {lt : α → α → Bool} (o : Od lt) : ∀ {f : Nat} {xs : List α} {p lk : Nat}, p ≤ f → p < xs.length →
    (∀ k, 0 < k → k < xs.length → k ≠ p → lt (g xs k) (g xs ((k - 1) / 2)) = false) →
    (∀ k, 0 < k → k < xs.length → (k - 1) / 2 = p → 0 < p → lt (g xs k) (g xs ((p - 1) / 2)) = false) → IsH lt (up lt f xs p lk).1
  | 0, xs, p, lk, hf, hp, h1, h2 => fun k k0 k1 => h1 k k0 k1 (by lia)
  | f + 1, xs, p, lk, hf, hp, h1, h2 => by
    unfold up
    split
    · rename_i hc
      split
      · rename_i hl
        generalize ha : (p - 1) / 2 = a at *
        have hal : a < xs.length := by lia
        refine up_heap o (by lia) (by rw [sw_len]; lia) (fun k k0 k1 k2 => ?_) (fun k k0 k1 k2 k3 => ?_)
        · rw [sw_len] at k1
          rw [g_sw hp hal, g_sw hp hal, if_neg k2]
          by_cases e1 : k = p
          · subst e1
            rw [if_pos rfl, ha, if_pos rfl]
            exact o.as _ _ hl
          · rw [if_neg e1]
            by_cases e2 : (k - 1) / 2 = a
            · rw [if_pos e2]
              have q1 := h1 k k0 k1 e1
              rw [e2] at q1
              exact o.nt _ _ _ q1 (o.as _ _ hl)
            · rw [if_neg e2]
              by_cases e3 : (k - 1) / 2 = p
              · rw [if_pos e3]
                exact h2 k k0 k1 e3 hc
              · rw [if_neg e3]
                exact h1 k k0 k1 e1
        · rw [sw_len] at k1
          rw [g_sw hp hal, g_sw hp hal, if_neg (by lia), if_neg (by lia : ¬ (a - 1) / 2 = a), if_neg (by lia : ¬ (a - 1) / 2 = p)]
          have qa := h1 a (by lia) hal (by lia)
          by_cases e1 : k = p
          · rw [if_pos e1]; exact qa
          · rw [if_neg e1]
            have q1 := h1 k k0 k1 e1
            rw [k2] at q1
            exact o.nt _ _ _ q1 qa
      · rename_i hl
        intro k k0 k1
        by_cases e1 : k = p
        · subst e1; simpa using hl
        · exact h1 k k0 k1 e1
    · intro k k0 k1
      exact h1 k k0 k1 (by lia)
def mk (lt : α → α → Bool) : Nat → List α → Nat → List α × Nat
  | 0, xs, lk => (xs, lk)
  | k + 1, xs, lk => mk lt k (dn lt xs.length xs k 0).1 (lk + (dn lt xs.length xs k 0).2)
theorem mk_perm {lt : α → α → Bool} : ∀ {k : Nat} {xs : List α} {lk : Nat}, (mk lt k xs lk).1.Perm xs
  | 0, _, _ => .refl _
  | k + 1, xs, lk => by unfold mk; exact mk_perm.trans dn_perm
theorem mk_heap {lt : α → α → Bool} (o : Od lt) : ∀ {k : Nat} {xs : List α} {lk : Nat}, HF lt k xs → IsH lt (mk lt k xs lk).1
  | 0, _, _, h => h.zero
  | k + 1, xs, lk, h => by
    unfold mk
    refine mk_heap o (dn_heap o (by lia) (Nat.le_refl _) (fun j j0 j1 j2 j3 => h j j0 j1 (by lia)) (.inl rfl))
theorem hf_half {lt : α → α → Bool} {xs : List α} : HF lt (xs.length / 2) xs := fun k k0 k1 k2 => by lia
variable {lt : α → α → Bool} {xs : List α} {f p lk : Nat}
def lgs (n : Nat) : Nat → Nat
  | 0 => 0
  | k + 1 => lgs n k + (n / (k + 1)).log2
theorem root_min {lt : α → α → Bool} (o : Od lt) {xs : List α} (h : IsH lt xs) : ∀ k, k < xs.length → lt (g xs k) (g xs 0) = false := fun k => by
  induction k using Nat.strongRecOn with
  | _ k ih =>
    intro hk
    by_cases k0 : k = 0
    · subst k0; exact o.irr _
    · exact o.nt _ _ _ (h k (by lia) hk) (ih ((k - 1) / 2) (by lia) (by lia))
theorem root_mem {lt : α → α → Bool} (o : Od lt) {xs : List α} (h : IsH lt xs) {y : α} (hy : y ∈ xs) : lt y (g xs 0) = false := by
  obtain ⟨k, hk, e⟩ := List.getElem_of_mem hy
  rw [← e, ← g_get hk]
  exact root_min o h k hk
def cutf (lt : α → α → Bool) (xs : List α) : List α × Nat :=
  if xs.dropLast = [] then ([], 0) else dn lt xs.dropLast.length (xs.dropLast.set 0 (g xs (xs.length - 1))) 0 0
theorem split_ends {xs : List α} (h : 2 ≤ xs.length) : ∃ mid, xs = g xs 0 :: mid ++ [g xs (xs.length - 1)] ∧ xs.dropLast = g xs 0 :: mid := by
  cases xs with
  | nil => simp at h
  | cons a l =>
    have hl : l ≠ [] := by intro e; rw [e] at h; simp at h
    refine ⟨l.dropLast, ?_, ?_⟩
    · show a :: l = a :: l.dropLast ++ [g (a :: l) l.length]
      have : g (a :: l) l.length = l.getLast hl := by
        rw [g_get (by simp)]
        rw [List.getLast_eq_getElem]
        rw [List.getElem_cons]
        have : l.length ≠ 0 := by intro e; exact hl (List.length_eq_zero_iff.mp e)
        simp [this]
      rw [this, List.cons_append, List.dropLast_concat_getLast]
    · show (a :: l).dropLast = a :: l.dropLast
      exact List.dropLast_cons_of_ne_nil hl
theorem cutf_one {lt : α → α → Bool} {xs : List α} (h : xs.length = 1) : cutf lt xs = ([], 0) := by
  unfold cutf
  rw [if_pos]
  rw [← List.length_eq_zero_iff, List.length_dropLast, h]
theorem cutf_two {lt : α → α → Bool} {xs mid : List α} (e : xs.dropLast = g xs 0 :: mid) : cutf lt xs = dn lt (mid.length + 1) (g xs (xs.length - 1) :: mid) 0 0 := by
  unfold cutf
  rw [if_neg (by rw [e]; simp), e]
  rfl
theorem cutf_len {lt : α → α → Bool} {xs : List α} : (cutf lt xs).1.length = xs.length - 1 := by
  unfold cutf
  split
  · rename_i h
    have := congrArg List.length h
    rw [List.length_dropLast] at this
    exact this.symm
  · rw [dn_len, List.length_set, List.length_dropLast]
theorem cutf_perm {lt : α → α → Bool} {xs : List α} (h : 0 < xs.length) : (g xs 0 :: (cutf lt xs).1).Perm xs := by
  by_cases h2 : 2 ≤ xs.length
  · obtain ⟨mid, e, e2⟩ := split_ends h2
    rw [cutf_two e2]
    refine (List.Perm.cons _ dn_perm).trans ?_
    conv => rhs; rw [e]
    rw [List.cons_append]
    refine List.Perm.cons _ ?_
    exact (List.perm_append_comm (l₁ := [g xs (xs.length - 1)]) (l₂ := mid))
  · rw [cutf_one (by lia)]
    cases xs with
    | nil => simp at h
    | cons a l =>
      have : l = [] := List.length_eq_zero_iff.mp (by rw [List.length_cons] at h2; lia)
      subst this
      exact .refl _
theorem cutf_heap {lt : α → α → Bool} (o : Od lt) {xs : List α} (h : IsH lt xs) (hl : 0 < xs.length) : IsH lt (cutf lt xs).1 := by
  by_cases h2 : 2 ≤ xs.length
  · obtain ⟨mid, e, e2⟩ := split_ends h2
    rw [cutf_two e2]
    have len : xs.length = mid.length + 2 := by
      have := congrArg List.length e2
      rw [List.length_dropLast, List.length_cons] at this
      lia
    have gm : ∀ k, k < mid.length → g (g xs (xs.length - 1) :: mid) (k + 1) = g xs (k + 1) := fun k hk => by
      have e3 : (g xs 0 :: mid ++ [g xs (xs.length - 1)])[k + 1]? = some mid[k] := by
        rw [List.cons_append, List.getElem?_cons_succ, List.getElem?_append_left hk, List.getElem?_eq_getElem hk]
      rw [← e] at e3
      show (g xs (xs.length - 1) :: mid).getD (k + 1) default = xs.getD (k + 1) default
      rw [List.getD_eq_getElem?_getD, List.getD_eq_getElem?_getD, e3, List.getElem?_cons_succ, List.getElem?_eq_getElem hk]
    refine HF.zero (dn_heap o (by rw [List.length_cons]; lia) (Nat.le_refl _) (fun k k0 k1 _ k3 => ?_) (.inl rfl))
    rw [List.length_cons] at k1
    obtain ⟨k', rfl⟩ : ∃ k', k = k' + 1 := ⟨k - 1, by lia⟩
    obtain ⟨j, hj⟩ : ∃ j, (k' + 1 - 1) / 2 = j + 1 := ⟨(k' + 1 - 1) / 2 - 1, by lia⟩
    rw [hj, gm k' (by lia), gm j (by lia)]
    have := h (k' + 1) (by lia) (by lia)
    rwa [hj] at this
  · rw [cutf_one (by lia)]
    intro k k0 k1
    exact absurd k1 (by simp)
end
end Hg
end
section
set_option linter.all false
set_option maxRecDepth 100000
set_option maxHeartbeats 1000000
namespace Gm
open Hg
structure En (N : Type) where
 w : Int
 n : N
 s : Int
 deriving DecidableEq
instance {N : Type} [Inhabited N] : Inhabited (En N) := ⟨⟨0, default, 0⟩⟩
structure Slo {N : Type} (sl : N → N → Bool) : Prop where
 irr : ∀ a, sl a a = false
 tr : ∀ a b c, sl a b = true → sl b c = true → sl a c = true
 tot : ∀ a b, a ≠ b → sl a b = true ∨ sl b a = true
section
variable {N : Type} [DecidableEq N] [Inhabited N] (sl : N → N → Bool)
def ltE (a b : En N) : Bool := if a.w = b.w then if a.n = b.n then decide (a.s < b.s) else sl a.n b.n else decide (a.w < b.w)
variable {sl}
theorem Slo.as (o : Slo sl) {a b : N} (h : sl a b = true) : sl b a = false := by
 cases e : sl b a with
 | false => rfl
 | true => have := o.tr a b a h e; rw [o.irr] at this; cases this
theorem Slo.nt (o : Slo sl) {a b c : N} (h : sl a b = false) (h' : sl b c = false) : sl a c = false := by
 cases e : sl a c with
 | false => rfl
 | true =>
  by_cases hab : a = b
  ·subst hab; rw [h'] at e; cases e
  ·by_cases hbc : b = c
   ·subst hbc; rw [h] at e; cases e
   ·have h1 := (o.tot a b hab).resolve_left (by rw [h]; exact Bool.false_ne_true)
    have h2 := (o.tot b c hbc).resolve_left (by rw [h']; exact Bool.false_ne_true)
    have := o.tr c b a h2 h1
    have := o.as this
    rw [this] at e; cases e
theorem ltE_iff {a b : En N} : ltE sl a b = true ↔ a.w < b.w ∨ (a.w = b.w ∧ ((a.n ≠ b.n ∧ sl a.n b.n = true) ∨ (a.n = b.n ∧ a.s < b.s))) := by
 unfold ltE
 by_cases h : a.w = b.w
 ·rw [if_pos h]
  by_cases h2 : a.n = b.n
  ·rw [if_pos h2, decide_eq_true_eq]
   constructor
   ·intro z; exact .inr ⟨h, .inr ⟨h2, z⟩⟩
   ·rintro (z | ⟨_, ⟨z, _⟩ | ⟨_, z⟩⟩)
    ·lia
    ·exact absurd h2 z
    ·exact z
  ·rw [if_neg h2]
   constructor
   ·intro z; exact .inr ⟨h, .inl ⟨h2, z⟩⟩
   ·rintro (z | ⟨_, ⟨_, z⟩ | ⟨z, _⟩⟩)
    ·lia
    ·exact z
    ·exact absurd z h2
 ·rw [if_neg h, decide_eq_true_eq]
  constructor
  ·intro z; exact .inl z
  ·rintro (z | ⟨z, _⟩)
   ·exact z
   ·exact absurd z h
theorem od_ltE (o : Slo sl) : Od (ltE sl) where
 as := fun a b h => by
  cases e : ltE sl b a with
  | false => rfl
  | true =>
   rw [ltE_iff] at h e
   rcases h with h | ⟨h1, ⟨h2, h3⟩ | ⟨h2, h3⟩⟩ <;> rcases e with e | ⟨e1, ⟨e2, e3⟩ | ⟨e2, e3⟩⟩ <;> try omega
   ·rw [o.as h3] at e3; cases e3
   ·exact absurd e2.symm h2
   ·exact absurd h2.symm e2
 nt := fun a b c h h' => by
  cases e : ltE sl a c with
  | false => rfl
  | true =>
   have h1 : ¬ ltE sl a b = true := by rw [h]; exact Bool.false_ne_true
   have h2 : ¬ ltE sl b c = true := by rw [h']; exact Bool.false_ne_true
   rw [ltE_iff] at h1 h2 e
   exfalso
   have w1 : b.w ≤ a.w := by
    rcases Int.lt_or_le a.w b.w with z | z
    ·exact absurd (.inl z) h1
    ·exact z
   have w2 : c.w ≤ b.w := by
    rcases Int.lt_or_le b.w c.w with z | z
    ·exact absurd (.inl z) h2
    ·exact z
   rcases e with e | ⟨e1, e2⟩
   ·lia
   ·have wab : a.w = b.w := by lia
    have wbc : b.w = c.w := by lia
    have n1 : sl a.n b.n = false := by
     cases z : sl a.n b.n with
     | false => rfl
     | true =>
      by_cases q : a.n = b.n
      ·rw [q, o.irr] at z; cases z
      ·exact absurd (.inr ⟨wab, .inl ⟨q, z⟩⟩) h1
    have n2 : sl b.n c.n = false := by
     cases z : sl b.n c.n with
     | false => rfl
     | true =>
      by_cases q : b.n = c.n
      ·rw [q, o.irr] at z; cases z
      ·exact absurd (.inr ⟨wbc, .inl ⟨q, z⟩⟩) h2
    have n3 := o.nt n1 n2
    rcases e2 with ⟨_, z⟩ | ⟨z1, z2⟩
    ·rw [n3] at z; cases z
    ·have : a.n = b.n := by
      by_cases q : a.n = b.n
      ·exact q
      ·have q1 := (o.tot _ _ q).resolve_left (by rw [n1]; exact Bool.false_ne_true)
       rw [← z1] at n2
       rw [n2] at q1; cases q1
     have e4 : b.n = c.n := this.symm.trans z1
     have s1 : ¬ a.s < b.s := fun z => h1 (.inr ⟨wab, .inr ⟨this, z⟩⟩)
     have s2 : ¬ b.s < c.s := fun z => h2 (.inr ⟨wbc, .inr ⟨e4, z⟩⟩)
     lia
end
section
variable {N β γ : Type} [DecidableEq N]
def dget (L : List (N × β)) (n : N) : Option β := (L.find? fun p => decide (p.1 = n)).map (·.2)
def dput (L : List (N × β)) (n : N) (b : β) : List (N × β) := if L.any (fun p => decide (p.1 = n)) then L.map (fun p => if p.1 = n then (p.1, b) else p) else L ++ [(n, b)]
def ddel (L : List (N × β)) (n : N) : List (N × β) := L.filter fun p => decide (p.1 ≠ n)
theorem dget_some {L : List (N × β)} {n : N} {b : β} (h : dget L n = some b) : (n, b) ∈ L := by
 unfold dget at h
 obtain ⟨p, hp, rfl⟩ := Option.map_eq_some_iff.mp h
 have h1 := List.mem_of_find?_eq_some hp
 have h2 := List.find?_some hp
 simp at h2
 subst h2
 exact h1
theorem dget_of {L : List (N × β)} (nd : (L.map (·.1)).Nodup) {n : N} {b : β} (h : (n, b) ∈ L) : dget L n = some b := by
 induction L with
 | nil => cases h
 | cons p r ih =>
  rw [List.map_cons, List.nodup_cons] at nd
  unfold dget
  rw [List.find?_cons]
  by_cases e : p.1 = n
  ·rw [decide_eq_true e]
   rcases List.mem_cons.mp h with rfl | h
   ·rfl
   ·exact absurd (List.mem_map.mpr ⟨_, h, e.symm⟩) nd.1
  ·rw [decide_eq_false e]
   rcases List.mem_cons.mp h with rfl | h
   ·exact absurd rfl e
   ·exact ih nd.2 h
theorem dget_none {L : List (N × β)} {n : N} : dget L n = none ↔ n ∉ L.map (·.1) := by
 unfold dget
 rw [Option.map_eq_none_iff, List.find?_eq_none]
 constructor
 ·intro h z
  obtain ⟨p, hp, e⟩ := List.mem_map.mp z
  have := h p hp
  simp [e] at this
 ·intro h p hp
  simp
  intro e
  exact h (List.mem_map.mpr ⟨p, hp, e⟩)
theorem dput_keys {L : List (N × β)} {n : N} {b : β} : (dput L n b).map (·.1) = if n ∈ L.map (·.1) then L.map (·.1) else L.map (·.1) ++ [n] := by
 unfold dput
 by_cases h : L.any (fun p => decide (p.1 = n)) = true
 ·rw [if_pos h]
  have : n ∈ L.map (·.1) := by
   obtain ⟨p, hp, e⟩ := List.any_eq_true.mp h
   exact List.mem_map.mpr ⟨p, hp, of_decide_eq_true e⟩
  rw [if_pos this, List.map_map]
  apply List.map_congr_left
  intro p _
  show (if p.1 = n then (p.1, b) else p).1 = p.1
  split <;> rfl
 ·rw [if_neg h]
  have : ¬ n ∈ L.map (·.1) := fun z => h (by
   obtain ⟨p, hp, e⟩ := List.mem_map.mp z
   exact List.any_eq_true.mpr ⟨p, hp, decide_eq_true e⟩)
  rw [if_neg this, List.map_append]
  rfl
theorem dput_nd {L : List (N × β)} {n : N} {b : β} (nd : (L.map (·.1)).Nodup) : ((dput L n b).map (·.1)).Nodup := by
 rw [dput_keys]
 split
 ·exact nd
 ·rename_i h
  rw [List.nodup_append]
  refine ⟨nd, List.nodup_cons.mpr ⟨List.not_mem_nil, List.nodup_nil⟩, ?_⟩
  intro a ha c hc
  rw [List.mem_singleton] at hc
  subst hc
  intro z; subst z; exact h ha
theorem dput_mem {L : List (N × β)} {n m : N} {b c : β} (h : (m, c) ∈ dput L n b) : (m = n ∧ c = b) ∨ (m ≠ n ∧ (m, c) ∈ L) := by
 unfold dput at h
 split at h
 ·obtain ⟨p, hp, e⟩ := List.mem_map.mp h
  split at e
  ·rename_i q
   cases e
   exact .inl ⟨q, rfl⟩
  ·rename_i q
   subst e
   exact .inr ⟨q, hp⟩
 ·rename_i hn
  rcases List.mem_append.mp h with h | h
  ·refine .inr ⟨fun z => hn (List.any_eq_true.mpr ⟨_, h, decide_eq_true z⟩), h⟩
  ·rw [List.mem_singleton] at h
   cases h
   exact .inl ⟨rfl, rfl⟩
theorem dput_in {L : List (N × β)} {n m : N} {b c : β} (h : (m, c) ∈ L) (hm : m ≠ n) : (m, c) ∈ dput L n b := by
 unfold dput
 split
 ·exact List.mem_map.mpr ⟨_, h, by rw [if_neg hm]⟩
 ·exact List.mem_append.mpr (.inl h)
theorem dput_self {L : List (N × β)} {n : N} {b : β} : (n, b) ∈ dput L n b := by
 unfold dput
 split
 ·rename_i h
  obtain ⟨p, hp, e⟩ := List.any_eq_true.mp h
  have e := of_decide_eq_true e
  exact List.mem_map.mpr ⟨p, hp, by rw [if_pos e, e]⟩
 ·exact List.mem_append.mpr (.inr (List.mem_singleton.mpr rfl))
theorem ddel_mem {L : List (N × β)} {n m : N} {c : β} : (m, c) ∈ ddel L n ↔ m ≠ n ∧ (m, c) ∈ L := by
 unfold ddel
 rw [List.mem_filter]
 simp
 exact And.comm
theorem ddel_nd {L : List (N × β)} {n : N} (nd : (L.map (·.1)).Nodup) : ((ddel L n).map (·.1)).Nodup :=
 (List.Sublist.map _ List.filter_sublist).nodup nd
theorem dput_map {L : List (N × β)} {n : N} {b : β} {f : β → γ} : (dput L n b).map (fun p => (p.1, f p.2)) = dput (L.map fun p => (p.1, f p.2)) n (f b) := by
 unfold dput
 have e : (L.map fun p => (p.1, f p.2)).any (fun p => decide (p.1 = n)) = L.any (fun p => decide (p.1 = n)) := by
  rw [List.any_map]; rfl
 rw [e]
 split
 ·rw [List.map_map, List.map_map]
  apply List.map_congr_left
  intro p _
  show ((if p.1 = n then (p.1, b) else p).1, f (if p.1 = n then (p.1, b) else p).2) = if p.1 = n then (p.1, f b) else (p.1, f p.2)
  split <;> rfl
 ·rw [List.map_append]; rfl
theorem ddel_map {L : List (N × β)} {n : N} {f : β → γ} : (ddel L n).map (fun p => (p.1, f p.2)) = ddel (L.map fun p => (p.1, f p.2)) n := by
 unfold ddel
 rw [List.filter_map]
 rfl
theorem dget_map {L : List (N × β)} {n : N} {f : β → γ} : dget (L.map fun p => (p.1, f p.2)) n = (dget L n).map f := by
 unfold dget
 rw [List.find?_map, Option.map_map, Option.map_map]
 rfl
theorem dput_len {L : List (N × β)} {n : N} {b : β} : (dput L n b).length ≤ L.length + 1 := by
 unfold dput
 split
 ·rw [List.length_map]; lia
 ·rw [List.length_append]; exact Nat.le_refl _
theorem ddel_len {L : List (N × β)} {n : N} : (ddel L n).length ≤ L.length := List.length_filter_le _ _
end
structure LS (N : Type) where
 slack : Int
 there : List (N × En N)
 stamp : Nat
 row : List (En N)
 looks : Nat
section
variable {N : Type} [DecidableEq N] [Inhabited N] (sl : N → N → Bool)
def holds (T : List (N × En N)) (e : En N) : Bool := decide (dget T e.n = some e)
def enter (s : LS N) (n : N) (w : Int) : LS N :=
 { s with there := dput s.there n ⟨w, n, (s.stamp : Int)⟩, stamp := s.stamp + 1, row := (up (ltE sl) s.row.length (s.row ++ [⟨w, n, (s.stamp : Int)⟩]) s.row.length 0).1, looks := s.looks + (up (ltE sl) s.row.length (s.row ++ [⟨w, n, (s.stamp : Int)⟩]) s.row.length 0).2 }
def cut (s : LS N) : LS N := { s with row := (cutf (ltE sl) s.row).1, looks := s.looks + (cutf (ltE sl) s.row).2 }
def clean : Nat → LS N → LS N
 | 0, s => s
 | f + 1, s => if holds s.there (g s.row 0) then s else clean f (cut sl s)
def due (s : LS N) : Bool := decide ((s.row.length : Int) - s.there.length > s.there.length) && decide ((s.row.length : Int) - s.there.length > s.slack)
def swept (s : LS N) : LS N := { s with row := (mk (ltE sl) ((s.row.filter (holds s.there)).length / 2) (s.row.filter (holds s.there)) 0).1, looks := s.looks + (mk (ltE sl) ((s.row.filter (holds s.there)).length / 2) (s.row.filter (holds s.there)) 0).2 }
def sweep (s : LS N) : LS N := if due s = true then swept sl s else s
def putL (s : LS N) (n : N) (w : Int) : LS N := sweep sl (enter sl s n w)
def dropT (s : LS N) (n : N) : LS N := { s with there := ddel s.there n }
def leastL (s : LS N) : LS N := clean sl s.row.length s
def takeL (s : LS N) : LS N := sweep sl (dropT (cut sl (leastL sl s)) (g (leastL sl s).row 0).n)
def newL (slack : Int) : LS N := ⟨slack, [], 0, [], 0⟩
structure LInv (s : LS N) : Prop where
 nd : (s.there.map (·.1)).Nodup
 inr : ∀ n e, (n, e) ∈ s.there → e.n = n ∧ e ∈ s.row
 st : (s.row.map (·.s)).Nodup
 lts : ∀ e ∈ s.row, e.s < (s.stamp : Int)
 hp : IsH (ltE sl) s.row
 len : s.row.length ≤ s.stamp
 tl : s.there.length ≤ s.stamp
variable {sl}
theorem new_inv {z : Int} : LInv sl (newL (N := N) z) := ⟨List.nodup_nil, (fun _ _ h => nomatch h), List.nodup_nil, (fun _ h => nomatch h), (fun _ _ h => absurd h (Nat.not_lt_zero _)), Nat.le_refl _, Nat.le_refl _⟩
theorem LInv.held {s : LS N} (I : LInv sl s) {n : N} {e : En N} (h : (n, e) ∈ s.there) : holds s.there e = true := by
 unfold holds
 rw [decide_eq_true_eq, (I.inr n e h).1]
 exact dget_of I.nd h
theorem holds_in {T : List (N × En N)} {e : En N} (h : holds T e = true) : (e.n, e) ∈ T := dget_some (of_decide_eq_true h)
theorem g_app {α : Type} [Inhabited α] {xs : List α} {e : α} {k : Nat} (h : k < xs.length) : g (xs ++ [e]) k = g xs k := by
 simp only [g, List.getD_eq_getElem?_getD, List.getElem?_append_left h]
theorem put_heap {α : Type} [Inhabited α] {lt : α → α → Bool} (o : Od lt) {xs : List α} (h : IsH lt xs) {e : α} : IsH lt (up lt xs.length (xs ++ [e]) xs.length 0).1 := by
 have l1 : (xs ++ [e]).length = xs.length + 1 := by rw [List.length_append]; rfl
 refine up_heap o (Nat.le_refl _) (by lia) (fun k k0 k1 k2 => ?_) (fun k k0 k1 k2 k3 => by lia)
 rw [g_app (by lia), g_app (by lia)]
 exact h k k0 (by lia)
theorem enter_row_perm {s : LS N} {n : N} {w : Int} : (enter sl s n w).row.Perm (s.row ++ [⟨w, n, (s.stamp : Int)⟩]) := up_perm (by rw [List.length_append]; exact Nat.lt_succ_self _)
theorem enter_inv (o : Slo sl) {s : LS N} (I : LInv sl s) {n : N} {w : Int} : LInv sl (enter sl s n w) where
 nd := dput_nd I.nd
 inr := fun m e h => by
  have p := enter_row_perm (sl := sl) (s := s) (n := n) (w := w)
  rcases dput_mem h with ⟨rfl, rfl⟩ | ⟨_, h⟩
  ·exact ⟨rfl, p.mem_iff.mpr (List.mem_append.mpr (.inr (List.mem_singleton.mpr rfl)))⟩
  ·obtain ⟨h1, h2⟩ := I.inr m e h
   exact ⟨h1, p.mem_iff.mpr (List.mem_append.mpr (.inl h2))⟩
 st := by
  have p := (enter_row_perm (sl := sl) (s := s) (n := n) (w := w)).map (·.s)
  refine p.nodup_iff.mpr ?_
  rw [List.map_append, List.nodup_append]
  refine ⟨I.st, List.nodup_cons.mpr ⟨List.not_mem_nil, List.nodup_nil⟩, ?_⟩
  intro a ha c hc
  obtain ⟨e, he, rfl⟩ := List.mem_map.mp ha
  rw [List.map_cons, List.map_nil, List.mem_singleton] at hc
  have := I.lts e he
  subst hc
  exact Int.ne_of_lt this
 lts := fun e h => by
  have p := enter_row_perm (sl := sl) (s := s) (n := n) (w := w)
  rcases List.mem_append.mp (p.mem_iff.mp h) with h | h
  ·have := I.lts e h
   show e.s < ((s.stamp + 1 : Nat) : Int)
   lia
  ·rw [List.mem_singleton] at h
   subst h
   show (s.stamp : Int) < ((s.stamp + 1 : Nat) : Int)
   lia
 hp := put_heap (od_ltE o) I.hp
 len := by
  have := (enter_row_perm (sl := sl) (s := s) (n := n) (w := w)).length_eq
  rw [List.length_append] at this
  have l := I.len
  show _ ≤ s.stamp + 1
  rw [this]
  exact Nat.succ_le_succ l
 tl := Nat.le_trans dput_len (Nat.succ_le_succ I.tl)
theorem LInv.root {s : LS N} (I : LInv sl s) (o : Slo sl) {e : En N} (h : e ∈ s.row) : ltE sl e (g s.row 0) = false := root_mem (od_ltE o) I.hp h
theorem cut_inv (o : Slo sl) {s : LS N} (I : LInv sl s) (h0 : 0 < s.row.length) (hh : ¬ holds s.there (g s.row 0) = true) : LInv sl (cut sl s) := by
 have p := cutf_perm (lt := ltE sl) h0
 have sub : ∀ e ∈ (cutf (ltE sl) s.row).1, e ∈ s.row := fun e he => p.mem_iff.mp (List.mem_cons_of_mem _ he)
 refine ⟨I.nd, fun n e h => ?_, ?_, fun e he => I.lts e (sub e he), cutf_heap (od_ltE o) I.hp h0, ?_, I.tl⟩
 ·obtain ⟨h1, h2⟩ := I.inr n e h
  refine ⟨h1, ?_⟩
  rcases List.mem_cons.mp (p.mem_iff.mpr h2) with z | z
  ·exact absurd (z ▸ I.held h) hh
  ·exact z
 ·have := (p.map (·.s)).nodup_iff.mpr I.st
  rw [List.map_cons, List.nodup_cons] at this
  exact this.2
 ·show (cutf (ltE sl) s.row).1.length ≤ s.stamp
  rw [cutf_len]
  have := I.len
  lia
theorem cut_take_inv (o : Slo sl) {s : LS N} (I : LInv sl s) (h0 : 0 < s.row.length) : LInv sl (dropT (cut sl s) (g s.row 0).n) := by
 have p := cutf_perm (lt := ltE sl) h0
 have sub : ∀ e ∈ (cutf (ltE sl) s.row).1, e ∈ s.row := fun e he => p.mem_iff.mp (List.mem_cons_of_mem _ he)
 refine ⟨ddel_nd I.nd, fun n e h => ?_, ?_, fun e he => I.lts e (sub e he), cutf_heap (od_ltE o) I.hp h0, ?_, Nat.le_trans ddel_len I.tl⟩
 ·obtain ⟨hn, h⟩ := ddel_mem.mp h
  obtain ⟨h1, h2⟩ := I.inr n e h
  refine ⟨h1, ?_⟩
  rcases List.mem_cons.mp (p.mem_iff.mpr h2) with z | z
  ·exact absurd (h1.symm.trans (congrArg (·.n) z)) hn
  ·exact z
 ·have := (p.map (·.s)).nodup_iff.mpr I.st
  rw [List.map_cons, List.nodup_cons] at this
  exact this.2
 ·show (cutf (ltE sl) s.row).1.length ≤ s.stamp
  rw [cutf_len]
  have := I.len
  lia
theorem swept_perm {s : LS N} : (swept sl s).row.Perm (s.row.filter (holds s.there)) := mk_perm
theorem swept_inv (o : Slo sl) {s : LS N} (I : LInv sl s) : LInv sl (swept sl s) := by
 have p := swept_perm (sl := sl) (s := s)
 have sub : ∀ e ∈ (swept sl s).row, e ∈ s.row := fun e he => (List.mem_filter.mp (p.mem_iff.mp he)).1
 refine ⟨I.nd, fun n e h => ?_, ?_, fun e he => I.lts e (sub e he), mk_heap (od_ltE o) hf_half, ?_, I.tl⟩
 ·obtain ⟨h1, h2⟩ := I.inr n e h
  exact ⟨h1, p.mem_iff.mpr (List.mem_filter.mpr ⟨h2, I.held h⟩)⟩
 ·refine (p.map (·.s)).nodup_iff.mpr ?_
  exact (List.Sublist.map _ List.filter_sublist).nodup I.st
 ·rw [p.length_eq]
  exact Nat.le_trans (List.length_filter_le _ _) I.len
theorem sweep_inv (o : Slo sl) {s : LS N} (I : LInv sl s) : LInv sl (sweep sl s) := by
 unfold sweep
 split
 ·exact swept_inv o I
 ·exact I
theorem sweep_there {s : LS N} : (sweep sl s).there = s.there := by unfold sweep; split <;> rfl
theorem sweep_stamp {s : LS N} : (sweep sl s).stamp = s.stamp := by unfold sweep; split <;> rfl
structure Cleaned (s s' : LS N) : Prop where
 inv : LInv sl s'
 there : s'.there = s.there
 stamp : s'.stamp = s.stamp
 slack : s'.slack = s.slack
 pos : 0 < s'.row.length
 hold : holds s'.there (g s'.row 0) = true
theorem row_pos {s : LS N} (I : LInv sl s) (h : s.there ≠ []) : 0 < s.row.length := by
 cases e : s.there with
 | nil => exact absurd e h
 | cons p r => exact List.length_pos_of_mem (I.inr p.1 p.2 (by rw [e]; exact List.mem_cons_self)).2
theorem clean_ok (o : Slo sl) : ∀ {f : Nat} {s : LS N}, LInv sl s → s.there ≠ [] → s.row.length ≤ f → Cleaned (sl := sl) s (clean sl f s)
 | 0, s, I, h, hf => absurd (row_pos I h) (by lia)
 | f + 1, s, I, h, hf => by
  unfold clean
  have h0 := row_pos I h
  split
  ·rename_i hh
   exact ⟨I, rfl, rfl, rfl, h0, hh⟩
  ·rename_i hh
   have c := clean_ok o (f := f) (cut_inv o I h0 hh) h (by show (cutf (ltE sl) s.row).1.length ≤ f; rw [cutf_len]; lia)
   exact ⟨c.inv, c.there, c.stamp, c.slack, c.pos, c.hold⟩
theorem least_ok (o : Slo sl) {s : LS N} (I : LInv sl s) (h : s.there ≠ []) : Cleaned (sl := sl) s (leastL sl s) := clean_ok o I h (Nat.le_refl _)
theorem clean_len : ∀ {f : Nat} {s : LS N}, (clean sl f s).row.length ≤ s.row.length
 | 0, s => Nat.le_refl _
 | f + 1, s => by
  unfold clean
  split
  ·exact Nat.le_refl _
  ·refine Nat.le_trans clean_len ?_
   show (cutf (ltE sl) s.row).1.length ≤ _
   rw [cutf_len]
   lia
theorem least_len {s : LS N} : (leastL sl s).row.length ≤ s.row.length := clean_len
theorem put_inv (o : Slo sl) {s : LS N} (I : LInv sl s) {n : N} {w : Int} : LInv sl (putL sl s n w) := sweep_inv o (enter_inv o I)
theorem take_inv (o : Slo sl) {s : LS N} (I : LInv sl s) (h : s.there ≠ []) : LInv sl (takeL sl s) := sweep_inv o (cut_take_inv o (least_ok o I h).inv (least_ok o I h).pos)
structure Least (T : List (N × En N)) (e : En N) : Prop where
 mem : (e.n, e) ∈ T
 le : ∀ n e', (n, e') ∈ T → ltE sl e' e = false
theorem least_is (o : Slo sl) {s : LS N} (I : LInv sl s) (h : s.there ≠ []) : Least (sl := sl) s.there (g (leastL sl s).row 0) := by
 have c := least_ok o I h
 refine ⟨by have := holds_in c.hold; rw [c.there] at this; exact this, fun n e' h' => ?_⟩
 exact c.inv.root o (c.inv.inr n e' (by rw [c.there]; exact h')).2
theorem take_there {s : LS N} : (takeL sl s).there = ddel (leastL sl s).there (g (leastL sl s).row 0).n := sweep_there
end
end Gm
end
section
set_option linter.all false
set_option maxRecDepth 100000
set_option maxHeartbeats 1000000
namespace L2
open PySem
instance : Inhabited Str := ⟨""⟩
abbrev En := Gm.En Str
abbrev LS := Gm.LS Str
def enV (e : En) : List V := [.int e.w, .str e.n, .int e.s]
theorem enV_en (e : En) : isEn (enV e) := ⟨_, _, _, rfl⟩
def enOf : List V → En
 | [.int w, .str n, .int s] => ⟨w, n, s⟩
 | _ => ⟨0, "", 0⟩
theorem enOf_V (e : En) : enOf (enV e) = e := rfl
theorem enV_of {l : List V} (h : isEn l) : enV (enOf l) = l := by
 obtain ⟨i, n, j, rfl⟩ := h
 rfl
theorem enV_inj {a b : En} (h : enV a = enV b) : a = b := by
 have := congrArg enOf h
 exact this
abbrev lE : En → En → Bool := Gm.ltE slt
theorem slt_slo : Gm.Slo slt where
 irr := fun a => decide_eq_false (List.lt_irrefl _)
 tr := fun a b c h1 h2 => decide_eq_true (List.lt_trans (of_decide_eq_true h1) (of_decide_eq_true h2))
 tot := fun a b h => by
  by_cases h1 : a.cps.toList < b.cps.toList
  ·exact .inl (decide_eq_true h1)
  ·by_cases h2 : b.cps.toList < a.cps.toList
   ·exact .inr (decide_eq_true h2)
   ·exact absurd (str_ext (List.le_antisymm (List.not_lt.mp h2) (List.not_lt.mp h1))) h
theorem lex_enV (a b : En) : lexV (enV a) (enV b) = lE a b := by
 unfold enV
 rw [lexV_cons, lexV_cons, lexV_cons]
 show _ = Gm.ltE slt a b
 unfold Gm.ltE
 by_cases h : a.w = b.w
 ·rw [if_pos (by rw [h]), if_pos h]
  by_cases h2 : a.n = b.n
  ·rw [if_pos (by rw [h2]), if_pos h2]
   by_cases h3 : a.s = b.s
   ·rw [if_pos (by rw [h3])]
    show false = _
    rw [h3]
    exact (decide_eq_false (Int.lt_irrefl _)).symm
   ·rw [if_neg (fun z => h3 (V.int.inj z))]
    rfl
  ·rw [if_neg (fun z => h2 (V.str.inj z)), if_neg h2]
   rfl
 ·rw [if_neg (fun z => h (V.int.inj z)), if_neg h]
  rfl
def tE (H : Hp) (x : V) : En := enOf (keyE H x)
theorem tE_non (H : Hp) : tE H .non = default := rfl
theorem ltT_tE (H : Hp) (x y : V) : ltT (keyE H) x y = lE (tE H x) (tE H y) := by
 rw [← lex_enV]
 unfold tE ltT
 rw [enV_of (keyE_en H x), enV_of (keyE_en H y)]
theorem tE_at {H : Hp} {a : Addr} {e : En} (h : H a = some (.tup (enV e))) : tE H (.ref a) = e := by
 unfold tE
 rw [keyE_at h (enV_en e), enOf_V]
structure RR (H : Hp) (xs : List V) (es : List En) : Prop where
 mem : ∀ x ∈ xs, ∃ a, x = .ref a ∧ H a = some (.tup (enV (tE H x)))
 eq : xs.map (tE H) = es
section
variable {H H' : Hp} {xs ys : List V} {es fs : List En}
theorem RR.en (r : RR H xs es) : EnR (keyE H) H xs := ⟨keyE_en H, fun x hx => by
 obtain ⟨a, rfl, h⟩ := r.mem x hx
 exact ⟨a, rfl, by rw [← enV_of (keyE_en H (.ref a))]; exact h⟩⟩
theorem RR.len (r : RR H xs es) : xs.length = es.length := by rw [← r.eq, List.length_map]
theorem RR.stay (r : RR H xs es) (k : ∀ b l, H b = some (.tup l) → H' b = some (.tup l)) : RR H' xs es := by
 have e : ∀ x ∈ xs, tE H' x = tE H x := fun x hx => by
  obtain ⟨a, rfl, h⟩ := r.mem x hx
  exact tE_at (k _ _ h)
 refine ⟨fun x hx => ?_, ?_⟩
 ·obtain ⟨a, rfl, h⟩ := r.mem x hx
  exact ⟨a, rfl, by rw [e _ hx]; exact k _ _ h⟩
 ·rw [← r.eq]; exact List.map_congr_left e
theorem RR.nil : RR H [] [] := ⟨(fun _ h => nomatch h), rfl⟩
theorem RR.sub (r : RR H xs es) (s : ∀ y ∈ ys, y ∈ xs) : RR H ys (ys.map (tE H)) := ⟨fun x hx => r.mem x (s x hx), rfl⟩
theorem RR.snoc (r : RR H xs es) {a : Addr} {e : En} (h : H a = some (.tup (enV e))) : RR H (xs ++ [.ref a]) (es ++ [e]) := by
 refine ⟨fun x hx => ?_, ?_⟩
 ·rcases List.mem_append.mp hx with z | z
  ·exact r.mem x z
  ·rw [List.mem_singleton.mp z]
   exact ⟨a, rfl, by rw [tE_at h]; exact h⟩
 ·rw [List.map_append, r.eq]
  show es ++ [tE H (.ref a)] = _
  rw [tE_at h]
theorem RR.at (r : RR H xs es) {i : Nat} (hi : i < es.length) : ∃ a, Hm.g xs i = .ref a ∧ H a = some (.tup (enV (Hg.g es i))) ∧ atI xs (i : Int) = some (.ref a) := by
 have hx : i < xs.length := by rw [r.len]; exact hi
 have m : Hm.g xs i ∈ xs := by rw [Hm.g_get hx]; exact List.getElem_mem hx
 obtain ⟨a, ea, h⟩ := r.mem _ m
 have eg : Hg.g es i = tE H (Hm.g xs i) := by
  rw [Hg.g_get hi, Hm.g_get hx]
  have := r.eq
  subst this
  rw [List.getElem_map]
 refine ⟨a, ea, by rw [eg]; exact h, ?_⟩
 rw [← ea]; exact at_g hx
end
section
variable {H : Hp} {xs : List V}
theorem g_map (i : Nat) : Hg.g (xs.map (tE H)) i = tE H (Hm.g xs i) := by
 unfold Hg.g Hm.g
 rw [List.getD_eq_getElem?_getD, List.getD_eq_getElem?_getD, List.getElem?_map]
 cases xs[i]? with
 | none => exact (tE_non H).symm
 | some x => rfl
theorem sw_map (i j : Nat) : Hg.sw (xs.map (tE H)) i j = (Hm.sw xs i j).map (tE H) := by
 unfold Hg.sw Hm.sw
 rw [g_map, g_map, List.map_set, List.map_set]
theorem les_map (p : Nat) : Hg.les lE (xs.map (tE H)) p = Hm.les (ltT (keyE H)) xs p := by
 unfold Hg.les Hm.les
 rw [g_map, g_map, List.length_map, ltT_tE]
theorem dn_map : ∀ {f : Nat} {xs : List V} {p lk : Nat}, Hg.dn lE f (xs.map (tE H)) p lk = ((Hm.dn (ltT (keyE H)) f xs p lk).1.map (tE H), (Hm.dn (ltT (keyE H)) f xs p lk).2)
 | 0, xs, p, lk => rfl
 | f + 1, xs, p, lk => by
  unfold Hg.dn Hm.dn
  rw [les_map, List.length_map, g_map, g_map, ltT_tE, sw_map]
  have kd : Hg.kids xs.length p = Hm.kids xs.length p := rfl
  rw [kd]
  split
  ·split
   ·exact dn_map
   ·rfl
  ·rfl
theorem up_map : ∀ {f : Nat} {xs : List V} {p lk : Nat}, Hg.up lE f (xs.map (tE H)) p lk = ((Hm.up (ltT (keyE H)) f xs p lk).1.map (tE H), (Hm.up (ltT (keyE H)) f xs p lk).2)
 | 0, xs, p, lk => rfl
 | f + 1, xs, p, lk => by
  unfold Hg.up Hm.up
  rw [g_map, g_map, ltT_tE, sw_map]
  split
  ·split
   ·exact up_map
   ·rfl
  ·rfl
theorem mk_map : ∀ {k : Nat} {xs : List V} {lk : Nat}, Hg.mk lE k (xs.map (tE H)) lk = ((Hm.mk (ltT (keyE H)) k xs lk).1.map (tE H), (Hm.mk (ltT (keyE H)) k xs lk).2)
 | 0, xs, lk => rfl
 | k + 1, xs, lk => by
  unfold Hg.mk Hm.mk
  rw [List.length_map, dn_map]
  exact mk_map
theorem cut_map {xs : List V} : Hg.cutf lE (xs.map (tE H)) = ((Hm.cutf (ltT (keyE H)) xs).1.map (tE H), (Hm.cutf (ltT (keyE H)) xs).2) := by
 unfold Hg.cutf Hm.cutf
 rw [g_map, List.length_map, ← List.map_dropLast, ← List.map_set, List.length_map, dn_map]
 by_cases h : xs.dropLast = []
 ·rw [if_pos h, if_pos (by rw [h]; rfl)]
  rfl
 ·rw [if_neg h, if_neg (fun z => h (List.map_eq_nil_iff.mp z))]
end
def Kept (F : List Addr) (H H' : Hp) : Prop := ∀ b o, H b = some o → b ∉ F → H' b = some o
section
variable {F G : List Addr} {H H1 H2 : Hp}
theorem Kept.refl : Kept F H H := fun _ _ h _ => h
theorem Kept.trans (a : Kept F H H1) (b : Kept F H1 H2) : Kept F H H2 := fun x o h n => b x o (a x o h n) n
theorem Kept.mono (a : Kept F H H1) (s : ∀ b ∈ F, b ∈ G) : Kept G H H1 := fun x o h n => a x o h fun z => n (s x z)
theorem Kept.of_same (s : Same H H1) : Kept F H H1 := fun b o h _ => s b o h
theorem Kept.new {p : Addr} {o : HO} (k : Kept F H H1) (h : H1 p = none) : Kept F H (upd H1 p o) := fun b u e n => by
 have := k b u e n
 rw [upd_ne (ne_of_none this h)]; exact this
theorem Kept.put {p : Addr} {o : HO} (k : Kept F H H1) (h : p ∈ F) : Kept F H (upd H1 p o) := fun b u e n => by
 rw [upd_ne (fun z => by subst z; exact n h)]; exact k b u e n
theorem Kept.none (k : Kept F H H1) {b : Addr} (h : H1 b = none) (hb : b ∉ F) : H b = none := by
 cases q : H b with
 | none => rfl
 | some o => have := k b o q hb; rw [h] at this; cases this
theorem Kept.tups (k : Kept F H H1) (hF : ∀ b ∈ F, ∀ xs, H b ≠ some (.tup xs)) : ∀ b l, H b = some (.tup l) → H1 b = some (.tup l) := fun b l h => k b _ h fun z => hF b z l h
end
def KR (H : Hp) (ks : List (Key × V)) (T : List (Str × En)) : Prop := Paired (fun (kv : Key × V) (ne : Str × En) => kv.1 = Sum.inr ne.1 ∧ ∃ a, kv.2 = .ref a ∧ H a = some (.tup (enV ne.2))) ks T
section
variable {H H' : Hp} {ks : List (Key × V)} {T : List (Str × En)}
theorem KR.nil : KR H [] [] := Paired.nil
theorem KR.len (r : KR H ks T) : ks.length = T.length := Paired.length r
theorem KR.stay (r : KR H ks T) (k : ∀ b l, H b = some (.tup l) → H' b = some (.tup l)) : KR H' ks T := Paired.mapP r fun p q ⟨a, b, c, d⟩ => ⟨a, b, c, k _ _ d⟩
theorem inr_ne {a b : Str} (h : ¬ a = b) : ¬ (Sum.inr a : Key) = Sum.inr b := fun z => h (Sum.inr.inj z)
theorem KR.get (r : KR H ks T) (n : Str) : (valV ks (Sum.inr n) = none ∧ Gm.dget T n = none) ∨ ∃ a e, valV ks (Sum.inr n) = some (.ref a) ∧ Gm.dget T n = some e ∧ H a = some (.tup (enV e)) := by
 induction r with
 | nil => exact .inl ⟨rfl, rfl⟩
 | @cons p q l l' h _ ih =>
  obtain ⟨h1, a, h2, h3⟩ := h
  by_cases e : q.1 = n
  ·refine .inr ⟨a, q.2, ?_, ?_, h3⟩
   ·rw [valV_pos (by rw [h1, e]), h2]
   ·unfold Gm.dget
    rw [List.find?_cons, decide_eq_true e]
    rfl
  ·have e1 : valV (p :: l) (Sum.inr n) = valV l (Sum.inr n) := valV_neg (by rw [h1]; exact inr_ne e)
   have e2 : Gm.dget (q :: l') n = Gm.dget l' n := by unfold Gm.dget; rw [List.find?_cons, decide_eq_false e]
   rw [e1, e2]
   exact ih
theorem KR.put (r : KR H ks T) {n : Str} {a : Addr} {e : En} (h : H a = some (.tup (enV e))) : KR H (putK ks (Sum.inr n) (.ref a)) (Gm.dput T n e) := by
 have ha : (ks.any fun kv => decide (kv.1 = Sum.inr n)) = T.any fun p => decide (p.1 = n) := by
  induction r with
  | nil => rfl
  | @cons p q l l' hh _ ih =>
   rw [List.any_cons, List.any_cons, ih, hh.1]
   congr 1
   by_cases z : q.1 = n
   ·rw [decide_eq_true z, decide_eq_true (by rw [z])]
   ·rw [decide_eq_false z, decide_eq_false (inr_ne z)]
 have hm : KR H (ks.map fun kv => if kv.1 = Sum.inr n then (kv.1, V.ref a) else kv) (T.map fun p => if p.1 = n then (p.1, e) else p) := by
  clear ha
  induction r with
  | nil => exact .nil
  | @cons p q l l' hh _ ih =>
   rw [List.map_cons, List.map_cons]
   refine .cons ?_ ih
   obtain ⟨h1, b, h2, h3⟩ := hh
   by_cases z : q.1 = n
   ·rw [if_pos z, if_pos (by rw [h1, z])]
    exact ⟨h1, a, rfl, h⟩
   ·rw [if_neg z, if_neg (by rw [h1]; exact inr_ne z)]
    exact ⟨h1, b, h2, h3⟩
 have hs : KR H (ks ++ [(Sum.inr n, V.ref a)]) (T ++ [(n, e)]) := by
  clear ha hm
  induction r with
  | nil => exact .cons ⟨rfl, a, rfl, h⟩ .nil
  | cons hh _ ih => exact .cons hh ih
 unfold putK Gm.dput
 rw [ha]
 split
 ·exact hm
 ·exact hs
theorem KR.drop (r : KR H ks T) (n : Str) : KR H (dropK ks (Sum.inr n)) (Gm.ddel T n) := by
 unfold Gm.ddel dropK
 induction r with
 | nil => exact .nil
 | @cons p q l l' hh _ ih =>
  rw [List.filter_cons, List.filter_cons]
  by_cases z : q.1 = n
  ·rw [if_neg (by rw [hh.1, z]; simp), if_neg (by simp [z])]
   exact ih
  ·rw [if_pos (by rw [hh.1]; exact decide_eq_true (inr_ne z)), if_pos (by simp [z])]
   exact .cons hh ih
end
end L2
end
section
set_option linter.all false
set_option maxRecDepth 100000
set_option maxHeartbeats 1000000
namespace L2
open PySem
inductive Deed where
  | put (n : Str) (w : Int) | drop (n : Str) | change (n : Str) (w : Int) | take | least
def Deed.v : Deed → List V
  | .put n w => [.str "put", .str n, .int w]
  | .drop n => [.str "drop", .str n]
  | .change n w => [.str "change", .str n, .int w]
  | .take => [.str "take"]
  | .least => [.str "least"]
def Deed.ok : Deed → Prop
  | .put n _ => n.length ≤ 10
  | .drop n => n.length ≤ 10
  | .change n _ => n.length ≤ 10
  | _ => True
def hd (s : LS) : En := Hg.g (Gm.leastL slt s).row 0
abbrev Tb := List (Str × Int)
def thW (T : List (Str × En)) : Tb := T.map fun p => (p.1, p.2.w)
theorem thW_get {T : List (Str × En)} {n : Str} : Gm.dget (thW T) n = (Gm.dget T n).map (·.w) := Gm.dget_map
theorem thW_put {T : List (Str × En)} {n : Str} {e : En} : thW (Gm.dput T n e) = Gm.dput (thW T) n e.w := Gm.dput_map
theorem thW_del {T : List (Str × En)} {n : Str} : thW (Gm.ddel T n) = Gm.ddel (thW T) n := Gm.ddel_map
structure LeastP (t : Tb) (w : Int) (n : Str) : Prop where
  mem : (n, w) ∈ t
  le : ∀ m v, (m, v) ∈ t → ltP (v, m) (w, n) = false
theorem ltP_iff {a b : Int × Str} : ltP a b = true ↔ a.1 < b.1 ∨ (a.1 = b.1 ∧ slt a.2 b.2 = true) := by
  unfold ltP prV
  rw [lexV_cons, lexV_cons]
  by_cases h : a.1 = b.1
  · rw [if_pos (by rw [h])]
    by_cases h2 : a.2 = b.2
    · rw [if_pos (by rw [h2])]
      constructor
      · intro z; cases z
      · rintro (z | ⟨_, z⟩)
        · lia
        · rw [h2, slt_slo.irr] at z; cases z
    · rw [if_neg (fun z => h2 (V.str.inj z))]
      constructor
      · intro z; exact .inr ⟨h, z⟩
      · rintro (z | ⟨_, z⟩)
        · lia
        · exact z
  · rw [if_neg (fun z => h (V.int.inj z))]
    constructor
    · intro z; exact .inl (of_decide_eq_true z)
    · rintro (z | ⟨z, _⟩)
      · exact decide_eq_true z
      · exact absurd z h
theorem least_plain {s : LS} (I : Gm.LInv slt s) (h : s.there ≠ []) : LeastP (thW s.there) (hd s).w (hd s).n := by
  have l := Gm.least_is slt_slo I h
  refine ⟨List.mem_map.mpr ⟨_, l.mem, rfl⟩, fun m v hm => ?_⟩
  obtain ⟨⟨m', e⟩, hp, he⟩ := List.mem_map.mp hm
  cases he
  have q := l.le m' e hp
  cases z : ltP (e.w, m') ((hd s).w, (hd s).n) with
  | false => rfl
  | true =>
    have en := (I.inr m' e hp).1
    rw [ltP_iff] at z
    have : Gm.ltE slt e (hd s) = true := Gm.ltE_iff.mpr (by
      rcases z with z | ⟨z1, z2⟩
      · exact .inl z
      · refine .inr ⟨z1, .inl ⟨fun y => ?_, by rw [en]; exact z2⟩⟩
        dsimp only at z2
        rw [← en, y, slt_slo.irr] at z2; cases z2)
    have q' : Gm.ltE slt e (hd s) = false := q
    rw [q'] at this; cases this
end L2
end
section
set_option linter.all false
set_option maxRecDepth 100000
set_option maxHeartbeats 4000000
namespace L2
open PySem PySem.Spec PyProof.Rows
end L2
namespace L2
open PySem PySem.Spec PyProof.Rows
section
variable {P : Program} {w : World} {K : PySem.W.Frag} {mg : Str → Option Value} {base : Heap}
theorem Fun.okQ {x qual : Str} {st : Stmt} {f : Addr} {fd : FuncData} {N ps : List Str} {k : Nat} {sp : Sp} (F : Fun K x qual st f fd) (S : FnScope N ps (defScope st)) (len : ∀ vs H Q E, sp vs H Q E → vs.length = ps.length)
  (hbody : ∀ (cdv : Value) (A : Around) (outer : List Env) (s : Shared) (H : Hp) (vs : List V) (Q : VK) (E : XK), Room k (A.deeper (envOfC qual (defScope st) s.heap.objs.size f cdv)) → sp vs H Q E →
   ∃ t, QSs (cxOf CX0 P w K mg base N qual (defScope st) f cdv A outer s H E).nox (defBody st) t ∧ t { nx := fun _ H' => Q .non H', rt := Q } (start N vs) H) : FnOk P w K mg base CX0 (k + 1) f fd ps sp :=
 F.ok S len fun cdv A outer s H vs Q E hr h => let ⟨t, a, b⟩ := hbody cdv A outer s H vs Q E hr h; ⟨t, a.to, b⟩
end
def kvW (t : Tb) : List (Key × V) := t.map fun p => (Sum.inr p.1, V.int p.2)
theorem kvW_get {t : Tb} {n : Str} : valV (kvW t) (Sum.inr n) = (Gm.dget t n).map V.int := by
 unfold valV kvW Gm.dget
 rw [List.find?_map, Option.map_map, Option.map_map]
 have : ((fun kv : Key × V => decide (kv.1 = Sum.inr n)) ∘ fun p : Str × Int => (Sum.inr p.1, V.int p.2)) = fun p => decide (p.1 = n) := by
  funext p
  show decide ((Sum.inr p.1 : Key) = Sum.inr n) = _
  by_cases z : p.1 = n
  ·rw [decide_eq_true z, decide_eq_true (by rw [z])]
  ·rw [decide_eq_false z, decide_eq_false (inr_ne z)]
 rw [this]
 rfl
theorem kvW_put {t : Tb} {n : Str} {w : Int} : putK (kvW t) (Sum.inr n) (.int w) = kvW (Gm.dput t n w) := by
 unfold putK Gm.dput kvW
 have ha : (List.any (t.map fun p : Str × Int => ((Sum.inr p.1 : Key), V.int p.2)) fun kv => decide (kv.1 = Sum.inr n)) = t.any fun p => decide (p.1 = n) := by
  rw [List.any_map]
  congr 1
  funext p
  show decide ((Sum.inr p.1 : Key) = Sum.inr n) = _
  by_cases z : p.1 = n
  ·rw [decide_eq_true z, decide_eq_true (by rw [z])]
  ·rw [decide_eq_false z, decide_eq_false (inr_ne z)]
 rw [ha]
 split
 ·rw [List.map_map, List.map_map]
  apply List.map_congr_left
  intro p _
  show (if (Sum.inr p.1 : Key) = Sum.inr n then (Sum.inr p.1, V.int w) else (Sum.inr p.1, V.int p.2)) = (Sum.inr (if p.1 = n then (p.1, w) else p).1, V.int (if p.1 = n then (p.1, w) else p).2)
  by_cases z : p.1 = n
  ·rw [if_pos z, if_pos (by rw [z])]
  ·rw [if_neg z, if_neg (inr_ne z)]
 ·rw [List.map_append]; rfl
theorem kvW_len {t : Tb} : (kvW t).length = t.length := List.length_map ..
end L2
namespace L2
open PySem PySem.Spec PyProof.Rows
end L2
namespace L2
open PySem PySem.Spec PyProof.Rows
end L2
namespace L2
open PySem PySem.Spec PyProof.Rows
end L2
namespace L2
open PySem PySem.Spec PyProof.Rows
section
variable {X : Cx}
def tIfJ (c : TT) (t u : TS) : TS := fun D σ H => ∃ J : St → Hp → Prop, (c σ H fun b H1 => if b = true then t { D with nx := J } σ H1 else u { D with nx := J } σ H1) ∧ ∀ σ' H', J σ' H' → D.nx σ' H'
theorem ps_ifJ {c : Expr} {a b : List Stmt} {tc : TT} {t u : TS} {pos : Pos} (hc : PT X c tc) (ha : PSs X a t) (hb : PSs X b u) : PS X (.If c a b pos) (tIfJ tc t u) := by
 intro pins s σ H D I ⟨J, h, j⟩
 refine thn (ps_if hc ha hb pins s σ H { D with nx := J } I h) fun f s' q => ?_
 cases f with
 | next => obtain ⟨σ', H', I', z⟩ := q; exact ⟨σ', H', I', j _ _ z⟩
 | ret v => exact q
 | brk => exact q
 | cont => exact q
theorem qs_ifJ {c : Expr} {a b : List Stmt} {tc : TT} {t u : TS} {pos : Pos} (hc : QT X c tc) (ha : QSs X a t) (hb : QSs X b u) : QS X (.If c a b pos) (tIfJ tc t u) := .mk (ps_ifJ hc.to ha.to hb.to)
end
end L2
end
section
set_option linter.all false
set_option maxRecDepth 100000
set_option maxHeartbeats 1000000
namespace TS
open PySem PyProof.Rows
section
variable {prog : Program} {w : World} {A : Around} {E : Value → Shared → Prop}
variable {s : Shared}
end
end TS
namespace L2
open PySem PyProof.Rows
section
variable {X : Cx} {pos : Pos}
end
end L2
end
section
set_option linter.all false
set_option maxRecDepth 100000
set_option maxHeartbeats 1000000
namespace L2
open PySem PySem.Spec PyProof.Rows
section
variable {prog : Program} {w : World} {A : Around} {E : Value → Shared → Prop} {s : Shared}
end
end L2
namespace L2
open PySem PySem.W PyProof.Rows
section
variable {X : Cx} {o : Expr} {to : TE} {pos p2 : Pos}
end
end L2
end
section
set_option linter.all false
set_option maxRecDepth 100000
set_option maxHeartbeats 4000000
namespace L2
open PySem PySem.W PySem.Spec PyProof.Rows
theorem pass_no {P : Program} {w : World} {X : Cx} : Passes (CXe P w) X E0 := fun _ _ _ _ _ _ _ h => by
  obtain ⟨_, _, _, _, _, _, _, _, _, _, _, z⟩ := h
  exact z.elim
section
variable {X : Cx}
end
end L2
end
section
set_option linter.all false
set_option maxRecDepth 100000
set_option maxHeartbeats 1000000
namespace TS
open PySem PyProof.Rows PySem.W
section
variable {prog : Program} {w : World} {A : Around} {E : Value → Shared → Prop} {s : Shared}
end
end TS
namespace L2
open PySem PySem.W PySem.Spec PySem.Calls PyProof.Rows
section
variable {X : Cx}
def iSeq (K : PySem.W.Frag) (tl : TE) : TI := fun σ H R => tl σ H fun x H1 => ∃ a, x = .ref a ∧ (((∃ xs, SqL K H1 a xs) ∧ R (Itl K a) H1) ∨ ((∃ xs, SqT K H1 a xs) ∧ R (Itt K a) H1))
theorem pi_seq {tg l : Expr} {tl : TE} (hl : PE X l tl) : PI X tg l (iSeq X.K tl) := by
  intro pins s σ H R I h
  refine thn (hl pins s σ H _ I h) fun v s1 ⟨x, H1, I1, r1, q1⟩ => ?_
  obtain ⟨a, e, q1⟩ := q1
  subst e
  cases r1
  rcases q1 with ⟨⟨xs, hq⟩, q⟩ | ⟨⟨xs, hq⟩, q⟩
  · obtain ⟨its, rv, p, hz⟩ := I1.list hq
    refine wpAny_pyIter_list p.isList ?_
    refine ⟨s1.heap.objs.size, [s1.heap.objs.size], _, _, H1, rfl, I1.kept (t' := s1.toks) fun b o e => Heap.get?_push_of_some _ e, turn_list a _, ⟨_, Heap.get?_push_size _ rfl, rfl, rfl⟩, fun b hb => ?_, q⟩
    have e : b = s1.heap.objs.size := by simpa using hb
    subst e
    exact I1.fpOk (Nat.le_refl _) (I1.hok.fresh (Nat.le_refl _))
  · obtain ⟨its, rv, p, hz⟩ := I1.tuple hq
    refine wpAny_pyIter_tuple (show s1.heap.IsTuple a its.toArray from p) ?_
    refine ⟨s1.heap.objs.size, [s1.heap.objs.size], _, _, H1, rfl, I1.kept (t' := s1.toks) fun b o e => Heap.get?_push_of_some _ e, turn_tuple a _, ⟨_, Heap.get?_push_size _ rfl, rfl, rfl⟩, fun b hb => ?_, q⟩
    have e : b = s1.heap.objs.size := by simpa using hb
    subst e
    exact I1.fpOk (Nat.le_refl _) (I1.hok.fresh (Nat.le_refl _))
theorem qi_seq {tg e : Expr} {te : TE} (h : QE X e te) : QI X tg e (iSeq X.K te) := .mk (pi_seq h.to)
end
theorem comp_tupR {K : PySem.W.Frag} {a : Addr} {xs : List V} {tt : TT} {te : TE} {cap : List Nat} {σ : St} {H : Hp} {D : Addr} {R : Hp → Prop} (Pv : Nat → List V → Hp → Prop) (h0 : Pv 0 [] (upd H D (.lst []))) (hD : ∀ i ys H, Pv i ys H → H D = some (.lst ys) ∧ SqT K H a xs)
    (hs : ∀ i x ys H, xs[i]? = some x → Pv i ys H → tt (some x :: capσ cap σ) H fun b H3 =>
      if b = true then te (some x :: capσ cap σ) H3 fun v H4 => H4 D = some (.lst ys) ∧ ys.length < sizeLine ∧ ∃ m', m' < xs.length - i ∧ m' = xs.length - (i + 1) ∧ i + 1 ≤ xs.length ∧ Pv (i + 1) (ys ++ [v]) (upd H4 D (.lst (ys ++ [v])))
      else ∃ m', m' < xs.length - i ∧ m' = xs.length - (i + 1) ∧ i + 1 ≤ xs.length ∧ Pv (i + 1) ys H3)
    (hd : ∀ ys H, Pv xs.length ys H → R H) :
    ∃ W : Nat → Nat → List V → Hp → Prop, (∃ m, W 0 m [] (upd H D (.lst []))) ∧ ∀ i m ys H, W i m ys H → H D = some (.lst ys) ∧
    (((Itt K a).stop i H ∧ R H) ∨ ((Itt K a).go i H ∧ ∀ x H', (Itt K a).yld i H x H' → tt (some x :: capσ cap σ) H' fun b H3 =>
      if b = true then te (some x :: capσ cap σ) H3 fun v H4 => H4 D = some (.lst ys) ∧ ys.length < sizeLine ∧ ∃ m', m' < m ∧ W (i + 1) m' (ys ++ [v]) (upd H4 D (.lst (ys ++ [v])))
      else ∃ m', m' < m ∧ W (i + 1) m' ys H3)) := by
  refine ⟨fun i m ys H => m = xs.length - i ∧ i ≤ xs.length ∧ Pv i ys H, ⟨xs.length, by simp, Nat.zero_le _, h0⟩, ?_⟩
  rintro i m ys H ⟨rfl, hi, p⟩
  obtain ⟨q1, q⟩ := hD i ys H p
  refine ⟨q1, ?_⟩
  by_cases hlt : i < xs.length
  · refine .inr ⟨⟨xs, xs[i], q, by simp [hlt]⟩, fun x H' y => ?_⟩
    obtain ⟨e, y⟩ := y
    subst e
    exact hs i x ys _ (y xs q) p
  · have e : i = xs.length := by lia
    subst e
    exact .inl ⟨⟨xs, q, Nat.le_refl _⟩, hd ys H p⟩
end L2
namespace L2
open PySem PySem.Spec PyProof.Rows
section
variable {X : Cx} {tg : Expr}
end
end L2
namespace L2
open PySem PySem.Spec PyProof.Rows
section
variable {X : Cx} {K : PySem.W.Frag}
end
end L2
namespace L2
open PySem PySem.Spec PyProof.Rows
end L2
end
section
set_option linter.all false
set_option maxRecDepth 100000
set_option maxHeartbeats 1000000
namespace Gm
open Hg
section
variable {N : Type} [DecidableEq N] [Inhabited N] {sl : N → N → Bool}
end
end Gm
end
section
set_option linter.all false
set_option maxRecDepth 100000
set_option maxHeartbeats 1000000
namespace Gm
open Hg
section
variable {N : Type} [DecidableEq N] [Inhabited N] {sl : N → N → Bool}
end
section
variable {N : Type} [DecidableEq N] {β : Type}
end
end Gm
namespace L2
open PySem
end L2
namespace L2
open PySem
end L2
end
section
set_option linter.all false
set_option maxRecDepth 100000
set_option maxHeartbeats 1000000
namespace L2
open PySem
theorem ltr_at {i : Nat} (h : i < 26) : atI ("abcdefghijklmnopqrstuvwxyz" : Str).cps.toList (i : Int) = some (97 + i) := by
  have : ∀ i : Nat, i < 26 → atI ("abcdefghijklmnopqrstuvwxyz" : Str).cps.toList (i : Int) = some (97 + i) := by decide +kernel
  exact this i h
section
variable {t : Tb} {ns : List Int} {lo hi : Nat}
end
end L2
end
section
set_option linter.all false
set_option maxRecDepth 100000
set_option maxHeartbeats 1000000
namespace L2
open PySem PyProof.Rows
section
variable {X : Cx}
end
end L2
end
section
set_option linter.all false
set_option maxRecDepth 100000
set_option maxHeartbeats 4000000
namespace L2
open PySem PySem.Spec PyProof.Rows
end L2
namespace L2
open PySem
end L2
end
section
set_option linter.all false
set_option maxRecDepth 100000
set_option maxHeartbeats 1000000
namespace L2
open PySem
section
variable {H H' : Hp} {ks : List (Key × V)} {T : List (Str × En)}
end
end L2
namespace L2
open PySem PySem.W PySem.Spec PySem.Calls PyProof.Rows
end L2
namespace Gm
open Hg
section
variable {N : Type} [DecidableEq N] [Inhabited N] {sl : N → N → Bool}
end
end Gm
end
section
set_option linter.all false
set_option maxRecDepth 100000
set_option maxHeartbeats 4000000
namespace PySem
namespace F
end F
section
variable {prog : Program} {w : World} {A : Around} {E : Value → Shared → Prop} {s : Shared}
end
end PySem
namespace PySem
section
variable {prog : Program} {w : World} {K : Type} [DecidableEq K] {knd : KeyKind prog w K} {A : Around} {R : Result → Shared → Prop} {I ax d : Addr} {items : Array Value} {kvs : List (K × Value)}
end
end PySem
namespace PySem
section
variable {prog : Program} {w : World} {K : Type} [DecidableEq K] {knd : KeyKind prog w K} {A : Around} {E : Value → Shared → Prop} {s : Shared}
end
end PySem
namespace L2
open PySem PySem.W PySem.Spec PySem.Calls PyProof.Rows
section
variable {X : Cx} {pins : List (Addr × Obj)} {σ : St} {H : Hp} {s : Shared} {d : Addr}
end
end L2
end
section
set_option linter.all false
set_option maxRecDepth 100000
set_option maxHeartbeats 4000000
namespace L2
open PySem PySem.Spec PyProof.Rows
end L2
namespace L2
open PySem
end L2
end
section
set_option linter.all false
set_option maxRecDepth 100000
set_option maxHeartbeats 4000000
namespace L2
open PySem PySem.W PySem.Spec PySem.Calls PyProof.Rows
open PySem.SeqAt (EqAt RcAt RcNeAt)
section
variable {X : Cx}
end
section
variable {X : Cx} {a b c : Expr} {ta tb tc : TE} {pos : Pos}
theorem qt_chain {op op' : CmpOp} {r r' : R2} (ho : OpR X (compareOp op) r) (ho' : OpR X (compareOp op') r') (ha : QE X a ta) (hb : QE X b tb) (hc : QE X c tc)
    (hm : lastMarks [op, op'] [b, c] = false := by with_unfolding_all rfl) : QT X (.Compare a [op, op'] [b, c] pos) (tTest (tChain r r' ta tb tc)) := .mk (pt_chain ho ho' ha.to hb.to hc.to hm)
end
end L2
end
section
set_option linter.all false
set_option maxRecDepth 100000
set_option maxHeartbeats 1000000
namespace Gm
open Hg
section
variable {N : Type} [DecidableEq N] [Inhabited N] {sl : N → N → Bool}
end
end Gm
namespace L2
open PySem
theorem paired_at {α β : Type} {F : α → β → Prop} {l : List α} {l' : List β} (r : Paired F l l') : ∀ {i : Nat} {a : α}, l[i]? = some a → ∃ b, l'[i]? = some b ∧ F a b := by
  induction r with
  | nil => intro i a h; cases h
  | @cons x y l l' h _ ih =>
    intro i a e
    cases i with
    | zero => cases e; exact ⟨y, rfl, h⟩
    | succ i => exact ih e
end L2
end
section
set_option linter.all false
set_option maxRecDepth 100000
set_option maxHeartbeats 1000000
namespace L2
open PySem
end L2
namespace L2
open PySem PySem.W PySem.Spec PySem.Calls PyProof.Rows
end L2
end
section
set_option linter.all false
set_option maxRecDepth 100000
set_option maxHeartbeats 1000000
namespace L2
open PySem
section
variable {K : PySem.W.Frag} {H H' : Hp} {sc b : Addr} {xs : List V}
end
section
variable {K : PySem.W.Frag} {H H' : Hp} {pl sc b : Addr} {ns : List Int}
end
end L2
end
section
set_option linter.all false
set_option maxRecDepth 100000
set_option maxHeartbeats 1000000
namespace L2
open PySem PySem.W PySem.Spec PySem.Calls PyProof.Rows
section
variable {X : Cx}
end
end L2
end
section
set_option linter.all false
set_option maxRecDepth 100000
set_option maxHeartbeats 1000000
namespace L2
open PySem PyProof.Rows
section
variable {X : Cx}
end
end L2
end
section
set_option linter.all false
set_option maxRecDepth 100000
set_option maxHeartbeats 1000000
namespace L2
open PySem
end L2
end
section
set_option linter.all false
set_option maxRecDepth 100000
set_option maxHeartbeats 1000000
namespace L2
open PySem PySem.W PySem.Spec PySem.Calls PyProof.Rows
section
variable {X : Cx}
end
end L2
end
section
set_option linter.all false
set_option maxRecDepth 100000
set_option maxHeartbeats 1000000
namespace L2
open PySem
theorem tget_put {L : Tb} {n m : Str} {b : Int} (nd : (L.map (·.1)).Nodup) : Gm.dget (Gm.dput L n b) m = if m = n then some b else Gm.dget L m := by
  by_cases h : m = n
  · subst h
    rw [if_pos rfl]
    exact Gm.dget_of (Gm.dput_nd nd) Gm.dput_self
  · rw [if_neg h]
    cases e : Gm.dget L m with
    | none =>
      rw [Gm.dget_none] at e ⊢
      intro z
      obtain ⟨⟨m', c⟩, h1, h2⟩ := List.mem_map.mp z
      cases h2
      rcases Gm.dput_mem h1 with ⟨q, _⟩ | ⟨_, q⟩
      · exact h q
      · exact e (List.mem_map.mpr ⟨_, q, rfl⟩)
    | some c => exact Gm.dget_of (Gm.dput_nd nd) (Gm.dput_in (Gm.dget_some e) h)
end L2
end
section
set_option linter.all false
set_option maxRecDepth 100000
set_option maxHeartbeats 1000000
namespace Wb
open PySem L2
abbrev Row := Str × Str × Int
abbrev Web := List Row
theorem nd_len {α : Type} [DecidableEq α] : ∀ {xs ys : List α}, xs.Nodup → (∀ x ∈ xs, x ∈ ys) → xs.length ≤ ys.length
  | [], _, _, _ => Nat.zero_le _
  | x :: xs, ys, nd, h => by
    obtain ⟨h1, h2⟩ := List.nodup_cons.mp nd
    have m := h x List.mem_cons_self
    have := nd_len (ys := ys.erase x) h2 fun y hy => (List.mem_erase_of_ne (fun z => h1 (by rw [← z]; exact hy))).mpr (h y (List.mem_cons_of_mem _ hy))
    rw [List.length_erase_of_mem m] at this
    have : 0 < ys.length := List.length_pos_of_mem m
    simp only [List.length_cons]
    lia
structure FarInv (web : Web) (first : Str) (far : Tb) : Prop where
  nd : (far.map (·.1)).Nodup
  zero : Gm.dget far first = some 0
  pos : ∀ n v, Gm.dget far n = some v → 0 ≤ v
  ld : ∀ n v, Gm.dget far n = some v → n = first ∨ ∃ s l u, (s, n, l) ∈ web ∧ Gm.dget far s = some u ∧ u + l ≤ v
section
variable {web : Web} {first : Str} {far : Tb}
theorem FarInv.start : FarInv web first [(first, 0)] := by
  have g : ∀ n v, Gm.dget ([(first, 0)] : Tb) n = some v → n = first ∧ v = 0 := fun n v h => by
    have := Gm.dget_some h
    cases List.mem_singleton.mp this
    exact ⟨rfl, rfl⟩
  refine ⟨by simp, Gm.dget_of (by simp) (by simp), fun n v h => ?_, fun n v h => .inl (g n v h).1⟩
  rw [(g n v h).2]; exact Int.le_refl _
theorem FarInv.len (I : FarInv web first far) : far.length ≤ web.length + 1 := by
  have := nd_len (xs := far.map (·.1)) (ys := first :: web.map (·.2.1)) I.nd fun n hn => by
    obtain ⟨⟨m, v⟩, h1, h2⟩ := List.mem_map.mp hn
    cases h2
    rcases I.ld m v (Gm.dget_of I.nd h1) with rfl | ⟨s, l, u, h, _⟩
    · exact List.mem_cons_self
    · exact List.mem_cons_of_mem _ (List.mem_map.mpr ⟨_, h, rfl⟩)
  simpa using this
theorem FarInv.step (I : FarInv web first far) (hw : ∀ r ∈ web, 1 ≤ r.2.2) {s g : Str} {l u : Int} (hm : (s, g, l) ∈ web) (hs : Gm.dget far s = some u) (hg : ∀ v, Gm.dget far g = some v → u + l < v) :
    FarInv web first (Gm.dput far g (u + l)) := by
  have hl : 1 ≤ l := hw _ hm
  have u0 := I.pos _ _ hs
  have gf : first ≠ g := fun z => by
    have := hg 0 (z ▸ I.zero)
    lia
  have sg : s ≠ g := fun z => by
    have := hg u (z ▸ hs)
    lia
  refine ⟨Gm.dput_nd I.nd, by rw [tget_put I.nd, if_neg gf]; exact I.zero, fun n v h => ?_, fun n v h => ?_⟩
  · rw [tget_put I.nd] at h
    split at h
    · cases h; lia
    · exact I.pos n v h
  · rw [tget_put I.nd] at h
    split at h
    · rename_i e
      subst e
      cases h
      exact .inr ⟨s, l, u, hm, by rw [tget_put I.nd, if_neg sg]; exact hs, Int.le_refl _⟩
    · rcases I.ld n v h with e | ⟨s', l', u', h1, h2, h3⟩
      · exact .inl e
      · refine .inr ⟨s', l', if s' = g then u + l else u', h1, ?_, ?_⟩
        · rw [tget_put I.nd]
          split
          · rfl
          · exact h2
        · split
          · rename_i e
            have := hg u' (e ▸ h2)
            lia
          · exact h3
def rl (c : Tb × Bool) (r : Row) : Tb × Bool :=
  match Gm.dget c.1 r.1 with
  | none => c
  | some u => match Gm.dget c.1 r.2.1 with
    | none => (Gm.dput c.1 r.2.1 (u + r.2.2), true)
    | some v => if u + r.2.2 < v then (Gm.dput c.1 r.2.1 (u + r.2.2), true) else c
def Clo (far : Tb) (r : Row) : Prop := ∀ u, Gm.dget far r.1 = some u → ∃ v, Gm.dget far r.2.1 = some v ∧ v ≤ u + r.2.2
structure FarOk (web : Web) (first : Str) (far : Tb) : Prop extends FarInv web first far where
  clo : ∀ r ∈ web, Clo far r
theorem FarOk.tight (F : FarOk web first far) {n : Str} {v : Int} (h : Gm.dget far n = some v) : n = first ∨ ∃ s l u, (s, n, l) ∈ web ∧ Gm.dget far s = some u ∧ u + l = v := by
  rcases F.ld n v h with e | ⟨s, l, u, h1, h2, h3⟩
  · exact .inl e
  · obtain ⟨v', h4, h5⟩ := F.clo _ h1 u h2
    rw [h] at h4
    cases h4
    exact .inr ⟨s, l, u, h1, h2, by simp only at h5; lia⟩
def Exact (L : Tb) (r : Row) : Prop := ∃ u, Gm.dget L r.1 = some u ∧ Gm.dget L r.2.1 = some (u + r.2.2)
def Nearer (L : Tb) (r : Row) : Prop := ∃ u, Gm.dget L r.1 = some u ∧ ∀ v, Gm.dget L r.2.1 = some v → u + r.2.2 < v
inductive Reach (web : Web) (first : Str) (L : Tb) : Str → Prop
  | base : Reach web first L first
  | step {r : Row} : Reach web first L r.1 → r ∈ web → Exact L r → Reach web first L r.2.1
def Led (web : Web) (first : Str) (L : Tb) (xs : List Str) : Prop := xs.Nodup ∧ ∀ n, n ∈ xs ↔ Reach web first L n
def ShownP (web : Web) (first : Str) (L : Tb) : Prop := Gm.dget L first = some 0 ∧ (∀ r ∈ web, ¬ Nearer L r) ∧ ∃ xs, Led web first L xs ∧ xs.length = L.length
theorem Led.len {L : Tb} {xs ys : List Str} (a : Led web first L xs) (b : Led web first L ys) : xs.length = ys.length :=
  Nat.le_antisymm (nd_len a.1 fun x h => (b.2 x).mpr ((a.2 x).mp h)) (nd_len b.1 fun x h => (a.2 x).mpr ((b.2 x).mp h))
theorem shown_iff {L : Tb} {xs : List Str} (h1 : Gm.dget L first = some 0) (h2 : ∀ r ∈ web, ¬ Nearer L r) (h3 : Led web first L xs) : ShownP web first L ↔ xs.length = L.length :=
  ⟨fun ⟨_, _, ys, h, e⟩ => (h3.len h).trans e, fun e => ⟨h1, h2, xs, h3, e⟩⟩
theorem Reach.in {L : Tb} (h0 : Gm.dget L first = some 0) {n : Str} (h : Reach web first L n) : ∃ v, Gm.dget L n = some v := by
  cases h with
  | base => exact ⟨0, h0⟩
  | step _ _ e => obtain ⟨u, _, e2⟩ := e; exact ⟨_, e2⟩
theorem FarOk.reach (F : FarOk web first far) (hw : ∀ r ∈ web, 1 ≤ r.2.2) : ∀ (k : Nat) {n : Str} {v : Int}, v.toNat = k → Gm.dget far n = some v → Reach web first far n := by
  intro k
  induction k using Nat.strongRecOn with
  | _ k ih =>
    intro n v ek h
    rcases F.tight h with rfl | ⟨s, l, u, h1, h2, h3⟩
    · exact .base
    · have hl : 1 ≤ l := hw _ h1
      have u0 := F.pos _ _ h2
      exact .step (r := (s, n, l)) (ih u.toNat (by lia) rfl h2) h1 ⟨u, h2, by rw [h3]; exact h⟩
theorem FarOk.shown (F : FarOk web first far) (hw : ∀ r ∈ web, 1 ≤ r.2.2) : ShownP web first far := by
  refine ⟨F.zero, fun r hr ⟨u, h1, h2⟩ => ?_, far.map (·.1), ⟨F.nd, fun n => ⟨fun h => ?_, fun h => ?_⟩⟩, List.length_map ..⟩
  · obtain ⟨v, h3, h4⟩ := F.clo r hr u h1
    have := h2 v h3
    lia
  · obtain ⟨⟨m, v⟩, h1, h2⟩ := List.mem_map.mp h
    cases h2
    exact F.reach hw _ rfl (Gm.dget_of F.nd h1)
  · obtain ⟨v, h⟩ := h.in F.zero
    exact List.mem_map.mpr ⟨_, Gm.dget_some h, rfl⟩
end
end Wb
end
section
set_option linter.all false
set_option maxRecDepth 100000
set_option maxHeartbeats 4000000
namespace L2
open PySem PySem.W PySem.Spec PySem.Calls PyProof.Rows
section
variable {X : Cx} {pins : List (Addr × Obj)} {σ : St} {H : Hp} {s : Shared} {a : Addr} {kvs : List (Key × V)} {k : Key} {u r : Value} {z : V} {A : Around} {E : Value → Shared → Prop}
theorem d_setd {Q : Value → Shared → Prop} (I : Inv X pins σ H s) (e : H a = some (.dK kvs)) (ry : RelV (kV k) u) (rz : RelV z r) (hl : kvs.length < sizeLine)
    (h1 : ∀ v w' s', valV kvs k = some v → Inv X pins σ H s' → RelV v w' → Q w' s') (h2 : ∀ s', valV kvs k = none → Inv X pins σ (upd H a (.dK (kvs ++ [(k, z)]))) s' → Q r s') :
    wpAny (model X.prog X.w) A (call (.builtin "dict.setdefault") [.ref a, u, r]) Q E s := by
  obtain ⟨hz, hd, vs, rel, dd⟩ := dk_of I.hok e
  refine call_meetsIn PySem.F.slot_dict_setdefault dd.typeIs PySem.F.entry_dict_setdefault (PySem.F.args_dict_setdefault_3 _ _ _) (kt_meets_setdefault (mixKind X.prog X.w) a (kV_is ry) hd r)
    ⟨vs, dd, by rw [← rel.length]; exact hz, fun v hv => ?_, fun hn h' dd' hs => ?_⟩
  · have := rel.val k
    rw [hv] at this
    cases e2 : valV kvs k with
    | none => rw [e2] at this; cases this
    | some v' =>
      rw [e2] at this
      exact h1 v' v _ e2 (I.tok _) this
  · have hn' : valV kvs k = none := by
      have := rel.val k
      rw [hn] at this
      cases e2 : valV kvs k with
      | none => rfl
      | some v' => rw [e2] at this; cases this
    have he : ∃ q, h'.get? a = some q := let ⟨q, _, _, hq, _⟩ := dd'; ⟨q, hq⟩
    refine h2 _ hn' ?_
    rw [← putK_new z hn']
    exact d_write I (by rw [e]; exact True.intro) hs he (dk_new (Nat.le_trans (length_putK kvs k z) hl) hd (rel.put k rz) dd')
end
def tDSetD (td ty tx : TE) : TE := fun σ H Q => td σ H fun x H1 => ∃ a, x = .ref a ∧ IsD H1 a ∧ ty σ H1 fun y H2 => tx σ H2 fun z H3 => ∃ kvs k, H3 a = some (.dK kvs) ∧ y = kV k ∧ kvs.length < sizeLine ∧
  (∀ v, valV kvs k = some v → Q v H3) ∧ (valV kvs k = none → Q z (upd H3 a (.dK (kvs ++ [(k, z)]))))
section
variable {X : Cx} {o e f : Expr} {apos cpos : Pos} {td ty tx : TE}
theorem pe_dsetd (ho : PE X o td) (he : PE X e ty) (hf : PE X f tx) (m : M2 X o "setdefault" apos e f cpos) : PE X (.Call (.Attribute o "setdefault" apos) [e, f] [] cpos) (tDSetD td ty tx) := by
  intro pins s σ H Q I h
  refine wpAny_Call_method m.base m.few m.line PySem.F.plainAttrs_dict PySem.F.slot_dict_setdefault PySem.F.type_dict_setdefault (thn (ho pins s σ H _ I h) fun u s1 ⟨x, H1, I1, rx, a, ex, d, q1⟩ => ?_)
  subst ex
  obtain rfl : u = Value.ref a := rx
  obtain ⟨t1, t2, _⟩ := isD_at I1 d
  refine ⟨t1, t2, ?_⟩
  rw [m.trees]
  refine Calls.callWith_builtin rfl (Calls.evalArgs_plain (Calls.spliced_cons (thn (he pins s1 σ H1 _ I1 q1) fun iv s2 ⟨y, H2, I2, ry, q2⟩ =>
    Calls.spliced_cons (thn (hf pins s2 σ H2 _ I2 q2) fun fv s3 ⟨z, H3, I3, rz, kvs, k, ea, ey, hl, q3, q4⟩ => Calls.spliced_nil ?_))))
  subst ey
  exact d_setd I3 ea ry rz hl (fun v w' s4 l I4 rw' => ⟨v, _, I4, rw', q3 v l⟩) fun s4 l I4 => ⟨z, _, I4, rz, q4 l⟩
theorem qe_dsetd (ho : QE X o td) (he : QE X e ty) (hf : QE X f tx) (m : M2 X o "setdefault" apos e f cpos) : QE X (.Call (.Attribute o "setdefault" apos) [e, f] [] cpos) (tDSetD td ty tx) := .mk (pe_dsetd ho.to he.to hf.to m)
theorem qe_dget2 (hu : X.A.units + 1 < cLine) (ho : QE X o td) (he : QE X e ty) (hf : QE X f tx) (m : M2 X o "get" apos e f cpos) : QE X (.Call (.Attribute o "get" apos) [e, f] [] cpos) (tDGet2 td ty tx) := .mk (pe_dget2 hu ho.to he.to hf.to m)
theorem qe_dnotin {i : Expr} {ti : TE} {pos : Pos} (hu : X.A.units + 1 < cLine) (hi : QE X i ti) (ho : QE X o td) (h1 : behindInMarks .NotIn o = false := by rfl) : QE X (.Compare i [.NotIn] [o] pos) (tDNotIn ti td) := .mk (pe_cmp (pc_dnotin hu hi.to ho.to) h1)
theorem qe_disp1 {pos : Pos} (he : QE X e ty) (hf : QE X f tx) : QE X (.Dict [some e] [f] pos) (tDisp [(ty, tx)]) := .mk (pe_disp (pps_cons he.to hf.to pps_nil) rfl rfl (by simp) (by simp))
end
section
variable {X : Cx}
theorem call_dictC : CallR X (.type "dict") (fun xs H Q => ∃ (d : Addr) (kvs : List (Key × V)), xs = [.ref d] ∧ H d = some (.dK kvs) ∧ ∀ p, H p = none → Q (.ref p) (upd H p (.dK kvs))) := by
  intro pins s σ H xs us Q I r h
  obtain ⟨d, kvs, rfl, hd, q⟩ := h
  obtain ⟨u, rfl, rx⟩ := vals1 r
  cases rx
  exact d_copyOf I (.inl hd) fun p s' hp I' => ⟨.ref p, _, I', rfl, q p hp⟩
theorem call_anyB (hc : X.calm = true) : CallR X (.builtin "any") (fun xs H Q => ∃ (p : Addr) (bs : List Bool), xs = [.ref p] ∧ SqL X.K H p (bs.map V.bl) ∧ Q (.bl (bs.any id)) H) := by
  intro pins s σ H xs us Q I r h
  obtain ⟨p, bs, rfl, hp, q⟩ := h
  obtain ⟨u, rfl, rx⟩ := vals1 r
  cases rx
  obtain ⟨its, rv, pl, hz⟩ := I.list hp
  have hl := pl.isList
  have hlt : p < s.heap.objs.size := by obtain ⟨_, e, _⟩ := hl; exact Heap.lt_size e
  have hb : ∀ (i : Nat) (v : Value), its[i]? = some v → ∃ b, bs[i]? = some b ∧ v = .bool b := fun i v e => by
    have hi := (List.getElem?_eq_some_iff.mp e).1
    obtain ⟨x, ex, rx⟩ := rv.at hi
    rw [(List.getElem?_eq_some_iff.mp e).2] at rx
    rw [List.getElem?_map] at ex
    cases e2 : bs[i]? with
    | none => rw [e2] at ex; cases ex
    | some b => rw [e2] at ex; cases ex; exact ⟨b, rfl, rx⟩
  have ln : its.length = bs.length := by rw [← rv.length, List.length_map]
  refine call_any_walk (wpAny_pyIter_list hl ?_)
  refine ⟨s.heap.objs.size, [s.heap.objs.size, p], [s.heap.objs.size], its.toArray.size, _, _, fun i => (bs[i]?).getD false, rfl, Walks.list (A := X.A.in1) (by simp [I.ok.hd hc]) _ p (Nat.ne_of_lt hlt) its.toArray,
    ⟨⟨_, Heap.get?_push_size _ rfl, rfl, rfl⟩, hl.push _⟩, fun i v s' Q' E' hP hQ => ?_, fun h' tk hk => ?_⟩
  · obtain ⟨b, e, rfl⟩ := hb i v (by simpa using hP)
    simp only [e, Option.getD_some] at hQ
    exact wpAny_truthy_bool hQ
  · have e : ((List.range its.toArray.size).any fun i => (bs[i]?).getD false) = bs.any id := by
      rw [List.size_toArray, ln, Bool.eq_iff_iff, List.any_eq_true, List.any_eq_true]
      constructor
      · rintro ⟨i, hi, h⟩
        cases e2 : bs[i]? with
        | none => rw [e2] at h; cases h
        | some b => rw [e2] at h; exact ⟨b, List.mem_of_getElem? e2, h⟩
      · rintro ⟨b, hb, h⟩
        obtain ⟨i, hi, e2⟩ := List.getElem_of_mem hb
        exact ⟨i, List.mem_range.mpr hi, by rw [List.getElem?_eq_getElem hi, e2]; exact h⟩
    rw [e]
    refine ⟨.bl _, H, I.kept (t' := tk) (fun b o e => ?_), rfl, q⟩
    exact hk b o (fun z => by rw [List.mem_singleton.mp z] at e; exact Nat.lt_irrefl _ (Heap.lt_size e)) (Heap.get?_push_of_some _ e)
end
end L2
end
section
set_option linter.all false
set_option maxRecDepth 100000
set_option maxHeartbeats 4000000
namespace PySem
namespace F
end F
section
variable {prog : Program} {w : World} {A : Around} {E : Value → Shared → Prop} {s : Shared}
end
section
variable {prog : Program} {w : World} {K : Type} [DecidableEq K] {knd : KeyKind prog w K} {A : Around} {R : Result → Shared → Prop} {I ax d : Addr} {items : Array Value} {kvs : List (K × Value)}
end
section
variable {prog : Program} {w : World} {K : Type} [DecidableEq K] {knd : KeyKind prog w K} {A : Around} {E : Value → Shared → Prop} {s : Shared}
end
end PySem
namespace L2
open PySem PySem.W PySem.Spec PySem.Calls PyProof.Rows
section
variable {X : Cx} {pins : List (Addr × Obj)} {σ : St} {H : Hp} {s : Shared} {d : Addr}
end
end L2
end
section
set_option linter.all false
set_option maxRecDepth 100000
set_option maxHeartbeats 1000000
namespace L2
open PySem
def rowV (r : Wb.Row) : List V := [.str r.1, .str r.2.1, .int r.2.2]
def WR3 (H : Hp) (zs : List V) (w : Wb.Web) : Prop := Paired (fun (z : V) (r : Wb.Row) => ∃ a, z = .ref a ∧ H a = some (.tup (rowV r))) zs w
section
variable {H H' H0 : Hp} {zs : List V} {w : Wb.Web} {kvs : List (Key × V)}
theorem WR3.stay (r : WR3 H zs w) (k : ∀ b l, H b = some (.tup l) → H' b = some (.tup l)) : WR3 H' zs w := Paired.mapP r fun p q ⟨a, b, c⟩ => ⟨a, b, k _ _ c⟩
theorem WR3.len (r : WR3 H zs w) : zs.length = w.length := Paired.length r
theorem WR3.snoc {x : V} {a : Addr} {q : Wb.Row} (r : WR3 H zs w) (e : x = .ref a) (h : H a = some (.tup (rowV q))) : WR3 H (zs ++ [x]) (w ++ [q]) := by
  induction r with
  | nil => exact .cons ⟨a, e, h⟩ .nil
  | cons h1 _ ih => exact .cons h1 ih
theorem tk_upd {l : Addr} {u : HO} (h : ∀ zs, H l ≠ some (.tup zs)) : ∀ b zs, H b = some (.tup zs) → upd H l u b = some (.tup zs) := fun b zs e => by
  rw [upd_ne (fun z => h zs (by rw [← z]; exact e))]; exact e
theorem tk_lst {l : Addr} {u : HO} {xs : List V} (h : H l = some (.lst xs)) : ∀ b zs, H b = some (.tup zs) → upd H l u b = some (.tup zs) := tk_upd fun zs z => by rw [h] at z; cases z
theorem tk_dK {l : Addr} {u : HO} (h : H l = some (.dK kvs)) : ∀ b zs, H b = some (.tup zs) → upd H l u b = some (.tup zs) := tk_upd fun zs z => by rw [h] at z; cases z
structure RowsI (H0 H : Hp) (kvs : List (Key × V)) (w : Wb.Web) : Prop where
  at' : ∀ n, (valV kvs (Sum.inr n) = none ∧ (w.filter fun r => decide (r.1 = n)) = []) ∨ ∃ l zs, valV kvs (Sum.inr n) = some (.ref l) ∧ H0 l = none ∧ H l = some (.lst zs) ∧ WR3 H zs (w.filter fun r => decide (r.1 = n))
  inj : ∀ n m l, valV kvs (Sum.inr n) = some (.ref l) → valV kvs (Sum.inr m) = some (.ref l) → n = m
  len : kvs.length ≤ w.length
theorem RowsI.nil : RowsI H0 H [] [] := ⟨fun n => .inl ⟨rfl, rfl⟩, (fun n m l h => nomatch h), Nat.le_refl _⟩
theorem RowsI.same {H' : Hp} (R : RowsI H0 H kvs w) (k : Same H H') : RowsI H0 H' kvs w := ⟨fun n => (R.at' n).imp id fun ⟨l, zs, h1, h2, h3, h4⟩ => ⟨l, zs, h1, h2, k _ _ h3, h4.stay fun b l e => k _ _ e⟩, R.inj, R.len⟩
theorem RowsI.old {n : Str} {l a : Addr} {q : Wb.Row} (R : RowsI H0 H kvs w) (en : q.1 = n) (e : valV kvs (Sum.inr n) = some (.ref l)) (hl : H l = some (.lst zs)) (hq : H a = some (.tup (rowV q))) :
    RowsI H0 (upd H l (.lst (zs ++ [.ref a]))) kvs (w ++ [q]) := by
  subst en
  have tk := tk_lst (u := .lst (zs ++ [.ref a])) hl
  refine ⟨fun m => ?_, R.inj, by rw [List.length_append]; have := R.len; lia⟩
  rw [List.filter_append]
  by_cases em : q.1 = m
  · subst em
    rcases R.at' q.1 with ⟨z, _⟩ | ⟨l', zs', h1, h2, h3, h4⟩
    · rw [z] at e; cases e
    · rw [e] at h1
      cases h1
      rw [hl] at h3
      cases h3
      refine .inr ⟨l, _, e, h2, upd_same, ?_⟩
      have : List.filter (fun r : Wb.Row => decide (r.1 = q.1)) [q] = [q] := by simp
      rw [this]
      exact (h4.stay tk).snoc rfl (tk _ _ hq)
  · have : List.filter (fun r : Wb.Row => decide (r.1 = m)) [q] = [] := by simp [em]
    rw [this, List.append_nil]
    rcases R.at' m with z | ⟨l', zs', h1, h2, h3, h4⟩
    · exact .inl z
    · have nl : l' ≠ l := fun z => em (R.inj _ _ l e (z ▸ h1))
      exact .inr ⟨l', zs', h1, h2, by rw [upd_ne nl]; exact h3, h4.stay tk⟩
theorem RowsI.new {n : Str} {l a d : Addr} {q : Wb.Row} (R : RowsI H0 H kvs w) (en : q.1 = n) (e : valV kvs (Sum.inr n) = none) (hl : H l = none) (hl0 : H0 l = none) (hd : H d = some (.dK kvs)) (hq : H a = some (.tup (rowV q))) :
    RowsI H0 (upd (upd (upd H l (.lst [])) d (.dK (kvs ++ [(Sum.inr n, .ref l)]))) l (.lst [.ref a])) (kvs ++ [(Sum.inr n, .ref l)]) (w ++ [q]) := by
  subst en
  have old : ∀ b o, H b = some o → b ≠ d → (upd (upd (upd H l (.lst [])) d (.dK (kvs ++ [(Sum.inr q.1, .ref l)]))) l (.lst [.ref a])) b = some o := fun b o h nd => by
    have nl : b ≠ l := fun z => by rw [z, hl] at h; cases h
    rw [upd_ne nl, upd_ne nd, upd_ne nl]; exact h
  have tk : ∀ b zs, H b = some (.tup zs) → (upd (upd (upd H l (.lst [])) d (.dK (kvs ++ [(Sum.inr q.1, .ref l)]))) l (.lst [.ref a])) b = some (.tup zs) := fun b zs h => old _ _ h fun z => by rw [z, hd] at h; cases h
  refine ⟨fun m => ?_, fun n m l' h1 h2 => ?_, by rw [List.length_append, List.length_append]; have := R.len; show _ + 1 ≤ _ + 1; lia⟩
  · rw [List.filter_append, valV_snoc _ _ _ _ e]
    by_cases em : m = q.1
    · subst em
      rw [if_pos rfl]
      rcases R.at' q.1 with ⟨_, z⟩ | ⟨l', zs', h1, _⟩
      · have : List.filter (fun r : Wb.Row => decide (r.1 = q.1)) [q] = [q] := by simp
        rw [this, z]
        exact .inr ⟨l, [.ref a], rfl, hl0, upd_same, .cons ⟨a, rfl, tk _ _ hq⟩ .nil⟩
      · rw [e] at h1; cases h1
    · rw [if_neg (fun z => em (Sum.inr.inj z))]
      have : List.filter (fun r : Wb.Row => decide (r.1 = m)) [q] = [] := by simp [Ne.symm em]
      rw [this, List.append_nil]
      rcases R.at' m with z | ⟨l', zs', h1, h2, h3, h4⟩
      · exact .inl z
      · exact .inr ⟨l', zs', h1, h2, old _ _ h3 (fun z => by rw [z, hd] at h3; cases h3), h4.stay tk⟩
  · rw [valV_snoc _ _ _ _ e] at h1 h2
    have no : ∀ m, valV kvs (Sum.inr m) = some (.ref l) → False := fun m h => by
      rcases R.at' m with ⟨z, _⟩ | ⟨l', zs', h3, _, h4, _⟩
      · rw [z] at h; cases h
      · rw [h] at h3; cases h3; rw [hl] at h4; cases h4
    by_cases e1 : (Sum.inr n : Key) = Sum.inr q.1
    · rw [if_pos e1] at h1
      cases h1
      by_cases e2 : (Sum.inr m : Key) = Sum.inr q.1
      · exact Sum.inr.inj (e1.trans e2.symm)
      · rw [if_neg e2] at h2
        exact absurd h2 (no m)
    · rw [if_neg e1] at h1
      by_cases e2 : (Sum.inr m : Key) = Sum.inr q.1
      · rw [if_pos e2] at h2
        cases h2
        exact absurd h1 (no n)
      · rw [if_neg e2] at h2
        exact R.inj n m l' h1 h2
def kvB (ks : List Str) : List (Key × V) := ks.map fun n => (Sum.inr n, V.bl true)
theorem kvB_get {ks : List Str} {n : Str} : (valV (kvB ks) (Sum.inr n)).isSome = decide (n ∈ ks) := by
  induction ks with
  | nil => rfl
  | cons m ks ih =>
    unfold kvB at ih ⊢
    rw [List.map_cons]
    by_cases e : m = n
    · subst e
      rw [valV_pos rfl]
      simp
    · rw [valV_neg (fun z => e (Sum.inr.inj z)), ih]
      rw [Bool.eq_iff_iff, decide_eq_true_eq, decide_eq_true_eq, List.mem_cons]
      exact ⟨.inr, fun h => h.elim (fun z => absurd z.symm e) id⟩
theorem kvB_put {ks : List Str} {n : Str} (h : n ∉ ks) : putK (kvB ks) (Sum.inr n) (.bl true) = kvB (ks ++ [n]) := by
  rw [putK_new]
  · unfold kvB; rw [List.map_append]; rfl
  · have := kvB_get (ks := ks) (n := n)
    rw [decide_eq_false h] at this
    cases e : valV (kvB ks) (Sum.inr n) with
    | none => rfl
    | some v => rw [e] at this; cases this
end
end L2
namespace Wb
open PySem L2
section
variable {web : Web} {first : Str} {L : Tb} {F S : List Str}
structure GB (web : Web) (first : Str) (L : Tb) (F S : List Str) : Prop where
  nd : F.Nodup
  fst : first ∈ F
  sub : ∀ n ∈ S, n ∈ F
  rch : ∀ n ∈ F, Reach web first L n
  clo : ∀ r ∈ web, Exact L r → r.1 ∈ F → r.1 ∉ S → r.2.1 ∈ F
theorem GB.start : GB web first L [first] [first] := ⟨by simp, List.mem_cons_self, fun _ h => h, fun n h => by rw [List.mem_singleton.mp h]; exact .base, fun r _ _ h1 h2 => absurd h1 h2⟩
theorem GB.len (G : GB web first L F S) : F.length ≤ web.length + 1 := by
  have := nd_len (xs := F) (ys := first :: web.map (·.2.1)) G.nd fun n hn => by
    have := G.rch n hn
    cases this with
    | base => exact List.mem_cons_self
    | step _ h _ => exact List.mem_cons_of_mem _ (List.mem_map.mpr ⟨_, h, rfl⟩)
  simpa using this
theorem GB.done (G : GB web first L F []) : Led web first L F := ⟨G.nd, fun n => ⟨G.rch n, fun h => by
  induction h with
  | base => exact G.fst
  | step _ h e ih => exact G.clo _ h e ih (fun z => nomatch z)⟩⟩
def exB (L : Tb) (r : Row) : Bool := match Gm.dget L r.1, Gm.dget L r.2.1 with
  | some u, some v => decide (v = u + r.2.2)
  | _, _ => false
theorem exB_iff {r : Row} : exB L r = true ↔ Exact L r := by
  unfold exB Exact
  cases e1 : Gm.dget L r.1 with
  | none => exact ⟨fun z => (nomatch z), fun ⟨u, h, _⟩ => nomatch h⟩
  | some u =>
    cases e2 : Gm.dget L r.2.1 with
    | none => exact ⟨fun z => (nomatch z), fun ⟨u, _, h⟩ => nomatch h⟩
    | some v =>
      simp only [decide_eq_true_eq, Option.some.injEq]
      exact ⟨fun h => ⟨u, rfl, h⟩, fun ⟨u', h1, h2⟩ => by subst h1; exact h2⟩
structure GN (web : Web) (first : Str) (L : Tb) (name : Str) (F S : List Str) (ds : Web) : Prop where
  nd : F.Nodup
  fst : first ∈ F
  nam : name ∈ F
  sub : ∀ n ∈ S, n ∈ F
  rch : ∀ n ∈ F, Reach web first L n
  clo : ∀ r ∈ web, Exact L r → r.1 ∈ F → r.1 ∉ S → r.1 ≠ name → r.2.1 ∈ F
  ons : ∀ r ∈ ds, r.2.1 ∈ F
variable {name : Str} {ds : Web}
theorem GB.pop (G : GB web first L F (S ++ [name])) : GN web first L name F S [] := ⟨G.nd, G.fst, G.sub _ (by simp), fun n h => G.sub n (List.mem_append_left _ h), G.rch,
  fun r h e h1 h2 h3 => G.clo r h e h1 fun z => (List.mem_append.mp z).elim h2 fun z => h3 (List.mem_singleton.mp z), fun _ h => nomatch h⟩
theorem GN.len (G : GN web first L name F S ds) : F.length ≤ web.length + 1 := GB.len (S := F) ⟨G.nd, G.fst, fun _ h => h, G.rch, fun r _ _ h1 h2 => absurd h1 h2⟩
theorem GN.old (G : GN web first L name F S ds) {r : Row} (h : r.2.1 ∈ F) : GN web first L name F S (ds ++ [r]) := { G with ons := fun q hq => (List.mem_append.mp hq).elim (G.ons q) fun z => by rw [List.mem_singleton.mp z]; exact h }
theorem GN.new (G : GN web first L name F S ds) {r : Row} (e : r.1 = name) (hr : r ∈ web) (ex : Exact L r) (h : r.2.1 ∉ F) : GN web first L name (F ++ [r.2.1]) (S ++ [r.2.1]) (ds ++ [r]) where
  nd := by rw [List.nodup_append]; exact ⟨G.nd, by simp, fun a ha b hb z => h (by rw [← List.mem_singleton.mp hb, ← z]; exact ha)⟩
  fst := List.mem_append_left _ G.fst
  nam := List.mem_append_left _ G.nam
  sub := fun n hn => (List.mem_append.mp hn).elim (fun z => List.mem_append_left _ (G.sub n z)) (fun z => List.mem_append_right _ z)
  rch := fun n hn => (List.mem_append.mp hn).elim (G.rch n) fun z => by rw [List.mem_singleton.mp z]; exact .step (by rw [e]; exact G.rch _ G.nam) hr ex
  clo := fun q hq e1 h1 h2 h3 => by
    rcases List.mem_append.mp h1 with z | z
    · exact List.mem_append_left _ (G.clo q hq e1 z (fun y => h2 (List.mem_append_left _ y)) h3)
    · exact absurd (List.mem_append_right _ z) h2
  ons := fun q hq => (List.mem_append.mp hq).elim (fun z => List.mem_append_left _ (G.ons q z)) fun z => by rw [List.mem_singleton.mp z]; simp
theorem GN.fin (G : GN web first L name F S ds) (h : ∀ r ∈ web, Exact L r → r.1 = name → r ∈ ds) : GB web first L F S := ⟨G.nd, G.fst, G.sub, G.rch, fun r hr e h1 h2 => by
  by_cases z : r.1 = name
  · exact G.ons r (h r hr e z)
  · exact G.clo r hr e h1 h2 z⟩
section
variable {c : Tb × Bool} {r : Row} {u v : Int}
end
section
variable {led : List Str} {k : Nat} {name : Str} {ds : Web}
end
end
end Wb
end
section
set_option linter.all false
set_option maxRecDepth 100000
set_option maxHeartbeats 4000000
namespace HT
open PySem PyProof.Rows
section
variable {prog : Program} {w : World} {A : Around} {E : Value → Shared → Prop} {s : Shared}
end
end HT
namespace L2
open PySem PySem.Spec PyProof.Rows
section
variable {X : Cx}
end
end L2
end
section
set_option linter.all false
set_option maxRecDepth 100000
set_option maxHeartbeats 1000000
namespace Wb
open PySem L2
section
variable {web : Web} {first name : Str} {far T : Tb} {m : Int} {D : List Str} {ds : Web}
theorem tget_del {n k : Str} (nd : (T.map (·.1)).Nodup) : Gm.dget (Gm.ddel T n) k = if k = n then none else Gm.dget T k := by
  by_cases h : k = n
  · subst h
    rw [if_pos rfl, Gm.dget_none]
    intro z
    obtain ⟨⟨a, b⟩, h1, h2⟩ := List.mem_map.mp z
    exact (Gm.ddel_mem.mp h1).1 h2
  · rw [if_neg h]
    cases e : Gm.dget T k with
    | none =>
      rw [Gm.dget_none] at e ⊢
      intro z
      obtain ⟨⟨a, b⟩, h1, h2⟩ := List.mem_map.mp z
      exact e (List.mem_map.mpr ⟨_, (Gm.ddel_mem.mp h1).2, h2⟩)
    | some v => exact Gm.dget_of (Gm.ddel_nd nd) (Gm.ddel_mem.mpr ⟨h, Gm.dget_some e⟩)
def CloN (web : Web) (far : Tb) (n : Str) (v : Int) : Prop := ∀ r ∈ web, r.1 = n → ∃ v', Gm.dget far r.2.1 = some v' ∧ v' ≤ v + r.2.2
structure DJ (web : Web) (first : Str) (far T : Tb) (m : Int) (D : List Str) : Prop where
  I : FarInv web first far
  tnd : (T.map (·.1)).Nodup
  dnd : D.Nodup
  sub : ∀ n v, Gm.dget T n = some v → Gm.dget far n = some v ∧ m ≤ v
  don : ∀ n ∈ D, ∃ v, Gm.dget far n = some v ∧ Gm.dget T n = none ∧ v ≤ m ∧ CloN web far n v
  all : ∀ n v, Gm.dget far n = some v → n ∈ D ∨ Gm.dget T n = some v
structure DP (web : Web) (first : Str) (far T : Tb) (m : Int) (D : List Str) (name : Str) (ds : Web) : Prop where
  I : FarInv web first far
  tnd : (T.map (·.1)).Nodup
  dnd : D.Nodup
  sub : ∀ n v, Gm.dget T n = some v → Gm.dget far n = some v ∧ m ≤ v
  don : ∀ n ∈ D, ∃ v, Gm.dget far n = some v ∧ Gm.dget T n = none ∧ v ≤ m ∧ CloN web far n v
  all : ∀ n v, Gm.dget far n = some v → n ∈ D ∨ n = name ∨ Gm.dget T n = some v
  nam : Gm.dget far name = some m
  nat : Gm.dget T name = none
  nad : name ∉ D
  ons : ∀ r ∈ ds, ∃ v', Gm.dget far r.2.1 = some v' ∧ v' ≤ m + r.2.2
theorem DJ.start : DJ web first [(first, 0)] [(first, 0)] 0 [] := by
  have g : ∀ n v, Gm.dget ([(first, 0)] : Tb) n = some v → n = first ∧ v = 0 := fun n v h => by
    have := Gm.dget_some h
    cases List.mem_singleton.mp this
    exact ⟨rfl, rfl⟩
  exact ⟨FarInv.start, by simp, by simp, fun n v h => ⟨h, by rw [(g n v h).2]; exact Int.le_refl _⟩, (fun n h => nomatch h), fun n v h => .inr h⟩
theorem DJ.len (J : DJ web first far T m D) : D.length ≤ web.length + 1 := by
  have h := nd_len (xs := D) (ys := far.map (·.1)) J.dnd fun n hn => by
    obtain ⟨v, e, _⟩ := J.don n hn
    exact List.mem_map.mpr ⟨_, Gm.dget_some e, rfl⟩
  rw [List.length_map] at h
  exact Nat.le_trans h J.I.len
theorem DJ.done (J : DJ web first far [] m D) : FarOk web first far := ⟨J.I, fun r hr u h => by
  rcases J.all _ _ h with z | z
  · obtain ⟨v, e1, _, _, c⟩ := J.don _ z
    rw [h] at e1
    cases e1
    exact c r hr rfl
  · cases z⟩
theorem DJ.take (J : DJ web first far T m D) {v : Int} (h : Gm.dget T name = some v) (hl : ∀ n x, Gm.dget T n = some x → v ≤ x) : DP web first far (Gm.ddel T name) v D name [] where
  I := J.I
  tnd := Gm.ddel_nd J.tnd
  dnd := J.dnd
  sub := fun n x e => by
    rw [tget_del J.tnd] at e
    split at e
    · cases e
    · exact ⟨(J.sub n x e).1, hl n x e⟩
  don := fun n hn => by
    obtain ⟨x, e1, e2, e3, e4⟩ := J.don n hn
    refine ⟨x, e1, ?_, Int.le_trans e3 (J.sub _ _ h).2, e4⟩
    rw [tget_del J.tnd]
    split
    · rfl
    · exact e2
  all := fun n x e => by
    rcases J.all n x e with z | z
    · exact .inl z
    · by_cases c : n = name
      · exact .inr (.inl c)
      · exact .inr (.inr (by rw [tget_del J.tnd, if_neg c]; exact z))
  nam := (J.sub _ _ h).1
  nat := by rw [tget_del J.tnd, if_pos rfl]
  nad := fun z => by
    obtain ⟨_, _, e2, _⟩ := J.don _ z
    rw [h] at e2
    cases e2
  ons := fun _ h => nomatch h
theorem DP.old (J : DP web first far T m D name ds) {r : Row} {v : Int} (h : Gm.dget far r.2.1 = some v) (hv : ¬ m + r.2.2 < v) : DP web first far T m D name (ds ++ [r]) :=
  { J with ons := fun q hq => (List.mem_append.mp hq).elim (J.ons q) fun z => by rw [List.mem_singleton.mp z]; exact ⟨v, h, by lia⟩ }
theorem DP.free (J : DP web first far T m D name ds) {g : Str} (h : Gm.dget far g = none) : Gm.dget T g = none := by
  cases e : Gm.dget T g with
  | none => rfl
  | some v => rw [(J.sub g v e).1] at h; cases h
theorem DP.held (J : DP web first far T m D name ds) (hw : ∀ r ∈ web, 1 ≤ r.2.2) {r : Row} (hr : r ∈ web) {v : Int} (h : Gm.dget far r.2.1 = some v) (hv : m + r.2.2 < v) : Gm.dget T r.2.1 = some v := by
  have := hw r hr
  rcases J.all _ _ h with z | z | z
  · obtain ⟨x, e1, _, e3, _⟩ := J.don _ z
    rw [h] at e1
    cases e1
    lia
  · rw [z, J.nam] at h
    cases h
    lia
  · exact z
theorem DP.put (J : DP web first far T m D name ds) (hw : ∀ r ∈ web, 1 ≤ r.2.2) {r : Row} (hr : r ∈ web) (en : r.1 = name) (hg : ∀ v, Gm.dget far r.2.1 = some v → m + r.2.2 < v) :
    DP web first (Gm.dput far r.2.1 (m + r.2.2)) (Gm.dput T r.2.1 (m + r.2.2)) m D name (ds ++ [r]) := by
  have hl := hw r hr
  have low : ∀ {n : Str} {x c : Int}, (∃ v', Gm.dget far n = some v' ∧ v' ≤ c) → ∃ v', Gm.dget (Gm.dput far r.2.1 (m + r.2.2)) n = some v' ∧ v' ≤ c := fun {n x c} ⟨v', h1, h2⟩ => by
    rw [tget_put J.I.nd]
    by_cases e : n = r.2.1
    · rw [if_pos e]
      rw [e] at h1
      exact ⟨_, rfl, by have := hg _ h1; lia⟩
    · rw [if_neg e]; exact ⟨v', h1, h2⟩
  have nn : name ≠ r.2.1 := fun z => by
    have := hg m (z ▸ J.nam)
    lia
  refine ⟨J.I.step hw (s := r.1) (g := r.2.1) (l := r.2.2) hr (by rw [en]; exact J.nam) hg, Gm.dput_nd J.tnd, J.dnd, fun n v h => ?_, fun n hn => ?_, fun n v h => ?_, ?_, ?_, J.nad, fun q hq => ?_⟩
  · rw [tget_put J.tnd] at h
    rw [tget_put J.I.nd]
    split at h
    · rename_i c
      rw [if_pos c]
      cases h
      exact ⟨rfl, by lia⟩
    · rename_i c
      rw [if_neg c]
      exact J.sub n v h
  · obtain ⟨v, e1, e2, e3, e4⟩ := J.don n hn
    have ng : n ≠ r.2.1 := fun z => by
      have := hg v (z ▸ e1)
      lia
    refine ⟨v, by rw [tget_put J.I.nd, if_neg ng]; exact e1, by rw [tget_put J.tnd, if_neg ng]; exact e2, e3, fun q hq eq => low (x := 0) (e4 q hq eq)⟩
  · rw [tget_put J.I.nd] at h
    rw [tget_put J.tnd]
    split at h
    · rename_i c
      cases h
      exact .inr (.inr (by rw [if_pos c]))
    · rename_i c
      rw [if_neg c]
      exact J.all n v h
  · rw [tget_put J.I.nd, if_neg nn]; exact J.nam
  · rw [tget_put J.tnd, if_neg nn]; exact J.nat
  · rcases List.mem_append.mp hq with z | z
    · exact low (x := 0) (J.ons q z)
    · rw [List.mem_singleton.mp z]
      exact ⟨_, by rw [tget_put J.I.nd, if_pos rfl], Int.le_refl _⟩
theorem DP.fin (J : DP web first far T m D name ds) (h : ∀ r ∈ web, r.1 = name → r ∈ ds) : DJ web first far T m (D ++ [name]) where
  I := J.I
  tnd := J.tnd
  dnd := by rw [List.nodup_append]; exact ⟨J.dnd, by simp, fun a ha b hb z => J.nad (by rw [← List.mem_singleton.mp hb, ← z]; exact ha)⟩
  sub := J.sub
  don := fun n hn => (List.mem_append.mp hn).elim (J.don n) fun z => by
    rw [List.mem_singleton.mp z]
    exact ⟨m, J.nam, J.nat, Int.le_refl _, fun r hr e => J.ons r (h r hr e)⟩
  all := fun n v e => by
    rcases J.all n v e with z | z | z
    · exact .inl (List.mem_append_left _ z)
    · exact .inl (List.mem_append_right _ (by rw [z]; simp))
    · exact .inr z
theorem filter_two {w : Web} (h : name ∉ D) : (w.filter fun r => decide (r.1 ∈ D ++ [name])).length = (w.filter fun r => decide (r.1 ∈ D)).length + (w.filter fun r => decide (r.1 = name)).length := by
  induction w with
  | nil => rfl
  | cons r w ih =>
    rw [List.filter_cons, List.filter_cons, List.filter_cons]
    by_cases c1 : r.1 ∈ D
    · have c2 : ¬ r.1 = name := fun z => h (z ▸ c1)
      rw [if_pos (by simp [c1]), if_pos (by simp [c1]), if_neg (by simp [c2]), List.length_cons, List.length_cons, ih]
      lia
    · by_cases c2 : r.1 = name
      · rw [if_pos (by simp [c2]), if_neg (by simp [c1]), if_pos (by simp [c2]), List.length_cons, List.length_cons, ih]
        lia
      · rw [if_neg (by simp [c1, c2]), if_neg (by simp [c1]), if_neg (by simp [c2]), ih]
theorem FarOk.le {far' : Tb} (F : FarOk web first far) (G : FarOk web first far') (hw : ∀ r ∈ web, 1 ≤ r.2.2) : ∀ (k : Nat) {n : Str} {v : Int}, v.toNat = k → Gm.dget far n = some v → ∃ v', Gm.dget far' n = some v' ∧ v' ≤ v := by
  intro k
  induction k using Nat.strongRecOn with
  | _ k ih =>
    intro n v ek h
    have v0 := F.pos _ _ h
    rcases F.tight h with rfl | ⟨s, l, u, h1, h2, h3⟩
    · exact ⟨0, G.zero, v0⟩
    · have hl : 1 ≤ l := hw _ h1
      have u0 := F.pos _ _ h2
      obtain ⟨u', e1, e2⟩ := ih u.toNat (by lia) rfl h2
      obtain ⟨v', e3, e4⟩ := G.clo _ h1 u' e1
      exact ⟨v', e3, by simp only at e4; lia⟩
theorem FarOk.one {far' : Tb} (F : FarOk web first far) (G : FarOk web first far') (hw : ∀ r ∈ web, 1 ≤ r.2.2) (n : Str) : Gm.dget far n = Gm.dget far' n := by
  cases e : Gm.dget far n with
  | some v =>
    obtain ⟨v', e1, l1⟩ := F.le G hw _ rfl e
    obtain ⟨v'', e2, l2⟩ := G.le F hw _ rfl e1
    rw [e] at e2
    cases e2
    rw [e1, Int.le_antisymm l1 l2]
  | none =>
    cases e' : Gm.dget far' n with
    | none => rfl
    | some v' =>
      obtain ⟨v'', e2, _⟩ := G.le F hw _ rfl e'
      rw [e] at e2
      cases e2
theorem Reach.pos {L : Tb} (hw : ∀ r ∈ web, 1 ≤ r.2.2) (h0 : Gm.dget L first = some 0) {n : Str} (h : Reach web first L n) : ∃ v, Gm.dget L n = some v ∧ 0 ≤ v := by
  induction h with
  | base => exact ⟨0, h0, Int.le_refl _⟩
  | @step r _ hr e ih =>
    obtain ⟨u, e1, e2⟩ := e
    obtain ⟨v, e3, e4⟩ := ih
    rw [e1] at e3
    cases e3
    exact ⟨_, e2, by have := hw r hr; lia⟩
theorem ShownP.farOk {L : Tb} (S : ShownP web first L) (hw : ∀ r ∈ web, 1 ≤ r.2.2) (nd : (L.map (·.1)).Nodup) : FarOk web first L := by
  obtain ⟨h0, hn, xs, led, hl⟩ := S
  have allR : ∀ n v, Gm.dget L n = some v → Reach web first L n := fun n v h => by
    by_cases c : n ∈ xs
    · exact (led.2 n).mp c
    · exfalso
      have : (n :: xs).length ≤ (L.map (·.1)).length := nd_len (List.nodup_cons.mpr ⟨c, led.1⟩) fun k hk => by
        rcases List.mem_cons.mp hk with rfl | hk
        · exact List.mem_map.mpr ⟨_, Gm.dget_some h, rfl⟩
        · obtain ⟨v', e⟩ := ((led.2 k).mp hk).in h0
          exact List.mem_map.mpr ⟨_, Gm.dget_some e, rfl⟩
      rw [List.length_map, List.length_cons] at this
      lia
  refine ⟨⟨nd, h0, fun n v h => ?_, fun n v h => ?_⟩, fun r hr u h => ?_⟩
  · obtain ⟨v', e1, e2⟩ := (allR n v h).pos hw h0
    rw [h] at e1
    cases e1
    exact e2
  · have := allR n v h
    cases this with
    | base => exact .inl rfl
    | @step r _ hr e =>
      obtain ⟨u, e1, e2⟩ := e
      rw [h] at e2
      cases e2
      exact .inr ⟨r.1, r.2.2, u, hr, e1, Int.le_refl _⟩
  · cases e : Gm.dget L r.2.1 with
    | none => exact absurd ⟨u, h, fun v z => by rw [e] at z; cases z⟩ (hn r hr)
    | some v =>
      refine ⟨v, rfl, ?_⟩
      by_cases c : u + r.2.2 < v
      · exact absurd ⟨u, h, fun v' z => by rw [e] at z; cases z; exact c⟩ (hn r hr)
      · lia
end
end Wb
namespace L2
open PySem
theorem kvW_one {n : Str} {i : Int} : mergeK [] [(Sum.inr n, V.int i)] = kvW [(n, i)] := rfl
theorem dget_k {H : Hp} {d : Addr} {t : Tb} {n : Str} {v : Int} (h : H d = some (.dK (kvW t))) (e : Gm.dget t n = some v) : DGet H d (.str n) (some (.int v)) := by
  have := DGet.k (k := Sum.inr n) h
  rw [kvW_get, e] at this
  exact this
end L2
end
section
set_option linter.all false
set_option maxRecDepth 100000
set_option maxHeartbeats 4000000
namespace PySem
section
variable {prog : Program} {w : World} {A : Around} {E : Value → Shared → Prop} {s : Shared}
theorem min_two_strs {a b : Str} {t u : Tok} {Q : Value → Shared → Prop} (hh : A.handled = none)
    (h : ∀ h' tk, (∀ c o, s.heap.get? c = some o → h'.get? c = some o) → Q (if b.cps.toList < a.cps.toList then .str b u else .str a t) { s with heap := h', toks := tk }) :
    wpAny (model prog w) A (call (.builtin "min") [.str a t, .str b u]) Q E s := by
  let ks : Nat → Str := fun i => if i = 1 then b else a
  have hT : (s.heap.push { cls := .type "tuple", data := .seq #[.str a t, .str b u] }).IsTuple s.heap.objs.size #[.str a t, .str b u] := ⟨_, Heap.get?_push_size _ rfl, rfl, 0, rfl⟩
  refine call_min_two (wpAny_pyIter_tuple hT ?_)
  have hsz : (s.heap.push { cls := .type "tuple", data := .seq #[.str a t, .str b u] }).objs.size = s.heap.objs.size + 1 := Heap.size_push ..
  have at_ : ∀ (i : Nat) (v : Value), (#[Value.str a t, Value.str b u] : Array Value)[i]? = some v → ∃ tk, v = .str (ks i) tk := fun i v e => by
    match i with
    | 0 => cases e; exact ⟨t, rfl⟩
    | 1 => cases e; exact ⟨u, rfl⟩
    | i + 2 => simp at e
  refine ⟨_, [_, s.heap.objs.size], [_], _, _, _, fun i j => decide ((ks i).cps.toList < (ks j).cps.toList), rfl, Walks.tuple (A := A.in1) hh _ s.heap.objs.size (by rw [hsz]; exact Nat.ne_of_lt (Nat.lt_succ_self _)) #[.str a t, .str b u],
    ⟨⟨_, Heap.get?_push_size _ rfl, rfl, rfl⟩, hT.push _⟩, fun c hc => ?_, by simp, ?_, fun v h' tk hP hk => ?_⟩
  · show c < ((s.heap.push _).push _).objs.size
    rw [Heap.size_push, hsz]
    rcases List.mem_cons.mp hc with rfl | hc
    · rw [hsz]; exact Nat.lt_succ_self _
    · rcases List.mem_cons.mp hc with rfl | hc
      · exact Nat.lt_succ_of_lt (Nat.lt_succ_self _)
      · cases hc
  · intro i j x y s' Q' E' hx hy hq
    obtain ⟨t1, rfl⟩ := at_ i x hx
    obtain ⟨t2, rfl⟩ := at_ j y hy
    exact richCompare_gives (op := .Lt) (typeIs_str s' _ t1) (typeIs_str s' _ t2) F.slot_str_lt F.entry_str_lt (F.args_str_lt_2 _ _) (gives_str_lt _ _ t1 t2) (fun x => nomatch x) hq
  · have hold : ∀ c o, s.heap.get? c = some o → h'.get? c = some o := fun c o e => by
      refine hk c o (fun hm => ?_) (Heap.get?_push_of_some _ (Heap.get?_push_of_some _ e))
      rcases List.mem_cons.mp hm with e1 | hm
      · have := Heap.lt_size e; rw [e1, hsz] at this; exact Nat.lt_irrefl _ (Nat.lt_of_succ_lt this)
      · cases hm
    have := h h' tk hold
    have hv : v = if b.cps.toList < a.cps.toList then Value.str b u else Value.str a t := by
      have hP' : (#[Value.str a t, Value.str b u] : Array Value)[argBest (fun i j => decide ((ks i).cps.toList < (ks j).cps.toList)) 1]? = some v := hP
      by_cases hba : b.cps.toList < a.cps.toList
      · have e : argBest (fun i j => decide ((ks i).cps.toList < (ks j).cps.toList)) 1 = 1 := by
          have : argBest (fun i j => decide ((ks i).cps.toList < (ks j).cps.toList)) 1 = if decide (b.cps.toList < a.cps.toList) = true then 1 else 0 := rfl
          rw [this, if_pos (decide_eq_true hba)]
        rw [e] at hP'
        rw [if_pos hba]
        exact (Option.some.inj hP').symm
      · have e : argBest (fun i j => decide ((ks i).cps.toList < (ks j).cps.toList)) 1 = 0 := by
          have : argBest (fun i j => decide ((ks i).cps.toList < (ks j).cps.toList)) 1 = if decide (b.cps.toList < a.cps.toList) = true then 1 else 0 := rfl
          rw [this, if_neg (fun z => hba (of_decide_eq_true z))]
        rw [e] at hP'
        rw [if_neg hba]
        exact (Option.some.inj hP').symm
    rw [hv]; exact this
end
end PySem
namespace L2
open PySem PySem.W PySem.Spec PySem.Calls PyProof.Rows
section
variable {X : Cx}
theorem call_minS2 (hc : X.calm = true) : CallR X (.builtin "min") (fun xs H Q => ∃ i j : Str, xs = [.str i, .str j] ∧ Q (.str (if slt j i = true then j else i)) H) := by
  intro pins s σ H xs us Q I r h
  obtain ⟨i, j, rfl, q⟩ := h
  obtain ⟨u, w', rfl, ⟨t, rfl⟩, ⟨t', rfl⟩⟩ := vals2 r
  refine min_two_strs (I.ok.hd hc) fun h' tk k => ⟨_, H, I.kept k, ?_, q⟩
  by_cases hj : j.cps.toList < i.cps.toList
  · rw [if_pos hj, if_pos (show slt j i = true from decide_eq_true hj)]; exact ⟨_, rfl⟩
  · rw [if_neg hj, if_neg (show ¬ slt j i = true from fun z => hj (of_decide_eq_true z))]; exact ⟨_, rfl⟩
def kvS (t : List (Str × Str)) : List (Key × V) := t.map fun p => (Sum.inr p.1, V.str p.2)
theorem kvS_get {t : List (Str × Str)} {n : Str} : valV (kvS t) (Sum.inr n) = (Gm.dget t n).map V.str := by
  induction t with
  | nil => rfl
  | cons p t ih =>
    unfold kvS at ih ⊢
    rw [List.map_cons]
    by_cases e : p.1 = n
    · subst e
      rw [valV_pos rfl]
      unfold Gm.dget
      rw [List.find?_cons_of_pos (by simp)]
      rfl
    · rw [valV_neg (fun z => e (Sum.inr.inj z)), ih]
      unfold Gm.dget
      rw [List.find?_cons_of_neg (by simpa using e)]
theorem kvS_put {t : List (Str × Str)} {n w : Str} : putK (kvS t) (Sum.inr n) (.str w) = kvS (Gm.dput t n w) := by
  have ea : ((kvS t).any fun kv => decide (kv.1 = Sum.inr n)) = t.any fun p => decide (p.1 = n) := by
    unfold kvS
    rw [List.any_map]
    congr 1
    funext p
    show decide ((Sum.inr p.1 : Key) = Sum.inr n) = decide (p.1 = n)
    rw [Bool.eq_iff_iff, decide_eq_true_eq, decide_eq_true_eq]
    exact ⟨Sum.inr.inj, fun h => by rw [h]⟩
  unfold putK Gm.dput
  rw [ea]
  split
  · unfold kvS
    rw [List.map_map, List.map_map]
    refine List.map_congr_left fun p _ => ?_
    show (if (Sum.inr p.1 : Key) = Sum.inr n then (Sum.inr p.1, V.str w) else (Sum.inr p.1, V.str p.2)) = (Sum.inr (if p.1 = n then (p.1, w) else p).1, V.str (if p.1 = n then (p.1, w) else p).2)
    by_cases e : p.1 = n
    · rw [if_pos (by rw [e]), if_pos e]
    · rw [if_neg (fun z => e (Sum.inr.inj z)), if_neg e]
  · unfold kvS
    rw [List.map_append]
    rfl
theorem kvS_len {t : List (Str × Str)} : (kvS t).length = t.length := List.length_map ..
theorem sget_put {L : List (Str × Str)} {n m b : Str} (nd : (L.map (·.1)).Nodup) : Gm.dget (Gm.dput L n b) m = if m = n then some b else Gm.dget L m := by
  by_cases h : m = n
  · subst h
    rw [if_pos rfl]
    exact Gm.dget_of (Gm.dput_nd nd) Gm.dput_self
  · rw [if_neg h]
    cases e : Gm.dget L m with
    | none =>
      rw [Gm.dget_none] at e ⊢
      intro z
      obtain ⟨⟨m', c⟩, h1, h2⟩ := List.mem_map.mp z
      cases h2
      rcases Gm.dput_mem h1 with ⟨q, _⟩ | ⟨_, q⟩
      · exact h q
      · exact e (List.mem_map.mpr ⟨_, q, rfl⟩)
    | some c => exact Gm.dget_of (Gm.dput_nd nd) (Gm.dput_in (Gm.dget_some e) h)
end
end L2
namespace Wb
open PySem L2
structure WaysI (far : Tb) (ways : List (Str × Str)) (w : Web) : Prop where
  nd : (ways.map (·.1)).Nodup
  no : ∀ g, Gm.dget ways g = none → ∀ r ∈ w, r.2.1 = g → ¬ Exact far r
  of : ∀ g s, Gm.dget ways g = some s → (∃ r ∈ w, r.2.1 = g ∧ r.1 = s ∧ Exact far r) ∧ ∀ r ∈ w, r.2.1 = g → Exact far r → slt r.1 s = false
theorem WaysI.nil {far : Tb} : WaysI far [] [] := ⟨by simp, (fun _ _ _ h => nomatch h), fun _ _ h => nomatch h⟩
section
variable {far : Tb} {ways : List (Str × Str)} {w : Web}
theorem WaysI.skip (W : WaysI far ways w) {r : Row} (h : ¬ Exact far r) : WaysI far ways (w ++ [r]) := by
  refine ⟨W.nd, fun g e q hq eg => ?_, fun g s e => ?_⟩
  · rcases List.mem_append.mp hq with z | z
    · exact W.no g e q z eg
    · rw [List.mem_singleton.mp z]; exact h
  · obtain ⟨⟨q, h1, h2⟩, h3⟩ := W.of g s e
    refine ⟨⟨q, List.mem_append_left _ h1, h2⟩, fun q hq eg ex => ?_⟩
    rcases List.mem_append.mp hq with z | z
    · exact h3 q z eg ex
    · rw [List.mem_singleton.mp z] at ex; exact absurd ex h
theorem WaysI.step (W : WaysI far ways w) {r : Row} (h : Exact far r) {b : Str} (hb : b = (if slt ((Gm.dget ways r.2.1).getD r.1) r.1 = true then (Gm.dget ways r.2.1).getD r.1 else r.1)) : WaysI far (Gm.dput ways r.2.1 b) (w ++ [r]) := by
  refine ⟨Gm.dput_nd W.nd, fun g e q hq eg => ?_, fun g s e => ?_⟩
  · rw [sget_put W.nd] at e
    split at e
    · cases e
    · rename_i ng
      rcases List.mem_append.mp hq with z | z
      · exact W.no g e q z eg
      · rw [List.mem_singleton.mp z] at eg; exact absurd eg.symm ng
  · rw [sget_put W.nd] at e
    split at e
    · rename_i ng
      subst ng
      cases e
      cases e1 : Gm.dget ways r.2.1 with
      | none =>
        rw [e1] at hb
        have hb' : b = r.1 := by rw [hb]; split <;> rfl
        subst hb'
        refine ⟨⟨r, by simp, rfl, rfl, h⟩, fun q hq eg ex => ?_⟩
        rcases List.mem_append.mp hq with z | z
        · exact absurd ex (W.no _ e1 q z eg)
        · rw [List.mem_singleton.mp z]; exact slt_slo.irr _
      | some s0 =>
        rw [e1] at hb
        obtain ⟨⟨q0, a1, a2, a3, a4⟩, a5⟩ := W.of _ _ e1
        have hb' : b = if slt s0 r.1 = true then s0 else r.1 := hb
        by_cases c : slt s0 r.1 = true
        · rw [if_pos c] at hb'
          subst hb'
          refine ⟨⟨q0, List.mem_append_left _ a1, a2, a3, a4⟩, fun q hq eg ex => ?_⟩
          rcases List.mem_append.mp hq with z | z
          · exact a5 q z eg ex
          · rw [List.mem_singleton.mp z]
            cases y : slt r.1 b with
            | false => rfl
            | true => exact absurd (slt_slo.tr _ _ _ c y) (by rw [slt_slo.irr]; exact Bool.false_ne_true)
        · rw [if_neg c] at hb'
          subst hb'
          refine ⟨⟨r, by simp, rfl, rfl, h⟩, fun q hq eg ex => ?_⟩
          rcases List.mem_append.mp hq with z | z
          · have h5 := a5 q z eg ex
            cases y : slt q.1 r.1 with
            | false => rfl
            | true =>
              by_cases e3 : s0 = r.1
              · rw [e3] at h5; rw [h5] at y; cases y
              · rcases slt_slo.tot _ _ e3 with t | t
                · exact absurd t c
                · exact absurd (slt_slo.tr _ _ _ y t) (by rw [h5]; exact Bool.false_ne_true)
          · rw [List.mem_singleton.mp z]; exact slt_slo.irr _
    · rename_i ng
      obtain ⟨⟨q, h1, h2⟩, h3⟩ := W.of g s e
      refine ⟨⟨q, List.mem_append_left _ h1, h2⟩, fun q hq eg ex => ?_⟩
      rcases List.mem_append.mp hq with z | z
      · exact h3 q z eg ex
      · rw [List.mem_singleton.mp z] at eg; exact absurd eg.symm ng
end
end Wb
end
section
set_option linter.all false
set_option maxRecDepth 100000
set_option maxHeartbeats 4000000
namespace L2
open PySem PySem.W PySem.Spec PySem.Calls PyProof.Rows
section
variable {X : Cx}
theorem op_isnotB : OpR X (compareOp .IsNot) (fun x y H Q => ∃ a b : Bool, x = .bl a ∧ y = .bl b ∧ Q (.bl (a != b)) H) := by
  intro pins s σ H x y v u Q I rx ry h
  obtain ⟨a, b, rfl, rfl, q⟩ := h
  cases rx
  cases ry
  exact isnot_bool ⟨.bl _, H, I, rfl, q⟩
end
end L2
end
section
set_option linter.all false
set_option maxRecDepth 100000
set_option maxHeartbeats 4000000
namespace PySem
section
variable {prog : Program} {w : World} {A : Around} {E : Value → Shared → Prop} {s : Shared}
theorem ne_pair {l b : Addr} {x1 x2 y1 y2 : Value} {Q : Value → Shared → Prop} (hl : s.heap.IsTuple l #[x1, x2]) (hb : s.heap.IsTuple b #[y1, y2]) (hu : A.units < cLine)
    (h1 : ∀ (E : Value → Shared → Prop) (Q : Bool → Shared → Prop), Q true s → wpAny (model prog w) A.in1 (eqBool x1 y1) Q E s)
    (h2 : ∀ (E : Value → Shared → Prop) (Q : Bool → Shared → Prop), Q true s → wpAny (model prog w) A.in1 (eqBool x2 y2) Q E s)
    (h : Q (.bool false) s) : wpAny (model prog w) A (compareOp .NotEq (.ref l) (.ref b)) Q E s := by
  obtain ⟨⟨cls, dd, data, sl⟩, ho, hc, n, hd⟩ := id hl
  obtain ⟨⟨cls2, dd2, data2, sl2⟩, ho2, hc2, n2, hd2⟩ := id hb
  simp only at hc hd hc2 hd2
  subst hc hd hc2 hd2
  have t1 : s.TypeIs (.ref l) "tuple" := ⟨_, ho, rfl⟩
  have t2 : s.TypeIs (.ref b) "tuple" := ⟨_, ho2, rfl⟩
  have f2 := AutoSeq1.sub_tuple_tuple
  refine wpAny_richCompare_same_room (op := .NotEq) t1 t2 F.slot_tuple_ne (wpAny_call_entry F.slot_tuple_ne t1 F.entry_tuple_ne ?_ (F.args_tuple_ne_2 _ _)) hu
  obtain ⟨hp, g, d, tk, os⟩ := s
  wp_walk using wpAny_loadPart' ho, wpAny_loadPart' ho2, h1 _ _, h2 _ _
  exact ⟨.bool false, rfl, (fun x => nomatch x), h⟩
end
end PySem
namespace L2
open PySem PySem.W PySem.Spec PySem.Calls PyProof.Rows
open PySem.SeqAt (EqAt RcAt RcNeAt)
def okS : V → Bool
  | .int _ => true
  | .str _ => true
  | _ => false
def SameD (ka kb : List (Key × V)) : Prop := ka.length = kb.length ∧ ∀ k v, (k, v) ∈ ka → okS v = true ∧ valV kb k = some v
def AlD (H : Hp) (x y : V) : Prop := ∃ a b ka kb, x = .ref a ∧ y = .ref b ∧ H a = some (.dK ka) ∧ H b = some (.dK kb) ∧ SameD ka kb
theorem scal_eqAt {A : Around} {s : Shared} {v : V} {u u' : Value} (ok : okS v = true) (r : RelV v u) (r' : RelV v u') : EqAt A s u u' true := by
  cases v with
  | int i =>
    obtain ⟨t, rfl⟩ := r
    obtain ⟨t', rfl⟩ := r'
    have := EqAt.int_int (A := A) (s := s) i t i t'
    rwa [beq_self_eq_true] at this
  | str i =>
    obtain ⟨t, rfl⟩ := r
    obtain ⟨t', rfl⟩ := r'
    have := EqAt.str_str (A := A) (s := s) i t i t'
    rwa [beq_self_eq_true] at this
  | _ => cases ok
theorem hits_gen {A : Around} {s : Shared} {kb : List (Key × V)} {vb : List (Key × Value)} (rb : KV kb vb) : ∀ {ka : List (Key × V)} {va : List (Key × Value)}, KV ka va → (∀ k v, (k, v) ∈ ka → okS v = true ∧ valV kb k = some v) → KeqHits A s vb va true := by
  intro ka va ra
  induction ra with
  | nil => intro _; exact .nil
  | @cons p q ps qs h _ ih =>
    intro hh
    obtain ⟨k, v⟩ := p
    obtain ⟨k', u⟩ := q
    obtain ⟨e1, e2⟩ := h
    simp only at e1 e2
    subst e1
    obtain ⟨ok, hv⟩ := hh k v List.mem_cons_self
    have := rb.val k
    rw [hv] at this
    cases e3 : valueAt vb k with
    | none => rw [e3] at this; cases this
    | some u' =>
      rw [e3] at this
      exact KeqHits.hit (e := true) (b := true) e3 (scal_eqAt ok e2 this) (ih fun k v hm => hh k v (List.mem_cons_of_mem _ hm))
section
variable {X : Cx}
theorem AlD.eqB {pins : List (Addr × Obj)} {σ : St} {H : Hp} {s : Shared} (I : Inv X pins σ H s) {x y : V} (h : AlD H x y) {v u : Value} (A : Around) (rx : RelV x v) (ry : RelV y u) (hu : A.units < cLine) (E : Value → Shared → Prop) (Q : Bool → Shared → Prop) (hq : Q true s) : wpAny (model X.prog X.w) A (eqBool v u) Q E s := by
  obtain ⟨a, b, ka, kb, rfl, rfl, ha, hb, hl, hs⟩ := h
  cases rx
  cases ry
  by_cases hab : a = b
  · subst hab; exact EqAt.same _ _ _ _ _ hq
  obtain ⟨_, n1, va, r1, d1⟩ := dk_of I.hok ha
  obtain ⟨_, n2, vb, r2, d2⟩ := dk_of I.hok hb
  have hne : ¬ (Value.ref a == Value.ref b) = true := fun z => hab (by injection (eq_of_beq z))
  unfold eqBool
  refine wpAny_holding ?_
  rw [if_neg hne]
  refine wpAny_bind (keq_eq (knd := mixKind X.prog X.w) (r := true) n1 n2 d1 d2 hu (fun _ => hits_gen r2 r1 hs) ?_)
  have : (va.length == vb.length && true) = true := by rw [← r1.length, ← r2.length, hl, beq_self_eq_true]; rfl
  rw [this]
  exact wpAny_truthy_bool hq
def rDD (K : PySem.W.Frag) (b : Bool) : R2 := fun x y H Q => ∃ p q x1 x2 y1 y2, x = .ref p ∧ y = .ref q ∧ SqT K H p [x1, x2] ∧ SqT K H q [y1, y2] ∧ AlD H x1 y1 ∧ AlD H x2 y2 ∧ Q (.bl b) H
theorem op_neDD (hu : X.A.units + 100 < cLine) : OpR X (compareOp .NotEq) (rDD X.K false) := by
  intro pins s σ H x y v u Q I rx ry h
  obtain ⟨a, b, x1, x2, y1, y2, rfl, rfl, ha, hb, al1, al2, q⟩ := h
  cases rx
  cases ry
  obtain ⟨its, r, ht, _⟩ := I.tuple ha
  obtain ⟨its2, r2, ht2, _⟩ := I.tuple hb
  obtain ⟨u1, u2, rfl, p1, p2⟩ := vals2 r
  obtain ⟨w1, w2, rfl, q1, q2⟩ := vals2 r2
  exact ne_pair ht ht2 (by lia) (al1.eqB I _ p1 q1 (by show X.A.units + 1 < cLine; lia)) (al2.eqB I _ p2 q2 (by show X.A.units + 1 < cLine; lia)) ⟨.bl false, H, I, rfl, q⟩
end
end L2
end
section
set_option linter.all false
set_option maxRecDepth 100000
set_option maxHeartbeats 1000000
namespace Wb
open PySem L2
section
variable {web w : Web} {first : Str} {far far' : Tb} {ways ah : List (Str × Str)} {ds : List Str}
theorem exact_congr (h : ∀ n, Gm.dget far n = Gm.dget far' n) {r : Row} : Exact far r ↔ Exact far' r := by
  unfold Exact
  rw [h r.1, h r.2.1]
theorem FarOk.noFirst (F : FarOk w first far) (hw : ∀ r ∈ w, 1 ≤ r.2.2) {r : Row} (hr : r ∈ w) (h : r.2.1 = first) : ¬ Exact far r := fun ⟨u, e1, e2⟩ => by
  rw [h, F.zero] at e2
  have := Option.some.inj e2
  have h1 := hw r hr
  have h2 := F.pos _ _ e1
  lia
theorem WaysI.le (h : ∀ n, Gm.dget far n = Gm.dget far' n) (W : WaysI far ways w) (V : WaysI far' ah w) {g s : Str} (e : Gm.dget ways g = some s) : Gm.dget ah g = some s := by
  obtain ⟨⟨r, rm, rg, rs, ex⟩, lo⟩ := W.of g s e
  cases e2 : Gm.dget ah g with
  | none => exact absurd ((exact_congr h).mp ex) (V.no g e2 r rm rg)
  | some s' =>
    obtain ⟨⟨r', rm', rg', rs', ex'⟩, lo'⟩ := V.of g s' e2
    have a1 := lo' r rm rg ((exact_congr h).mp ex)
    have a2 := lo r' rm' rg' ((exact_congr h).mpr ex')
    rw [rs] at a1
    rw [rs'] at a2
    by_cases z : s = s'
    · rw [z]
    · rcases slt_slo.tot _ _ z with t | t
      · rw [a1] at t; cases t
      · rw [a2] at t; cases t
theorem WaysI.one (h : ∀ n, Gm.dget far n = Gm.dget far' n) (W : WaysI far ways w) (V : WaysI far' ah w) (g : Str) : Gm.dget ways g = Gm.dget ah g := by
  cases e : Gm.dget ways g with
  | some s => rw [WaysI.le h W V e]
  | none =>
    cases e2 : Gm.dget ah g with
    | none => rfl
    | some s =>
      have := WaysI.le (fun n => (h n).symm) V W e2
      rw [e] at this
      cases this
end
end Wb
namespace L2
open PySem
theorem len_same {β : Type} {t t' : List (Str × β)} (nd : (t.map (·.1)).Nodup) (nd' : (t'.map (·.1)).Nodup) (h : ∀ n, Gm.dget t n = Gm.dget t' n) : t.length = t'.length := by
  have k : ∀ {a b : List (Str × β)}, (∀ n, Gm.dget a n = Gm.dget b n) → ∀ n ∈ a.map (·.1), n ∈ b.map (·.1) := fun {a b} h n hn => by
    cases e : Gm.dget b n with
    | none =>
      rw [← h n, Gm.dget_none] at e
      exact absurd hn e
    | some v => exact List.mem_map.mpr ⟨_, Gm.dget_some e, rfl⟩
  have l1 := Wb.nd_len nd (k h)
  have l2 := Wb.nd_len nd' (k fun n => (h n).symm)
  rw [List.length_map, List.length_map] at l1 l2
  lia
theorem sameD_W {t t' : Tb} (nd : (t.map (·.1)).Nodup) (nd' : (t'.map (·.1)).Nodup) (h : ∀ n, Gm.dget t n = Gm.dget t' n) : SameD (kvW t) (kvW t') := by
  refine ⟨by rw [kvW_len, kvW_len]; exact len_same nd nd' h, fun k v hm => ?_⟩
  obtain ⟨⟨n, i⟩, h1, h2⟩ := List.mem_map.mp hm
  cases h2
  exact ⟨rfl, by rw [kvW_get, ← h, Gm.dget_of nd h1]; rfl⟩
theorem sameD_S {t t' : List (Str × Str)} (nd : (t.map (·.1)).Nodup) (nd' : (t'.map (·.1)).Nodup) (h : ∀ n, Gm.dget t n = Gm.dget t' n) : SameD (kvS t) (kvS t') := by
  refine ⟨by rw [kvS_len, kvS_len]; exact len_same nd nd' h, fun k v hm => ?_⟩
  obtain ⟨⟨n, i⟩, h1, h2⟩ := List.mem_map.mp hm
  cases h2
  exact ⟨rfl, by rw [kvS_get, ← h, Gm.dget_of nd h1]; rfl⟩
end L2
end
section
set_option linter.all false
set_option maxRecDepth 100000
set_option maxHeartbeats 4000000
namespace HT
open PySem PyProof.Rows
section
variable {prog : Program} {w : World} {A : Around} {E : Value → Shared → Prop} {s : Shared}
end
end HT
namespace L2
open PySem PySem.Spec PyProof.Rows
section
variable {X : Cx}
end
end L2
end
section
set_option linter.all false
set_option maxRecDepth 100000
set_option maxHeartbeats 1000000
namespace Wb
open PySem L2
section
variable {w w' : Web} {first : Str} {far far' : Tb} {ways : List (Str × Str)}
end
end Wb
end
section
set_option linter.all false
set_option maxRecDepth 100000
set_option maxHeartbeats 1000000
namespace L2
open PySem PySem.Spec PyProof.Rows
section
variable {X : Cx}
theorem op_rep1 : OpR X (binaryOp .Mult) (fun x y H Q => ∃ z : Str, x = .str z ∧ y = .int 1 ∧ Q (.str z) H) := by
  intro pins s σ H x y v u Q I rx ry h
  obtain ⟨z, rfl, rfl, q⟩ := h
  obtain ⟨t, rfl⟩ := rx
  obtain ⟨t', rfl⟩ := ry
  refine PySem.P.mul_str (by decide) (fun _ h => by simp at h) (fun _ h => by simp at h) ?_
  rw [if_neg (by decide), if_pos (by rfl)]
  exact ⟨.str z, H, I, ⟨t, rfl⟩, q⟩
end
def stems : List Str := ["", "", "heap", "put", "b", "zz", "least", "lengthy"]
def ownS (fi : Int) (j : Nat) : Str := ⟨#[97 + ((fi + 5 * (j : Int)) % 26).toNat]⟩
def NameAt (fi : Int) (j : Nat) (x : Str) : Prop := ∃ stem : Str, x = (if fi / 26 % 2 = 0 then stem ++ ownS fi j else ownS fi j ++ stem) ∧ (j ≤ 25 → stem ∈ stems) ∧ (25 < j → stem = "w")
theorem str_eq {a b : Str} (h : a.cps.toList = b.cps.toList) : a = b := by
  cases a; cases b
  congr 1
  exact Array.ext' h
theorem NameAt.ne {fi : Int} {i j : Nat} {x : Str} (a : NameAt fi i x) (b : NameAt fi j x) (h : i < j) (hj : j < 52) : False := by
  obtain ⟨s1, e1, a1, a2⟩ := a
  obtain ⟨s2, e2, b1, b2⟩ := b
  have key : ownS fi i = ownS fi j ∧ s1 = s2 := by
    rw [e1] at e2
    by_cases c : fi / 26 % 2 = 0
    · rw [if_pos c, if_pos c] at e2
      have e3 : s1.cps.toList ++ (ownS fi i).cps.toList = s2.cps.toList ++ (ownS fi j).cps.toList := by
        have := congrArg (fun z : Str => z.cps.toList) e2
        rw [← Array.toList_append, ← Array.toList_append]
        exact this
      obtain ⟨h1, h2⟩ := List.append_inj' e3 rfl
      exact ⟨str_eq h2, str_eq h1⟩
    · rw [if_neg c, if_neg c] at e2
      have e3 : (ownS fi i).cps.toList ++ s1.cps.toList = (ownS fi j).cps.toList ++ s2.cps.toList := by
        have := congrArg (fun z : Str => z.cps.toList) e2
        rw [← Array.toList_append, ← Array.toList_append]
        exact this
      obtain ⟨h1, h2⟩ := List.append_inj e3 rfl
      exact ⟨str_eq h1, str_eq h2⟩
  obtain ⟨k1, k2⟩ := key
  have k3 : 97 + ((fi + 5 * (i : Int)) % 26).toNat = 97 + ((fi + 5 * (j : Int)) % 26).toNat := by
    have := congrArg (fun z : Str => z.cps.toList) k1
    exact (List.cons.inj this).1
  have ij : j = i + 26 := by try omega
  have w1 := b2 (by lia)
  have w2 := a1 (by lia)
  rw [k2, w1] at w2
  revert w2
  decide +kernel
theorem names_nd {fi : Int} {xs : List Str} (h : ∀ (j : Nat) (x : Str), xs[j]? = some x → NameAt fi j x) (hl : xs.length ≤ 52) : xs.Nodup := by
  rw [List.nodup_iff_pairwise_ne, List.pairwise_iff_getElem]
  intro i j hi hj hij e
  exact NameAt.ne (h i _ (List.getElem?_eq_getElem hi)) (by rw [e]; exact h j _ (List.getElem?_eq_getElem hj)) hij (by lia)
theorem perm_wr {H : Hp} {zs ys : List V} {w : Wb.Web} (p : ys.Perm zs) (r : WR3 H zs w) : ∃ v, WR3 H ys v ∧ v.Perm w := by
  induction p generalizing w with
  | nil => cases r; exact ⟨[], .nil, .nil⟩
  | cons x p ih =>
    cases r with
    | cons h t =>
      obtain ⟨v, h1, h2⟩ := ih t
      exact ⟨_ :: v, .cons h h1, h2.cons _⟩
  | swap x y l =>
    cases r with
    | cons h t =>
      cases t with
      | cons h' t' => exact ⟨_ :: _ :: _, .cons h' (.cons h t'), .swap ..⟩
  | trans _ _ ih1 ih2 =>
    obtain ⟨v, h1, h2⟩ := ih2 r
    obtain ⟨v', h3, h4⟩ := ih1 h1
    exact ⟨v', h3, h4.trans h2⟩
end L2
namespace Wb
open PySem L2
structure Pla (names : List Str) (k : Nat) (t : Tb) : Prop where
  key : t.map (·.1) = names.take k
  zero : ∀ n, names[0]? = some n → Gm.dget t n = some 0
  pos : ∀ (j : Nat) (n : Str), 1 ≤ j → j < k → names[j]? = some n → ∃ v, Gm.dget t n = some v ∧ 1 ≤ v ∧ ∃ (i : Nat) (m : Str) (u : Int), i < j ∧ names[i]? = some m ∧ Gm.dget t m = some u ∧ 0 < v - u ∧ v - u < 10 ^ 30
section
variable {names : List Str} {k : Nat} {t : Tb}
theorem Pla.start {n : Str} (h : names[0]? = some n) : Pla names 1 [(n, 0)] := by
  refine ⟨?_, fun m e => ?_, fun j m h1 h2 => absurd h2 (by lia)⟩
  · rw [List.take_add_one, h]; rfl
  · rw [h] at e; cases e
    exact Gm.dget_of (by simp) (by simp)
theorem Pla.nd (P : Pla names k t) (hn : names.Nodup) : (t.map (·.1)).Nodup := by rw [P.key]; exact hn.sublist (List.take_sublist ..)
theorem Pla.has (P : Pla names k t) {j : Nat} {n : Str} (hj : j < k) (h : names[j]? = some n) : ∃ v, Gm.dget t n = some v := by
  by_cases z : j = 0
  · subst z; exact ⟨0, P.zero n h⟩
  · obtain ⟨v, e, _⟩ := P.pos j n (by lia) hj h
    exact ⟨v, e⟩
theorem Pla.ge (P : Pla names k t) {j : Nat} {n : Str} {v : Int} (hj : j < k) (h : names[j]? = some n) (e : Gm.dget t n = some v) : 0 ≤ v := by
  by_cases z : j = 0
  · subst z; rw [P.zero n h] at e; cases e; decide
  · obtain ⟨v', e', l, _⟩ := P.pos j n (by lia) hj h
    rw [e] at e'; cases e'; lia
theorem Pla.next (P : Pla names k t) (hn : names.Nodup) {n : Str} {v : Int} (h : names[k]? = some n) (hk : 1 ≤ k) (hv : 1 ≤ v) {i : Nat} {m : Str} {u : Int} (hi : i < k) (hm : names[i]? = some m) (hu : Gm.dget t m = some u) (h1 : 0 < v - u) (h2 : v - u < 10 ^ 30) : Pla names (k + 1) (Gm.dput t n v) := by
  have ne : ∀ {j : Nat} {m : Str}, j < k → names[j]? = some m → m ≠ n := fun {j m} hj hm z => by
    obtain ⟨a1, a2⟩ := List.getElem?_eq_some_iff.mp hm
    obtain ⟨b1, b2⟩ := List.getElem?_eq_some_iff.mp h
    have := (List.getElem_inj (h₀ := a1) (h₁ := b1) hn).mp (by rw [a2, b2, z])
    lia
  have nin : n ∉ t.map (·.1) := fun z => by
    rw [P.key] at z
    obtain ⟨j, hj, ej⟩ := List.getElem_of_mem z
    rw [List.length_take] at hj
    rw [List.getElem_take] at ej
    exact ne (j := j) (by lia) (by rw [List.getElem?_eq_getElem (by lia), ej]) rfl
  have old : ∀ {j : Nat} {m : Str} {x : Int}, j < k → names[j]? = some m → Gm.dget t m = some x → Gm.dget (Gm.dput t n v) m = some x := fun {j m x} hj hm e => by rw [tget_put (P.nd hn), if_neg (ne hj hm)]; exact e
  refine ⟨?_, fun m e => old (by lia) e (P.zero m e), fun j m' h3 h4 h5 => ?_⟩
  · rw [Gm.dput_keys, if_neg nin, P.key, List.take_add_one, h]; rfl
  · by_cases z : j = k
    · subst z
      rw [h] at h5
      cases h5
      exact ⟨v, by rw [tget_put (P.nd hn), if_pos rfl], hv, i, m, u, hi, hm, old hi hm hu, h1, h2⟩
    · obtain ⟨x, e1, e2, i', m2, u2, e3, e4, e5, e6, e7⟩ := P.pos j m' h3 (by lia) h5
      exact ⟨x, old (by lia) h5 e1, e2, i', m2, u2, e3, e4, old (by lia) e4 e5, e6, e7⟩
structure PlaW (names : List Str) (many : Nat) (t : Tb) (w : Web) : Prop where
  ok : ∀ r ∈ w, 1 ≤ r.2.2 ∧ r.1 ∈ names ∧ r.2.1 ∈ names.take many ∧ ∀ u v, Gm.dget t r.1 = some u → Gm.dget t r.2.1 = some v → v ≤ u + r.2.2
  rows : ∀ (j : Nat) (n : Str), 1 ≤ j → j < many → names[j]? = some n → ∃ r ∈ w, r.2.1 = n ∧ ∃ u v, Gm.dget t r.1 = some u ∧ Gm.dget t n = some v ∧ u + r.2.2 = v
theorem Pla.far {many : Nat} {w : Web} {first : Str} (P : Pla names many t) (hn : names.Nodup) (hf : names[0]? = some first) (W : PlaW names many t w) : FarOk w first t := by
  have idx : ∀ n v, Gm.dget t n = some v → ∃ j, j < many ∧ names[j]? = some n := fun n v e => by
    have : n ∈ t.map (·.1) := List.mem_map.mpr ⟨_, Gm.dget_some e, rfl⟩
    rw [P.key] at this
    obtain ⟨j, hj, ej⟩ := List.getElem_of_mem this
    rw [List.length_take] at hj
    rw [List.getElem_take] at ej
    exact ⟨j, by lia, by rw [List.getElem?_eq_getElem (by lia), ej]⟩
  refine ⟨⟨P.nd hn, P.zero _ hf, fun n v e => ?_, fun n v e => ?_⟩, fun r hr u e => ?_⟩
  · obtain ⟨j, h1, h2⟩ := idx n v e
    exact P.ge h1 h2 e
  · obtain ⟨j, h1, h2⟩ := idx n v e
    by_cases z : j = 0
    · subst z; rw [hf] at h2; cases h2; exact .inl rfl
    · obtain ⟨r, hr, eg, u, v', e1, e2, e3⟩ := W.rows j n (by lia) h1 h2
      rw [e] at e2
      cases e2
      exact .inr ⟨r.1, r.2.2, u, by rw [← eg]; exact hr, e1, by lia⟩
  · obtain ⟨_, _, h3, h4⟩ := W.ok r hr
    obtain ⟨j, hj, ej⟩ := List.getElem_of_mem h3
    rw [List.length_take] at hj
    rw [List.getElem_take] at ej
    obtain ⟨v, ev⟩ := P.has (j := j) (n := r.2.1) (by lia) (by rw [List.getElem?_eq_getElem (by lia), ej])
    exact ⟨v, ev, h4 u v e ev⟩
theorem PlaW.congr {many : Nat} {w w' : Web} (W : PlaW names many t w) (h : ∀ r, r ∈ w ↔ r ∈ w') : PlaW names many t w' := ⟨fun r hr => W.ok r ((h r).mpr hr), fun j n h1 h2 h3 => by
  obtain ⟨r, hr, e⟩ := W.rows j n h1 h2 h3
  exact ⟨r, (h r).mp hr, e⟩⟩
theorem PlaW.snoc {many : Nat} {w : Web} (W : PlaW names many t w) {r : Row} (h : 1 ≤ r.2.2 ∧ r.1 ∈ names ∧ r.2.1 ∈ names.take many ∧ ∀ u v, Gm.dget t r.1 = some u → Gm.dget t r.2.1 = some v → v ≤ u + r.2.2) : PlaW names many t (w ++ [r]) := ⟨fun q hq => (List.mem_append.mp hq).elim (W.ok q) fun z => by rw [List.mem_singleton.mp z]; exact h, fun j n h1 h2 h3 => by
  obtain ⟨q, hq, e⟩ := W.rows j n h1 h2 h3
  exact ⟨q, List.mem_append_left _ hq, e⟩⟩
theorem min_same {a b : Str} : (if slt b a = true then b else a) = (if slt a b = true then a else b) := by
  by_cases z : a = b
  · subst z; split <;> rfl
  · by_cases c : slt b a = true
    · have d : ¬ slt a b = true := fun y => by
        have := slt_slo.tr _ _ _ c y
        rw [slt_slo.irr] at this
        cases this
      rw [if_pos c, if_neg d]
    · rcases slt_slo.tot _ _ z with y | y
      · rw [if_neg c, if_pos y]
      · exact absurd y c
end
end Wb
end
section
set_option linter.all false
set_option maxRecDepth 100000
namespace Kx
open PySem L2
def top (i : Nat) : Stmt := PySem.Challenge.pw_lategone_k34_whole_planted_ways.main.body.getD i (.Pass ⟨0, 0, 0, 0⟩)
end Kx
end
section
set_option linter.all false
set_option maxRecDepth 100000
set_option maxHeartbeats 4000000
namespace Kx
open PySem L2
section
variable {P : Program} {w : World} {K : PySem.W.Frag} {mg : Str → Option Value} {base : Heap}
open Hm
abbrev sNumber : Stmt := top 26
theorem scNumber : FnScope ["script", "k", "cells", "size", "cell", "turn", "step", "seed"] ["script", "k"] (defScope sNumber) := ⟨rfl, rfl, rfl, (by simp only [List.nodup_cons, List.mem_cons, List.not_mem_nil, or_false, not_or, List.nodup_nil, and_true, not_false_eq_true]; (repeat' apply And.intro); all_goals decide +kernel), rfl, by decide +kernel, by decide +kernel⟩
def spNumber (K : PySem.W.Frag) : Sp := fun vs H Q _ => ∃ (a : Addr) (ns : List Int) (k : Int), vs = [.ref a, .int k] ∧ SqL K H a (ns.map V.int) ∧ ns.length ≤ 63 ∧ 0 ≤ k ∧ ∀ r H', 0 ≤ r → r < 1000000 → Same H H' → Q (.int r) H'
theorem ok_number {f : Addr} {fd : FuncData} (F : Fun K "_law_number" "_law_number" sNumber f fd) (T : Bl mg) (z_max : mg "max" = none) (z_min : mg "min" = none) : FnOk P w K mg base CX0 1 f fd ["script", "k"] (spNumber K) := by
 have sc := scNumber
 refine F.okQ scNumber (fun vs H Q E h => ?_) (fun cdv A outer s H vs Q E hr h => ?_)
 ·obtain ⟨a, ns, k, rfl, _⟩ := h
  rfl
 ·obtain ⟨a, ns, k, rfl, hS, hn, hk, kQ⟩ := h
  have hu := hr.units0
  refine ⟨_, (qss_cons (qs_set (i := 2) sc.nd rfl (Or.inl rfl) (qe_op op_cat (qe_callTy call_list_of (by rfl) T.z_list (by decide +kernel) (qa_cons (qv 0) qa_nil)) (qe_lst (qa_cons qe_int qa_nil))))
   (qss_cons (qs_set (i := 3) sc.nd rfl (Or.inl rfl) (qe_callB (call_max2 rfl) (by rfl) z_max (by decide +kernel) (qa_cons qe_int (qa_cons (qe_callB call_len_seq (by rfl) T.z_len (by decide +kernel) (qa_cons (qv 0) qa_nil)) qa_nil))))
   (qss_cons (qs_set (i := 4) sc.nd rfl (Or.inl rfl) (qe_ix ix_list (qv 2) (qe_op op_mod (qv 1) (qv 3)) (fun _ _ => rfl)))
   (qss_cons (qs_set (i := 5) sc.nd rfl (Or.inl rfl) (qe_op op_fdivB (qv 1) (qv 3)))
   (qss_cons (qs_if (qt_cmpR op_ge (qv 4) (qe_op op_pow qe_int qe_int) (nomark _)) (qss_cons (qs_for PassesOwn.never rfl (qi_range1 rfl T.z_range (qa_cons (qe_callB (call_min2 rfl) (by rfl) z_min (by decide +kernel) (qa_cons (qv 5) (qa_cons qe_int qa_nil))) qa_nil)) (qg_name (i := 6) sc.nd rfl (Or.inl rfl)) (qss_one (qs_set (i := 4) sc.nd rfl (Or.inl rfl) (qe_op op_fdivB (qv 4) qe_int))))
   (qss_one (qs_ret (qe_op op_mod (qv 4) qe_int)))) qss_nil)
   (qss_cons (qs_set (i := 7) sc.nd rfl (Or.inl rfl) (qe_op op_mod (qe_op op_mul (qe_op op_add (qe_op op_add (qe_op op_add (qe_op op_mod (qv 4) qe_int) qe_int) (qe_op op_mul qe_int (qv 5))) (qe_op op_mul qe_int (qv 1))) qe_int) qe_int))
   (qss_cons (qs_set (i := 7) sc.nd rfl (Or.inl rfl) (qe_op op_mod (qe_op op_add (qe_op op_add (qe_op op_mul (qv 7) (qv 7)) (qe_op op_mul qe_int (qv 5))) (qe_op op_mul qe_int (qv 1))) qe_int))
   (qss_one (qs_ret (qe_op op_mod (qe_op op_fdivB (qe_op op_mod (qe_op op_mul (qv 7) qe_int) qe_int) qe_int) qe_int)))))))))), ?_⟩
  have t1 : ∀ {H' : Hp}, Same H H' → SqL K H' a (ns.map V.int) := fun k => hS.imp (fun z => z.imp (k _ _) (fun ⟨o, e⟩ => ⟨o, k _ _ e⟩)) id
  refine ⟨_, rfl, a, _, rfl, .inl hS, fun l1 hl1 => ?_⟩
  have s1 := same_new (o := .lst (ns.map V.int)) hl1
  have g1 := upd_same (H := H) (a := l1) (o := .lst (ns.map V.int))
  generalize upd H l1 (.lst (ns.map V.int)) = H1 at s1 g1 ⊢
  refine ⟨by show 1 ≤ sizeLine; decide, fun l2 hl2 => ?_⟩
  have s2 := same_new (o := .lst [.int 0]) hl2
  have g2 := upd_same (H := H1) (a := l2) (o := .lst [.int 0])
  generalize upd H1 l2 (.lst [.int 0]) = H2 at s2 g2 ⊢
  have lm : (ns.map V.int).length = ns.length := List.length_map ..
  refine ⟨l1, l2, _, _, rfl, rfl, s2 _ _ g1, g2, Nat.le_trans (show (ns.map V.int).length + 1 ≤ 1000 by lia) (by decide), fun l3 hl3 => ?_⟩
  have e3 : ns.map V.int ++ [.int 0] = (ns ++ [0]).map V.int := by rw [List.map_append]; rfl
  rw [e3]
  have s3 := same_new (o := .lst ((ns ++ [0]).map V.int)) hl3
  have g3 := upd_same (H := H2) (a := l3) (o := .lst ((ns ++ [0]).map V.int))
  have sH := (s1.trans s2).trans s3
  generalize upd H2 l3 (.lst ((ns ++ [0]).map V.int)) = H3 at s3 g3 sH ⊢
  refine ⟨_, rfl, a, _, rfl, .inl (t1 sH), 1, _, rfl, ?_⟩
  rw [lm]
  obtain ⟨sz, esz, z1, z2, z3⟩ : ∃ sz : Int, (if (ns.length : Int) > 1 then (ns.length : Int) else 1) = sz ∧ 1 ≤ sz ∧ sz ≤ 63 ∧ sz ≤ (ns ++ [0]).length := by
   refine ⟨_, rfl, ?_, ?_, ?_⟩
   ·split <;> lia
   ·split <;> lia
   ·rw [List.length_append]
    split <;> simp <;> lia
  rw [esz]
  have p0 : 0 ≤ k % sz := mod_lo (by lia)
  have p1 : k % sz < sz := mod_hi (by lia)
  refine ⟨_, rfl, _, rfl, _, rfl, _, _, rfl, rfl, (by show (0 : Int) < sz; lia), l3, _, _, _, rfl, rfl, SqL.of g3, ix_int p0 (by lia), ?_⟩
  refine ⟨_, rfl, _, rfl, _, _, rfl, rfl, ⟨by lia, by lia⟩, ?_⟩
  have tn : 0 ≤ k / sz := Int.ediv_nonneg hk (by lia)
  generalize (ns ++ [0]).getD (k % sz).toNat 0 = cell
  refine ⟨_, rfl, _, _, rfl, rfl, ⟨by decide, by decide, by decide⟩, _, _, rfl, rfl, _, rfl, ite2 (fun _ => ?_) (fun _ => ?_)⟩
  ·obtain ⟨mt, emt, y1, y2⟩ : ∃ mt : Nat, (if (60 : Int) < (k / sz) then (60 : Int) else (k / sz)) = (mt : Int) ∧ True ∧ mt ≤ 60 := by
    refine ⟨(if (60 : Int) < (k / sz) then (60 : Int) else (k / sz)).toNat, ?_, trivial, ?_⟩
    ·split <;> lia
    ·split <;> lia
   refine ⟨_, rfl, (k / sz), 60, rfl, ?_⟩
   rw [emt]
   refine ⟨_, rfl, by lia, by lia, ?_⟩
   rw [Int.toNat_natCast]
   refine for_range (lo := 0) (n := mt) (fun i σ H4 => ∃ (c : Int) (o : Option V), σ = [some (.ref a), some (.int k), some (.ref l3), some (.int sz), some (.int c), some (.int (k / sz)), o, none] ∧ H4 = H3) ⟨cell, none, rfl, rfl⟩ ?_ ?_
   ·rintro i σ H4 hi ⟨c, o, rfl, rfl⟩
    exact ⟨_, rfl, _, _, rfl, rfl, ⟨by decide, by decide⟩, _, _, rfl, rfl⟩
   ·rintro σ H4 ⟨c, o, rfl, rfl⟩
    exact ⟨_, rfl, _, _, rfl, rfl, (by show (0 : Int) < _; decide), kQ _ _ (mod_lo (by decide)) (mod_hi (by decide)) sH⟩
  ·refine ⟨_, rfl, _, _, rfl, rfl, (by show (0 : Int) < _; decide), _, _, rfl, rfl, _, rfl, _, _, rfl, rfl, .inl ⟨by decide, by decide⟩, _, _, rfl, rfl, _, rfl, _, _, rfl, rfl, .inl ⟨by decide, by decide⟩, _, _, rfl, rfl, _, _, rfl, rfl, .inr ⟨by decide, by decide⟩, _, _, rfl, rfl, (by show (0 : Int) < _; decide), ?_⟩
   refine ⟨_, rfl, _, rfl, _, _, rfl, rfl, .inl ⟨?b1, ?b2⟩, _, rfl, _, _, rfl, rfl, .inl ⟨by decide, by decide⟩, _, _, rfl, rfl, _, rfl, _, _, rfl, rfl, .inl ⟨by decide, by decide⟩, _, _, rfl, rfl, _, _, rfl, rfl, (by show (0 : Int) < _; decide), ?_⟩
   case b1 => exact Int.lt_of_lt_of_le (by decide) (mod_lo (b := 2147483647) (by decide))
   case b2 => exact Int.lt_trans (mod_hi (b := 2147483647) (by decide)) (by decide)
   exact ⟨_, rfl, _, _, rfl, rfl, .inr ⟨by decide, by decide⟩, _, _, rfl, rfl, (by show (0 : Int) < _; decide), _, _, rfl, rfl, ⟨by decide, by decide⟩, _, _, rfl, rfl, (by show (0 : Int) < _; decide), kQ _ _ (mod_lo (by decide)) (mod_hi (by decide)) sH⟩
end
end Kx
end
section
set_option linter.all false
set_option maxRecDepth 100000
set_option maxHeartbeats 4000000
namespace Kx
open PySem L2
section
variable {P : Program} {w : World} {K : PySem.W.Frag} {mg : Str → Option Value} {base : Heap}
open Hm
abbrev sExact : Stmt := top 22
theorem scExact : FnScope ["row", "lengths"] ["row", "lengths"] (defScope sExact) := ⟨rfl, rfl, rfl, (by simp only [List.nodup_cons, List.mem_cons, List.not_mem_nil, or_false, not_or, List.nodup_nil, and_true, not_false_eq_true]; (repeat' apply And.intro); all_goals decide +kernel), rfl, by decide +kernel, by decide +kernel⟩
def spExact : Sp := fun vs H Q _ => ∃ (a d : Addr) (r : Wb.Row) (t : Tb), vs = [.ref a, .ref d] ∧ H a = some (.tup (rowV r)) ∧ H d = some (.dK (kvW t)) ∧ ∀ b : Bool, (b = true ↔ Wb.Exact t r) → Q (.bl b) H
theorem ok_exact {f : Addr} {fd : FuncData} (F : Fun K "is_exact" "is_exact" sExact f fd) (T : Bl mg) : FnOk P w K mg base CX0 1 f fd ["row", "lengths"] spExact := by
 have sc := scExact
 refine F.okQ scExact (fun vs H Q E h => ?_) (fun cdv A outer s H vs Q E hr h => ?_)
 ·obtain ⟨a, d, r, t, rfl, _⟩ := h
  rfl
 ·obtain ⟨a, d, r, t, rfl, ha, hd, k⟩ := h
  have hu := hr.units0
  refine ⟨_, (qss_one (qs_ret (qe_and (qe_din (hu_of hr) (qe_ix ix_tup (qv 0) qe_int (fun _ _ => rfl)) (qv 1)) (qe_one (qe_cmpR op_eq (qe_dget1 (hu_of hr) (qv 1) (qe_ix ix_tup (qv 0) qe_int (fun _ _ => rfl)) ⟨rfl, rfl, rfl, rfl⟩) (qe_op op_add (qe_dget (hu_of hr) (qv 1) (qe_ix ix_tup (qv 0) qe_int (fun _ _ => rfl)) (fun _ _ => rfl)) (qe_ix ix_tup (qv 0) qe_int (fun _ _ => rfl))) (nomark _)))))), ?_⟩
  refine ⟨_, rfl, a, _, 0, _, rfl, rfl, SqT.of ha, rfl, _, rfl, d, _, rfl, DGet.k (k := Sum.inr r.1) hd, _, rfl, ?_⟩
  rw [kvW_get]
  cases e1 : Gm.dget t r.1 with
  | none =>
   rw [if_neg (by simp)]
   exact k false ⟨fun z => (nomatch z), fun ⟨u, h, _⟩ => by rw [e1] at h; cases h⟩
  | some u =>
   rw [if_pos (by rfl)]
   have g1 : DGet H d (.str r.1) (some (.int u)) := by have := DGet.k (k := Sum.inr r.1) hd; rw [kvW_get, e1] at this; exact this
   refine ⟨_, rfl, d, rfl, .inl ⟨_, .inl hd⟩, _, rfl, a, _, 1, _, rfl, rfl, SqT.of ha, rfl, _, DGet.k (k := Sum.inr r.2.1) hd, _, rfl, _, rfl, a, _, 0, _, rfl, rfl, SqT.of ha, rfl, d, _, rfl, g1, _, rfl, a, _, 2, _, rfl, rfl, SqT.of ha, rfl, u, r.2.2, rfl, rfl, ?_⟩
   rw [kvW_get]
   cases e2 : Gm.dget t r.2.1 with
   | none => exact ⟨rfl, k _ ⟨fun z => by simp at z, fun ⟨u', _, h⟩ => by rw [e2] at h; cases h⟩⟩
   | some v =>
    refine ⟨rfl, k _ ?_⟩
    rw [decide_eq_true_eq]
    refine ⟨fun h => ⟨u, e1, ?_⟩, fun ⟨u', h1, h2⟩ => ?_⟩
    ·have : v = u + r.2.2 := V.int.inj h
     rw [← this]; exact e2
    ·rw [e1] at h1; cases h1; rw [e2] at h2; cases h2; rfl
abbrev sNearer : Stmt := top 23
theorem scNearer : FnScope ["row", "lengths"] ["row", "lengths"] (defScope sNearer) := ⟨rfl, rfl, rfl, (by simp only [List.nodup_cons, List.mem_cons, List.not_mem_nil, or_false, not_or, List.nodup_nil, and_true, not_false_eq_true]; (repeat' apply And.intro); all_goals decide +kernel), rfl, by decide +kernel, by decide +kernel⟩
def spNearer : Sp := fun vs H Q _ => ∃ (a d : Addr) (r : Wb.Row) (t : Tb), vs = [.ref a, .ref d] ∧ H a = some (.tup (rowV r)) ∧ H d = some (.dK (kvW t)) ∧ ∀ b : Bool, (b = true ↔ Wb.Nearer t r) → Q (.bl b) H
theorem ok_nearer {f : Addr} {fd : FuncData} (F : Fun K "is_nearer" "is_nearer" sNearer f fd) (T : Bl mg) : FnOk P w K mg base CX0 1 f fd ["row", "lengths"] spNearer := by
 have sc := scNearer
 refine F.okQ scNearer (fun vs H Q E h => ?_) (fun cdv A outer s H vs Q E hr h => ?_)
 ·obtain ⟨a, d, r, t, rfl, _⟩ := h
  rfl
 ·obtain ⟨a, d, r, t, rfl, ha, hd, k⟩ := h
  have hu := hr.units0
  refine ⟨_, (qss_cons (qs_if (qt_dnotin (hu_of hr) (qe_ix ix_tup (qv 0) qe_int (fun _ _ => rfl)) (qv 1)) (qss_one (qs_ret qe_bl)) qss_nil)
   (qss_one (qs_ret (qe_or (qe_dnotin (hu_of hr) (qe_ix ix_tup (qv 0) qe_int (fun _ _ => rfl)) (qv 1)) (qe_one (qe_cmpR op_gt (qe_dget (hu_of hr) (qv 1) (qe_ix ix_tup (qv 0) qe_int (fun _ _ => rfl)) (fun _ _ => rfl)) (qe_op op_add (qe_dget (hu_of hr) (qv 1) (qe_ix ix_tup (qv 0) qe_int (fun _ _ => rfl)) (fun _ _ => rfl)) (qe_ix ix_tup (qv 0) qe_int (fun _ _ => rfl))) (nomark _))))))), ?_⟩
  refine ⟨_, rfl, a, _, 0, _, rfl, rfl, SqT.of ha, rfl, _, rfl, d, _, rfl, DGet.k (k := Sum.inr r.1) hd, _, rfl, ?_⟩
  rw [kvW_get]
  cases e1 : Gm.dget t r.1 with
  | none =>
   rw [if_pos (by rfl)]
   exact k false ⟨fun z => (nomatch z), fun ⟨u, h, _⟩ => by rw [e1] at h; cases h⟩
  | some u =>
   rw [if_neg (by simp)]
   refine ⟨_, rfl, a, _, 1, _, rfl, rfl, SqT.of ha, rfl, _, rfl, d, _, rfl, DGet.k (k := Sum.inr r.2.1) hd, _, rfl, ?_⟩
   rw [kvW_get]
   cases e2 : Gm.dget t r.2.1 with
   | none =>
    rw [if_pos (by rfl)]
    exact k true ⟨fun _ => ⟨u, e1, fun v h => by rw [e2] at h; cases h⟩, fun _ => rfl⟩
   | some v =>
    rw [if_neg (by simp)]
    have g1 : DGet H d (.str r.1) (some (.int u)) := by have := DGet.k (k := Sum.inr r.1) hd; rw [kvW_get, e1] at this; exact this
    have g2 : DGet H d (.str r.2.1) (some (.int v)) := by have := DGet.k (k := Sum.inr r.2.1) hd; rw [kvW_get, e2] at this; exact this
    refine ⟨_, rfl, _, rfl, a, _, 1, _, rfl, rfl, SqT.of ha, rfl, d, _, rfl, g2, _, rfl, _, rfl, a, _, 0, _, rfl, rfl, SqT.of ha, rfl, d, _, rfl, g1, _, rfl, a, _, 2, _, rfl, rfl, SqT.of ha, rfl, u, r.2.2, rfl, rfl, v, _, rfl, rfl, k _ ?_⟩
    rw [decide_eq_true_eq]
    exact ⟨fun h => ⟨u, e1, fun v' h' => by rw [e2] at h'; cases h'; exact h⟩, fun ⟨u', h1, h2⟩ => by rw [e1] at h1; cases h1; exact h2 v e2⟩
abbrev sByFrom : Stmt := top 24
theorem scByFrom : FnScope ["web", "rows", "row"] ["web"] (defScope sByFrom) := ⟨rfl, rfl, rfl, (by simp only [List.nodup_cons, List.mem_cons, List.not_mem_nil, or_false, not_or, List.nodup_nil, and_true, not_false_eq_true]; (repeat' apply And.intro); all_goals decide +kernel), rfl, by decide +kernel, by decide +kernel⟩
def spByFrom (K : PySem.W.Frag) : Sp := fun vs H Q _ => ∃ (p : Addr) (zs : List V) (w : Wb.Web), vs = [.ref p] ∧ (SqL K H p zs ∨ SqT K H p zs) ∧ WR3 H zs w ∧ w.length ≤ 900 ∧ ∀ d kvs H', H' d = some (.dK kvs) → H d = none → RowsI H H' kvs w → Same H H' → Q (.ref d) H'
theorem ok_byfrom {f : Addr} {fd : FuncData} (F : Fun K "by_from" "by_from" sByFrom f fd) (T : Bl mg) : FnOk P w K mg base CX0 1 f fd ["web"] (spByFrom K) := by
 have sc := scByFrom
 refine F.okQ scByFrom (fun vs H Q E h => ?_) (fun cdv A outer s H vs Q E hr h => ?_)
 ·obtain ⟨p, zs, w, rfl, _⟩ := h
  rfl
 ·obtain ⟨p, zs, w, rfl, hp, wr, lw, k⟩ := h
  have hu := hr.units0
  refine ⟨_, (qss_cons (qs_set (i := 1) sc.nd rfl (Or.inl rfl) qe_dnewK)
   (qss_cons (qs_for PassesOwn.never rfl (qi_seq (qv 0)) (qg_name (i := 2) sc.nd rfl (Or.inl rfl)) (qss_one (qs_expr (qe_bm PySem.F.plainAttrs_list PySem.F.slot_list_append PySem.F.type_list_append mt_append (qe_dsetd (qv 1) (qe_ix ix_tup (qv 2) qe_int (fun _ _ => rfl)) (qe_lst qa_nil) ⟨rfl, rfl, rfl, rfl⟩) (qa_cons (qv 2) qa_nil)))))
   (qss_one (qs_ret (qv 1))))), ?_⟩
  refine fun d hd => ?_
  have s1 := same_new (o := .dK []) hd
  have g1 := upd_same (H := H) (a := d) (o := .dK [])
  generalize upd H d (.dK []) = H1 at s1 g1 ⊢
  have lz := wr.len
  let Pv : Nat → St → Hp → Prop := fun i σ H2 => ∃ (o : Option V) (kvs : List (Key × V)), σ = [some (.ref p), some (.ref d), o] ∧ H2 d = some (.dK kvs) ∧ RowsI H H2 kvs (w.take i) ∧ Same H H2
  have p0 : Pv 0 [some (.ref p), some (.ref d), none] H1 := ⟨none, [], rfl, g1, RowsI.nil, s1⟩
  have tl : ∀ {H' : Hp}, Same H H' → SqL K H p zs → SqL K H' p zs := fun k h => h.imp (fun z => z.imp (k _ _) (fun ⟨o, e⟩ => ⟨o, k _ _ e⟩)) id
  have tt : ∀ {H' : Hp}, Same H H' → SqT K H p zs → SqT K H' p zs := fun k h => h.imp (fun z => z.imp (k _ _) (fun ⟨o, e⟩ => ⟨o, k _ _ e⟩)) id
  rcases hp with hp | hp
  ·refine ⟨_, rfl, p, rfl, .inl ⟨⟨_, tl s1 hp⟩, for_list (xs := zs) Pv p0 (fun i σ H2 _ ⟨_, _, _, _, _, sH⟩ => tl sH hp) ?_ ?_⟩⟩
   ·rintro i x σ H2 hx ⟨o, kvs, rfl, hd2, R, sH⟩
    obtain ⟨r, er, a, rfl, ha⟩ := paired_at wr hx
    have li := (List.getElem?_eq_some_iff.mp hx).1
    have ha2 := sH _ _ ha
    have tw : w.take (i + 1) = w.take i ++ [r] := by rw [List.take_succ, er]; rfl
    have lk := R.len
    rw [List.length_take] at lk
    refine ⟨_, rfl, d, rfl, .inl ⟨_, .inl hd2⟩, _, rfl, a, _, 0, _, rfl, rfl, SqT.of ha2, rfl, by show 0 ≤ sizeLine; decide, fun l hl => ?_⟩
    have nld : l ≠ d := fun z => by rw [z, hd2] at hl; cases hl
    have hl0 : H l = none := by
     cases e : H l with
     | none => rfl
     | some o => rw [sH _ _ e] at hl; cases hl
    have hd3 : (upd H2 l (.lst [])) d = some (.dK kvs) := by rw [upd_ne (Ne.symm nld)]; exact hd2
    have s3 := same_new (o := .lst []) hl
    refine ⟨kvs, Sum.inr r.1, hd3, rfl, small1000 (by lia), fun v hv => ?_, fun hv => ?_⟩
    ·rcases R.at' r.1 with ⟨z, _⟩ | ⟨l2, zs2, h1, h2, h3, h4⟩
     ·rw [z] at hv; cases hv
     rw [hv] at h1
     cases h1
     have h3' := s3 _ _ h3
     have lz2 : zs2.length ≤ w.length := by rw [h4.len]; exact Nat.le_trans (List.length_filter_le _ _) (by rw [List.length_take]; lia)
     refine ⟨.inl ⟨rfl, _, SqL.of h3'⟩, _, rfl, l2, zs2, _, rfl, rfl, h3', small1000 (by lia), _, kvs, rfl, ?_, ?_, fun b o e => ?_⟩
     ·rw [upd_ne (ne_of hd3 h3' (by intro y; cases y))]; exact hd3
     ·rw [tw]
      exact RowsI.old (R.same s3) rfl hv h3' (s3 _ _ ha2)
     ·rw [upd_ne (ne_of_none e h2)]; exact s3 _ _ (sH b o e)
    ·have hl4 : (upd (upd H2 l (.lst [])) d (.dK (kvs ++ [(Sum.inr r.1, .ref l)]))) l = some (.lst []) := by rw [upd_ne nld]; exact upd_same
     refine ⟨.inl ⟨rfl, _, SqL.of hl4⟩, _, rfl, l, [], _, rfl, rfl, hl4, small1000 (by show 0 ≤ 1000; lia), _, kvs ++ [(Sum.inr r.1, .ref l)], rfl, ?_, ?_, fun b o e => ?_⟩
     ·rw [upd_ne (Ne.symm nld)]; exact upd_same
     ·rw [tw]
      exact R.new rfl hv hl hl0 hd2 ha2
     ·rw [upd_ne (ne_of_none e hl0), upd_ne (ne_of_none e hd), upd_ne (ne_of_none e hl0)]; exact sH b o e
   ·rintro σ H2 ⟨o, kvs, rfl, hd2, R, sH⟩
    rw [lz, List.take_length] at R
    exact ⟨_, rfl, k d kvs H2 hd2 hd R sH⟩
  ·refine ⟨_, rfl, p, rfl, .inr ⟨⟨_, tt s1 hp⟩, for_tup (xs := zs) Pv p0 (fun i σ H2 _ ⟨_, _, _, _, _, sH⟩ => tt sH hp) ?_ ?_⟩⟩
   ·rintro i x σ H2 hx ⟨o, kvs, rfl, hd2, R, sH⟩
    obtain ⟨r, er, a, rfl, ha⟩ := paired_at wr hx
    have li := (List.getElem?_eq_some_iff.mp hx).1
    have ha2 := sH _ _ ha
    have tw : w.take (i + 1) = w.take i ++ [r] := by rw [List.take_succ, er]; rfl
    have lk := R.len
    rw [List.length_take] at lk
    refine ⟨_, rfl, d, rfl, .inl ⟨_, .inl hd2⟩, _, rfl, a, _, 0, _, rfl, rfl, SqT.of ha2, rfl, by show 0 ≤ sizeLine; decide, fun l hl => ?_⟩
    have nld : l ≠ d := fun z => by rw [z, hd2] at hl; cases hl
    have hl0 : H l = none := by
     cases e : H l with
     | none => rfl
     | some o => rw [sH _ _ e] at hl; cases hl
    have hd3 : (upd H2 l (.lst [])) d = some (.dK kvs) := by rw [upd_ne (Ne.symm nld)]; exact hd2
    have s3 := same_new (o := .lst []) hl
    refine ⟨kvs, Sum.inr r.1, hd3, rfl, small1000 (by lia), fun v hv => ?_, fun hv => ?_⟩
    ·rcases R.at' r.1 with ⟨z, _⟩ | ⟨l2, zs2, h1, h2, h3, h4⟩
     ·rw [z] at hv; cases hv
     rw [hv] at h1
     cases h1
     have h3' := s3 _ _ h3
     have lz2 : zs2.length ≤ w.length := by rw [h4.len]; exact Nat.le_trans (List.length_filter_le _ _) (by rw [List.length_take]; lia)
     refine ⟨.inl ⟨rfl, _, SqL.of h3'⟩, _, rfl, l2, zs2, _, rfl, rfl, h3', small1000 (by lia), _, kvs, rfl, ?_, ?_, fun b o e => ?_⟩
     ·rw [upd_ne (ne_of hd3 h3' (by intro y; cases y))]; exact hd3
     ·rw [tw]
      exact RowsI.old (R.same s3) rfl hv h3' (s3 _ _ ha2)
     ·rw [upd_ne (ne_of_none e h2)]; exact s3 _ _ (sH b o e)
    ·have hl4 : (upd (upd H2 l (.lst [])) d (.dK (kvs ++ [(Sum.inr r.1, .ref l)]))) l = some (.lst []) := by rw [upd_ne nld]; exact upd_same
     refine ⟨.inl ⟨rfl, _, SqL.of hl4⟩, _, rfl, l, [], _, rfl, rfl, hl4, small1000 (by show 0 ≤ 1000; lia), _, kvs ++ [(Sum.inr r.1, .ref l)], rfl, ?_, ?_, fun b o e => ?_⟩
     ·rw [upd_ne (Ne.symm nld)]; exact upd_same
     ·rw [tw]
      exact R.new rfl hv hl hl0 hd2 ha2
     ·rw [upd_ne (ne_of_none e hl0), upd_ne (ne_of_none e hd), upd_ne (ne_of_none e hl0)]; exact sH b o e
   ·rintro σ H2 ⟨o, kvs, rfl, hd2, R, sH⟩
    rw [lz, List.take_length] at R
    exact ⟨_, rfl, k d kvs H2 hd2 hd R sH⟩
end
end Kx
end
section
set_option linter.all false
set_option maxRecDepth 100000
set_option maxHeartbeats 4000000
namespace Kx
open PySem L2
section
variable {P : Program} {w : World} {K : PySem.W.Frag} {mg : Str → Option Value} {base : Heap}
open Hm
abbrev sGoing : Stmt := top 21
theorem scGoing : FnScope ["web", "first", "lengths", "rows", "found", "names", "name", "row"] ["web", "first", "lengths"] (defScope sGoing) := ⟨rfl, rfl, rfl, (by simp only [List.nodup_cons, List.mem_cons, List.not_mem_nil, or_false, not_or, List.nodup_nil, and_true, not_false_eq_true]; (repeat' apply And.intro); all_goals decide +kernel), rfl, by decide +kernel, by decide +kernel⟩
def spGoing (K : PySem.W.Frag) : Sp := fun vs H Q _ => ∃ (q d : Addr) (first : Str) (zs : List V) (w : Wb.Web) (t : Tb), vs = [.ref q, .str first, .ref d] ∧ SqT K H q zs ∧ WR3 H zs w ∧ w.length ≤ 900 ∧ H d = some (.dK (kvW t)) ∧ ∀ f F H', H' f = some (.dK (kvB F)) → Wb.Led w first t F → Same H H' → Q (.ref f) H'
theorem ok_going {f fb fe : Addr} {fd fdb fde : FuncData} (F : Fun K "going_back" "going_back" sGoing f fd) (T : Bl mg)
  (Gby_from : FnOk P w K mg base CX0 1 fb fdb ["web"] (spByFrom K)) (Dby_from : Nm K mg "by_from" fb fdb ["web"]) (Gis_exact : FnOk P w K mg base CX0 1 fe fde ["row", "lengths"] spExact) (Dis_exact : Nm K mg "is_exact" fe fde ["row", "lengths"]) :
  FnOk P w K mg base CX0 2 f fd ["web", "first", "lengths"] (spGoing K) := by
 have sc := scGoing
 refine F.okQ scGoing (fun vs H Q E h => ?_) (fun cdv A outer s H vs Q E hr h => ?_)
 ·obtain ⟨q, d, first, zs, w, t, rfl, _⟩ := h
  rfl
 ·obtain ⟨q, d, first, zs, w, t, rfl, hq, wr, lw, hd, k⟩ := h
  have hu := hr.units0
  have tt : ∀ {H' : Hp}, Same H H' → SqT K H' q zs := fun k => hq.imp (fun z => z.imp (k _ _) (fun ⟨o, e⟩ => ⟨o, k _ _ e⟩)) id
  refine ⟨_, (qss_cons (qs_set (i := 3) sc.nd rfl (Or.inl rfl) (qe_call Gby_from (hr.mono (by decide)) rfl Dby_from.m Dby_from.k Dby_from.b .nil pass0 (qa_cons (qe_comp (Blk.of (N := ["web", "first", "lengths", "rows", "found", "names", "name", "row"]) (esc := defScope sGoing) (NB := ["lengths"]) (cap := [2]) rfl rfl (fun y hy => cell_has hy) rfl (by decide +kernel) (by decide +kernel) (by decide +kernel) rfl (by decide +kernel) rfl (by decide +kernel)) rfl rfl (qi_tup (qv 0)) (fun C fp s₀ H₀ => (qts_one (qt_val (qe_call Gis_exact (hr.mono (by decide)) rfl Dis_exact.m Dis_exact.k Dis_exact.b .nil pass0 (qa_cons (qv 0) (qa_cons (qv 1) qa_nil)))))) (fun C fp s₀ H₀ => (qv 0))) qa_nil)))
   (qss_cons (qs_set (i := 4) sc.nd rfl (Or.inl rfl) (qe_disp1 (qv 1) qe_bl))
   (qss_cons (qs_set (i := 5) sc.nd rfl (Or.inl rfl) (qe_lst (qa_cons (qv 1) qa_nil)))
   (qss_cons (qs_while PassesOwn.never (qt_cmpR op_gt (qe_callB call_len_seq (by rfl) T.z_len (by decide +kernel) (qa_cons (qv 5) qa_nil)) qe_int (nomark _)) (qss_cons (qs_set (i := 6) sc.nd rfl (Or.inl rfl) (qe_bm0 PySem.F.plainAttrs_list PySem.F.slot_list_pop PySem.F.type_list_pop mt_pop (qv 5)))
   (qss_one (qs_for PassesOwn.never rfl (qi_seq (qe_dget2 (hu_of hr) (qv 3) (qv 6) (qe_tup qa_nil) ⟨rfl, rfl, rfl, rfl⟩)) (qg_name (i := 7) sc.nd rfl (Or.inl rfl)) (qss_one (qs_if (qt_dnotin (hu_of hr) (qe_ix ix_tup (qv 7) qe_int (fun _ _ => rfl)) (qv 4)) (qss_cons (qs_dput (hu_of hr) (qv 4) (qe_ix ix_tup (qv 7) qe_int (fun _ _ => rfl)) qe_bl rfl)
   (qss_one (qs_expr (qe_bm PySem.F.plainAttrs_list PySem.F.slot_list_append PySem.F.type_list_append mt_append (qv 5) (qa_cons (qe_ix ix_tup (qv 7) qe_int (fun _ _ => rfl)) qa_nil))))) qss_nil))))))
   (qss_one (qs_ret (qv 4))))))), ?_⟩
  refine ⟨_, rfl, q, rfl, ⟨_, hq⟩, fun D hD => ?_⟩
  refine comp_tupR (K := K) (a := q) (xs := zs) (fun i ys H8 => H8 D = some (.lst ys) ∧ WR3 H8 ys ((w.take i).filter (Wb.exB t)) ∧ Same H H8) ⟨upd_same, .nil, same_new hD⟩ (fun i ys H8 z => ⟨z.1, tt z.2.2⟩) ?_ ?_
  ·rintro i x ys H8 hx ⟨h8, w8, s8⟩
   obtain ⟨r, er, a, rfl, ha⟩ := paired_at wr hx
   have li := (List.getElem?_eq_some_iff.mp hx).1
   have tw : w.take (i + 1) = w.take i ++ [r] := by rw [List.take_succ, er]; rfl
   have ly : ys.length ≤ 900 := by
    rw [w8.len]
    exact Nat.le_trans (List.length_filter_le _ _) (by rw [List.length_take]; lia)
   refine ⟨_, rfl, _, rfl, a, d, r, t, rfl, s8 _ _ ha, s8 _ _ hd, fun b hb => ?_⟩
   refine ⟨_, rfl, ?_⟩
   refine ite2 (fun c => ?_) (fun c => ?_)
   ·refine ⟨_, rfl, h8, small1000 (by lia), _, by lia, rfl, by lia, upd_same, ?_, fun b o e => ?_⟩
    ·rw [tw, List.filter_append, List.filter_cons_of_pos (Wb.exB_iff.mpr (hb.mp c)), List.filter_nil]
     exact (w8.stay (tk_lst h8)).snoc rfl (tk_lst h8 _ _ (s8 _ _ ha))
    ·rw [upd_ne (ne_of_none e hD)]; exact s8 _ _ e
   ·refine ⟨_, by lia, rfl, by lia, h8, ?_, s8⟩
    rw [tw, List.filter_append, List.filter_cons_of_neg (fun z => c (hb.mpr (Wb.exB_iff.mp z))), List.filter_nil, List.append_nil]
    exact w8
  rintro ys Ha ⟨h8, w8, s8⟩
  rw [wr.len, List.take_length] at w8
  have lf : (w.filter (Wb.exB t)).length ≤ w.length := List.length_filter_le _ _
  refine ⟨D, ys, w.filter (Wb.exB t), rfl, .inl (SqL.of h8), w8, by lia, fun dd kvs Hb hdd hdd0 R sb => ?_⟩
  refine fun f hf => ⟨_, rfl, upd_same, [(Sum.inr first, .bl true)], rfl, by show 1 ≤ 15; decide, ?_⟩
  rw [upd_upd]
  have sc_ := same_new (o := .dK (kvB [first])) hf
  have gc := upd_same (H := Hb) (a := f) (o := .dK (kvB [first]))
  have e1 : mergeK [] [(Sum.inr first, V.bl true)] = kvB [first] := rfl
  rw [e1]
  generalize upd Hb f (.dK (kvB [first])) = H1 at sc_ gc ⊢
  refine ⟨_, rfl, by show 1 ≤ sizeLine; decide, fun l hl => ?_⟩
  have s1 := same_new (o := .lst [.str first]) hl
  have g1 := upd_same (H := H1) (a := l) (o := .lst [.str first])
  have gf1 := s1 _ _ gc
  have sH1 := sc_.trans s1
  have hfc := hf
  have hlc : Hb l = none := by
   cases e : Hb l with
   | none => rfl
   | some o => rw [sc_ _ _ e] at hl; cases hl
  generalize upd H1 l (.lst [.str first]) = H2 at s1 g1 gf1 sH1 ⊢
  refine ⟨fun m σ H3 => ∃ (F S : List Str) (oname orow : Option V), σ = [some (.ref q), some (.str first), some (.ref d), some (.ref dd), some (.ref f), some (.ref l), oname, orow] ∧ H3 f = some (.dK (kvB F)) ∧ H3 l = some (.lst (S.map V.str)) ∧ Same Hb H3 ∧ Wb.GB w first t F S ∧ S.length ≤ F.length ∧ m = 2 * (w.length + 1 - F.length) + S.length,
   ⟨_, [first], [first], none, none, rfl, gf1, g1, sH1, Wb.GB.start, Nat.le_refl _, rfl⟩, ?_⟩
  rintro m σ H3 ⟨F, S, oname, orow, rfl, hf3, hl3, s3, G, lSF, rfl⟩
  refine ⟨_, rfl, l, _, rfl, .inl (SqL.of hl3), _, _, rfl, rfl, _, rfl, ite2 (fun c => ?_) (fun c => ?_)⟩
  rotate_left
  ·have c' : ¬ ((S.map V.str).length : Int) > 0 := by simpa using c
   obtain rfl : S = [] := List.length_eq_zero_iff.mp (by rw [List.length_map] at c'; lia)
   exact ⟨_, rfl, k f F H3 hf3 G.done ((s8.trans sb).trans s3)⟩
  obtain ⟨S, name, rfl⟩ : ∃ S' n, S = S' ++ [n] := by
   have ne : S ≠ [] := fun z => by subst z; simp at c
   exact ⟨S.dropLast, S.getLast ne, (List.dropLast_concat_getLast ne).symm⟩
  refine ⟨fun σ' H' => ∃ m', m' < 2 * (w.length + 1 - F.length) + (S ++ [name]).length ∧ ∃ (F S : List Str) (oname orow : Option V), σ' = [some (.ref q), some (.str first), some (.ref d), some (.ref dd), some (.ref f), some (.ref l), oname, orow] ∧ H' f = some (.dK (kvB F)) ∧ H' l = some (.lst (S.map V.str)) ∧ Same Hb H' ∧ Wb.GB w first t F S ∧ S.length ≤ F.length ∧ m' = 2 * (w.length + 1 - F.length) + S.length, fun σ' H' z => z, ?_⟩
  have em : (S ++ [name]).map V.str = S.map V.str ++ [.str name] := by rw [List.map_append]; rfl
  rw [em] at hl3
  have nfl : f ≠ l := ne_of hf3 hl3 (by intro y; cases y)
  refine ⟨_, rfl, .inl ⟨rfl, _, SqL.of hl3⟩, l, _, .str name, rfl, rfl, hl3, by rw [List.length_append]; simp, ?_⟩
  rw [List.dropLast_concat]
  have hfp : (upd H3 l (.lst (S.map V.str))) f = some (.dK (kvB F)) := by rw [upd_ne nfl]; exact hf3
  have glp := upd_same (H := H3) (a := l) (o := .lst (S.map V.str))
  have sp : Same Hb (upd H3 l (.lst (S.map V.str))) := fun b o e => by rw [upd_ne (ne_of_none e hlc)]; exact s3 _ _ e
  generalize upd H3 l (.lst (S.map V.str)) = H4 at hfp glp sp ⊢
  refine ⟨_, rfl, dd, rfl, .inl ⟨_, .inl (sp _ _ hdd)⟩, _, rfl, by show 0 ≤ sizeLine; decide, fun q0 hq0 => ?_⟩
  have s5' := same_new (o := .tup []) hq0
  have gq := upd_same (H := H4) (a := q0) (o := .tup [])
  have hf5 := s5' _ _ hfp
  have hl5 := s5' _ _ glp
  have s5 := sp.trans s5'
  generalize upd H4 q0 (.tup []) = H5 at gq hf5 hl5 s5 ⊢
  refine ⟨_, DGet.k (k := Sum.inr name) (s5 _ _ hdd), ?_⟩
  rcases R.at' name with ⟨z1, z2⟩ | ⟨l2, zs2, h1, h2, h3, h4⟩
  ·rw [z1]
   have w4 : WR3 Hb [] ((w.filter (Wb.exB t)).filter fun r => decide (r.1 = name)) := by rw [z2]; exact .nil
   have hx : ∀ {H' : Hp}, Same Hb H' → H' q0 = some (.tup []) → SqT K H' q0 [] := fun _ e => SqT.of e
   refine ⟨_, rfl, .inr ⟨⟨_, hx s5 gq⟩, for_tup (xs := []) (fun j σ H4 => ∃ (F' S' : List Str) (o : Option V), σ = [some (.ref q), some (.str first), some (.ref d), some (.ref dd), some (.ref f), some (.ref l), some (.str name), o] ∧ H4 f = some (.dK (kvB F')) ∧ H4 l = some (.lst (S'.map V.str)) ∧ Same Hb H4 ∧ H4 q0 = some (.tup []) ∧ Wb.GN w first t name F' S' (((w.filter (Wb.exB t)).filter fun r => decide (r.1 = name)).take j) ∧ 2 * (w.length + 1 - F'.length) + S'.length + 1 ≤ 2 * (w.length + 1 - F.length) + (S ++ [name]).length ∧ S'.length + 1 ≤ F'.length)
     ⟨F, S, orow, rfl, hf5, hl5, s5, gq, G.pop, by rw [List.length_append]; show _ ≤ _ + (S.length + 1); lia, by rw [List.length_append] at lSF; exact lSF⟩ (fun j σ H4 _ ⟨_, _, _, _, _, _, s4, g4, _⟩ => hx s4 g4) ?_ ?_⟩⟩
   ·rintro j x σ H4 hx ⟨F', S', o, rfl, hf4, hl4, s4, gq4, GG, mm, lS4⟩
    obtain ⟨r, er, a, rfl, ha⟩ := paired_at w4 hx
    have ha4 := s4 _ _ ha
    have rm : r ∈ (w.filter (Wb.exB t)).filter fun r => decide (r.1 = name) := List.mem_of_getElem? er
    obtain ⟨rm1, rn⟩ := List.mem_filter.mp rm
    obtain ⟨rw_, rx⟩ := List.mem_filter.mp rm1
    have tk1 : ((w.filter (Wb.exB t)).filter fun r => decide (r.1 = name)).take (j + 1) = ((w.filter (Wb.exB t)).filter fun r => decide (r.1 = name)).take j ++ [r] := by rw [List.take_succ, er]; rfl
    have lF := GG.len
    refine ⟨_, rfl, a, _, 1, _, rfl, rfl, SqT.of ha4, rfl, _, rfl, f, _, rfl, DGet.k (k := Sum.inr r.2.1) hf4, _, rfl, ?_⟩
    rw [kvB_get]
    refine ite2 (fun c => ?_) (fun c => ?_)
    ·have hn : r.2.1 ∉ F' := by simpa using c
     have nfl : f ≠ l := ne_of hf4 hl4 (by intro y; cases y)
     have lF2 : (F' ++ [r.2.1]).length = F'.length + 1 := by rw [List.length_append]; rfl
     have G2 := GG.new (r := r) (of_decide_eq_true rn) rw_ (Wb.exB_iff.mp rx) hn
     have lG2 := G2.len
     have lkv : (kvB F').length = F'.length := List.length_map ..
     refine ⟨_, rfl, _, rfl, a, _, 1, _, rfl, rfl, SqT.of ha4, rfl, f, _, rfl, DPut.k (k := Sum.inr r.2.1) hf4 (small1000 (by lia)), ?_⟩
     rw [kvB_put hn]
     have hl5 : (upd H4 f (.dK (kvB (F' ++ [r.2.1])))) l = some (.lst (S'.map V.str)) := by rw [upd_ne (Ne.symm nfl)]; exact hl4
     have ha5 := tk_dK (u := .dK (kvB (F' ++ [r.2.1]))) hf4 _ _ ha4
     refine ⟨_, rfl, .inl ⟨rfl, _, SqL.of hl5⟩, _, rfl, a, _, 1, _, rfl, rfl, SqT.of ha5, rfl, l, _, _, rfl, rfl, hl5, small1000 (by rw [List.length_map]; lia), F' ++ [r.2.1], S' ++ [r.2.1], _, rfl, ?_, ?_, fun b o e => ?_, ?_, ?_, ?_, by rw [lF2, List.length_append]; show S'.length + 1 + 1 ≤ _; lia⟩
     ·rw [upd_ne nfl]; exact upd_same
     ·rw [upd_same, List.map_append]; rfl
     ·rw [upd_ne (ne_of_none e hlc), upd_ne (ne_of_none e hfc)]; exact s4 _ _ e
     ·rw [upd_ne (ne_of gq4 hl4 (by intro y; cases y)), upd_ne (ne_of gq4 hf4 (by intro y; cases y))]; exact gq4
     ·rw [tk1]; exact G2
     ·rw [lF2, List.length_append]
      show _ + (S'.length + 1) + 1 ≤ _
      lia
    ·have hn : r.2.1 ∈ F' := by simpa using c
     exact ⟨F', S', _, rfl, hf4, hl4, s4, gq4, by rw [tk1]; exact GG.old hn, mm, lS4⟩
   ·rintro σ H4 ⟨F', S', o, rfl, hf4, hl4, s4, gq4, GG, mm, lS4⟩
    have GG' := GG
    rw [w4.len, List.take_length] at GG'
    refine ⟨_, by lia, F', S', _, _, rfl, hf4, hl4, s4, GG'.fin fun r h1 h2 h3 => List.mem_filter.mpr ⟨List.mem_filter.mpr ⟨h1, Wb.exB_iff.mpr h2⟩, decide_eq_true h3⟩, by lia, rfl⟩
  ·rw [h1]
   have hx : ∀ {H' : Hp}, Same Hb H' → H' q0 = some (.tup []) → SqL K H' l2 zs2 := fun s _ => SqL.of (s _ _ h3)
   refine ⟨_, rfl, .inl ⟨⟨_, hx s5 gq⟩, for_list (xs := zs2) (fun j σ H4 => ∃ (F' S' : List Str) (o : Option V), σ = [some (.ref q), some (.str first), some (.ref d), some (.ref dd), some (.ref f), some (.ref l), some (.str name), o] ∧ H4 f = some (.dK (kvB F')) ∧ H4 l = some (.lst (S'.map V.str)) ∧ Same Hb H4 ∧ H4 q0 = some (.tup []) ∧ Wb.GN w first t name F' S' (((w.filter (Wb.exB t)).filter fun r => decide (r.1 = name)).take j) ∧ 2 * (w.length + 1 - F'.length) + S'.length + 1 ≤ 2 * (w.length + 1 - F.length) + (S ++ [name]).length ∧ S'.length + 1 ≤ F'.length)
     ⟨F, S, orow, rfl, hf5, hl5, s5, gq, G.pop, by rw [List.length_append]; show _ ≤ _ + (S.length + 1); lia, by rw [List.length_append] at lSF; exact lSF⟩ (fun j σ H4 _ ⟨_, _, _, _, _, _, s4, g4, _⟩ => hx s4 g4) ?_ ?_⟩⟩
   ·rintro j x σ H4 hx ⟨F', S', o, rfl, hf4, hl4, s4, gq4, GG, mm, lS4⟩
    obtain ⟨r, er, a, rfl, ha⟩ := paired_at h4 hx
    have ha4 := s4 _ _ ha
    have rm : r ∈ (w.filter (Wb.exB t)).filter fun r => decide (r.1 = name) := List.mem_of_getElem? er
    obtain ⟨rm1, rn⟩ := List.mem_filter.mp rm
    obtain ⟨rw_, rx⟩ := List.mem_filter.mp rm1
    have tk1 : ((w.filter (Wb.exB t)).filter fun r => decide (r.1 = name)).take (j + 1) = ((w.filter (Wb.exB t)).filter fun r => decide (r.1 = name)).take j ++ [r] := by rw [List.take_succ, er]; rfl
    have lF := GG.len
    refine ⟨_, rfl, a, _, 1, _, rfl, rfl, SqT.of ha4, rfl, _, rfl, f, _, rfl, DGet.k (k := Sum.inr r.2.1) hf4, _, rfl, ?_⟩
    rw [kvB_get]
    refine ite2 (fun c => ?_) (fun c => ?_)
    ·have hn : r.2.1 ∉ F' := by simpa using c
     have nfl : f ≠ l := ne_of hf4 hl4 (by intro y; cases y)
     have lF2 : (F' ++ [r.2.1]).length = F'.length + 1 := by rw [List.length_append]; rfl
     have G2 := GG.new (r := r) (of_decide_eq_true rn) rw_ (Wb.exB_iff.mp rx) hn
     have lG2 := G2.len
     have lkv : (kvB F').length = F'.length := List.length_map ..
     refine ⟨_, rfl, _, rfl, a, _, 1, _, rfl, rfl, SqT.of ha4, rfl, f, _, rfl, DPut.k (k := Sum.inr r.2.1) hf4 (small1000 (by lia)), ?_⟩
     rw [kvB_put hn]
     have hl5 : (upd H4 f (.dK (kvB (F' ++ [r.2.1])))) l = some (.lst (S'.map V.str)) := by rw [upd_ne (Ne.symm nfl)]; exact hl4
     have ha5 := tk_dK (u := .dK (kvB (F' ++ [r.2.1]))) hf4 _ _ ha4
     refine ⟨_, rfl, .inl ⟨rfl, _, SqL.of hl5⟩, _, rfl, a, _, 1, _, rfl, rfl, SqT.of ha5, rfl, l, _, _, rfl, rfl, hl5, small1000 (by rw [List.length_map]; lia), F' ++ [r.2.1], S' ++ [r.2.1], _, rfl, ?_, ?_, fun b o e => ?_, ?_, ?_, ?_, by rw [lF2, List.length_append]; show S'.length + 1 + 1 ≤ _; lia⟩
     ·rw [upd_ne nfl]; exact upd_same
     ·rw [upd_same, List.map_append]; rfl
     ·rw [upd_ne (ne_of_none e hlc), upd_ne (ne_of_none e hfc)]; exact s4 _ _ e
     ·rw [upd_ne (ne_of gq4 hl4 (by intro y; cases y)), upd_ne (ne_of gq4 hf4 (by intro y; cases y))]; exact gq4
     ·rw [tk1]; exact G2
     ·rw [lF2, List.length_append]
      show _ + (S'.length + 1) + 1 ≤ _
      lia
    ·have hn : r.2.1 ∈ F' := by simpa using c
     exact ⟨F', S', _, rfl, hf4, hl4, s4, gq4, by rw [tk1]; exact GG.old hn, mm, lS4⟩
   ·rintro σ H4 ⟨F', S', o, rfl, hf4, hl4, s4, gq4, GG, mm, lS4⟩
    have GG' := GG
    rw [h4.len, List.take_length] at GG'
    refine ⟨_, by lia, F', S', _, _, rfl, hf4, hl4, s4, GG'.fin fun r h1 h2 h3 => List.mem_filter.mpr ⟨List.mem_filter.mpr ⟨h1, Wb.exB_iff.mpr h2⟩, decide_eq_true h3⟩, by lia, rfl⟩
end
end Kx
end
section
set_option linter.all false
set_option maxRecDepth 100000
set_option maxHeartbeats 4000000
namespace Kx
open PySem L2
section
variable {P : Program} {w : World} {K : PySem.W.Frag} {mg : Str → Option Value} {base : Heap}
open Hm
abbrev sLShown : Stmt := top 20
theorem scLShown : FnScope ["web", "first", "lengths"] ["web", "first", "lengths"] (defScope sLShown) := ⟨rfl, rfl, rfl, (by simp only [List.nodup_cons, List.mem_cons, List.not_mem_nil, or_false, not_or, List.nodup_nil, and_true, not_false_eq_true]; (repeat' apply And.intro); all_goals decide +kernel), rfl, by decide +kernel, by decide +kernel⟩
def spLShown (K : PySem.W.Frag) : Sp := fun vs H Q _ => ∃ (q d : Addr) (first : Str) (zs : List V) (w : Wb.Web) (t : Tb), vs = [.ref q, .str first, .ref d] ∧ SqT K H q zs ∧ WR3 H zs w ∧ w.length ≤ 900 ∧ H d = some (.dK (kvW t)) ∧ ∀ (b : Bool) H', (b = true ↔ Wb.ShownP w first t) → Same H H' → Q (.bl b) H'
theorem ok_lshown {f fb fe : Addr} {fd fdb fde : FuncData} (F : Fun K "lengths_shown" "lengths_shown" sLShown f fd) (T : Bl mg) (z_any : mg "any" = none)
  (Ggoing_back : FnOk P w K mg base CX0 2 fb fdb ["web", "first", "lengths"] (spGoing K)) (Dgoing_back : Nm K mg "going_back" fb fdb ["web", "first", "lengths"]) (Gis_nearer : FnOk P w K mg base CX0 1 fe fde ["row", "lengths"] spNearer) (Dis_nearer : Nm K mg "is_nearer" fe fde ["row", "lengths"]) :
  FnOk P w K mg base CX0 3 f fd ["web", "first", "lengths"] (spLShown K) := by
 have sc := scLShown
 refine F.okQ scLShown (fun vs H Q E h => ?_) (fun cdv A outer s H vs Q E hr h => ?_)
 ·obtain ⟨q, d, first, zs, w, t, rfl, _⟩ := h
  rfl
 ·obtain ⟨q, d, first, zs, w, t, rfl, hq, wr, lw, hd, k⟩ := h
  have hu := hr.units0
  have tt : ∀ {H' : Hp}, Same H H' → SqT K H' q zs := fun k => hq.imp (fun z => z.imp (k _ _) (fun ⟨o, e⟩ => ⟨o, k _ _ e⟩)) id
  refine ⟨_, (qss_cons (qs_if (qt_cmpR op_ne (qe_dget1 (hu_of hr) (qv 2) (qv 1) ⟨rfl, rfl, rfl, rfl⟩) qe_int (nomark _)) (qss_one (qs_ret qe_bl)) qss_nil)
   (qss_cons (qs_if (qt_val (qe_callB (call_anyB rfl) (by rfl) z_any (by decide +kernel) (qa_cons (qe_comp (Blk.of (N := ["web", "first", "lengths"]) (esc := defScope sLShown) (NB := ["lengths"]) (cap := [2]) rfl rfl (fun y hy => cell_has hy) rfl (by decide +kernel) (by decide +kernel) (by decide +kernel) rfl (by decide +kernel) rfl (by decide +kernel)) rfl rfl (qi_tup (qv 0)) (fun C fp s₀ H₀ => qts_nil) (fun C fp s₀ H₀ => (qe_call Gis_nearer (hr.mono (by decide)) rfl Dis_nearer.m Dis_nearer.k Dis_nearer.b .nil pass0 (qa_cons (qv 0) (qa_cons (qv 1) qa_nil))))) qa_nil))) (qss_one (qs_ret qe_bl)) qss_nil)
   (qss_one (qs_ret (qe_cmpR op_eq (qe_callB call_lenD (by rfl) T.z_len (by decide +kernel) (qa_cons (qe_call Ggoing_back (hr.mono (by decide)) rfl Dgoing_back.m Dgoing_back.k Dgoing_back.b .nil pass0 (qa_cons (qv 0) (qa_cons (qv 1) (qa_cons (qv 2) qa_nil)))) qa_nil)) (qe_callB call_lenD (by rfl) T.z_len (by decide +kernel) (qa_cons (qv 2) qa_nil)) (nomark _)))))), ?_⟩
  refine ⟨_, rfl, d, rfl, .inl ⟨_, .inl hd⟩, _, rfl, _, DGet.k (k := Sum.inr first) hd, ?_⟩
  rw [kvW_get]
  cases e0 : Gm.dget t first with
  | none => exact ⟨rfl, _, rfl, ite2 (fun _ => k false H ⟨fun z => (nomatch z), fun ⟨z, _⟩ => by rw [e0] at z; cases z⟩ (Same.refl _)) (fun c => absurd (by simp) c)⟩
  | some v =>
  refine ⟨rfl, _, rfl, ?_⟩
  refine ite2 (fun c => ?_) (fun c => ?_)
  ·have c' : ¬ v = 0 := fun z => by subst z; simp at c
   exact k false H ⟨fun z => (nomatch z), fun ⟨z, _⟩ => by rw [e0] at z; cases z; exact absurd rfl c'⟩ (Same.refl _)
  have v0 : v = 0 := by simpa using c
  subst v0
  refine ⟨_, rfl, q, rfl, ⟨_, hq⟩, fun D hD => ?_⟩
  refine comp_tupR (K := K) (a := q) (xs := zs) (fun i ys H8 => H8 D = some (.lst ys) ∧ Same H H8 ∧ ∃ bs : List Bool, ys = bs.map V.bl ∧ bs.length = i ∧ ∀ (j : Nat) (b : Bool) (r : Wb.Row), bs[j]? = some b → w[j]? = some r → (b = true ↔ Wb.Nearer t r)) ⟨upd_same, same_new hD, [], rfl, rfl, fun j b r h => by cases h⟩ (fun i ys H8 z => ⟨z.1, tt z.2.1⟩) ?_ ?_
  ·rintro i x ys H8 hx ⟨h8, s8, bs, rfl, lb, hb⟩
   obtain ⟨r, er, a, rfl, ha⟩ := paired_at wr hx
   have li := (List.getElem?_eq_some_iff.mp hx).1
   have lz := wr.len
   unfold tYes
   dsimp only
   rw [if_pos rfl]
   refine ⟨_, rfl, _, rfl, a, d, r, t, rfl, s8 _ _ ha, s8 _ _ hd, fun b hbr => ⟨h8, small1000 (by rw [List.length_map]; lia), _, by lia, rfl, by lia, upd_same, fun c o e => ?_, bs ++ [b], by rw [List.map_append]; rfl, by rw [List.length_append, lb]; rfl, fun j b' r' e1 e2 => ?_⟩⟩
   ·rw [upd_ne (ne_of_none e hD)]; exact s8 _ _ e
   ·by_cases z : j < bs.length
    ·rw [List.getElem?_append_left z] at e1
     exact hb j b' r' e1 e2
    ·have ej : j = bs.length := by
      have := (List.getElem?_eq_some_iff.mp e1).1
      rw [List.length_append] at this
      have h1 : ([b] : List Bool).length = 1 := rfl
      lia
     rw [ej, List.getElem?_append_right (Nat.le_refl _), Nat.sub_self] at e1
     cases e1
     rw [ej, lb, er] at e2
     cases e2
     exact hbr
  rintro ys Ha ⟨h8, s8, bs, rfl, lb, hb⟩
  refine ⟨D, bs, rfl, SqL.of h8, _, rfl, ?_⟩
  have lw2 : bs.length = w.length := lb.trans wr.len
  refine ite2 (fun c => ?_) (fun c => ?_)
  ·obtain ⟨b, hb1, hb2⟩ := List.any_eq_true.mp c
   obtain ⟨j, hj, ej⟩ := List.getElem_of_mem hb1
   have hn := (hb j b w[j] (by rw [List.getElem?_eq_getElem hj, ej]) (List.getElem?_eq_getElem (by lia))).mp hb2
   exact k false Ha ⟨fun z => (nomatch z), fun ⟨_, z, _⟩ => absurd hn (z _ (List.getElem_mem _))⟩ s8
  have nn : ∀ r ∈ w, ¬ Wb.Nearer t r := fun r hr hn => by
   obtain ⟨j, hj, ej⟩ := List.getElem_of_mem hr
   have h1 : bs[j]? = some bs[j] := List.getElem?_eq_getElem (by lia)
   have := (hb j bs[j] r h1 (by rw [List.getElem?_eq_getElem hj, ej])).mpr hn
   exact c (List.any_eq_true.mpr ⟨_, List.getElem_mem _, this⟩)
  refine ⟨_, rfl, _, rfl, _, rfl, q, d, first, zs, w, t, rfl, tt s8, wr.stay (fun b l e => s8 _ _ e), lw, s8 _ _ hd, fun f F Hb hf led sb => ?_⟩
  have sH := s8.trans sb
  refine ⟨f, _, rfl, hf, _, rfl, d, _, rfl, sH _ _ hd, rfl, k _ Hb ?_ sH⟩
  rw [decide_eq_true_eq, Wb.shown_iff e0 nn led]
  have l1 : (kvB F).length = F.length := List.length_map ..
  have l2 : (kvW t).length = t.length := kvW_len
  rw [l1, l2]
  exact ⟨fun h => by have := V.int.inj h; lia, fun h => by rw [h]⟩
end
end Kx
end
section
set_option linter.all false
set_option maxRecDepth 100000
set_option maxHeartbeats 4000000
namespace Kx
open PySem L2
section
variable {P : Program} {w : World} {K : PySem.W.Frag} {mg : Str → Option Value} {base : Heap}
open Hm
abbrev sExch : Stmt := top 13
theorem scExch : FnScope ["heap", "place", "other", "held"] ["heap", "place", "other"] (defScope sExch) := ⟨rfl, rfl, rfl, (by simp only [List.nodup_cons, List.mem_cons, List.not_mem_nil, or_false, not_or, List.nodup_nil, and_true, not_false_eq_true]; (repeat' apply And.intro); all_goals decide +kernel), rfl, by decide +kernel, by decide +kernel⟩
def spExch : Sp := fun vs H Q _ => ∃ (r : Addr) (xs : List V) (i j : Nat), vs = [.ref r, .int i, .int j] ∧ H r = some (.lst xs) ∧ i < xs.length ∧ j < xs.length ∧ Q .non (upd H r (.lst (sw xs i j)))
theorem ok_exch {f : Addr} {fd : FuncData} (F : Fun K "exchange" "exchange" sExch f fd) (T : Bl mg) : FnOk P w K mg base CX0 1 f fd ["heap", "place", "other"] spExch := by
 have sc := scExch
 refine F.ok scExch (fun vs H Q E h => ?_) (fun cdv A outer s H vs Q E hr h => ?_)
 ·obtain ⟨r, xs, i, j, rfl, _⟩ := h
  rfl
 ·obtain ⟨r, xs, i, j, rfl, hx, hi, hj, k⟩ := h
  have hu := hr.units0
  refine ⟨_, (QSs.to (qss_cons (qs_set (i := 3) sc.nd rfl (Or.inl rfl) (qe_ix ix_list (qv 0) (qv 1) (fun _ _ => rfl)))
   (qss_cons (qs_asg (qe_ix ix_list (qv 0) (qv 2) (fun _ _ => rfl)) (qg_sub (qv 0) (qv 1) set_list))
   (qss_one (qs_asg (qv 3) (qg_sub (qv 0) (qv 2) set_list)))))), ?_⟩
  refine ⟨_, rfl, _, rfl, r, _, _, _, rfl, rfl, SqL.of hx, at_g hi, ?_⟩
  refine ⟨_, rfl, _, rfl, r, _, _, _, rfl, rfl, SqL.of hx, at_g hj, ?_⟩
  refine ⟨_, rfl, _, rfl, r, xs, _, i, rfl, rfl, hx, ixN_ok (by lia) (by lia), ?_⟩
  refine ⟨_, rfl, _, rfl, _, rfl, r, _, _, j, rfl, rfl, upd_same, ixN_ok (by lia) (by rw [List.length_set]; lia), ?_⟩
  rw [upd_upd]
  exact k
end
end Kx
end
section
set_option linter.all false
set_option maxRecDepth 100000
set_option maxHeartbeats 4000000
namespace Kx
open PySem L2
section
variable {P : Program} {w : World} {K : PySem.W.Frag} {mg : Str → Option Value} {base : Heap}
open Hm
abbrev sLift : Stmt := top 11
theorem scLift : FnScope ["heap", "start", "place", "looks", "above"] ["heap", "start"] (defScope sLift) := ⟨rfl, rfl, rfl, (by simp only [List.nodup_cons, List.mem_cons, List.not_mem_nil, or_false, not_or, List.nodup_nil, and_true, not_false_eq_true]; (repeat' apply And.intro); all_goals decide +kernel), rfl, by decide +kernel, by decide +kernel⟩
def spLift : Sp := fun vs H Q _ => ∃ (r : Addr) (xs : List V) (a : Nat) (t : V → List V), vs = [.ref r, .int a] ∧ H r = some (.lst xs) ∧ EnR t H xs ∧ a < xs.length ∧ xs.length ≤ 1100 ∧
 ∀ H', H' r = some (.lst (up (ltT t) a xs a 0).1) → (∀ b o, H b = some o → b ≠ r → H' b = some o) → Q (.int (up (ltT t) a xs a 0).2) H'
theorem ok_lift {f fe : Addr} {fd fde : FuncData} (F : Fun K "lift" "lift" sLift f fd) (T : Bl mg) (Gexchange : FnOk P w K mg base CX0 1 fe fde ["heap", "place", "other"] spExch) (Dexchange : Nm K mg "exchange" fe fde ["heap", "place", "other"]) :
  FnOk P w K mg base CX0 2 f fd ["heap", "start"] spLift := by
 have sc := scLift
 refine F.ok scLift (fun vs H Q E h => ?_) (fun cdv A outer s H vs Q E hr h => ?_)
 ·obtain ⟨r, xs, a, t, rfl, _⟩ := h
  rfl
 ·obtain ⟨r, xs, a, t, rfl, hx, en, ha, hl, k⟩ := h
  have hu := hr.units0
  refine ⟨_, (QSs.to (qss_cons (qs_set (i := 2) sc.nd rfl (Or.inl rfl) (qv 1))
   (qss_cons (qs_set (i := 3) sc.nd rfl (Or.inl rfl) qe_int)
   (qss_cons (qs_while PassesOwn.never (qt_cmpR op_gt (qv 2) qe_int (nomark _)) (qss_cons (qs_set (i := 4) sc.nd rfl (Or.inl rfl) (qe_op op_fdivB (qe_op op_sub (qv 2) qe_int) qe_int))
   (qss_cons (qs_set (i := 3) sc.nd rfl (Or.inl rfl) (qe_op op_add (qv 3) qe_int))
   (qss_cons (qs_if (qt_not (qt_cmpR (op_ltV hu) (qe_ix ix_list (qv 0) (qv 2) (fun _ _ => rfl)) (qe_ix ix_list (qv 0) (qv 4) (fun _ _ => rfl)) (nomark _))) (qss_one (qs_ret (qv 3))) qss_nil)
   (qss_cons (qs_expr (qe_call Gexchange (hr.mono (by decide)) rfl Dexchange.m Dexchange.k Dexchange.b .nil pass0 (qa_cons (qv 0) (qa_cons (qv 2) (qa_cons (qv 4) qa_nil)))))
   (qss_one (qs_set (i := 2) sc.nd rfl (Or.inl rfl) (qv 4))))))))
   (qss_one (qs_ret (qv 3))))))), ?_⟩
  refine ⟨_, rfl, ?_⟩
  refine ⟨fun m σ H2 => ∃ (f p lk : Nat) (bl : Option V) (ys : List V), σ = [some (.ref r), some (.int a), some (.int p), some (.int lk), bl] ∧ up (ltT t) f ys p lk = up (ltT t) a xs a 0 ∧ p ≤ f ∧ p < ys.length ∧ H2 r = some (.lst ys) ∧ ys.length = xs.length ∧ (∀ y ∈ ys, y ∈ xs) ∧ (∀ b o, H b = some o → b ≠ r → H2 b = some o) ∧ m = p,
   ⟨_, a, a, 0, none, xs, rfl, rfl, Nat.le_refl _, ha, hx, rfl, fun y h => h, fun b o e _ => e, rfl⟩, ?_⟩
  rintro p σ H2 ⟨f, p', lk, bl, ys, rfl, hd, hf, hp, h2, l2, s2, f2, rfl⟩
  have en2 : EnR t H2 ys := (en.bar hx f2).sub s2
  refine ⟨_, rfl, _, _, rfl, rfl, _, rfl, ite2 (fun c1 => ?_) (fun c1 => ⟨_, rfl, ?_⟩)⟩
  rotate_left
  ·have c1' : ¬ (p : Int) > 0 := by simpa using c1
   rw [up_stop (by lia)] at hd
   have := k H2
   rw [← hd] at this
   exact this h2 f2
  have c1' : (p : Int) > 0 := by simpa using c1
  obtain ⟨f, rfl⟩ : ∃ f0, f = f0 + 1 := ⟨f - 1, by lia⟩
  refine ⟨fun σ' H' => ∃ m', m' < p ∧ ∃ (f p lk : Nat) (bl : Option V) (ys : List V), σ' = [some (.ref r), some (.int a), some (.int p), some (.int lk), bl] ∧ up (ltT t) f ys p lk = up (ltT t) a xs a 0 ∧ p ≤ f ∧ p < ys.length ∧ H' r = some (.lst ys) ∧ ys.length = xs.length ∧ (∀ y ∈ ys, y ∈ xs) ∧ (∀ b o, H b = some o → b ≠ r → H' b = some o) ∧ m' = p, fun σ' H' z => z, ?_⟩
  refine ⟨_, rfl, _, _, rfl, rfl, _, _, rfl, rfl, ⟨by decide, by decide⟩, ?_⟩
  refine ⟨_, rfl, _, _, rfl, rfl, ?_⟩
  have hq : (p - 1) / 2 < ys.length := by lia
  have ea : ((p : Int) - 1) / 2 = (((p - 1) / 2 : Nat) : Int) := by lia
  obtain ⟨b1, e1, g1, m1, t1⟩ := en2.gat hp
  obtain ⟨b2, e2, g2, m2, t2⟩ := en2.gat hq
  rw [e1] at t1
  rw [e2, ← ea] at t2
  refine ⟨_, rfl, _, rfl, r, _, _, _, rfl, rfl, SqL.of h2, t1, _, rfl, _, rfl, r, _, _, _, rfl, rfl, SqL.of h2, t2, b1, b2, _, _, rfl, rfl, SqT.of g1, SqT.of g2, en2.fit _ _, _, rfl, ite2 (fun c3 => ?_) (fun c3 => ?_)⟩
  ·have q3 : ltT t (g ys p) (g ys ((p - 1) / 2)) = false := by
    cases q : ltT t (g ys p) (g ys ((p - 1) / 2)) with
    | false => rfl
    | true => have c4 := (show (!ltT t (g ys p) (g ys ((p - 1) / 2))) = true from c3); rw [q] at c4; cases c4
   refine ⟨_, rfl, ?_⟩
   rw [up_stay (by lia) q3] at hd
   have := k H2
   rw [← hd] at this
   exact this h2 f2
  ·have q3 : ltT t (g ys p) (g ys ((p - 1) / 2)) = true := by
    cases q : ltT t (g ys p) (g ys ((p - 1) / 2)) with
    | true => rfl
    | false => exact absurd (show (!ltT t (g ys p) (g ys ((p - 1) / 2))) = true by rw [q]; rfl) c3
   rw [up_go (by lia) q3] at hd
   refine ⟨_, rfl, _, rfl, _, rfl, r, ys, p, (p - 1) / 2, (by show [V.ref r, V.int (p : Int), V.int (((p : Int) - 1) / 2)] = [V.ref r, V.int (p : Int), V.int ((((p - 1) / 2 : Nat)) : Int)]; rw [ea]), h2, hp, hq, ?_⟩
   refine ⟨_, rfl, (p - 1) / 2, by lia, f, (p - 1) / 2, lk + 1, some (.int ((((p - 1) / 2 : Nat)) : Int)), sw ys p ((p - 1) / 2), (by show [some (V.ref r), some (V.int a), some (V.int (((p : Int) - 1) / 2)), some (V.int ((lk : Int) + 1)), some (V.int (((p : Int) - 1) / 2))] = _; rw [ea]; rfl), hd, by lia, by rw [sw_len]; exact hq, upd_same, by rw [sw_len]; exact l2, fun y hy => s2 y (sw_mem hp hq y hy), fun b o e nb => by rw [upd_ne nb]; exact f2 b o e nb, rfl⟩
end
end Kx
end
section
set_option linter.all false
set_option maxRecDepth 100000
set_option maxHeartbeats 4000000
namespace Kx
open PySem L2
section
variable {P : Program} {w : World} {K : PySem.W.Frag} {mg : Str → Option Value} {base : Heap}
open Hm
abbrev sLay : Stmt := top 8
theorem scLay : FnScope ["heap", "entry"] ["heap", "entry"] (defScope sLay) := ⟨rfl, rfl, rfl, (by simp only [List.nodup_cons, List.mem_cons, List.not_mem_nil, or_false, not_or, List.nodup_nil, and_true, not_false_eq_true]; (repeat' apply And.intro); all_goals decide +kernel), rfl, by decide +kernel, by decide +kernel⟩
def spLay : Sp := fun vs H Q _ => ∃ (r : Addr) (xs : List V) (e : V) (t : V → List V), vs = [.ref r, e] ∧ H r = some (.lst xs) ∧ EnR t H (xs ++ [e]) ∧ xs.length ≤ 1000 ∧
 ∀ H', H' r = some (.lst (up (ltT t) xs.length (xs ++ [e]) xs.length 0).1) → (∀ b o, H b = some o → b ≠ r → H' b = some o) → Q (.int (up (ltT t) xs.length (xs ++ [e]) xs.length 0).2) H'
theorem ok_lay {f fe : Addr} {fd fde : FuncData} (F : Fun K "lay_in" "lay_in" sLay f fd) (T : Bl mg) (Glift : FnOk P w K mg base CX0 2 fe fde ["heap", "start"] spLift) (Dlift : Nm K mg "lift" fe fde ["heap", "start"]) :
  FnOk P w K mg base CX0 3 f fd ["heap", "entry"] spLay := by
 have sc := scLay
 refine F.ok scLay (fun vs H Q E h => ?_) (fun cdv A outer s H vs Q E hr h => ?_)
 ·obtain ⟨r, xs, e, t, rfl, _⟩ := h
  rfl
 ·obtain ⟨r, xs, e, t, rfl, hx, en, hl, k⟩ := h
  have hu := hr.units0
  refine ⟨_, (QSs.to (qss_cons (qs_expr (qe_bm PySem.F.plainAttrs_list PySem.F.slot_list_append PySem.F.type_list_append mt_append (qv 0) (qa_cons (qv 1) qa_nil)))
   (qss_one (qs_ret (qe_call Glift (hr.mono (by decide)) rfl Dlift.m Dlift.k Dlift.b .nil pass0 (qa_cons (qv 0) (qa_cons (qe_op op_sub (qe_callB call_len_seq (by rfl) T.z_len (by decide +kernel) (qa_cons (qv 0) qa_nil)) qe_int) qa_nil))))))), ?_⟩
  refine ⟨_, rfl, .inl ⟨rfl, _, SqL.of hx⟩, _, rfl, r, xs, e, rfl, rfl, hx, Nat.lt_of_le_of_lt hl (by decide), ?_⟩
  have l1 : (xs ++ [e]).length = xs.length + 1 := by rw [List.length_append]; rfl
  refine ⟨_, rfl, _, rfl, r, _, rfl, .inl (SqL.of upd_same), _, _, rfl, rfl, r, xs ++ [e], xs.length, t, ?_, upd_same, en.put hx, by lia, by lia, fun H' h' f' => k H' h' fun b o q nb => f' b o (by rw [upd_ne nb]; exact q) nb⟩
  rw [l1]
  show [V.ref r, V.int (((xs.length + 1 : Nat) : Int) - 1)] = _
  rw [show ((xs.length + 1 : Nat) : Int) - 1 = (xs.length : Int) by lia]
end
end Kx
end
section
set_option linter.all false
set_option maxRecDepth 100000
set_option maxHeartbeats 4000000
namespace Kx
open PySem L2
section
variable {P : Program} {w : World} {K : PySem.W.Frag} {mg : Str → Option Value} {base : Heap}
open Hm
abbrev sLetDown : Stmt := top 12
theorem scLetDown : FnScope ["heap", "start", "place", "looks", "beneath"] ["heap", "start"] (defScope sLetDown) := ⟨rfl, rfl, rfl, (by simp only [List.nodup_cons, List.mem_cons, List.not_mem_nil, or_false, not_or, List.nodup_nil, and_true, not_false_eq_true]; (repeat' apply And.intro); all_goals decide +kernel), rfl, by decide +kernel, by decide +kernel⟩
def spLetDown : Sp := fun vs H Q _ => ∃ (r : Addr) (xs : List V) (a : Nat) (t : V → List V), vs = [.ref r, .int a] ∧ H r = some (.lst xs) ∧ EnR t H xs ∧ xs.length ≤ 1000 ∧
 ∀ H', H' r = some (.lst (dn (ltT t) xs.length xs a 0).1) → (∀ b o, H b = some o → b ≠ r → H' b = some o) → Q (.int (dn (ltT t) xs.length xs a 0).2) H'
theorem ok_letdown {f fe : Addr} {fd fde : FuncData} (F : Fun K "let_down" "let_down" sLetDown f fd) (T : Bl mg) (Gexchange : FnOk P w K mg base CX0 1 fe fde ["heap", "place", "other"] spExch) (Dexchange : Nm K mg "exchange" fe fde ["heap", "place", "other"]) :
  FnOk P w K mg base CX0 2 f fd ["heap", "start"] spLetDown := by
 have sc := scLetDown
 refine F.ok scLetDown (fun vs H Q E h => ?_) (fun cdv A outer s H vs Q E hr h => ?_)
 ·obtain ⟨r, xs, a, t, rfl, _⟩ := h
  rfl
 ·obtain ⟨r, xs, a, t, rfl, hx, en, hl, k⟩ := h
  have hu := hr.units0
  refine ⟨_, (QSs.to (qss_cons (qs_set (i := 2) sc.nd rfl (Or.inl rfl) (qv 1))
   (qss_cons (qs_set (i := 3) sc.nd rfl (Or.inl rfl) qe_int)
   (qss_cons (qs_while PassesOwn.never (qt_cmpR op_lt (qe_op op_add (qe_op op_mul qe_int (qv 2)) qe_int) (qe_callB call_len_seq (by rfl) T.z_len (by decide +kernel) (qa_cons (qv 0) qa_nil)) (nomark _)) (qss_cons (qs_set (i := 4) sc.nd rfl (Or.inl rfl) (qe_op op_add (qe_op op_mul qe_int (qv 2)) qe_int))
   (qss_cons (qs_if (qt_cmpR op_lt (qe_op op_add (qv 4) qe_int) (qe_callB call_len_seq (by rfl) T.z_len (by decide +kernel) (qa_cons (qv 0) qa_nil)) (nomark _)) (qss_cons (qs_set (i := 3) sc.nd rfl (Or.inl rfl) (qe_op op_add (qv 3) qe_int))
   (qss_one (qs_if (qt_cmpR (op_ltV hu) (qe_ix ix_list (qv 0) (qe_op op_add (qv 4) qe_int) (fun _ _ => rfl)) (qe_ix ix_list (qv 0) (qv 4) (fun _ _ => rfl)) (nomark _)) (qss_one (qs_set (i := 4) sc.nd rfl (Or.inl rfl) (qe_op op_add (qv 4) qe_int))) qss_nil))) qss_nil)
   (qss_cons (qs_set (i := 3) sc.nd rfl (Or.inl rfl) (qe_op op_add (qv 3) qe_int))
   (qss_cons (qs_if (qt_not (qt_cmpR (op_ltV hu) (qe_ix ix_list (qv 0) (qv 4) (fun _ _ => rfl)) (qe_ix ix_list (qv 0) (qv 2) (fun _ _ => rfl)) (nomark _))) (qss_one (qs_ret (qv 3))) qss_nil)
   (qss_cons (qs_expr (qe_call Gexchange (hr.mono (by decide)) rfl Dexchange.m Dexchange.k Dexchange.b .nil pass0 (qa_cons (qv 0) (qa_cons (qv 2) (qa_cons (qv 4) qa_nil)))))
   (qss_one (qs_set (i := 2) sc.nd rfl (Or.inl rfl) (qv 4)))))))))
   (qss_one (qs_ret (qv 3))))))), ?_⟩
  refine ⟨_, rfl, ?_⟩
  refine ⟨fun m σ H2 => ∃ (f p lk : Nat) (bl : Option V) (ys : List V), σ = [some (.ref r), some (.int a), some (.int p), some (.int lk), bl] ∧ dn (ltT t) f ys p lk = dn (ltT t) xs.length xs a 0 ∧ ys.length ≤ p + f ∧ H2 r = some (.lst ys) ∧ ys.length = xs.length ∧ (∀ y ∈ ys, y ∈ xs) ∧ (∀ b o, H b = some o → b ≠ r → H2 b = some o) ∧ m = ys.length - p,
   ⟨_, xs.length, a, 0, none, xs, rfl, rfl, by lia, hx, rfl, fun y h => h, fun b o e _ => e, rfl⟩, ?_⟩
  rintro m σ H2 ⟨f, p, lk, bl, ys, rfl, hd, hf, h2, l2, s2, f2, rfl⟩
  have en2 : EnR t H2 ys := (en.bar hx f2).sub s2
  refine ⟨_, rfl, _, _, rfl, rfl, .inl ⟨by decide, by decide⟩, _, _, rfl, rfl, _, rfl, r, _, rfl, .inl (SqL.of h2), _, _, rfl, rfl, _, rfl, ite2 (fun c1 => ?_) (fun c1 => ⟨_, rfl, ?_⟩)⟩
  rotate_left
  ·have c1' : ¬ 2 * (p : Int) + 1 < (ys.length : Int) := by simpa using c1
   rw [dn_stop (by lia)] at hd
   have := k H2
   rw [← hd] at this
   exact this h2 f2
  have c1' : 2 * (p : Int) + 1 < (ys.length : Int) := by simpa using c1
  refine ⟨fun σ' H' => ∃ m', m' < ys.length - p ∧ ∃ (f p lk : Nat) (bl : Option V) (zs : List V), σ' = [some (.ref r), some (.int a), some (.int p), some (.int lk), bl] ∧ dn (ltT t) f zs p lk = dn (ltT t) xs.length xs a 0 ∧ zs.length ≤ p + f ∧ H' r = some (.lst zs) ∧ zs.length = xs.length ∧ (∀ y ∈ zs, y ∈ xs) ∧ (∀ b o, H b = some o → b ≠ r → H' b = some o) ∧ m' = zs.length - p, fun σ' H' z => z, ?_⟩
  refine ⟨_, rfl, _, _, rfl, rfl, .inl ⟨by decide, by decide⟩, _, _, rfl, rfl, ?_⟩
  refine ⟨_, rfl, _, _, rfl, rfl, _, rfl, r, _, rfl, .inl (SqL.of h2), _, _, rfl, rfl, _, rfl, ite2 (fun c2 => ?_) (fun c2 => ?_)⟩
  ·have c2' : 2 * (p : Int) + 1 + 1 < (ys.length : Int) := by simpa using c2
   refine ⟨_, rfl, _, _, rfl, rfl, ?_⟩
   obtain ⟨b3, e3, g3, m3, t3⟩ := en2.gat (show 2 * p + 2 < ys.length by lia)
   obtain ⟨b4, e4, g4, m4, t4⟩ := en2.gat (show 2 * p + 1 < ys.length by lia)
   rw [e3, show ((2 * p + 2 : Nat) : Int) = 2 * (p : Int) + 1 + 1 by lia] at t3
   rw [e4, show ((2 * p + 1 : Nat) : Int) = 2 * (p : Int) + 1 by lia] at t4
   have kidsE : kids ys.length p = 2 := by unfold kids; rw [if_pos (by lia)]
   have hB2 := les_two (lt := ltT t) (xs := ys) (p := p) (by lia)
   refine ⟨_, rfl, _, rfl, _, _, rfl, rfl, r, _, _, _, rfl, rfl, SqL.of h2, t3, _, rfl, _, rfl, r, _, _, _, rfl, rfl, SqL.of h2, t4, b3, b4, _, _, rfl, rfl, SqT.of g3, SqT.of g4, en2.fit _ _, _, rfl, ite2 (fun c4 => ?_) (fun c4 => ?_)⟩
   ·refine ⟨_, rfl, _, _, rfl, rfl, ?_⟩
    have hB : 2 * (p : Int) + 1 + 1 = ((les (ltT t) ys p : Nat) : Int) := by rw [hB2, if_pos (show ltT t (g ys (2 * p + 2)) (g ys (2 * p + 1)) = true from c4)]
    have hles : les (ltT t) ys p < ys.length := les_lt (by lia)
    have lo := les_lo (lt := ltT t) (xs := ys) (p := p)
    refine ⟨_, rfl, _, _, rfl, rfl, ?_⟩
    obtain ⟨b1, e1, g1, m1, t1⟩ := en2.gat hles
    obtain ⟨b2, e2, g2, m2, t2⟩ := en2.gat (show p < ys.length by lia)
    rw [e1] at t1
    rw [e2] at t2
    rw [← hB] at t1
    refine ⟨_, rfl, _, rfl, r, _, _, _, rfl, rfl, SqL.of h2, t1, _, rfl, _, rfl, r, _, _, _, rfl, rfl, SqL.of h2, t2, b1, b2, _, _, rfl, rfl, SqT.of g1, SqT.of g2, en2.fit _ _, _, rfl, ite2 (fun c3 => ?_) (fun c3 => ?_)⟩
    ·have q3 : ltT t (g ys (les (ltT t) ys p)) (g ys p) = false := by
      cases q : ltT t (g ys (les (ltT t) ys p)) (g ys p) with
      | false => rfl
      | true => have c4 := (show (!ltT t (g ys (les (ltT t) ys p)) (g ys p)) = true from c3); rw [q] at c4; cases c4
     refine ⟨_, rfl, ?_⟩
     obtain ⟨f, rfl⟩ : ∃ f0, f = f0 + 1 := ⟨f - 1, by lia⟩
     rw [dn_stay (by lia) q3, kidsE] at hd
     have := k H2
     rw [← hd] at this
     have ez : ((lk : Int) + 1 + 1) = ((lk + 2 : Nat) : Int) := by lia
     show Q (.int ((lk : Int) + 1 + 1)) H2
     rw [ez]
     exact this h2 f2
    ·have q3 : ltT t (g ys (les (ltT t) ys p)) (g ys p) = true := by
      cases q : ltT t (g ys (les (ltT t) ys p)) (g ys p) with
      | true => rfl
      | false => exact absurd (show (!ltT t (g ys (les (ltT t) ys p)) (g ys p)) = true by rw [q]; rfl) c3
     obtain ⟨f, rfl⟩ : ∃ f0, f = f0 + 1 := ⟨f - 1, by lia⟩
     rw [dn_go (by lia) q3, kidsE] at hd
     refine ⟨_, rfl, _, rfl, _, rfl, r, ys, p, les (ltT t) ys p, (by show [V.ref r, V.int (p : Int), V.int (2 * (p : Int) + 1 + 1)] = _; rw [hB]), h2, by lia, hles, ?_⟩
     refine ⟨_, rfl, ys.length - les (ltT t) ys p, by lia, f, les (ltT t) ys p, lk + 2, some (.int (2 * (p : Int) + 1 + 1)), sw ys p (les (ltT t) ys p), ?_, hd, by rw [sw_len]; lia, upd_same, by rw [sw_len]; exact l2, fun y hy => s2 y (sw_mem (by lia) hles y hy), fun b o e nb => by rw [upd_ne nb]; exact f2 b o e nb, by rw [sw_len]⟩
     have ez : ((lk : Int) + 1 + 1) = ((lk + 2 : Nat) : Int) := by lia
     show [some (V.ref r), some (V.int a), some (V.int (2 * (p : Int) + 1 + 1)), some (V.int ((lk : Int) + 1 + 1)), some (V.int (2 * (p : Int) + 1 + 1))] = _
     rw [ez, hB]
   ·have hB : 2 * (p : Int) + 1 = ((les (ltT t) ys p : Nat) : Int) := by rw [hB2, if_neg (show ¬ ltT t (g ys (2 * p + 2)) (g ys (2 * p + 1)) = true from c4)]; lia
    have hles : les (ltT t) ys p < ys.length := les_lt (by lia)
    have lo := les_lo (lt := ltT t) (xs := ys) (p := p)
    refine ⟨_, rfl, _, _, rfl, rfl, ?_⟩
    obtain ⟨b1, e1, g1, m1, t1⟩ := en2.gat hles
    obtain ⟨b2, e2, g2, m2, t2⟩ := en2.gat (show p < ys.length by lia)
    rw [e1] at t1
    rw [e2] at t2
    rw [← hB] at t1
    refine ⟨_, rfl, _, rfl, r, _, _, _, rfl, rfl, SqL.of h2, t1, _, rfl, _, rfl, r, _, _, _, rfl, rfl, SqL.of h2, t2, b1, b2, _, _, rfl, rfl, SqT.of g1, SqT.of g2, en2.fit _ _, _, rfl, ite2 (fun c3 => ?_) (fun c3 => ?_)⟩
    ·have q3 : ltT t (g ys (les (ltT t) ys p)) (g ys p) = false := by
      cases q : ltT t (g ys (les (ltT t) ys p)) (g ys p) with
      | false => rfl
      | true => have c4 := (show (!ltT t (g ys (les (ltT t) ys p)) (g ys p)) = true from c3); rw [q] at c4; cases c4
     refine ⟨_, rfl, ?_⟩
     obtain ⟨f, rfl⟩ : ∃ f0, f = f0 + 1 := ⟨f - 1, by lia⟩
     rw [dn_stay (by lia) q3, kidsE] at hd
     have := k H2
     rw [← hd] at this
     have ez : ((lk : Int) + 1 + 1) = ((lk + 2 : Nat) : Int) := by lia
     show Q (.int ((lk : Int) + 1 + 1)) H2
     rw [ez]
     exact this h2 f2
    ·have q3 : ltT t (g ys (les (ltT t) ys p)) (g ys p) = true := by
      cases q : ltT t (g ys (les (ltT t) ys p)) (g ys p) with
      | true => rfl
      | false => exact absurd (show (!ltT t (g ys (les (ltT t) ys p)) (g ys p)) = true by rw [q]; rfl) c3
     obtain ⟨f, rfl⟩ : ∃ f0, f = f0 + 1 := ⟨f - 1, by lia⟩
     rw [dn_go (by lia) q3, kidsE] at hd
     refine ⟨_, rfl, _, rfl, _, rfl, r, ys, p, les (ltT t) ys p, (by show [V.ref r, V.int (p : Int), V.int (2 * (p : Int) + 1)] = _; rw [hB]), h2, by lia, hles, ?_⟩
     refine ⟨_, rfl, ys.length - les (ltT t) ys p, by lia, f, les (ltT t) ys p, lk + 2, some (.int (2 * (p : Int) + 1)), sw ys p (les (ltT t) ys p), ?_, hd, by rw [sw_len]; lia, upd_same, by rw [sw_len]; exact l2, fun y hy => s2 y (sw_mem (by lia) hles y hy), fun b o e nb => by rw [upd_ne nb]; exact f2 b o e nb, by rw [sw_len]⟩
     have ez : ((lk : Int) + 1 + 1) = ((lk + 2 : Nat) : Int) := by lia
     show [some (V.ref r), some (V.int a), some (V.int (2 * (p : Int) + 1)), some (V.int ((lk : Int) + 1 + 1)), some (V.int (2 * (p : Int) + 1))] = _
     rw [ez, hB]
  ·have c2' : ¬ 2 * (p : Int) + 1 + 1 < (ys.length : Int) := by simpa using c2
   have hB : 2 * (p : Int) + 1 = ((les (ltT t) ys p : Nat) : Int) := by rw [les_one (by lia)]; lia
   have kidsE : kids ys.length p = 1 := by unfold kids; rw [if_neg (by lia), if_pos (by lia)]
   have hles : les (ltT t) ys p < ys.length := les_lt (by lia)
   have lo := les_lo (lt := ltT t) (xs := ys) (p := p)
   refine ⟨_, rfl, _, _, rfl, rfl, ?_⟩
   obtain ⟨b1, e1, g1, m1, t1⟩ := en2.gat hles
   obtain ⟨b2, e2, g2, m2, t2⟩ := en2.gat (show p < ys.length by lia)
   rw [e1] at t1
   rw [e2] at t2
   rw [← hB] at t1
   refine ⟨_, rfl, _, rfl, r, _, _, _, rfl, rfl, SqL.of h2, t1, _, rfl, _, rfl, r, _, _, _, rfl, rfl, SqL.of h2, t2, b1, b2, _, _, rfl, rfl, SqT.of g1, SqT.of g2, en2.fit _ _, _, rfl, ite2 (fun c3 => ?_) (fun c3 => ?_)⟩
   ·have q3 : ltT t (g ys (les (ltT t) ys p)) (g ys p) = false := by
     cases q : ltT t (g ys (les (ltT t) ys p)) (g ys p) with
     | false => rfl
     | true => have c4 := (show (!ltT t (g ys (les (ltT t) ys p)) (g ys p)) = true from c3); rw [q] at c4; cases c4
    refine ⟨_, rfl, ?_⟩
    obtain ⟨f, rfl⟩ : ∃ f0, f = f0 + 1 := ⟨f - 1, by lia⟩
    rw [dn_stay (by lia) q3, kidsE] at hd
    have := k H2
    rw [← hd] at this
    have ez : ((lk : Int) + 1) = ((lk + 1 : Nat) : Int) := by lia
    show Q (.int ((lk : Int) + 1)) H2
    rw [ez]
    exact this h2 f2
   ·have q3 : ltT t (g ys (les (ltT t) ys p)) (g ys p) = true := by
     cases q : ltT t (g ys (les (ltT t) ys p)) (g ys p) with
     | true => rfl
     | false => exact absurd (show (!ltT t (g ys (les (ltT t) ys p)) (g ys p)) = true by rw [q]; rfl) c3
    obtain ⟨f, rfl⟩ : ∃ f0, f = f0 + 1 := ⟨f - 1, by lia⟩
    rw [dn_go (by lia) q3, kidsE] at hd
    refine ⟨_, rfl, _, rfl, _, rfl, r, ys, p, les (ltT t) ys p, (by show [V.ref r, V.int (p : Int), V.int (2 * (p : Int) + 1)] = _; rw [hB]), h2, by lia, hles, ?_⟩
    refine ⟨_, rfl, ys.length - les (ltT t) ys p, by lia, f, les (ltT t) ys p, lk + 1, some (.int (2 * (p : Int) + 1)), sw ys p (les (ltT t) ys p), ?_, hd, by rw [sw_len]; lia, upd_same, by rw [sw_len]; exact l2, fun y hy => s2 y (sw_mem (by lia) hles y hy), fun b o e nb => by rw [upd_ne nb]; exact f2 b o e nb, by rw [sw_len]⟩
    have ez : ((lk : Int) + 1) = ((lk + 1 : Nat) : Int) := by lia
    show [some (V.ref r), some (V.int a), some (V.int (2 * (p : Int) + 1)), some (V.int ((lk : Int) + 1)), some (V.int (2 * (p : Int) + 1))] = _
    rw [ez, hB]
end
end Kx
end
section
set_option linter.all false
set_option maxRecDepth 100000
set_option maxHeartbeats 4000000
namespace Kx
open PySem L2
section
variable {P : Program} {w : World} {K : PySem.W.Frag} {mg : Str → Option Value} {base : Heap}
open Hm
abbrev sCut : Stmt := top 9
theorem scCut : FnScope ["heap", "last"] ["heap"] (defScope sCut) := ⟨rfl, rfl, rfl, (by simp only [List.nodup_cons, List.mem_cons, List.not_mem_nil, or_false, not_or, List.nodup_nil, and_true, not_false_eq_true]; (repeat' apply And.intro); all_goals decide +kernel), rfl, by decide +kernel, by decide +kernel⟩
def spCut : Sp := fun vs H Q _ => ∃ (r : Addr) (xs : List V) (t : V → List V), vs = [.ref r] ∧ H r = some (.lst xs) ∧ EnR t H xs ∧ 0 < xs.length ∧ xs.length ≤ 1000 ∧
 ∀ H', H' r = some (.lst (cutf (ltT t) xs).1) → (∀ b o, H b = some o → b ≠ r → H' b = some o) → Q (.int (cutf (ltT t) xs).2) H'
theorem ok_cut {f fe : Addr} {fd fde : FuncData} (F : Fun K "cut_first" "cut_first" sCut f fd) (T : Bl mg) (Glet_down : FnOk P w K mg base CX0 2 fe fde ["heap", "start"] spLetDown) (Dlet_down : Nm K mg "let_down" fe fde ["heap", "start"]) :
  FnOk P w K mg base CX0 3 f fd ["heap"] spCut := by
 have sc := scCut
 refine F.ok scCut (fun vs H Q E h => ?_) (fun cdv A outer s H vs Q E hr h => ?_)
 ·obtain ⟨r, xs, t, rfl, _⟩ := h
  rfl
 ·obtain ⟨r, xs, t, rfl, hx, en, h0, hl, k⟩ := h
  have hu := hr.units0
  refine ⟨_, (QSs.to (qss_cons (qs_set (i := 1) sc.nd rfl (Or.inl rfl) (qe_bm0 PySem.F.plainAttrs_list PySem.F.slot_list_pop PySem.F.type_list_pop mt_pop (qv 0)))
   (qss_cons (qs_if (qt_cmpR op_eq (qe_callB call_len_seq (by rfl) T.z_len (by decide +kernel) (qa_cons (qv 0) qa_nil)) qe_int (nomark _)) (qss_one (qs_ret qe_int)) qss_nil)
   (qss_cons (qs_asg (qv 1) (qg_sub (qv 0) qe_int set_list))
   (qss_one (qs_ret (qe_call Glet_down (hr.mono (by decide)) rfl Dlet_down.m Dlet_down.k Dlet_down.b .nil pass0 (qa_cons (qv 0) (qa_cons qe_int qa_nil))))))))), ?_⟩
  have eg : xs[xs.length - 1]? = some (g xs (xs.length - 1)) := by rw [g_get (by lia)]; exact List.getElem?_eq_getElem _
  have mg' : g xs (xs.length - 1) ∈ xs := List.mem_of_getElem? eg
  refine ⟨_, rfl, .inl ⟨rfl, _, SqL.of hx⟩, r, xs, _, rfl, rfl, hx, eg, ?_⟩
  have ld : xs.dropLast.length = xs.length - 1 := List.length_dropLast
  refine ⟨_, rfl, r, _, rfl, .inl (SqL.of upd_same), rfl, _, rfl, ite2 (fun c1 => ?_) (fun c1 => ?_)⟩
  ·have c1' : xs.dropLast.length = 0 := by
    have := of_decide_eq_true c1
    have := V.int.inj this
    lia
   have ec : cutf (ltT t) xs = ([], 0) := cutf_one (by lia)
   have := k (upd H r (.lst xs.dropLast))
   rw [ec] at this
   exact this (by rw [upd_same, List.length_eq_zero_iff.mp c1']) fun b o e nb => by rw [upd_ne nb]; exact e
  ·have c1' : xs.dropLast.length ≠ 0 := fun z => c1 (decide_eq_true (by rw [z]; rfl))
   have l2 : (xs.dropLast.set 0 (g xs (xs.length - 1))).length = xs.dropLast.length := List.length_set
   refine ⟨_, rfl, _, rfl, r, xs.dropLast, _, 0, rfl, rfl, upd_same, ixN_ok (by lia) (by lia), ?_⟩
   rw [upd_upd]
   have ec : cutf (ltT t) xs = dn (ltT t) xs.dropLast.length (xs.dropLast.set 0 (g xs (xs.length - 1))) 0 0 := by
    unfold cutf
    rw [if_neg (fun z => c1' (by rw [z]; rfl))]
   refine ⟨_, rfl, r, _, 0, t, rfl, upd_same, (en.sub fun y hy => ?_).put hx, by lia, fun H' h' f' => ?_⟩
   ·rcases List.mem_or_eq_of_mem_set hy with z | z
    ·exact (List.dropLast_sublist xs).mem z
    ·rw [z]; exact mg'
   ·rw [l2, ← ec] at h'
    rw [l2, ← ec]
    exact k H' h' fun b o e nb => f' b o (by rw [upd_ne nb]; exact e) nb
end
end Kx
end
section
set_option linter.all false
set_option maxRecDepth 100000
set_option maxHeartbeats 4000000
namespace Kx
open PySem L2
section
variable {P : Program} {w : World} {K : PySem.W.Frag} {mg : Str → Option Value} {base : Heap}
open Hm
abbrev sOrder : Stmt := top 10
theorem scOrder : FnScope ["heap", "looks", "place"] ["heap"] (defScope sOrder) := ⟨rfl, rfl, rfl, (by simp only [List.nodup_cons, List.mem_cons, List.not_mem_nil, or_false, not_or, List.nodup_nil, and_true, not_false_eq_true]; (repeat' apply And.intro); all_goals decide +kernel), rfl, by decide +kernel, by decide +kernel⟩
def spOrder : Sp := fun vs H Q _ => ∃ (r : Addr) (xs : List V) (t : V → List V), vs = [.ref r] ∧ H r = some (.lst xs) ∧ EnR t H xs ∧ xs.length ≤ 1000 ∧
 ∀ H', H' r = some (.lst (mk (ltT t) (xs.length / 2) xs 0).1) → (∀ b o, H b = some o → b ≠ r → H' b = some o) → Q (.int (mk (ltT t) (xs.length / 2) xs 0).2) H'
theorem ok_order {f fn : Addr} {fd fdn : FuncData} (F : Fun K "order" "order" sOrder f fd) (T : Bl mg) (Glet_down : FnOk P w K mg base CX0 2 fn fdn ["heap", "start"] spLetDown) (Dlet_down : Nm K mg "let_down" fn fdn ["heap", "start"]) :
  FnOk P w K mg base CX0 3 f fd ["heap"] spOrder := by
 have sc := scOrder
 refine F.ok scOrder (fun vs H Q E h => ?_) (fun cdv A outer s H vs Q E hr h => ?_)
 ·obtain ⟨r, xs, t, rfl, _⟩ := h
  rfl
 ·obtain ⟨r, xs, t, rfl, hx, en, hl, k⟩ := h
  have hu := hr.units0
  refine ⟨_, (QSs.to (qss_cons (qs_set (i := 1) sc.nd rfl (Or.inl rfl) qe_int)
   (qss_cons (qs_for PassesOwn.never rfl (qi_rangeD rfl T.z_range (qa_cons (qe_op op_sub (qe_op op_fdivB (qe_callB call_len_seq (by rfl) T.z_len (by decide +kernel) (qa_cons (qv 0) qa_nil)) qe_int) qe_int) (qa_cons (qe_un un_neg qe_int) (qa_cons (qe_un un_neg qe_int) qa_nil)))) (qg_name (i := 2) sc.nd rfl (Or.inl rfl)) (qss_one (qs_set (i := 1) sc.nd rfl (Or.inl rfl) (qe_op op_add (qv 1) (qe_call Glet_down (hr.mono (by decide)) rfl Dlet_down.m Dlet_down.k Dlet_down.b .nil pass0 (qa_cons (qv 0) (qa_cons (qv 2) qa_nil)))))))
   (qss_one (qs_ret (qv 1)))))), ?_⟩
  refine ⟨_, rfl, r, _, rfl, .inl (SqL.of hx), _, _, rfl, rfl, ⟨by decide, by decide⟩, _, _, rfl, rfl, _, rfl, _, rfl, _, _, rfl, ⟨by lia, by lia, by lia, by lia⟩, ?_⟩
  have en0 : ((xs.length : Int) / 2 - 1 - -1).toNat = xs.length / 2 := by lia
  refine for_rangeD (lo := (xs.length : Int) / 2 - 1) (n := ((xs.length : Int) / 2 - 1 - -1).toNat) (fun i σ H4 => ∃ (lk : Nat) (o : Option V) (ys : List V), σ = [some (.ref r), some (.int lk), o] ∧ H4 r = some (.lst ys) ∧ ys.length = xs.length ∧ (∀ y ∈ ys, y ∈ xs) ∧ (∀ b o, H b = some o → b ≠ r → H4 b = some o) ∧ mk (ltT t) (xs.length / 2 - i) ys lk = mk (ltT t) (xs.length / 2) xs 0)
   ⟨0, none, xs, rfl, hx, rfl, fun y h => h, fun b o e _ => e, rfl⟩ ?_ ?_
  ·rintro i σ H4 hi ⟨lk, o, ys, rfl, h4, l4, s4, f4, m4⟩
   rw [en0] at hi
   have en4 : EnR t H4 ys := (en.bar hx f4).sub s4
   have ei : (xs.length : Int) / 2 - 1 - (i : Int) = ((xs.length / 2 - 1 - i : Nat) : Int) := by lia
   refine ⟨_, rfl, _, rfl, _, rfl, r, ys, xs.length / 2 - 1 - i, t, (by show [V.ref r, V.int ((xs.length : Int) / 2 - 1 - (i : Int))] = _; rw [ei]), h4, en4, by lia, fun H5 h5 f5 => ⟨_, _, rfl, rfl, ?_⟩⟩
   refine ⟨lk + (dn (ltT t) ys.length ys (xs.length / 2 - 1 - i) 0).2, _, _, rfl, h5, dn_len.trans l4, fun y hy => s4 y (dn_perm.mem_iff.mp hy), fun b o e nb => f5 b o (f4 b o e nb) nb, ?_⟩
   rw [← m4, show xs.length / 2 - i = (xs.length / 2 - (i + 1)) + 1 by lia]
   conv => rhs; unfold mk
   rw [show xs.length / 2 - (i + 1) = xs.length / 2 - 1 - i by lia]
  ·rintro σ H4 ⟨lk, o, ys, rfl, h4, l4, s4, f4, m4⟩
   rw [en0, Nat.sub_self] at m4
   have m5 : (ys, lk) = mk (ltT t) (xs.length / 2) xs 0 := m4
   have := k H4
   rw [← m5] at this
   exact ⟨_, rfl, this h4 f4⟩
end
end Kx
end
section
set_option linter.all false
set_option maxRecDepth 100000
set_option maxHeartbeats 4000000
namespace Kx
open PySem L2
section
variable {P : Program} {w : World} {K : PySem.W.Frag} {mg : Str → Option Value} {base : Heap}
open Hm
abbrev bmV : List Value := [.type "ValueError", .type "Exception", .type "BaseException", .type "object"]
structure NT (K : PySem.W.Frag) (C : Addr) : Prop where
 cl : Cls K C
 th : NoAttr K C "there"
 st : NoAttr K C "stamp"
abbrev sMany : Stmt := inClass (top 6) 1
theorem scMany : FnScope ["self"] ["self"] (defScope sMany) := ⟨rfl, rfl, rfl, (by simp only [List.nodup_cons, List.mem_cons, List.not_mem_nil, or_false, not_or, List.nodup_nil, and_true, not_false_eq_true]; (repeat' apply And.intro); all_goals decide +kernel), rfl, by decide +kernel, by decide +kernel⟩
def spMany (C : Addr) : Sp := fun vs H Q _ => ∃ (p dx d : Addr) (fs : List (Str × V)) (ks : List (Key × V)), vs = [.ref p] ∧ H p = some (.ins C dx fs) ∧ fs.lookup ("there" : Str) = some (.ref d) ∧ H d = some (.dK ks) ∧ Q (.int ks.length) H
theorem ok_many {f C : Addr} {fd : FuncData} (F : Fun K "many" "Named.many" sMany f fd) (T : Bl mg) (L : NT K C) : FnOk P w K mg base CX0 1 f fd ["self"] (spMany C) := by
 have sc := scMany
 refine F.ok scMany (fun vs H Q E h => ?_) (fun cdv A outer s H vs Q E hr h => ?_)
 ·obtain ⟨p, dx, d, fs, ks, rfl, _⟩ := h
  rfl
 ·obtain ⟨p, dx, d, fs, ks, rfl, hp, hl, hd, k⟩ := h
  have hu := hr.units0
  refine ⟨_, (QSs.to (qss_one (qs_ret (qe_callB call_lenD (by rfl) T.z_len (by decide +kernel) (qa_cons (qe_fld (qv 0) rfl) qa_nil))))), ?_⟩
  exact ⟨_, rfl, p, C, dx, fs, _, rfl, hp, L.cl, L.th, hl, d, ks, rfl, hd, k⟩
abbrev sHolds : Stmt := inClass (top 6) 3
theorem scHolds : FnScope ["self", "entry"] ["self", "entry"] (defScope sHolds) := ⟨rfl, rfl, rfl, (by simp only [List.nodup_cons, List.mem_cons, List.not_mem_nil, or_false, not_or, List.nodup_nil, and_true, not_false_eq_true]; (repeat' apply And.intro); all_goals decide +kernel), rfl, by decide +kernel, by decide +kernel⟩
def spHolds (C : Addr) : Sp := fun vs H Q _ => ∃ (p dx d : Addr) (fs : List (Str × V)) (ks : List (Key × V)) (T : List (Str × En)) (a : Addr) (e : En), vs = [.ref p, .ref a] ∧ H p = some (.ins C dx fs) ∧ fs.lookup ("there" : Str) = some (.ref d) ∧ H d = some (.dK ks) ∧ KR H ks T ∧ H a = some (.tup (enV e)) ∧ Q (.bl (Gm.holds T e)) H
theorem ok_holds {f C : Addr} {fd : FuncData} (F : Fun K "holds" "Named.holds" sHolds f fd) (T : Bl mg) (L : NT K C) : FnOk P w K mg base CX0 1 f fd ["self", "entry"] (spHolds C) := by
 have sc := scHolds
 refine F.ok scHolds (fun vs H Q E h => ?_) (fun cdv A outer s H vs Q E hr h => ?_)
 ·obtain ⟨p, dx, d, fs, ks, T', a, e, rfl, _⟩ := h
  rfl
 ·obtain ⟨p, dx, d, fs, ks, T', a, e, rfl, hp, hl, hd, kr, ha, k⟩ := h
  have hu := hr.units0
  refine ⟨_, (QSs.to (qss_one (qs_ret (qe_cmpR (op_eqOE hu) (qe_dget1 (hu_of hr) (qe_fld (qv 0) rfl) (qe_ix ix_tup (qv 1) qe_int (fun _ _ => rfl)) ⟨rfl, rfl, rfl, rfl⟩) (qv 1) (nomark _))))), ?_⟩
  refine ⟨_, rfl, p, C, dx, fs, _, rfl, hp, L.cl, L.th, hl, d, rfl, .inl ⟨ks, .inl hd⟩, _, rfl, a, _, _, _, rfl, rfl, SqT.of ha, rfl, _, DGet.k (k := Sum.inr e.n) hd, _, rfl, a, enV e, rfl, SqT.of ha, enV_en e, ?_⟩
  unfold Gm.holds at k
  rcases kr.get e.n with ⟨e1, e2⟩ | ⟨b, e', e1, e2, hb⟩
  ·rw [e2, decide_eq_false (fun z => nomatch z)] at k
   rw [e1]
   exact .inl ⟨rfl, k⟩
  ·rw [e2] at k
   rw [e1]
   refine .inr ⟨b, enV e', rfl, SqT.of hb, enV_en e', ?_⟩
   by_cases z : e' = e
   ·rw [z] at k ⊢
    rw [decide_eq_true rfl] at k ⊢
    exact k
   ·rw [decide_eq_false (fun y => z (Option.some.inj y))] at k
    rw [decide_eq_false (fun y => z (enV_inj y))]
    exact k
abbrev sNeed : Stmt := inClass (top 6) 4
theorem scNeed : FnScope ["self", "name"] ["self", "name"] (defScope sNeed) := ⟨rfl, rfl, rfl, (by simp only [List.nodup_cons, List.mem_cons, List.not_mem_nil, or_false, not_or, List.nodup_nil, and_true, not_false_eq_true]; (repeat' apply And.intro); all_goals decide +kernel), rfl, by decide +kernel, by decide +kernel⟩
def spNeed (C X : Addr) : Sp := fun vs H Q E => ∃ (p dx d : Addr) (fs : List (Str × V)) (ks : List (Key × V)) (n : Str), vs = [.ref p, .str n] ∧ H p = some (.ins C dx fs) ∧ fs.lookup ("there" : Str) = some (.ref d) ∧ H d = some (.dK ks) ∧ n.length ≤ 1000 ∧ ((valV ks (Sum.inr n)).isSome = true → Q .non H) ∧ ((valV ks (Sum.inr n)).isSome = false → E (.ref X) none H)
theorem ok_need {f C X : Addr} {fd : FuncData} (F : Fun K "need" "Named.need" sNeed f fd) (T : Bl mg) (L : NT K C) (mNoThing : mg "NoThing" = some (.ref X)) (xNoThing : PySem.W.excIn K X bmV "ValueError.__new__" = true) : FnOk P w K mg base (CXe P w) 1 f fd ["self", "name"] (spNeed C X) := by
 have sc := scNeed
 refine F.okE scNeed (fun vs H Q E h => ?_) (fun cdv A outer s H vs Q E hr h => ?_)
 ·obtain ⟨p, dx, d, fs, ks, n, rfl, _⟩ := h
  rfl
 ·obtain ⟨p, dx, d, fs, ks, n, rfl, hp, hl, hd, hn, k, kE⟩ := h
  have hu := hr.units0
  refine ⟨_, (QSs.to (qss_one (qs_if (qt_dnotin (hu_of hr) (qv 1) (qe_fld (qv 0) rfl)) (qss_one (qs_raiseC PySem.F.excBase_ValueError (by decide +kernel) rfl mNoThing xNoThing hr.hd (qa_cons (qe_fstr2 (qv 1) (by decide +kernel)) qa_nil))) qss_nil))), ?_⟩
  refine ⟨_, rfl, _, rfl, p, C, dx, fs, _, rfl, hp, L.cl, L.th, hl, d, _, rfl, DGet.k (k := Sum.inr n) hd, _, rfl, ?_⟩
  cases e : (valV ks (Sum.inr n : Key)).isSome with
  | false => exact iteT ⟨_, rfl, n, rfl, hn, fun r => ⟨by show 1 ≤ 1000; decide, kE e⟩⟩
  | true => exact iteF (k e)
abbrev sFree : Stmt := inClass (top 6) 5
theorem scFree : FnScope ["self", "name"] ["self", "name"] (defScope sFree) := ⟨rfl, rfl, rfl, (by simp only [List.nodup_cons, List.mem_cons, List.not_mem_nil, or_false, not_or, List.nodup_nil, and_true, not_false_eq_true]; (repeat' apply And.intro); all_goals decide +kernel), rfl, by decide +kernel, by decide +kernel⟩
def spFree (C X : Addr) : Sp := fun vs H Q E => ∃ (p dx d : Addr) (fs : List (Str × V)) (ks : List (Key × V)) (n : Str), vs = [.ref p, .str n] ∧ H p = some (.ins C dx fs) ∧ fs.lookup ("there" : Str) = some (.ref d) ∧ H d = some (.dK ks) ∧ n.length ≤ 1000 ∧ ((valV ks (Sum.inr n)).isSome = false → Q .non H) ∧ ((valV ks (Sum.inr n)).isSome = true → E (.ref X) none H)
theorem ok_need_free {f C X : Addr} {fd : FuncData} (F : Fun K "need_free" "Named.need_free" sFree f fd) (T : Bl mg) (L : NT K C) (mClash : mg "Clash" = some (.ref X)) (xClash : PySem.W.excIn K X bmV "ValueError.__new__" = true) : FnOk P w K mg base (CXe P w) 1 f fd ["self", "name"] (spFree C X) := by
 have sc := scFree
 refine F.okE scFree (fun vs H Q E h => ?_) (fun cdv A outer s H vs Q E hr h => ?_)
 ·obtain ⟨p, dx, d, fs, ks, n, rfl, _⟩ := h
  rfl
 ·obtain ⟨p, dx, d, fs, ks, n, rfl, hp, hl, hd, hn, k, kE⟩ := h
  have hu := hr.units0
  refine ⟨_, (QSs.to (qss_one (qs_if (qt_din (hu_of hr) (qv 1) (qe_fld (qv 0) rfl)) (qss_one (qs_raiseC PySem.F.excBase_ValueError (by decide +kernel) rfl mClash xClash hr.hd (qa_cons (qe_fstr2 (qv 1) (by decide +kernel)) qa_nil))) qss_nil))), ?_⟩
  refine ⟨_, rfl, _, rfl, p, C, dx, fs, _, rfl, hp, L.cl, L.th, hl, d, _, rfl, DGet.k (k := Sum.inr n) hd, _, rfl, ?_⟩
  cases e : (valV ks (Sum.inr n : Key)).isSome with
  | true => exact iteT ⟨_, rfl, n, rfl, hn, fun r => ⟨by show 1 ≤ 1000; decide, kE e⟩⟩
  | false => exact iteF (k e)
abbrev sAny : Stmt := inClass (top 6) 6
theorem scAny : FnScope ["self"] ["self"] (defScope sAny) := ⟨rfl, rfl, rfl, (by simp only [List.nodup_cons, List.mem_cons, List.not_mem_nil, or_false, not_or, List.nodup_nil, and_true, not_false_eq_true]; (repeat' apply And.intro); all_goals decide +kernel), rfl, by decide +kernel, by decide +kernel⟩
def spAny (C X : Addr) : Sp := fun vs H Q E => ∃ (p dx d : Addr) (fs : List (Str × V)) (ks : List (Key × V)), vs = [.ref p] ∧ H p = some (.ins C dx fs) ∧ fs.lookup ("there" : Str) = some (.ref d) ∧ H d = some (.dK ks) ∧ (ks ≠ [] → Q .non H) ∧ (ks = [] → E (.ref X) none H)
theorem ok_need_any {f C X : Addr} {fd : FuncData} (F : Fun K "need_any" "Named.need_any" sAny f fd) (T : Bl mg) (L : NT K C) (mNoThing : mg "NoThing" = some (.ref X)) (xNoThing : PySem.W.excIn K X bmV "ValueError.__new__" = true) : FnOk P w K mg base (CXe P w) 1 f fd ["self"] (spAny C X) := by
 have sc := scAny
 refine F.okE scAny (fun vs H Q E h => ?_) (fun cdv A outer s H vs Q E hr h => ?_)
 ·obtain ⟨p, dx, d, fs, ks, rfl, _⟩ := h
  rfl
 ·obtain ⟨p, dx, d, fs, ks, rfl, hp, hl, hd, k, kE⟩ := h
  have hu := hr.units0
  refine ⟨_, (QSs.to (qss_one (qs_if (qt_cmpR op_eq (qe_callB call_lenD (by rfl) T.z_len (by decide +kernel) (qa_cons (qe_fld (qv 0) rfl) qa_nil)) qe_int (nomark _)) (qss_one (qs_raiseC PySem.F.excBase_ValueError (by decide +kernel) rfl mNoThing xNoThing hr.hd (qa_cons qe_str qa_nil))) qss_nil))), ?_⟩
  refine ⟨_, rfl, p, C, dx, fs, _, rfl, hp, L.cl, L.th, hl, d, ks, rfl, hd, rfl, _, rfl, ite2 (fun c1 => ?_) (fun c1 => ?_)⟩
  ·have := V.int.inj (of_decide_eq_true c1)
   exact ⟨by show 1 ≤ 1000; decide, kE (List.length_eq_zero_iff.mp (by lia))⟩
  ·exact k fun z => c1 (decide_eq_true (by rw [z]; rfl))
abbrev sStamped : Stmt := inClass (top 6) 7
theorem scStamped : FnScope ["self", "name", "worth", "entry"] ["self", "name", "worth"] (defScope sStamped) := ⟨rfl, rfl, rfl, (by simp only [List.nodup_cons, List.mem_cons, List.not_mem_nil, or_false, not_or, List.nodup_nil, and_true, not_false_eq_true]; (repeat' apply And.intro); all_goals decide +kernel), rfl, by decide +kernel, by decide +kernel⟩
def spStamped (C : Addr) : Sp := fun vs H Q _ => ∃ (p dx d : Addr) (fs : List (Str × V)) (ks : List (Key × V)) (n : Str) (w st : Int), vs = [.ref p, .str n, .int w] ∧ H p = some (.ins C dx fs) ∧ fs.lookup ("there" : Str) = some (.ref d) ∧ H d = some (.dK ks) ∧ fs.lookup ("stamp" : Str) = some (.int st) ∧ fs.length ≤ 100 ∧ ks.length ≤ 1000 ∧
 ∀ q, H q = none → Q (.ref q) (upd (upd (upd H q (.tup [.int w, .str n, .int st])) p (.ins C dx (putF ("stamp" : Str) (.int (st + 1)) fs))) d (.dK (putK ks (Sum.inr n) (.ref q))))
theorem th_st : ¬ (("there" : Str) = "stamp") := by decide +kernel
theorem ok_stamped {f C : Addr} {fd : FuncData} (F : Fun K "stamped" "Named.stamped" sStamped f fd) (T : Bl mg) (L : NT K C) : FnOk P w K mg base CX0 1 f fd ["self", "name", "worth"] (spStamped C) := by
 have sc := scStamped
 refine F.ok scStamped (fun vs H Q E h => ?_) (fun cdv A outer s H vs Q E hr h => ?_)
 ·obtain ⟨p, dx, d, fs, ks, n, w, st, rfl, _⟩ := h
  rfl
 ·obtain ⟨p, dx, d, fs, ks, n, w, st, rfl, hp, hl, hd, hs, hf, hk, k⟩ := h
  have hu := hr.units0
  have npd : p ≠ d := ne_of hp hd (by intro z; cases z)
  refine ⟨_, (QSs.to (qss_cons (qs_set (i := 3) sc.nd rfl (Or.inl rfl) (qe_tup (qa_cons (qv 2) (qa_cons (qv 1) (qa_cons (qe_fld (qv 0) rfl) qa_nil)))))
   (qss_cons (qs_fld (qv 0) (qe_op op_add (qe_fld (qv 0) rfl) qe_int) rfl)
   (qss_cons (qs_dput (hu_of hr) (qe_fld (qv 0) rfl) (qv 1) (qv 3) rfl)
   (qss_one (qs_ret (qv 3))))))), ?_⟩
  refine ⟨_, rfl, _, rfl, _, rfl, p, C, dx, fs, _, rfl, hp, L.cl, L.st, hs, by show 3 ≤ sizeLine; decide, fun q hq => ?_⟩
  have hp1 : (upd H q (.tup [.int w, .str n, .int st])) p = some (.ins C dx fs) := by rw [upd_ne (ne_of_none hp hq)]; exact hp
  have hd1 : (upd H q (.tup [.int w, .str n, .int st])) d = some (.dK ks) := by rw [upd_ne (ne_of_none hd hq)]; exact hd
  refine ⟨_, rfl, p, C, dx, fs, _, rfl, hp1, L.cl, L.st, hs, _, _, rfl, rfl, _, rfl, p, C, dx, fs, rfl, hp1, L.cl, L.st, by lia, ?_⟩
  have hl2 : (putF ("stamp" : Str) (.int (st + 1)) fs).lookup ("there" : Str) = some (.ref d) := by rw [lookup_putF, if_neg th_st]; exact hl
  refine ⟨_, rfl, _, rfl, p, C, dx, _, _, rfl, upd_same, L.cl, L.th, hl2, _, rfl, d, _, rfl, DPut.k (k := Sum.inr n) (by rw [upd_ne npd.symm]; exact hd1) (small1000 hk), ?_⟩
  exact ⟨_, rfl, k q hq⟩
def wOf (T : List (Str × En)) (n : Str) : Int := ((Gm.dget T n).getD default).w
def PR (H : Hp) (zs : List V) (L : List (Str × Int)) : Prop := Paired (fun (z : V) (nw : Str × Int) => ∃ a, z = .ref a ∧ H a = some (.tup [.str nw.1, .int nw.2])) zs L
abbrev sThings : Stmt := inClass (top 6) 2
def spThings (C : Addr) : Sp := fun vs H Q _ => ∃ (p dx d : Addr) (fs : List (Str × V)) (ks : List (Key × V)) (T : List (Str × En)), vs = [.ref p] ∧ H p = some (.ins C dx fs) ∧ fs.lookup ("there" : Str) = some (.ref d) ∧ H d = some (.dK ks) ∧ KR H ks T ∧ ks.length ≤ 1000 ∧
 ∀ (q : Addr) (zs : List V) (ys : List Str) (H' : Hp), ys.Perm (T.map (·.1)) → ys.Pairwise (fun x y => slt y x = false) → H' q = some (.tup zs) → PR H' zs (ys.map fun n => (n, wOf T n)) → Same H H' → Q (.ref q) H'
abbrev sNInit : Stmt := inClass (top 6) 0
theorem scNInit : FnScope ["self"] ["self"] (defScope sNInit) := ⟨rfl, rfl, rfl, (by simp only [List.nodup_cons, List.mem_cons, List.not_mem_nil, or_false, not_or, List.nodup_nil, and_true, not_false_eq_true]; (repeat' apply And.intro); all_goals decide +kernel), rfl, by decide +kernel, by decide +kernel⟩
def spNInit (C : Addr) : Sp := fun vs H Q _ => ∃ (p dx : Addr), vs = [.ref p] ∧ H p = some (.ins C dx []) ∧ ∀ d, H d = none → Q .non (upd (upd (upd H d (.dK [])) p (.ins C dx [("there", .ref d)])) p (.ins C dx [("there", .ref d), ("stamp", .int 0)]))
theorem ok_Named__init__ {f C : Addr} {fd : FuncData} (F : Fun K "__init__" "Named.__init__" sNInit f fd) (T : Bl mg) (L : NT K C) : FnOk P w K mg base CX0 1 f fd ["self"] (spNInit C) := by
 have sc := scNInit
 refine F.ok scNInit (fun vs H Q E h => ?_) (fun cdv A outer s H vs Q E hr h => ?_)
 ·obtain ⟨p, dx, rfl, _⟩ := h
  rfl
 ·obtain ⟨p, dx, rfl, hp, k⟩ := h
  have hu := hr.units0
  refine ⟨_, (QSs.to (qss_cons (qs_fld (qv 0) qe_dnewK rfl)
   (qss_one (qs_fld (qv 0) qe_int rfl)))), ?_⟩
  intro d hd
  have npd : p ≠ d := ne_of_none hp hd
  refine ⟨_, rfl, p, C, dx, [], rfl, (by rw [upd_ne npd]; exact hp), L.cl, L.th, (by show 0 < 1000; decide), _, rfl, p, C, dx, _, rfl, upd_same, L.cl, L.st, (by show 1 < 1000; decide), ?_⟩
  have e1 : putF ("stamp" : Str) (.int 0) (putF ("there" : Str) (.ref d) []) = ([("there", V.ref d), ("stamp", V.int 0)] : List (Str × V)) := by
   show (if ("there" : Str) = "stamp" then _ else _) = _
   rw [if_neg th_st]
   rfl
  rw [e1]
  exact k d hd
end
end Kx
end
section
set_option linter.all false
set_option maxRecDepth 100000
set_option maxHeartbeats 4000000
namespace Kx
open PySem L2
section
variable {P : Program} {w : World} {K : PySem.W.Frag} {mg : Str → Option Value} {base : Heap}
open Hm
structure LT (K : PySem.W.Frag) (C : Addr) : Prop where
 nt : NT K C
 sk : NoAttr K C "slack"
 en : NoAttr K C "entries"
 lk : NoAttr K C "looks"
theorem LT.cl {C : Addr} (L : LT K C) : Cls K C := L.nt.cl
def lfs (d l : Addr) (s : LS) : List (Str × V) := [("there", .ref d), ("stamp", .int s.stamp), ("slack", .int s.slack), ("entries", .ref l), ("looks", .int s.looks)]
theorem lk_ne {a b : Str} {v : V} {r : List (Str × V)} (h : ¬ b = a) : List.lookup a ((b, v) :: r) = List.lookup a r := by
 rw [List.lookup_cons, beq_eq_false_iff_ne.mpr (fun z => h z.symm)]
theorem lk_eq {a : Str} {v : V} {r : List (Str × V)} : List.lookup a ((a, v) :: r) = some v := by
 rw [List.lookup_cons, beq_self_eq_true]
theorem pf_ne {a b : Str} {v x : V} {r : List (Str × V)} (h : ¬ b = a) : putF a v ((b, x) :: r) = (b, x) :: putF a v r := if_neg h
theorem pf_eq {a : Str} {v x : V} {r : List (Str × V)} : putF a v ((a, x) :: r) = (a, v) :: r := if_pos rfl
theorem d1 : ¬ (("there" : Str) = "slack") := by decide +kernel
theorem d2 : ¬ (("there" : Str) = "entries") := by decide +kernel
theorem d3 : ¬ (("there" : Str) = "looks") := by decide +kernel
theorem d4 : ¬ (("stamp" : Str) = "slack") := by decide +kernel
theorem d5 : ¬ (("stamp" : Str) = "entries") := by decide +kernel
theorem d6 : ¬ (("stamp" : Str) = "looks") := by decide +kernel
theorem d7 : ¬ (("slack" : Str) = "entries") := by decide +kernel
theorem d8 : ¬ (("slack" : Str) = "looks") := by decide +kernel
theorem d9 : ¬ (("entries" : Str) = "looks") := by decide +kernel
section
variable {d l l' : Addr} {s : LS}
theorem lf_th : (lfs d l s).lookup ("there" : Str) = some (.ref d) := lk_eq
theorem lf_st : (lfs d l s).lookup ("stamp" : Str) = some (.int s.stamp) := by unfold lfs; rw [lk_ne th_st, lk_eq]
theorem lf_sk : (lfs d l s).lookup ("slack" : Str) = some (.int s.slack) := by unfold lfs; rw [lk_ne d1, lk_ne d4, lk_eq]
theorem lf_en : (lfs d l s).lookup ("entries" : Str) = some (.ref l) := by unfold lfs; rw [lk_ne d2, lk_ne d5, lk_ne d7, lk_eq]
theorem lf_lk : (lfs d l s).lookup ("looks" : Str) = some (.int s.looks) := by unfold lfs; rw [lk_ne d3, lk_ne d6, lk_ne d8, lk_ne d9, lk_eq]
theorem lf_no {m : Str} (h1 : ¬ ("there" : Str) = m) (h2 : ¬ ("stamp" : Str) = m) (h3 : ¬ ("slack" : Str) = m) (h4 : ¬ ("entries" : Str) = m) (h5 : ¬ ("looks" : Str) = m) : (lfs d l s).lookup m = none := by unfold lfs; rw [lk_ne h1, lk_ne h2, lk_ne h3, lk_ne h4, lk_ne h5]; rfl
theorem pf_st {k : Nat} : putF ("stamp" : Str) (.int ((s.stamp : Int) + 1)) (lfs d l s) = lfs d l { s with stamp := s.stamp + 1 } := by unfold lfs; rw [pf_ne th_st, pf_eq]; rfl
theorem pf_en : putF ("entries" : Str) (.ref l') (lfs d l s) = lfs d l' s := by unfold lfs; rw [pf_ne d2, pf_ne d5, pf_ne d7, pf_eq]
theorem pf_lk {k : Nat} : putF ("looks" : Str) (.int ((s.looks : Int) + k)) (lfs d l s) = lfs d l { s with looks := s.looks + k } := by
 unfold lfs
 rw [pf_ne d3, pf_ne d6, pf_ne d8, pf_ne d9, pf_eq]
 show _ = [_, _, _, _, (_, V.int ((s.looks + k : Nat) : Int))]
 rw [Int.natCast_add]
end
structure LateAt (C : Addr) (H : Hp) (p d l : Addr) (s : LS) : Prop where
 ob : ∃ dx, H p = some (.ins C dx (lfs d l s))
 dc : ∃ ks, H d = some (.dK ks) ∧ KR H ks s.there
 ls : ∃ xs, H l = some (.lst xs) ∧ RR H xs s.row
section
variable {C p d l : Addr} {H H' : Hp} {s : LS}
theorem LateAt.notup (L : LateAt C H p d l s) : ∀ b ∈ [p, d, l], ∀ xs, H b ≠ some (.tup xs) := by
 obtain ⟨dx, h1⟩ := L.ob
 obtain ⟨ks, h2, _⟩ := L.dc
 obtain ⟨xs, h3, _⟩ := L.ls
 intro b hb ys z
 simp only [List.mem_cons, List.not_mem_nil, or_false] at hb
 rcases hb with rfl | rfl | rfl
 ·rw [h1] at z; cases z
 ·rw [h2] at z; cases z
 ·rw [h3] at z; cases z
theorem LateAt.npd (L : LateAt C H p d l s) : p ≠ d := by
 obtain ⟨dx, h1⟩ := L.ob
 obtain ⟨ks, h2, _⟩ := L.dc
 exact ne_of h1 h2 (by intro z; cases z)
theorem LateAt.npl (L : LateAt C H p d l s) : p ≠ l := by
 obtain ⟨dx, h1⟩ := L.ob
 obtain ⟨ks, h2, _⟩ := L.ls
 exact ne_of h1 h2 (by intro z; cases z)
theorem LateAt.ndl (L : LateAt C H p d l s) : d ≠ l := by
 obtain ⟨dx, h1, _⟩ := L.dc
 obtain ⟨ks, h2, _⟩ := L.ls
 exact ne_of h1 h2 (by intro z; cases z)
theorem LateAt.stay (L : LateAt C H p d l s) (k : ∀ b o, b = p ∨ b = d ∨ b = l → H b = some o → H' b = some o) (t : ∀ b l, H b = some (.tup l) → H' b = some (.tup l)) : LateAt C H' p d l s := by
 obtain ⟨dx, h1⟩ := L.ob
 obtain ⟨ks, h2, r2⟩ := L.dc
 obtain ⟨xs, h3, r3⟩ := L.ls
 exact ⟨⟨dx, k _ _ (.inl rfl) h1⟩, ⟨ks, k _ _ (.inr (.inl rfl)) h2, r2.stay t⟩, ⟨xs, k _ _ (.inr (.inr rfl)) h3, r3.stay t⟩⟩
theorem LateAt.same (L : LateAt C H p d l s) (k : Same H H') : LateAt C H' p d l s := L.stay (fun b o _ h => k b o h) fun b l h => k b _ h
end
def Fr3 (H : Hp) (l l' : Addr) : Prop := l' = l ∨ H l' = none
abbrev sEnter : Stmt := inClass (top 15) 8
theorem scEnter : FnScope ["self", "name", "worth"] ["self", "name", "worth"] (defScope sEnter) := ⟨rfl, rfl, rfl, (by simp only [List.nodup_cons, List.mem_cons, List.not_mem_nil, or_false, not_or, List.nodup_nil, and_true, not_false_eq_true]; (repeat' apply And.intro); all_goals decide +kernel), rfl, by decide +kernel, by decide +kernel⟩
def spEnter (C : Addr) : Sp := fun vs H Q _ => ∃ (p d l : Addr) (s : LS) (n : Str) (w : Int), vs = [.ref p, .str n, .int w] ∧ LateAt C H p d l s ∧ s.row.length ≤ 1000 ∧ s.there.length ≤ 1000 ∧
 ∀ H', LateAt C H' p d l (Gm.enter slt s n w) → Kept [p, d, l] H H' → Q .non H'
theorem lay_use {H : Hp} {r a : Addr} {xs : List V} {es : List En} {e : En} {Q : VK} {E : XK} (h : H r = some (.lst xs)) (rr : RR H xs es) (ha : H a = some (.tup (enV e))) (hl : es.length ≤ 1000)
  (k : ∀ ys H', H' r = some (.lst ys) → RR H' ys (Hg.up lE es.length (es ++ [e]) es.length 0).1 → Kept [r] H H' → Q (.int (Hg.up lE es.length (es ++ [e]) es.length 0).2) H') : spLay [.ref r, .ref a] H Q E := by
 have rs := rr.snoc ha
 refine ⟨r, xs, .ref a, keyE H, rfl, h, rs.en, by rw [rr.len]; exact hl, fun H' h' kp => ?_⟩
 have em := up_map (H := H) (f := xs.length) (xs := xs ++ [.ref a]) (p := xs.length) (lk := 0)
 rw [rs.eq, rr.len] at em
 have kk : Kept [r] H H' := fun b o q n => kp b o q fun z => n (List.mem_singleton.mpr z)
 have := k _ H' h' (by
  rw [em, rr.len]
  have r2 := rs.sub (ys := (up (ltT (keyE H)) es.length (xs ++ [.ref a]) es.length 0).1) fun y hy => (up_perm (by rw [List.length_append, rr.len]; exact Nat.lt_succ_self _)).mem_iff.mp hy
  exact r2.stay (kk.tups fun b hb ys z => by rw [List.mem_singleton.mp hb, h] at z; cases z)) kk
 rw [em] at this
 rw [rr.len]
 exact this
theorem ok_enter {f C fa fb : Addr} {fd fda fdb : FuncData} (F : Fun K "enter" "Late.enter" sEnter f fd) (T : Bl mg) (L : LT K C) (Glay_in : FnOk P w K mg base CX0 3 fa fda ["heap", "entry"] spLay) (Dlay_in : Nm K mg "lay_in" fa fda ["heap", "entry"])
  (Mstamped : Meth K C "stamped" fb) (Gstamped : FnOk P w K mg base CX0 1 fb fdb ["self", "name", "worth"] (spStamped C)) (Bstamped : Binds K fdb ["self", "name", "worth"] []) : FnOk P w K mg base CX0 4 f fd ["self", "name", "worth"] (spEnter C) := by
 have sc := scEnter
 refine F.ok scEnter (fun vs H Q E h => ?_) (fun cdv A outer s H vs Q E hr h => ?_)
 ·obtain ⟨p, d, l, s, n, w, rfl, _⟩ := h
  rfl
 ·obtain ⟨p, d, l, s, n, w, rfl, LA, h1, h2, k⟩ := h
  have hu := hr.units0
  have npd := LA.npd
  have npl := LA.npl
  have ndl := LA.ndl
  obtain ⟨dx, hp⟩ := LA.ob
  obtain ⟨ks, hd, kr⟩ := LA.dc
  obtain ⟨xs, hx, rr⟩ := LA.ls
  refine ⟨_, (QSs.to (qss_one (qs_fld (qv 0) (qe_op op_add (qe_fld (qv 0) rfl) (qe_call Glay_in (hr.mono (by decide)) rfl Dlay_in.m Dlay_in.k Dlay_in.b .nil pass0 (qa_cons (qe_fld (qv 0) rfl) (qa_cons (qe_meth (qv 0) L.cl Mstamped Gstamped (hr.mono (by decide)) Bstamped .nil pass0 (qa_cons (qv 1) (qa_cons (qv 2) qa_nil))) qa_nil)))) rfl))), ?_⟩
  refine ⟨_, rfl, p, C, dx, _, _, rfl, hp, L.cl, L.lk, lf_lk, _, rfl, p, C, dx, _, _, rfl, hp, L.cl, L.en, lf_en, _, rfl, p, dx, _, rfl, hp, lf_no (by decide +kernel) (by decide +kernel) (by decide +kernel) (by decide +kernel) (by decide +kernel), _, rfl, _, rfl, p, dx, d, _, ks, n, w, s.stamp, rfl, hp, lf_th, hd, lf_st, by show 5 ≤ 100; decide, by rw [kr.len]; exact h2, fun q hq => ?_⟩
  have npq : p ≠ q := ne_of_none hp hq
  have ndq : d ≠ q := ne_of_none hd hq
  have nlq : l ≠ q := ne_of_none hx hq
  rw [pf_st (k := 0)]
  have q2 : ∀ b o, H b = some o → b ≠ p → b ≠ d → (upd (upd (upd H q (.tup [.int w, .str n, .int s.stamp])) p (.ins C dx (lfs d l { s with stamp := s.stamp + 1 }))) d (.dK (putK ks (Sum.inr n) (.ref q)))) b = some o := fun b o e n1 n2 => by
   rw [upd_ne n2, upd_ne n1, upd_ne (ne_of_none e hq)]; exact e
  have hq2 : (upd (upd (upd H q (.tup [.int w, .str n, .int s.stamp])) p (.ins C dx (lfs d l { s with stamp := s.stamp + 1 }))) d (.dK (putK ks (Sum.inr n) (.ref q)))) q = some (.tup (enV ⟨w, n, (s.stamp : Int)⟩)) := by
   rw [upd_ne ndq.symm, upd_ne npq.symm, upd_same]; rfl
  have hp2 : (upd (upd (upd H q (.tup [.int w, .str n, .int s.stamp])) p (.ins C dx (lfs d l { s with stamp := s.stamp + 1 }))) d (.dK (putK ks (Sum.inr n) (.ref q)))) p = some (.ins C dx (lfs d l { s with stamp := s.stamp + 1 })) := by
   rw [upd_ne npd, upd_same]
  have hd2 : (upd (upd (upd H q (.tup [.int w, .str n, .int s.stamp])) p (.ins C dx (lfs d l { s with stamp := s.stamp + 1 }))) d (.dK (putK ks (Sum.inr n) (.ref q)))) d = some (.dK (putK ks (Sum.inr n) (.ref q))) := upd_same
  have kk2 : Kept [p, d, l] H (upd (upd (upd H q (.tup [.int w, .str n, .int s.stamp])) p (.ins C dx (lfs d l { s with stamp := s.stamp + 1 }))) d (.dK (putK ks (Sum.inr n) (.ref q)))) := fun b o e nb => q2 b o e (fun z => nb (z ▸ by simp)) (fun z => nb (z ▸ by simp))
  generalize (upd (upd (upd H q (.tup [.int w, .str n, .int s.stamp])) p (.ins C dx (lfs d l { s with stamp := s.stamp + 1 }))) d (.dK (putK ks (Sum.inr n) (.ref q)))) = H2 at q2 hq2 hp2 hd2 kk2 ⊢
  have t2 := kk2.tups LA.notup
  have hx2 := q2 l _ hx npl.symm ndl.symm
  unfold tNil
  dsimp only [List.cons_append, List.nil_append]
  refine lay_use hx2 (rr.stay t2) hq2 h1 fun ys H3 h3 rr3 k3 => ?_
  have pn : p ∉ [l] := fun z => npl (List.mem_singleton.mp z)
  have dn' : d ∉ [l] := fun z => ndl (List.mem_singleton.mp z)
  have hp3 := k3 p _ hp2 pn
  have t3 := k3.tups (fun b hb zs z => by rw [List.mem_singleton.mp hb, hx2] at z; cases z)
  refine ⟨_, _, rfl, rfl, _, rfl, p, C, dx, _, rfl, hp3, L.cl, L.lk, by show 5 < 1000; decide, ?_⟩
  have e6 := pf_lk (d := d) (l := l) (s := { s with stamp := s.stamp + 1 }) (k := (Hg.up lE s.row.length (s.row ++ [⟨w, n, (s.stamp : Int)⟩]) s.row.length 0).2)
  have e7 : putF ("looks" : Str) (.int ((s.looks : Int) + ((Hg.up lE s.row.length (s.row ++ [⟨w, n, (s.stamp : Int)⟩]) s.row.length 0).2 : Nat))) (lfs d l { s with stamp := s.stamp + 1 }) = lfs d l (Gm.enter slt s n w) := e6
  rw [e7]
  have t4 : ∀ b zs, H3 b = some (.tup zs) → (upd H3 p (.ins C dx (lfs d l (Gm.enter slt s n w)))) b = some (.tup zs) := fun b zs z => by rw [upd_ne (ne_of z hp3 (by intro y; cases y))]; exact z
  refine k _ ⟨⟨dx, upd_same⟩, ⟨_, by rw [upd_ne npd.symm]; exact k3 d _ hd2 dn', ((((kr.stay t2).put hq2).stay t3).stay t4)⟩, ⟨ys, by rw [upd_ne npl.symm]; exact h3, rr3.stay t4⟩⟩ ?_
  exact (kk2.trans (k3.mono fun b hb => by rw [List.mem_singleton.mp hb]; simp)).put (by simp)
abbrev sCut2 : Stmt := inClass (top 15) 9
theorem scCut2 : FnScope ["self"] ["self"] (defScope sCut2) := ⟨rfl, rfl, rfl, (by simp only [List.nodup_cons, List.mem_cons, List.not_mem_nil, or_false, not_or, List.nodup_nil, and_true, not_false_eq_true]; (repeat' apply And.intro); all_goals decide +kernel), rfl, by decide +kernel, by decide +kernel⟩
def spCut2 (C : Addr) : Sp := fun vs H Q _ => ∃ (p d l : Addr) (s : LS), vs = [.ref p] ∧ LateAt C H p d l s ∧ 0 < s.row.length ∧ s.row.length ≤ 1000 ∧ ∀ H', LateAt C H' p d l (Gm.cut slt s) → Kept [p, l] H H' → Q .non H'
theorem cut_use {H : Hp} {r : Addr} {xs : List V} {es : List En} {Q : VK} {E : XK} (h : H r = some (.lst xs)) (rr : RR H xs es) (h0 : 0 < es.length) (hl : es.length ≤ 1000)
  (k : ∀ ys H', H' r = some (.lst ys) → RR H' ys (Hg.cutf lE es).1 → Kept [r] H H' → Q (.int (Hg.cutf lE es).2) H') : spCut [.ref r] H Q E := by
 refine ⟨r, xs, keyE H, rfl, h, rr.en, by rw [rr.len]; exact h0, by rw [rr.len]; exact hl, fun H' h' kp => ?_⟩
 have em := cut_map (H := H) (xs := xs)
 rw [rr.eq] at em
 have kk : Kept [r] H H' := fun b o q n => kp b o q fun z => n (List.mem_singleton.mpr z)
 have := k _ H' h' (by
  rw [em]
  have r2 := rr.sub (ys := (cutf (ltT (keyE H)) xs).1) fun y hy => (cutf_perm (by rw [rr.len]; exact h0)).mem_iff.mp (List.mem_cons_of_mem _ hy)
  exact r2.stay (kk.tups fun b hb ys z => by rw [List.mem_singleton.mp hb, h] at z; cases z)) kk
 rw [em] at this
 exact this
theorem ok_cut2 {f C fa : Addr} {fd fda : FuncData} (F : Fun K "cut" "Late.cut" sCut2 f fd) (T : Bl mg) (L : LT K C) (Gcut_first : FnOk P w K mg base CX0 3 fa fda ["heap"] spCut) (Dcut_first : Nm K mg "cut_first" fa fda ["heap"]) : FnOk P w K mg base CX0 4 f fd ["self"] (spCut2 C) := by
 have sc := scCut2
 refine F.ok scCut2 (fun vs H Q E h => ?_) (fun cdv A outer s H vs Q E hr h => ?_)
 ·obtain ⟨p, d, l, s, rfl, _⟩ := h
  rfl
 ·obtain ⟨p, d, l, s, rfl, LA, h0, h1, k⟩ := h
  have hu := hr.units0
  have npd := LA.npd
  have npl := LA.npl
  have ndl := LA.ndl
  obtain ⟨dx, hp⟩ := LA.ob
  obtain ⟨ks, hd, kr⟩ := LA.dc
  obtain ⟨xs, hx, rr⟩ := LA.ls
  refine ⟨_, (QSs.to (qss_one (qs_fld (qv 0) (qe_op op_add (qe_fld (qv 0) rfl) (qe_call Gcut_first (hr.mono (by decide)) rfl Dcut_first.m Dcut_first.k Dcut_first.b .nil pass0 (qa_cons (qe_fld (qv 0) rfl) qa_nil))) rfl))), ?_⟩
  refine ⟨_, rfl, p, C, dx, _, _, rfl, hp, L.cl, L.lk, lf_lk, _, rfl, p, C, dx, _, _, rfl, hp, L.cl, L.en, lf_en, ?_⟩
  unfold tNil
  dsimp only [List.cons_append, List.nil_append]
  refine cut_use hx rr h0 h1 fun ys H3 h3 rr3 k3 => ?_
  have pn : p ∉ [l] := fun z => npl (List.mem_singleton.mp z)
  have dn' : d ∉ [l] := fun z => ndl (List.mem_singleton.mp z)
  have hp3 := k3 p _ hp pn
  have t3 := k3.tups (fun b hb zs z => by rw [List.mem_singleton.mp hb, hx] at z; cases z)
  refine ⟨_, _, rfl, rfl, _, rfl, p, C, dx, _, rfl, hp3, L.cl, L.lk, by show 5 < 1000; decide, ?_⟩
  have e7 : putF ("looks" : Str) (.int ((s.looks : Int) + ((Hg.cutf lE s.row).2 : Nat))) (lfs d l s) = lfs d l (Gm.cut slt s) := pf_lk
  rw [e7]
  have t4 : ∀ b zs, H3 b = some (.tup zs) → (upd H3 p (.ins C dx (lfs d l (Gm.cut slt s)))) b = some (.tup zs) := fun b zs z => by rw [upd_ne (ne_of z hp3 (by intro y; cases y))]; exact z
  refine k _ ⟨⟨dx, upd_same⟩, ⟨ks, by rw [upd_ne npd.symm]; exact k3 d _ hd dn', (kr.stay t3).stay t4⟩, ⟨ys, by rw [upd_ne npl.symm]; exact h3, rr3.stay t4⟩⟩ ?_
  exact (k3.mono fun b hb => by rw [List.mem_singleton.mp hb]; simp).put (by simp)
end
end Kx
end
section
set_option linter.all false
set_option maxRecDepth 100000
set_option maxHeartbeats 4000000
namespace Kx
open PySem L2
section
variable {P : Program} {w : World} {K : PySem.W.Frag} {mg : Str → Option Value} {base : Heap}
open Hm
theorem LateAt.fresh {C p d l l' : Addr} {H H2 : Hp} {s : LS} (L : LateAt C H2 p d l s) (k : Kept [p, d, l] H H2) (z : H2 l' = none) : H l' = none := by
 obtain ⟨dx, h1⟩ := L.ob
 obtain ⟨ks, h2, _⟩ := L.dc
 obtain ⟨xs, h3, _⟩ := L.ls
 refine k.none z fun hb => ?_
 simp only [List.mem_cons, List.not_mem_nil, or_false] at hb
 rcases hb with rfl | rfl | rfl
 ·rw [h1] at z; cases z
 ·rw [h2] at z; cases z
 ·rw [h3] at z; cases z
theorem order_use {H : Hp} {r : Addr} {xs : List V} {es : List En} {Q : VK} {E : XK} (h : H r = some (.lst xs)) (rr : RR H xs es) (hl : es.length ≤ 1000)
  (k : ∀ ys H', H' r = some (.lst ys) → RR H' ys (Hg.mk lE (es.length / 2) es 0).1 → Kept [r] H H' → Q (.int (Hg.mk lE (es.length / 2) es 0).2) H') : spOrder [.ref r] H Q E := by
 refine ⟨r, xs, keyE H, rfl, h, rr.en, by rw [rr.len]; exact hl, fun H' h' kp => ?_⟩
 have em := mk_map (H := H) (k := xs.length / 2) (xs := xs) (lk := 0)
 rw [rr.eq, rr.len] at em
 rw [rr.len] at h' ⊢
 have kk : Kept [r] H H' := fun b o q n => kp b o q fun z => n (List.mem_singleton.mpr z)
 have := k _ H' h' (by
  rw [em]
  have r2 := rr.sub (ys := (mk (ltT (keyE H)) (es.length / 2) xs 0).1) fun y hy => mk_perm.mem_iff.mp hy
  exact r2.stay (kk.tups fun b hb ys z => by rw [List.mem_singleton.mp hb, h] at z; cases z)) kk
 rw [em] at this
 exact this
abbrev sSweep : Stmt := inClass (top 15) 11
theorem scSweep : FnScope ["self", "gone"] ["self"] (defScope sSweep) := ⟨rfl, rfl, rfl, (by simp only [List.nodup_cons, List.mem_cons, List.not_mem_nil, or_false, not_or, List.nodup_nil, and_true, not_false_eq_true]; (repeat' apply And.intro); all_goals decide +kernel), rfl, by decide +kernel, by decide +kernel⟩
def spSweep (C : Addr) : Sp := fun vs H Q _ => ∃ (p d l : Addr) (s : LS), vs = [.ref p] ∧ LateAt C H p d l s ∧ s.row.length ≤ 1000 ∧ ∀ l' H', LateAt C H' p d l' (Gm.sweep slt s) → Kept [p, d, l] H H' → Fr3 H l l' → Q .non H'
theorem filter_take {α : Type} {xs : List α} {f : α → Bool} {i : Nat} {x : α} (h : xs[i]? = some x) : (xs.take (i + 1)).filter f = (xs.take i).filter f ++ (if f x = true then [x] else []) := by
 rw [List.take_add_one, h, List.filter_append]
 congr 1
 show List.filter f [x] = _
 by_cases z : f x = true
 ·rw [if_pos z, List.filter_cons, if_pos z, List.filter_nil]
 ·rw [if_neg z, List.filter_cons, if_neg z, List.filter_nil]
theorem ok_sweep {f C fa fholds : Addr} {fd fda fdholds : FuncData} (F : Fun K "sweep_if_due" "Late.sweep_if_due" sSweep f fd) (T : Bl mg) (L : LT K C) (Gorder : FnOk P w K mg base CX0 3 fa fda ["heap"] spOrder) (Dorder : Nm K mg "order" fa fda ["heap"]) (Mholds : Meth K C "holds" fholds) (Gholds : FnOk P w K mg base CX0 1 fholds fdholds ["self", "entry"] (spHolds C)) (Bholds : Binds K fdholds ["self", "entry"] []) : FnOk P w K mg base CX0 4 f fd ["self"] (spSweep C) := by
 have sc := scSweep
 refine F.ok scSweep (fun vs H Q E h => ?_) (fun cdv A outer s H vs Q E hr h => ?_)
 ·obtain ⟨p, d, l, s, rfl, _⟩ := h
  rfl
 ·obtain ⟨p, d, l, s, rfl, LA, h1, kQ⟩ := h
  have hu := hr.units0
  have npd := LA.npd
  have npl := LA.npl
  have ndl := LA.ndl
  obtain ⟨dx, hp⟩ := LA.ob
  obtain ⟨ks, hd, kr⟩ := LA.dc
  obtain ⟨xs, hx, rr⟩ := LA.ls
  refine ⟨_, (QSs.to (qss_cons (qs_set (i := 1) sc.nd rfl (Or.inl rfl) (qe_op op_sub (qe_callB call_len_seq (by rfl) T.z_len (by decide +kernel) (qa_cons (qe_fld (qv 0) rfl) qa_nil)) (qe_callB call_lenD (by rfl) T.z_len (by decide +kernel) (qa_cons (qe_fld (qv 0) rfl) qa_nil))))
   (qss_one (qs_if (QW.pt (qw_and (qt_cmpR op_gt (qv 1) (qe_callB call_lenD (by rfl) T.z_len (by decide +kernel) (qa_cons (qe_fld (qv 0) rfl) qa_nil)) (nomark _)) (qw_and1 (qt_cmpR op_gt (qv 1) (qe_fld (qv 0) rfl) (nomark _))))) (qss_cons (qs_fld (qv 0) (qe_comp (Blk.of (N := ["self", "gone"]) (esc := defScope sSweep) (NB := ["self"]) (cap := [0]) rfl rfl (fun y hy => cell_has hy) rfl (by decide +kernel) (by decide +kernel) (by decide +kernel) rfl (by decide +kernel) rfl (by decide +kernel)) rfl rfl (qi_list (qe_fld (qv 0) rfl)) (fun C fp s₀ H₀ => (qts_one (qt_val (qe_meth (qv 1) L.cl Mholds Gholds (hr.mono (by decide)) Bholds .nil pass0 (qa_cons (qv 0) qa_nil))))) (fun C fp s₀ H₀ => (qv 0))) rfl)
   (qss_one (qs_fld (qv 0) (qe_op op_add (qe_fld (qv 0) rfl) (qe_call Gorder (hr.mono (by decide)) rfl Dorder.m Dorder.k Dorder.b .nil pass0 (qa_cons (qe_fld (qv 0) rfl) qa_nil))) rfl))) qss_nil)))), ?_⟩
  refine ⟨_, rfl, p, C, dx, _, _, rfl, hp, L.cl, L.en, lf_en, l, _, rfl, .inl (SqL.of hx), _, rfl, p, C, dx, _, _, rfl, hp, L.cl, L.nt.th, lf_th, d, ks, rfl, hd, _, _, rfl, rfl, ?_⟩
  have lx : (xs.length : Int) = s.row.length := by rw [rr.len]
  have lk : (ks.length : Int) = s.there.length := by rw [kr.len]
  rw [lx, lk]
  have no : ∀ (hn : ¬ Gm.due s = true), Q .non H := fun hn => by
   have e : Gm.sweep slt s = s := by unfold Gm.sweep; rw [if_neg hn]
   refine kQ l H (by rw [e]; exact LA) Kept.refl (.inl rfl)
  refine ⟨_, rfl, _, rfl, p, C, dx, _, _, rfl, hp, L.cl, L.nt.th, lf_th, d, ks, rfl, hd, _, _, rfl, rfl, _, rfl, ?_⟩
  rw [lk]
  refine ite2 (fun c1 => ⟨_, rfl, _, rfl, p, C, dx, _, _, rfl, hp, L.cl, L.sk, lf_sk, _, _, rfl, rfl, _, rfl, ite2 (fun c2 => ?_) (fun c2 => no ?_)⟩) (fun c1 => iteF (no ?_))
  rotate_left
  ·unfold Gm.due
   rw [Bool.and_eq_true]
   exact fun z => c2 z.2
  ·unfold Gm.due
   rw [Bool.and_eq_true]
   exact fun z => c1 z.1
  have hdue : Gm.due s = true := by
   unfold Gm.due
   rw [Bool.and_eq_true]
   exact ⟨c1, c2⟩
  refine ⟨_, rfl, p, C, dx, _, _, rfl, hp, L.cl, L.en, lf_en, l, rfl, ⟨_, SqL.of hx⟩, fun D hD => ?_⟩
  refine comp_listR (K := K) (a := l) (xs := xs) (fun i ys H4 => H4 D = some (.lst ys) ∧ ys = (xs.take i).filter (fun x => Gm.holds s.there (tE H x)) ∧ Same H H4) ⟨upd_same, rfl, same_new hD⟩ (fun i ys H4 z => ⟨z.1, SqL.of (z.2.2 _ _ hx)⟩) ?_ ?_
  ·rintro i x ys H4 hi ⟨h4, e4, s4⟩
   have mx := List.mem_of_getElem? hi
   have li : i < xs.length := (List.getElem?_eq_some_iff.mp hi).1
   obtain ⟨a, rfl, ha⟩ := rr.mem x mx
   refine ⟨_, rfl, p, dx, _, rfl, s4 _ _ hp, lf_no (by decide +kernel) (by decide +kernel) (by decide +kernel) (by decide +kernel) (by decide +kernel), _, rfl, p, dx, d, _, ks, s.there, a, tE H (.ref a), rfl, s4 _ _ hp, lf_th, s4 _ _ hd, kr.stay (fun b l h => s4 _ _ h), s4 _ _ ha, _, rfl, ?_⟩
   have ft := filter_take (f := fun x => Gm.holds s.there (tE H x)) hi
   refine ite2 (fun c3 => ⟨_, rfl, h4, ?_, _, by lia, rfl, by lia, upd_same, ?_, same_upd s4 hD⟩) (fun c3 => ⟨_, by lia, rfl, by lia, h4, ?_, s4⟩)
   ·rw [e4]
    exact Nat.lt_of_le_of_lt (Nat.le_trans (List.length_filter_le _ _) (List.length_take_le _ _)) (small1000 (by have := rr.len; lia))
   ·rw [ft, if_pos c3, e4]
   ·rw [ft, if_neg c3, List.append_nil, e4]
  ·rintro ys H4 ⟨h4, e4, s4⟩
   rw [List.take_length] at e4
   have hp4 := s4 _ _ hp
   refine ⟨_, rfl, p, C, dx, _, rfl, hp4, L.cl, L.en, by show 5 < 1000; decide, ?_⟩
   rw [pf_en]
   have npD : p ≠ D := ne_of_none hp hD
   have ndD : d ≠ D := ne_of_none hd hD
   have t5 : ∀ b zs, H b = some (.tup zs) → (upd H4 p (.ins C dx (lfs d D s))) b = some (.tup zs) := fun b zs z => by rw [upd_ne (ne_of z hp (by intro y; cases y))]; exact s4 _ _ z
   have r5 : RR (upd H4 p (.ins C dx (lfs d D s))) ys (s.row.filter (Gm.holds s.there)) := by
    have r0 := (rr.sub (ys := ys) fun y hy => by rw [e4] at hy; exact (List.mem_filter.mp hy).1).stay t5
    have em : ys.map (tE H) = s.row.filter (Gm.holds s.there) := by
     rw [e4, ← rr.eq, List.filter_map]
     rfl
    rw [em] at r0
    exact r0
   have hD5 : (upd H4 p (.ins C dx (lfs d D s))) D = some (.lst ys) := by rw [upd_ne npD.symm]; exact h4
   have hd5 : (upd H4 p (.ins C dx (lfs d D s))) d = some (.dK ks) := by rw [upd_ne npd.symm]; exact s4 _ _ hd
   have hp5 : (upd H4 p (.ins C dx (lfs d D s))) p = some (.ins C dx (lfs d D s)) := upd_same
   have k5 : Kept [p, d, l] H (upd H4 p (.ins C dx (lfs d D s))) := (Kept.of_same s4).put (by simp)
   generalize (upd H4 p (.ins C dx (lfs d D s))) = H5 at t5 r5 hD5 hd5 hp5 k5 ⊢
   refine ⟨_, rfl, p, C, dx, _, _, rfl, hp5, L.cl, L.lk, lf_lk, _, rfl, p, C, dx, _, _, rfl, hp5, L.cl, L.en, lf_en, ?_⟩
   unfold tNil
   dsimp only [List.cons_append, List.nil_append]
   refine order_use hD5 r5 (Nat.le_trans (List.length_filter_le _ _) h1) fun zs H6 h6 r6 k6 => ?_
   have pn : p ∉ [D] := fun z => npD (List.mem_singleton.mp z)
   have dn' : d ∉ [D] := fun z => ndD (List.mem_singleton.mp z)
   have hp6 := k6 p _ hp5 pn
   have t6 := k6.tups (fun b hb zs z => by rw [List.mem_singleton.mp hb, hD5] at z; cases z)
   refine ⟨_, _, rfl, rfl, _, rfl, p, C, dx, _, rfl, hp6, L.cl, L.lk, by show 5 < 1000; decide, ?_⟩
   have e7 : putF ("looks" : Str) (.int ((s.looks : Int) + ((Hg.mk lE ((s.row.filter (Gm.holds s.there)).length / 2) (s.row.filter (Gm.holds s.there)) 0).2 : Nat))) (lfs d D s) = lfs d D (Gm.swept slt s) := pf_lk
   rw [e7]
   have es : Gm.sweep slt s = Gm.swept slt s := by unfold Gm.sweep; rw [if_pos hdue]
   have t7 : ∀ b zs, H6 b = some (.tup zs) → (upd H6 p (.ins C dx (lfs d D (Gm.swept slt s)))) b = some (.tup zs) := fun b zs z => by rw [upd_ne (ne_of z hp6 (by intro y; cases y))]; exact z
   refine kQ D _ (by rw [es]; exact ⟨⟨dx, upd_same⟩, ⟨ks, by rw [upd_ne npd.symm]; exact k6 d _ hd5 dn', ((kr.stay t5).stay t6).stay t7⟩, ⟨zs, by rw [upd_ne npD.symm]; exact h6, r6.stay t7⟩⟩) ?_ (.inr hD)
   refine Kept.put (fun b o e nb => ?_) (by simp)
   exact k6 b o (k5 b o e nb) fun z => by rw [List.mem_singleton.mp z] at e; rw [hD] at e; cases e
abbrev sLInit : Stmt := inClass (top 15) 0
theorem scLInit : FnScope ["self", "slack"] ["self", "slack"] (defScope sLInit) := ⟨rfl, rfl, rfl, (by simp only [List.nodup_cons, List.mem_cons, List.not_mem_nil, or_false, not_or, List.nodup_nil, and_true, not_false_eq_true]; (repeat' apply And.intro); all_goals decide +kernel), rfl, by decide +kernel, by decide +kernel⟩
def spLInit (C : Addr) : Sp := fun vs H Q _ => ∃ (p dx : Addr) (z : Int), vs = [.ref p, .int z] ∧ H p = some (.ins C dx []) ∧ ∀ d l H', H d = none → H l = none → LateAt C H' p d l (Gm.newL z) → Kept [p] H H' → Q .non H'
theorem ok_Late__init__ {f C CNamed fa : Addr} {mc : Value} {fd fda : FuncData} (F : Fun K "__init__" "Late.__init__" sLInit f fd) (T : Bl mg) (L : LT K C) (mNamed : mg "Named" = some (.ref CNamed)) (MNamed__init__ : ClsM K CNamed mc "__init__" fa) (GNamed__init__ : FnOk P w K mg base CX0 1 fa fda ["self"] (spNInit C)) (BNamed__init__ : Binds K fda ["self"] []) : FnOk P w K mg base CX0 2 f fd ["self", "slack"] (spLInit C) := by
 have sc := scLInit
 refine F.ok scLInit (fun vs H Q E h => ?_) (fun cdv A outer s H vs Q E hr h => ?_)
 ·obtain ⟨p, dx, z, rfl, _⟩ := h
  rfl
 ·obtain ⟨p, dx, z, rfl, hp, kQ⟩ := h
  have hu := hr.units0
  refine ⟨_, (QSs.to (qss_cons (qs_expr (qe_clsm (qe_glob (v := .ref CNamed) rfl mNamed rfl) MNamed__init__ GNamed__init__ (hr.mono (by decide)) BNamed__init__ .nil pass0 (qa_cons (qv 0) qa_nil)))
   (qss_cons (qs_fld (qv 0) (qv 1) rfl)
   (qss_cons (qs_fld (qv 0) (qe_lst qa_nil) rfl)
   (qss_one (qs_fld (qv 0) qe_int rfl)))))), ?_⟩
  refine ⟨_, rfl, p, dx, rfl, hp, fun d hd => ?_⟩
  have npd : p ≠ d := ne_of_none hp hd
  refine ⟨_, rfl, _, rfl, p, C, dx, _, rfl, upd_same, L.cl, L.sk, by show 2 < 1000; decide, ?_⟩
  refine ⟨by show 0 ≤ sizeLine; decide, fun l hl => ?_⟩
  have hl0 : H l = none := by
   cases q : H l with
   | none => rfl
   | some o =>
    have h1 : l ≠ p := fun z => by rw [z, upd_same] at hl; cases hl
    have h2 : l ≠ d := fun z => by rw [z, hd] at q; cases q
    rw [upd_ne h1, upd_ne h1, upd_ne h1, upd_ne h2, q] at hl
    cases hl
  have npl : p ≠ l := ne_of_none hp hl0
  have ndl : d ≠ l := fun z => by rw [← z, upd_ne npd.symm, upd_ne npd.symm, upd_ne npd.symm, upd_same] at hl; cases hl
  refine ⟨_, rfl, p, C, dx, _, rfl, by rw [upd_ne npl, upd_same], L.cl, L.en, by show 3 < 1000; decide, ?_⟩
  refine ⟨_, rfl, p, C, dx, _, rfl, upd_same, L.cl, L.lk, by show 4 < 1000; decide, ?_⟩
  have e1 : putF ("looks" : Str) (.int 0) (putF ("entries" : Str) (.ref l) (putF ("slack" : Str) (.int z) [("there", V.ref d), ("stamp", V.int 0)])) = lfs d l (Gm.newL z) := by
   rw [pf_ne d1, pf_ne d4]
   show putF ("looks" : Str) (.int 0) (putF ("entries" : Str) (.ref l) [("there", V.ref d), ("stamp", V.int 0), ("slack", V.int z)]) = _
   rw [pf_ne d2, pf_ne d5, pf_ne d7]
   show putF ("looks" : Str) (.int 0) [("there", V.ref d), ("stamp", V.int 0), ("slack", V.int z), ("entries", .ref l)] = _
   rw [pf_ne d3, pf_ne d6, pf_ne d8, pf_ne d9]
   rfl
  rw [e1]
  refine kQ d l _ hd hl0 ⟨⟨dx, upd_same⟩, ⟨[], ?_, .nil⟩, ⟨[], ?_, RR.nil⟩⟩ fun b o e nb => ?_
  ·rw [upd_ne npd.symm, upd_ne npd.symm, upd_ne ndl, upd_ne npd.symm, upd_ne npd.symm, upd_ne npd.symm, upd_same]
  ·rw [upd_ne npl.symm, upd_ne npl.symm, upd_same]
  ·have hb : b ≠ p := fun z => nb (List.mem_singleton.mpr z)
   rw [upd_ne hb, upd_ne hb, upd_ne (ne_of_none e hl0), upd_ne hb, upd_ne hb, upd_ne hb, upd_ne (ne_of_none e hd)]
   exact e
abbrev sFirst : Stmt := inClass (top 15) 10
theorem scFirst : FnScope ["self"] ["self"] (defScope sFirst) := ⟨rfl, rfl, rfl, (by simp only [List.nodup_cons, List.mem_cons, List.not_mem_nil, or_false, not_or, List.nodup_nil, and_true, not_false_eq_true]; (repeat' apply And.intro); all_goals decide +kernel), rfl, by decide +kernel, by decide +kernel⟩
def spFirst (C X : Addr) : Sp := fun vs H Q E => ∃ (p d l : Addr) (s : LS), vs = [.ref p] ∧ LateAt C H p d l s ∧ Gm.LInv slt s ∧ s.row.length ≤ 1000 ∧
 (s.there ≠ [] → ∀ a H', LateAt C H' p d l (Gm.leastL slt s) → H' a = some (.tup (enV (Hg.g (Gm.leastL slt s).row 0))) → Kept [p, d, l] H H' → Q (.ref a) H') ∧ (s.there = [] → E (.ref X) none H)
theorem ok_first_there {f C CN : Addr} {fneed_any fholds fcut : Addr} {fdneed_any fdholds fdcut : FuncData} {fd : FuncData} (F : Fun K "first_there" "Late.first_there" sFirst f fd) (T : Bl mg) (L : LT K C) (Mneed_any : Meth K C "need_any" fneed_any) (Gneed_any : FnOk P w K mg base (CXe P w) 1 fneed_any fdneed_any ["self"] (spAny C CN)) (Bneed_any : Binds K fdneed_any ["self"] []) (Mholds : Meth K C "holds" fholds) (Gholds : FnOk P w K mg base CX0 1 fholds fdholds ["self", "entry"] (spHolds C)) (Bholds : Binds K fdholds ["self", "entry"] []) (Mcut : Meth K C "cut" fcut) (Gcut : FnOk P w K mg base CX0 4 fcut fdcut ["self"] (spCut2 C)) (Bcut : Binds K fdcut ["self"] []) : FnOk P w K mg base (CXe P w) 5 f fd ["self"] (spFirst C CN) := by
 have sc := scFirst
 refine F.okE scFirst (fun vs H Q E h => ?_) (fun cdv A outer s H vs Q E hr h => ?_)
 ·obtain ⟨p, d, l, s, rfl, _⟩ := h
  rfl
 ·obtain ⟨p, d, l, s, rfl, LA, LI, h1, kQ, kE⟩ := h
  have hu := hr.units0
  have npd := LA.npd
  have npl := LA.npl
  have ndl := LA.ndl
  obtain ⟨dx, hp⟩ := LA.ob
  obtain ⟨ks, hd, kr⟩ := LA.dc
  obtain ⟨xs, hx, rr⟩ := LA.ls
  refine ⟨_, (QSs.to (qss_cons (qs_expr (qe_meth0 (qv 0) L.cl Mneed_any Gneed_any (hr.mono (by decide)) Bneed_any .nil (pass_on fun _ _ z => z))) (QSs.mk (PSs.nox (QSs.to (qss_cons (qs_while PassesOwn.never (qt_not (qt_val (qe_meth (qv 0) L.cl Mholds Gholds (hr.mono (by decide)) Bholds .nil pass0 (qa_cons (qe_ix ix_list (qe_fld (qv 0) rfl) qe_int (fun _ _ => rfl)) qa_nil)))) (qss_one (qs_expr (qe_meth0 (qv 0) L.cl Mcut Gcut (hr.mono (by decide)) Bcut .nil pass0))))
   (qss_one (qs_ret (qe_ix ix_list (qe_fld (qv 0) rfl) qe_int (fun _ _ => rfl)))))))))), ?_⟩
  refine ⟨_, rfl, p, dx, _, rfl, hp, lf_no (by decide +kernel) (by decide +kernel) (by decide +kernel) (by decide +kernel) (by decide +kernel), p, dx, d, _, ks, rfl, hp, lf_th, hd, fun hne => ?_, fun he => kE ?_⟩
  rotate_left
  ·rw [he] at kr
   cases e : s.there with
   | nil => rfl
   | cons a b => rw [e] at kr; cases kr
  have hT : s.there ≠ [] := fun z => hne (by rw [z] at kr; cases kr; rfl)
  refine ⟨fun m σ H2 => ∃ (f : Nat) (s2 : LS), σ = [some (.ref p)] ∧ LateAt C H2 p d l s2 ∧ Gm.LInv slt s2 ∧ s2.there = s.there ∧ s2.row.length ≤ f ∧ s2.row.length ≤ s.row.length ∧ Gm.clean slt f s2 = Gm.leastL slt s ∧ Kept [p, d, l] H H2 ∧ m = s2.row.length,
   ⟨_, s.row.length, s, rfl, LA, LI, rfl, Nat.le_refl _, Nat.le_refl _, rfl, Kept.refl, rfl⟩, ?_⟩
  rintro m σ H2 ⟨f, s2, rfl, LA2, LI2, e2, hf, hle, hc, k2, rfl⟩
  obtain ⟨dx2, hp2⟩ := LA2.ob
  obtain ⟨ks2, hd2, kr2⟩ := LA2.dc
  obtain ⟨xs2, hx2, rr2⟩ := LA2.ls
  have h0 := Gm.row_pos LI2 (by rw [e2]; exact hT)
  obtain ⟨a, ea, ha, ia⟩ := rr2.at h0
  refine ⟨_, rfl, p, dx2, _, rfl, hp2, lf_no (by decide +kernel) (by decide +kernel) (by decide +kernel) (by decide +kernel) (by decide +kernel), _, rfl, p, C, dx2, _, _, rfl, hp2, L.cl, L.en, lf_en, l, _, _, _, rfl, rfl, SqL.of hx2, ia, p, dx2, d, _, ks2, s2.there, a, _, rfl, hp2, lf_th, hd2, kr2, ha, _, rfl, ite2 (fun c1 => ?_) (fun c1 => ?_)⟩
  rotate_left
  ·have c2 : Gm.holds s2.there (Hg.g s2.row 0) = true := by
    cases z : Gm.holds s2.there (Hg.g s2.row 0) with
    | true => rfl
    | false => exact absurd (show (!Gm.holds s2.there (Hg.g s2.row 0)) = true by rw [z]; rfl) c1
   have ec : Gm.leastL slt s = s2 := by
    rw [← hc]
    cases f with
    | zero => rfl
    | succ f => unfold Gm.clean; rw [if_pos c2]
   refine ⟨_, rfl, p, C, dx2, _, _, rfl, hp2, L.cl, L.en, lf_en, l, _, _, _, rfl, rfl, SqL.of hx2, ia, ?_⟩
   exact kQ hT a H2 (by rw [ec]; exact LA2) (by rw [ec]; exact ha) k2
  ·have c2 : ¬ Gm.holds s2.there (Hg.g s2.row 0) = true := fun z => by
    have c3 : (!Gm.holds s2.there (Hg.g s2.row 0)) = true := c1
    rw [z] at c3; cases c3
   obtain ⟨f, rfl⟩ : ∃ f0, f = f0 + 1 := ⟨f - 1, by lia⟩
   have hc2 : Gm.clean slt f (Gm.cut slt s2) = Gm.leastL slt s := by
    rw [← hc]
    conv => rhs; unfold Gm.clean
    rw [if_neg c2]
   have lc : (Gm.cut slt s2).row.length = s2.row.length - 1 := Hg.cutf_len
   refine ⟨fun σ' H' => ∃ m', m' < s2.row.length ∧ ∃ (f : Nat) (s2 : LS), σ' = [some (.ref p)] ∧ LateAt C H' p d l s2 ∧ Gm.LInv slt s2 ∧ s2.there = s.there ∧ s2.row.length ≤ f ∧ s2.row.length ≤ s.row.length ∧ Gm.clean slt f s2 = Gm.leastL slt s ∧ Kept [p, d, l] H H' ∧ m' = s2.row.length, fun σ' H' z => z, ?_⟩
   refine ⟨_, rfl, p, dx2, _, rfl, hp2, lf_no (by decide +kernel) (by decide +kernel) (by decide +kernel) (by decide +kernel) (by decide +kernel), p, d, l, s2, rfl, LA2, h0, by lia, fun H3 L3 k3 => ?_⟩
   exact ⟨(Gm.cut slt s2).row.length, by lia, f, Gm.cut slt s2, rfl, L3, Gm.cut_inv slt_slo LI2 h0 c2, e2, by lia, by lia, hc2, k2.trans (k3.mono fun b hb => by simp only [List.mem_cons, List.not_mem_nil, or_false] at hb ⊢; rcases hb with h | h <;> simp [h]), rfl⟩
abbrev sPutM : Stmt := inClass (top 15) 1
theorem scPutM : FnScope ["self", "name", "worth"] ["self", "name", "worth"] (defScope sPutM) := ⟨rfl, rfl, rfl, (by simp only [List.nodup_cons, List.mem_cons, List.not_mem_nil, or_false, not_or, List.nodup_nil, and_true, not_false_eq_true]; (repeat' apply And.intro); all_goals decide +kernel), rfl, by decide +kernel, by decide +kernel⟩
def spPutM (C X : Addr) : Sp := fun vs H Q E => ∃ (p d l : Addr) (s : LS) (n : Str) (w : Int), vs = [.ref p, .str n, .int w] ∧ LateAt C H p d l s ∧ s.row.length ≤ 900 ∧ s.there.length ≤ 900 ∧ n.length ≤ 1000 ∧
 (Gm.dget s.there n = none → ∀ l' H', LateAt C H' p d l' (Gm.putL slt s n w) → Kept [p, d, l] H H' → Fr3 H l l' → Q .non H') ∧ (Gm.dget s.there n ≠ none → E (.ref X) none H)
theorem ok_put {f C CC : Addr} {fneed_free fsweep_if_due fenter : Addr} {fdneed_free fdsweep_if_due fdenter : FuncData} {fd : FuncData} (F : Fun K "put" "Late.put" sPutM f fd) (T : Bl mg) (L : LT K C) (Mneed_free : Meth K C "need_free" fneed_free) (Gneed_free : FnOk P w K mg base (CXe P w) 1 fneed_free fdneed_free ["self", "name"] (spFree C CC)) (Bneed_free : Binds K fdneed_free ["self", "name"] []) (Msweep_if_due : Meth K C "sweep_if_due" fsweep_if_due) (Gsweep_if_due : FnOk P w K mg base CX0 4 fsweep_if_due fdsweep_if_due ["self"] (spSweep C)) (Bsweep_if_due : Binds K fdsweep_if_due ["self"] []) (Menter : Meth K C "enter" fenter) (Genter : FnOk P w K mg base CX0 4 fenter fdenter ["self", "name", "worth"] (spEnter C)) (Benter : Binds K fdenter ["self", "name", "worth"] []) : FnOk P w K mg base (CXe P w) 5 f fd ["self", "name", "worth"] (spPutM C CC) := by
 have sc := scPutM
 refine F.okE scPutM (fun vs H Q E h => ?_) (fun cdv A outer s H vs Q E hr h => ?_)
 ·obtain ⟨p, d, l, s, n, w, rfl, _⟩ := h
  rfl
 ·obtain ⟨p, d, l, s, n, w, rfl, LA, h1, h2, hn, kQ, kE⟩ := h
  have hu := hr.units0
  have npd := LA.npd
  have npl := LA.npl
  have ndl := LA.ndl
  obtain ⟨dx, hp⟩ := LA.ob
  obtain ⟨ks, hd, kr⟩ := LA.dc
  obtain ⟨xs, hx, rr⟩ := LA.ls
  refine ⟨_, (QSs.to (qss_cons (qs_expr (qe_meth (qv 0) L.cl Mneed_free Gneed_free (hr.mono (by decide)) Bneed_free .nil (pass_on fun _ _ z => z) (qa_cons (qv 1) qa_nil)))
   (qss_cons (qs_expr (qe_meth (qv 0) L.cl Menter Genter (hr.mono (by decide)) Benter .nil pass0 (qa_cons (qv 1) (qa_cons (qv 2) qa_nil))))
   (qss_one (qs_expr (qe_meth0 (qv 0) L.cl Msweep_if_due Gsweep_if_due (hr.mono (by decide)) Bsweep_if_due .nil pass0)))))), ?_⟩
  refine ⟨_, rfl, p, dx, _, rfl, hp, lf_no (by decide +kernel) (by decide +kernel) (by decide +kernel) (by decide +kernel) (by decide +kernel), _, rfl, p, dx, d, _, ks, n, rfl, hp, lf_th, hd, hn, fun cs => ?_, fun cs => ?_⟩
  ·rcases kr.get n with ⟨e1, e2⟩ | ⟨a, e, e1, e2, ha⟩
   rotate_left
   ·rw [e1] at cs; cases cs
   refine ⟨_, rfl, p, dx, _, rfl, hp, lf_no (by decide +kernel) (by decide +kernel) (by decide +kernel) (by decide +kernel) (by decide +kernel), _, rfl, _, rfl, p, d, l, s, n, w, rfl, LA, by lia, by lia, fun H2 L2 k2 => ?_⟩
   obtain ⟨dx2, hp2⟩ := L2.ob
   refine ⟨_, rfl, p, dx2, _, rfl, hp2, lf_no (by decide +kernel) (by decide +kernel) (by decide +kernel) (by decide +kernel) (by decide +kernel), p, d, l, _, rfl, L2, ?_, fun l' H3 L3 k3 f3 => ?_⟩
   ·show (Gm.enter slt s n w).row.length ≤ 1000
    rw [Gm.enter_row_perm.length_eq, List.length_append]
    show s.row.length + 1 ≤ 1000
    lia
   ·exact kQ e2 l' H3 L3 (k2.trans k3) (f3.imp id fun z => L2.fresh k2 z)
  ·rcases kr.get n with ⟨e1, e2⟩ | ⟨a, e, e1, e2, ha⟩
   ·rw [e1] at cs; cases cs
   ·exact kE (by rw [e2]; intro z; cases z)
abbrev sChangeM : Stmt := inClass (top 15) 3
theorem scChangeM : FnScope ["self", "name", "worth"] ["self", "name", "worth"] (defScope sChangeM) := ⟨rfl, rfl, rfl, (by simp only [List.nodup_cons, List.mem_cons, List.not_mem_nil, or_false, not_or, List.nodup_nil, and_true, not_false_eq_true]; (repeat' apply And.intro); all_goals decide +kernel), rfl, by decide +kernel, by decide +kernel⟩
def spChangeM (C X : Addr) : Sp := fun vs H Q E => ∃ (p d l : Addr) (s : LS) (n : Str) (w : Int), vs = [.ref p, .str n, .int w] ∧ LateAt C H p d l s ∧ s.row.length ≤ 900 ∧ s.there.length ≤ 900 ∧ n.length ≤ 1000 ∧
 (Gm.dget s.there n ≠ none → ∀ l' H', LateAt C H' p d l' (Gm.putL slt s n w) → Kept [p, d, l] H H' → Fr3 H l l' → Q .non H') ∧ (Gm.dget s.there n = none → E (.ref X) none H)
theorem ok_change {f C CN : Addr} {fneed fsweep_if_due fenter : Addr} {fdneed fdsweep_if_due fdenter : FuncData} {fd : FuncData} (F : Fun K "change" "Late.change" sChangeM f fd) (T : Bl mg) (L : LT K C) (Mneed : Meth K C "need" fneed) (Gneed : FnOk P w K mg base (CXe P w) 1 fneed fdneed ["self", "name"] (spNeed C CN)) (Bneed : Binds K fdneed ["self", "name"] []) (Msweep_if_due : Meth K C "sweep_if_due" fsweep_if_due) (Gsweep_if_due : FnOk P w K mg base CX0 4 fsweep_if_due fdsweep_if_due ["self"] (spSweep C)) (Bsweep_if_due : Binds K fdsweep_if_due ["self"] []) (Menter : Meth K C "enter" fenter) (Genter : FnOk P w K mg base CX0 4 fenter fdenter ["self", "name", "worth"] (spEnter C)) (Benter : Binds K fdenter ["self", "name", "worth"] []) : FnOk P w K mg base (CXe P w) 5 f fd ["self", "name", "worth"] (spChangeM C CN) := by
 have sc := scChangeM
 refine F.okE scChangeM (fun vs H Q E h => ?_) (fun cdv A outer s H vs Q E hr h => ?_)
 ·obtain ⟨p, d, l, s, n, w, rfl, _⟩ := h
  rfl
 ·obtain ⟨p, d, l, s, n, w, rfl, LA, h1, h2, hn, kQ, kE⟩ := h
  have hu := hr.units0
  have npd := LA.npd
  have npl := LA.npl
  have ndl := LA.ndl
  obtain ⟨dx, hp⟩ := LA.ob
  obtain ⟨ks, hd, kr⟩ := LA.dc
  obtain ⟨xs, hx, rr⟩ := LA.ls
  refine ⟨_, (QSs.to (qss_cons (qs_expr (qe_meth (qv 0) L.cl Mneed Gneed (hr.mono (by decide)) Bneed .nil (pass_on fun _ _ z => z) (qa_cons (qv 1) qa_nil)))
   (qss_cons (qs_expr (qe_meth (qv 0) L.cl Menter Genter (hr.mono (by decide)) Benter .nil pass0 (qa_cons (qv 1) (qa_cons (qv 2) qa_nil))))
   (qss_one (qs_expr (qe_meth0 (qv 0) L.cl Msweep_if_due Gsweep_if_due (hr.mono (by decide)) Bsweep_if_due .nil pass0)))))), ?_⟩
  refine ⟨_, rfl, p, dx, _, rfl, hp, lf_no (by decide +kernel) (by decide +kernel) (by decide +kernel) (by decide +kernel) (by decide +kernel), _, rfl, p, dx, d, _, ks, n, rfl, hp, lf_th, hd, hn, fun cs => ?_, fun cs => ?_⟩
  ·rcases kr.get n with ⟨e1, e2⟩ | ⟨a, e, e1, e2, ha⟩
   ·rw [e1] at cs; cases cs
   refine ⟨_, rfl, p, dx, _, rfl, hp, lf_no (by decide +kernel) (by decide +kernel) (by decide +kernel) (by decide +kernel) (by decide +kernel), _, rfl, _, rfl, p, d, l, s, n, w, rfl, LA, by lia, by lia, fun H2 L2 k2 => ?_⟩
   obtain ⟨dx2, hp2⟩ := L2.ob
   refine ⟨_, rfl, p, dx2, _, rfl, hp2, lf_no (by decide +kernel) (by decide +kernel) (by decide +kernel) (by decide +kernel) (by decide +kernel), p, d, l, _, rfl, L2, ?_, fun l' H3 L3 k3 f3 => ?_⟩
   ·show (Gm.enter slt s n w).row.length ≤ 1000
    rw [Gm.enter_row_perm.length_eq, List.length_append]
    show s.row.length + 1 ≤ 1000
    lia
   ·exact kQ (by rw [e2]; intro z; cases z) l' H3 L3 (k2.trans k3) (f3.imp id fun z => L2.fresh k2 z)
  ·rcases kr.get n with ⟨e1, e2⟩ | ⟨a, e, e1, e2, ha⟩
   ·exact kE e2
   ·rw [e1] at cs; cases cs
abbrev sLeastM : Stmt := inClass (top 15) 4
def spLeastM (C X : Addr) : Sp := fun vs H Q E => ∃ (p d l : Addr) (s : LS), vs = [.ref p] ∧ LateAt C H p d l s ∧ Gm.LInv slt s ∧ s.row.length ≤ 1000 ∧
 (s.there ≠ [] → ∀ q H', LateAt C H' p d l (Gm.leastL slt s) → H' q = some (.tup [.int (Hg.g (Gm.leastL slt s).row 0).w, .str (Hg.g (Gm.leastL slt s).row 0).n]) → Kept [p, d, l] H H' → Q (.ref q) H') ∧ (s.there = [] → E (.ref X) none H)
abbrev sTakeM : Stmt := inClass (top 15) 5
theorem scTakeM : FnScope ["self", "entry"] ["self"] (defScope sTakeM) := ⟨rfl, rfl, rfl, (by simp only [List.nodup_cons, List.mem_cons, List.not_mem_nil, or_false, not_or, List.nodup_nil, and_true, not_false_eq_true]; (repeat' apply And.intro); all_goals decide +kernel), rfl, by decide +kernel, by decide +kernel⟩
def spTakeM (C X : Addr) : Sp := fun vs H Q E => ∃ (p d l : Addr) (s : LS), vs = [.ref p] ∧ LateAt C H p d l s ∧ Gm.LInv slt s ∧ s.row.length ≤ 1000 ∧
 (s.there ≠ [] → ∀ q l' H', LateAt C H' p d l' (Gm.takeL slt s) → H' q = some (.tup [.int (Hg.g (Gm.leastL slt s).row 0).w, .str (Hg.g (Gm.leastL slt s).row 0).n]) → Kept [p, d, l] H H' → Fr3 H l l' → Q (.ref q) H') ∧ (s.there = [] → E (.ref X) none H)
theorem ok_take2 {f C CN : Addr} {ffirst_there fcut fsweep_if_due : Addr} {fdfirst_there fdcut fdsweep_if_due : FuncData} {fd : FuncData} (F : Fun K "take" "Late.take" sTakeM f fd) (T : Bl mg) (L : LT K C) (Mfirst_there : Meth K C "first_there" ffirst_there) (Gfirst_there : FnOk P w K mg base (CXe P w) 5 ffirst_there fdfirst_there ["self"] (spFirst C CN)) (Bfirst_there : Binds K fdfirst_there ["self"] []) (Mcut : Meth K C "cut" fcut) (Gcut : FnOk P w K mg base CX0 4 fcut fdcut ["self"] (spCut2 C)) (Bcut : Binds K fdcut ["self"] []) (Msweep_if_due : Meth K C "sweep_if_due" fsweep_if_due) (Gsweep_if_due : FnOk P w K mg base CX0 4 fsweep_if_due fdsweep_if_due ["self"] (spSweep C)) (Bsweep_if_due : Binds K fdsweep_if_due ["self"] []) : FnOk P w K mg base (CXe P w) 6 f fd ["self"] (spTakeM C CN) := by
 have sc := scTakeM
 refine F.okE scTakeM (fun vs H Q E h => ?_) (fun cdv A outer s H vs Q E hr h => ?_)
 ·obtain ⟨p, d, l, s, rfl, _⟩ := h
  rfl
 ·obtain ⟨p, d, l, s, rfl, LA, LI, h1, kQ, kE⟩ := h
  have hu := hr.units0
  have npd := LA.npd
  have npl := LA.npl
  have ndl := LA.ndl
  obtain ⟨dx, hp⟩ := LA.ob
  obtain ⟨ks, hd, kr⟩ := LA.dc
  obtain ⟨xs, hx, rr⟩ := LA.ls
  refine ⟨_, (QSs.to (qss_cons (qs_set (i := 1) sc.nd rfl (Or.inl rfl) (qe_meth0 (qv 0) L.cl Mfirst_there Gfirst_there (hr.mono (by decide)) Bfirst_there .nil (pass_on fun _ _ z => z)))
   (qss_cons (qs_expr (qe_meth0 (qv 0) L.cl Mcut Gcut (hr.mono (by decide)) Bcut .nil pass0))
   (qss_cons (qs_expr (qe_dpop1 (qe_fld (qv 0) rfl) (qe_ix ix_tup (qv 1) qe_int (fun _ _ => rfl)) ⟨rfl, rfl, rfl, rfl⟩))
   (qss_cons (qs_expr (qe_meth0 (qv 0) L.cl Msweep_if_due Gsweep_if_due (hr.mono (by decide)) Bsweep_if_due .nil pass0))
   (qss_one (qs_ret (qe_tup (qa_cons (qe_ix ix_tup (qv 1) qe_int (fun _ _ => rfl)) (qa_cons (qe_ix ix_tup (qv 1) qe_int (fun _ _ => rfl)) qa_nil)))))))))), ?_⟩
  refine ⟨_, rfl, p, dx, _, rfl, hp, lf_no (by decide +kernel) (by decide +kernel) (by decide +kernel) (by decide +kernel) (by decide +kernel), p, d, l, s, rfl, LA, LI, h1, fun hT a H2 L2 ha k2 => ?_, kE⟩
  have cl := Gm.least_ok slt_slo LI hT
  have hle : (Gm.leastL slt s).row.length ≤ 1000 := Nat.le_trans (Gm.least_len) h1
  obtain ⟨dx2, hp2⟩ := L2.ob
  refine ⟨_, rfl, p, dx2, _, rfl, hp2, lf_no (by decide +kernel) (by decide +kernel) (by decide +kernel) (by decide +kernel) (by decide +kernel), p, d, l, _, rfl, L2, cl.pos, hle, fun H3 L3 k3 => ?_⟩
  have k3' : Kept [p, d, l] H2 H3 := k3.mono fun b hb => by simp only [List.mem_cons, List.not_mem_nil, or_false] at hb ⊢; rcases hb with h | h <;> simp [h]
  have ha3 := k3'.tups L2.notup _ _ ha
  obtain ⟨dx3, hp3⟩ := L3.ob
  obtain ⟨ks3, hd3, kr3⟩ := L3.dc
  obtain ⟨xs3, hx3, rr3⟩ := L3.ls
  have hin := Gm.holds_in cl.hold
  rcases kr3.get (Hg.g (Gm.leastL slt s).row 0).n with ⟨e1, e2⟩ | ⟨b, e', e1, e2, hb⟩
  ·have := Gm.dget_of cl.inv.nd hin
   have e3 : Gm.dget (Gm.leastL slt s).there (Hg.g (Gm.leastL slt s).row 0).n = none := e2
   rw [e3] at this
   cases this
  refine ⟨_, rfl, p, C, dx3, _, _, rfl, hp3, L.cl, L.nt.th, lf_th, d, rfl, .inl ⟨ks3, .inl hd3⟩, _, rfl, a, _, _, _, rfl, rfl, SqT.of ha3, rfl, ks3, Sum.inr (Hg.g (Gm.leastL slt s).row 0).n, _, hd3, rfl, e1, ?_⟩
  have tt : ∀ b zs, H3 b = some (.tup zs) → (upd H3 d (.dK (dropK ks3 (Sum.inr (Hg.g (Gm.leastL slt s).row 0).n)))) b = some (.tup zs) := fun b zs z => by rw [upd_ne (ne_of z hd3 (by intro y; cases y))]; exact z
  have L4 : LateAt C (upd H3 d (.dK (dropK ks3 (Sum.inr (Hg.g (Gm.leastL slt s).row 0).n)))) p d l (Gm.dropT (Gm.cut slt (Gm.leastL slt s)) (Hg.g (Gm.leastL slt s).row 0).n) := ⟨⟨dx3, by rw [upd_ne npd]; exact hp3⟩, ⟨_, upd_same, (kr3.drop _).stay tt⟩, ⟨xs3, by rw [upd_ne ndl.symm]; exact hx3, rr3.stay tt⟩⟩
  have k4 : Kept [p, d, l] H (upd H3 d (.dK (dropK ks3 (Sum.inr (Hg.g (Gm.leastL slt s).row 0).n)))) := (k2.trans k3').put (by simp)
  have ha4 := tt _ _ ha3
  generalize (upd H3 d (.dK (dropK ks3 (Sum.inr (Hg.g (Gm.leastL slt s).row 0).n)))) = H4 at L4 k4 ha4 ⊢
  obtain ⟨dx4, hp4⟩ := L4.ob
  refine ⟨_, rfl, p, dx4, _, rfl, hp4, lf_no (by decide +kernel) (by decide +kernel) (by decide +kernel) (by decide +kernel) (by decide +kernel), p, d, l, _, rfl, L4, ?_, fun l' H5 L5 k5 f5 => ?_⟩
  ·have lc : (Gm.cut slt (Gm.leastL slt s)).row.length = (Gm.leastL slt s).row.length - 1 := Hg.cutf_len
   show (Gm.cut slt (Gm.leastL slt s)).row.length ≤ 1000
   lia
  ·have ha5 := k5.tups L4.notup _ _ ha4
   have f6 : Fr3 H l l' := f5.imp id fun z => L4.fresh k4 z
   refine ⟨_, rfl, a, _, _, _, rfl, rfl, SqT.of ha5, rfl, _, rfl, a, _, _, _, rfl, rfl, SqT.of ha5, rfl, by show 2 ≤ sizeLine; decide, fun q hq => ?_⟩
   exact kQ hT q l' _ (L5.same (same_new hq)) upd_same ((k4.trans k5).new hq) f6
end
end Kx
end
section
set_option linter.all false
set_option maxRecDepth 100000
set_option maxHeartbeats 4000000
namespace Kx
open PySem L2
section
variable {P : Program} {w : World} {K : PySem.W.Frag} {mg : Str → Option Value} {base : Heap}
open Hm
abbrev sCome : Stmt := top 18
theorem scCome : FnScope ["name", "length", "lengths", "heap"] ["name", "length", "lengths", "heap"] (defScope sCome) := ⟨rfl, rfl, rfl, (by simp only [List.nodup_cons, List.mem_cons, List.not_mem_nil, or_false, not_or, List.nodup_nil, and_true, not_false_eq_true]; (repeat' apply And.intro); all_goals decide +kernel), rfl, by decide +kernel, by decide +kernel⟩
def spCome (C : Addr) : Sp := fun vs H Q _ => ∃ (p d l ld : Addr) (s : LS) (far : Tb) (g : Str) (x : Int), vs = [.str g, .int x, .ref ld, .ref p] ∧ LateAt C H p d l s ∧ Gm.LInv slt s ∧ s.row.length ≤ 900 ∧ s.there.length ≤ 900 ∧ g.length ≤ 1000 ∧ H ld = some (.dK (kvW far)) ∧ far.length ≤ 900 ∧ ld ≠ d ∧
 (Gm.dget far g = none → Gm.dget s.there g = none) ∧ (∀ v, Gm.dget far g = some v → x < v → Gm.dget s.there g ≠ none) ∧
 (∀ l' H', (∀ v, Gm.dget far g = some v → x < v) → LateAt C H' p d l' (Gm.putL slt s g x) → H' ld = some (.dK (kvW (Gm.dput far g x))) → Kept [ld, p, d, l] H H' → Fr3 H l l' → Q .non H') ∧ (∀ v, Gm.dget far g = some v → ¬ x < v → Q .non H)
theorem ok_come {f C CC CN fput fchange : Addr} {fd fdput fdchange : FuncData} (F : Fun K "come_to" "come_to" sCome f fd) (T : Bl mg) (L : LT K C) (Mput : Meth K C "put" fput) (Gput : FnOk P w K mg base (CXe P w) 5 fput fdput ["self", "name", "worth"] (spPutM C CC)) (Bput : Binds K fdput ["self", "name", "worth"] []) (Mchange : Meth K C "change" fchange) (Gchange : FnOk P w K mg base (CXe P w) 5 fchange fdchange ["self", "name", "worth"] (spChangeM C CN)) (Bchange : Binds K fdchange ["self", "name", "worth"] []) : FnOk P w K mg base CX0 6 f fd ["name", "length", "lengths", "heap"] (spCome C) := by
 have sc := scCome
 refine F.okQ scCome (fun vs H Q E h => ?_) (fun cdv A outer s_ H vs Q E hr h => ?_)
 ·obtain ⟨p, d, l, ld, s, far, g, x, rfl, _⟩ := h
  rfl
 ·obtain ⟨p, d, l, ld, s, far, g, x, rfl, LA, LI, l1, l2, lg, hld, lf, nld, free, held, kP, kN⟩ := h
  have hu := hr.units0
  have lk : (kvW far).length = far.length := kvW_len
  obtain ⟨dx, hp⟩ := LA.ob
  obtain ⟨ks, hd, _⟩ := LA.dc
  obtain ⟨xs, hl, _⟩ := LA.ls
  have n1 : ld ≠ p := ne_of hld hp (by intro z; cases z)
  have n2 : ld ≠ l := ne_of hld hl (by intro z; cases z)
  have nin : ld ∉ [p, d, l] := fun z => by
   simp only [List.mem_cons, List.not_mem_nil, or_false] at z
   rcases z with h | h | h
   ·exact n1 h
   ·exact nld h
   ·exact n2 h
  have fin : ∀ l' H3, LateAt C H3 p d l' (Gm.putL slt s g x) → Kept [p, d, l] H H3 → Fr3 H l l' → H3 ld = some (.dK (kvW far)) ∧ (LateAt C (upd H3 ld (.dK (kvW (Gm.dput far g x)))) p d l' (Gm.putL slt s g x)) ∧ Kept [ld, p, d, l] H (upd H3 ld (.dK (kvW (Gm.dput far g x)))) := fun l' H3 LA3 k3 f3 => by
   have h3 := k3 _ _ hld nin
   have nl' : ld ≠ l' := by
    rcases f3 with h | h
    ·rw [h]; exact n2
    ·exact ne_of_none hld h
   refine ⟨h3, LA3.stay (fun b o hb e => ?_) (tk_dK h3), fun b o e nb => ?_⟩
   ·rw [upd_ne (fun z => by
     rcases hb with h | h | h
     ·exact n1 (z.symm.trans h)
     ·exact nld (z.symm.trans h)
     ·exact nl' (z.symm.trans h))]
    exact e
   ·simp only [List.mem_cons, List.not_mem_nil, or_false, not_or] at nb
    rw [upd_ne nb.1]
    refine k3 b o e fun z => ?_
    simp only [List.mem_cons, List.not_mem_nil, or_false] at z
    rcases z with h | h | h
    ·exact nb.2.1 h
    ·exact nb.2.2.1 h
    ·exact nb.2.2.2 h
  refine ⟨_, (qss_one (qs_if (qt_dnotin (hu_of hr) (qv 0) (qv 2)) (qss_cons (qs_expr (qe_meth (qv 3) L.cl Mput Gput (hr.mono (by decide)) Bput .nil pass_no (qa_cons (qv 0) (qa_cons (qv 1) qa_nil))))
   (qss_one (qs_dput (hu_of hr) (qv 2) (qv 0) (qv 1) rfl))) (qss_one (qs_if (qt_cmpR op_lt (qv 1) (qe_dget (hu_of hr) (qv 2) (qv 0) (fun _ _ => rfl)) (nomark _)) (qss_cons (qs_expr (qe_meth (qv 3) L.cl Mchange Gchange (hr.mono (by decide)) Bchange .nil pass_no (qa_cons (qv 0) (qa_cons (qv 1) qa_nil))))
   (qss_one (qs_dput (hu_of hr) (qv 2) (qv 0) (qv 1) rfl))) qss_nil)))), ?_⟩
  cases e1 : Gm.dget far g with
  | none =>
   have fr := free e1
   refine ⟨_, rfl, _, rfl, ld, _, rfl, DGet.k (k := Sum.inr g) hld, _, rfl, ite2 (fun _ => ?_) (fun z => ?_)⟩
   ·refine ⟨_, rfl, p, dx, _, rfl, hp, lf_no (by decide +kernel) (by decide +kernel) (by decide +kernel) (by decide +kernel) (by decide +kernel), _, rfl, _, rfl, p, d, l, s, g, x, rfl, LA, l1, l2, lg, fun _ l' H3 LA3 k3 f3 => ?_, fun z => (z fr).elim⟩
    obtain ⟨h3, LA4, k4⟩ := fin l' H3 LA3 k3 f3
    refine ⟨_, rfl, _, rfl, _, rfl, ld, _, rfl, DPut.k (k := Sum.inr g) h3 (small1000 (by lia)), ?_⟩
    rw [kvW_put]
    exact kP l' _ (fun v z => by rw [e1] at z; cases z) LA4 upd_same k4 f3
   ·rw [kvW_get, e1] at z; exact absurd rfl z
  | some v =>
   have gv := dget_k hld e1
   refine ⟨_, rfl, _, rfl, ld, _, rfl, gv, _, rfl, ite2 (fun z => by cases z) (fun _ => ?_)⟩
   refine ⟨_, rfl, _, rfl, _, rfl, ld, _, rfl, gv, _, _, rfl, rfl, _, rfl, ite2 (fun c => ?_) (fun c => ?_)⟩
   ·have c' : x < v := of_decide_eq_true c
    have hh := held v e1 c'
    refine ⟨_, rfl, p, dx, _, rfl, hp, lf_no (by decide +kernel) (by decide +kernel) (by decide +kernel) (by decide +kernel) (by decide +kernel), _, rfl, _, rfl, p, d, l, s, g, x, rfl, LA, l1, l2, lg, fun _ l' H3 LA3 k3 f3 => ?_, fun z => (hh z).elim⟩
    obtain ⟨h3, LA4, k4⟩ := fin l' H3 LA3 k3 f3
    refine ⟨_, rfl, _, rfl, _, rfl, ld, _, rfl, DPut.k (k := Sum.inr g) h3 (small1000 (by lia)), ?_⟩
    rw [kvW_put]
    exact kP l' _ (fun v' z => by rw [e1] at z; cases z; exact c') LA4 upd_same k4 f3
   ·exact kN v e1 (fun z => c (decide_eq_true z))
abbrev sWays : Stmt := top 19
theorem scWays : FnScope ["web", "lengths", "ways", "row"] ["web", "lengths"] (defScope sWays) := ⟨rfl, rfl, rfl, (by simp only [List.nodup_cons, List.mem_cons, List.not_mem_nil, or_false, not_or, List.nodup_nil, and_true, not_false_eq_true]; (repeat' apply And.intro); all_goals decide +kernel), rfl, by decide +kernel, by decide +kernel⟩
def spWays (K : PySem.W.Frag) : Sp := fun vs H Q _ => ∃ (q d : Addr) (zs : List V) (w : Wb.Web) (far : Tb), vs = [.ref q, .ref d] ∧ SqT K H q zs ∧ WR3 H zs w ∧ w.length ≤ 900 ∧ H d = some (.dK (kvW far)) ∧ ∀ e (ways : List (Str × Str)) H', H e = none → H' e = some (.dK (kvS ways)) → Wb.WaysI far ways w → ways.length ≤ w.length → Same H H' → Q (.ref e) H'
theorem ok_ways {f fe : Addr} {fd fde : FuncData} (F : Fun K "ways_of" "ways_of" sWays f fd) (T : Bl mg) (z_min : mg "min" = none) (Gis_exact : FnOk P w K mg base CX0 1 fe fde ["row", "lengths"] spExact) (Dis_exact : Nm K mg "is_exact" fe fde ["row", "lengths"]) : FnOk P w K mg base CX0 2 f fd ["web", "lengths"] (spWays K) := by
 have sc := scWays
 refine F.okQ scWays (fun vs H Q E h => ?_) (fun cdv A outer s H vs Q E hr h => ?_)
 ·obtain ⟨q, d, zs, w, far, rfl, _⟩ := h
  rfl
 ·obtain ⟨q, d, zs, w, far, rfl, hq, wr, lw, hd, k⟩ := h
  have hu := hr.units0
  have tt : ∀ {H' : Hp}, Same H H' → SqT K H' q zs := fun k => hq.imp (fun z => z.imp (k _ _) (fun ⟨o, e⟩ => ⟨o, k _ _ e⟩)) id
  refine ⟨_, (qss_cons (qs_set (i := 2) sc.nd rfl (Or.inl rfl) qe_dnewK)
   (qss_cons (qs_for PassesOwn.never rfl (qi_tup (qv 0)) (qg_name (i := 3) sc.nd rfl (Or.inl rfl)) (qss_one (qs_if (qt_val (qe_call Gis_exact (hr.mono (by decide)) rfl Dis_exact.m Dis_exact.k Dis_exact.b .nil pass0 (qa_cons (qv 3) (qa_cons (qv 1) qa_nil)))) (qss_one (qs_dput (hu_of hr) (qv 2) (qe_ix ix_tup (qv 3) qe_int (fun _ _ => rfl)) (qe_callB (call_minS2 rfl) (by rfl) z_min (by decide +kernel) (qa_cons (qe_ix ix_tup (qv 3) qe_int (fun _ _ => rfl)) (qa_cons (qe_dget2 (hu_of hr) (qv 2) (qe_ix ix_tup (qv 3) qe_int (fun _ _ => rfl)) (qe_ix ix_tup (qv 3) qe_int (fun _ _ => rfl)) ⟨rfl, rfl, rfl, rfl⟩) qa_nil))) rfl)) qss_nil)))
   (qss_one (qs_ret (qv 2))))), ?_⟩
  refine fun e he => ?_
  have s1 := same_new (o := .dK []) he
  have g1 := upd_same (H := H) (a := e) (o := .dK [])
  generalize upd H e (.dK []) = H1 at s1 g1 ⊢
  refine ⟨_, rfl, q, rfl, ⟨_, tt s1⟩, for_tup (xs := zs) (fun i σ H2 => ∃ (o : Option V) (ways : List (Str × Str)), σ = [some (.ref q), some (.ref d), some (.ref e), o] ∧ H2 e = some (.dK (kvS ways)) ∧ Wb.WaysI far ways (w.take i) ∧ ways.length ≤ i ∧ Same H H2)
   ⟨none, [], rfl, g1, Wb.WaysI.nil, Nat.le_refl _, s1⟩ (fun i σ H2 _ ⟨_, _, _, _, _, _, z⟩ => tt z) ?_ ?_⟩
  ·rintro i x σ H2 hx ⟨o, ways, rfl, h2, W, lW, s2⟩
   obtain ⟨r, er, a, rfl, ha⟩ := paired_at wr hx
   have ha2 := s2 _ _ ha
   have li := (List.getElem?_eq_some_iff.mp er).1
   have tw : w.take (i + 1) = w.take i ++ [r] := by rw [List.take_succ, er]; rfl
   have lk : (kvS ways).length = ways.length := kvS_len
   refine ⟨_, rfl, _, rfl, a, d, r, far, rfl, ha2, s2 _ _ hd, fun b hb => ⟨_, rfl, ite2 (fun c => ?_) (fun c => ?_)⟩⟩
   ·have ev : (valV (kvS ways) (Sum.inr r.2.1)).getD (.str r.1) = .str ((Gm.dget ways r.2.1).getD r.1) := by
     rw [kvS_get]
     cases Gm.dget ways r.2.1 <;> rfl
    refine ⟨_, rfl, a, _, 0, _, rfl, rfl, SqT.of ha2, rfl, _, rfl, e, rfl, .inl ⟨_, .inl h2⟩, _, rfl, a, _, 1, _, rfl, rfl, SqT.of ha2, rfl, _, rfl, a, _, 0, _, rfl, rfl, SqT.of ha2, rfl, _, DGet.k (k := Sum.inr r.2.1) h2, r.1, _, congrArg (fun z => [V.str r.1, z]) ev, ?_⟩
    refine ⟨_, rfl, _, rfl, a, _, 1, _, rfl, rfl, SqT.of ha2, rfl, e, _, rfl, DPut.k (k := Sum.inr r.2.1) h2 (small1000 (by lia)), ?_⟩
    rw [kvS_put]
    refine ⟨_, _, rfl, upd_same, by rw [tw]; exact W.step (hb.mp c) rfl, ?_, fun b o z => by rw [upd_ne (ne_of_none z he)]; exact s2 _ _ z⟩
    have := Gm.dput_len (L := ways) (n := r.2.1) (b := (if slt ((Gm.dget ways r.2.1).getD r.1) r.1 = true then (Gm.dget ways r.2.1).getD r.1 else r.1))
    lia
   ·exact ⟨_, ways, rfl, h2, by rw [tw]; exact W.skip (fun z => c (hb.mpr z)), by lia, s2⟩
  ·rintro σ H2 ⟨o, ways, rfl, h2, W, lW, s2⟩
   rw [wr.len, List.take_length] at W
   exact ⟨_, rfl, k e ways H2 he h2 W (by rw [← wr.len]; exact lW) s2⟩
abbrev sNearest : Stmt := top 17
theorem scNearest : FnScope ["web", "first", "rows", "lengths", "heap", "name", "row"] ["web", "first"] (defScope sNearest) := ⟨rfl, rfl, rfl, (by simp only [List.nodup_cons, List.mem_cons, List.not_mem_nil, or_false, not_or, List.nodup_nil, and_true, not_false_eq_true]; (repeat' apply And.intro); all_goals decide +kernel), rfl, by decide +kernel, by decide +kernel⟩
def spNearest (K : PySem.W.Frag) : Sp := fun vs H Q _ => ∃ (q : Addr) (first : Str) (zs : List V) (w : Wb.Web), vs = [.ref q, .str first] ∧ SqT K H q zs ∧ WR3 H zs w ∧ w.length ≤ 700 ∧ (∀ r ∈ w, 1 ≤ r.2.2 ∧ r.1.length ≤ 1000 ∧ r.2.1.length ≤ 1000) ∧ first.length ≤ 1000 ∧
 ∀ pp ld e (far : Tb) (ways : List (Str × Str)) H', H ld = none → H e = none → ld ≠ e → H' pp = some (.tup [.ref ld, .ref e]) → H' ld = some (.dK (kvW far)) → H' e = some (.dK (kvS ways)) → Wb.FarOk w first far → Wb.WaysI far ways w → ways.length ≤ w.length → Same H H' → Q (.ref pp) H'
theorem ok_nearest {f C CC CN fI fb fc fw fput ftake fmany : Addr} {fd fdI fdb fdc fdw fdput fdtake fdmany : FuncData} (F : Fun K "nearest" "nearest" sNearest f fd) (T : Bl mg) (L : LT K C) (mLate : mg "Late" = some (.ref C)) (MkLate : Mk K C fI) (GLate__init__ : FnOk P w K mg base CX0 2 fI fdI ["self", "slack"] (spLInit C)) (BLate__init__ : Binds K fdI ["self", "slack"] [])
  (Mput : Meth K C "put" fput) (Gput : FnOk P w K mg base (CXe P w) 5 fput fdput ["self", "name", "worth"] (spPutM C CC)) (Bput : Binds K fdput ["self", "name", "worth"] []) (Mtake : Meth K C "take" ftake) (Gtake : FnOk P w K mg base (CXe P w) 6 ftake fdtake ["self"] (spTakeM C CN)) (Btake : Binds K fdtake ["self"] []) (Mmany : Meth K C "many" fmany) (Gmany : FnOk P w K mg base CX0 1 fmany fdmany ["self"] (spMany C)) (Bmany : Binds K fdmany ["self"] [])
  (Gby_from : FnOk P w K mg base CX0 1 fb fdb ["web"] (spByFrom K)) (Dby_from : Nm K mg "by_from" fb fdb ["web"]) (Gcome_to : FnOk P w K mg base CX0 6 fc fdc ["name", "length", "lengths", "heap"] (spCome C)) (Dcome_to : Nm K mg "come_to" fc fdc ["name", "length", "lengths", "heap"])
  (Gways_of : FnOk P w K mg base CX0 2 fw fdw ["web", "lengths"] (spWays K)) (Dways_of : Nm K mg "ways_of" fw fdw ["web", "lengths"]) : FnOk P w K mg base CX0 7 f fd ["web", "first"] (spNearest K) := by
 have sc := scNearest
 refine F.okQ scNearest (fun vs H Q E h => ?_) (fun cdv A outer s_ H vs Q E hr h => ?_)
 ·obtain ⟨q, first, zs, w, rfl, _⟩ := h
  rfl
 ·obtain ⟨q, first, zs, w, rfl, hq, wr, lw, hw, lfi, k⟩ := h
  have hu := hr.units0
  have hw1 : ∀ r ∈ w, 1 ≤ r.2.2 := fun r h => (hw r h).1
  have tt : ∀ {H' : Hp}, Same H H' → SqT K H' q zs := fun k => hq.imp (fun z => z.imp (k _ _) (fun ⟨o, e⟩ => ⟨o, k _ _ e⟩)) id
  refine ⟨_, (qss_cons (qs_set (i := 2) sc.nd rfl (Or.inl rfl) (qe_call Gby_from (hr.mono (by decide)) rfl Dby_from.m Dby_from.k Dby_from.b .nil pass0 (qa_cons (qv 0) qa_nil)))
   (qss_cons (qs_set (i := 3) sc.nd rfl (Or.inl rfl) (qe_disp1 (qv 1) qe_int))
   (qss_cons (qs_set (i := 4) sc.nd rfl (Or.inl rfl) (qe_make MkLate GLate__init__ (hr.mono (by decide)) rfl mLate BLate__init__ .nil pass0 (qa_cons qe_int qa_nil)))
   (qss_cons (qs_expr (qe_meth (qv 4) L.cl Mput Gput (hr.mono (by decide)) Bput .nil pass_no (qa_cons (qv 1) (qa_cons qe_int qa_nil))))
   (qss_cons (qs_while PassesOwn.never (qt_cmpR op_gt (qe_meth0 (qv 4) L.cl Mmany Gmany (hr.mono (by decide)) Bmany .nil pass0) qe_int (nomark _)) (qss_cons (qs_set (i := 5) sc.nd rfl (Or.inl rfl) (qe_ix ix_tup (qe_meth0 (qv 4) L.cl Mtake Gtake (hr.mono (by decide)) Btake .nil pass_no) qe_int (fun _ _ => rfl)))
   (qss_one (qs_for PassesOwn.never rfl (qi_seq (qe_dget2 (hu_of hr) (qv 2) (qv 5) (qe_tup qa_nil) ⟨rfl, rfl, rfl, rfl⟩)) (qg_name (i := 6) sc.nd rfl (Or.inl rfl)) (qss_one (qs_expr (qe_call Gcome_to (hr.mono (by decide)) rfl Dcome_to.m Dcome_to.k Dcome_to.b .nil pass0 (qa_cons (qe_ix ix_tup (qv 6) qe_int (fun _ _ => rfl)) (qa_cons (qe_op op_add (qe_dget (hu_of hr) (qv 3) (qv 5) (fun _ _ => rfl)) (qe_ix ix_tup (qv 6) qe_int (fun _ _ => rfl))) (qa_cons (qv 3) (qa_cons (qv 4) qa_nil)))))))))))
   (qss_one (qs_ret (qe_tup (qa_cons (qv 3) (qa_cons (qe_call Gways_of (hr.mono (by decide)) rfl Dways_of.m Dways_of.k Dways_of.b .nil pass0 (qa_cons (qv 0) (qa_cons (qv 3) qa_nil))) qa_nil)))))))))), ?_⟩
  refine ⟨_, rfl, q, zs, w, rfl, .inr hq, wr, by lia, fun rd kvs Hb hrd _ R sb => ?_⟩
  refine fun ld hldb => ⟨_, rfl, upd_same, [(Sum.inr first, .int 0)], rfl, by show 1 ≤ 15; decide, ?_⟩
  rw [upd_upd, kvW_one]
  have s1 := same_new (o := .dK (kvW [(first, 0)])) hldb
  have g1 := upd_same (H := Hb) (a := ld) (o := .dK (kvW [(first, 0)]))
  generalize upd Hb ld (.dK (kvW [(first, 0)])) = H1 at s1 g1 ⊢
  refine fun p dx hp hdx ndx => ⟨p, dx, 0, rfl, upd_same, fun d l H6 hdd hl LA6 k6 => ⟨rfl, ?_⟩⟩
  have fr : ∀ b o, H1 b = some o → (upd (upd H1 dx (.own p)) p (.ins C dx [])) b = some o := fun b o e => by rw [upd_ne (ne_of_none e hp), upd_ne (ne_of_none e hdx)]; exact e
  have s6 : Same H1 H6 := fun b o e => k6 b o (fr b o e) (fun z => ne_of_none e hp (List.mem_singleton.mp z))
  have hd1 : H1 d = none := by
   cases e : H1 d with
   | none => rfl
   | some o => rw [fr _ _ e] at hdd; cases hdd
  have hl1 : H1 l = none := by
   cases e : H1 l with
   | none => rfl
   | some o => rw [fr _ _ e] at hl; cases hl
  have nob : ∀ {b : Addr}, H1 b = none → Hb b = none := fun {b} h => by
   cases e : Hb b with
   | none => rfl
   | some o => rw [s1 _ _ e] at h; cases h
  have hpb := nob hp
  have hdb := nob hd1
  have hlb := nob hl1
  have nld : ld ≠ d := ne_of_none g1 hd1
  obtain ⟨dx6, hp6⟩ := LA6.ob
  refine ⟨_, rfl, p, dx6, _, rfl, hp6, lf_no (by decide +kernel) (by decide +kernel) (by decide +kernel) (by decide +kernel) (by decide +kernel), _, rfl, p, d, l, Gm.newL 0, first, 0, rfl, LA6, Nat.zero_le _, Nat.zero_le _, lfi, fun _ l2 H7 LA7 k7 f7 => ?_, fun z => absurd rfl z⟩
  have n6 : ∀ {b : Addr} {o : HO}, H1 b = some o → b ∉ [p, d, l] := fun {b o} e z => by
   simp only [List.mem_cons, List.not_mem_nil, or_false] at z
   rcases z with h | h | h
   ·rw [h, hp] at e; cases e
   ·rw [h, hd1] at e; cases e
   ·rw [h, hl1] at e; cases e
  have s7 : Same H1 H7 := fun b o e => k7 b o (s6 b o e) (n6 e)
  have hl2 : Hb l2 = none := by
   rcases f7 with h | h
   ·rw [h]; exact hlb
   ·cases e : Hb l2 with
    | none => rfl
    | some o => rw [s6 _ _ (s1 _ _ e)] at h; cases h
  have th7 : thW (Gm.putL slt (Gm.newL 0) first 0).there = [(first, 0)] := by show thW (Gm.sweep slt _).there = _; rw [Gm.sweep_there]; rfl
  have st7 : (Gm.putL slt (Gm.newL 0) first 0).stamp = 1 := by show (Gm.sweep slt _).stamp = _; rw [Gm.sweep_stamp]; rfl
  refine ⟨fun μ σ H3 => ∃ (far : Tb) (D : List Str) (m : Int) (l : Addr) (s : LS) (oname orow : Option V), σ = [some (.ref q), some (.str first), some (.ref rd), some (.ref ld), some (.ref p), oname, orow] ∧ H3 ld = some (.dK (kvW far)) ∧ LateAt C H3 p d l s ∧ Gm.LInv slt s ∧ Wb.DJ w first far (thW s.there) m D ∧ s.stamp ≤ 1 + (w.filter fun r => decide (r.1 ∈ D)).length ∧ Same Hb H3 ∧ Hb l = none ∧ μ = w.length + 1 - D.length,
   ⟨_, [(first, 0)], [], 0, l2, _, none, none, rfl, s7 _ _ g1, LA7, Gm.put_inv slt_slo Gm.new_inv, by rw [th7]; exact Wb.DJ.start, by rw [st7]; lia, s1.trans s7, hl2, rfl⟩, ?_⟩
  rintro μ σ H3 ⟨far, D, m0, l, s, oname, orow, rfl, hf3, LA3, LI3, J3, st3, s3, hl3, rfl⟩
  obtain ⟨dx3, hp3⟩ := LA3.ob
  obtain ⟨ks3, hd3, kr3⟩ := LA3.dc
  have lks := kr3.len
  refine ⟨_, rfl, p, dx3, _, rfl, hp3, lf_no (by decide +kernel) (by decide +kernel) (by decide +kernel) (by decide +kernel) (by decide +kernel), p, dx3, d, _, ks3, rfl, hp3, lf_th, hd3, _, _, rfl, rfl, _, rfl, ite2 (fun c => ?_) (fun c => ?_)⟩
  rotate_left
  ·have c' : ¬ (ks3.length : Int) > 0 := by simpa using c
   have et : s.there = [] := List.length_eq_zero_iff.mp (by lia)
   rw [et] at J3
   have FO : Wb.FarOk w first far := J3.done
   refine ⟨_, rfl, _, rfl, _, rfl, q, ld, zs, w, far, rfl, tt (sb.trans s3), wr.stay (fun b l e => s3 _ _ (sb _ _ e)), by lia, hf3, fun e ways H8 he0 he W lW s8 => ?_⟩
   refine ⟨by show 2 ≤ sizeLine; decide, fun pp hpp => ?_⟩
   have s9 := same_new (o := .tup [.ref ld, .ref e]) hpp
   have nH : ∀ {b : Addr}, Hb b = none → H b = none := fun {b} h => by
    cases y : H b with
    | none => rfl
    | some o => rw [sb _ _ y] at h; cases h
   have heb : Hb e = none := by
    cases y : Hb e with
    | none => rfl
    | some o => rw [s3 _ _ y] at he0; cases he0
   exact k pp ld e far ways _ (nH hldb) (nH heb) (ne_of_none hf3 he0) upd_same (s9 _ _ (s8 _ _ hf3)) (s9 _ _ he) FO W lW ((sb.trans s3).trans (s8.trans s9))
  have tne : s.there ≠ [] := fun z => by
   rw [z] at lks
   have : (ks3.length : Int) > 0 := of_decide_eq_true c
   rw [lks] at this
   exact absurd this (by simp)
  have len1 := LI3.len
  have lcnt : (w.filter fun r => decide (r.1 ∈ D)).length ≤ w.length := List.length_filter_le _ _
  refine ⟨fun σ' H' => ∃ μ', μ' < w.length + 1 - D.length ∧ ∃ (far : Tb) (D : List Str) (m : Int) (l : Addr) (s : LS) (oname orow : Option V), σ' = [some (.ref q), some (.str first), some (.ref rd), some (.ref ld), some (.ref p), oname, orow] ∧ H' ld = some (.dK (kvW far)) ∧ LateAt C H' p d l s ∧ Gm.LInv slt s ∧ Wb.DJ w first far (thW s.there) m D ∧ s.stamp ≤ 1 + (w.filter fun r => decide (r.1 ∈ D)).length ∧ Same Hb H' ∧ Hb l = none ∧ μ' = w.length + 1 - D.length, fun σ' H' z => z, ?_⟩
  refine ⟨_, rfl, p, dx3, _, rfl, hp3, lf_no (by decide +kernel) (by decide +kernel) (by decide +kernel) (by decide +kernel) (by decide +kernel), p, d, l, s, rfl, LA3, LI3, by lia, fun _ qq l3 H4 LA4 hq4 k4 f4 => ?_, fun z => absurd z tne⟩
  refine ⟨qq, _, 1, _, rfl, rfl, SqT.of hq4, rfl, ?_⟩
  have LP := least_plain LI3 tne
  have LI5 := Gm.take_inv slt_slo LI3 tne
  have th4 : thW (Gm.takeL slt s).there = Gm.ddel (thW s.there) (hd s).n := by rw [Gm.take_there, (Gm.least_ok slt_slo LI3 tne).there]; exact thW_del
  have st4 : (Gm.takeL slt s).stamp = s.stamp := by show (Gm.sweep slt _).stamp = _; rw [Gm.sweep_stamp]; exact (Gm.least_ok slt_slo LI3 tne).stamp
  have en : (Hg.g (Gm.leastL slt s).row 0).n = (hd s).n := rfl
  rw [en]
  have J5 : Wb.DP w first far (thW (Gm.takeL slt s).there) (hd s).w D (hd s).n ((w.filter fun r => decide (r.1 = (hd s).n)).take 0) := by
   rw [th4]
   refine J3.take (Gm.dget_of J3.tnd LP.mem) fun n x h => ?_
   have := LP.le n x (Gm.dget_some h)
   cases z : decide (x < (hd s).w) with
   | false => have := of_decide_eq_false z; lia
   | true =>
    have h1 : ltP (x, n) ((hd s).w, (hd s).n) = true := ltP_iff.mpr (.inl (of_decide_eq_true z))
    rw [h1] at this
    cases this
  generalize (hd s).w = m at J5
  generalize (hd s).n = name at J5 ⊢
  have nH4 : ∀ {b : Addr} {o : HO}, Hb b = some o → b ∉ [p, d, l] := fun {b o} e z => by
   simp only [List.mem_cons, List.not_mem_nil, or_false] at z
   rcases z with h | h | h
   ·rw [h, hpb] at e; cases e
   ·rw [h, hdb] at e; cases e
   ·rw [h, hl3] at e; cases e
  have s4' : Same Hb H4 := fun b o e => k4 b o (s3 b o e) (nH4 e)
  obtain ⟨xl3, hll3, _⟩ := LA3.ls
  have hf4 : H4 ld = some (.dK (kvW far)) := k4 _ _ hf3 fun z => by
   simp only [List.mem_cons, List.not_mem_nil, or_false] at z
   rcases z with h | h | h
   ·exact ne_of hf3 hp3 (by intro y; cases y) h
   ·exact nld h
   ·exact ne_of hf3 hll3 (by intro y; cases y) h
  have hl5 : Hb l3 = none := by
   rcases f4 with h | h
   ·rw [h]; exact hl3
   ·cases y : Hb l3 with
    | none => rfl
    | some o => rw [s3 _ _ y] at h; cases h
  refine ⟨_, rfl, rd, rfl, .inl ⟨_, .inl (s4' _ _ hrd)⟩, _, rfl, by show 0 ≤ sizeLine; decide, fun q0 hq0 => ?_⟩
  have s5' := same_new (o := .tup []) hq0
  have gq := upd_same (H := H4) (a := q0) (o := .tup [])
  have hf5 := s5' _ _ hf4
  have LA5 := LA4.same s5'
  have s5 := s4'.trans s5'
  generalize upd H4 q0 (.tup []) = H5 at gq hf5 LA5 s5 ⊢
  refine ⟨_, DGet.k (k := Sum.inr name) (s5 _ _ hrd), ?_⟩
  rcases R.at' name with ⟨z1, z2⟩ | ⟨l9, zs9, h1, h2, h3, h4⟩
  ·rw [z1]
   have w4 : WR3 Hb [] (w.filter fun r => decide (r.1 = name)) := by rw [z2]; exact .nil
   have hx : ∀ {H' : Hp}, Same Hb H' → H' q0 = some (.tup []) → SqT K H' q0 [] := fun _ e => SqT.of e
   refine ⟨_, rfl, .inr ⟨⟨_, hx s5 gq⟩, for_tup (xs := []) (fun j σ H4 => ∃ (far : Tb) (l : Addr) (s : LS) (o : Option V), σ = [some (.ref q), some (.str first), some (.ref rd), some (.ref ld), some (.ref p), some (.str name), o] ∧ H4 ld = some (.dK (kvW far)) ∧ LateAt C H4 p d l s ∧ Gm.LInv slt s ∧ Wb.DP w first far (thW s.there) m D name ((w.filter fun r => decide (r.1 = name)).take j) ∧ s.stamp ≤ 1 + (w.filter fun r => decide (r.1 ∈ D)).length + j ∧ Same Hb H4 ∧ Hb l = none ∧ H4 q0 = some (.tup []))
     ⟨far, l3, Gm.takeL slt s, orow, rfl, hf5, LA5, LI5, J5, by lia, s5, hl5, gq⟩ (fun j σ H4 _ ⟨_, _, _, _, _, _, _, _, _, _, s4, _, g4⟩ => hx s4 g4) ?_ ?_⟩⟩
   ·rintro j x σ H4 hx ⟨far, l, s, o, rfl, hf4, LA4, LI4, J4, st4, s4, hl4, gq4⟩
    obtain ⟨r, er, a, rfl, ha⟩ := paired_at w4 hx
    have ha4 := s4 _ _ ha
    have rm : r ∈ w.filter fun r => decide (r.1 = name) := List.mem_of_getElem? er
    obtain ⟨rw_, rn_⟩ := List.mem_filter.mp rm
    have rn : r.1 = name := of_decide_eq_true rn_
    have lj : j < (w.filter fun r => decide (r.1 = name)).length := (List.getElem?_eq_some_iff.mp er).1
    have tk1 : (w.filter fun r => decide (r.1 = name)).take (j + 1) = (w.filter fun r => decide (r.1 = name)).take j ++ [r] := by rw [List.take_succ, er]; rfl
    have len1 := LI4.len
    have len2 := LI4.tl
    have lfar := J4.I.len
    have lcnt : (w.filter fun r => decide (r.1 ∈ D)).length + (w.filter fun r => decide (r.1 = name)).length ≤ w.length := by rw [← Wb.filter_two J4.nad]; exact List.length_filter_le _ _
    obtain ⟨ks4, hd4, _⟩ := LA4.dc
    refine ⟨_, rfl, a, _, 1, _, rfl, rfl, SqT.of ha4, rfl, _, rfl, _, rfl, ld, _, rfl, dget_k hf4 J4.nam, _, rfl, a, _, 2, _, rfl, rfl, SqT.of ha4, rfl, m, r.2.2, rfl, rfl, _, rfl, _, rfl, p, d, l, ld, s, far, r.2.1, m + r.2.2, rfl, LA4, LI4, by lia, by lia, (hw r rw_).2.2, hf4, by lia, nld, fun z => ?_, fun v e1 e2 => ?_, fun l' H5 hg LA5 hf5 k5 f5 => ?_, fun v e1 e2 => ?_⟩
    ·have := J4.free z
     rw [thW_get] at this
     cases y : Gm.dget s.there r.2.1 with
     | none => rfl
     | some e => rw [y] at this; cases this
    ·have := J4.held hw1 rw_ e1 e2
     rw [thW_get] at this
     exact fun y => by rw [y] at this; cases this
    ·have th5 : thW (Gm.putL slt s r.2.1 (m + r.2.2)).there = Gm.dput (thW s.there) r.2.1 (m + r.2.2) := by show thW (Gm.sweep slt _).there = _; rw [Gm.sweep_there]; exact thW_put
     have st5 : (Gm.putL slt s r.2.1 (m + r.2.2)).stamp = s.stamp + 1 := by show (Gm.sweep slt _).stamp = _; rw [Gm.sweep_stamp]; rfl
     refine ⟨_, l', _, _, rfl, hf5, LA5, Gm.put_inv slt_slo LI4, ?_, by lia, fun b o e => k5 b o (s4 b o e) (fun z => ?_), ?_, k5 _ _ gq4 (fun z => ?_)⟩
     ·rw [th5, tk1]
      exact J4.put hw1 rw_ rn hg
     ·simp only [List.mem_cons, List.not_mem_nil, or_false] at z
      rcases z with h | h | h | h
      ·rw [h, hldb] at e; cases e
      ·rw [h, hpb] at e; cases e
      ·rw [h, hdb] at e; cases e
      ·rw [h, hl4] at e; cases e
     ·rcases f5 with h | h
      ·rw [h]; exact hl4
      ·cases y : Hb l' with
       | none => rfl
       | some o => rw [s4 _ _ y] at h; cases h
     ·have nt := LA4.notup
      simp only [List.mem_cons, List.not_mem_nil, or_false] at z
      rcases z with h | h | h | h
      ·rw [h, hf4] at gq4; cases gq4
      ·exact nt p (by simp) _ (h ▸ gq4)
      ·exact nt d (by simp) _ (h ▸ gq4)
      ·exact nt l (by simp) _ (h ▸ gq4)
    ·exact ⟨far, l, s, _, rfl, hf4, LA4, LI4, by rw [tk1]; exact J4.old e1 e2, by lia, s4, hl4, gq4⟩
   ·rintro σ H4 ⟨far, l, s, o, rfl, hf4, LA4, LI4, J4, st4, s4, hl4, gq4⟩
    have J5 := J4
    rw [w4.len, List.take_length] at J5
    have J6 := J5.fin fun r h1 h2 => List.mem_filter.mpr ⟨h1, decide_eq_true h2⟩
    have l6 := J6.len
    have e6 := Wb.filter_two (w := w) J4.nad
    have l7 : (D ++ [name]).length = D.length + 1 := by rw [List.length_append]; rfl
    have lw4 := w4.len
    exact ⟨_, by lia, far, D ++ [name], m, l, s, _, _, rfl, hf4, LA4, LI4, J6, by lia, s4, hl4, rfl⟩
  ·rw [h1]
   have hx : ∀ {H' : Hp}, Same Hb H' → H' q0 = some (.tup []) → SqL K H' l9 zs9 := fun s _ => SqL.of (s _ _ h3)
   refine ⟨_, rfl, .inl ⟨⟨_, hx s5 gq⟩, for_list (xs := zs9) (fun j σ H4 => ∃ (far : Tb) (l : Addr) (s : LS) (o : Option V), σ = [some (.ref q), some (.str first), some (.ref rd), some (.ref ld), some (.ref p), some (.str name), o] ∧ H4 ld = some (.dK (kvW far)) ∧ LateAt C H4 p d l s ∧ Gm.LInv slt s ∧ Wb.DP w first far (thW s.there) m D name ((w.filter fun r => decide (r.1 = name)).take j) ∧ s.stamp ≤ 1 + (w.filter fun r => decide (r.1 ∈ D)).length + j ∧ Same Hb H4 ∧ Hb l = none ∧ H4 q0 = some (.tup []))
     ⟨far, l3, Gm.takeL slt s, orow, rfl, hf5, LA5, LI5, J5, by lia, s5, hl5, gq⟩ (fun j σ H4 _ ⟨_, _, _, _, _, _, _, _, _, _, s4, _, g4⟩ => hx s4 g4) ?_ ?_⟩⟩
   ·rintro j x σ H4 hx ⟨far, l, s, o, rfl, hf4, LA4, LI4, J4, st4, s4, hl4, gq4⟩
    obtain ⟨r, er, a, rfl, ha⟩ := paired_at h4 hx
    have ha4 := s4 _ _ ha
    have rm : r ∈ w.filter fun r => decide (r.1 = name) := List.mem_of_getElem? er
    obtain ⟨rw_, rn_⟩ := List.mem_filter.mp rm
    have rn : r.1 = name := of_decide_eq_true rn_
    have lj : j < (w.filter fun r => decide (r.1 = name)).length := (List.getElem?_eq_some_iff.mp er).1
    have tk1 : (w.filter fun r => decide (r.1 = name)).take (j + 1) = (w.filter fun r => decide (r.1 = name)).take j ++ [r] := by rw [List.take_succ, er]; rfl
    have len1 := LI4.len
    have len2 := LI4.tl
    have lfar := J4.I.len
    have lcnt : (w.filter fun r => decide (r.1 ∈ D)).length + (w.filter fun r => decide (r.1 = name)).length ≤ w.length := by rw [← Wb.filter_two J4.nad]; exact List.length_filter_le _ _
    obtain ⟨ks4, hd4, _⟩ := LA4.dc
    refine ⟨_, rfl, a, _, 1, _, rfl, rfl, SqT.of ha4, rfl, _, rfl, _, rfl, ld, _, rfl, dget_k hf4 J4.nam, _, rfl, a, _, 2, _, rfl, rfl, SqT.of ha4, rfl, m, r.2.2, rfl, rfl, _, rfl, _, rfl, p, d, l, ld, s, far, r.2.1, m + r.2.2, rfl, LA4, LI4, by lia, by lia, (hw r rw_).2.2, hf4, by lia, nld, fun z => ?_, fun v e1 e2 => ?_, fun l' H5 hg LA5 hf5 k5 f5 => ?_, fun v e1 e2 => ?_⟩
    ·have := J4.free z
     rw [thW_get] at this
     cases y : Gm.dget s.there r.2.1 with
     | none => rfl
     | some e => rw [y] at this; cases this
    ·have := J4.held hw1 rw_ e1 e2
     rw [thW_get] at this
     exact fun y => by rw [y] at this; cases this
    ·have th5 : thW (Gm.putL slt s r.2.1 (m + r.2.2)).there = Gm.dput (thW s.there) r.2.1 (m + r.2.2) := by show thW (Gm.sweep slt _).there = _; rw [Gm.sweep_there]; exact thW_put
     have st5 : (Gm.putL slt s r.2.1 (m + r.2.2)).stamp = s.stamp + 1 := by show (Gm.sweep slt _).stamp = _; rw [Gm.sweep_stamp]; rfl
     refine ⟨_, l', _, _, rfl, hf5, LA5, Gm.put_inv slt_slo LI4, ?_, by lia, fun b o e => k5 b o (s4 b o e) (fun z => ?_), ?_, k5 _ _ gq4 (fun z => ?_)⟩
     ·rw [th5, tk1]
      exact J4.put hw1 rw_ rn hg
     ·simp only [List.mem_cons, List.not_mem_nil, or_false] at z
      rcases z with h | h | h | h
      ·rw [h, hldb] at e; cases e
      ·rw [h, hpb] at e; cases e
      ·rw [h, hdb] at e; cases e
      ·rw [h, hl4] at e; cases e
     ·rcases f5 with h | h
      ·rw [h]; exact hl4
      ·cases y : Hb l' with
       | none => rfl
       | some o => rw [s4 _ _ y] at h; cases h
     ·have nt := LA4.notup
      simp only [List.mem_cons, List.not_mem_nil, or_false] at z
      rcases z with h | h | h | h
      ·rw [h, hf4] at gq4; cases gq4
      ·exact nt p (by simp) _ (h ▸ gq4)
      ·exact nt d (by simp) _ (h ▸ gq4)
      ·exact nt l (by simp) _ (h ▸ gq4)
    ·exact ⟨far, l, s, _, rfl, hf4, LA4, LI4, by rw [tk1]; exact J4.old e1 e2, by lia, s4, hl4, gq4⟩
   ·rintro σ H4 ⟨far, l, s, o, rfl, hf4, LA4, LI4, J4, st4, s4, hl4, gq4⟩
    have J5 := J4
    rw [h4.len, List.take_length] at J5
    have J6 := J5.fin fun r h1 h2 => List.mem_filter.mpr ⟨h1, decide_eq_true h2⟩
    have l6 := J6.len
    have e6 := Wb.filter_two (w := w) J4.nad
    have l7 : (D ++ [name]).length = D.length + 1 := by rw [List.length_append]; rfl
    have lh4 := h4.len
    exact ⟨_, by lia, far, D ++ [name], m, l, s, _, _, rfl, hf4, LA4, LI4, J6, by lia, s4, hl4, rfl⟩
end
end Kx
end
section
set_option linter.all false
set_option maxRecDepth 100000
set_option maxHeartbeats 4000000
namespace Kx
open PySem L2
section
variable {P : Program} {w : World} {K : PySem.W.Frag} {mg : Str → Option Value} {base : Heap}
open Hm
abbrev sWNames : Stmt := top 27
theorem scWNames : FnScope ["script", "start", "many", "letters", "some", "first", "found", "k", "name", "own"] ["script", "start", "many"] (defScope sWNames) := ⟨rfl, rfl, rfl, (by simp only [List.nodup_cons, List.mem_cons, List.not_mem_nil, or_false, not_or, List.nodup_nil, and_true, not_false_eq_true]; (repeat' apply And.intro); all_goals decide +kernel), rfl, by decide +kernel, by decide +kernel⟩
def spWNames (K : PySem.W.Frag) : Sp := fun vs H Q _ => ∃ (a : Addr) (ns : List Int) (st : Int) (many : Nat), vs = [.ref a, .int st, .int many] ∧ SqL K H a (ns.map V.int) ∧ ns.length ≤ 63 ∧ 0 ≤ st ∧ many ≤ 50 ∧ ∀ l (xs : List Str) H', H' l = some (.lst (xs.map V.str)) → xs.length = many → xs.Nodup → (∀ x ∈ xs, x.length ≤ 30) → H l = none → Same H H' → Q (.ref l) H'
theorem ok_wnames {f fn : Addr} {fd fdn : FuncData} (F : Fun K "_law_names" "_law_names" sWNames f fd) (T : Bl mg) (G_law_number : FnOk P w K mg base CX0 1 fn fdn ["script", "k"] (spNumber K)) (D_law_number : Nm K mg "_law_number" fn fdn ["script", "k"]) :
  FnOk P w K mg base CX0 2 f fd ["script", "start", "many"] (spWNames K) := by
 have sc := scWNames
 refine F.okQ scWNames (fun vs H Q E h => ?_) (fun cdv A outer s H vs Q E hr h => ?_)
 ·obtain ⟨a, ns, st, many, rfl, _⟩ := h
  rfl
 ·obtain ⟨a, ns, st, many, rfl, hS, hn, hst, hm, k⟩ := h
  have hu := hr.units0
  have t1 : ∀ {H' : Hp}, Same H H' → SqL K H' a (ns.map V.int) := fun k => hS.imp (fun z => z.imp (k _ _) (fun ⟨o, e⟩ => ⟨o, k _ _ e⟩)) id
  refine ⟨_, (qss_cons (qs_set (i := 3) sc.nd rfl (Or.inl rfl) qe_str)
   (qss_cons (qs_set (i := 4) sc.nd rfl (Or.inl rfl) (qe_lst (qa_consts (vs := [.str "", .str "", .str "heap", .str "put", .str "b", .str "zz", .str "least", .str "lengthy"]) (by decide +kernel))))
   (qss_cons (qs_set (i := 5) sc.nd rfl (Or.inl rfl) (qe_call G_law_number (hr.mono (by decide)) rfl D_law_number.m D_law_number.k D_law_number.b .nil pass0 (qa_cons (qv 0) (qa_cons (qv 1) qa_nil))))
   (qss_cons (qs_set (i := 6) sc.nd rfl (Or.inl rfl) (qe_lst qa_nil))
   (qss_cons (qs_for PassesOwn.never rfl (qi_range1 rfl T.z_range (qa_cons (qv 2) qa_nil)) (qg_name (i := 7) sc.nd rfl (Or.inl rfl)) (qss_cons (qs_set (i := 8) sc.nd rfl (Or.inl rfl) (qe_ix ix_list (qv 4) (qe_op op_mod (qe_call G_law_number (hr.mono (by decide)) rfl D_law_number.m D_law_number.k D_law_number.b .nil pass0 (qa_cons (qv 0) (qa_cons (qe_op op_add (qe_op op_add (qv 1) qe_int) (qv 7)) qa_nil))) qe_int) (fun _ _ => rfl)))
   (qss_cons (qs_ifJ (qt_cmpR op_gt (qv 7) qe_int (nomark _)) (qss_one (qs_set (i := 8) sc.nd rfl (Or.inl rfl) (qe_op op_rep1 qe_str (qe_op op_fdivB (qv 7) qe_int)))) qss_nil)
   (qss_cons (qs_set (i := 9) sc.nd rfl (Or.inl rfl) (qe_ix ix_str (qv 3) (qe_op op_mod (qe_op op_add (qv 5) (qe_op op_mul qe_int (qv 7))) qe_int) (fun _ _ => rfl)))
   (qss_one (qs_expr (qe_bm PySem.F.plainAttrs_list PySem.F.slot_list_append PySem.F.type_list_append mt_append (qv 6) (qa_cons (qe_ix ix_list (qe_lst (qa_cons (qe_op op_add_str (qv 8) (qv 9)) (qa_cons (qe_op op_add_str (qv 9) (qv 8)) qa_nil))) (qe_op op_mod (qe_op op_fdivB (qv 5) qe_int) qe_int) (fun _ _ => rfl)) qa_nil))))))))
   (qss_one (qs_ret (qv 6)))))))), ?_⟩
  refine ⟨by show 8 ≤ sizeLine; decide, fun l1 hl1 => ?_⟩
  have s1 := same_new (o := .lst [.str "", .str "", .str "heap", .str "put", .str "b", .str "zz", .str "least", .str "lengthy"]) hl1
  have g1 := upd_same (H := H) (a := l1) (o := .lst [.str "", .str "", .str "heap", .str "put", .str "b", .str "zz", .str "least", .str "lengthy"])
  generalize upd H l1 (.lst [.str "", .str "", .str "heap", .str "put", .str "b", .str "zz", .str "least", .str "lengthy"]) = H1 at s1 g1 ⊢
  refine ⟨_, rfl, _, rfl, a, ns, st, rfl, t1 s1, hn, hst, fun fi H2 f0 f1 s2 => ?_⟩
  refine ⟨by show 0 ≤ sizeLine; decide, fun l2 hl2 => ?_⟩
  have s3 := same_new (o := .lst []) hl2
  have g3 := upd_same (H := H2) (a := l2) (o := .lst [])
  have g13 := s3 _ _ (s2 _ _ g1)
  have sH := (s1.trans s2).trans s3
  have hl0 : H l2 = none := by
   cases e : H l2 with
   | none => rfl
   | some o => rw [s2 _ _ (s1 _ _ e)] at hl2; cases hl2
  generalize upd H2 l2 (.lst []) = H3 at s3 g3 g13 sH ⊢
  refine ⟨_, rfl, _, rfl, by lia, by lia, ?_⟩
  rw [Int.toNat_natCast]
  have lc : ((Str.ofString "abcdefghijklmnopqrstuvwxyz").cps.toList.length : Int) = 26 := by decide +kernel
  have ll : (Str.ofString "abcdefghijklmnopqrstuvwxyz").length ≤ sizeLine := by decide +kernel
  refine for_range (lo := 0) (n := many) (fun i σ H4 => ∃ (xs : List Str) (o7 o8 o9 : Option V), σ = [some (.ref a), some (.int st), some (.int many), some (.str "abcdefghijklmnopqrstuvwxyz"), some (.ref l1), some (.int fi), some (.ref l2), o7, o8, o9] ∧ H4 l2 = some (.lst (xs.map V.str)) ∧ xs.length = i ∧ (∀ x ∈ xs, x.length ≤ 30) ∧ (∀ (j : Nat) (x : Str), xs[j]? = some x → NameAt fi j x) ∧ H4 l1 = some (.lst [.str "", .str "", .str "heap", .str "put", .str "b", .str "zz", .str "least", .str "lengthy"]) ∧ Same H H4)
   ⟨[], none, none, none, rfl, g3, rfl, (fun _ h => nomatch h), (fun j x h => by cases h), g13, sH⟩ ?_ ?_
  ·rintro i σ H4 hi ⟨xs, o7, o8, o9, rfl, h4, lx, lxs, nat4, h41, s4⟩
   have ei : (0 : Int) + (i : Int) = (i : Int) := by lia
   rw [ei]
   refine ⟨_, rfl, _, rfl, _, rfl, _, _, rfl, rfl, _, rfl, _, _, rfl, rfl, a, ns, _, rfl, t1 s4, hn, by lia, fun r H5 r0 r1 s5 => ?_⟩
   obtain ⟨v, ev, mv⟩ := atI_ex (l := ([.str "", .str "", .str "heap", .str "put", .str "b", .str "zz", .str "least", .str "lengthy"] : List V)) (i := r % 8) (mod_lo (by decide)) (mod_hi (b := 8) (by decide))
   have mv' : ∃ z : Str, v = .str z ∧ z.length ≤ 10 ∧ z ∈ stems := by
    simp only [List.mem_cons, List.not_mem_nil, or_false] at mv
    rcases mv with h | h | h | h | h | h | h | h <;> exact ⟨_, h, by decide +kernel, by decide +kernel⟩
   obtain ⟨z, rfl, lz, lz6⟩ := mv'
   refine ⟨_, _, rfl, rfl, (by show (0 : Int) < 8; decide), l1, _, _, _, rfl, rfl, SqL.of (s5 _ _ h41), ev, ?_⟩
   refine ⟨fun σ' H' => ∃ (nm : Str), σ' = [some (.ref a), some (.int st), some (.int many), some (.str "abcdefghijklmnopqrstuvwxyz"), some (.ref l1), some (.int fi), some (.ref l2), some (.int i), some (.str nm), o9] ∧ H' = H5 ∧ nm.length ≤ 20 ∧ (i ≤ 25 → nm ∈ stems) ∧ (25 < i → nm = "w"), ⟨_, rfl, _, _, rfl, rfl, _, rfl, ite2 (fun c => ?_) (fun c => ⟨z, rfl, rfl, by lia, fun _ => lz6, fun y => absurd (decide_eq_true (show (25 : Int) < (i : Int) by lia)) c⟩)⟩, ?_⟩
   ·have c' : (25 : Int) < (i : Int) := of_decide_eq_true c
    have e1 : (i : Int) / 26 = 1 := by lia
    exact ⟨_, rfl, _, _, rfl, rfl, ⟨by decide, by decide⟩, _, rfl, congrArg V.int e1, _, rfl, rfl, by decide +kernel, fun y => absurd y (by lia), fun _ => rfl⟩
   ·rintro σ' H' ⟨nm, rfl, rfl, lnm, st1, st2⟩
    have m0 : 0 ≤ (fi + 5 * (i : Int)) % 26 := mod_lo (by decide)
    have m1 : (fi + 5 * (i : Int)) % 26 < 26 := mod_hi (by decide)
    have e2 : atI (Str.ofString "abcdefghijklmnopqrstuvwxyz").cps.toList ((fi + 5 * (i : Int)) % 26) = some (97 + ((fi + 5 * (i : Int)) % 26).toNat) := by
     have := ltr_at (i := ((fi + 5 * (i : Int)) % 26).toNat) (by lia)
     rw [Int.toNat_of_nonneg m0] at this
     exact this
    generalize hc2 : 97 + ((fi + 5 * (i : Int)) % 26).toNat = c2 at e2
    refine ⟨_, rfl, _, rfl, _, rfl, _, _, rfl, rfl, .inl ⟨by decide, by decide⟩, _, _, rfl, rfl, _, _, rfl, rfl, (by show (0 : Int) < 26; decide), _, _, _, rfl, rfl, ll, e2, ?_⟩
    have lo : (⟨#[c2]⟩ : Str).length = 1 := rfl
    have h4' := s5 _ _ h4
    refine ⟨_, rfl, .inl ⟨rfl, _, SqL.of h4'⟩, _, rfl, _, rfl, nm, ⟨#[c2]⟩, rfl, rfl, Nat.le_trans (show nm.length + 1 ≤ 1000 by lia) (by decide), _, rfl, _, rfl, ⟨#[c2]⟩, nm, rfl, rfl, Nat.le_trans (show 1 + nm.length ≤ 1000 by lia) (by decide), by show 2 ≤ sizeLine; decide, fun l5 hl5 => ?_⟩
    have s6 := same_new (o := .lst [.str (nm ++ ⟨#[c2]⟩), .str (⟨#[c2]⟩ ++ nm)]) hl5
    have g6 := upd_same (H := H') (a := l5) (o := .lst [.str (nm ++ ⟨#[c2]⟩), .str (⟨#[c2]⟩ ++ nm)])
    generalize upd H' l5 (.lst [.str (nm ++ ⟨#[c2]⟩), .str (⟨#[c2]⟩ ++ nm)]) = H6 at s6 g6 ⊢
    obtain ⟨v, ev, mv⟩ := atI_ex (l := ([.str (nm ++ ⟨#[c2]⟩), .str (⟨#[c2]⟩ ++ nm)] : List V)) (i := fi / 26 % 2) (mod_lo (by decide)) (mod_hi (b := 2) (by decide))
    obtain ⟨n2, rfl, ln2⟩ : ∃ z : Str, v = .str z ∧ z.length ≤ 30 := by
     simp only [List.mem_cons, List.not_mem_nil, or_false] at mv
     have la : (nm ++ (⟨#[c2]⟩ : Str)).length = nm.length + 1 := by show (nm.cps ++ #[c2]).size = _; rw [Array.size_append]; rfl
     have lb : ((⟨#[c2]⟩ : Str) ++ nm).length = 1 + nm.length := by show (#[c2] ++ nm.cps).size = _; rw [Array.size_append]; rfl
     rcases mv with h | h
     ·exact ⟨_, h, by lia⟩
     ·exact ⟨_, h, by lia⟩
    have own : (⟨#[c2]⟩ : Str) = ownS fi i := by rw [← hc2]; rfl
    have en2 : n2 = (if fi / 26 % 2 = 0 then nm ++ ownS fi i else ownS fi i ++ nm) := by
     have h0 : 0 ≤ fi / 26 % 2 := mod_lo (by decide)
     have h1 : fi / 26 % 2 < 2 := mod_hi (by decide)
     rw [own] at ev
     by_cases z : fi / 26 % 2 = 0
     ·rw [if_pos z]
      rw [z] at ev
      exact (V.str.inj (Option.some.inj ev)).symm
     ·have z1 : fi / 26 % 2 = 1 := by lia
      rw [if_neg z]
      rw [z1] at ev
      exact (V.str.inj (Option.some.inj ev)).symm
    refine ⟨_, rfl, _, _, rfl, rfl, ⟨by decide, by decide⟩, _, _, rfl, rfl, (by show (0 : Int) < 2; decide), l5, _, _, _, rfl, rfl, SqL.of g6, ev, ?_⟩
    refine ⟨l2, _, _, rfl, rfl, s6 _ _ h4', small1000 (by rw [List.length_map]; lia), xs ++ [n2], _, _, _, rfl, ?_, by rw [List.length_append, lx]; rfl, fun x hx => ?_, fun j x e => ?_, ?_, fun b o e => ?_⟩
    ·rw [upd_same, List.map_append]; rfl
    ·rcases List.mem_append.mp hx with hx | hx
     ·exact lxs x hx
     ·rw [List.mem_singleton.mp hx]; exact ln2
    ·by_cases z : j < xs.length
     ·rw [List.getElem?_append_left z] at e
      exact nat4 j x e
     ·have ej : j = xs.length := by
       have := (List.getElem?_eq_some_iff.mp e).1
       rw [List.length_append] at this
       have h1 : ([n2] : List Str).length = 1 := rfl
       lia
      rw [ej, List.getElem?_append_right (Nat.le_refl _), Nat.sub_self] at e
      cases e
      rw [ej, lx]
      exact ⟨nm, en2, st1, st2⟩
    ·have h1' := s6 _ _ (s5 _ _ h41)
     rw [upd_ne (fun z => by rw [z, s6 _ _ h4'] at h1'; exact absurd hl2 (by rw [← z, s2 _ _ g1]; exact fun y => nomatch y))]
     exact h1'
    ·rw [upd_ne (ne_of_none e hl0)]
     exact s6 _ _ (s5 _ _ (s4 _ _ e))
  ·rintro σ H4 ⟨xs, o7, o8, o9, rfl, h4, lx, lxs, nat4, h41, s4⟩
   exact ⟨_, rfl, k l2 xs H4 h4 lx (names_nd nat4 (by lia)) lxs hl0 s4⟩
end
end Kx
end
section
set_option linter.all false
set_option maxRecDepth 100000
set_option maxHeartbeats 4000000
namespace Kx
open PySem L2
section
variable {P : Program} {w : World} {K : PySem.W.Frag} {mg : Str → Option Value} {base : Heap}
open Hm
theorem er_perm {α : Type} : ∀ (l : List α) (i : Nat) (h : i < l.length), (l[i] :: l.eraseIdx i).Perm l
 | x :: l, 0, _ => .refl _
 | x :: l, i + 1, h => by
  have := er_perm l i (by simpa using h)
  exact (List.Perm.swap ..).trans (this.cons x)
abbrev sOrder34 : Stmt := top 28
theorem scOrder34 : FnScope ["number", "things", "waiting", "found"] ["number", "things"] (defScope sOrder34) := ⟨rfl, rfl, rfl, (by simp only [List.nodup_cons, List.mem_cons, List.not_mem_nil, or_false, not_or, List.nodup_nil, and_true, not_false_eq_true]; (repeat' apply And.intro); all_goals decide +kernel), rfl, by decide +kernel, by decide +kernel⟩
def spOrder34 : Sp := fun vs H Q _ => ∃ (nu : Int) (rl : Addr) (zs : List V), vs = [.int nu, .ref rl] ∧ 0 ≤ nu ∧ H rl = some (.lst zs) ∧ zs.length ≤ 900 ∧ ∀ l ys H', H' l = some (.lst ys) → ys.Perm zs → Same H H' → Q (.ref l) H'
theorem ok_order34 {f : Addr} {fd : FuncData} (F : Fun K "_law_order" "_law_order" sOrder34 f fd) (T : Bl mg) : FnOk P w K mg base CX0 1 f fd ["number", "things"] spOrder34 := by
 have sc := scOrder34
 refine F.okQ scOrder34 (fun vs H Q E h => ?_) (fun cdv A outer s H vs Q E hr h => ?_)
 ·obtain ⟨nu, rl, zs, rfl, _⟩ := h
  rfl
 ·obtain ⟨nu, rl, zs, rfl, nu0, hrl, lz, k⟩ := h
  have hu := hr.units0
  refine ⟨_, (qss_cons (qs_set (i := 2) sc.nd rfl (Or.inl rfl) (qe_callTy call_list_of (by rfl) T.z_list (by decide +kernel) (qa_cons (qv 1) qa_nil)))
   (qss_cons (qs_set (i := 3) sc.nd rfl (Or.inl rfl) (qe_lst qa_nil))
   (qss_cons (qs_while PassesOwn.never (qt_cmpR (op_neNil hu) (qv 2) (qe_lst qa_nil) (nomark _)) (qss_cons (qs_expr (qe_bm PySem.F.plainAttrs_list PySem.F.slot_list_append PySem.F.type_list_append mt_append (qv 3) (qa_cons (qe_bm PySem.F.plainAttrs_list PySem.F.slot_list_pop PySem.F.type_list_pop mt_popAt (qv 2) (qa_cons (qe_op op_mod (qv 0) (qe_callB call_len_seq (by rfl) T.z_len (by decide +kernel) (qa_cons (qv 2) qa_nil))) qa_nil)) qa_nil)))
   (qss_one (qs_set (i := 0) sc.nd rfl (Or.inl rfl) (qe_op op_mod (qe_op op_fdivB (qe_op op_mul (qv 0) qe_int) qe_int) qe_int)))))
   (qss_one (qs_ret (qv 3)))))), ?_⟩
  refine ⟨_, rfl, rl, _, rfl, .inl (SqL.of hrl), fun wl hwl => ?_⟩
  have s1 := same_new (o := .lst zs) hwl
  have g1 := upd_same (H := H) (a := wl) (o := .lst zs)
  generalize upd H wl (.lst zs) = H1 at s1 g1 ⊢
  refine ⟨by show 0 ≤ sizeLine; decide, fun fl hfl => ?_⟩
  have s2 := same_new (o := .lst []) hfl
  have g2 := upd_same (H := H1) (a := fl) (o := .lst [])
  have g12 := s2 _ _ g1
  have nwf : wl ≠ fl := ne_of_none g1 hfl
  have hf0 : H fl = none := by
   cases y : H fl with
   | none => rfl
   | some o => rw [s1 _ _ y] at hfl; cases hfl
  generalize upd H1 fl (.lst []) = H2 at s2 g2 g12 ⊢
  refine ⟨fun m σ H3 => ∃ (nu : Int) (us fs : List V), σ = [some (.int nu), some (.ref rl), some (.ref wl), some (.ref fl)] ∧ H3 wl = some (.lst us) ∧ H3 fl = some (.lst fs) ∧ (fs ++ us).Perm zs ∧ 0 ≤ nu ∧ Same H H3 ∧ m = us.length,
   ⟨_, nu, zs, [], rfl, g12, g2, List.Perm.refl _, nu0, s1.trans s2, rfl⟩, ?_⟩
  rintro m σ H3 ⟨nu, us, fs, rfl, hw3, hf3, pm, nu0, s3, rfl⟩
  have lfu := pm.length_eq
  rw [List.length_append] at lfu
  refine ⟨_, rfl, by show 0 ≤ sizeLine; decide, fun z hz => ?_⟩
  have sz := same_new (o := .lst []) hz
  have gz := upd_same (H := H3) (a := z) (o := .lst [])
  have hw4 := sz _ _ hw3
  have hf4 := sz _ _ hf3
  generalize upd H3 z (.lst []) = H4 at sz gz hw4 hf4 ⊢
  have s4 := s3.trans sz
  refine ⟨wl, z, us, rfl, rfl, SqL.of hw4, SqL.of gz, _, rfl, ite2 (fun c => ?_) (fun c => ?_)⟩
  rotate_left
  ·have e0 : us = [] := by simpa using c
   rw [e0, List.append_nil] at pm
   exact ⟨_, rfl, k fl fs H4 hf4 pm s4⟩
  have ne : us ≠ [] := by simpa using c
  have lu : 0 < us.length := List.length_pos_iff.mpr ne
  refine ⟨fun σ' H' => ∃ m', m' < us.length ∧ ∃ (nu : Int) (us fs : List V), σ' = [some (.int nu), some (.ref rl), some (.ref wl), some (.ref fl)] ∧ H' wl = some (.lst us) ∧ H' fl = some (.lst fs) ∧ (fs ++ us).Perm zs ∧ 0 ≤ nu ∧ Same H H' ∧ m' = us.length, fun σ' H' z => z, ?_⟩
  have y0 : 0 ≤ nu % (us.length : Int) := mod_lo (by lia)
  have y1 : nu % (us.length : Int) < us.length := mod_hi (by lia)
  have hk : (nu % (us.length : Int)).toNat < us.length := by lia
  refine ⟨_, rfl, .inl ⟨rfl, _, SqL.of hf4⟩, _, rfl, .inl ⟨rfl, _, SqL.of hw4⟩, _, rfl, _, rfl, wl, _, rfl, .inl (SqL.of hw4), _, _, rfl, rfl, by lia, ?_⟩
  refine ⟨wl, us, nu % (us.length : Int), (nu % (us.length : Int)).toNat, us[(nu % (us.length : Int)).toNat], rfl, rfl, hw4, by lia, by lia, PySem.StrLaws.seqIndex_nonneg y0 y1, List.getElem?_eq_getElem hk, ?_⟩
  have hf5 : (upd H4 wl (.lst (us.eraseIdx (nu % (us.length : Int)).toNat))) fl = some (.lst fs) := by rw [upd_ne (Ne.symm nwf)]; exact hf4
  refine ⟨fl, fs, _, rfl, rfl, hf5, small1000 (by lia), ?_⟩
  refine ⟨_, rfl, _, _, rfl, rfl, .inr ⟨by decide, by decide⟩, _, _, rfl, rfl, ⟨by decide, by decide⟩, _, _, rfl, rfl, (by show (0 : Int) < 1000003; decide), us.length - 1, by lia, _, us.eraseIdx (nu % (us.length : Int)).toNat, fs ++ [us[(nu % (us.length : Int)).toNat]], rfl, ?_, upd_same, ?_, mod_lo (by decide), fun b o e => ?_, ?_⟩
  ·rw [upd_ne nwf, upd_same]
  ·rw [List.append_assoc]
   exact (List.Perm.append_left fs (er_perm us _ hk)).trans pm
  ·rw [upd_ne (ne_of_none e hf0), upd_ne (ne_of_none e hwl)]; exact s4 _ _ e
  ·rw [List.length_eraseIdx, if_pos hk]
abbrev sPlanted : Stmt := top 29
theorem scPlanted : FnScope ["script", "names", "far", "rows", "k", "some", "before", "number", "start", "goal", "slack", "length"] ["script", "names", "far"] (defScope sPlanted) := ⟨rfl, rfl, rfl, (by simp only [List.nodup_cons, List.mem_cons, List.not_mem_nil, or_false, not_or, List.nodup_nil, and_true, not_false_eq_true]; (repeat' apply And.intro); all_goals decide +kernel), rfl, by decide +kernel, by decide +kernel⟩
def spPlanted (K : PySem.W.Frag) : Sp := fun vs H Q _ => ∃ (a nl fd : Addr) (ns : List Int) (names : List Str) (many : Nat) (far : Tb), vs = [.ref a, .ref nl, .ref fd] ∧ SqL K H a (ns.map V.int) ∧ ns.length ≤ 63 ∧ H nl = some (.lst ((names.take many).map V.str)) ∧ many ≤ names.length ∧ 1 ≤ many ∧ many ≤ 45 ∧ H fd = some (.dK (kvW far)) ∧ Wb.Pla names many far ∧
 ∀ l zs (w : Wb.Web) H', H' l = some (.lst zs) → WR3 H' zs w → (∀ r ∈ w, 1 ≤ r.2.2 ∧ r.1 ∈ names.take many ∧ r.2.1 ∈ names.take many ∧ ∀ u v, Gm.dget far r.1 = some u → Gm.dget far r.2.1 = some v → v ≤ u + r.2.2) → (∀ (j : Nat) (n : Str), 1 ≤ j → j < many → names[j]? = some n → ∃ r ∈ w, r.2.1 = n ∧ ∃ u v, Gm.dget far r.1 = some u ∧ Gm.dget far n = some v ∧ u + r.2.2 = v) → w.length ≤ 3 * many → H l = none → Same H H' → Q (.ref l) H'
theorem ok_planted {f fn : Addr} {fd fdn : FuncData} (F : Fun K "_law_planted" "_law_planted" sPlanted f fd) (T : Bl mg) (z_max : mg "max" = none) (G_law_number : FnOk P w K mg base CX0 1 fn fdn ["script", "k"] (spNumber K)) (D_law_number : Nm K mg "_law_number" fn fdn ["script", "k"]) : FnOk P w K mg base CX0 2 f fd ["script", "names", "far"] (spPlanted K) := by
 have sc := scPlanted
 refine F.okQ scPlanted (fun vs H Q E h => ?_) (fun cdv A outer s H vs Q E hr h => ?_)
 ·obtain ⟨a, nl, fd_, ns, names, many, far, rfl, _⟩ := h
  rfl
 ·obtain ⟨a, nl, fd_, ns, names, many, far, rfl, hS, hn, hnl, lm0, lm1, lm2, hfd, PL, kQ⟩ := h
  have hu := hr.units0
  have t1 : ∀ {H' : Hp}, Same H H' → SqL K H' a (ns.map V.int) := fun k => hS.imp (fun z => z.imp (k _ _) (fun ⟨o, e⟩ => ⟨o, k _ _ e⟩)) id
  have lnt : (names.take many).length = many := by rw [List.length_take]; lia
  have lnm : ((names.take many).map V.str).length = many := by rw [List.length_map]; exact lnt
  have atn : ∀ (j : Nat) (n : Str), (names.take many)[j]? = some n ↔ j < many ∧ names[j]? = some n := fun j n => by
   rw [List.getElem?_take]
   split
   ·rename_i h; exact ⟨fun z => ⟨h, z⟩, fun z => z.2⟩
   ·rename_i h; exact ⟨fun z => (nomatch z), fun z => absurd z.1 h⟩
  have getF : ∀ n ∈ names.take many, ∃ v, Gm.dget far n = some v := fun n hn => by
   obtain ⟨j, hj, ej⟩ := List.getElem_of_mem hn
   obtain ⟨h1, h2⟩ := (atn j n).mp (by rw [List.getElem?_eq_getElem hj, ej])
   exact PL.has h1 h2
  have pick : ∀ (i : Int), 0 ≤ i → i < many → ∃ n, n ∈ names.take many ∧ atI ((names.take many).map V.str) i = some (.str n) := fun i h0 h1 => by
   obtain ⟨v, ev, mv⟩ := atI_ex (l := (names.take many).map V.str) (i := i) h0 (by rw [lnm]; exact h1)
   obtain ⟨n, mn, rfl⟩ := List.mem_map.mp mv
   exact ⟨n, mn, ev⟩
  refine ⟨_, (qss_cons (qs_set (i := 3) sc.nd rfl (Or.inl rfl) (qe_lst qa_nil))
   (qss_cons (qs_for PassesOwn.never rfl (qi_range2 rfl T.z_range (qa_cons qe_int (qa_cons (qe_callB call_len_seq (by rfl) T.z_len (by decide +kernel) (qa_cons (qv 1) qa_nil)) qa_nil))) (qg_name (i := 4) sc.nd rfl (Or.inr rfl)) (qss_cons (qs_setComp (i := 5) sc.nd rfl (Or.inl rfl) (Blk.of (N := ["script", "names", "far", "rows", "k", "some", "before", "number", "start", "goal", "slack", "length"]) (esc := defScope sPlanted) (NB := ["far", "names", "k"]) (cap := [2, 1, 4]) rfl rfl (fun y hy => cell_has hy) rfl (by decide +kernel) (by decide +kernel) (by decide +kernel) rfl (by decide +kernel) rfl (by decide +kernel)) rfl rfl (qi_list (qv 1)) (fun C fp s₀ H₀ => (qts_one (qt_chain op_lt op_lt qe_int (qe_op op_sub (qe_dget (hu_of hr) (qv 1) (qe_ix (ix_listB (K := K) rfl) (qv 2) (qv 3) (fun _ _ => rfl)) (fun _ _ => rfl)) (qe_dget (hu_of hr) (qv 1) (qv 0) (fun _ _ => rfl))) (qe_op op_pow qe_int qe_int)))) (fun C fp s₀ H₀ => (qv 0)))
   (qss_cons (qs_set (i := 6) sc.nd rfl (Or.inl rfl) (qe_ix ix_list (qv 5) (qe_op op_mod (qe_call G_law_number (hr.mono (by decide)) rfl D_law_number.m D_law_number.k D_law_number.b .nil pass0 (qa_cons (qv 0) (qa_cons (qe_op op_add qe_int (qv 4)) qa_nil))) (qe_callB call_len_seq (by rfl) T.z_len (by decide +kernel) (qa_cons (qv 5) qa_nil))) (fun _ _ => rfl)))
   (qss_one (qs_expr (qe_bm PySem.F.plainAttrs_list PySem.F.slot_list_append PySem.F.type_list_append mt_append (qv 3) (qa_cons (qe_tup (qa_cons (qv 6) (qa_cons (qe_ix ix_list (qv 1) (qv 4) (fun _ _ => rfl)) (qa_cons (qe_op op_sub (qe_dget (hu_of hr) (qv 2) (qe_ix ix_list (qv 1) (qv 4) (fun _ _ => rfl)) (fun _ _ => rfl)) (qe_dget (hu_of hr) (qv 2) (qv 6) (fun _ _ => rfl))) qa_nil)))) qa_nil)))))))
   (qss_cons (qs_for PassesOwn.never rfl (qi_range1 rfl T.z_range (qa_cons (qe_op op_mod (qe_call G_law_number (hr.mono (by decide)) rfl D_law_number.m D_law_number.k D_law_number.b .nil pass0 (qa_cons (qv 0) (qa_cons qe_int qa_nil))) (qe_op op_add (qe_op op_mul qe_int (qe_callB call_len_seq (by rfl) T.z_len (by decide +kernel) (qa_cons (qv 1) qa_nil))) qe_int)) qa_nil)) (qg_name (i := 4) sc.nd rfl (Or.inr rfl)) (qss_cons (qs_set (i := 7) sc.nd rfl (Or.inl rfl) (qe_call G_law_number (hr.mono (by decide)) rfl D_law_number.m D_law_number.k D_law_number.b .nil pass0 (qa_cons (qv 0) (qa_cons (qe_op op_add qe_int (qv 4)) qa_nil))))
   (qss_cons (qs_set (i := 8) sc.nd rfl (Or.inl rfl) (qe_ix ix_list (qv 1) (qe_op op_mod (qv 7) (qe_callB call_len_seq (by rfl) T.z_len (by decide +kernel) (qa_cons (qv 1) qa_nil))) (fun _ _ => rfl)))
   (qss_cons (qs_set (i := 9) sc.nd rfl (Or.inl rfl) (qe_ix ix_list (qv 1) (qe_op op_mod (qe_op op_fdivB (qv 7) (qe_callB call_len_seq (by rfl) T.z_len (by decide +kernel) (qa_cons (qv 1) qa_nil))) (qe_callB call_len_seq (by rfl) T.z_len (by decide +kernel) (qa_cons (qv 1) qa_nil))) (fun _ _ => rfl)))
   (qss_cons (qs_set (i := 10) sc.nd rfl (Or.inl rfl) (qe_ix ix_list (qe_lst (qa_cons qe_int (qa_cons qe_int (qa_cons qe_int (qa_cons (qe_op op_mod (qv 7) qe_int) qa_nil))))) (qe_op op_mod (qe_op op_fdivB (qv 7) qe_int) qe_int) (fun _ _ => rfl)))
   (qss_cons (qs_set (i := 11) sc.nd rfl (Or.inl rfl) (qe_callB (call_max2 rfl) (by rfl) z_max (by decide +kernel) (qa_cons qe_int (qa_cons (qe_op op_add (qe_op op_sub (qe_dget (hu_of hr) (qv 2) (qv 9) (fun _ _ => rfl)) (qe_dget (hu_of hr) (qv 2) (qv 8) (fun _ _ => rfl))) (qv 10)) qa_nil))))
   (qss_one (qs_if (qt_cmpR op_lt (qv 11) (qe_op op_pow qe_int qe_int) (nomark _)) (qss_one (qs_expr (qe_bm PySem.F.plainAttrs_list PySem.F.slot_list_append PySem.F.type_list_append mt_append (qv 3) (qa_cons (qe_tup (qa_cons (qv 8) (qa_cons (qv 9) (qa_cons (qv 11) qa_nil)))) qa_nil)))) qss_nil))))))))
   (qss_one (qs_ret (qv 3)))))), ?_⟩
  refine ⟨by show 0 ≤ sizeLine; decide, fun rl hrl => ?_⟩
  have s1 := same_new (o := .lst []) hrl
  have g1 := upd_same (H := H) (a := rl) (o := .lst [])
  generalize upd H rl (.lst []) = H1 at s1 g1 ⊢
  refine ⟨_, rfl, nl, _, rfl, .inl (SqL.of (s1 _ _ hnl)), 1, many, by rw [lnm], ⟨by decide, by decide, by lia, by lia⟩, ?_⟩
  have en : ((many : Int) - 1).toNat = many - 1 := by lia
  rw [en]
  refine for_range (lo := 1) (n := many - 1) (fun i σ H2 => ∃ (zs : List V) (w : Wb.Web) (o4 o5 o6 : Option V), σ = [some (.ref a), some (.ref nl), some (.ref fd_), some (.ref rl), o4, o5, o6, none, none, none, none, none] ∧ H2 rl = some (.lst zs) ∧ WR3 H2 zs w ∧ w.length = i ∧ (∀ r ∈ w, 1 ≤ r.2.2 ∧ r.1 ∈ names.take many ∧ r.2.1 ∈ names.take many ∧ ∀ u v, Gm.dget far r.1 = some u → Gm.dget far r.2.1 = some v → v ≤ u + r.2.2) ∧ (∀ (j : Nat) (n : Str), 1 ≤ j → j < 1 + i → names[j]? = some n → ∃ r ∈ w, r.2.1 = n ∧ ∃ u v, Gm.dget far r.1 = some u ∧ Gm.dget far n = some v ∧ u + r.2.2 = v) ∧ Same H H2)
   ⟨[], [], none, none, none, rfl, g1, .nil, rfl, (fun _ h => nomatch h), (fun j n h1 h2 => absurd h2 (by lia)), s1⟩ ?_ ?_
  ·rintro i σ H2 hi ⟨zs, w, o4, o5, o6, rfl, h2, wr, lw, okw, rww, s2⟩
   have hnl2 := s2 _ _ hnl
   have hfd2 := s2 _ _ hfd
   have lk : 1 + i < names.length := by lia
   have ek : names[1 + i]? = some names[1 + i] := List.getElem?_eq_getElem lk
   generalize names[1 + i] = nk at ek
   obtain ⟨vk, hvk, vk1, i0, m0, u0, hi0, hm0, hu0, d1, d2⟩ := PL.pos (1 + i) nk (by lia) (by lia) ek
   have nkin : nk ∈ names.take many := List.mem_of_getElem? ((atn (1 + i) nk).mpr ⟨by lia, ek⟩)
   have m0in : m0 ∈ names.take many := List.mem_of_getElem? ((atn i0 m0).mpr ⟨by lia, hm0⟩)
   have atk : atI ((names.take many).map V.str) (1 + (i : Int)) = some (.str nk) := by
    have : (1 : Int) + (i : Int) = ((1 + i : Nat) : Int) := by lia
    rw [this]
    exact atI_nat (by rw [List.getElem?_map, (atn (1 + i) nk).mpr ⟨by lia, ek⟩]; rfl)
   refine ⟨_, rfl, nl, rfl, ⟨_, SqL.of hnl2⟩, fun D hD => ?_⟩
   refine comp_listR (K := K) (a := nl) (xs := (names.take many).map V.str) (fun j ys H8 => H8 D = some (.lst ys) ∧ Same H2 H8 ∧ ∃ us : List Str, ys = us.map V.str ∧ us.length ≤ j ∧ ∀ x, x ∈ us ↔ x ∈ (names.take many).take j ∧ ∃ u, Gm.dget far x = some u ∧ 0 < vk - u ∧ vk - u < 10 ^ 30) ⟨upd_same, same_new hD, [], rfl, Nat.le_refl _, fun x => by simp⟩ (fun j ys H8 z => ⟨z.1, SqL.of (z.2.1 _ _ hnl2)⟩) ?_ ?_
   ·rintro j x ys H8 hx ⟨h8, s8, us, rfl, lu, mu⟩
    rw [List.getElem?_map] at hx
    obtain ⟨n, hn', rfl⟩ := Option.map_eq_some_iff.mp hx
    have lj := (List.getElem?_eq_some_iff.mp hn').1
    have lj' : j < ((names.take many).map V.str).length := by rw [List.length_map]; exact lj
    have nin : n ∈ names.take many := List.mem_of_getElem? hn'
    obtain ⟨u, hu'⟩ := getF n nin
    have tw : (names.take many).take (j + 1) = (names.take many).take j ++ [n] := by rw [List.take_add_one, hn']; rfl
    have hfd8 := s8 _ _ hfd2
    have old : ¬ (0 < vk - u ∧ vk - u < 10 ^ 30) → ∃ us' : List Str, us.map V.str = us'.map V.str ∧ us'.length ≤ j + 1 ∧ ∀ x, x ∈ us' ↔ x ∈ (names.take many).take (j + 1) ∧ ∃ u, Gm.dget far x = some u ∧ 0 < vk - u ∧ vk - u < 10 ^ 30 := fun h => ⟨us, rfl, by lia, fun x => by
     rw [mu, tw, List.mem_append, List.mem_singleton]
     constructor
     ·rintro ⟨h1, h2⟩; exact ⟨.inl h1, h2⟩
     ·rintro ⟨h1 | h1, u2, h2, h3⟩
      ·exact ⟨h1, u2, h2, h3⟩
      ·rw [h1, hu'] at h2
       cases h2
       exact absurd h3 h⟩
    refine ⟨_, rfl, _, rfl, _, rfl, nl, _, _, _, rfl, rfl, SqL.of (s8 _ _ hnl2), atk, fd_, _, rfl, dget_k hfd8 hvk, _, rfl, _, rfl, fd_, _, rfl, dget_k hfd8 hu', vk, u, rfl, rfl, _, _, rfl, rfl, _, rfl, ite2 (fun c1 => ?_) (fun c1 => ?_)⟩
    ·have c1' : (0 : Int) < vk - u := of_decide_eq_true c1
     refine ⟨_, _, rfl, rfl, ⟨by decide, by decide, by decide⟩, _, _, rfl, rfl, _, rfl, ite2 (fun c2 => ?_) (fun c2 => ?_)⟩
     ·have c2' : vk - u < 10 ^ 30 := of_decide_eq_true c2
      refine ⟨_, rfl, h8, small1000 (by rw [List.length_map]; lia), _, by lia, rfl, by lia, upd_same, fun b o e => ?_, us ++ [n], by rw [List.map_append]; rfl, by rw [List.length_append]; show _ + 1 ≤ _; lia, fun x => ?_⟩
      ·rw [upd_ne (ne_of_none e hD)]; exact s8 _ _ e
      ·rw [List.mem_append, mu, tw, List.mem_append, List.mem_singleton]
       constructor
       ·rintro (⟨h1, h2⟩ | rfl)
        ·exact ⟨.inl h1, h2⟩
        ·exact ⟨.inr rfl, u, hu', c1', c2'⟩
       ·rintro ⟨h1 | h1, h2⟩
        ·exact .inl ⟨h1, h2⟩
        ·exact .inr h1
     ·exact ⟨_, by lia, rfl, by lia, h8, s8, old fun z => c2 (decide_eq_true z.2)⟩
    ·refine ⟨_, rfl, iteF ?_⟩
     exact ⟨_, by lia, rfl, by lia, h8, s8, old fun z => c1 (decide_eq_true z.1)⟩
   rintro ys H3 ⟨h3, s3, us, rfl, lu3, mu⟩
   rw [List.length_map, List.take_length] at mu
   have hin : m0 ∈ us := (mu m0).mpr ⟨m0in, u0, hu0, d1, d2⟩
   have lu : 0 < us.length := List.length_pos_of_mem hin
   have lum : (us.map V.str).length = us.length := List.length_map ..
   have s23 := s2.trans s3
   refine ⟨_, rfl, _, rfl, _, rfl, _, _, rfl, rfl, a, ns, _, rfl, t1 s23, hn, by lia, fun r H4 r0 r1 s4 => ?_⟩
   obtain ⟨vb, evb, mvb⟩ := atI_ex (l := us.map V.str) (i := r % (us.length : Int)) (mod_lo (by lia)) (by rw [lum]; exact mod_hi (by lia))
   obtain ⟨bf, mbf, rfl⟩ := List.mem_map.mp mvb
   refine ⟨_, rfl, D, _, rfl, .inl (SqL.of (s4 _ _ h3)), _, _, rfl, rfl, by rw [lum]; lia, D, _, _, _, rfl, rfl, SqL.of (s4 _ _ h3), (by rw [lum]; exact evb), ?_⟩
   obtain ⟨bin, ub, hub, b1, b2⟩ := (mu bf).mp mbf
   have s24 := s3.trans s4
   have hrl4 := s24 _ _ h2
   have hfd4 := s24 _ _ hfd2
   refine ⟨_, rfl, .inl ⟨rfl, _, SqL.of hrl4⟩, _, rfl, _, rfl, _, rfl, nl, _, _, _, rfl, rfl, SqL.of (s24 _ _ hnl2), atk, _, rfl, _, rfl, _, rfl, nl, _, _, _, rfl, rfl, SqL.of (s24 _ _ hnl2), atk, fd_, _, rfl, dget_k hfd4 hvk, _, rfl, _, rfl, fd_, _, rfl, dget_k hfd4 hub, vk, ub, rfl, rfl, by show 3 ≤ sizeLine; decide, fun tq htq => ?_⟩
   have s5 := same_new (o := .tup [.str bf, .str nk, .int (vk - ub)]) htq
   have g5 := upd_same (H := H4) (a := tq) (o := .tup [.str bf, .str nk, .int (vk - ub)])
   have s25 := s24.trans s5
   generalize upd H4 tq (.tup [.str bf, .str nk, .int (vk - ub)]) = H5 at s5 g5 s25 ⊢
   have h25 := s25 _ _ h2
   refine ⟨rl, _, _, rfl, rfl, h25, small1000 (by rw [wr.len]; lia), zs ++ [.ref tq], w ++ [(bf, nk, vk - ub)], _, _, _, rfl, upd_same, ?_, by rw [List.length_append, lw]; rfl, fun q hq => ?_, fun j n h1 h2 h3 => ?_, fun b o e => ?_⟩
   ·exact ((wr.stay fun b l e => s25 _ _ e).stay (tk_lst h25)).snoc rfl (tk_lst h25 _ _ g5)
   ·rcases List.mem_append.mp hq with z | z
    ·exact okw q z
    ·rw [List.mem_singleton.mp z]
     refine ⟨by show 1 ≤ vk - ub; lia, bin, nkin, fun u v e1 e2 => ?_⟩
     rw [hub] at e1
     rw [hvk] at e2
     cases e1
     cases e2
     show vk ≤ ub + (vk - ub)
     lia
   ·by_cases z : j = 1 + i
    ·subst z
     rw [ek] at h3
     cases h3
     exact ⟨(bf, nk, vk - ub), by simp, rfl, ub, vk, hub, hvk, by show ub + (vk - ub) = vk; lia⟩
    ·obtain ⟨q, hq, e⟩ := rww j n h1 (by lia) h3
     exact ⟨q, List.mem_append_left _ hq, e⟩
   ·rw [upd_ne (ne_of_none e hrl)]; exact s25 _ _ (s2 _ _ e)
  rintro σ H2 ⟨zs, w, o4, o5, o6, rfl, h2, wr, lw, okw, rww, s2⟩
  have rwm : ∀ (j : Nat) (n : Str), 1 ≤ j → j < many → names[j]? = some n → ∃ r ∈ w, r.2.1 = n ∧ ∃ u v, Gm.dget far r.1 = some u ∧ Gm.dget far n = some v ∧ u + r.2.2 = v := fun j n h1 h2 => rww j n h1 (by lia)
  refine ⟨_, rfl, a, ns, 1, rfl, t1 s2, hn, by decide, fun b H3 b0 b1 s3 => ?_⟩
  refine ⟨_, rfl, nl, _, rfl, .inl (SqL.of (s3 _ _ (s2 _ _ hnl))), _, _, rfl, rfl, .inl ⟨by decide, by decide⟩, _, _, rfl, rfl, _, _, rfl, rfl, (by rw [lnm]; lia), ?_⟩
  rw [lnm]
  obtain ⟨nr, enr, lnr⟩ : ∃ nr : Nat, b % (2 * (many : Int) + 1) = (nr : Int) ∧ nr ≤ 2 * many := by
   have m0 : 0 ≤ b % (2 * (many : Int) + 1) := mod_lo (by lia)
   have m1 : b % (2 * (many : Int) + 1) < 2 * (many : Int) + 1 := mod_hi (by lia)
   exact ⟨(b % (2 * (many : Int) + 1)).toNat, by lia, by lia⟩
  refine ⟨(nr : Int), congrArg (fun z => [V.int z]) enr, by lia, by lia, ?_⟩
  rw [Int.toNat_natCast]
  have s23 := s2.trans s3
  refine for_range (lo := 0) (n := nr) (fun i σ H5 => ∃ (zs : List V) (w : Wb.Web) (o4 o5 o6 o7 o8 o9 o10 o11 : Option V), σ = [some (.ref a), some (.ref nl), some (.ref fd_), some (.ref rl), o4, o5, o6, o7, o8, o9, o10, o11] ∧ H5 rl = some (.lst zs) ∧ WR3 H5 zs w ∧ w.length ≤ many - 1 + i ∧ (∀ r ∈ w, 1 ≤ r.2.2 ∧ r.1 ∈ names.take many ∧ r.2.1 ∈ names.take many ∧ ∀ u v, Gm.dget far r.1 = some u → Gm.dget far r.2.1 = some v → v ≤ u + r.2.2) ∧ (∀ (j : Nat) (n : Str), 1 ≤ j → j < many → names[j]? = some n → ∃ r ∈ w, r.2.1 = n ∧ ∃ u v, Gm.dget far r.1 = some u ∧ Gm.dget far n = some v ∧ u + r.2.2 = v) ∧ Same H H5)
   ⟨zs, w, o4, o5, o6, none, none, none, none, none, rfl, s3 _ _ h2, wr.stay (fun b l e => s3 _ _ e), by lia, okw, rwm, s23⟩ ?_ ?_
  ·rintro i σ H5 hi ⟨zs, w, o4, o5, o6, o7, o8, o9, o10, o11, rfl, h5, wr, lw, okw, rwm, s5⟩
   refine ⟨_, rfl, _, rfl, _, _, rfl, rfl, a, ns, _, rfl, t1 s5, hn, by lia, fun nu H6 n0 n1 s6 => ?_⟩
   have s56 := s5.trans s6
   have hnl6 := s56 _ _ hnl
   have hfd6 := s56 _ _ hfd
   have lm3 : (0 : Int) < many := by lia
   obtain ⟨st, mst, est⟩ := pick (nu % (many : Int)) (mod_lo lm3) (mod_hi lm3)
   obtain ⟨go, mgo, ego⟩ := pick (nu / (many : Int) % (many : Int)) (mod_lo lm3) (mod_hi lm3)
   obtain ⟨vs, hvs⟩ := getF st mst
   obtain ⟨vg, hvg⟩ := getF go mgo
   refine ⟨_, rfl, _, rfl, _, rfl, nl, _, rfl, .inl (SqL.of hnl6), _, _, rfl, rfl, (by rw [lnm]; exact lm3), nl, _, _, _, rfl, rfl, SqL.of hnl6, (by rw [lnm]; exact est), ?_⟩
   refine ⟨_, rfl, _, rfl, _, rfl, nl, _, rfl, .inl (SqL.of hnl6), _, _, rfl, rfl, ⟨by rw [lnm]; lia, by rw [lnm]; lia⟩, _, rfl, nl, _, rfl, .inl (SqL.of hnl6), _, _, rfl, rfl, (by rw [lnm]; exact lm3), nl, _, _, _, rfl, rfl, SqL.of hnl6, (by rw [lnm]; exact ego), ?_⟩
   have k0 : 0 ≤ nu % 1000 := mod_lo (by decide)
   refine ⟨_, rfl, _, _, rfl, rfl, (by show (0 : Int) < 1000; decide), by show 4 ≤ sizeLine; decide, fun l7 hl7 => ?_⟩
   have s7 := same_new (o := .lst [.int 0, .int 0, .int 1, .int (nu % 1000)]) hl7
   have g7 := upd_same (H := H6) (a := l7) (o := .lst [.int 0, .int 0, .int 1, .int (nu % 1000)])
   generalize upd H6 l7 (.lst [.int 0, .int 0, .int 1, .int (nu % 1000)]) = H7 at s7 g7 ⊢
   obtain ⟨v, ev, mv⟩ := atI_ex (l := ([.int 0, .int 0, .int 1, .int (nu % 1000)] : List V)) (i := nu / 2000 % 4) (mod_lo (by decide)) (mod_hi (b := 4) (by decide))
   obtain ⟨sk, rfl, hsk⟩ : ∃ z : Int, v = .int z ∧ 0 ≤ z := by
    simp only [List.mem_cons, List.not_mem_nil, or_false] at mv
    rcases mv with h | h | h | h <;> exact ⟨_, h, by lia⟩
   refine ⟨_, rfl, _, _, rfl, rfl, ⟨by decide, by decide⟩, _, _, rfl, rfl, (by show (0 : Int) < 4; decide), l7, _, _, _, rfl, rfl, SqL.of g7, ev, ?_⟩
   have hfd7 := s7 _ _ hfd6
   refine ⟨_, rfl, _, rfl, fd_, _, rfl, dget_k hfd7 hvg, _, rfl, _, rfl, fd_, _, rfl, dget_k hfd7 hvs, vg, vs, rfl, rfl, _, rfl, _, sk, rfl, rfl, 1, vg - vs + sk, rfl, ?_⟩
   obtain ⟨le, ele, le1, le2⟩ : ∃ le : Int, (if vg - vs + sk > 1 then vg - vs + sk else 1) = le ∧ 1 ≤ le ∧ vg - vs ≤ le := by
    refine ⟨_, rfl, ?_, ?_⟩
    ·split <;> lia
    ·split <;> lia
   rw [ele]
   have s57 := s6.trans s7
   have h57 := s57 _ _ h5
   refine ⟨_, rfl, _, _, rfl, rfl, ⟨by decide, by decide, by decide⟩, _, _, rfl, rfl, _, rfl, ite2 (fun _ => ?_) (fun _ => ?_)⟩
   ·refine ⟨_, rfl, .inl ⟨rfl, _, SqL.of h57⟩, _, rfl, _, rfl, _, rfl, by show 3 ≤ sizeLine; decide, fun tq htq => ?_⟩
    have s8 := same_new (o := .tup [.str st, .str go, .int le]) htq
    have g8 := upd_same (H := H7) (a := tq) (o := .tup [.str st, .str go, .int le])
    have s58 := s57.trans s8
    generalize upd H7 tq (.tup [.str st, .str go, .int le]) = H8 at s8 g8 s58 ⊢
    have h58 := s58 _ _ h5
    refine ⟨rl, _, _, rfl, rfl, h58, small1000 (by rw [wr.len]; lia), zs ++ [.ref tq], w ++ [(st, go, le)], _, _, _, _, _, _, _, _, rfl, upd_same, ?_, by rw [List.length_append]; show _ + 1 ≤ _; lia, fun q hq => ?_, fun j n h1 h2 h3 => ?_, fun b o e => ?_⟩
    ·exact ((wr.stay fun b l e => s58 _ _ e).stay (tk_lst h58)).snoc rfl (tk_lst h58 _ _ g8)
    ·rcases List.mem_append.mp hq with z | z
     ·exact okw q z
     ·rw [List.mem_singleton.mp z]
      refine ⟨le1, mst, mgo, fun u v e1 e2 => ?_⟩
      rw [hvs] at e1
      rw [hvg] at e2
      cases e1
      cases e2
      show vg ≤ vs + le
      lia
    ·obtain ⟨q, hq, e⟩ := rwm j n h1 h2 h3
     exact ⟨q, List.mem_append_left _ hq, e⟩
    ·rw [upd_ne (ne_of_none e hrl)]; exact s58 _ _ (s5 _ _ e)
   ·exact ⟨zs, w, _, _, _, _, _, _, _, _, rfl, h57, wr.stay (fun b l e => s57 _ _ e), by lia, okw, rwm, s5.trans s57⟩
  ·rintro σ H5 ⟨zs, w, o4, o5, o6, o7, o8, o9, o10, o11, rfl, h5, wr, lw, okw, rwm, s5⟩
   exact ⟨_, rfl, kQ rl zs w H5 h5 wr okw rwm (by lia) hrl s5⟩
end
end Kx
end
section
set_option linter.all false
set_option maxRecDepth 100000
set_option maxHeartbeats 4000000
namespace Kx
open PySem L2
section
variable {P : Program} {w : World} {K : PySem.W.Frag} {mg : Str → Option Value} {base : Heap}
open Hm
theorem ix_strs {ns : List Str} {k : Nat} {n : Str} (h : ns[k]? = some n) : atI (ns.map V.str) (k : Int) = some (.str n) := atI_nat (by rw [List.getElem?_map, h]; rfl)
theorem not_shown {w : Wb.Web} {first n : Str} {far t : Tb} (FO : Wb.FarOk w first far) (hw : ∀ r ∈ w, 1 ≤ r.2.2) (nd : (t.map (·.1)).Nodup) (h : Gm.dget t n ≠ Gm.dget far n) {b : Bool} (hb : b = true ↔ Wb.ShownP w first t) : b = false := by
 cases b with
 | false => rfl
 | true => exact absurd ((Wb.ShownP.farOk (hb.mp rfl) hw nd).one FO hw n) h
theorem cutV_take {xs : List V} {k : Nat} (h : k ≤ xs.length) : cutV xs none (some (k : Int)) = xs.take k := by
 unfold cutV
 rw [HT.sIx_nat, Nat.min_eq_left h]
 show (xs.drop 0).take (k - 0) = _
 rw [List.drop_zero, Nat.sub_zero]
abbrev sLaw : Stmt := top 30
theorem scLaw : FnScope ["script", "head", "many", "names", "kind", "far", "k", "number", "behind", "rows", "web", "ahead", "start", "goal", "length", "name"] ["script"] (defScope sLaw) := ⟨rfl, rfl, rfl, (by simp only [List.nodup_cons, List.mem_cons, List.not_mem_nil, or_false, not_or, List.nodup_nil, and_true, not_false_eq_true]; (repeat' apply And.intro); all_goals decide +kernel), rfl, by decide +kernel, by decide +kernel⟩
def spLaw (K : PySem.W.Frag) : Sp := fun vs H Q _ => ∃ (a : Addr) (ns : List Int), vs = [.ref a] ∧ SqL K H a (ns.map V.int) ∧ ns.length ≤ 63 ∧ ∀ H', Q (.bl true) H'
theorem ok_law {f a_law_number a_law_names a_law_planted a_law_order anearest alengths_shown : Addr} {fd f_law_number f_law_names f_law_planted f_law_order fnearest flengths_shown : FuncData} (F : Fun K "law" "law" sLaw f fd) (T : Bl mg) (z_min : mg "min" = none) (z_dict : mg "dict" = none)
  (G_law_number : FnOk P w K mg base CX0 1 a_law_number f_law_number ["script", "k"] (spNumber K)) (D_law_number : Nm K mg "_law_number" a_law_number f_law_number ["script", "k"])
  (G_law_names : FnOk P w K mg base CX0 2 a_law_names f_law_names ["script", "start", "many"] (spWNames K)) (D_law_names : Nm K mg "_law_names" a_law_names f_law_names ["script", "start", "many"])
  (G_law_planted : FnOk P w K mg base CX0 2 a_law_planted f_law_planted ["script", "names", "far"] (spPlanted K)) (D_law_planted : Nm K mg "_law_planted" a_law_planted f_law_planted ["script", "names", "far"])
  (G_law_order : FnOk P w K mg base CX0 1 a_law_order f_law_order ["number", "things"] spOrder34) (D_law_order : Nm K mg "_law_order" a_law_order f_law_order ["number", "things"])
  (Gnearest : FnOk P w K mg base CX0 7 anearest fnearest ["web", "first"] (spNearest K)) (Dnearest : Nm K mg "nearest" anearest fnearest ["web", "first"])
  (Glengths_shown : FnOk P w K mg base CX0 3 alengths_shown flengths_shown ["web", "first", "lengths"] (spLShown K)) (Dlengths_shown : Nm K mg "lengths_shown" alengths_shown flengths_shown ["web", "first", "lengths"]) :
  FnOk P w K mg base CX0 8 f fd ["script"] (spLaw K) := by
 have sc := scLaw
 refine F.okQ scLaw (fun vs H Q E h => ?_) (fun cdv A outer s H vs Q E hr h => ?_)
 ·obtain ⟨a, ns, rfl, _⟩ := h
  rfl
 ·obtain ⟨a, ns, rfl, hS, hn, k⟩ := h
  have hu := hr.units0
  have hu1 := hr.u100
  have t1 : ∀ {H' : Hp}, Same H H' → SqL K H' a (ns.map V.int) := fun k => hS.imp (fun z => z.imp (k _ _) (fun ⟨o, e⟩ => ⟨o, k _ _ e⟩)) id
  refine ⟨_, (qss_cons (qs_set (i := 1) sc.nd rfl (Or.inl rfl) (qe_call G_law_number (hr.mono (by decide)) rfl D_law_number.m D_law_number.k D_law_number.b .nil pass0 (qa_cons (qv 0) (qa_cons qe_int qa_nil))))
   (qss_cons (qs_set (i := 2) sc.nd rfl (Or.inl rfl) (qe_op op_add qe_int (qe_op op_mod (qv 1) qe_int)))
   (qss_cons (qs_ifJ (qt_cmpR op_eq (qe_op op_mod (qe_op op_fdivB (qv 1) qe_int) qe_int) qe_int (nomark _)) (qss_one (qs_set (i := 2) sc.nd rfl (Or.inl rfl) (qe_op op_add qe_int (qe_op op_mod (qe_op op_fdivB (qv 1) qe_int) qe_int)))) qss_nil)
   (qss_cons (qs_set (i := 3) sc.nd rfl (Or.inl rfl) (qe_call G_law_names (hr.mono (by decide)) rfl D_law_names.m D_law_names.k D_law_names.b .nil pass0 (qa_cons (qv 0) (qa_cons qe_int (qa_cons (qe_op op_add (qv 2) qe_int) qa_nil)))))
   (qss_cons (qs_set (i := 4) sc.nd rfl (Or.inl rfl) (qe_op op_mod (qe_op op_add (qe_op op_fdivB (qv 1) qe_int) qe_int) qe_int))
   (qss_cons (qs_set (i := 5) sc.nd rfl (Or.inl rfl) (qe_disp1 (qe_ix ix_list (qv 3) qe_int (fun _ _ => rfl)) qe_int))
   (qss_cons (qs_for PassesOwn.never rfl (qi_range2 rfl T.z_range (qa_cons qe_int (qa_cons (qv 2) qa_nil))) (qg_name (i := 6) sc.nd rfl (Or.inl rfl)) (qss_cons (qs_set (i := 7) sc.nd rfl (Or.inl rfl) (qe_call G_law_number (hr.mono (by decide)) rfl D_law_number.m D_law_number.k D_law_number.b .nil pass0 (qa_cons (qv 0) (qa_cons (qe_op op_add qe_int (qv 6)) qa_nil))))
   (qss_cons (qs_set (i := 8) sc.nd rfl (Or.inl rfl) (qe_op op_sub (qe_op op_add (qe_dget (hu_of hr) (qv 5) (qe_ix ix_list (qv 3) (qe_op op_sub (qv 6) qe_int) (fun _ _ => rfl)) (fun _ _ => rfl)) (qe_op op_mul (qe_op op_add qe_int (qv 7)) (qe_op op_pow qe_int qe_int))) qe_int))
   (qss_one (qs_dput (hu_of hr) (qv 5) (qe_ix ix_list (qv 3) (qv 6) (fun _ _ => rfl)) (qe_ix ix_list (qe_lst (qa_cons (qe_op op_add qe_int (qe_op op_mod (qv 7) qe_int)) (qa_cons (qe_op op_add qe_int (qv 7)) (qa_cons (qe_op op_mul (qe_op op_add qe_int (qv 7)) (qe_op op_pow qe_int qe_int)) (qa_cons (qv 8) qa_nil))))) (qv 4) (fun _ _ => rfl)) rfl)))))
   (qss_cons (qs_set (i := 9) sc.nd rfl (Or.inl rfl) (qe_call G_law_planted (hr.mono (by decide)) rfl D_law_planted.m D_law_planted.k D_law_planted.b .nil pass0 (qa_cons (qv 0) (qa_cons (qe_slice sl_list (qv 3) qo_none (qo_some (qv 2))) (qa_cons (qv 5) qa_nil)))))
   (qss_cons (qs_for PassesOwn.never rfl (qi_range1 rfl T.z_range (qa_cons (qe_op op_mul qe_int (qe_callTy call_int1 (by rfl) T.z_int (by decide +kernel) (qa_cons (qe_cmpR op_eq (qe_op op_mod (qe_op op_fdivB (qv 1) qe_int) qe_int) qe_int (nomark _)) qa_nil))) qa_nil)) (qg_name (i := 6) sc.nd rfl (Or.inl rfl)) (qss_one (qs_expr (qe_bm PySem.F.plainAttrs_list PySem.F.slot_list_append PySem.F.type_list_append mt_append (qv 9) (qa_cons (qe_tup (qa_cons (qe_ix ix_list (qv 3) (qe_op op_add (qv 2) (qv 6)) (fun _ _ => rfl)) (qa_cons (qe_ix ix_list (qv 3) (qe_op op_mod (qe_call G_law_number (hr.mono (by decide)) rfl D_law_number.m D_law_number.k D_law_number.b .nil pass0 (qa_cons (qv 0) (qa_cons (qe_op op_add qe_int (qv 6)) qa_nil))) (qv 2)) (fun _ _ => rfl)) (qa_cons (qe_op op_add qe_int (qv 6)) qa_nil)))) qa_nil)))))
   (qss_cons (qs_set (i := 10) sc.nd rfl (Or.inl rfl) (qe_callTy call_tuple_of (by rfl) T.z_tuple (by decide +kernel) (qa_cons (qe_call G_law_order (hr.mono (by decide)) rfl D_law_order.m D_law_order.k D_law_order.b .nil pass0 (qa_cons (qe_call G_law_number (hr.mono (by decide)) rfl D_law_number.m D_law_number.k D_law_number.b .nil pass0 (qa_cons (qv 0) (qa_cons qe_int qa_nil))) (qa_cons (qv 9) qa_nil))) qa_nil)))
   (qss_cons (qs_set (i := 11) sc.nd rfl (Or.inl rfl) qe_dnewK)
   (qss_cons (qs_for PassesOwn.never rfl (qi_tup (qv 10)) (qg_tup rfl (qgs_cons (qg_name (i := 12) sc.nd rfl (Or.inl rfl)) (qgs_cons (qg_name (i := 13) sc.nd rfl (Or.inl rfl)) (qgs_cons (qg_name (i := 14) sc.nd rfl (Or.inl rfl)) qgs_nil)))) (qss_one (qs_if (QW.pt (qw_and (qt_din (hu_of hr) (qv 12) (qv 5)) (qw_and (qt_cmpR op_ne (qv 13) (qe_ix ix_list (qv 3) qe_int (fun _ _ => rfl)) (nomark _)) (qw_and1 (qt_cmpR op_eq (qe_op op_add (qe_dget (hu_of hr) (qv 5) (qv 12) (fun _ _ => rfl)) (qv 14)) (qe_dget (hu_of hr) (qv 5) (qv 13) (fun _ _ => rfl)) (nomark _)))))) (qss_one (qs_dput (hu_of hr) (qv 11) (qv 13) (qe_callB (call_minS2 rfl) (by rfl) z_min (by decide +kernel) (qa_cons (qe_dget2 (hu_of hr) (qv 11) (qv 13) (qv 12) ⟨rfl, rfl, rfl, rfl⟩) (qa_cons (qv 12) qa_nil))) rfl)) qss_nil)))
   (qss_cons (qs_if (QW.pt (qw_or (qt_cmpR (op_neDD hu1) (qe_call Gnearest (hr.mono (by decide)) rfl Dnearest.m Dnearest.k Dnearest.b .nil pass0 (qa_cons (qv 10) (qa_cons (qe_ix ix_list (qv 3) qe_int (fun _ _ => rfl)) qa_nil))) (qe_tup (qa_cons (qv 5) (qa_cons (qv 11) qa_nil))) (nomark _)) (qw_or1 (qt_cmpR op_isnotB (qe_call Glengths_shown (hr.mono (by decide)) rfl Dlengths_shown.m Dlengths_shown.k Dlengths_shown.b .nil pass0 (qa_cons (qv 10) (qa_cons (qe_ix ix_list (qv 3) qe_int (fun _ _ => rfl)) (qa_cons (qe_callTy call_dictC (by rfl) z_dict (by decide +kernel) (qa_cons (qv 5) qa_nil)) qa_nil)))) qe_bl (nomark _))))) (qss_one (qs_ret qe_bl)) qss_nil)
   (qss_cons (qs_set (i := 15) sc.nd rfl (Or.inl rfl) (qe_ix ix_list (qv 3) (qe_op op_mod (qe_op op_fdivB (qv 1) qe_int) (qv 2)) (fun _ _ => rfl)))
   (qss_cons (qs_dput (hu_of hr) (qv 5) (qv 15) (qe_op op_add (qe_dget (hu_of hr) (qv 5) (qv 15) (fun _ _ => rfl)) qe_int) rfl)
   (qss_one (qs_ret (qe_not (qe_call Glengths_shown (hr.mono (by decide)) rfl Dlengths_shown.m Dlengths_shown.k Dlengths_shown.b .nil pass0 (qa_cons (qv 10) (qa_cons (qe_ix ix_list (qv 3) qe_int (fun _ _ => rfl)) (qa_cons (qv 5) qa_nil)))))))))))))))))))))), ?_⟩
  refine ⟨_, rfl, a, ns, 0, rfl, hS, hn, by decide, fun hd H1 hd0 hd1 s1 => ?_⟩
  refine ⟨_, rfl, _, _, rfl, rfl, (by show (0 : Int) < 12; decide), _, _, rfl, rfl, ?_⟩
  refine ⟨fun σ' H' => ∃ many : Nat, σ' = [some (.ref a), some (.int hd), some (.int many), none, none, none, none, none, none, none, none, none, none, none, none, none] ∧ H' = H1 ∧ 1 ≤ many ∧ many ≤ 40, ⟨_, rfl, _, _, rfl, rfl, ⟨by decide, by decide⟩, _, _, rfl, rfl, (by show (0 : Int) < 8; decide), rfl, _, rfl, ite2 (fun c => ?_) (fun c => ?_)⟩, ?_⟩
  ·have m0 : 0 ≤ hd / 96 % 40 := mod_lo (by decide)
   have m1 : hd / 96 % 40 < 40 := mod_hi (by decide)
   refine ⟨_, rfl, _, _, rfl, rfl, ⟨by decide, by decide⟩, _, _, rfl, rfl, (by show (0 : Int) < 40; decide), _, _, rfl, rfl, (1 + hd / 96 % 40).toNat, ?_, rfl, by lia, by lia⟩
   rw [Int.toNat_of_nonneg (by lia)]
   rfl
  ·have m0 : 0 ≤ hd % 12 := mod_lo (by decide)
   have m1 : hd % 12 < 12 := mod_hi (by decide)
   refine ⟨(1 + hd % 12).toNat, ?_, rfl, by lia, by lia⟩
   rw [Int.toNat_of_nonneg (by lia)]
   rfl
  rintro σ' H' ⟨many, rfl, rfl, lm1, lm2⟩
  have em2 : (many : Int) + 2 = ((many + 2 : Nat) : Int) := by lia
  refine ⟨_, rfl, _, rfl, _, _, rfl, rfl, a, ns, 10, many + 2, congrArg (fun z => [V.ref a, V.int 10, V.int z]) em2, t1 s1, hn, by decide, by lia, fun nl names H2 hnl lnn nd lns hnl0 s2 => ?_⟩
  have s12 := s1.trans s2
  refine ⟨_, rfl, _, _, rfl, rfl, ⟨by decide, by decide⟩, _, _, rfl, rfl, _, _, rfl, rfl, (by show (0 : Int) < 4; decide), ?_⟩
  have lmm : (names.map V.str).length = names.length := List.length_map ..
  obtain ⟨first, hf0⟩ : ∃ n, names[0]? = some n := ⟨_, List.getElem?_eq_getElem (by lia)⟩
  have key0 : 0 ≤ (hd / 4000 + 1) % 4 := mod_lo (by decide)
  have key1 : (hd / 4000 + 1) % 4 < 4 := mod_hi (by decide)
  refine fun fd_ hfd0 => ?_
  have s3' := same_new (o := .dK []) hfd0
  refine ⟨_, rfl, nl, _, _, _, rfl, rfl, SqL.of (s3' _ _ hnl), ix_strs (k := 0) hf0, upd_same, [(Sum.inr first, .int 0)], rfl, by show 1 ≤ 15; decide, ?_⟩
  rw [upd_upd, kvW_one]
  have s3 := same_new (o := .dK (kvW [(first, 0)])) hfd0
  have g3 := upd_same (H := H2) (a := fd_) (o := .dK (kvW [(first, 0)]))
  generalize upd H2 fd_ (.dK (kvW [(first, 0)])) = H3 at s3 g3 ⊢
  have hfH : H fd_ = none := by
   cases y : H fd_ with
   | none => rfl
   | some o => rw [s12 _ _ y] at hfd0; cases hfd0
  refine ⟨_, rfl, 1, many, rfl, ⟨by decide, by decide, by lia, by lia⟩, ?_⟩
  have en : ((many : Int) - 1).toNat = many - 1 := by lia
  rw [en]
  refine for_range (lo := 1) (n := many - 1) (fun i σ H4 => ∃ (t : Tb) (o6 o7 o8 : Option V), σ = [some (.ref a), some (.int hd), some (.int many), some (.ref nl), some (.int ((hd / 4000 + 1) % 4)), some (.ref fd_), o6, o7, o8, none, none, none, none, none, none, none] ∧ H4 fd_ = some (.dK (kvW t)) ∧ Wb.Pla names (1 + i) t ∧ H4 nl = some (.lst (names.map V.str)) ∧ Same H H4)
   ⟨_, none, none, none, rfl, g3, Wb.Pla.start hf0, s3 _ _ hnl, s12.trans s3⟩ ?_ ?_
  ·rintro i σ H4 hi ⟨t, o6, o7, o8, rfl, hf4, PL, hn4, s4⟩
   refine ⟨_, rfl, _, rfl, _, _, rfl, rfl, a, ns, _, rfl, t1 s4, hn, by lia, fun nu H5 n0 n1 s5 => ?_⟩
   have s45 := s4.trans s5
   have hn5 := s5 _ _ hn4
   have hf5 := s5 _ _ hf4
   obtain ⟨m, hm⟩ : ∃ n, names[i]? = some n := ⟨_, List.getElem?_eq_getElem (by lia)⟩
   obtain ⟨nk, hnk⟩ : ∃ n, names[1 + i]? = some n := ⟨_, List.getElem?_eq_getElem (by lia)⟩
   obtain ⟨u, hu'⟩ := PL.has (by lia) hm
   have u0 := PL.ge (by lia) hm hu'
   have ei : (1 : Int) + (i : Int) - 1 = (i : Int) := by lia
   have ei1 : (1 : Int) + (i : Int) = ((1 + i : Nat) : Int) := by lia
   refine ⟨_, rfl, _, rfl, _, rfl, _, _, rfl, rfl, nl, _, _, _, rfl, rfl, SqL.of hn5, (by rw [ei]; exact ix_strs hm), fd_, _, rfl, dget_k hf5 hu', _, rfl, _, _, rfl, rfl, _, _, rfl, rfl, ⟨by decide, by decide, by decide⟩, _, _, rfl, rfl, .inl ⟨by lia, by lia⟩, u, _, rfl, rfl, _, _, rfl, rfl, ?_⟩
   refine ⟨_, rfl, _, _, rfl, rfl, (by show (0 : Int) < 6; decide), _, _, rfl, rfl, _, rfl, _, _, rfl, rfl, _, rfl, _, _, rfl, rfl, _, _, rfl, rfl, ⟨by decide, by decide, by decide⟩, _, _, rfl, rfl, .inl ⟨by lia, by lia⟩, _, rfl, by show 4 ≤ sizeLine; decide, fun l6 hl6 => ?_⟩
   have s6 := same_new (o := .lst [.int (1 + nu % 6), .int (1 + nu), .int ((1 + nu) * (10 : Int) ^ (23 : Int).toNat), .int (u + (1 + nu) * (10 : Int) ^ (24 : Int).toNat - 1)]) hl6
   have g6 := upd_same (H := H5) (a := l6) (o := .lst [.int (1 + nu % 6), .int (1 + nu), .int ((1 + nu) * (10 : Int) ^ (23 : Int).toNat), .int (u + (1 + nu) * (10 : Int) ^ (24 : Int).toNat - 1)])
   generalize upd H5 l6 (.lst [.int (1 + nu % 6), .int (1 + nu), .int ((1 + nu) * (10 : Int) ^ (23 : Int).toNat), .int (u + (1 + nu) * (10 : Int) ^ (24 : Int).toNat - 1)]) = H6 at s6 g6 ⊢
   have k60 : 0 ≤ nu % 6 := mod_lo (by decide)
   have k61 : nu % 6 < 6 := mod_hi (by decide)
   have p23 : (10 : Int) ^ (23 : Int).toNat = 100000000000000000000000 := by decide +kernel
   have p24 : (10 : Int) ^ (24 : Int).toNat = 1000000000000000000000000 := by decide +kernel
   have p30 : (10 : Int) ^ 30 = 1000000000000000000000000000000 := by decide +kernel
   obtain ⟨v, ev, mv⟩ := atI_ex (l := ([.int (1 + nu % 6), .int (1 + nu), .int ((1 + nu) * (10 : Int) ^ (23 : Int).toNat), .int (u + (1 + nu) * (10 : Int) ^ (24 : Int).toNat - 1)] : List V)) (i := (hd / 4000 + 1) % 4) key0 key1
   obtain ⟨x, rfl, hx1, i0, m0, w0, hi0, hm0, hw0, d1, d2⟩ : ∃ z : Int, v = .int z ∧ 1 ≤ z ∧ ∃ (i0 : Nat) (m0 : Str) (w0 : Int), i0 < 1 + i ∧ names[i0]? = some m0 ∧ Gm.dget t m0 = some w0 ∧ 0 < z - w0 ∧ z - w0 < 10 ^ 30 := by
    simp only [List.mem_cons, List.not_mem_nil, or_false] at mv
    rcases mv with h | h | h | h
    ·exact ⟨_, h, by lia, 0, first, 0, by lia, hf0, PL.zero _ hf0, by lia, by rw [p30]; lia⟩
    ·exact ⟨_, h, by lia, 0, first, 0, by lia, hf0, PL.zero _ hf0, by lia, by rw [p30]; lia⟩
    ·exact ⟨_, h, by rw [p23]; lia, 0, first, 0, by lia, hf0, PL.zero _ hf0, by rw [p23]; lia, by rw [p23, p30]; lia⟩
    ·exact ⟨_, h, by rw [p24]; lia, i, m, u, by lia, hm, hu', by rw [p24]; lia, by rw [p24, p30]; lia⟩
   have lt : t.length ≤ 41 := by
    have := congrArg List.length PL.key
    rw [List.length_map, List.length_take] at this
    lia
   have lkt : (kvW t).length = t.length := kvW_len
   refine ⟨_, rfl, l6, _, _, _, rfl, rfl, SqL.of g6, ev, _, rfl, _, rfl, _, rfl, nl, _, _, _, rfl, rfl, SqL.of (s6 _ _ hn5), (by rw [ei1]; exact ix_strs hnk), fd_, _, rfl, DPut.k (k := Sum.inr nk) (s6 _ _ hf5) (small1000 (by lia)), ?_⟩
   rw [kvW_put]
   have hf6 := s6 _ _ hf5
   refine ⟨_, _, _, _, rfl, upd_same, ?_, ?_, fun b o e => ?_⟩
   ·have := PL.next nd hnk (by lia) hx1 hi0 hm0 hw0 d1 d2
    exact this
   ·rw [upd_ne (ne_of (s6 _ _ hn5) hf6 (by intro y; cases y))]; exact s6 _ _ hn5
   ·rw [upd_ne (ne_of_none e hfH)]; exact s6 _ _ (s45 _ _ e)
  rintro σ H4 ⟨far, o6, o7, o8, rfl, hf4, PL0, hn4, s4⟩
  have PL : Wb.Pla names many far := by
   have : 1 + (many - 1) = many := by lia
   rw [this] at PL0
   exact PL0
  have lt : far.length ≤ 41 := by
   have := congrArg List.length PL.key
   rw [List.length_map, List.length_take] at this
   lia
  have lkt : (kvW far).length = far.length := kvW_len
  refine ⟨_, rfl, _, rfl, _, rfl, _, rfl, nl, _, rfl, SqL.of hn4, fun sn hsn => ?_⟩
  rw [cutV_take (by rw [lmm]; lia), ← List.map_take]
  have s5 := same_new (o := .lst ((names.take many).map V.str)) hsn
  have g5 := upd_same (H := H4) (a := sn) (o := .lst ((names.take many).map V.str))
  generalize upd H4 sn (.lst ((names.take many).map V.str)) = H5 at s5 g5 ⊢
  refine ⟨_, rfl, a, sn, fd_, ns, names, many, far, rfl, t1 (s4.trans s5), hn, g5, by lia, lm1, by lia, s5 _ _ hf4, PL, fun rl zs w H6 hrl wr okw rww lw hrl0 s6 => ?_⟩
  have s46 := s5.trans s6
  have s06 := s4.trans s46
  have hn6 := s46 _ _ hn4
  have hf6 := s46 _ _ hf4
  have hrlH : H rl = none := by
   cases y : H rl with
   | none => rfl
   | some o => rw [s5 _ _ (s4 _ _ y)] at hrl0; cases hrl0
  have hrl4 : H4 rl = none := by
   cases y : H4 rl with
   | none => rfl
   | some o => rw [s5 _ _ y] at hrl0; cases hrl0
  have tksub : ∀ n, n ∈ names.take many → n ∈ names := fun n h => List.mem_of_mem_take h
  have W0 : Wb.PlaW names many far w := ⟨fun r hr => ⟨(okw r hr).1, tksub _ (okw r hr).2.1, (okw r hr).2.2⟩, rww⟩
  obtain ⟨nn, enn, lnn2⟩ : ∃ nn : Nat, (2 : Int) * (if decide (V.int (hd / 5 % 2) = V.int 0) = true then 1 else 0) = (nn : Int) ∧ nn ≤ 2 := by
   by_cases c : decide (V.int (hd / 5 % 2) = V.int 0) = true
   ·rw [if_pos c]; exact ⟨2, rfl, by lia⟩
   ·rw [if_neg c]; exact ⟨0, rfl, by lia⟩
  refine ⟨_, rfl, _, _, rfl, rfl, ⟨by decide, by decide⟩, _, _, rfl, rfl, (by show (0 : Int) < 2; decide), rfl, .inr ⟨_, rfl, _, _, rfl, rfl, .inl ⟨by decide, by decide⟩, ?_⟩⟩
  refine ⟨(nn : Int), congrArg (fun z => [V.int z]) enn, by lia, by lia, ?_⟩
  rw [Int.toNat_natCast]
  refine for_range (lo := 0) (n := nn) (fun i σ H7 => ∃ (zs : List V) (w : Wb.Web) (o6 : Option V), σ = [some (.ref a), some (.int hd), some (.int many), some (.ref nl), some (.int ((hd / 4000 + 1) % 4)), some (.ref fd_), o6, o7, o8, some (.ref rl), none, none, none, none, none, none] ∧ H7 rl = some (.lst zs) ∧ WR3 H7 zs w ∧ Wb.PlaW names many far w ∧ w.length ≤ 3 * many + i ∧ Same H4 H7)
   ⟨zs, w, _, rfl, hrl, wr, W0, by lia, s46⟩ ?_ ?_
  ·rintro i σ H7 hi ⟨zs, w, o6, rfl, h7, wr, WW, lw, s7⟩
   have s07 := s4.trans s7
   have hn7 := s7 _ _ hn4
   obtain ⟨nx, hnx⟩ : ∃ n, names[many + i]? = some n := ⟨_, List.getElem?_eq_getElem (by lia)⟩
   have exi : (many : Int) + (0 + (i : Int)) = ((many + i : Nat) : Int) := by lia
   refine ⟨_, rfl, .inl ⟨rfl, _, SqL.of h7⟩, _, rfl, _, rfl, _, rfl, _, _, rfl, rfl, nl, _, _, _, rfl, rfl, SqL.of hn7, (by rw [exi]; exact ix_strs hnx), _, rfl, _, rfl, _, rfl, _, _, rfl, rfl, a, ns, _, rfl, t1 s07, hn, by lia, fun r H8 r0 r1 s8 => ?_⟩
   have m0 : 0 ≤ r % (many : Int) := mod_lo (by lia)
   have m1 : r % (many : Int) < many := mod_hi (by lia)
   obtain ⟨g, hg⟩ : ∃ n, names[(r % (many : Int)).toNat]? = some n := ⟨_, List.getElem?_eq_getElem (by lia)⟩
   have s78 := s7.trans s8
   have h78 := s8 _ _ h7
   refine ⟨_, rfl, _, _, rfl, rfl, (by show (0 : Int) < many; lia), nl, _, _, _, rfl, rfl, SqL.of (s8 _ _ hn7), (by have := ix_strs hg; rw [Int.toNat_of_nonneg m0] at this; exact this), _, rfl, _, _, rfl, rfl, by show 3 ≤ sizeLine; decide, fun tq htq => ?_⟩
   have s9 := same_new (o := .tup [.str nx, .str g, .int (1 + (0 + (i : Int)))]) htq
   have g9 := upd_same (H := H8) (a := tq) (o := .tup [.str nx, .str g, .int (1 + (0 + (i : Int)))])
   generalize upd H8 tq (.tup [.str nx, .str g, .int (1 + (0 + (i : Int)))]) = H9 at s9 g9 ⊢
   have s89 := s8.trans s9
   have h79 := s89 _ _ h7
   refine ⟨rl, _, _, rfl, rfl, h79, small1000 (by rw [wr.len]; lia), zs ++ [.ref tq], w ++ [(nx, g, 1 + (0 + (i : Int)))], _, rfl, upd_same, ?_, WW.snoc ⟨by show 1 ≤ 1 + (0 + (i : Int)); lia, List.mem_of_getElem? hnx, ?_, fun u v e1 _ => ?_⟩, by rw [List.length_append]; show _ + 1 ≤ _; lia, fun b o e => ?_⟩
   ·exact ((wr.stay fun b l e => s89 _ _ e).stay (tk_lst h79)).snoc rfl (tk_lst h79 _ _ g9)
   ·refine List.mem_of_getElem? (i := (r % (many : Int)).toNat) ?_
    rw [List.getElem?_take, if_pos (by lia)]
    exact hg
   ·exfalso
    have hin : nx ∈ far.map (·.1) := List.mem_map.mpr ⟨_, Gm.dget_some e1, rfl⟩
    rw [PL.key] at hin
    obtain ⟨j, hj, ej⟩ := List.getElem_of_mem hin
    rw [List.length_take] at hj
    rw [List.getElem_take] at ej
    obtain ⟨b1, b2⟩ := List.getElem?_eq_some_iff.mp hnx
    have hj' : j < names.length := by lia
    have := (List.getElem_inj (h₀ := hj') (h₁ := b1) nd).mp (ej.trans b2.symm)
    lia
   ·rw [upd_ne (ne_of_none e hrl4)]; exact s89 _ _ (s7 _ _ e)
  rintro σ H7 ⟨zs, w, o6, rfl, h7, wr, WW, lw, s7⟩
  have s07 := s4.trans s7
  refine ⟨_, rfl, a, ns, 2, rfl, t1 s07, hn, by decide, fun r2 H8 r20 r21 s8 => ?_⟩
  refine ⟨_, rfl, r2, rl, zs, rfl, r20, s8 _ _ h7, by rw [wr.len]; lia, fun ol ys H9 hol pm s9 => ?_⟩
  refine ⟨ol, ys, rfl, .inl ⟨SqL.of hol, fun q hq => ?_⟩⟩
  have sA := same_new (o := .tup ys) hq
  have gA := upd_same (H := H9) (a := q) (o := .tup ys)
  have s7A := (s8.trans s9).trans sA
  generalize upd H9 q (.tup ys) = HA at sA gA s7A ⊢
  obtain ⟨v, wrA, pmv⟩ := perm_wr pm (wr.stay fun b l e => s7A _ _ e)
  have WV := WW.congr fun r => pmv.mem_iff.symm
  have FO : Wb.FarOk v first far := PL.far nd hf0 WV
  have lv : v.length ≤ 130 := by rw [pmv.length_eq]; lia
  have hv1 : ∀ r ∈ v, 1 ≤ r.2.2 := fun r hr => (WV.ok r hr).1
  have hv2 : ∀ r ∈ v, 1 ≤ r.2.2 ∧ r.1.length ≤ 1000 ∧ r.2.1.length ≤ 1000 := fun r hr => by
   obtain ⟨h1, h2, h3, _⟩ := WV.ok r hr
   have := lns _ h2
   have := lns _ (tksub _ h3)
   exact ⟨h1, by lia, by lia⟩
  have lfi : first.length ≤ 1000 := by have := lns _ (List.mem_of_getElem? hf0); lia
  have s4A := s7.trans s7A
  have hfA := s4A _ _ hf4
  have hnA := s4A _ _ hn4
  refine fun ad had => ?_
  have sB := same_new (o := .dK []) had
  have gB := upd_same (H := HA) (a := ad) (o := .dK [])
  have hfB := sB _ _ hfA
  have hnB := sB _ _ hnA
  have gqB := sB _ _ gA
  have wrB := wrA.stay (H' := upd HA ad (.dK [])) fun b l e => sB _ _ e
  have nfa : fd_ ≠ ad := ne_of_none hfA had
  have had4 : H4 ad = none := by
   cases y : H4 ad with
   | none => rfl
   | some o => rw [s4A _ _ y] at had; cases had
  generalize upd HA ad (.dK []) = HB at sB gB hfB hnB gqB wrB ⊢
  refine ⟨_, rfl, q, rfl, ⟨_, SqT.of gqB⟩, for_tup (K := K) (xs := ys) (fun i σ HC => ∃ (ah : List (Str × Str)) (o12 o13 o14 : Option V), σ = [some (.ref a), some (.int hd), some (.int many), some (.ref nl), some (.int ((hd / 4000 + 1) % 4)), some (.ref fd_), o6, o7, o8, some (.ref rl), some (.ref q), some (.ref ad), o12, o13, o14, none] ∧ HC ad = some (.dK (kvS ah)) ∧ Wb.WaysI far ah (v.take i) ∧ ah.length ≤ i ∧ ∀ b u, b ≠ ad → HB b = some u → HC b = some u)
   ⟨[], none, none, none, rfl, gB, Wb.WaysI.nil, Nat.le_refl _, fun b u _ e => e⟩ (fun i σ HC _ ⟨_, _, _, _, _, _, _, _, z⟩ => SqT.of (z _ _ (ne_of gqB gB (by intro y; cases y)) gqB)) ?_ ?_⟩
  ·rintro i x σ HC hx ⟨ah, o12, o13, o14, rfl, hA, WI, la, kC⟩
   obtain ⟨r, er, c, rfl, hc⟩ := paired_at wrB hx
   have rm : r ∈ v := List.mem_of_getElem? er
   have li := (List.getElem?_eq_some_iff.mp er).1
   have hcC := kC _ _ (ne_of hc gB (by intro y; cases y)) hc
   have hfC := kC _ _ nfa hfB
   have hnC := kC _ _ (ne_of hnB gB (by intro y; cases y)) hnB
   have tw : v.take (i + 1) = v.take i ++ [r] := by rw [List.take_succ, er]; rfl
   refine ⟨c, _, rfl, SqT.of hcC, rfl, _, _, rfl, _, _, rfl, _, _, rfl, rfl, ?_⟩
   have skip : ¬ Wb.Exact far r → ∃ (ah : List (Str × Str)) (o12 o13 o14 : Option V), ([some (.ref a), some (.int hd), some (.int many), some (.ref nl), some (.int ((hd / 4000 + 1) % 4)), some (.ref fd_), o6, o7, o8, some (.ref rl), some (.ref q), some (.ref ad), some (.str r.1), some (.str r.2.1), some (.int r.2.2), none] : St) = [some (.ref a), some (.int hd), some (.int many), some (.ref nl), some (.int ((hd / 4000 + 1) % 4)), some (.ref fd_), o6, o7, o8, some (.ref rl), some (.ref q), some (.ref ad), o12, o13, o14, none] ∧ HC ad = some (.dK (kvS ah)) ∧ Wb.WaysI far ah (v.take (i + 1)) ∧ ah.length ≤ i + 1 ∧ ∀ b u, b ≠ ad → HB b = some u → HC b = some u := fun h => ⟨ah, _, _, _, rfl, hA, by rw [tw]; exact WI.skip h, by lia, kC⟩
   refine ⟨_, rfl, _, rfl, fd_, _, rfl, DGet.k (k := Sum.inr r.1) hfC, _, rfl, ?_⟩
   rw [kvW_get]
   cases e1 : Gm.dget far r.1 with
   | none => exact iteF (iteF (skip fun ⟨u, h, _⟩ => by rw [e1] at h; cases h))
   | some u =>
   refine iteT ?_
   refine ⟨_, rfl, _, rfl, nl, _, _, _, rfl, rfl, SqL.of (hnC), ix_strs (k := 0) hf0, rfl, _, rfl, ite2 (fun c1 => ?_) (fun c1 => ?_)⟩
   rotate_left
   ·have eg : r.2.1 = first := by simpa using c1
    exact iteF (skip (FO.noFirst hv1 rm eg))
   obtain ⟨x, hx1, hx2⟩ := FO.clo r rm u e1
   refine ⟨_, rfl, _, rfl, fd_, _, rfl, dget_k hfC e1, _, rfl, u, r.2.2, rfl, rfl, _, rfl, _, rfl, fd_, _, rfl, dget_k hfC hx1, rfl, _, rfl, ite2 (fun c2 => ?_) (fun c2 => ?_)⟩
   ·have ex : Wb.Exact far r := ⟨u, e1, by rw [hx1]; exact congrArg some (V.int.inj (of_decide_eq_true c2)).symm⟩
    have ev : (valV (kvS ah) (Sum.inr r.2.1)).getD (.str r.1) = .str ((Gm.dget ah r.2.1).getD r.1) := by
     rw [kvS_get]
     cases Gm.dget ah r.2.1 <;> rfl
    have lkS : (kvS ah).length = ah.length := kvS_len
    refine ⟨_, rfl, ad, rfl, .inl ⟨_, .inl hA⟩, _, rfl, _, rfl, _, DGet.k (k := Sum.inr r.2.1) hA, _, rfl, _, r.1, congrArg (fun z => [z, V.str r.1]) ev, _, rfl, _, rfl, ad, _, rfl, DPut.k (k := Sum.inr r.2.1) hA (small1000 (by lia)), ?_⟩
    rw [kvS_put]
    refine ⟨_, _, _, _, rfl, upd_same, by rw [tw]; exact WI.step ex Wb.min_same, ?_, fun b u nb e => by rw [upd_ne nb]; exact kC b u nb e⟩
    have := Gm.dput_len (L := ah) (n := r.2.1) (b := (if slt r.1 ((Gm.dget ah r.2.1).getD r.1) = true then r.1 else (Gm.dget ah r.2.1).getD r.1))
    lia
   ·refine skip fun ⟨u2, h1, h2⟩ => c2 ?_
    rw [e1] at h1
    cases h1
    rw [hx1] at h2
    exact decide_eq_true (congrArg V.int (Option.some.inj h2).symm)
  rintro σ HC ⟨ah, o12, o13, o14, rfl, hA, WI, la, kC⟩
  rw [wrB.len, List.take_length] at WI
  have hfC := kC _ _ nfa hfB
  have hnC := kC _ _ (ne_of hnB gB (by intro y; cases y)) hnB
  have gqC := kC _ _ (ne_of gqB gB (by intro y; cases y)) gqB
  have wrC := wrB.stay (H' := HC) fun b l e => kC _ _ (ne_of e gB (by intro y; cases y)) e
  refine ⟨_, rfl, _, rfl, nl, _, _, _, rfl, rfl, SqL.of (hnC), ix_strs (k := 0) hf0, q, first, ys, v, rfl, SqT.of gqC, wrC, by lia, hv2, lfi, fun p1 d1 e1 f1 w1 HD _ _ _ hp1 hd1 he1 FO1 WI1 _ sD => ?_⟩
  refine ⟨_, rfl, _, rfl, by show 2 ≤ sizeLine; decide, fun t2 ht2 => ?_⟩
  have sE := same_new (o := .tup [.ref fd_, .ref ad]) ht2
  have gE := upd_same (H := HD) (a := t2) (o := .tup [.ref fd_, .ref ad])
  have sCE := sD.trans sE
  generalize upd HD t2 (.tup [.ref fd_, .ref ad]) = HE at sE gE sCE ⊢
  have eqF : ∀ n, Gm.dget f1 n = Gm.dget far n := FO1.one FO hv1
  refine ⟨p1, t2, _, _, _, _, rfl, rfl, SqT.of (sE _ _ hp1), SqT.of gE, ⟨d1, fd_, _, _, rfl, rfl, sE _ _ hd1, sCE _ _ hfC, sameD_W FO1.nd FO.nd eqF⟩, ⟨e1, ad, _, _, rfl, rfl, sE _ _ he1, sCE _ _ hA, sameD_S WI1.nd WI.nd (Wb.WaysI.one eqF WI1 WI)⟩, _, rfl, iteF ?_⟩
  refine ⟨_, rfl, _, rfl, nl, _, _, _, rfl, rfl, SqL.of (sCE _ _ hnC), ix_strs (k := 0) hf0, _, rfl, fd_, _, rfl, sCE _ _ hfC, fun c1 hc1 => ?_⟩
  have sF := same_new (o := .dK (kvW far)) hc1
  have gF := upd_same (H := HE) (a := c1) (o := .dK (kvW far))
  have sCF := sCE.trans sF
  generalize upd HE c1 (.dK (kvW far)) = HF at sF gF sCF ⊢
  refine ⟨q, c1, first, ys, v, far, rfl, SqT.of (sCF _ _ gqC), wrC.stay (fun b l e => sCF _ _ e), by lia, gF, fun b HG hb sG => ?_⟩
  have eb : b = true := hb.mpr (FO.shown hv1)
  subst eb
  refine ⟨true, true, rfl, rfl, _, rfl, iteF ?_⟩
  have sCG := sCF.trans sG
  have hnG := sCG _ _ hnC
  have hfG := sCG _ _ hfC
  have m0 : 0 ≤ hd / 7 % (many : Int) := mod_lo (by lia)
  have m1 : hd / 7 % (many : Int) < many := mod_hi (by lia)
  obtain ⟨n, hn'⟩ : ∃ n, names[(hd / 7 % (many : Int)).toNat]? = some n := ⟨_, List.getElem?_eq_getElem (by lia)⟩
  obtain ⟨x, hx⟩ := PL.has (by lia) hn'
  refine ⟨_, rfl, _, rfl, _, _, rfl, rfl, ⟨by decide, by decide⟩, _, rfl, _, _, rfl, rfl, (by show (0 : Int) < many; lia), nl, _, _, _, rfl, rfl, SqL.of hnG, (by have := ix_strs hn'; rw [Int.toNat_of_nonneg m0] at this; exact this), ?_⟩
  refine ⟨_, rfl, _, rfl, fd_, _, rfl, dget_k hfG hx, _, _, rfl, rfl, _, rfl, _, rfl, fd_, _, rfl, DPut.k (k := Sum.inr n) hfG (small1000 (by lia)), ?_⟩
  rw [kvW_put]
  have gqG := tk_dK (u := .dK (kvW (Gm.dput far n (x + 1)))) hfG _ _ (sCG _ _ gqC)
  have wrG := (wrC.stay (fun b l e => sCG _ _ e)).stay (tk_dK (u := .dK (kvW (Gm.dput far n (x + 1)))) hfG)
  have hnI : (upd HG fd_ (.dK (kvW (Gm.dput far n (x + 1))))) nl = some (.lst (names.map V.str)) := by rw [upd_ne (ne_of hnG hfG (by intro y; cases y))]; exact hnG
  have gI := upd_same (H := HG) (a := fd_) (o := .dK (kvW (Gm.dput far n (x + 1))))
  generalize upd HG fd_ (.dK (kvW (Gm.dput far n (x + 1)))) = HI at gqG wrG hnI gI ⊢
  refine ⟨_, rfl, _, rfl, nl, _, _, _, rfl, rfl, SqL.of (hnI), ix_strs (k := 0) hf0, _, rfl, q, fd_, first, ys, v, _, rfl, SqT.of gqG, wrG, by lia, gI, fun b HJ hb sJ => ?_⟩
  have eb : b = false := not_shown (n := n) FO hv1 (Gm.dput_nd FO.nd) (by rw [tget_put FO.nd, if_pos rfl, hx]; intro z; have := Option.some.inj z; lia) hb
  subst eb
  exact ⟨_, rfl, k HJ⟩
end
end Kx
end
section
set_option linter.all false
set_option maxRecDepth 100000
set_option maxHeartbeats 4000000
namespace Kx
open PySem L2
section
variable {P : Program} {w : World} {K : PySem.W.Frag} {mg : Str → Option Value} {base : Heap}
theorem all_mk {l : PySem.W.OpenLaw} {w : World} {K : PySem.W.Frag} {h : Heap} {mg : Str → Option Value} {fa C CB CC CN f_exch f_lift f_lay f_ld f_cutf f_order f_ninit f_holds f_need f_free f_any f_stamped f_linit f_enter f_cut f_sweep f_first f_put f_change f_take2 f_many f_exact f_nearer f_byfrom f_going f_lshown f_come f_ways f_nearest f_number f_wnames f_order34 f_planted f_law : Addr} (X : K.In h) (G : h.Ns mainGlobals mg) (hfa : mg "law" = some (.ref fa))
   {od_exch an_exch od_lift an_lift od_lay an_lay od_ld an_ld od_cutf an_cutf od_order an_order od_ninit an_ninit od_holds an_holds od_need an_need od_free an_free od_any an_any od_stamped an_stamped od_linit an_linit od_enter an_enter od_cut an_cut od_sweep an_sweep od_first an_first od_put an_put od_change an_change od_take2 an_take2 od_many an_many od_exact an_exact od_nearer an_nearer od_byfrom an_byfrom od_going an_going od_lshown an_lshown od_come an_come od_ways an_ways od_nearest an_nearest od_number an_number od_wnames an_wnames od_order34 an_order34 od_planted an_planted od_law an_law : Option Addr} {sl_exch sl_lift sl_lay sl_ld sl_cutf sl_order sl_ninit sl_holds sl_need sl_free sl_any sl_stamped sl_linit sl_enter sl_cut sl_sweep sl_first sl_put sl_change sl_take2 sl_many sl_exact sl_nearer sl_byfrom sl_going sl_lshown sl_come sl_ways sl_nearest sl_number sl_wnames sl_order34 sl_planted sl_law : Array (Option Value)} {oc_exch kV_exch dc_exch pm_exch cd_exch ct_exch oc_lift kV_lift dc_lift pm_lift cd_lift ct_lift oc_lay kV_lay dc_lay pm_lay cd_lay ct_lay oc_ld kV_ld dc_ld pm_ld cd_ld ct_ld oc_cutf kV_cutf dc_cutf pm_cutf cd_cutf ct_cutf oc_order kV_order dc_order pm_order cd_order ct_order oc_ninit kV_ninit dc_ninit pm_ninit cd_ninit ct_ninit oc_holds kV_holds dc_holds pm_holds cd_holds ct_holds oc_need kV_need dc_need pm_need cd_need ct_need oc_free kV_free dc_free pm_free cd_free ct_free oc_any kV_any dc_any pm_any cd_any ct_any oc_stamped kV_stamped dc_stamped pm_stamped cd_stamped ct_stamped oc_linit kV_linit dc_linit pm_linit cd_linit ct_linit oc_enter kV_enter dc_enter pm_enter cd_enter ct_enter oc_cut kV_cut dc_cut pm_cut cd_cut ct_cut oc_sweep kV_sweep dc_sweep pm_sweep cd_sweep ct_sweep oc_first kV_first dc_first pm_first cd_first ct_first oc_put kV_put dc_put pm_put cd_put ct_put oc_change kV_change dc_change pm_change cd_change ct_change oc_take2 kV_take2 dc_take2 pm_take2 cd_take2 ct_take2 oc_many kV_many dc_many pm_many cd_many ct_many oc_exact kV_exact dc_exact pm_exact cd_exact ct_exact oc_nearer kV_nearer dc_nearer pm_nearer cd_nearer ct_nearer oc_byfrom kV_byfrom dc_byfrom pm_byfrom cd_byfrom ct_byfrom oc_going kV_going dc_going pm_going cd_going ct_going oc_lshown kV_lshown dc_lshown pm_lshown cd_lshown ct_lshown oc_come kV_come dc_come pm_come cd_come ct_come oc_ways kV_ways dc_ways pm_ways cd_ways ct_ways oc_nearest kV_nearest dc_nearest pm_nearest cd_nearest ct_nearest oc_number kV_number dc_number pm_number cd_number ct_number oc_wnames kV_wnames dc_wnames pm_wnames cd_wnames ct_wnames oc_order34 kV_order34 dc_order34 pm_order34 cd_order34 ct_order34 oc_planted kV_planted dc_planted pm_planted cd_planted ct_planted oc_law kV_law dc_law pm_law cd_law ct_law : Value}
  (aC : PySem.W.nsIn K mainGlobals "Late" = some (some (.ref C)))
  (aCB : PySem.W.nsIn K mainGlobals "Named" = some (some (.ref CB)))
  (aCC : PySem.W.nsIn K mainGlobals "Clash" = some (some (.ref CC)))
  (aCN : PySem.W.nsIn K mainGlobals "NoThing" = some (some (.ref CN)))
  (a_exch : PySem.W.nsIn K mainGlobals "exchange" = some (some (.ref f_exch)))
  (l_exch : K.lookup f_exch = some ⟨oc_exch, od_exch, .func (PySem.W.fnOf "exchange" "exchange" (defArgs sExch) (defBody sExch) (defScope sExch) .none kV_exch dc_exch pm_exch an_exch cd_exch ct_exch), sl_exch⟩)
  (c_exch : PySem.W.codeIn K cd_exch "exchange" = true)
  (k_exch : PySem.W.keepIn K (.ref f_exch) = true)
  (a_lift : PySem.W.nsIn K mainGlobals "lift" = some (some (.ref f_lift)))
  (l_lift : K.lookup f_lift = some ⟨oc_lift, od_lift, .func (PySem.W.fnOf "lift" "lift" (defArgs sLift) (defBody sLift) (defScope sLift) .none kV_lift dc_lift pm_lift an_lift cd_lift ct_lift), sl_lift⟩)
  (c_lift : PySem.W.codeIn K cd_lift "lift" = true)
  (k_lift : PySem.W.keepIn K (.ref f_lift) = true)
  (a_lay : PySem.W.nsIn K mainGlobals "lay_in" = some (some (.ref f_lay)))
  (l_lay : K.lookup f_lay = some ⟨oc_lay, od_lay, .func (PySem.W.fnOf "lay_in" "lay_in" (defArgs sLay) (defBody sLay) (defScope sLay) .none kV_lay dc_lay pm_lay an_lay cd_lay ct_lay), sl_lay⟩)
  (c_lay : PySem.W.codeIn K cd_lay "lay_in" = true)
  (k_lay : PySem.W.keepIn K (.ref f_lay) = true)
  (a_ld : PySem.W.nsIn K mainGlobals "let_down" = some (some (.ref f_ld)))
  (l_ld : K.lookup f_ld = some ⟨oc_ld, od_ld, .func (PySem.W.fnOf "let_down" "let_down" (defArgs sLetDown) (defBody sLetDown) (defScope sLetDown) .none kV_ld dc_ld pm_ld an_ld cd_ld ct_ld), sl_ld⟩)
  (c_ld : PySem.W.codeIn K cd_ld "let_down" = true)
  (k_ld : PySem.W.keepIn K (.ref f_ld) = true)
  (a_cutf : PySem.W.nsIn K mainGlobals "cut_first" = some (some (.ref f_cutf)))
  (l_cutf : K.lookup f_cutf = some ⟨oc_cutf, od_cutf, .func (PySem.W.fnOf "cut_first" "cut_first" (defArgs sCut) (defBody sCut) (defScope sCut) .none kV_cutf dc_cutf pm_cutf an_cutf cd_cutf ct_cutf), sl_cutf⟩)
  (c_cutf : PySem.W.codeIn K cd_cutf "cut_first" = true)
  (k_cutf : PySem.W.keepIn K (.ref f_cutf) = true)
  (a_order : PySem.W.nsIn K mainGlobals "order" = some (some (.ref f_order)))
  (l_order : K.lookup f_order = some ⟨oc_order, od_order, .func (PySem.W.fnOf "order" "order" (defArgs sOrder) (defBody sOrder) (defScope sOrder) .none kV_order dc_order pm_order an_order cd_order ct_order), sl_order⟩)
  (c_order : PySem.W.codeIn K cd_order "order" = true)
  (k_order : PySem.W.keepIn K (.ref f_order) = true)
  (a_ninit : PySem.W.findCls K (.ref CB) (.type "type") "__init__" = some (.val (.ref f_ninit)))
  (l_ninit : K.lookup f_ninit = some ⟨oc_ninit, od_ninit, .func (PySem.W.fnOf "__init__" "Named.__init__" (defArgs sNInit) (defBody sNInit) (defScope sNInit) .none kV_ninit dc_ninit pm_ninit an_ninit cd_ninit ct_ninit), sl_ninit⟩)
  (c_ninit : PySem.W.codeIn K cd_ninit "Named.__init__" = true)
  (k_ninit : PySem.W.keepIn K (.ref f_ninit) = true)
  (a_holds : PySem.W.findIn K (.ref C) "holds" = some (some (.ref f_holds)))
  (i_holds : PySem.W.isFn K (.ref f_holds) = true)
  (l_holds : K.lookup f_holds = some ⟨oc_holds, od_holds, .func (PySem.W.fnOf "holds" "Named.holds" (defArgs sHolds) (defBody sHolds) (defScope sHolds) .none kV_holds dc_holds pm_holds an_holds cd_holds ct_holds), sl_holds⟩)
  (c_holds : PySem.W.codeIn K cd_holds "Named.holds" = true)
  (k_holds : PySem.W.keepIn K (.ref f_holds) = true)
  (a_need : PySem.W.findIn K (.ref C) "need" = some (some (.ref f_need)))
  (i_need : PySem.W.isFn K (.ref f_need) = true)
  (l_need : K.lookup f_need = some ⟨oc_need, od_need, .func (PySem.W.fnOf "need" "Named.need" (defArgs sNeed) (defBody sNeed) (defScope sNeed) .none kV_need dc_need pm_need an_need cd_need ct_need), sl_need⟩)
  (c_need : PySem.W.codeIn K cd_need "Named.need" = true)
  (k_need : PySem.W.keepIn K (.ref f_need) = true)
  (a_free : PySem.W.findIn K (.ref C) "need_free" = some (some (.ref f_free)))
  (i_free : PySem.W.isFn K (.ref f_free) = true)
  (l_free : K.lookup f_free = some ⟨oc_free, od_free, .func (PySem.W.fnOf "need_free" "Named.need_free" (defArgs sFree) (defBody sFree) (defScope sFree) .none kV_free dc_free pm_free an_free cd_free ct_free), sl_free⟩)
  (c_free : PySem.W.codeIn K cd_free "Named.need_free" = true)
  (k_free : PySem.W.keepIn K (.ref f_free) = true)
  (a_any : PySem.W.findIn K (.ref C) "need_any" = some (some (.ref f_any)))
  (i_any : PySem.W.isFn K (.ref f_any) = true)
  (l_any : K.lookup f_any = some ⟨oc_any, od_any, .func (PySem.W.fnOf "need_any" "Named.need_any" (defArgs sAny) (defBody sAny) (defScope sAny) .none kV_any dc_any pm_any an_any cd_any ct_any), sl_any⟩)
  (c_any : PySem.W.codeIn K cd_any "Named.need_any" = true)
  (k_any : PySem.W.keepIn K (.ref f_any) = true)
  (a_stamped : PySem.W.findIn K (.ref C) "stamped" = some (some (.ref f_stamped)))
  (i_stamped : PySem.W.isFn K (.ref f_stamped) = true)
  (l_stamped : K.lookup f_stamped = some ⟨oc_stamped, od_stamped, .func (PySem.W.fnOf "stamped" "Named.stamped" (defArgs sStamped) (defBody sStamped) (defScope sStamped) .none kV_stamped dc_stamped pm_stamped an_stamped cd_stamped ct_stamped), sl_stamped⟩)
  (c_stamped : PySem.W.codeIn K cd_stamped "Named.stamped" = true)
  (k_stamped : PySem.W.keepIn K (.ref f_stamped) = true)
  (a_linit : PySem.W.findIn K (.ref C) "__init__" = some (some (.ref f_linit)))
  (i_linit : PySem.W.isFn K (.ref f_linit) = true)
  (l_linit : K.lookup f_linit = some ⟨oc_linit, od_linit, .func (PySem.W.fnOf "__init__" "Late.__init__" (defArgs sLInit) (defBody sLInit) (defScope sLInit) .none kV_linit dc_linit pm_linit an_linit cd_linit ct_linit), sl_linit⟩)
  (c_linit : PySem.W.codeIn K cd_linit "Late.__init__" = true)
  (k_linit : PySem.W.keepIn K (.ref f_linit) = true)
  (a_enter : PySem.W.findIn K (.ref C) "enter" = some (some (.ref f_enter)))
  (i_enter : PySem.W.isFn K (.ref f_enter) = true)
  (l_enter : K.lookup f_enter = some ⟨oc_enter, od_enter, .func (PySem.W.fnOf "enter" "Late.enter" (defArgs sEnter) (defBody sEnter) (defScope sEnter) .none kV_enter dc_enter pm_enter an_enter cd_enter ct_enter), sl_enter⟩)
  (c_enter : PySem.W.codeIn K cd_enter "Late.enter" = true)
  (k_enter : PySem.W.keepIn K (.ref f_enter) = true)
  (a_cut : PySem.W.findIn K (.ref C) "cut" = some (some (.ref f_cut)))
  (i_cut : PySem.W.isFn K (.ref f_cut) = true)
  (l_cut : K.lookup f_cut = some ⟨oc_cut, od_cut, .func (PySem.W.fnOf "cut" "Late.cut" (defArgs sCut2) (defBody sCut2) (defScope sCut2) .none kV_cut dc_cut pm_cut an_cut cd_cut ct_cut), sl_cut⟩)
  (c_cut : PySem.W.codeIn K cd_cut "Late.cut" = true)
  (k_cut : PySem.W.keepIn K (.ref f_cut) = true)
  (a_sweep : PySem.W.findIn K (.ref C) "sweep_if_due" = some (some (.ref f_sweep)))
  (i_sweep : PySem.W.isFn K (.ref f_sweep) = true)
  (l_sweep : K.lookup f_sweep = some ⟨oc_sweep, od_sweep, .func (PySem.W.fnOf "sweep_if_due" "Late.sweep_if_due" (defArgs sSweep) (defBody sSweep) (defScope sSweep) .none kV_sweep dc_sweep pm_sweep an_sweep cd_sweep ct_sweep), sl_sweep⟩)
  (c_sweep : PySem.W.codeIn K cd_sweep "Late.sweep_if_due" = true)
  (k_sweep : PySem.W.keepIn K (.ref f_sweep) = true)
  (a_first : PySem.W.findIn K (.ref C) "first_there" = some (some (.ref f_first)))
  (i_first : PySem.W.isFn K (.ref f_first) = true)
  (l_first : K.lookup f_first = some ⟨oc_first, od_first, .func (PySem.W.fnOf "first_there" "Late.first_there" (defArgs sFirst) (defBody sFirst) (defScope sFirst) .none kV_first dc_first pm_first an_first cd_first ct_first), sl_first⟩)
  (c_first : PySem.W.codeIn K cd_first "Late.first_there" = true)
  (k_first : PySem.W.keepIn K (.ref f_first) = true)
  (a_put : PySem.W.findIn K (.ref C) "put" = some (some (.ref f_put)))
  (i_put : PySem.W.isFn K (.ref f_put) = true)
  (l_put : K.lookup f_put = some ⟨oc_put, od_put, .func (PySem.W.fnOf "put" "Late.put" (defArgs sPutM) (defBody sPutM) (defScope sPutM) .none kV_put dc_put pm_put an_put cd_put ct_put), sl_put⟩)
  (c_put : PySem.W.codeIn K cd_put "Late.put" = true)
  (k_put : PySem.W.keepIn K (.ref f_put) = true)
  (a_change : PySem.W.findIn K (.ref C) "change" = some (some (.ref f_change)))
  (i_change : PySem.W.isFn K (.ref f_change) = true)
  (l_change : K.lookup f_change = some ⟨oc_change, od_change, .func (PySem.W.fnOf "change" "Late.change" (defArgs sChangeM) (defBody sChangeM) (defScope sChangeM) .none kV_change dc_change pm_change an_change cd_change ct_change), sl_change⟩)
  (c_change : PySem.W.codeIn K cd_change "Late.change" = true)
  (k_change : PySem.W.keepIn K (.ref f_change) = true)
  (a_take2 : PySem.W.findIn K (.ref C) "take" = some (some (.ref f_take2)))
  (i_take2 : PySem.W.isFn K (.ref f_take2) = true)
  (l_take2 : K.lookup f_take2 = some ⟨oc_take2, od_take2, .func (PySem.W.fnOf "take" "Late.take" (defArgs sTakeM) (defBody sTakeM) (defScope sTakeM) .none kV_take2 dc_take2 pm_take2 an_take2 cd_take2 ct_take2), sl_take2⟩)
  (c_take2 : PySem.W.codeIn K cd_take2 "Late.take" = true)
  (k_take2 : PySem.W.keepIn K (.ref f_take2) = true)
  (a_many : PySem.W.findIn K (.ref C) "many" = some (some (.ref f_many)))
  (i_many : PySem.W.isFn K (.ref f_many) = true)
  (l_many : K.lookup f_many = some ⟨oc_many, od_many, .func (PySem.W.fnOf "many" "Named.many" (defArgs sMany) (defBody sMany) (defScope sMany) .none kV_many dc_many pm_many an_many cd_many ct_many), sl_many⟩)
  (c_many : PySem.W.codeIn K cd_many "Named.many" = true)
  (k_many : PySem.W.keepIn K (.ref f_many) = true)
  (a_exact : PySem.W.nsIn K mainGlobals "is_exact" = some (some (.ref f_exact)))
  (l_exact : K.lookup f_exact = some ⟨oc_exact, od_exact, .func (PySem.W.fnOf "is_exact" "is_exact" (defArgs sExact) (defBody sExact) (defScope sExact) .none kV_exact dc_exact pm_exact an_exact cd_exact ct_exact), sl_exact⟩)
  (c_exact : PySem.W.codeIn K cd_exact "is_exact" = true)
  (k_exact : PySem.W.keepIn K (.ref f_exact) = true)
  (a_nearer : PySem.W.nsIn K mainGlobals "is_nearer" = some (some (.ref f_nearer)))
  (l_nearer : K.lookup f_nearer = some ⟨oc_nearer, od_nearer, .func (PySem.W.fnOf "is_nearer" "is_nearer" (defArgs sNearer) (defBody sNearer) (defScope sNearer) .none kV_nearer dc_nearer pm_nearer an_nearer cd_nearer ct_nearer), sl_nearer⟩)
  (c_nearer : PySem.W.codeIn K cd_nearer "is_nearer" = true)
  (k_nearer : PySem.W.keepIn K (.ref f_nearer) = true)
  (a_byfrom : PySem.W.nsIn K mainGlobals "by_from" = some (some (.ref f_byfrom)))
  (l_byfrom : K.lookup f_byfrom = some ⟨oc_byfrom, od_byfrom, .func (PySem.W.fnOf "by_from" "by_from" (defArgs sByFrom) (defBody sByFrom) (defScope sByFrom) .none kV_byfrom dc_byfrom pm_byfrom an_byfrom cd_byfrom ct_byfrom), sl_byfrom⟩)
  (c_byfrom : PySem.W.codeIn K cd_byfrom "by_from" = true)
  (k_byfrom : PySem.W.keepIn K (.ref f_byfrom) = true)
  (a_going : PySem.W.nsIn K mainGlobals "going_back" = some (some (.ref f_going)))
  (l_going : K.lookup f_going = some ⟨oc_going, od_going, .func (PySem.W.fnOf "going_back" "going_back" (defArgs sGoing) (defBody sGoing) (defScope sGoing) .none kV_going dc_going pm_going an_going cd_going ct_going), sl_going⟩)
  (c_going : PySem.W.codeIn K cd_going "going_back" = true)
  (k_going : PySem.W.keepIn K (.ref f_going) = true)
  (a_lshown : PySem.W.nsIn K mainGlobals "lengths_shown" = some (some (.ref f_lshown)))
  (l_lshown : K.lookup f_lshown = some ⟨oc_lshown, od_lshown, .func (PySem.W.fnOf "lengths_shown" "lengths_shown" (defArgs sLShown) (defBody sLShown) (defScope sLShown) .none kV_lshown dc_lshown pm_lshown an_lshown cd_lshown ct_lshown), sl_lshown⟩)
  (c_lshown : PySem.W.codeIn K cd_lshown "lengths_shown" = true)
  (k_lshown : PySem.W.keepIn K (.ref f_lshown) = true)
  (a_come : PySem.W.nsIn K mainGlobals "come_to" = some (some (.ref f_come)))
  (l_come : K.lookup f_come = some ⟨oc_come, od_come, .func (PySem.W.fnOf "come_to" "come_to" (defArgs sCome) (defBody sCome) (defScope sCome) .none kV_come dc_come pm_come an_come cd_come ct_come), sl_come⟩)
  (c_come : PySem.W.codeIn K cd_come "come_to" = true)
  (k_come : PySem.W.keepIn K (.ref f_come) = true)
  (a_ways : PySem.W.nsIn K mainGlobals "ways_of" = some (some (.ref f_ways)))
  (l_ways : K.lookup f_ways = some ⟨oc_ways, od_ways, .func (PySem.W.fnOf "ways_of" "ways_of" (defArgs sWays) (defBody sWays) (defScope sWays) .none kV_ways dc_ways pm_ways an_ways cd_ways ct_ways), sl_ways⟩)
  (c_ways : PySem.W.codeIn K cd_ways "ways_of" = true)
  (k_ways : PySem.W.keepIn K (.ref f_ways) = true)
  (a_nearest : PySem.W.nsIn K mainGlobals "nearest" = some (some (.ref f_nearest)))
  (l_nearest : K.lookup f_nearest = some ⟨oc_nearest, od_nearest, .func (PySem.W.fnOf "nearest" "nearest" (defArgs sNearest) (defBody sNearest) (defScope sNearest) .none kV_nearest dc_nearest pm_nearest an_nearest cd_nearest ct_nearest), sl_nearest⟩)
  (c_nearest : PySem.W.codeIn K cd_nearest "nearest" = true)
  (k_nearest : PySem.W.keepIn K (.ref f_nearest) = true)
  (a_number : PySem.W.nsIn K mainGlobals "_law_number" = some (some (.ref f_number)))
  (l_number : K.lookup f_number = some ⟨oc_number, od_number, .func (PySem.W.fnOf "_law_number" "_law_number" (defArgs sNumber) (defBody sNumber) (defScope sNumber) .none kV_number dc_number pm_number an_number cd_number ct_number), sl_number⟩)
  (c_number : PySem.W.codeIn K cd_number "_law_number" = true)
  (k_number : PySem.W.keepIn K (.ref f_number) = true)
  (a_wnames : PySem.W.nsIn K mainGlobals "_law_names" = some (some (.ref f_wnames)))
  (l_wnames : K.lookup f_wnames = some ⟨oc_wnames, od_wnames, .func (PySem.W.fnOf "_law_names" "_law_names" (defArgs sWNames) (defBody sWNames) (defScope sWNames) .none kV_wnames dc_wnames pm_wnames an_wnames cd_wnames ct_wnames), sl_wnames⟩)
  (c_wnames : PySem.W.codeIn K cd_wnames "_law_names" = true)
  (k_wnames : PySem.W.keepIn K (.ref f_wnames) = true)
  (a_order34 : PySem.W.nsIn K mainGlobals "_law_order" = some (some (.ref f_order34)))
  (l_order34 : K.lookup f_order34 = some ⟨oc_order34, od_order34, .func (PySem.W.fnOf "_law_order" "_law_order" (defArgs sOrder34) (defBody sOrder34) (defScope sOrder34) .none kV_order34 dc_order34 pm_order34 an_order34 cd_order34 ct_order34), sl_order34⟩)
  (c_order34 : PySem.W.codeIn K cd_order34 "_law_order" = true)
  (k_order34 : PySem.W.keepIn K (.ref f_order34) = true)
  (a_planted : PySem.W.nsIn K mainGlobals "_law_planted" = some (some (.ref f_planted)))
  (l_planted : K.lookup f_planted = some ⟨oc_planted, od_planted, .func (PySem.W.fnOf "_law_planted" "_law_planted" (defArgs sPlanted) (defBody sPlanted) (defScope sPlanted) .none kV_planted dc_planted pm_planted an_planted cd_planted ct_planted), sl_planted⟩)
  (c_planted : PySem.W.codeIn K cd_planted "_law_planted" = true)
  (k_planted : PySem.W.keepIn K (.ref f_planted) = true)
  (a_law : PySem.W.nsIn K mainGlobals "law" = some (some (.ref f_law)))
  (l_law : K.lookup f_law = some ⟨oc_law, od_law, .func (PySem.W.fnOf "law" "law" (defArgs sLaw) (defBody sLaw) (defScope sLaw) .none kV_law dc_law pm_law an_law cd_law ct_law), sl_law⟩)
  (c_law : PySem.W.codeIn K cd_law "law" = true)
  (k_law : PySem.W.keepIn K (.ref f_law) = true)
  (z_len : PySem.W.nsIn K mainGlobals "len" = some none)
  (z_sum : PySem.W.nsIn K mainGlobals "sum" = some none)
  (z_abs : PySem.W.nsIn K mainGlobals "abs" = some none)
  (z_range : PySem.W.nsIn K mainGlobals "range" = some none)
  (z_list : PySem.W.nsIn K mainGlobals "list" = some none)
  (z_tuple : PySem.W.nsIn K mainGlobals "tuple" = some none)
  (z_int : PySem.W.nsIn K mainGlobals "int" = some none)
  (z_bool : PySem.W.nsIn K mainGlobals "bool" = some none)
  (z_sorted : PySem.W.nsIn K mainGlobals "sorted" = some none)
  (z_isinstance : PySem.W.nsIn K mainGlobals "isinstance" = some none)
  (z_min : PySem.W.nsIn K mainGlobals "min" = some none)
  (z_max : PySem.W.nsIn K mainGlobals "max" = some none)
  (z_any : PySem.W.nsIn K mainGlobals "any" = some none)
  (z_dict : PySem.W.nsIn K mainGlobals "dict" = some none)
  (pg : PySem.W.plainGet K C Str.empty = true)
  (hd : PySem.W.hasDictIn K C = true)
  (po : PySem.W.plainOver K C = true)
  (sa : PySem.W.findIn K (.ref C) "__setattr__" = some (some (.builtin "object.__setattr__")))
  (mk : PySem.W.makesIn K C = true)
  (kc : PySem.W.keepIn K (.ref C) = true)
  (ga : PySem.W.specialIn K (.ref CB) "__getattribute__" = some (some (.builtin "type.__getattribute__")))
  (rd : PySem.W.readsIn K CB (.type "type") = true)
  (n_there : PySem.W.findIn K (.ref C) "there" = some none)
  (n_stamp : PySem.W.findIn K (.ref C) "stamp" = some none)
  (n_slack : PySem.W.findIn K (.ref C) "slack" = some none)
  (n_entries : PySem.W.findIn K (.ref C) "entries" = some none)
  (n_looks : PySem.W.findIn K (.ref C) "looks" = some none)
  (xCC : PySem.W.excIn K CC bmV "ValueError.__new__" = true)
  (xCN : PySem.W.excIn K CN bmV "ValueError.__new__" = true) :
  ∃ fd : FuncData, (∀ (s : Shared) (v : Value), BindsTo s fd ⟨[v], []⟩ [("script", v)]) ∧ ∀ base : Heap, K.In base → base.Ns mainGlobals mg → FnOk l.prog w K mg base CX0 8 fa fd ["script"] (spLaw K) := by
 have e := hfa.symm.trans (PySem.W.mg_of X G a_law)
 cases e
 have T : Bl mg := ⟨PySem.W.mg_none_of X G z_len, PySem.W.mg_none_of X G z_sum, PySem.W.mg_none_of X G z_abs, PySem.W.mg_none_of X G z_range, PySem.W.mg_none_of X G z_list, PySem.W.mg_none_of X G z_tuple, PySem.W.mg_none_of X G z_int, PySem.W.mg_none_of X G z_bool, PySem.W.mg_none_of X G z_sorted, PySem.W.mg_none_of X G z_isinstance⟩
 have Z_min := PySem.W.mg_none_of X G z_min
 have Z_max := PySem.W.mg_none_of X G z_max
 have Z_any := PySem.W.mg_none_of X G z_any
 have Z_dict := PySem.W.mg_none_of X G z_dict
 have L : LT K C := ⟨⟨⟨pg, hd, po, sa⟩, n_there, n_stamp⟩, n_slack, n_entries, n_looks⟩
 have mCC := PySem.W.mg_of X G aCC
 have mCN := PySem.W.mg_of X G aCN
 have mCB := PySem.W.mg_of X G aCB
 have mC := PySem.W.mg_of X G aC
 have F_exch := fun_mk (st := sExch) l_exch c_exch k_exch
 have B_exch := F_exch.binds (ps := ["heap", "place", "other"]) fun _ _ _ _ _ _ us hl => match us, hl with | [_, _, _], _ => rfl
 have D_exch : Nm K mg "exchange" f_exch _ ["heap", "place", "other"] := ⟨PySem.W.mg_of X G a_exch, k_exch, B_exch⟩
 have F_lift := fun_mk (st := sLift) l_lift c_lift k_lift
 have B_lift := F_lift.binds (ps := ["heap", "start"]) fun _ _ _ _ _ _ us hl => match us, hl with | [_, _], _ => rfl
 have D_lift : Nm K mg "lift" f_lift _ ["heap", "start"] := ⟨PySem.W.mg_of X G a_lift, k_lift, B_lift⟩
 have F_lay := fun_mk (st := sLay) l_lay c_lay k_lay
 have B_lay := F_lay.binds (ps := ["heap", "entry"]) fun _ _ _ _ _ _ us hl => match us, hl with | [_, _], _ => rfl
 have D_lay : Nm K mg "lay_in" f_lay _ ["heap", "entry"] := ⟨PySem.W.mg_of X G a_lay, k_lay, B_lay⟩
 have F_ld := fun_mk (st := sLetDown) l_ld c_ld k_ld
 have B_ld := F_ld.binds (ps := ["heap", "start"]) fun _ _ _ _ _ _ us hl => match us, hl with | [_, _], _ => rfl
 have D_ld : Nm K mg "let_down" f_ld _ ["heap", "start"] := ⟨PySem.W.mg_of X G a_ld, k_ld, B_ld⟩
 have F_cutf := fun_mk (st := sCut) l_cutf c_cutf k_cutf
 have B_cutf := F_cutf.binds (ps := ["heap"]) fun _ _ _ _ _ _ us hl => match us, hl with | [_], _ => rfl
 have D_cutf : Nm K mg "cut_first" f_cutf _ ["heap"] := ⟨PySem.W.mg_of X G a_cutf, k_cutf, B_cutf⟩
 have F_order := fun_mk (st := sOrder) l_order c_order k_order
 have B_order := F_order.binds (ps := ["heap"]) fun _ _ _ _ _ _ us hl => match us, hl with | [_], _ => rfl
 have D_order : Nm K mg "order" f_order _ ["heap"] := ⟨PySem.W.mg_of X G a_order, k_order, B_order⟩
 have F_ninit := fun_mk (st := sNInit) l_ninit c_ninit k_ninit
 have B_ninit := F_ninit.binds (ps := ["self"]) fun _ _ _ _ _ _ us hl => match us, hl with | [_], _ => rfl
 have M_ninit : ClsM K CB (.type "type") "__init__" f_ninit := ⟨ga, rd, a_ninit, k_ninit⟩
 have F_holds := fun_mk (st := sHolds) l_holds c_holds k_holds
 have B_holds := F_holds.binds (ps := ["self", "entry"]) fun _ _ _ _ _ _ us hl => match us, hl with | [_, _], _ => rfl
 have M_holds : Meth K C "holds" f_holds := ⟨a_holds, i_holds, k_holds⟩
 have F_need := fun_mk (st := sNeed) l_need c_need k_need
 have B_need := F_need.binds (ps := ["self", "name"]) fun _ _ _ _ _ _ us hl => match us, hl with | [_, _], _ => rfl
 have M_need : Meth K C "need" f_need := ⟨a_need, i_need, k_need⟩
 have F_free := fun_mk (st := sFree) l_free c_free k_free
 have B_free := F_free.binds (ps := ["self", "name"]) fun _ _ _ _ _ _ us hl => match us, hl with | [_, _], _ => rfl
 have M_free : Meth K C "need_free" f_free := ⟨a_free, i_free, k_free⟩
 have F_any := fun_mk (st := sAny) l_any c_any k_any
 have B_any := F_any.binds (ps := ["self"]) fun _ _ _ _ _ _ us hl => match us, hl with | [_], _ => rfl
 have M_any : Meth K C "need_any" f_any := ⟨a_any, i_any, k_any⟩
 have F_stamped := fun_mk (st := sStamped) l_stamped c_stamped k_stamped
 have B_stamped := F_stamped.binds (ps := ["self", "name", "worth"]) fun _ _ _ _ _ _ us hl => match us, hl with | [_, _, _], _ => rfl
 have M_stamped : Meth K C "stamped" f_stamped := ⟨a_stamped, i_stamped, k_stamped⟩
 have F_linit := fun_mk (st := sLInit) l_linit c_linit k_linit
 have B_linit := F_linit.binds (ps := ["self", "slack"]) fun _ _ _ _ _ _ us hl => match us, hl with | [_, _], _ => rfl
 have M_linit : Mk K C f_linit := ⟨mk, a_linit, i_linit, kc⟩
 have F_enter := fun_mk (st := sEnter) l_enter c_enter k_enter
 have B_enter := F_enter.binds (ps := ["self", "name", "worth"]) fun _ _ _ _ _ _ us hl => match us, hl with | [_, _, _], _ => rfl
 have M_enter : Meth K C "enter" f_enter := ⟨a_enter, i_enter, k_enter⟩
 have F_cut := fun_mk (st := sCut2) l_cut c_cut k_cut
 have B_cut := F_cut.binds (ps := ["self"]) fun _ _ _ _ _ _ us hl => match us, hl with | [_], _ => rfl
 have M_cut : Meth K C "cut" f_cut := ⟨a_cut, i_cut, k_cut⟩
 have F_sweep := fun_mk (st := sSweep) l_sweep c_sweep k_sweep
 have B_sweep := F_sweep.binds (ps := ["self"]) fun _ _ _ _ _ _ us hl => match us, hl with | [_], _ => rfl
 have M_sweep : Meth K C "sweep_if_due" f_sweep := ⟨a_sweep, i_sweep, k_sweep⟩
 have F_first := fun_mk (st := sFirst) l_first c_first k_first
 have B_first := F_first.binds (ps := ["self"]) fun _ _ _ _ _ _ us hl => match us, hl with | [_], _ => rfl
 have M_first : Meth K C "first_there" f_first := ⟨a_first, i_first, k_first⟩
 have F_put := fun_mk (st := sPutM) l_put c_put k_put
 have B_put := F_put.binds (ps := ["self", "name", "worth"]) fun _ _ _ _ _ _ us hl => match us, hl with | [_, _, _], _ => rfl
 have M_put : Meth K C "put" f_put := ⟨a_put, i_put, k_put⟩
 have F_change := fun_mk (st := sChangeM) l_change c_change k_change
 have B_change := F_change.binds (ps := ["self", "name", "worth"]) fun _ _ _ _ _ _ us hl => match us, hl with | [_, _, _], _ => rfl
 have M_change : Meth K C "change" f_change := ⟨a_change, i_change, k_change⟩
 have F_take2 := fun_mk (st := sTakeM) l_take2 c_take2 k_take2
 have B_take2 := F_take2.binds (ps := ["self"]) fun _ _ _ _ _ _ us hl => match us, hl with | [_], _ => rfl
 have M_take2 : Meth K C "take" f_take2 := ⟨a_take2, i_take2, k_take2⟩
 have F_many := fun_mk (st := sMany) l_many c_many k_many
 have B_many := F_many.binds (ps := ["self"]) fun _ _ _ _ _ _ us hl => match us, hl with | [_], _ => rfl
 have M_many : Meth K C "many" f_many := ⟨a_many, i_many, k_many⟩
 have F_exact := fun_mk (st := sExact) l_exact c_exact k_exact
 have B_exact := F_exact.binds (ps := ["row", "lengths"]) fun _ _ _ _ _ _ us hl => match us, hl with | [_, _], _ => rfl
 have D_exact : Nm K mg "is_exact" f_exact _ ["row", "lengths"] := ⟨PySem.W.mg_of X G a_exact, k_exact, B_exact⟩
 have F_nearer := fun_mk (st := sNearer) l_nearer c_nearer k_nearer
 have B_nearer := F_nearer.binds (ps := ["row", "lengths"]) fun _ _ _ _ _ _ us hl => match us, hl with | [_, _], _ => rfl
 have D_nearer : Nm K mg "is_nearer" f_nearer _ ["row", "lengths"] := ⟨PySem.W.mg_of X G a_nearer, k_nearer, B_nearer⟩
 have F_byfrom := fun_mk (st := sByFrom) l_byfrom c_byfrom k_byfrom
 have B_byfrom := F_byfrom.binds (ps := ["web"]) fun _ _ _ _ _ _ us hl => match us, hl with | [_], _ => rfl
 have D_byfrom : Nm K mg "by_from" f_byfrom _ ["web"] := ⟨PySem.W.mg_of X G a_byfrom, k_byfrom, B_byfrom⟩
 have F_going := fun_mk (st := sGoing) l_going c_going k_going
 have B_going := F_going.binds (ps := ["web", "first", "lengths"]) fun _ _ _ _ _ _ us hl => match us, hl with | [_, _, _], _ => rfl
 have D_going : Nm K mg "going_back" f_going _ ["web", "first", "lengths"] := ⟨PySem.W.mg_of X G a_going, k_going, B_going⟩
 have F_lshown := fun_mk (st := sLShown) l_lshown c_lshown k_lshown
 have B_lshown := F_lshown.binds (ps := ["web", "first", "lengths"]) fun _ _ _ _ _ _ us hl => match us, hl with | [_, _, _], _ => rfl
 have D_lshown : Nm K mg "lengths_shown" f_lshown _ ["web", "first", "lengths"] := ⟨PySem.W.mg_of X G a_lshown, k_lshown, B_lshown⟩
 have F_come := fun_mk (st := sCome) l_come c_come k_come
 have B_come := F_come.binds (ps := ["name", "length", "lengths", "heap"]) fun _ _ _ _ _ _ us hl => match us, hl with | [_, _, _, _], _ => rfl
 have D_come : Nm K mg "come_to" f_come _ ["name", "length", "lengths", "heap"] := ⟨PySem.W.mg_of X G a_come, k_come, B_come⟩
 have F_ways := fun_mk (st := sWays) l_ways c_ways k_ways
 have B_ways := F_ways.binds (ps := ["web", "lengths"]) fun _ _ _ _ _ _ us hl => match us, hl with | [_, _], _ => rfl
 have D_ways : Nm K mg "ways_of" f_ways _ ["web", "lengths"] := ⟨PySem.W.mg_of X G a_ways, k_ways, B_ways⟩
 have F_nearest := fun_mk (st := sNearest) l_nearest c_nearest k_nearest
 have B_nearest := F_nearest.binds (ps := ["web", "first"]) fun _ _ _ _ _ _ us hl => match us, hl with | [_, _], _ => rfl
 have D_nearest : Nm K mg "nearest" f_nearest _ ["web", "first"] := ⟨PySem.W.mg_of X G a_nearest, k_nearest, B_nearest⟩
 have F_number := fun_mk (st := sNumber) l_number c_number k_number
 have B_number := F_number.binds (ps := ["script", "k"]) fun _ _ _ _ _ _ us hl => match us, hl with | [_, _], _ => rfl
 have D_number : Nm K mg "_law_number" f_number _ ["script", "k"] := ⟨PySem.W.mg_of X G a_number, k_number, B_number⟩
 have F_wnames := fun_mk (st := sWNames) l_wnames c_wnames k_wnames
 have B_wnames := F_wnames.binds (ps := ["script", "start", "many"]) fun _ _ _ _ _ _ us hl => match us, hl with | [_, _, _], _ => rfl
 have D_wnames : Nm K mg "_law_names" f_wnames _ ["script", "start", "many"] := ⟨PySem.W.mg_of X G a_wnames, k_wnames, B_wnames⟩
 have F_order34 := fun_mk (st := sOrder34) l_order34 c_order34 k_order34
 have B_order34 := F_order34.binds (ps := ["number", "things"]) fun _ _ _ _ _ _ us hl => match us, hl with | [_, _], _ => rfl
 have D_order34 : Nm K mg "_law_order" f_order34 _ ["number", "things"] := ⟨PySem.W.mg_of X G a_order34, k_order34, B_order34⟩
 have F_planted := fun_mk (st := sPlanted) l_planted c_planted k_planted
 have B_planted := F_planted.binds (ps := ["script", "names", "far"]) fun _ _ _ _ _ _ us hl => match us, hl with | [_, _, _], _ => rfl
 have D_planted : Nm K mg "_law_planted" f_planted _ ["script", "names", "far"] := ⟨PySem.W.mg_of X G a_planted, k_planted, B_planted⟩
 have F_law := fun_mk (st := sLaw) l_law c_law k_law
 refine ⟨PySem.W.fnOf "law" "law" (defArgs sLaw) (defBody sLaw) (defScope sLaw) .none kV_law dc_law pm_law an_law cd_law ct_law, fun s v => .of_eq rfl, fun base _ _ => ?_⟩
 have G_exch := ok_exch (P := l.prog) (w := w) (base := base) F_exch T
 have G_lift := ok_lift (P := l.prog) (w := w) (base := base) F_lift T G_exch D_exch
 have G_lay := ok_lay (P := l.prog) (w := w) (base := base) F_lay T G_lift D_lift
 have G_ld := ok_letdown (P := l.prog) (w := w) (base := base) F_ld T G_exch D_exch
 have G_cutf := ok_cut (P := l.prog) (w := w) (base := base) F_cutf T G_ld D_ld
 have G_order := ok_order (P := l.prog) (w := w) (base := base) F_order T G_ld D_ld
 have G_ninit := ok_Named__init__ (P := l.prog) (w := w) (base := base) F_ninit T L.nt
 have G_holds := ok_holds (P := l.prog) (w := w) (base := base) F_holds T L.nt
 have G_need := ok_need (P := l.prog) (w := w) (base := base) F_need T L.nt mCN xCN
 have G_free := ok_need_free (P := l.prog) (w := w) (base := base) F_free T L.nt mCC xCC
 have G_any := ok_need_any (P := l.prog) (w := w) (base := base) F_any T L.nt mCN xCN
 have G_stamped := ok_stamped (P := l.prog) (w := w) (base := base) F_stamped T L.nt
 have G_linit := ok_Late__init__ (P := l.prog) (w := w) (base := base) F_linit T L mCB M_ninit G_ninit B_ninit
 have G_enter := ok_enter (P := l.prog) (w := w) (base := base) F_enter T L G_lay D_lay M_stamped G_stamped B_stamped
 have G_cut := ok_cut2 (P := l.prog) (w := w) (base := base) F_cut T L G_cutf D_cutf
 have G_sweep := ok_sweep (P := l.prog) (w := w) (base := base) F_sweep T L G_order D_order M_holds G_holds B_holds
 have G_first := ok_first_there (P := l.prog) (w := w) (base := base) F_first T L M_any G_any B_any M_holds G_holds B_holds M_cut G_cut B_cut
 have G_put := ok_put (P := l.prog) (w := w) (base := base) F_put T L M_free G_free B_free M_sweep G_sweep B_sweep M_enter G_enter B_enter
 have G_change := ok_change (P := l.prog) (w := w) (base := base) F_change T L M_need G_need B_need M_sweep G_sweep B_sweep M_enter G_enter B_enter
 have G_take2 := ok_take2 (P := l.prog) (w := w) (base := base) F_take2 T L M_first G_first B_first M_cut G_cut B_cut M_sweep G_sweep B_sweep
 have G_many := ok_many (P := l.prog) (w := w) (base := base) F_many T L.nt
 have G_exact := ok_exact (P := l.prog) (w := w) (base := base) F_exact T
 have G_nearer := ok_nearer (P := l.prog) (w := w) (base := base) F_nearer T
 have G_byfrom := ok_byfrom (P := l.prog) (w := w) (base := base) F_byfrom T
 have G_going := ok_going (P := l.prog) (w := w) (base := base) F_going T G_byfrom D_byfrom G_exact D_exact
 have G_lshown := ok_lshown (P := l.prog) (w := w) (base := base) F_lshown T Z_any G_going D_going G_nearer D_nearer
 have G_come := ok_come (P := l.prog) (w := w) (base := base) F_come T L M_put G_put B_put M_change G_change B_change
 have G_ways := ok_ways (P := l.prog) (w := w) (base := base) F_ways T Z_min G_exact D_exact
 have G_nearest := ok_nearest (P := l.prog) (w := w) (base := base) F_nearest T L mC M_linit G_linit B_linit M_put G_put B_put M_take2 G_take2 B_take2 M_many G_many B_many G_byfrom D_byfrom G_come D_come G_ways D_ways
 have G_number := ok_number (P := l.prog) (w := w) (base := base) F_number T Z_max Z_min
 have G_wnames := ok_wnames (P := l.prog) (w := w) (base := base) F_wnames T G_number D_number
 have G_order34 := ok_order34 (P := l.prog) (w := w) (base := base) F_order34 T
 have G_planted := ok_planted (P := l.prog) (w := w) (base := base) F_planted T Z_max G_number D_number
 exact ok_law F_law T Z_min Z_dict G_number D_number G_wnames D_wnames G_planted D_planted G_order34 D_order34 G_nearest D_nearest G_lshown D_lshown
theorem walk {l : PySem.W.OpenLaw} {q : Program} {loose : List Str} {XP : (Str → Option Value) → Heap → Prop} {YP : World → Heap → Prop} {d : DefRec} {K : Params → PySem.W.Frag} (hn : l.most = some 63) (hdf : d.params.defaults = [])
  (hY : ∀ (w : World) (h : Heap), YP w h → (K w.params).In h)
  (F : ∀ (w : World) (mg : Str → Option Value) (fa : Addr) (h : Heap), (K w.params).In h → h.Ns mainGlobals mg → mg d.name = some (.ref fa) →
   ∃ fd : FuncData, (∀ (s : Shared) (u : Value), BindsTo s fd ⟨[u], []⟩ [("script", u)]) ∧ ∀ base : Heap, (K w.params).In base → base.Ns mainGlobals mg → FnOk l.prog w (K w.params) mg base CX0 8 fa fd ["script"] (spLaw (K w.params))) :
  PySem.W.WalkO q loose XP YP l.row.toRowW d [] (fun f vs => PySem.call f vs) :=
 L2.walk_of (n := 63) (k := 8) (x := "script") (CX := fun _ => CX0) (sp := fun w => spLaw (K w.params)) hn (by decide) hdf ⟨rfl, by decide, by decide⟩ hY F (fun _ _ a ns hl _ hS => ⟨a, ns, rfl, hS, hl, fun _ => rfl⟩) fun _ _ _ _ _ z => z
end
end Kx
end
section
set_option linter.all false
open PySem PySem.W PyProof.Rows
set_option maxRecDepth 100000 in
set_option maxHeartbeats 0 in
theorem PySem.Challenge.cw_lategone_k34_whole_planted_ways_holds : PySem.Challenge.rw_lategone_k34_whole_planted_ways.Holds := by
 w_on; o_law; k_head; (case hw => w_witness2)
 k_fill
 refine Kx.walk (l := PySem.Challenge.rw_lategone_k34_whole_planted_ways) rfl rfl (fun w h Y => PySem.W.kIn_of Y) ?F
 case F =>
  intro w mg fa h KX G hmg
  refine' Kx.all_mk KX G hmg ?aC ?aCB ?aCC ?aCN ?a_exch ?l_exch ?c_exch ?k_exch ?a_lift ?l_lift ?c_lift ?k_lift ?a_lay ?l_lay ?c_lay ?k_lay ?a_ld ?l_ld ?c_ld ?k_ld ?a_cutf ?l_cutf ?c_cutf ?k_cutf ?a_order ?l_order ?c_order ?k_order ?a_ninit ?l_ninit ?c_ninit ?k_ninit ?a_holds ?i_holds ?l_holds ?c_holds ?k_holds ?a_need ?i_need ?l_need ?c_need ?k_need ?a_free ?i_free ?l_free ?c_free ?k_free ?a_any ?i_any ?l_any ?c_any ?k_any ?a_stamped ?i_stamped ?l_stamped ?c_stamped ?k_stamped ?a_linit ?i_linit ?l_linit ?c_linit ?k_linit ?a_enter ?i_enter ?l_enter ?c_enter ?k_enter ?a_cut ?i_cut ?l_cut ?c_cut ?k_cut ?a_sweep ?i_sweep ?l_sweep ?c_sweep ?k_sweep ?a_first ?i_first ?l_first ?c_first ?k_first ?a_put ?i_put ?l_put ?c_put ?k_put ?a_change ?i_change ?l_change ?c_change ?k_change ?a_take2 ?i_take2 ?l_take2 ?c_take2 ?k_take2 ?a_many ?i_many ?l_many ?c_many ?k_many ?a_exact ?l_exact ?c_exact ?k_exact ?a_nearer ?l_nearer ?c_nearer ?k_nearer ?a_byfrom ?l_byfrom ?c_byfrom ?k_byfrom ?a_going ?l_going ?c_going ?k_going ?a_lshown ?l_lshown ?c_lshown ?k_lshown ?a_come ?l_come ?c_come ?k_come ?a_ways ?l_ways ?c_ways ?k_ways ?a_nearest ?l_nearest ?c_nearest ?k_nearest ?a_number ?l_number ?c_number ?k_number ?a_wnames ?l_wnames ?c_wnames ?k_wnames ?a_order34 ?l_order34 ?c_order34 ?k_order34 ?a_planted ?l_planted ?c_planted ?k_planted ?a_law ?l_law ?c_law ?k_law ?z_len ?z_sum ?z_abs ?z_range ?z_list ?z_tuple ?z_int ?z_bool ?z_sorted ?z_isinstance ?z_min ?z_max ?z_any ?z_dict ?pg ?hd ?po ?sa ?mk ?kc ?ga ?rd ?n_there ?n_stamp ?n_slack ?n_entries ?n_looks ?xCC ?xCN
  (case aC => k_is)
  (case aCB => k_is)
  (case aCC => k_is)
  (case aCN => k_is)
  (case a_exch => k_is)
  (case l_exch => k_is)
  (case c_exch => k_is)
  (case k_exch => k_is)
  (case a_lift => k_is)
  (case l_lift => k_is)
  (case c_lift => k_is)
  (case k_lift => k_is)
  (case a_lay => k_is)
  (case l_lay => k_is)
  (case c_lay => k_is)
  (case k_lay => k_is)
  (case a_ld => k_is)
  (case l_ld => k_is)
  (case c_ld => k_is)
  (case k_ld => k_is)
  (case a_cutf => k_is)
  (case l_cutf => k_is)
  (case c_cutf => k_is)
  (case k_cutf => k_is)
  (case a_order => k_is)
  (case l_order => k_is)
  (case c_order => k_is)
  (case k_order => k_is)
  (case a_ninit => k_is)
  (case l_ninit => k_is)
  (case c_ninit => k_is)
  (case k_ninit => k_is)
  (case a_holds => k_is)
  (case i_holds => k_is)
  (case l_holds => k_is)
  (case c_holds => k_is)
  (case k_holds => k_is)
  (case a_need => k_is)
  (case i_need => k_is)
  (case l_need => k_is)
  (case c_need => k_is)
  (case k_need => k_is)
  (case a_free => k_is)
  (case i_free => k_is)
  (case l_free => k_is)
  (case c_free => k_is)
  (case k_free => k_is)
  (case a_any => k_is)
  (case i_any => k_is)
  (case l_any => k_is)
  (case c_any => k_is)
  (case k_any => k_is)
  (case a_stamped => k_is)
  (case i_stamped => k_is)
  (case l_stamped => k_is)
  (case c_stamped => k_is)
  (case k_stamped => k_is)
  (case a_linit => k_is)
  (case i_linit => k_is)
  (case l_linit => k_is)
  (case c_linit => k_is)
  (case k_linit => k_is)
  (case a_enter => k_is)
  (case i_enter => k_is)
  (case l_enter => k_is)
  (case c_enter => k_is)
  (case k_enter => k_is)
  (case a_cut => k_is)
  (case i_cut => k_is)
  (case l_cut => k_is)
  (case c_cut => k_is)
  (case k_cut => k_is)
  (case a_sweep => k_is)
  (case i_sweep => k_is)
  (case l_sweep => k_is)
  (case c_sweep => k_is)
  (case k_sweep => k_is)
  (case a_first => k_is)
  (case i_first => k_is)
  (case l_first => k_is)
  (case c_first => k_is)
  (case k_first => k_is)
  (case a_put => k_is)
  (case i_put => k_is)
  (case l_put => k_is)
  (case c_put => k_is)
  (case k_put => k_is)
  (case a_change => k_is)
  (case i_change => k_is)
  (case l_change => k_is)
  (case c_change => k_is)
  (case k_change => k_is)
  (case a_take2 => k_is)
  (case i_take2 => k_is)
  (case l_take2 => k_is)
  (case c_take2 => k_is)
  (case k_take2 => k_is)
  (case a_many => k_is)
  (case i_many => k_is)
  (case l_many => k_is)
  (case c_many => k_is)
  (case k_many => k_is)
  (case a_exact => k_is)
  (case l_exact => k_is)
  (case c_exact => k_is)
  (case k_exact => k_is)
  (case a_nearer => k_is)
  (case l_nearer => k_is)
  (case c_nearer => k_is)
  (case k_nearer => k_is)
  (case a_byfrom => k_is)
  (case l_byfrom => k_is)
  (case c_byfrom => k_is)
  (case k_byfrom => k_is)
  (case a_going => k_is)
  (case l_going => k_is)
  (case c_going => k_is)
  (case k_going => k_is)
  (case a_lshown => k_is)
  (case l_lshown => k_is)
  (case c_lshown => k_is)
  (case k_lshown => k_is)
  (case a_come => k_is)
  (case l_come => k_is)
  (case c_come => k_is)
  (case k_come => k_is)
  (case a_ways => k_is)
  (case l_ways => k_is)
  (case c_ways => k_is)
  (case k_ways => k_is)
  (case a_nearest => k_is)
  (case l_nearest => k_is)
  (case c_nearest => k_is)
  (case k_nearest => k_is)
  (case a_number => k_is)
  (case l_number => k_is)
  (case c_number => k_is)
  (case k_number => k_is)
  (case a_wnames => k_is)
  (case l_wnames => k_is)
  (case c_wnames => k_is)
  (case k_wnames => k_is)
  (case a_order34 => k_is)
  (case l_order34 => k_is)
  (case c_order34 => k_is)
  (case k_order34 => k_is)
  (case a_planted => k_is)
  (case l_planted => k_is)
  (case c_planted => k_is)
  (case k_planted => k_is)
  (case a_law => k_is)
  (case l_law => k_is)
  (case c_law => k_is)
  (case k_law => k_is)
  (case z_len => k_is)
  (case z_sum => k_is)
  (case z_abs => k_is)
  (case z_range => k_is)
  (case z_list => k_is)
  (case z_tuple => k_is)
  (case z_int => k_is)
  (case z_bool => k_is)
  (case z_sorted => k_is)
  (case z_isinstance => k_is)
  (case z_min => k_is)
  (case z_max => k_is)
  (case z_any => k_is)
  (case z_dict => k_is)
  (case pg => k_is)
  (case hd => k_is)
  (case po => k_is)
  (case sa => k_is)
  (case mk => k_is)
  (case kc => k_is)
  (case ga => k_is)
  (case rd => k_is)
  (case n_there => k_is)
  (case n_stamp => k_is)
  (case n_slack => k_is)
  (case n_entries => k_is)
  (case n_looks => k_is)
  (case xCC => k_exc)
  (case xCN => k_exc)
#print axioms PySem.Challenge.cw_lategone_k34_whole_planted_ways_holds
end
